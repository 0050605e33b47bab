import PyProof.Rows.All
import Wide.All
import OpenK.AllK
import Wide.FinOn
import HandS.ForMost
import HandS.ForExc
import HandS.ExcInit
import HandS.ExcIs
import HandS.Star
import HandS.ClsMeth
import HandS.More
import HandS.RaiseMore
import HandS.Defaults
import HandS.Head0
import HandS.Head1
import HandS.Head2
import HandS.HeadEnd
import HandS.HeadHook1
import HandS.HeadHook2
import HandS.Lambda
import HandS.EndTab
import HandS.HeadHook4
import HandS.IsInst
import KE.KTypeName
import KE.DataMinMax
import HandS.SortKw
import HandS.SlotsOwn
import HandS.OwnEq
import HandS.FStr
import KE.KFmtOwn
import KE.KOpsOwn
import HandS.ForSpec
import HandS.Walk
import HandS.Text
import HandS.WordsExc
import KE.KCallOwn
import KE.GoesEnum
import HandS.MakeKw
import HandS.TryOnly
import HandS.ExcField
import HandS.MakeKwOnly
import PyProof.EqAt
import PyProof.NeKinds
import OpenK.KOps
import HandS.Set
import HandS.SetKeys
import HandS.TupSets
import PyProof.Rows.SetFrom
import HandS.Strs
import HandS.SetFor
import PyProof.Rows.SortShellAny
import HandS.Iter
import HandS.DictComp
import PyProof.EqKinds
import PyProof.CallStr
import PySem.Challenge.RW_anypads_k01_kinds_bytes_and_uses_made
set_option Elab.async false
set_option linter.all false
set_option maxRecDepth 100000
set_option maxHeartbeats 4000000
/-! Errors as values: own exception classes whose own __init__ calls that of a base off its class. -/
namespace Ev
open PySem PySem.Spec PyProof.Rows L2

section
variable {X : Cx} {pins : List (Addr × Obj)} {σ : L2.St} {H H1 : Hp} {s : Shared} {C fI : Addr} {CX : CXT} {k : Nat} {sp : Sp} {E : XK} {Q : VK}
/-- the class at C is called: the new error stays tracked -/
theorem run_mk {us : List Value} {vs : List V} (T : OexC X.K C)
    (iC : PySem.W.findIn X.K (.ref C) "__init__" = some (some (.ref fI)))
    (tI : PySem.W.typeIn X.K (.ref fI) = some (.type "function"))
    (FR : FnR X.prog X.w X.K X.mg X.base CX k fI sp) (hr : Room (k + 1) X.A) (hx : Passes CX X E)
    (I1 : Inv X pins σ H1 s) (r1 : Vals vs us) (hz : vs.length ≤ 1000)
    (q1 : ∀ a, H1 a = none → sp (.ref a :: vs) (upd H1 a (exo a C none)) (fun v H2 => v = .non ∧ Q (.ref a) H2) E) :
    wpAny (model X.prog X.w) X.A (call (.ref C) us) (EP X pins σ Q) X.xe s := by
  obtain ⟨x1, x2, x3, x4, x5, x6, x7, x8, x9, x10, x11, y0, y1, y2, y3, hC, hbm⟩ := T.cls
  obtain ⟨hp, g, dr, tk, os⟩ := s
  have hs1 : hp.objs.size ≤ hp.objs.size + 1 := Nat.le_succ _
  have hn : H1 (hp.objs.size + 1) = none := I1.hok.fresh hs1
  have hq := q1 (hp.objs.size + 1) hn
  have up : ∀ b o, hp.get? b = some o →
      ((hp.push (PySem.W.kdv_tup us)).push (PySem.HandSPX.excO C hp.objs.size)).get? b = some o :=
    fun b o e => Heap.get?_push_of_some _ (Heap.get?_push_of_some _ e)
  have here : ((hp.push (PySem.W.kdv_tup us)).push (PySem.HandSPX.excO C hp.objs.size)).get? (hp.objs.size + 1)
      = some (PySem.HandSPX.excO C hp.objs.size) := by heap_get
  have I2 : Inv X pins σ (upd H1 (hp.objs.size + 1) (exo (hp.objs.size + 1) C none))
      ⟨(hp.push (PySem.W.kdv_tup us)).push (PySem.HandSPX.excO C hp.objs.size), g, dr, tk, os⟩ :=
    I1.laid (t' := tk) (a := hp.objs.size + 1) (o := exo (hp.objs.size + 1) C none)
      (h' := (hp.push (PySem.W.kdv_tup us)).push (PySem.HandSPX.excO C hp.objs.size)) up hs1 (exo_ok here)
  have r2 : Vals (V.ref (hp.objs.size + 1) :: vs) (Value.ref (hp.objs.size + 1) :: us) := .cons rfl r1
  have hus : us.length ≤ sizeLine := by
    rw [← Paired.length r1, sizeLine_eq]; omega
  refine wpAny_call (PySem.HandSPX.call_own PySem.F.excBase_ValueError (fun Y => PySem.HandSPX.refsVE_contains Y x5 hbm)
    (I1.kIn _ _ hC) (PySem.W.looks_findIn I1.kIn iC) (fun self => PySem.W.bind_fn I1.kIn self tI) hus
    (codeAny_mono (FR _ X.stack _ _ (Value.ref (hp.objs.size + 1) :: us) _ _ E (hr.make C us [])
      (I2.env0.make C us []) r2 hq) fun r s' z => ?_))
  cases r with
  | error er => exact hx pins σ _ _ er s' I2 z
  | ok fl =>
    cases fl with
    | ret u =>
      obtain ⟨v, H', I3, rv, ev, q3⟩ := I2.after z
      subst ev
      exact ⟨rv, V.ref (hp.objs.size + 1), H', I3, rfl, q3⟩
    | next => exact False.elim z
    | brk => exact False.elim z
    | cont => exact False.elim z
end

/-- C(e, ..) as a value -/
def tMk (C : Addr) (sp : Sp) (E : XK) (ta : TA) : TE := fun σ H Q => ta σ H fun vs H1 => vs.length ≤ 1000 ∧
  ∀ a, H1 a = none → sp (.ref a :: vs) (upd H1 a (exo a C none)) (fun v H2 => v = .non ∧ Q (.ref a) H2) E
/-- o.m(e, ..), o a class of one's own, m a def of it -/
def tOff (C0 : Addr) (sp : Sp) (E : XK) (to : TE) (ta : TA) : TE := fun σ H Q => to σ H fun x H1 => x = .ref C0 ∧
  ta σ H1 fun vs H2 => sp vs H2 Q E
section
variable {X : Cx} {CX : CXT} {k : Nat} {C C0 fI f0 : Addr} {mc : Value} {sp : Sp} {E : XK} {x m : Str} {o e : Expr} {es : List Expr}
  {p pos apos : Pos} {to : TE} {ta : TA} {pl : Sem Bool}
theorem pe_mk (T : OexC X.K C) (iC : PySem.W.findIn X.K (.ref C) "__init__" = some (some (.ref fI)))
    (tI : PySem.W.typeIn X.K (.ref fI) = some (.type "function")) (FR : FnR X.prog X.w X.K X.mg X.base CX k fI sp)
    (hr : Room (k + 1) X.A) (hx : Passes CX X E) (hg : Gl X x) (hm : X.mg x = some (.ref C)) (ha : PA X (e :: es) ta)
    (hdb : (x == ("__debug__" : Str)) = false := by decide)
    (he : starEach (e :: es) X.env = (false, eval e X.env) :: starEach es X.env := by rfl)
    (hpl : (backTo pos (starEach es X.env)).any (·.1) = false := by rfl) :
    PE X (.Call (.Name x p) (e :: es) [] pos) (tMk C sp E ta) := by
  refine ⟨fun pins s σ H Q I h => wpAny_Call_Name_kw (ld_glob I hg hm ?_ hdb)⟩
  refine PySem.W.callWith_K (h₀ := X.base) I.ok.mod.kin T.kC
    (thn (ha.run pos pins s σ H _ I h) fun us s1 ⟨vs, H1, I1, r1, hz, q1⟩ => ⟨I1.kIn, ?_⟩) he hpl
  exact run_mk T iC tI FR hr hx I1 r1 hz q1
theorem pe_mk0 (T : OexC X.K C) (iC : PySem.W.findIn X.K (.ref C) "__init__" = some (some (.ref fI)))
    (tI : PySem.W.typeIn X.K (.ref fI) = some (.type "function")) (FR : FnR X.prog X.w X.K X.mg X.base CX k fI sp)
    (hr : Room (k + 1) X.A) (hx : Passes CX X E) (hg : Gl X x) (hm : X.mg x = some (.ref C))
    (hdb : (x == ("__debug__" : Str)) = false := by decide) :
    PE X (.Call (.Name x p) [] [] pos) (tMk C sp E tNil) := by
  refine ⟨fun pins s σ H Q I h => wpAny_Call_Name_kw (ld_glob I hg hm ?_ hdb)⟩
  exact PySem.W.callWith_K0 I.kIn T.kC (run_mk (us := []) T iC tI FR hr hx I .nil h.1 h.2)
theorem pe_off (he : PE X o to) (r : ClX.CRead X.K C0 mc) (hf : PySem.W.findCls X.K (.ref C0) mc m = some (.val (.ref f0)))
    (FR : FnR X.prog X.w X.K X.mg X.base CX k f0 sp) (hr : Room k X.A) (kf : PySem.W.keepIn X.K (.ref f0) = true)
    (hx : Passes CX X E) (ha : PA X (e :: es) ta)
    (hst : starEach (e :: es) X.env = (false, eval e X.env) :: starEach es X.env := by rfl)
    (hpl : (backTo pos (starEach es X.env)).any (·.1) = false := by rfl)
    (ht : eval (.Call (.Attribute o m apos) (e :: es) [] pos) X.env = (eval o X.env >>= fun ov => standAt apos.atName >>= fun _ =>
      holding [ov] (getMethod ov m pl) >>= fun q => callWith pos q.1 q.2 (backTo pos (starEach (e :: es) X.env))
        (backToKw pos (keywordEach [] X.env))) := by rfl) :
    PE X (.Call (.Attribute o m apos) (e :: es) [] pos) (tOff C0 sp E to ta) := by
  refine ⟨fun pins s σ H Q I h => PySem.W.methodCall_KW (pl := pl)
    (thn (he.run pins s σ H _ I h) fun u s1 ⟨y, H1, I1, ry, ey, q⟩ => ?_) ht⟩
  subst ey
  obtain rfl : u = Value.ref C0 := ry
  refine PySem.W.method_cls I1.kIn r.ga (PySem.W.cls_value I1.kIn r.rd hf rfl ?_)
  refine PySem.W.callWith_K (first := []) (h₀ := X.base) I1.ok.mod.kin kf
    (thn (ha.run pos pins _ σ H1 _ (I1.tok _) q) fun us s2 ⟨vs, H2, I2, rv, q2⟩ => ⟨I2.kIn, ?_⟩) hst hpl
  exact wpAny_call (run_fnR FR hr hx I2 rv q2)
end
end Ev
set_option Elab.async false
set_option linter.all false
set_option maxRecDepth 100000
set_option maxHeartbeats 4000000
/-! Errors as values, further: a field read off an error, isinstance of one, repr of data. -/
namespace Ev
open PySem PySem.Spec PyProof.Rows L2
/-! ### where an error and its dict stand -/
section
variable {P : Program} {w : World} {H : Hp} {h : Heap} {a C d : Addr} {fs : List (Str × V)}
theorem err_inst (hok : HOk P w H h) (ea : H a = some (exo a C (some d))) (ed : H d = some (exd d fs)) :
    ∃ (oe od : Obj) (mA : Str → Option Value), PySem.W.InstAt h a oe C (some od) ∧ (∀ y, PySem.W.lookIn y od = some (mA y)) ∧ ∀ f, RelO (fs.lookup f) (mA f) := by
  obtain ⟨t0, ho⟩ := exo_at hok ea
  obtain ⟨mA, hns, rel⟩ := exd_at hok ed
  obtain ⟨od, hd, hl⟩ := lookIn_ns hns
  exact ⟨_, od, mA, ⟨ho, rfl, rfl, hd⟩, hl, rel⟩
end
/-! ### e.f -/
def tErr (K : PySem.W.Frag) (ta : TE) (f : Str) : TE := fun σ H Q => ta σ H fun x H1 => ∃ (a C d : Addr) (fs : List (Str × V)) (v : V), x = .ref a ∧
  ExcC K C ∧ PySem.W.findIn K (.ref C) f = some none ∧ H1 a = some (exo a C (some d)) ∧ H1 d = some (exd d fs) ∧ fs.lookup f = some v ∧ Q v H1
section
variable {X : Cx} {e : Expr} {te : TE} {f : Str} {pos : Pos}
theorem pe_err (he : PE X e te) (hb : attributeBase e f X.env (eval e X.env) = eval e X.env := by rfl) : PE X (.Attribute e f pos) (tErr X.K te f) := by
  refine ⟨fun pins s σ H Q I h => attr_of hb (thn (he.run pins s σ H _ I h) fun u s1 z => ?_)⟩
  obtain ⟨x, H1, I1, rx, a, C, d, fs, v, ex, T, no, ea, ed, l, q⟩ := z
  subst ex
  obtain rfl : u = Value.ref a := rx
  obtain ⟨oe, od, mA, J, hl, rel⟩ := err_inst I1.hok ea ed
  obtain ⟨u, hu, ru⟩ := RelO.some_of (v := v) (o := mA f) (by rw [← l]; exact rel f)
  exact PySem.HandSPX.exc_get I1.kIn J T.hg T.hk T.hs (PySem.W.findObj_own T.hd no rfl (by rw [hl, hu])) (handed_of ru) ⟨v, H1, I1.tok _, ru, q⟩
end
/-! ### isinstance(e, C) -/
section
open PySem.W
variable {prog : Program} {w : World} {A : Around} {E : Value → Shared → Prop} {s : Shared} {K : Frag} {x D : Addr} {ox : Obj} {od : Option Obj}
theorem find_cls (c : ExcC K D) : findObj K D od "__class__" = some (.bind (.builtin "getset_descriptor.__get__") (.builtin "object.__class__")) := by
  obtain ⟨cd, hc, _⟩ := any_some c.hd
  have h1 := c.ha; have h2 := c.hn; have h3 := c.ht
  unfold findObj
  rw [hc, Option.bind_some, h1, Option.bind_some]
  simp [h2, h3]
theorem cls_read {Q : Option Value → Shared → Prop} (c : ExcC K D) (X : K.In s.heap) (I : PySem.W.InstAt s.heap x ox D od)
    (h : Q (some (.ref D)) { s with toks := s.toks + 1 }) : wpAny (model prog w) A (getAttr? (.ref x) "__class__") Q E s := by
  obtain ⟨hp, g, dr, tk, os⟩ := s
  have z0 := I.type (M := model prog w)
  have z1 := looks_findIn (M := model prog w) X c.hg
  have z2 := looks_findIn (M := model prog w) X c.hk
  have z3 := looks_find (M := model prog w) X I (find_cls c)
  have sb : Looks (model prog w) hp (isInstance (.ref x) (.type "BaseException")) true := z0.andThen (looks_subIn X c.hs)
  have n0 : (false && onTheHeap (Value.builtin "BaseException.__getattribute__")) = false := rfl
  have n2 : (Value.builtin "BaseException.__getattribute__" == Value.builtin "object.__getattribute__") = false := by decide +kernel
  have n1 : (onTheHeap (Value.ref D) && Value.builtin "BaseException.__getattribute__" == Value.builtin "object.__getattribute__") = false := by
    rw [n2]; rfl
  unfold getAttr? getAttrBy? getAttrBy
  refine wpAny_bind (wpAny_mkText (wpAny_bind (wpAny_attempt (wpAny_holding (wpAny_bind (z0.at (wpAny_bind (z1.at ?_))))))))
  show wpAny _ _ (if (onTheHeap (Value.ref D) && Value.builtin "BaseException.__getattribute__" == Value.builtin "object.__getattribute__") = true then _ else _) _ _ _
  rw [n1, if_neg Bool.false_ne_true]
  unfold getAttrByItsOwn hookBefore
  refine wpAny_bind ?_
  rw [if_pos (show onTheHeap (Value.ref D) = true from rfl)]
  refine z2.at (wpAny_bind (wpAny_attempt (wpAny_holding ?_)))
  unfold callGetattribute
  rw [n0, if_neg Bool.false_ne_true]
  unfold boundAndCalled
  rw [PySem.F.excAttr_ValueError.ga.bind (.ref x)]
  refine wpAny_bind (wpAny_pure ?_)
  show wpAny _ _ (call (.builtin "BaseException.__getattribute__") [.ref x, .str "__class__" tk]) _ _ _
  refine wpAny_call (codeAny_call_builtin PySem.F.excAttr_ValueError.ga.plain PySem.F.entry_bexc_ga
    (@check_slot (model prog w) _ _ ⟨hp, g, dr, tk + 1, os⟩ "BaseException.__getattribute__" "BaseException" "__getattribute__" (.ref x) [.str "__class__" tk] [] _
      (by decide +kernel) (by decide +kernel) sb (PySem.F.args_bexc_ga (.ref x) (.str "__class__" tk)) ?_))
  unfold Builtin.«object.__getattribute__»
  refine wpAny_bind (wpAny_of_eq (a := ((Value.ref x : Value), [Value.str "__class__" tk])) (by first | rfl | (simp only [slotArgs]; rfl)) ?_)
  refine wpAny_bind (wpAny_pure (wpAny_bind (z0.at (wpAny_bind (z3.at ?_)))))
  show wpAny _ _ (holding [Value.builtin "object.__class__"] (call (.builtin "getset_descriptor.__get__") [.builtin "object.__class__", .ref x, .ref D]) >>= ret) _ _ _
  refine wpAny_bind (wpAny_holding (wpAny_call (class_get (s := ⟨hp, g, dr, tk + 1, os⟩) (ox := ox) (od := od) X I c.hm (wpAny_pure ?_))))
  show wpAny _ _ (handedOut (.ref D)) _ _ _
  rw [handedOut_of (v := .ref D) rfl]
  first
    | exact wpAny_pure (wpAny_pure h)
    | exact wpAny_pure h
    | exact wpAny_pure (wpAny_bind (wpAny_pure (wpAny_pure h)))
theorem kit_err (c : ExcC K D) : KitX K (.ref x) (.ref D) (fun h => PySem.W.InstAt h x ox D od) := by
  have k : ∃ c' d' cd' sl', K.lookup D = some ⟨c', d', .cls cd', sl'⟩ := by
    obtain ⟨cd, hc, _⟩ := any_some c.hd
    unfold clsIn at hc
    split at hc
    · rename_i c' d' cd' sl' ho
      exact ⟨c', d', cd', sl', ho⟩
    · cases hc
  obtain ⟨c', d', cd', sl', ho⟩ := k
  refine ⟨fun _ _ _ I => I.type, fun _ _ X _ A' Q' E' s' kp q => ?_, fun h tp dd its n sl X ht => Bool.eq_false_iff.mpr fun q => ?_, fun X I q => cls_read c X I q⟩
  · unfold isType loadHead
    exact wpAny_bind (wpAny_loadPart (kp _ _ (X _ _ ho)) (wpAny_pure q))
  · have e : D = tp := Value.ref.inj (beq_iff_eq.mp q)
    subst e
    cases (X _ _ ho).symm.trans ht
end
/-- isinstance(e, c), e an error of the class at D -/
def rIsV (K : PySem.W.Frag) : List V → Hp → VK → Prop := fun xs H Q => ∃ (a D d : Addr) (fs : List (Str × V)) (c : V) (cv : Value) (b : Bool), xs = [.ref a, c] ∧ ExcC K D ∧
  H a = some (exo a D (some d)) ∧ H d = some (exd d fs) ∧ (∀ u, RelV c u → u = cv) ∧ PySem.W.kitOne K (.ref D) cv = some b ∧ Q (.bl b) H
theorem call_isV {X : Cx} : CallR X (.builtin "isinstance") (rIsV X.K) := by
  intro pins s σ H xs us Q I r h
  obtain ⟨a, D, d, fs, c, cv, b, rfl, T, ea, ed, hcv, e, q⟩ := h
  obtain ⟨oe, od, mA, J, hl, rel⟩ := err_inst I.hok ea ed
  cases r with
  | cons rx rr => cases rr with
    | cons rt rr =>
      cases rr
      cases rx
      have ec := hcv _ rt
      subst ec
      exact PySem.W.kia_one (kit_err T) I.kIn J e (fun z => nomatch z) fun tk => ⟨.bl b, H, I.kept (t' := tk) fun _ _ z => z, rfl, q⟩
/-- isinstance(e, (c1, c2, ..)) -/
def rIsW (K : PySem.W.Frag) : List V → Hp → VK → Prop := fun xs H Q => ∃ (a D d tp : Addr) (fs : List (Str × V)) (cs : List V) (cvs : List Value) (b : Bool), xs = [.ref a, .ref tp] ∧ ExcC K D ∧
  H a = some (exo a D (some d)) ∧ H d = some (exd d fs) ∧ SqT K H tp cs ∧ (∀ us, Vals cs us → us = cvs) ∧ PySem.W.kitAny K (.ref D) cvs = some b ∧ Q (.bl b) H
theorem call_isW {X : Cx} : CallR X (.builtin "isinstance") (rIsW X.K) := by
  intro pins s σ H xs us Q I r h
  obtain ⟨a, D, d, tp, fs, cs, cvs, b, rfl, T, ea, ed, ht, hcv, e, q⟩ := h
  obtain ⟨oe, od, mA, J, hl, rel⟩ := err_inst I.hok ea ed
  obtain ⟨its, rv, ⟨o, ho, hc, n, hd⟩, hz⟩ := I.tuple ht
  have ei := hcv _ rv
  subst ei
  obtain ⟨oc, odi, oda, osl⟩ := o
  dsimp only at hc hd
  subst hc hd
  cases r with
  | cons rx rr => cases rr with
    | cons rt rr =>
      cases rr
      cases rx
      cases rt
      exact PySem.W.kia_tup (kit_err T) I.kIn J ho e (fun z => nomatch z) fun tk => ⟨.bl b, H, I.kept (t' := tk) fun _ _ z => z, rfl, q⟩
end Ev
set_option Elab.async false
set_option linter.all false
set_option maxRecDepth 100000
set_option maxHeartbeats 4000000
/-! repr of data: None, bools, ints, texts, lists, tuples, dicts by text and int keys, one in another. -/
namespace Ev
open PySem PySem.Spec PyProof.Rows L2
def keyD : Key → PyData
  | .inl i => .int i
  | .inr x => .str x
mutual
inductive Dr (K : PySem.W.Frag) (H : Hp) : V → PyData → Prop
  | non : Dr K H .non .none
  | bl (b : Bool) : Dr K H (.bl b) (.bool b)
  | int (i : Int) : Dr K H (.int i) (.int i)
  | str (x : Str) : Dr K H (.str x) (.str x)
  | lst {a : Addr} {xs : List V} {ds : List PyData} : SqL K H a xs → DrAll K H xs ds → Dr K H (.ref a) (.list ds)
  | tup {a : Addr} {xs : List V} {ds : List PyData} : SqT K H a xs → DrAll K H xs ds → Dr K H (.ref a) (.tuple ds)
  | dct {a : Addr} {kvs : List (Key × V)} {ds : List PyData} : Rd H a (.dK kvs) → DrAll K H (kvs.map (·.2)) ds →
      Dr K H (.ref a) (.dict ((kvs.map fun p => keyD p.1).zip ds))
inductive DrAll (K : PySem.W.Frag) (H : Hp) : List V → List PyData → Prop
  | nil : DrAll K H [] []
  | cons {v : V} {vs : List V} {d : PyData} {ds : List PyData} : Dr K H v d → DrAll K H vs ds → DrAll K H (v :: vs) (d :: ds)
end
theorem same_seqT {K : PySem.W.Frag} {H H' : Hp} {a : Addr} {xs : List V} (S : Same H H') (h : SqT K H a xs) : SqT K H' a xs := by
  rcases h with (h | ⟨o, h⟩) | h
  · exact .inl (.inl (S _ _ h))
  · exact .inl (.inr ⟨o, S _ _ h⟩)
  · exact .inr h
mutual
theorem Dr.same {K : PySem.W.Frag} {H H' : Hp} (S : Same H H') : ∀ {v : V} {d : PyData}, Dr K H v d → Dr K H' v d
  | _, _, .non => .non
  | _, _, .bl b => .bl b
  | _, _, .int i => .int i
  | _, _, .str x => .str x
  | _, _, .lst h r => .lst (S.seq h) (DrAll.same S r)
  | _, _, .tup h r => .tup (same_seqT S h) (DrAll.same S r)
  | _, _, .dct h r => .dct (h.elim (fun h => .inl (S _ _ h)) fun ⟨o, h⟩ => .inr ⟨o, S _ _ h⟩) (DrAll.same S r)
theorem DrAll.same {K : PySem.W.Frag} {H H' : Hp} (S : Same H H') : ∀ {vs : List V} {ds : List PyData}, DrAll K H vs ds → DrAll K H' vs ds
  | _, _, .nil => .nil
  | _, _, .cons h r => .cons (Dr.same S h) (DrAll.same S r)
end
theorem DrAll.len {K : PySem.W.Frag} {H : Hp} : ∀ {vs : List V} {ds : List PyData}, DrAll K H vs ds → vs.length = ds.length
  | _, _, .nil => rfl
  | _, _, .cons _ r => congrArg Nat.succ r.len
/-- the written part knows the table of modules as a dict -/
def SysK (K : PySem.W.Frag) : Prop := ∃ o, K.lookup sysModules = some o ∧ o.cls = .type "dict"
theorem keys_read {P : Program} {w : World} {h : Heap} : ∀ {es : List DictEntry} {vs : List (Key × Value)}, PySem.Pairs (mixKind P w) es vs →
    ReadsAll h (es.map (·.key)) (vs.map fun p => keyD p.1) [] ∧ es.map (·.val) = vs.map (·.2)
  | _, _, .nil => ⟨.nil, rfl⟩
  | _, _, .cons (e := e) (kv := kv) (es := es) (kvs := kvs) h1 h2 r => by
    obtain ⟨a, b⟩ := keys_read (h := h) r
    refine ⟨?_, ?_⟩
    · rcases keyIs_shape (k := kv.1) (v := e.key) h1 with ⟨i, t, k1, k2⟩ | ⟨x, t, k1, k2⟩
      · have z : Reads h e.key (keyD kv.1) [] := by
          rw [k1, k2]; exact .int i t
        exact ReadsAll.cons z a
      · have z : Reads h e.key (keyD kv.1) [] := by
          rw [k1, k2]; exact .str x t
        exact ReadsAll.cons z a
    · show e.val :: es.map (·.val) = kv.2 :: kvs.map (·.2)
      rw [h2, b]
theorem kv_split : ∀ {kvs : List (Key × V)} {vs : List (Key × Value)}, KV kvs vs → (kvs.map fun p => keyD p.1) = (vs.map fun p => keyD p.1) ∧ Vals (kvs.map (·.2)) (vs.map (·.2))
  | _, _, .nil => ⟨rfl, .nil⟩
  | _, _, .cons (a := p) (b := q) h r => by
    obtain ⟨x, y⟩ := kv_split r
    refine ⟨?_, .cons h.2 y⟩
    show keyD p.1 :: _ = keyD q.1 :: _
    rw [h.1, x]
section
variable {X : Cx} {pins : List (Addr × Obj)} {σ : L2.St} {H : Hp} {s : Shared}
theorem not_sys {a : Addr} (I : Inv X pins σ H s) (hs : SysK X.K) {o : Obj} (ho : s.heap.get? a = some o) (hc : o.cls = .type "list") : sysModules ≠ a := fun e => by
  obtain ⟨o2, h2, c2⟩ := hs
  have z := I.kIn _ _ h2
  rw [e, ho] at z
  cases z
  rw [hc] at c2
  have c3 := Value.type.inj c2
  exact absurd c3 (by decide)
mutual
theorem Dr.reads (I : Inv X pins σ H s) (hs : SysK X.K) : ∀ {v : V} {d : PyData} {u : Value}, Dr X.K H v d → RelV v u → ∃ as, Reads s.heap u d as ∧ sysModules ∉ as
  | _, _, _, .non, r => by cases r; exact ⟨[], .none, by simp⟩
  | _, _, _, .bl b, r => by cases r; exact ⟨[], .bool b, by simp⟩
  | _, _, _, .int i, r => by obtain ⟨t, rfl⟩ := r; exact ⟨[], .int i t, by simp⟩
  | _, _, _, .str x, r => by obtain ⟨t, rfl⟩ := r; exact ⟨[], .str x t, by simp⟩
  | _, _, _, .lst h ha, r => by
    cases r
    obtain ⟨its, rv, ⟨o, n, ho, hc, _, hd⟩, _⟩ := I.list h
    obtain ⟨as, hr, hn⟩ := DrAll.reads I hs ha rv
    exact ⟨_, Reads.list ho hc hd hr, fun hm => (List.mem_cons.mp hm).elim (not_sys I hs ho hc) hn⟩
  | _, _, _, .tup h ha, r => by
    cases r
    obtain ⟨its, rv, ⟨o, ho, hc, n, hd⟩, _⟩ := I.tuple h
    obtain ⟨as, hr, hn⟩ := DrAll.reads I hs ha rv
    exact ⟨_, Reads.tuple ho hc hd hr, hn⟩
  | _, _, _, .dct (kvs := kvs) (ds := ds) h ha, r => by
    cases r
    obtain ⟨_, hy, vs, rel, o, es, ep, ho, hc, hd, _, pr, _⟩ := dk_rd I.hok h
    obtain ⟨k1, k2⟩ := keys_read (h := s.heap) pr
    obtain ⟨e1, rv⟩ := kv_split rel
    obtain ⟨as, hr, hn⟩ := DrAll.reads I hs ha rv
    have hl : (kvs.map fun p => keyD p.1).length = ds.length := by
      rw [← ha.len, List.length_map, List.length_map]
    refine ⟨_, Reads.dict (as := []) (bs := as) ho hc.1 hd ?_ ?_, fun hm => ?_⟩
    · rw [List.map_fst_zip (Nat.le_of_eq hl), e1]; exact k1
    · rw [List.map_snd_zip (Nat.le_of_eq hl.symm), k2]; exact hr
    · rcases List.mem_cons.mp hm with q | q
      · rw [← q] at hy
        exact absurd hy (by simp)
      · exact hn (by simpa using q)
theorem DrAll.reads (I : Inv X pins σ H s) (hs : SysK X.K) : ∀ {vs : List V} {ds : List PyData} {us : List Value}, DrAll X.K H vs ds → Vals vs us → ∃ as, ReadsAll s.heap us ds as ∧ sysModules ∉ as
  | _, _, _, .nil, r => by cases r; exact ⟨[], .nil, by simp⟩
  | _, _, _, .cons h1 h2, r => by
    cases r with
    | cons r1 r2 =>
      obtain ⟨as, q1, n1⟩ := Dr.reads I hs h1 r1
      obtain ⟨bs, q2, n2⟩ := DrAll.reads I hs h2 r2
      exact ⟨_, .cons q1 q2, fun hm => (List.mem_append.mp hm).elim n1 n2⟩
end
end
/-- repr(x), x data -/
def rRepr (K : PySem.W.Frag) : List V → Hp → VK → Prop := fun xs H Q => ∃ (v : V) (d : PyData), xs = [v] ∧ Dr K H v d ∧ d.showable = true ∧ d.shown.length ≤ sizeLine ∧ d.depth ≤ 20 ∧ Q (.str d.shown) H
theorem call_repr {X : Cx} (hg : X.A.guards = some []) (hu : X.A.units + 64 < cLine) (hs : SysK X.K) : CallR X (.builtin "repr") (rRepr X.K) := by
  intro pins s σ H xs us Q I r h
  obtain ⟨v, d, rfl, hd, hsh, hz, hdp, q⟩ := h
  cases r with
  | cons r1 rr =>
    cases rr
    cases hd with
    | non =>
      cases r1
      exact PySem.P.repr_of_none ⟨.str _, H, I.tok _, ⟨_, rfl⟩, q⟩
    | bl b =>
      cases r1
      refine PySem.P.repr_of_bool ⟨.str _, H, I.tok _, ⟨_, rfl⟩, ?_⟩
      simpa only [PyData.shown] using q
    | int i =>
      obtain ⟨t, rfl⟩ := r1
      refine PySem.P.repr_of_int (by simpa [PyData.showable] using hsh) ⟨.str _, H, I.tok _, ⟨_, rfl⟩, ?_⟩
      simpa only [PyData.shown] using q
    | str x =>
      obtain ⟨t, rfl⟩ := r1
      refine PySem.P.repr_of_str ⟨.str _, H, I.tok _, ⟨_, rfl⟩, ?_⟩ (by simpa only [PyData.shown] using hz)
      simpa only [PyData.shown] using q
    | lst h1 h2 =>
      cases r1
      obtain ⟨as, rd, hn⟩ := Dr.reads I hs (.lst h1 h2) rfl
      exact repr_of_reads' rd hsh (fun _ => hn) hg (by omega) (fun _ _ e => e) (fun h' u tk hk => ⟨.str _, H, I.kept (t' := tk) hk, ⟨u, rfl⟩, q⟩) hz
    | tup h1 h2 =>
      cases r1
      obtain ⟨as, rd, hn⟩ := Dr.reads I hs (.tup h1 h2) rfl
      exact repr_of_reads' rd hsh (fun _ => hn) hg (by omega) (fun _ _ e => e) (fun h' u tk hk => ⟨.str _, H, I.kept (t' := tk) hk, ⟨u, rfl⟩, q⟩) hz
    | dct h1 h2 =>
      cases r1
      obtain ⟨as, rd, hn⟩ := Dr.reads I hs (.dct h1 h2) rfl
      exact repr_of_reads' rd hsh (fun _ => hn) hg (by omega) (fun _ _ e => e) (fun h' u tk hk => ⟨.str _, H, I.kept (t' := tk) hk, ⟨u, rfl⟩, q⟩) hz
end Ev
set_option Elab.async false
set_option linter.all false
set_option maxRecDepth 100000
set_option maxHeartbeats 4000000
/-! Defs whose bodies ask repr: a promise that holds where no repr is under way (FnG); the end of a law by such a promise; a Hook with one Bool more. -/
namespace Ev
open PySem PySem.Spec PyProof.Rows L2
def FnG (P : Program) (w : World) (K : PySem.W.Frag) (mg : Str → Option Value) (base : Heap) (CX : CXT) (k : Nat) (f : Addr) (sp : Sp) : Prop :=
  ∀ (A : Around) (outer : List Env) (s : Shared) (H : Hp) (us : List Value) (vs : List V) (Q : VK) (E : XK), A.guards = some [] → Room k A →
    Env0 P w K mg base A outer s H → Vals vs us → sp vs H Q E → codeAny (model P w) A (.call (.ref f) ⟨us, []⟩) (CR CX outer P w H s Q E) s
section
variable {P : Program} {w : World} {K : PySem.W.Frag} {mg : Str → Option Value} {base : Heap} {CX : CXT} {k : Nat} {f : Addr} {sp : Sp}
theorem FnG.of (F : FnR P w K mg base CX k f sp) : FnG P w K mg base CX k f sp := fun A outer s H us vs Q E _ => F A outer s H us vs Q E
theorem FnG.mono {j : Nat} (F : FnG P w K mg base CX j f sp) (h : j ≤ k) : FnG P w K mg base CX k f sp := fun A outer s H us vs Q E g hr => F A outer s H us vs Q E g (hr.mono h)
/-- a def, by its body, where no repr is under way -/
theorem okG {x qual : Str} {params : Arguments} {body : List Stmt} {scope : Scope} {fd : FuncData} {N ps : List Str}
    (F : FunD K x qual params body scope [] [] f fd) (S : FnScope N ps scope)
    (hb : ∀ (kV doc pm : Value) (an : Option Addr) (cdv ct : Value) (us : List Value), us.length = ps.length →
      bindArgs (PySem.W.fnOf x qual params body scope .none kV doc pm an cdv ct) ⟨us, []⟩ = pure (ps.zip us))
    (len : ∀ vs H Q E, sp vs H Q E → vs.length = ps.length)
    (hbody : ∀ (cdv : Value) (A : Around) (outer : List Env) (s : Shared) (H : Hp) (vs : List V) (Q : VK) (E : XK), A.guards = some [] →
      Room k (A.deeper (envOfC qual scope s.heap.objs.size f cdv)) → sp vs H Q E →
      ∃ t, PSs (cxOf CX P w K mg base N qual scope f cdv A outer s H E) body t ∧ t { nx := fun _ H' => Q .non H', rt := Q } (start N vs) H) :
    FnG P w K mg base CX (k + 1) f sp := by
  intro A outer s H us vs Q E hg hr e0 r hsp
  obtain ⟨oc, od, dV, kV, doc, pm, an, cdv, ct, osl, rfl, lk, hcd, hD, hK⟩ := F.ex
  have hl : us.length = ps.length := by rw [← r.length]; exact len _ _ _ _ hsp
  rcases hD with ⟨_, rfl⟩ | ⟨e, _⟩
  · refine StX.run_bnd (G := fun xs H2 => xs = vs ∧ H2 = H) lk hcd S hr e0 (fun A' Ex Q' h => ?_) fun s2 H2 xs ⟨ex, eH⟩ hr' => ?_
    · rw [hb kV doc pm an cdv ct us hl]
      exact wpAny_pure (h s H vs us e0 (Un.kept fun _ _ z => z) rfl (fun _ _ z => z) r (r.length.trans hl) ⟨rfl, rfl⟩)
    · subst ex eH
      exact hbody cdv A outer s2 _ _ Q E hg hr' hsp
  · exact absurd rfl e
end
section
variable {X : Cx} {CX : CXT} {k : Nat} {f : Addr} {sp : Sp} {E : XK} {x : Str} {p pos : Pos} {e : Expr} {es : List Expr} {t : TA}
theorem pe_callG (F : FnG X.prog X.w X.K X.mg X.base CX k f sp) (hgd : X.A.guards = some []) (hr : Room k X.A) (hg : Gl X x) (hm : X.mg x = some (.ref f))
    (hk : PySem.W.keepIn X.K (.ref f) = true) (hx : Passes CX X E) (ha : PA X (e :: es) t) (hdb : (x == ("__debug__" : Str)) = false := by decide)
    (he : starEach (e :: es) X.env = (false, eval e X.env) :: starEach es X.env := by rfl) (hpl : (backTo pos (starEach es X.env)).any (·.1) = false := by rfl) :
    PE X (.Call (.Name x p) (e :: es) [] pos) (tCall sp [] E t) := by
  refine ⟨fun pins s σ H Q I h => wpAny_Call_Name_kw (ld_glob I hg hm ?_ hdb)⟩
  refine PySem.W.callWith_K (h₀ := X.base) I.ok.mod.kin hk (thn (ha.run pos pins s σ H _ I h) fun us s1 ⟨vs, H1, I1, r, q⟩ => ⟨I1.kIn, wpAny_call ?_⟩) he hpl
  have q : sp (vs ++ []) H1 Q E := q
  rw [List.append_nil] at q
  refine codeAny_mono (F X.A X.stack s1 H1 us vs Q E hgd hr I1.env0 r q) fun r2 s' z => ?_
  cases r2 with
  | error er => exact hx pins σ _ s1 er s' I1 z
  | ok fl =>
    cases fl with
    | ret u => exact I1.after z
    | next => exact False.elim z
    | brk => exact False.elim z
    | cont => exact False.elim z
end
/-! ### the end of a law -/
section
variable {P : Program} {w : World} {K : PySem.W.Frag} {mg mb : Str → Option Value} {CX : CXT} {k : Nat} {fa a : Addr} {sp : Sp} {s1 : Shared} {vs : List Value} {ns : List Int}
abbrev LawEnd (s1 : Shared) : Result → Shared → Prop := fun r s' => r = .ok (.ret (.bool true)) ∧ OldK s1.heap s'.heap ∧ s'.os = s1.os ∧ AllBare s'.gens
theorem law_from {H : Hp} (KX : K.In s1.heap) (hns : s1.heap.Ns mainGlobals mg) (hb : s1.heap.Ns builtinsNs mb) (hbb : ∀ x : Str, x ≠ "__name__" → mb x = bootBuiltins x)
    (hlim : s1.heap.NoLimit) (hg : s1.gens = #[]) (ha : s1.heap.get? a = some { cls := .type "list", data := .seq vs.toArray }) (hr : Room k callerA)
    (F : ∀ base : Heap, K.In base → base.Ns mainGlobals mg → FnG P w K mg base CX k fa sp)
    (hsp : sp [.ref a] H (fun v _ => v = .bl true) fun _ _ _ => False) (hCX : ∀ e s', CX [] H s1 (fun _ _ _ => False) e s' → False)
    (hO : Only H) (hok : HOk P w H s1.heap) (hA : ∀ b, H b ≠ none → b = a) (hK : H a ≠ none → K.lookup a = none) :
    codeAny (model P w) callerA (.call (.ref fa) ⟨[.ref a], []⟩) (LawEnd s1) s1 := by
  have free : ∀ {b : Addr} {o : Obj} {es : Array DictEntry} {ep : Nat}, s1.heap.get? b = some o → o.data = .dict es ep → H b = none := fun {b o es ep} e d => by
    cases q : H b with
    | none => rfl
    | some u =>
      obtain rfl : b = a := hA b (by rw [q]; exact fun z => nomatch z)
      rw [ha] at e
      cases e
      exact nomatch (show Data.seq vs.toArray _ = Data.dict es ep from d)
  have nsk : ∀ {b : Addr} {m : Str → Option Value}, s1.heap.Ns b m → (hidT s1.heap H).Ns b m := fun ⟨o, es, ep, e, d, r⟩ => ⟨o, es, ep, hidT_get e (free e d), d, r⟩
  have kb : K.In (hidT s1.heap H) := fun b o e => hidT_get (KX b o e) (by
    cases q : H b with
    | none => rfl
    | some u =>
      obtain rfl : b = a := hA b (by rw [q]; exact fun z => nomatch z)
      rw [hK (by rw [q]; exact fun z => nomatch z)] at e
      cases e)
  obtain ⟨mc, l1, l2⟩ := hlim
  have e0 : Env0 P w K mg (hidT s1.heap H) callerA [] s1 H := {
    frames := rfl
    mod := ⟨kb, nsk hns, ⟨mb, nsk hb, hbb⟩, ⟨mc, nsk l1, l2⟩⟩
    bs := fun b o e => of_hidT e
    bsz := Nat.le_of_eq (hidT_size _ _)
    funs := trivial
    frf := fun b hm => absurd (show b ∈ ([] : List Addr) from hm) (by simp)
    hok := hok
    bare := .of_eq hg }
  refine codeAny_mono (F _ kb (nsk hns) callerA [] s1 H [.ref a] [.ref a] _ _ rfl hr e0 (.cons rfl .nil) hsp) fun r s' h => ?_
  have ends : ∀ {u : Value}, CE [] P w H s1 (fun v _ => v = .bl true) u s' → LawEnd s1 (.ok (.ret u)) s' := by
    intro u h
    obtain ⟨v, H', os, bare, un, ok2, rv, rfl⟩ := h
    obtain rfl : u = Value.bool true := rv
    refine ⟨rfl, OldK.of_keep fun b o e => ?_, os, bare⟩
    cases q : H b with
    | none => exact un.keep b o e q (by intro z; exact absurd (show b ∈ ([] : List Addr) from z) (by simp)) (by simp)
    | some u =>
      rcases hO b with z | ⟨ob, xs, z⟩
      · rw [q] at z
        cases z
      · obtain ⟨e1, _⟩ := hok b _ z
        obtain ⟨e2, _⟩ := ok2 b _ (un.frzs b ob _ z)
        rw [e] at e1
        cases e1
        exact e2
  cases r with
  | error er => exact (hCX er s' h).elim
  | ok fl =>
    cases fl with
    | ret u => exact ends h
    | next => exact False.elim h
    | brk => exact False.elim h
    | cont => exact False.elim h
theorem law_callG (KX : K.In s1.heap) (hns : s1.heap.Ns mainGlobals mg) (hb : s1.heap.Ns builtinsNs mb) (hbb : ∀ x : Str, x ≠ "__name__" → mb x = bootBuiltins x)
    (hlim : s1.heap.NoLimit) (hg : s1.gens = #[]) (ha : s1.heap.get? a = some { cls := .type "list", data := .seq vs.toArray }) (hi : IntsAre vs ns) (hl : ns.length ≤ sizeLine)
    (hr : Room k callerA) (F : ∀ base : Heap, K.In base → base.Ns mainGlobals mg → FnG P w K mg base CX k fa sp)
    (hsp : ∀ H : Hp, Only H → SqL K H a (ns.map V.int) → sp [.ref a] H (fun v _ => v = .bl true) fun _ _ _ => False)
    (hCX : ∀ H e s', CX [] H s1 (fun _ _ _ => False) e s' → False) : codeAny (model P w) callerA (.call (.ref fa) ⟨[.ref a], []⟩) (LawEnd s1) s1 := by
  have rv := vals_ints hi
  have lv := hi.length
  cases hk : K.lookup a with
  | some o =>
    have e := KX a o hk
    rw [ha] at e
    cases e
    have hO : Only (fun _ => none) := fun _ => .inl rfl
    exact law_from KX hns hb hbb hlim hg ha hr F (hsp _ hO (.inr ⟨_, vs.toArray, _, hk, rfl, rfl, rfl, by rw [List.size_toArray, lv]; exact hl, by simpa using rv⟩)) (hCX _) hO
      (fun b u z => nomatch (show (none : Option HO) = some u from z)) (fun b z => absurd rfl z) fun z => absurd rfl z
  | none =>
    let H : Hp := fun b => if b = a then some (.frz { cls := .type "list", data := .seq vs.toArray } (.lst (ns.map V.int))) else none
    have at1 : H a = some (.frz { cls := .type "list", data := .seq vs.toArray } (.lst (ns.map V.int))) := if_pos rfl
    have off : ∀ {b}, b ≠ a → H b = none := fun h => if_neg h
    have hO : Only H := fun b => by
      by_cases q : b = a
      · exact .inr ⟨_, _, q ▸ at1⟩
      · exact .inl (off q)
    refine law_from KX hns hb hbb hlim hg ha hr F (hsp H hO (.inl (.inr ⟨_, at1⟩))) (hCX H) hO (fun b u z => ?_) (fun b z => ?_) fun _ => hk
    · by_cases q : b = a
      · subst q
        rw [at1] at z
        cases z
        exact ⟨ha, by rw [List.length_map]; exact hl, vs, _, rv, ha⟩
      · rw [off q] at z
        cases z
    · by_cases q : b = a
      · exact q
      · exact absurd (off q) z
end
theorem walk_ofG {l : PySem.W.OpenLaw} {n k : Nat} {q : Program} {loose : List Str} {XP : (Str → Option Value) → Heap → Prop} {YP : World → Heap → Prop} {d : DefRec} {CX : CXT}
    (hn : l.most = some n) (hn2 : n ≤ sizeLine) (hdf : d.params.defaults = []) (hr : Room k callerA)
    (F : ∀ (w : World) (mg : Str → Option Value) (fa : Addr) (h : Heap), YP w h → h.Ns mainGlobals mg → mg d.name = some (.ref fa) →
      ∃ (K : PySem.W.Frag) (sp : Sp), K.In h ∧
        (∀ (H : Hp) (a : Addr) (ns : List Int), ns.length ≤ n → Only H → SqL K H a (ns.map V.int) → sp [.ref a] H (fun v _ => v = .bl true) fun _ _ _ => False) ∧
        ∀ base : Heap, K.In base → base.Ns mainGlobals mg → FnG l.prog w K mg base CX k fa sp)
    (hCX : ∀ (H : Hp) (s : Shared) (e : Value) (s' : Shared), CX [] H s (fun _ _ _ => False) e s' → False) :
    PySem.W.WalkO q loose XP YP l.row.toRowW d [] (fun f vs => PySem.call f vs) := by
  refine Att.attach_call hn hdf fun w s0 s1 mg mb fa o pm cd doc a vs ns G Y ho hd hcd hmg hobj hints hlen hg => ?_
  obtain ⟨K, sp, KX, hsp, hF⟩ := F w mg fa _ Y G.T.g hmg
  exact law_callG KX G.T.g G.T.b G.T.builtins G.T.nolimit hg hobj hints (Nat.le_trans hlen hn2) hr hF (fun H hO hS => hsp H a ns hlen hO hS) fun H e s' => hCX H s1 e s'
/-! ### a Hook: the facts of He, and a Bool of one's own; the table of modules is among what is known -/
def asE (g : Addr → Option Obj) (n : Nat) : List Addr := He.asD g n ++ [sysModules, cStatics]
def obsE (n : Nat) (fa : List He.Fa) (fn : List He.DefD) (ex : PySem.W.Frag → Bool) (g : Addr → Option Obj) : He.AlD × Bool :=
  (He.obsD fa fn (He.frG g (asE g n)), ex (He.frG g (asE g n)))
def hookE (n : Nat) (fa : List He.Fa) (fn : List He.DefD) (ex : PySem.W.Frag → Bool) : PySem.W.Hook where
  α := He.AlD × Bool
  obs := fun s => obsE n fa fn ex s.heap.get?
  val := fun _ => (He.valD fn, true)
  says := fun _ h => ∃ K : PySem.W.Frag, K.In h ∧ He.SaysD fa fn K ∧ ex K = true
  of := fun _ _ e => ⟨_, He.frG_in, congrArg (fun z : He.AlD × Bool => z.1) e, congrArg (fun z : He.AlD × Bool => z.2) e⟩
  keeps := fun _ _ _ ⟨K, hK, c⟩ k => ⟨K, PySem.W.Frag.In.keeps hK k, c⟩
theorem obsE_eq {n : Nat} {fa : List He.Fa} {fn : List He.DefD} {ex : PySem.W.Frag → Bool} {g : Addr → Option Obj} {s : Shared} (h : ∀ a, g a = s.heap.get? a) :
    obsE n fa fn ex g = (hookE n fa fn ex).obs s := by
  have e : g = s.heap.get? := funext h
  rw [e] <;> rfl
end Ev
set_option Elab.async false
set_option linter.all false
set_option maxRecDepth 100000
set_option maxHeartbeats 4000000
/-! The end of a law whose defs make lambdas and ask repr: tables of code objects are known at its entry; the Hook that leaves them out. -/
namespace Ev
open PySem PySem.Spec PyProof.Rows L2 LamX
abbrev emptyT : Obj := { cls := .none, data := .fields #[] }
/-- what may be known at the law's entry -/
def OnlyT (T : List (Addr × Addr)) (H : Hp) : Prop := ∀ b, H b = none ∨ (∃ p ∈ T, p.2 = b ∧ H b = some (.tbl #[])) ∨ ∃ o xs, H b = some (.frz o (.lst xs))
section
variable {P : Program} {w : World} {K : PySem.W.Frag} {mg mb : Str → Option Value} {CX : CXT} {k : Nat} {fa a : Addr} {sp : Sp} {s1 : Shared} {vs : List Value} {ns : List Int} {T : List (Addr × Addr)}
structure TabsIn (K : PySem.W.Frag) (h : Heap) (T : List (Addr × Addr)) : Prop where
  at_ : ∀ p ∈ T, h.get? p.2 = some emptyT
  out : ∀ p ∈ T, K.lookup p.2 = none
  hd : ∀ p ∈ T, PySem.W.CodeHd h p.1 p.2
abbrev BMain (mg : Str → Option Value) (h : Heap) : Prop := ∃ (bm : Addr) (ob : Obj), mg "__builtins__" = some (.ref bm) ∧ bm ≠ builtinsNs ∧ h.get? bm = some ob ∧ ob.cls = .type "module" ∧ ob.dict = some builtinsNs ∧ ob.data = .plain
theorem law_fromT {H : Hp} (KX : K.In s1.heap) (hns : s1.heap.Ns mainGlobals mg) (hb : s1.heap.Ns builtinsNs mb) (hbb : ∀ x : Str, x ≠ "__name__" → mb x = bootBuiltins x)
    (hlim : s1.heap.NoLimit) (hg : s1.gens = #[]) (ha : s1.heap.get? a = some { cls := .type "list", data := .seq vs.toArray }) (hr : Room k callerA) (TI : TabsIn K s1.heap T) (hbm : BMain mg s1.heap)
    (F : ∀ base : Heap, K.In base → base.Ns mainGlobals mg → (∀ p ∈ T, TabB base mg p.1 p.2) → FnG P w K mg base CX k fa sp)
    (hsp : sp [.ref a] H (fun v _ => v = .bl true) fun _ _ _ => False) (hCX : ∀ e s', CX [] H s1 (fun _ _ _ => False) e s' → False)
    (hO : OnlyT T H) (hok : HOk P w H s1.heap) (hA : ∀ b, H b ≠ none → b = a ∨ ∃ p ∈ T, p.2 = b) (hK : H a ≠ none → K.lookup a = none) :
    codeAny (model P w) callerA (.call (.ref fa) ⟨[.ref a], []⟩) (LawEnd s1) s1 := by
  -- an object that is neither a sequence nor an empty table is not tracked
  have free : ∀ {b : Addr} {o : Obj}, s1.heap.get? b = some o → (∀ us n, o.data ≠ .seq us n) → o.data ≠ .fields #[] → H b = none := fun {b o} e d1 d2 => by
    cases q : H b with
    | none => rfl
    | some u =>
      rcases hA b (by rw [q]; exact fun z => nomatch z) with z | ⟨p, hp, z⟩
      · rw [z, ha] at e
        cases e
        exact absurd rfl (d1 _ _)
      · rw [← z, TI.at_ p hp] at e
        cases e
        exact absurd rfl d2
  have dict : ∀ {b : Addr} {o : Obj} {es : Array DictEntry} {ep : Nat}, s1.heap.get? b = some o → o.data = .dict es ep → H b = none := fun {b o es ep} e d =>
    free e (fun us n z => by rw [d] at z; cases z) (fun z => by rw [d] at z; cases z)
  have nsk : ∀ {b : Addr} {m : Str → Option Value}, s1.heap.Ns b m → (hidT s1.heap H).Ns b m := fun ⟨o, es, ep, e, d, r⟩ => ⟨o, es, ep, hidT_get e (dict e d), d, r⟩
  have kb : K.In (hidT s1.heap H) := fun b o e => hidT_get (KX b o e) (by
    cases q : H b with
    | none => rfl
    | some u =>
      rcases hA b (by rw [q]; exact fun z => nomatch z) with z | ⟨p, hp, z⟩
      · subst z
        rw [hK (by rw [q]; exact fun z => nomatch z)] at e
        cases e
      · rw [← z, TI.out p hp] at e
        cases e)
  obtain ⟨mc, l1, l2⟩ := hlim
  have e0 : Env0 P w K mg (hidT s1.heap H) callerA [] s1 H := {
    frames := rfl
    mod := ⟨kb, nsk hns, ⟨mb, nsk hb, hbb⟩, ⟨mc, nsk l1, l2⟩⟩
    bs := fun b o e => of_hidT e
    bsz := Nat.le_of_eq (hidT_size _ _)
    funs := trivial
    frf := fun b hm => absurd (show b ∈ ([] : List Addr) from hm) (by simp)
    hok := hok
    bare := .of_eq hg }
  have TB : ∀ p ∈ T, TabB (hidT s1.heap H) mg p.1 p.2 := fun p hp => by
    have hT := TI.at_ p hp
    have notG : mainGlobals ≠ p.2 := fun z => by
      obtain ⟨o, es, ep, e, d, _⟩ := hns
      rw [z, hT] at e
      cases e
      cases d
    obtain ⟨o, us, file, tf, fl, tg, iF, tx, tt, c1, c2, c3, c4, c5⟩ := TI.hd p hp
    obtain ⟨bm, ob, b1, b2, b3, b4, b5, b6⟩ := hbm
    have nG : bm ≠ mainGlobals := fun z => by
      obtain ⟨o, es, ep, e, d, _⟩ := hns
      rw [z, e] at b3
      cases b3
      rw [d] at b6
      cases b6
    have nP : bm ≠ p.2 := fun z => by
      rw [z, hT] at b3
      cases b3
      cases b6
    refine ⟨⟨o, us, file, tf, fl, tg, iF, tx, tt, hidT_get c1 (free c1 (fun w n z => ?_) (fun z => ?_)), c2, c3, c4, c5⟩, ⟨bm, ob, b1, b2, nG, nP, hidT_get b3 (free b3 (fun w n z => ?_) (fun z => ?_)), b4, b5, b6⟩, notG⟩
    · rw [c3] at z; cases z
    · rw [c3] at z
      cases z
      simp at c4
    · rw [b6] at z; cases z
    · rw [b6] at z; cases z
  refine codeAny_mono (F _ kb (nsk hns) TB callerA [] s1 H [.ref a] [.ref a] _ _ rfl hr e0 (.cons rfl .nil) hsp) fun r s' h => ?_
  have ends : ∀ {u : Value}, CE [] P w H s1 (fun v _ => v = .bl true) u s' → LawEnd s1 (.ok (.ret u)) s' := by
    intro u h
    obtain ⟨v, H', os, bare, un, ok2, rv, rfl⟩ := h
    obtain rfl : u = Value.bool true := rv
    have old : ∀ b o, s1.heap.get? b = some o → s'.heap.get? b = some o ∨ ∃ p ∈ T, p.2 = b ∧ ∃ more : Array Value, s'.heap.get? b = some { cls := .none, data := .fields more } := fun b o e => by
      rcases hO b with z | ⟨p, hp, z1, z2⟩ | ⟨ob, xs, z⟩
      · exact .inl (un.keep b o e z (by intro y; exact absurd (show b ∈ ([] : List Addr) from y) (by simp)) (by simp))
      · obtain ⟨more, y⟩ := un.tbls b #[] z2
        exact .inr ⟨p, hp, z1, _, ok2 b _ y⟩
      · obtain ⟨e1, _⟩ := hok b _ z
        obtain ⟨e2, _⟩ := ok2 b _ (un.frzs b ob _ z)
        rw [e] at e1
        cases e1
        exact .inl e2
    refine ⟨rfl, ⟨fun b o e => ?_, fun b o e => ?_⟩, os, bare⟩
    · rcases old b o e with z | ⟨p, hp, z1, more, z2⟩
      · exact .inl z
      · have hT := TI.at_ p hp
        rw [z1] at hT
        rw [hT] at e
        cases e
        refine .inr (.inl ⟨?_, rfl, #[], more, rfl, by rw [Array.empty_append]; exact z2⟩)
        rw [← z1]
        exact ((TI.hd p hp).tab (TI.at_ p hp)).isCodeTable
    · rcases old b o e with z | ⟨p, hp, z1, more, z2⟩
      · exact ⟨o, z⟩
      · exact ⟨_, z2⟩
  cases r with
  | error er => exact (hCX er s' h).elim
  | ok fl =>
    cases fl with
    | ret u => exact ends h
    | next => exact False.elim h
    | brk => exact False.elim h
    | cont => exact False.elim h
theorem law_callT (KX : K.In s1.heap) (hns : s1.heap.Ns mainGlobals mg) (hb : s1.heap.Ns builtinsNs mb) (hbb : ∀ x : Str, x ≠ "__name__" → mb x = bootBuiltins x)
    (hlim : s1.heap.NoLimit) (hg : s1.gens = #[]) (ha : s1.heap.get? a = some { cls := .type "list", data := .seq vs.toArray }) (hi : IntsAre vs ns) (hl : ns.length ≤ sizeLine)
    (hr : Room k callerA) (TI : TabsIn K s1.heap T) (hbm : BMain mg s1.heap)
    (F : ∀ base : Heap, K.In base → base.Ns mainGlobals mg → (∀ p ∈ T, TabB base mg p.1 p.2) → FnG P w K mg base CX k fa sp)
    (hsp : ∀ H : Hp, OnlyT T H → (∀ p ∈ T, H p.2 = some (.tbl #[])) → SqL K H a (ns.map V.int) → sp [.ref a] H (fun v _ => v = .bl true) fun _ _ _ => False)
    (hCX : ∀ H e s', CX [] H s1 (fun _ _ _ => False) e s' → False) : codeAny (model P w) callerA (.call (.ref fa) ⟨[.ref a], []⟩) (LawEnd s1) s1 := by
  have rv := vals_ints hi
  have lv := hi.length
  have notT : ∀ p ∈ T, p.2 ≠ a := fun p hp z => by
    have e := TI.at_ p hp
    rw [z, ha] at e
    have y : Data.seq vs.toArray _ = Data.fields #[] := congrArg Obj.data (Option.some.inj e)
    cases y
  let T2 : List Addr := T.map (·.2)
  have mT : ∀ p ∈ T, p.2 ∈ T2 := fun p hp => List.mem_map.mpr ⟨p, hp, rfl⟩
  have unT : ∀ b ∈ T2, ∃ p ∈ T, p.2 = b := fun b hb => List.mem_map.mp hb
  have naT : a ∉ T2 := fun z => by
    obtain ⟨p, hp, e⟩ := unT a z
    exact notT p hp e
  cases hk : K.lookup a with
  | some o =>
    have e := KX a o hk
    rw [ha] at e
    cases e
    let H : Hp := fun b => if b ∈ T2 then some (.tbl #[]) else none
    have hin : ∀ {b}, b ∈ T2 → H b = some (.tbl #[]) := fun h => if_pos h
    have hout : ∀ {b}, b ∉ T2 → H b = none := fun h => if_neg h
    have hO : OnlyT T H := fun b => by
      by_cases q : b ∈ T2
      · obtain ⟨p, hp, e⟩ := unT b q
        exact .inr (.inl ⟨p, hp, e, hin q⟩)
      · exact .inl (hout q)
    refine law_fromT KX hns hb hbb hlim hg ha hr TI hbm F (hsp H hO (fun p hp => hin (mT p hp)) (.inr ⟨_, vs.toArray, _, hk, rfl, rfl, rfl, by rw [List.size_toArray, lv]; exact hl, by simpa using rv⟩)) (hCX H) hO
      (fun b u z => ?_) (fun b z => ?_) fun z => absurd (hout naT) z
    · by_cases q : b ∈ T2
      · rw [hin q] at z
        cases z
        obtain ⟨p, hp, e⟩ := unT b q
        rw [← e]
        exact TI.at_ p hp
      · rw [hout q] at z
        cases z
    · by_cases q : b ∈ T2
      · exact .inr (unT b q)
      · exact absurd (hout q) z
  | none =>
    let H : Hp := fun b => if b = a then some (.frz { cls := .type "list", data := .seq vs.toArray } (.lst (ns.map V.int))) else if b ∈ T2 then some (.tbl #[]) else none
    have at1 : H a = some (.frz { cls := .type "list", data := .seq vs.toArray } (.lst (ns.map V.int))) := if_pos rfl
    have hin : ∀ {b}, b ∈ T2 → H b = some (.tbl #[]) := fun {b} h => (if_neg (fun z : b = a => naT (z ▸ h))).trans (if_pos h)
    have hout : ∀ {b}, b ≠ a → b ∉ T2 → H b = none := fun h1 h2 => (if_neg h1).trans (if_neg h2)
    have hO : OnlyT T H := fun b => by
      by_cases q : b ∈ T2
      · obtain ⟨p, hp, e⟩ := unT b q
        exact .inr (.inl ⟨p, hp, e, hin q⟩)
      · by_cases q1 : b = a
        · exact .inr (.inr ⟨_, _, q1 ▸ at1⟩)
        · exact .inl (hout q1 q)
    refine law_fromT KX hns hb hbb hlim hg ha hr TI hbm F (hsp H hO (fun p hp => hin (mT p hp)) (.inl (.inr ⟨_, at1⟩))) (hCX H) hO (fun b u z => ?_) (fun b z => ?_) fun _ => hk
    · by_cases q1 : b = a
      · subst q1
        rw [at1] at z
        cases z
        exact ⟨ha, by rw [List.length_map]; exact hl, vs, _, rv, ha⟩
      · by_cases q : b ∈ T2
        · rw [hin q] at z
          cases z
          obtain ⟨p, hp, e⟩ := unT b q
          rw [← e]
          exact TI.at_ p hp
        · rw [hout q1 q] at z
          cases z
    · by_cases q1 : b = a
      · exact .inl q1
      · by_cases q : b ∈ T2
        · exact .inr (unT b q)
        · exact absurd (hout q1 q) z
end
theorem walk_ofT {l : PySem.W.OpenLaw} {n k : Nat} {q : Program} {loose : List Str} {XP : (Str → Option Value) → Heap → Prop} {YP : World → Heap → Prop} {d : DefRec} {CX : CXT}
    (hn : l.most = some n) (hn2 : n ≤ sizeLine) (hdf : d.params.defaults = []) (hr : Room k callerA)
    (F : ∀ (w : World) (mg : Str → Option Value) (fa : Addr) (h : Heap), YP w h → h.Ns mainGlobals mg → mg d.name = some (.ref fa) →
      ∃ (K : PySem.W.Frag) (T : List (Addr × Addr)) (sp : Sp), K.In h ∧ TabsIn K h T ∧
        (∀ (H : Hp) (a : Addr) (ns : List Int), ns.length ≤ n → OnlyT T H → (∀ p ∈ T, H p.2 = some (.tbl #[])) → SqL K H a (ns.map V.int) → sp [.ref a] H (fun v _ => v = .bl true) fun _ _ _ => False) ∧
        ∀ base : Heap, K.In base → base.Ns mainGlobals mg → (∀ p ∈ T, TabB base mg p.1 p.2) → FnG l.prog w K mg base CX k fa sp)
    (hCX : ∀ (H : Hp) (s : Shared) (e : Value) (s' : Shared), CX [] H s (fun _ _ _ => False) e s' → False) :
    PySem.W.WalkO q loose XP YP l.row.toRowW d [] (fun f vs => PySem.call f vs) := by
  refine Att.attach_call hn hdf fun w s0 s1 mg mb fa o pm cd doc a vs ns G Y ho hd hcd hmg hobj hints hlen hg => ?_
  obtain ⟨K, T, sp, KX, TI, hsp, hF⟩ := F w mg fa _ Y G.T.g hmg
  exact law_callT KX G.T.g G.T.b G.T.builtins G.T.nolimit hg hobj hints (Nat.le_trans hlen hn2) hr TI G.T.bmain hF (fun H hO hT hS => hsp H a ns hlen hO hT hS) fun H e s' => hCX H s1 e s'
/-! ### the Hook -/
structure SaysY (fa : List He.Fa) (fn : List He.DefD) (tf : List He.Defn) (ex : PySem.W.Frag → Bool) (h : Heap) (K : PySem.W.Frag) : Prop where
  d : He.SaysD fa fn K
  more : ex K = true
  hd : ∀ p ∈ tf, PySem.W.codeHdIn K (He.cT K p).1 (He.cT K p).2 = true
  tab : ∀ p ∈ tf, K.lookup (He.cT K p).2 = none ∧ h.get? (He.cT K p).2 = some emptyT
abbrev fry (n : Nat) (g : Addr → Option Obj) : PySem.W.Frag := He.frT g (asE g n)
def obsY (n : Nat) (fa : List He.Fa) (fn : List He.DefD) (tf : List He.Defn) (ex : PySem.W.Frag → Bool) (g : Addr → Option Obj) : He.AlD × Bool :=
  (He.obsD fa fn (fry n g), ex (fry n g) && He.tabsB g tf (fry n g))
theorem saysY_of {n : Nat} {fa : List He.Fa} {fn : List He.DefD} {tf : List He.Defn} {ex : PySem.W.Frag → Bool} {h : Heap} (e : obsY n fa fn tf ex h.get? = (He.valD fn, true)) : SaysY fa fn tf ex h (fry n h.get?) := by
  obtain ⟨e1, e2⟩ := Prod.mk.inj e
  obtain ⟨h1, h2⟩ := Bool.and_eq_true_iff.mp e2
  have h3 := fun p hp => Bool.and_eq_true_iff.mp (List.all_eq_true.mp h2 p hp)
  refine ⟨e1, h1, fun p hp => (h3 p hp).1, fun p hp => ?_⟩
  have h4 := (h3 p hp).2
  cases q : h.get? (He.cT (fry n h.get?) p).2 with
  | none =>
    rw [q] at h4
    cases h4
  | some o =>
    rw [q] at h4
    exact ⟨He.frT_none q h4, by rw [He.emptyTab_eq h4]⟩
def hookY (n : Nat) (fa : List He.Fa) (fn : List He.DefD) (tf : List He.Defn) (ex : PySem.W.Frag → Bool) : PySem.W.Hook where
  α := He.AlD × Bool
  obs := fun s => obsY n fa fn tf ex s.heap.get?
  val := fun _ => (He.valD fn, true)
  says := fun _ h => ∃ K : PySem.W.Frag, K.In h ∧ SaysY fa fn tf ex h K
  of := fun _ _ e => ⟨_, He.frT_in, saysY_of e⟩
  keeps := fun _ _ _ ⟨K, hK, c⟩ k => ⟨K, PySem.W.Frag.In.keeps hK k, ⟨c.d, c.more, c.hd, fun p hp => ⟨(c.tab p hp).1, k _ _ (c.tab p hp).2⟩⟩⟩
theorem obsY_eq {n : Nat} {fa : List He.Fa} {fn : List He.DefD} {tf : List He.Defn} {ex : PySem.W.Frag → Bool} {g : Addr → Option Obj} {s : Shared} (h : ∀ a, g a = s.heap.get? a) :
    obsY n fa fn tf ex g = (hookY n fa fn tf ex).obs s := by
  have e : g = s.heap.get? := funext h
  rw [e] <;> rfl
theorem SaysY.tabs {fa : List He.Fa} {fn : List He.DefD} {tf : List He.Defn} {ex : PySem.W.Frag → Bool} {h : Heap} {K : PySem.W.Frag} (c : SaysY fa fn tf ex h K) (KX : K.In h) : TabsIn K h (tf.map (He.cT K)) where
  at_ := fun p hp => by
    obtain ⟨q, hq, rfl⟩ := List.mem_map.mp hp
    exact (c.tab q hq).2
  out := fun p hp => by
    obtain ⟨q, hq, rfl⟩ := List.mem_map.mp hp
    exact (c.tab q hq).1
  hd := fun p hp => by
    obtain ⟨q, hq, rfl⟩ := List.mem_map.mp hp
    exact PySem.W.codeHd_of_K KX (c.hd q hq)
end Ev
set_option Elab.async false
set_option linter.all false
set_option maxRecDepth 100000
set_option maxHeartbeats 4000000
/-! What the written part says of a family of errors: PadError over ValueError, the others over it. -/
namespace Ev
open PySem PySem.Spec PyProof.Rows L2 PySem.W
def eqS (a b : Option (Option Value)) : Bool := decide (a = b)
def oexB (K : Frag) (C : Addr) : Bool :=
  (match K.lookup C with
    | some ⟨.type t, _, .cls cd, sl⟩ => decide (t = "type") && ((match cd.mro, sl.toList with
      | .ref C' :: bm, [_, _, _, _, some (.builtin n)  , _] => decide (C' = C) && (decide (n = "ValueError.__new__") && (!cd.hasDel && (cd.hasDict && PySem.HandSPX.refsVE bm)))
      | _, _ => false))
    | _ => false) &&
  (eqS (findIn K (.ref C) "__setattr__") (some (some (.builtin "object.__setattr__"))) && (decide (subIn K (.ref C) (.type "BaseException") = some true) &&
  (decide (typeIn K (.ref C) = some (.type "type")) && keepIn K (.ref C))))
theorem two {a b : Bool} (h : (a && b) = true) : a = true ∧ b = true := Bool.and_eq_true_iff.mp h
theorem oexB_ok {K : Frag} {C : Addr} (h : oexB K C = true) : OexC K C := by
  obtain ⟨h1, h⟩ := two h
  obtain ⟨h2, h⟩ := two h
  obtain ⟨h3, h⟩ := two h
  obtain ⟨h4, h5⟩ := two h
  refine ⟨?_, of_decide_eq_true h2, of_decide_eq_true h3, of_decide_eq_true h4, h5⟩
  split at h1
  · rename_i t dd cd sl lk
    obtain ⟨ht, h1⟩ := two h1
    split at h1
    · rename_i C' bm k0 k1 k2 k3 n k5 em es
      obtain ⟨z1, h1⟩ := two h1
      obtain ⟨z2, h1⟩ := two h1
      obtain ⟨z3, h1⟩ := two h1
      obtain ⟨z4, z5⟩ := two h1
      obtain ⟨nm, bs, mro, ns, qn, hdc, sn, sub, ab, col, del⟩ := cd
      dsimp only at em z3 z4
      have e1 : C' = C := of_decide_eq_true z1
      have e2 : n = "ValueError.__new__" := of_decide_eq_true z2
      have e3 : t = "type" := of_decide_eq_true ht
      have e4 : del = false := by simpa using z3
      have e5 : sl = #[k0, k1, k2, k3, some (.builtin n), k5] := by
        have := congrArg List.toArray es
        simpa using this
      subst e1 e2 e3 e4 e5 z4 em
      exact ⟨_, _, _, _, bm, _, _, _, _, _, _, _, _, _, _, lk, z5⟩
    · cases h1
  · cases h1
def excB (K : Frag) (D : Addr) : Bool :=
  eqS (findIn K (.ref D) "__getattribute__") (some (some (.builtin "BaseException.__getattribute__"))) && (eqS (findIn K (.ref D) "__getattr__") (some none) &&
  (decide (subIn K (.ref D) (.type "BaseException") = some true) && (hasDictIn K D && (eqS (findIn K (.ref D) "__class__") (some (some (.builtin "object.__class__"))) &&
  (eqS (specialIn K (.builtin "object.__class__") "__get__") (some (some (.builtin "getset_descriptor.__get__"))) && (decide (takesIn K (.builtin "object.__class__") = some true) &&
  decide (mroIn K D (.type "object") = some true)))))))
theorem excB_ok {K : Frag} {D : Addr} (h : excB K D = true) : ExcC K D := by
  obtain ⟨h1, h⟩ := two h
  obtain ⟨h2, h⟩ := two h
  obtain ⟨h3, h⟩ := two h
  obtain ⟨h4, h⟩ := two h
  obtain ⟨h5, h⟩ := two h
  obtain ⟨h6, h⟩ := two h
  obtain ⟨h7, h8⟩ := two h
  exact ⟨of_decide_eq_true h1, of_decide_eq_true h2, of_decide_eq_true h3, h4, of_decide_eq_true h5, of_decide_eq_true h6, of_decide_eq_true h7, of_decide_eq_true h8⟩
/-- one class with its fields -/
structure ErrT (K : Frag) (C fI : Addr) (fs : List Str) : Prop where
  ox : OexC K C
  ec : ExcC K C
  iC : findIn K (.ref C) "__init__" = some (some (.ref fI))
  tI : typeIn K (.ref fI) = some (.type "function")
  no : ∀ f ∈ fs, findIn K (.ref C) f = some none
def errB (K : Frag) (x : Str) (fs : List Str) : Bool := oexB K (He.ga K x) && (excB K (He.ga K x) && (eqS (findIn K (.ref (He.ga K x)) "__init__") (some (some (.ref (He.ma K (He.ga K x) "__init__")))) &&
  (decide (typeIn K (.ref (He.ma K (He.ga K x) "__init__")) = some (.type "function")) && (fs.all fun f => eqS (findIn K (.ref (He.ga K x)) f) (some none)))))
theorem errB_ok {K : Frag} {x : Str} {fs : List Str} (h : errB K x fs = true) : ErrT K (He.ga K x) (He.ma K (He.ga K x) "__init__") fs := by
  obtain ⟨h1, h⟩ := two h
  obtain ⟨h2, h⟩ := two h
  obtain ⟨h3, h⟩ := two h
  obtain ⟨h4, h5⟩ := two h
  exact ⟨oexB_ok h1, excB_ok h2, of_decide_eq_true h3, of_decide_eq_true h4, fun f hf => of_decide_eq_true (List.all_eq_true.mp h5 f hf)⟩
def sysB (K : Frag) : Bool := match K.lookup sysModules with
  | some ⟨.type t, _, _, _⟩ => decide (t = "dict")
  | _ => false
theorem sysB_ok {K : Frag} (h : sysB K = true) : SysK K := by
  unfold sysB at h
  split at h
  · rename_i t a b c e
    exact ⟨_, e, congrArg Value.type (of_decide_eq_true h)⟩
  · cases h
def offB (K : Frag) (C0 f0 : Addr) : Bool := readsIn K C0 (.type "type") && (eqS (specialIn K (.ref C0) "__getattribute__") (some (some (.builtin "type.__getattribute__"))) &&
  ((match findCls K (.ref C0) (.type "type") "__init__" with
    | some (.val (.ref f)) => decide (f = f0)
    | _ => false) && keepIn K (.ref f0)))
structure OffT (K : Frag) (C0 f0 : Addr) : Prop where
  rd : ClX.CRead K C0 (.type "type")
  at_ : findCls K (.ref C0) (.type "type") "__init__" = some (.val (.ref f0))
  kp : keepIn K (.ref f0) = true
theorem offB_ok {K : Frag} {C0 f0 : Addr} (h : offB K C0 f0 = true) : OffT K C0 f0 := by
  obtain ⟨h1, h⟩ := two h
  obtain ⟨h2, h⟩ := two h
  obtain ⟨h3, h4⟩ := two h
  refine ⟨⟨h1, of_decide_eq_true h2⟩, ?_, h4⟩
  split at h3
  · rename_i f e
    rw [e, of_decide_eq_true h3]
  · cases h3
/-- all of them -/
def errsB (es : List (Str × List Str)) (K : Frag) : Bool := sysB K && (offB K (He.ga K "PadError") (He.ma K (He.ga K "PadError") "__init__") && (errB K "PadError" ["told"] &&
  ((es.all fun e => errB K e.1 ("told" :: e.2)) && (decide (kitOne K (.ref (He.ga K "PadError")) (.type "ValueError") = some true) &&
  (es.all fun e => decide (kitOne K (.ref (He.ga K e.1)) (.ref (He.ga K "PadError")) = some true) && (decide (kitOne K (.ref (He.ga K e.1)) (.type "ValueError") = some true) &&
    (decide (kitAny K (.ref (He.ga K e.1)) [.type "KeyError", .type "IndexError", .type "LookupError"] = some false) &&
    (es.all fun d => decide (kitOne K (.ref (He.ga K e.1)) (.ref (He.ga K d.1)) = some (decide (e.1 = d.1)))))))))))
structure ErrsT (es : List (Str × List Str)) (K : Frag) : Prop where
  sys : SysK K
  off : OffT K (He.ga K "PadError") (He.ma K (He.ga K "PadError") "__init__")
  pad : ErrT K (He.ga K "PadError") (He.ma K (He.ga K "PadError") "__init__") ["told"]
  one : ∀ e ∈ es, ErrT K (He.ga K e.1) (He.ma K (He.ga K e.1) "__init__") ("told" :: e.2)
  padV : kitOne K (.ref (He.ga K "PadError")) (.type "ValueError") = some true
  under : ∀ e ∈ es, kitOne K (.ref (He.ga K e.1)) (.ref (He.ga K "PadError")) = some true
  val : ∀ e ∈ es, kitOne K (.ref (He.ga K e.1)) (.type "ValueError") = some true
  look : ∀ e ∈ es, kitAny K (.ref (He.ga K e.1)) [.type "KeyError", .type "IndexError", .type "LookupError"] = some false
  each : ∀ e ∈ es, ∀ d ∈ es, kitOne K (.ref (He.ga K e.1)) (.ref (He.ga K d.1)) = some (decide (e.1 = d.1))
theorem errsB_ok {es : List (Str × List Str)} {K : Frag} (h : errsB es K = true) : ErrsT es K := by
  obtain ⟨h1, h⟩ := two h
  obtain ⟨h2, h⟩ := two h
  obtain ⟨h3, h⟩ := two h
  obtain ⟨h4, h⟩ := two h
  obtain ⟨h5, h6⟩ := two h
  have h7 := fun e he => two (List.all_eq_true.mp h6 e he)
  have h8 := fun e he => two (h7 e he).2
  have h9 := fun e he => two (h8 e he).2
  exact ⟨sysB_ok h1, offB_ok h2, errB_ok h3, fun e he => errB_ok (List.all_eq_true.mp h4 e he), of_decide_eq_true h5, fun e he => of_decide_eq_true (h7 e he).1,
    fun e he => of_decide_eq_true (h8 e he).1, fun e he => of_decide_eq_true (h9 e he).1, fun e he d hd => of_decide_eq_true (List.all_eq_true.mp (h9 e he).2 d hd)⟩
end Ev
set_option Elab.async false
set_option linter.all false
set_option maxRecDepth 100000
set_option maxHeartbeats 4000000
/-! What the written part says of the parts' classes. -/
namespace Ev
open PySem PySem.Spec PyProof.Rows L2 PySem.W
/-- the class's own name, in its slot -/
def nameIn (K : Frag) (C : Addr) (x : Str) : Bool := match K.lookup C with
  | some ⟨_, _, _, sl⟩ => (match sl.toList with
    | [_, _, some (Value.str y _), _, _, _] => decide (y = x)
    | _ => false)
  | none => false
def getN (C : Addr) : Option CFound := some (.get (.builtin "getset_descriptor.__get__") (.builtin "type.__name__") (.ref C) (.type "type"))
def isN (C : Addr) : Option CFound → Bool
  | some (.get (.builtin g) (.builtin n) (.ref c) (.type t)) => decide (g = "getset_descriptor.__get__") && (decide (n = "type.__name__") && (decide (c = C) && decide (t = "type")))
  | _ => false
theorem isN_ok {C : Addr} {r : Option CFound} (h : isN C r = true) : r = getN C := by
  unfold isN at h
  split at h
  · obtain ⟨h1, h⟩ := two h
    obtain ⟨h2, h⟩ := two h
    obtain ⟨h3, h4⟩ := two h
    rw [of_decide_eq_true h1, of_decide_eq_true h2, of_decide_eq_true h3, of_decide_eq_true h4] <;> rfl
  · cases h
def partNames : List Str := ["Kind", "Use", "Byte"]
def flatTypes : List String := ["str", "int", "bool", "NoneType", "tuple"]
/-- one class over Part -/
structure PartC (K : Frag) (x : Str) : Prop where
  nm : nameIn K (He.ga K x) x = true
  gn : findCls K (.ref (He.ga K x)) (.type "type") "__name__" = getN (He.ga K x)
  rd : readsIn K (He.ga K x) (.type "type") = true
  ca : findIn K (.ref (He.ga K x)) "__class__" = some (some (.builtin "object.__class__"))
  cm : mroIn K (He.ga K x) (.type "object") = some true
  eq : findIn K (.ref (He.ga K x)) "__eq__" = some (some (.ref (He.ma K (He.ga K "Part") "__eq__")))
  ne : findIn K (.ref (He.ga K x)) "__ne__" = some (some (.builtin "object.__ne__"))
  kp : kitOne K (.ref (He.ga K x)) (.ref (He.ga K "Part")) = some true
  nf : ∀ y ∈ partNames, notFirst K (He.ga K x) (.ref (He.ga K y)) = true
  ft : ∀ t ∈ flatTypes, notFirst K (He.ga K x) (.type t) = true
def partB (K : Frag) (x : Str) : Bool := nameIn K (He.ga K x) x && (isN (He.ga K x) (findCls K (.ref (He.ga K x)) (.type "type") "__name__") && (readsIn K (He.ga K x) (.type "type") &&
  (eqS (findIn K (.ref (He.ga K x)) "__class__") (some (some (.builtin "object.__class__"))) && (decide (mroIn K (He.ga K x) (.type "object") = some true) &&
  (eqS (findIn K (.ref (He.ga K x)) "__eq__") (some (some (.ref (He.ma K (He.ga K "Part") "__eq__")))) && (eqS (findIn K (.ref (He.ga K x)) "__ne__") (some (some (.builtin "object.__ne__"))) &&
  (decide (kitOne K (.ref (He.ga K x)) (.ref (He.ga K "Part")) = some true) && ((partNames.all fun y => notFirst K (He.ga K x) (.ref (He.ga K y))) &&
  (flatTypes.all fun t => notFirst K (He.ga K x) (.type t))))))))))
theorem partB_ok {K : Frag} {x : Str} (h : partB K x = true) : PartC K x := by
  obtain ⟨h1, h⟩ := two h
  obtain ⟨h2, h⟩ := two h
  obtain ⟨h3, h⟩ := two h
  obtain ⟨h4, h⟩ := two h
  obtain ⟨h5, h⟩ := two h
  obtain ⟨h6, h⟩ := two h
  obtain ⟨h7, h⟩ := two h
  obtain ⟨h8, h⟩ := two h
  obtain ⟨h9, h10⟩ := two h
  exact ⟨h1, isN_ok h2, h3, of_decide_eq_true h4, of_decide_eq_true h5, of_decide_eq_true h6, of_decide_eq_true h7, of_decide_eq_true h8, fun y hy => List.all_eq_true.mp h9 y hy, fun t ht => List.all_eq_true.mp h10 t ht⟩
def barred : List Str := ["byte", "size", "align", "place", "end", "packed", "and", "or", "not", "yes", "no", "for", "nogap", "notail", "leaf"]
/-- an empty tuple among what is written -/
def nilT (K : Frag) (a : Addr) : Bool := match K.lookup a with
  | some ⟨.type c, _, .seq its _, _⟩ => decide (c = "tuple") && its.isEmpty
  | _ => false
abbrev dfT (i : Nat) (K : Frag) : Addr := He.dflAt ("Part", some "__init__") i K
def isDepth : Option CFound → Bool
  | some (.val (.int i _)) => decide (i = 4)
  | _ => false
structure PartsT (K : Frag) : Prop where
  one : ∀ x ∈ partNames, PartC K x
  off : OffT K (He.ga K "Part") (He.ma K (He.ga K "Part") "__init__")
  depth : ∃ t, findCls K (.ref (He.ga K "Part")) (.type "type") "DEPTH" = some (.val (.int 4 t))
  eqF : isFn K (.ref (He.ma K (He.ga K "Part") "__eq__")) = true
  cn : specialIn K (.builtin "object.__class__") "__get__" = some (some (.builtin "getset_descriptor.__get__"))
  ct : takesIn K (.builtin "object.__class__") = some true
  flat : ∀ t ∈ flatTypes, kitOne K (.type t) (.ref (He.ga K "Part")) = some false
  bar : He.tupB K "BARRED" (barred.map He.Dv.str) = true
  nil : ∀ i < 2, nilT K (dfT i K) = true
def partsB (K : Frag) : Bool := (partNames.all fun x => partB K x) && (offB K (He.ga K "Part") (He.ma K (He.ga K "Part") "__init__") && (isDepth (findCls K (.ref (He.ga K "Part")) (.type "type") "DEPTH") &&
  (isFn K (.ref (He.ma K (He.ga K "Part") "__eq__")) && (eqS (specialIn K (.builtin "object.__class__") "__get__") (some (some (.builtin "getset_descriptor.__get__"))) &&
  (decide (takesIn K (.builtin "object.__class__") = some true) && ((flatTypes.all fun t => decide (kitOne K (.type t) (.ref (He.ga K "Part")) = some false)) &&
  (He.tupB K "BARRED" (barred.map He.Dv.str) && (nilT K (dfT 0 K) && nilT K (dfT 1 K)))))))))
theorem partsB_ok {K : Frag} (h : partsB K = true) : PartsT K := by
  obtain ⟨h1, h⟩ := two h
  obtain ⟨h2, h⟩ := two h
  obtain ⟨h3, h⟩ := two h
  obtain ⟨h4, h⟩ := two h
  obtain ⟨h5, h⟩ := two h
  obtain ⟨h6, h⟩ := two h
  obtain ⟨h7, h⟩ := two h
  obtain ⟨h8, h⟩ := two h
  obtain ⟨h9, h10⟩ := two h
  refine ⟨fun x hx => partB_ok (List.all_eq_true.mp h1 x hx), offB_ok h2, ?_, h4, of_decide_eq_true h5, of_decide_eq_true h6, fun t ht => of_decide_eq_true (List.all_eq_true.mp h7 t ht), h8, fun i hi => ?_⟩
  · unfold isDepth at h3
    split at h3
    · rename_i i t e
      exact ⟨t, by rw [e, of_decide_eq_true h3]⟩
    · cases h3
  · match i, hi with
    | 0, _ => exact h9
    | 1, _ => exact h10
theorem nilT_ok {K : Frag} {a : Addr} (h : nilT K a = true) (H : Hp) : SqT K H a [] := by
  unfold nilT at h
  split at h
  · rename_i c dd its n sl e
    obtain ⟨h1, h2⟩ := two h
    exact .inr ⟨_, its, n, e, congrArg Value.type (of_decide_eq_true h1), rfl, (by rw [Array.isEmpty_iff.mp h2]; decide), (by rw [Array.isEmpty_iff.mp h2]; exact .nil)⟩
  · cases h
end Ev
set_option Elab.async false
set_option linter.all false
set_option maxRecDepth 100000
set_option maxHeartbeats 4000000
/-! Rules: max of nothing by default=, an instance's class and its name, == and != by an own __eq__. -/
namespace Ev
open PySem PySem.Spec PyProof.Rows L2
/-! ### max(xs, default=d), xs empty -/
def rMaxD0 (K : PySem.W.Frag) : List V → List V → Hp → VK → Prop := fun xs zs H Q => ∃ (a : Addr) (d : V), xs = [.ref a] ∧ zs = [d] ∧ SqL K H a [] ∧ Q d H
theorem cr_maxD0 {X : Cx} (hc : X.calm = true) (hu : X.A.units + 1 < cLine) : CallRK X (.builtin "max") [Str.ofString "default"] (rMaxD0 X.K) := by
  intro pins s σ H xs zs us ws Q I r rz h
  obtain ⟨a, d, rfl, rfl, hs, q⟩ := h
  obtain ⟨its, rv, hl, _⟩ := I.list hs
  cases rv
  rw [Vals.ref1 r]
  obtain ⟨w1, rfl, e1⟩ := vals1 rz
  refine PySem.W.max_list_default (I.ok.hd hc) hl.isList (xs := []) (as := []) .nil (by simp [PySem.W.AlikeAll]) hu (fun _ h' tk k => ⟨d, H, I.kept (t' := tk) k, e1, q⟩) (fun y ys i v h' tk bs e => ?_)
  cases e
/-! ### o.__class__ -/
structure ClsC (K : PySem.W.Frag) (C : Addr) : Prop where
  cl : Cls K C
  ca : PySem.W.findIn K (.ref C) "__class__" = some (some (.builtin "object.__class__"))
  cn : PySem.W.specialIn K (.builtin "object.__class__") "__get__" = some (some (.builtin "getset_descriptor.__get__"))
  ct : PySem.W.takesIn K (.builtin "object.__class__") = some true
  cm : PySem.W.mroIn K C (.type "object") = some true
def tClsOf (K : PySem.W.Frag) (ta : TE) : TE := fun σ H Q => ta σ H fun x H1 => ∃ (a C dx : Addr) (fs : List (Str × V)), x = .ref a ∧ H1 a = some (.ins C dx fs) ∧ ClsC K C ∧ Q (.ref C) H1
theorem pe_clsOf {X : Cx} {e : Expr} {te : TE} {pos : Pos} (he : PE X e te) (hb : attributeBase e "__class__" X.env (eval e X.env) = eval e X.env := by rfl) : PE X (.Attribute e "__class__" pos) (tClsOf X.K te) := by
  refine ⟨fun pins s σ H Q I h => attr_of hb (thn (he.run pins s σ H _ I h) fun u s1 z => ?_)⟩
  obtain ⟨x, H1, I1, rx, a, C, dx, fs, ex, ea, T, q⟩ := z
  subst ex
  obtain rfl : u = Value.ref a := rx
  obtain ⟨mA, O, _⟩ := ins_get I1.hok ea
  obtain ⟨od, J, _⟩ := O.look
  obtain ⟨m, F⟩ := I1.fr
  exact PySem.W.get_class F I1.ok.mod.kin J (T.cl.get _) T.cl.hd T.ca T.cn T.ct T.cm ⟨.ref C, H1, I1.tok _, rfl, q⟩
/-! ### C.__name__ -/
section
open PySem.W PySem.Builtin PySem.Builtin.ObjectAttr PySem.Builtin.Getset_descriptor
variable {prog : Program} {w : World} {A : Around} {E : Value → Shared → Prop} {s : Shared} {K : Frag} {R : Result → Shared → Prop} {C : Addr} {o : Obj} {v : Value}
theorem dga_own (d tp : Value) (C : Addr) : descrGetArgs ⟨[d, .ref C, tp], []⟩ = pure (d, some (.ref C), given tp) := by kernel_rfl
theorem own_name {tp : Value} (X : K.In s.heap) (ht : typeIn K (.ref C) = some (.type "type")) (ho : s.heap.get? C = some o) (hv : o.slots[2]? = some (some v)) (h : R (.ok (.ret v)) s) :
    codeAny (model prog w) A (.call (.builtin "getset_descriptor.__get__") ⟨[.builtin "type.__name__", .ref C, tp], []⟩) R s := by
  obtain ⟨hh, g, dr, t, os⟩ := s
  have L0 : Looks (model prog w) hh (typeOf (.ref C)) (.type "type") := looks_typeIn X ht
  have L1 : Looks (model prog w) hh (isSubtype (.type "type") (.type "type")) true := Looks.of_pure (by rw [isSubtype_type]; kernel_rfl)
  refine codeAny_call_builtin KF.slot_gs.plain KF.entry_gs (KF.slot_gs.check _ _ _ _ _ _ _ _ ktyn_type (KF.args_gs _ _ _) ?_)
  unfold Builtin.«getset_descriptor.__get__» descrGet
  rw [dga_own]
  refine wpAny_bind (wpAny_pure ?_)
  unfold descrGetter descrCheckInstance descrNameAndClass isInstance
  simp only [ktyn_owner]
  repeat lk
  refine ⟨Code.quiet_builtin _ (by decide +kernel), codeAny_builtin ktyn_entry ?_⟩
  unfold Builtin.«type.__name__» Builtin.keptObject PySem.slotAt
  dsimp only
  refine wpAny_bind (wpAny_bind (wpAny_loadPart_at ho ?_))
  refine wpAny_pure ?_
  rw [hv]
  exact wpAny_pure h
end
def tNameOf (K : PySem.W.Frag) (ta : TE) : TE := fun σ H Q => ta σ H fun x H1 => ∃ (C : Addr) (y : Str), x = .ref C ∧ nameIn K C y = true ∧ PySem.W.findCls K (.ref C) (.type "type") "__name__" = getN C ∧
  PySem.W.readsIn K C (.type "type") = true ∧ PySem.W.typeIn K (.ref C) = some (.type "type") ∧ Q (.str y) H1
theorem pe_nameOf {X : Cx} {e : Expr} {te : TE} {pos : Pos} (he : PE X e te) (hb : attributeBase e "__name__" X.env (eval e X.env) = eval e X.env := by rfl) : PE X (.Attribute e "__name__" pos) (tNameOf X.K te) := by
  refine ⟨fun pins s σ H Q I h => attr_of hb (thn (he.run pins s σ H _ I h) fun u s1 z => ?_)⟩
  obtain ⟨x, H1, I1, rx, C, y, ex, hn, hf, hr, ht, q⟩ := z
  subst ex
  obtain rfl : u = Value.ref C := rx
  unfold nameIn at hn
  split at hn
  · rename_i oc od dt sl lk
    split at hn
    · rename_i k0 k1 z t k3 k4 k5 es
      have e : z = y := of_decide_eq_true hn
      subst e
      have hv : sl[2]? = some (some (Value.str z t)) := by
        have e2 : sl = #[k0, k1, some (Value.str z t), k3, k4, k5] := by
          have := congrArg List.toArray es
          simpa using this
        rw [e2]
        rfl
      refine PySem.W.cls_bind I1.kIn hr hf (wpAny_call (own_name (s := { s1 with toks := s1.toks + 1 }) I1.kIn ht (I1.kIn _ _ lk) hv ?_))
      exact PySem.W.handed_on rfl ⟨.str z, H1, I1.tok _, ⟨t, rfl⟩, q⟩
    · cases hn
  · cases hn
/-! ### x == y, x != y, x an instance with its own __eq__ -/
section
variable {X : Cx} {CX : CXT} {pins : List (Addr × Obj)} {σ : L2.St} {H : Hp} {s : Shared} {C g : Addr} {n : Nat} {sp : Sp} {E : XK}
def rOwnE (K : PySem.W.Frag) (C : Addr) (sp : Sp) (E : XK) : R2 := fun x y H Q => ∃ (a dx : Addr) (fs : List (Str × V)) (t : Value), x = .ref a ∧ H a = some (.ins C dx fs) ∧ TyX K H y t ∧ PySem.W.notFirst K C t = true ∧ sp [x, y] H Q E
theorem op_ownE (hs : PySem.W.findIn X.K (.ref C) "__eq__" = some (some (.ref g))) (hf : PySem.W.isFn X.K (.ref g) = true) (F : FnR X.prog X.w X.K X.mg X.base CX n g sp)
    (hr : Room n X.A) (hx : Passes CX X E) : OpR X (compareOp .Eq) (rOwnE X.K C sp E) := by
  intro pins s σ H x y v u Q I rx ry h
  obtain ⟨a, dx, fs, t, rfl, ha, ty, hn, q⟩ := h
  cases (show v = Value.ref a from rx)
  obtain ⟨mA, O, _⟩ := ins_get I.hok ha
  obtain ⟨od, J, _⟩ := O.look
  obtain ⟨P, Z, p, _⟩ := kit_of I ry ty
  obtain ⟨m, hF⟩ := I.fr
  show wpAny _ _ (richCompare .Eq (.ref a) u) _ _ _
  refine PySem.W.cmp_K (op := .Eq) (tb := t) hr.units0 hF I.ok.mod.kin J (Z.ty _ _ I.kIn p) hn hs hf ?_
  refine thn (wpAny_call (run_fnR (us := [.ref a, u]) (vs := [.ref a, y]) F hr hx I (.cons rfl (.cons ry .nil)) q)) (fun w s' z => ?_)
  obtain ⟨z', H', I', rz, qz⟩ := z
  exact SlX.cmpback rz ⟨z', H', I', rz, qz⟩
end
end Ev
namespace Ev
open PySem PySem.Spec PyProof.Rows L2
/-! ### x != y by an own __eq__: object.__ne__ asks it -/
section
variable {M : Model} {prog : Program} {w : World} {A : Around} {E : Value → Shared → Prop} {s : Shared} {K : PySem.W.Frag} {x C : Addr} {ox : Obj} {od : Option Obj}
theorem ifBound_ne {args : List Value} {Q : Option Value → Shared → Prop} (X : K.In s.heap) (I : PySem.W.InstAt s.heap x ox C od) (hs : PySem.W.findIn K (.ref C) "__ne__" = some (some (.builtin "object.__ne__")))
    (h : wpAny M A (call (.builtin "object.__ne__") (.ref x :: args)) (fun v => Q (some v)) E s) : wpAny M A (callSpecialIfBound? (.ref x) "__ne__" args) Q E s := by
  simp only [callSpecialIfBound?, bindSpecialIfBound?]
  apply wpAny_holding
  refine wpAny_bind (wpAny_bind (wpAny_bind (I.type.here ((PySem.W.looks_findIn X hs).here ?_))))
  apply wpAny_bind
  apply wpAny_askSetting
  apply wpAny_ite
  have last : wpAny M A (call (.builtin "object.__ne__") ([.ref x] ++ args) >>= fun v => pure (some v)) Q E s := wpAny_bind (thn h (fun v s' z => wpAny_pure z))
  split
  · exact wpAny_bind (wpAny_of_eq (F.cmp_object.ne.bind _) (wpAny_pure (by exact last)))
  · exact wpAny_tryCatch (wpAny_bind (wpAny_of_eq (F.cmp_object.ne.bind _) (wpAny_pure (by exact last))))
theorem entry_ne {b : Value} {f : Addr} {Q : Fin → Shared → Prop} (hu : A.units < cLine) (X : K.In s.heap) (I : PySem.W.InstAt s.heap x ox C od) (hs : PySem.W.findIn K (.ref C) "__eq__" = some (some (.ref f))) (hf : PySem.W.isFn K (.ref f) = true)
    (h : wpAny M A (call (.ref f) [.ref x, b]) (fun v s' => ∃ k, v = .bool k ∧ Q (.done (.ret (.bool (!k)))) s') E s) : wpAny M A (Builtin.«object.__ne__» ⟨[.ref x, b], []⟩) Q E s := by
  unfold Builtin.«object.__ne__»
  refine wpAny_bind (wpAny_of_eq (a := ((Value.ref x : Value), [b])) (by first | rfl | (simp only [Builtin.ObjectAttr.slotArgs]; rfl)) ?_)
  refine wpAny_bind (wpAny_cRoomFor hu ?_)
  refine wpAny_bind (PySem.W.ifBound_K X I hs hf (thn h (fun v s' z => ?_)))
  obtain ⟨k, rfl, q⟩ := z
  exact wpAny_bind (wpAny_truthy_bool (wpAny_pure q))
end
end Ev
namespace Ev
open PySem PySem.Spec PyProof.Rows L2
section
variable {prog : Program} {w : World} {A : Around} {E : Value → Shared → Prop} {s : Shared} {K : PySem.W.Frag} {x C f : Addr} {ox : Obj} {od : Option Obj} {b tb : Value}
theorem rc_ne {Q : Value → Shared → Prop} (hu : A.units < cLine) (hu1 : A.in1.units < cLine) (X : K.In s.heap) (I : PySem.W.InstAt s.heap x ox C od) (hb : PySem.W.Looks (model prog w) s.heap (typeOf b) tb) (hn : PySem.W.notFirst K C tb = true)
    (hm : PySem.W.mroIn K C (.type "object") = some true) (hne : PySem.W.findIn K (.ref C) "__ne__" = some (some (.builtin "object.__ne__"))) (hs : PySem.W.findIn K (.ref C) "__eq__" = some (some (.ref f))) (hf : PySem.W.isFn K (.ref f) = true)
    (h : wpAny (model prog w) A.in1 (call (.ref f) [.ref x, b]) (fun v s' => ∃ k, v = .bool k ∧ Q (.bool (!k)) s') E s) : wpAny (model prog w) A (richCompare .NotEq (.ref x) b) Q E s := by
  have one : wpAny (model prog w) A (tryCompare (.ref x) "__ne__" b) (fun r s' => ∃ k, r = some (.bool k) ∧ Q (.bool k) s') E s := by
    unfold tryCompare
    refine wpAny_bind (ifBound_ne X I hne (wpAny_call (codeAny_call_builtin F.cmp_object.ne.plain F.cmpEntry_ne
      (PySem.W.check_slot F.cmpKind_ne F.cmpSplit_ne (I.type.andThen (PySem.W.looks_mroIn X hm)) (F.cmpArgs_ne _ _) (entry_ne hu1 X I hs hf (thn h (fun v s' z => ?_)))))))
    obtain ⟨k, rfl, q⟩ := z
    exact ⟨k, rfl, wpAny_pure ⟨!k, rfl, q⟩⟩
  unfold richCompare
  simp only [oneThing_ref]
  refine wpAny_holding (wpAny_bind (wpAny_cRoomFor hu ?_))
  refine wpAny_bind (I.type.here (wpAny_bind (hb.here ?_)))
  split
  · rename_i q
    have e : PySem.W.subIn K tb (.ref C) = some false := by
      rcases Bool.or_eq_true_iff.mp hn with e | e
      · rw [beq_iff_eq.mp e] at q; simp at q
      · exact beq_iff_eq.mp e
    refine wpAny_bind ((PySem.W.looks_subIn X e).here ?_)
    simp only [Bool.false_eq_true, if_false]
    refine wpAny_bind (thn one (fun r s' z => ?_))
    obtain ⟨k, rfl, q⟩ := z
    exact wpAny_pure q
  · refine wpAny_bind (wpAny_pure ?_)
    simp only [Bool.false_eq_true, if_false]
    refine wpAny_bind (thn one (fun r s' z => ?_))
    obtain ⟨k, rfl, q⟩ := z
    exact wpAny_pure q
end
section
variable {X : Cx} {CX : CXT} {pins : List (Addr × Obj)} {σ : L2.St} {H : Hp} {s : Shared} {C g : Addr} {n : Nat} {sp : Sp} {E : XK}
def rOwnNe (K : PySem.W.Frag) (C : Addr) (sp : Sp) (E : XK) : R2 := fun x y H Q => ∃ (a dx : Addr) (fs : List (Str × V)) (t : Value), x = .ref a ∧ H a = some (.ins C dx fs) ∧ TyX K H y t ∧ PySem.W.notFirst K C t = true ∧
  sp [x, y] H (fun v H' => ∃ k, v = .bl k ∧ Q (.bl (!k)) H') E
theorem op_ownNe (hm : PySem.W.mroIn X.K C (.type "object") = some true) (hne : PySem.W.findIn X.K (.ref C) "__ne__" = some (some (.builtin "object.__ne__"))) (hs : PySem.W.findIn X.K (.ref C) "__eq__" = some (some (.ref g)))
    (hf : PySem.W.isFn X.K (.ref g) = true) (F : FnR X.prog X.w X.K X.mg X.base CX n g sp) (hr : Room (n + 1) X.A) (hx : Passes CX X E) : OpR X (compareOp .NotEq) (rOwnNe X.K C sp E) := by
  intro pins s σ H x y v u Q I rx ry h
  obtain ⟨a, dx, fs, t, rfl, ha, ty, hn, q⟩ := h
  cases (show v = Value.ref a from rx)
  obtain ⟨mA, O, _⟩ := ins_get I.hok ha
  obtain ⟨od, J, _⟩ := O.look
  obtain ⟨P, Z, p, _⟩ := kit_of I ry ty
  have hr1 : Room n X.A.in1 := Room.in1 hr
  show wpAny _ _ (richCompare .NotEq (.ref a) u) _ _ _
  refine rc_ne (tb := t) hr.units0 hr1.units0 I.kIn J (Z.ty _ _ I.kIn p) hn hm hne hs hf ?_
  refine thn (wpAny_call (SlX.run_at (us := [.ref a, u]) (ws := [.ref a, y]) F hr1 I.env0.in1 hx I (.cons rfl (.cons ry .nil)) q)) (fun w s' z => ?_)
  obtain ⟨z', H', I', rz, k, ez, qz⟩ := z
  subst ez
  obtain rfl : w = Value.bool k := rz
  exact ⟨k, rfl, .bl (!k), H', I', rfl, qz⟩
end
end Ev
set_option Elab.async false
set_option linter.all false
set_option maxRecDepth 100000
set_option maxHeartbeats 4000000
/-! Rules: max of ints by default=; an operator of one's own; an instance in an f-string. -/
namespace Ev
open PySem PySem.Spec PyProof.Rows L2
/-! ### max(xs, default=d) of ints -/
def maxI (d : Int) : List Int → Int
  | [] => d
  | n :: ns => ns.foldl max n
theorem ints_reads {h : Heap} : ∀ {ns : List Int} {us : List Value}, Vals (ns.map V.int) us → ReadsAll h us (ns.map PyData.int) []
  | [], _, .nil => .nil
  | n :: ns, _, .cons (b := b) r t => by
    obtain ⟨k, rfl⟩ := (show ∃ k, b = Value.int n k from r)
    exact .cons (as := []) (bs := []) (.int n k) (ints_reads t)
theorem alike_ints (ns : List Int) : PySem.W.AlikeAll (ns.map PyData.int) := by
  refine ⟨fun x hx y hy => ?_, fun x hx => ?_⟩
  · obtain ⟨i, _, rfl⟩ := List.mem_map.mp hx
    obtain ⟨j, _, rfl⟩ := List.mem_map.mp hy
    rfl
  · obtain ⟨i, _, rfl⟩ := List.mem_map.mp hx
    intro h; cases h
theorem depth_ints : ∀ ns : List Int, PyData.depthAll (ns.map PyData.int) = 0
  | [] => rfl
  | n :: ns => by
    show max (PyData.depth (.int n)) (PyData.depthAll (ns.map PyData.int)) = 0
    rw [depth_ints ns]; rfl
def rMaxD (K : PySem.W.Frag) : List V → List V → Hp → VK → Prop := fun xs zs H Q => ∃ (a : Addr) (d : Int) (ns : List Int), xs = [.ref a] ∧ zs = [.int d] ∧ SqL K H a (ns.map V.int) ∧ Q (.int (maxI d ns)) H
theorem cr_maxD {X : Cx} (hc : X.calm = true) (hu : X.A.units + 1 < cLine) : CallRK X (.builtin "max") [Str.ofString "default"] (rMaxD X.K) := by
  intro pins s σ H xs zs us ws Q I r rz h
  obtain ⟨a, d, ns, rfl, rfl, hs, q⟩ := h
  obtain ⟨its, rv, hl, _⟩ := I.list hs
  rw [Vals.ref1 r]
  obtain ⟨w1, rfl, e1⟩ := vals1 rz
  refine PySem.W.max_list_default (I.ok.hd hc) hl.isList (xs := ns.map .int) (as := []) (ints_reads rv) (alike_ints ns) (by rw [depth_ints]; exact hu) (fun e h' tk k => ⟨.int d, H, I.kept (t' := tk) k, e1, ?_⟩) (fun y ys i v h' tk bs e hv hr k => ?_)
  · cases ns with
    | nil => exact q
    | cons n ns => cases e
  · cases ns with
    | nil => cases e
    | cons n ms =>
      injection e with e1 e2
      subst e1 e2
      rw [PySem.W.maxD_ints] at hr
      cases hr
      exact ⟨.int (maxI d (n :: ms)), H, I.kept (t' := tk) k, ⟨_, rfl⟩, q⟩
/-- max(xs) of ints -/
def rMaxN (K : PySem.W.Frag) : List V → Hp → VK → Prop := fun xs H Q => ∃ (a : Addr) (n : Int) (ns : List Int), xs = [.ref a] ∧ SqL K H a ((n :: ns).map V.int) ∧ Q (.int (ns.foldl max n)) H
theorem cr_maxN {X : Cx} (hc : X.calm = true) (hu : X.A.units + 1 < cLine) : CallR X (.builtin "max") (rMaxN X.K) := by
  intro pins s σ H xs us Q I r h
  obtain ⟨a, n, ns, rfl, hs, q⟩ := h
  obtain ⟨its, rv, hl, _⟩ := I.list hs
  rw [Vals.ref1 r]
  refine PySem.W.max_list_data (I.ok.hd hc) hl.isList (x := .int n) (xs := ns.map .int) (as := []) (ints_reads (ns := n :: ns) rv) (alike_ints (n :: ns)) (by rw [show PyData.int n :: ns.map .int = (n :: ns).map .int from rfl, depth_ints]; exact hu) (fun i v h' tk bs hv hr k => ?_)
  rw [PySem.W.maxD_ints] at hr
  cases hr
  exact ⟨.int (ns.foldl max n), H, I.kept (t' := tk) k, ⟨_, rfl⟩, q⟩
end Ev
/-! ### x op y by an operator of one's own -/
namespace PySem.W
open Lean Elab Tactic Meta PySem PySem.Calls PyProof.Rows
section
variable {prog : Program} {w : World} {A : Around} {E : Value → Shared → Prop} {s : Shared} {K : Frag} {x C f : Addr} {ox : Obj} {od : Option Obj} {T : String}
theorem ksp_binL {op : Operator} {b : Value} {fo ro rc : Option Value} {Q : Value → Shared → Prop} (X : K.In s.heap) (I : InstAt s.heap x ox C od) (hb : Looks (model prog w) s.heap (typeOf b) (.type T)) (hc : selfFirst K C = true)
    (hs : findIn K (.ref C) (PySem.dunder op.info.2) = some (some (.ref f))) (hf : isFn K (.ref f) = true) (hr : findIn K (.ref C) (dunderR op.info.2) = some rc) (hp : rc = none ∨ ∃ g : Addr, rc = some (.ref g))
    (h1 : findIn K (.type T) (PySem.dunder op.info.2) = some fo) (h2 : findIn K (.type T) (dunderR op.info.2) = some ro) (hsub : subIn K (.type T) (.ref C) = some false)
    (h : wpAny (model prog w) A (call (.ref f) [.ref x, b]) (CmpBack Q) E s) : wpAny (model prog w) A (binaryOp op (.ref x) b) Q E s := by
  obtain ⟨cd, rest, hcd, hm⟩ := ksp_first hc
  rcases hi : op.info with ⟨sym, nm'⟩
  rw [hi] at hs hr h1 h2
  dsimp only at hs hr h1 h2
  have one := ksp_try X I hs hf h
  obtain ⟨hh, g, d, tt, os⟩ := s
  have L1 : Looks (model prog w) hh (typeOf (.ref x)) (.ref C) := I.type
  have L2 : Looks (model prog w) hh (typeOf b) (.type T) := hb
  have L3 : Looks (model prog w) hh (fillsNumberSlot (.ref C) nm') true := fills_K X hcd hm hs
  have L4 : Looks (model prog w) hh (fillsNumberSlot (.type T) nm') ((fo.isSome && !isSeqSlot fo) || (ro.isSome && !isSeqSlot ro)) := ksp_fillsT X h1 h2
  have L5 : Looks (model prog w) hh (isSubtype (.type T) (.ref C)) false := looks_subIn X hsub
  have L6 : Looks (model prog w) hh (numberSlotInPython (.ref C) nm') true := ksp_inPy X hs hr hp
  have L7 : Looks (model prog w) hh (numberSlotInPython (.type T) nm') false := Looks.of_pure rfl
  have L8 : Looks (model prog w) hh (typeLookup (.type T) (dunderR nm')) ro := looks_findIn X h2
  generalize ((fo.isSome && !isSeqSlot fo) || (ro.isSome && !isSeqSlot ro)) = right at L4
  have hne : (Value.ref C == Value.type T) = false := Bool.eq_false_iff.mpr fun q => by cases beq_iff_eq.mp q
  simp only [binaryOp, hi]
  refine wpAny_holding (wpAny_bind ?_)
  unfold binaryOp1
  refine wpAny_bind (L1.at (wpAny_bind (L2.at (wpAny_bind (L3.at ?_)))))
  simp only [hne, Bool.false_eq_true, if_false]
  cases right with
  | false =>
    ksp_lk
    refine wpAny_mono one (fun r s' hr' => ?_) fun _ _ e => e
    obtain ⟨v, rfl, hq⟩ := hr'
    ksp_lk
    exact hq
  | true =>
    ksp_lk
    refine wpAny_mono one (fun r s' hr' => ?_) fun _ _ e => e
    obtain ⟨v, rfl, hq⟩ := hr'
    ksp_lk
    exact hq
end
end PySem.W
namespace Ev
open PySem PySem.Spec PyProof.Rows L2
section
variable {X : Cx} {CX : CXT} {pins : List (Addr × Obj)} {σ : L2.St} {H : Hp} {s : Shared} {C g : Addr} {n : Nat} {sp : Sp} {E : XK}
/-- what the written part says of C's own operator and of the other's type -/
structure OwnOp (K : PySem.W.Frag) (C g : Addr) (nm T : String) : Prop where
  self : PySem.W.selfFirst K C = true
  at_ : PySem.W.findIn K (.ref C) (PySem.dunder nm) = some (some (.ref g))
  fn : PySem.W.isFn K (.ref g) = true
  rn : PySem.W.findIn K (.ref C) (dunderR nm) = some none
  l : (PySem.W.findIn K (.type T) (PySem.dunder nm)).isSome = true
  r : (PySem.W.findIn K (.type T) (dunderR nm)).isSome = true
  sub : PySem.W.subIn K (.type T) (.ref C) = some false
def rOwnB (K : PySem.W.Frag) (nm : String) (g : Addr) (sp : Sp) (E : XK) : R2 := fun x y H Q => ∃ (a C dx : Addr) (fs : List (Str × V)) (T : String), x = .ref a ∧ H a = some (.ins C dx fs) ∧ TyX K H y (.type T) ∧ OwnOp K C g nm T ∧ sp [x, y] H Q E
theorem op_ownB {op : Operator} (F : FnR X.prog X.w X.K X.mg X.base CX n g sp) (hr : Room n X.A) (hx : Passes CX X E) : OpR X (binaryOp op) (rOwnB X.K op.info.2 g sp E) := by
  intro pins s σ H x y v u Q I rx ry h
  obtain ⟨a, C, dx, fs, T, rfl, ha, ty, O, q⟩ := h
  cases (show v = Value.ref a from rx)
  obtain ⟨mA, O1, _⟩ := ins_get I.hok ha
  obtain ⟨od, J, _⟩ := O1.look
  obtain ⟨P, Z, p, _⟩ := kit_of I ry ty
  obtain ⟨fo, efo⟩ := Option.isSome_iff_exists.mp O.l
  obtain ⟨ro, ero⟩ := Option.isSome_iff_exists.mp O.r
  refine PySem.W.ksp_binL I.kIn J (Z.ty _ _ I.kIn p) O.self O.at_ O.fn O.rn (.inl rfl) efo ero O.sub ?_
  refine thn (wpAny_call (run_fnR (us := [.ref a, u]) (vs := [.ref a, y]) F hr hx I (.cons rfl (.cons ry .nil)) q)) (fun w s' z => ?_)
  obtain ⟨z', H', I', rz, qz⟩ := z
  exact SlX.cmpback rz ⟨z', H', I', rz, qz⟩
/-! ### {x}, x an instance with its own __str__ -/
structure FmtC (K : PySem.W.Frag) (C g : Addr) : Prop where
  fm : PySem.W.findIn K (.ref C) "__format__" = some (some (.builtin "object.__format__"))
  mo : PySem.W.mroIn K C (.type "object") = some true
  at_ : PySem.W.findIn K (.ref C) "__str__" = some (some (.ref g))
  fn : PySem.W.isFn K (.ref g) = true
def tFmtO (P : Program) (w : World) (K : PySem.W.Frag) (mg : Str → Option Value) (base : Heap) (n : Nat) (te : TE) : TE := fun σ H Q => te σ H fun x H1 => ∃ (a C dx g : Addr) (fs : List (Str × V)) (sp : Sp), x = .ref a ∧ H1 a = some (.ins C dx fs) ∧
  FmtC K C g ∧ FnR P w K mg base CX0 n g sp ∧ sp [.ref a] H1 (fun z H' => ∃ i, z = .str i ∧ Q z H') (fun _ _ _ => False)
theorem pe_fmtO {e : Expr} {te : TE} {pos : Pos} (he : PE X e te) (hr : Room (n + 1) X.A) : PE X (.FormattedValue e (-1) none pos) (tFmtO X.prog X.w X.K X.mg X.base n te) := by
  refine ⟨fun pins s σ H Q I h => ?_⟩
  refine wpAny_FormattedValue_plain (thn (he.run pins s σ H _ I h) fun v s1 hv => ?_)
  obtain ⟨x, H1, I1, r1, a, C, dx, g, fs, sp, rfl, ha, T, F, q⟩ := hv
  cases (show v = Value.ref a from r1)
  obtain ⟨mA, O, _⟩ := ins_get I1.hok ha
  obtain ⟨od, J, _⟩ := O.look
  have hr2 : Room n X.A.in1 := Room.in1 hr
  have I2 := I1.tok (s1.toks + 1)
  refine PySem.W.kfo_fieldS hr2.units0 I1.kIn J T.fm T.mo T.at_ T.fn (thn (wpAny_call (SlX.run_at (us := [.ref a]) (ws := [.ref a]) F hr2 I2.env0.in1 pass0 I2 (.cons rfl .nil) q)) (fun w s' z => ?_))
  obtain ⟨z', H', I', rz, i, ei, qz⟩ := z
  subst ei
  obtain ⟨t, e⟩ := (show ∃ t, w = Value.str i t from rz)
  cases e
  exact ⟨.str i, H', I', ⟨t, rfl⟩, qz⟩
end
end Ev
set_option Elab.async false
set_option linter.all false
set_option maxRecDepth 100000
set_option maxHeartbeats 4000000
/-! == of tuples whose items are compared by an own __eq__, both answers. -/
namespace GQB
open PySem PySem.SeqAt GQ
open AutoSeq1 (wpAny_loadPart')
open MeetsSeq MeetsSeq2 MeetsSeq3 SeqRoads2
section
variable {prog : Program} {w : World} {A : Around} {R : Result → Shared → Prop} {E : Value → Shared → Prop} {s : Shared}
theorem tuple_eqB (l b : Addr) (items items2 : Array Value) (n n2 : Nat) (dd dd2 : Option Addr) (sl sl2 : Array (Option Value)) (I : Nat → Shared → Prop)
    (turn : ∀ i (h1 : i < items.size) (h2 : i < items2.size) s, I i s → wpAny (model prog w) A.in1 (eqBool items[i] items2[i]) (fun r s' => (r = true ∧ I (i + 1) s') ∨ (r = false ∧ R (.ok (.ret (.bool false))) s')) (fun e s' => R (.error e) s') s)
    (fin : ∀ i s, min items.size items2.size ≤ i → i ≤ items.size → i ≤ items2.size → I i s → R (.ok (.ret (.bool (items.size == items2.size)))) s) {s : Shared}
    (hl1 : s.heap.get? l = some { cls := .type "tuple", dict := dd, data := .seq items n, slots := sl }) (hb1 : s.heap.get? b = some { cls := .type "tuple", dict := dd2, data := .seq items2 n2, slots := sl2 }) (h : I 0 s) :
    wpAny (model prog w) A.in1 (Builtin.«tuple.__eq__» ⟨[.ref l, .ref b], []⟩) (FinOf prog w A R) (fun e s' => R (.error e) s') s := by
  have f2 := AutoSeq1.sub_tuple_tuple
  have hZ : (items.toList.zip items2.toList).length = min items.size items2.size := by simp
  have h0 := h
  obtain ⟨hp, g, d, tk, os⟩ := s
  wp_walk using wpAny_loadPart' hl1, wpAny_loadPart' hb1, wpAny_forIn_list _ (fun rest b s' => b.1 = none ∧ ∃ i, rest = (items.toList.zip items2.toList).drop i ∧ i ≤ items.size ∧ i ≤ items2.size ∧ I i s') _
  case turn =>
    rintro ⟨y, x⟩ rest b s' ⟨hb', i, hz, hi, hi2, hI⟩
    have hlt : i < (items.toList.zip items2.toList).length := by
      rcases Nat.lt_or_ge i (items.toList.zip items2.toList).length with h' | h'
      · exact h'
      · rw [List.drop_of_length_le h'] at hz; cases hz
    have hm : i < min items.size items2.size := hZ ▸ hlt
    have h1 : i < items.size := Nat.lt_of_lt_of_le hm (Nat.min_le_left _ _)
    have h2 : i < items2.size := Nat.lt_of_lt_of_le hm (Nat.min_le_right _ _)
    rw [List.drop_eq_getElem_cons hlt] at hz
    injection hz with hyx hrest
    have hy : y = items[i] := by have := congrArg Prod.fst hyx; simpa using this
    have hx : x = items2[i] := by have := congrArg Prod.snd hyx; simpa using this
    subst hy hx
    refine wpAny_bind (wpAny_mono (turn i h1 h2 s' hI) (fun r s2 q2 => ?_) fun _ _ x => x)
    rcases q2 with ⟨hr, q2⟩ | ⟨hr, q2⟩
    · subst hr
      wp_walk
      exact ⟨rfl, i + 1, hrest, h1, h2, q2⟩
    · subst hr
      wp_walk
      exact q2
  case fin =>
    rintro ⟨b1, b2⟩ s' ⟨hb', i, hz, hi, hi2, hI⟩
    simp only at hb'
    subst hb'
    have hge : min items.size items2.size ≤ i := by
      rcases Nat.lt_or_ge i (items.toList.zip items2.toList).length with h' | h'
      · rw [List.drop_eq_getElem_cons h'] at hz; cases hz
      · exact hZ ▸ h'
    have hR := fin i s' hge hi hi2 hI
    wp_walk
    simpa [Builtin.Tuple.tupleCompareSizes] using hR
  case h =>
    exact ⟨rfl, 0, rfl, Nat.zero_le _, Nat.zero_le _, h0⟩
end
end GQB

namespace L2
open PySem PySem.Spec PyProof.Rows
abbrev EqvB := V → V → Hp → Bool → Prop
def MonB (D : EqvB) : Prop := ∀ x y H H' b, Ext H H' → D x y H b → D x y H' b
def EqJ (X : Cx) (n : Nat) (D : EqvB) : Prop :=
  ∀ (A : Around) (pins : List (Addr × Obj)) (s : Shared) (σ : St) (H : Hp) (x y : V) (u v : Value) (b : Bool), Sub X n A → Inv X pins σ H s → RelV x u → RelV y v → D x y H b →
    wpAny (model X.prog X.w) A (eqBool u v) (fun r s' => r = b ∧ ∃ H', Inv X pins σ H' s' ∧ Ext H H') X.xe s
def RcJ (X : Cx) (n : Nat) (D : EqvB) : Prop :=
  ∀ (A : Around) (pins : List (Addr × Obj)) (s : Shared) (σ : St) (H : Hp) (x y : V) (u v : Value) (b : Bool), Sub X n A → Inv X pins σ H s → RelV x u → RelV y v → D x y H b →
    wpAny (model X.prog X.w) A (richCompare .Eq u v) (fun r s' => r = .bool b ∧ ∃ H', Inv X pins σ H' s' ∧ Ext H H') X.xe s
section
variable {X : Cx} {n m : Nat} {D D' : EqvB}
theorem EqJ.mono (h : EqJ X n D) (hn : n ≤ m) : EqJ X m D := fun A pins s σ H x y u v b sb => h A pins s σ H x y u v b (sb.mono hn)
theorem RcJ.mono (h : RcJ X n D) (hn : n ≤ m) : RcJ X m D := fun A pins s σ H x y u v b sb => h A pins s σ H x y u v b (sb.mono hn)
theorem EqJ.or (h : EqJ X n D) (h' : EqJ X n D') : EqJ X n (fun x y H b => D x y H b ∨ D' x y H b) := fun A pins s σ H x y u v b sb I rx ry d => by
  rcases d with d | d
  · exact h A pins s σ H x y u v b sb I rx ry d
  · exact h' A pins s σ H x y u v b sb I rx ry d
theorem EqJ.imp (h : EqJ X n D) (hd : ∀ x y H b, D' x y H b → D x y H b) : EqJ X n D' := fun A pins s σ H x y u v b sb I rx ry d => h A pins s σ H x y u v b sb I rx ry (hd x y H b d)
theorem RcJ.imp (h : RcJ X n D) (hd : ∀ x y H b, D' x y H b → D x y H b) : RcJ X n D' := fun A pins s σ H x y u v b sb I rx ry d => h A pins s σ H x y u v b sb I rx ry (hd x y H b d)
def DFlatB : EqvB := fun x y _ b => flatV x = true ∧ flatV y = true ∧ eqV x y = b
theorem eqJ_flat : EqJ X 0 DFlatB := by
  intro A pins s σ H x y u v b sb I rx ry d
  obtain ⟨fx, fy, e⟩ := d
  have q := eqAt_V (A := A) (s := s) rx ry fx fy
  rw [e] at q
  exact q X.prog X.w X.xe _ ⟨rfl, H, I, Ext.rfl'⟩
/-- the same object -/
def DSame : EqvB := fun x y _ b => (∃ a, x = .ref a ∧ y = .ref a) ∧ b = true
theorem eqJ_same : EqJ X 0 DSame := by
  intro A pins s σ H x y u v b sb I rx ry d
  obtain ⟨⟨a, rfl, rfl⟩, rfl⟩ := d
  cases rx
  cases ry
  exact SeqAt.EqAt.same (A := A) (s := s) (.ref a) X.prog X.w X.xe _ ⟨rfl, H, I, Ext.rfl'⟩
/-- item by item -/
inductive PrsB (D : EqvB) (H : Hp) : List V → List V → Bool → Prop
  | nil : PrsB D H [] [] true
  | nilL (y : V) (ys : List V) : PrsB D H [] (y :: ys) false
  | nilR (x : V) (xs : List V) : PrsB D H (x :: xs) [] false
  | yes {x y : V} {xs ys : List V} {b : Bool} : D x y H true → PrsB D H xs ys b → PrsB D H (x :: xs) (y :: ys) b
  | no {x y : V} {xs ys : List V} : D x y H false → PrsB D H (x :: xs) (y :: ys) false
theorem PrsB.mon (hD : MonB D) {H H' : Hp} (e : Ext H H') {xs ys : List V} {b : Bool} (p : PrsB D H xs ys b) : PrsB D H' xs ys b := by
  induction p with
  | nil => exact .nil
  | nilL y ys => exact .nilL y ys
  | nilR x xs => exact .nilR x xs
  | yes d _ ih => exact .yes (hD _ _ _ _ _ e d) ih
  | no d => exact .no (hD _ _ _ _ _ e d)
theorem PrsB.imp {H : Hp} (hd : ∀ x y b, D x y H b → D' x y H b) {xs ys : List V} {b : Bool} (p : PrsB D H xs ys b) : PrsB D' H xs ys b := by
  induction p with
  | nil => exact .nil
  | nilL y ys => exact .nilL y ys
  | nilR x xs => exact .nilR x xs
  | yes d _ ih => exact .yes (hd _ _ _ d) ih
  | no d => exact .no (hd _ _ _ d)
def DTupB (K : PySem.W.Frag) (D : EqvB) : EqvB := fun x y H b => ∃ a c xs ys, x = .ref a ∧ y = .ref c ∧ SqT K H a xs ∧ SqT K H c ys ∧ PrsB D H xs ys b
theorem monB_tup {K : PySem.W.Frag} (hD : MonB D) : MonB (DTupB K D) := fun x y H H' b e d => by
  obtain ⟨a, c, xs, ys, hx, hy, h1, h2, p⟩ := d
  exact ⟨a, c, xs, ys, hx, hy, h1.ext e, h2.ext e, p.mon hD e⟩
theorem rcJ_tup (hD : MonB D) (h : EqJ X n D) : RcJ X (n + 1) (DTupB X.K D) := by
  intro A pins s σ H x y u v b sb I rx ry d
  obtain ⟨a, c, xs, ys, rfl, rfl, ha, hb, p⟩ := d
  cases rx
  cases ry
  obtain ⟨its, r, hl, z⟩ := I.tuple ha
  obtain ⟨its2, r2, hb2, z2⟩ := I.tuple hb
  obtain ⟨⟨cls, dd, data, sl⟩, ho, hc, n1, hd⟩ := id hl
  obtain ⟨⟨cls2, dd2, data2, sl2⟩, ho2, hc2, n2, hd2⟩ := id hb2
  simp only at hc hd hc2 hd2
  subst hc hd hc2 hd2
  have l1 : xs.length = its.length := r.length
  have l2 : ys.length = its2.length := r2.length
  refine wpAny_richCompare_same_room (op := .Eq) ⟨_, ho, rfl⟩ ⟨_, ho2, rfl⟩ F.slot_tuple_eq (GQ.call_here F.slot_tuple_eq ⟨_, ho, rfl⟩ F.entry_tuple_eq (F.args_tuple_eq_2 _ _) ?_) sb.room.units0
  refine GQB.tuple_eqB (R := wants (fun v s' => v ≠ .notImplemented ∧ (v = .bool b ∧ ∃ H', Inv X pins σ H' s' ∧ Ext H H')) X.xe) a c its.toArray its2.toArray n1 n2 dd dd2 sl sl2
    (fun i s' => LoopI X pins σ H s' ∧ PrsB D H (xs.drop i) (ys.drop i) b) (fun i h1 h2 s' q => ?_) (fun i s' hm hi1 hi2 q => ?_) ho ho2 ⟨⟨H, I, Ext.rfl'⟩, by simpa using p⟩
  · obtain ⟨⟨H1, I1, e1⟩, pi⟩ := q
    have k1 : i < xs.length := by rw [l1]; simpa using h1
    have k2 : i < ys.length := by rw [l2]; simpa using h2
    have g1 : its[i]? = some its.toArray[i] := by
      have h1' : i < its.length := by simpa using h1
      rw [List.getElem?_eq_getElem h1'] <;> simp
    have g2 : its2[i]? = some its2.toArray[i] := by
      have h2' : i < its2.length := by simpa using h2
      rw [List.getElem?_eq_getElem h2'] <;> simp
    obtain ⟨u, hu, ru⟩ := r.get (List.getElem?_eq_getElem k1)
    obtain ⟨v, hv, rv⟩ := r2.get (List.getElem?_eq_getElem k2)
    rw [g1] at hu
    rw [g2] at hv
    rw [Option.some.inj hu, Option.some.inj hv]
    rw [List.drop_eq_getElem_cons k1, List.drop_eq_getElem_cons k2] at pi
    generalize ex : xs[i] = x at pi ru
    generalize ey : ys[i] = y at pi rv
    generalize exs : xs.drop (i + 1) = xs' at pi
    generalize eys : ys.drop (i + 1) = ys' at pi
    cases pi with
    | yes d p' =>
      refine wpAny_mono (h A.in1 pins s' σ H1 _ _ u v true sb.in1 I1 ru rv (hD _ _ _ _ _ e1 d)) (fun r s2 q => ?_) fun _ _ x => x
      obtain ⟨hr, H2, I2, e2⟩ := q
      exact .inl ⟨hr, ⟨H2, I2, e1.trans e2⟩, by subst exs eys; exact p'⟩
    | no d =>
      refine wpAny_mono (h A.in1 pins s' σ H1 _ _ u v false sb.in1 I1 ru rv (hD _ _ _ _ _ e1 d)) (fun r s2 q => ?_) fun _ _ x => x
      obtain ⟨hr, H2, I2, e2⟩ := q
      exact .inr ⟨hr, (fun x => nomatch x), rfl, H2, I2, e1.trans e2⟩
  · obtain ⟨⟨H1, I1, e1⟩, pi⟩ := q
    have j1 : i ≤ xs.length := by rw [l1]; simpa using hi1
    have j2 : i ≤ ys.length := by rw [l2]; simpa using hi2
    have jm : xs.length ≤ i ∨ ys.length ≤ i := by
      have : min its.length its2.length ≤ i := by simpa using hm
      rw [← l1, ← l2] at this
      omega
    refine ⟨(fun x => nomatch x), ?_, H1, I1, e1⟩
    have es : (its.toArray.size == its2.toArray.size) = (xs.length == ys.length) := by rw [List.size_toArray, List.size_toArray, l1, l2]
    rw [es]
    have : (xs.length == ys.length) = b := by
      have d1 : (xs.drop i).length = xs.length - i := List.length_drop
      have d2 : (ys.drop i).length = ys.length - i := List.length_drop
      generalize xs.drop i = xs' at pi d1
      generalize ys.drop i = ys' at pi d2
      cases pi with
      | nil =>
        simp at d1 d2
        have : xs.length = ys.length := by omega
        simp [this]
      | nilL y zs =>
        simp at d1 d2
        have : ¬ xs.length = ys.length := by omega
        simp [this]
      | nilR x zs =>
        simp at d1 d2
        apply Bool.eq_false_iff.mpr
        intro hh
        have := beq_iff_eq.mp hh
        omega
      | yes d p' => simp at d1 d2; omega
      | no d => simp at d1 d2; omega
    rw [this]
/-- an instance with its own __eq__ on the left -/
def DOwn (X : Cx) (n : Nat) : EqvB := fun x y H b => ∃ (a C g dx : Addr) (fs : List (Str × V)) (t : Value) (sp : Sp), x = .ref a ∧ H a = some (.ins C dx fs) ∧ TyX X.K H y t ∧ PySem.W.notFirst X.K C t = true ∧
  PySem.W.findIn X.K (.ref C) "__eq__" = some (some (.ref g)) ∧ PySem.W.isFn X.K (.ref g) = true ∧ FnR X.prog X.w X.K X.mg X.base CX0 n g sp ∧ sp [x, y] H (fun v H' => v = .bl b ∧ Ext H H') (fun _ _ _ => False)
theorem rcJ_own : RcJ X n (DOwn X n) := by
  intro A pins s σ H x y v u b sb I rx ry h
  obtain ⟨a, C, g, dx, fs, t, sp, rfl, ha, ty, hn, hs, hf, F, q⟩ := h
  cases (show v = Value.ref a from rx)
  obtain ⟨mA, O, _⟩ := ins_get I.hok ha
  obtain ⟨od, J, _⟩ := O.look
  obtain ⟨P, Z, p, _⟩ := kit_of I ry ty
  obtain ⟨m, hF⟩ := I.fr
  have e0 : Env0 X.prog X.w X.K X.mg X.base A X.stack s H := by
    have e := I.env0
    exact ⟨by rw [sb.fr]; exact e.frames, e.mod, e.bs, e.bsz, e.funs, e.frf, e.hok, e.bare⟩
  refine PySem.W.cmp_K (op := .Eq) (tb := t) sb.room.units0 hF I.ok.mod.kin J (Z.ty _ _ I.kIn p) hn hs hf ?_
  refine thn (wpAny_call (SlX.run_at (us := [.ref a, u]) (ws := [.ref a, y]) F sb.room e0 pass0 I (.cons rfl (.cons ry .nil)) q)) (fun w s' z => ?_)
  obtain ⟨z', H', I', rz, ez, ex⟩ := z
  subst ez
  cases rz
  exact ⟨rfl, H', I', ex⟩
theorem RcJ.eqJ (h : RcJ X n D) (hr : ∀ x y H b, D x y H b → ∃ a c, x = .ref a ∧ y = .ref c ∧ (a = c → b = true)) : EqJ X n D := by
  intro A pins s σ H x y u v b sb I rx ry d
  obtain ⟨a, c, rfl, rfl, hb⟩ := hr _ _ _ _ d
  cases rx
  cases ry
  by_cases hab : a = c
  · subst hab
    rw [hb rfl]
    exact SeqAt.EqAt.same (A := A) (s := s) (.ref a) X.prog X.w X.xe _ ⟨rfl, H, I, Ext.rfl'⟩
  · refine GQ.eqBool_refG hab (wpAny_mono (h A pins s σ H (.ref a) (.ref c) _ _ b sb I rfl rfl d) (fun r s' q => ?_) fun _ _ x => x)
    obtain ⟨hr', q⟩ := q
    exact ⟨b, hr', rfl, q⟩
/-- x == y as an expression -/
def rEqJ (D : EqvB) : R2 := fun x y H Q => ∃ b, D x y H b ∧ ∀ H', Ext H H' → Q (.bl b) H'
theorem op_eqJ (h : RcJ X n D) (hr : Room n X.A) : OpR X (compareOp .Eq) (rEqJ D) := by
  intro pins s σ H x y v u Q I rx ry hq
  obtain ⟨b, d, q⟩ := hq
  show wpAny (model X.prog X.w) X.A (richCompare .Eq v u) (EP X pins σ Q) X.xe s
  refine wpAny_mono (h X.A pins s σ H x y v u b ⟨hr, rfl⟩ I rx ry d) (fun r s' z => ?_) fun _ _ x => x
  obtain ⟨hr', H', I', e⟩ := z
  subst hr'
  exact ⟨.bl b, H', I', rfl, q H' e⟩
end
end L2
set_option Elab.async false
set_option linter.all false
set_option maxRecDepth 100000
set_option maxHeartbeats 4000000
/-! What the written part says of all classes of parts. -/
namespace Ev
open PySem PySem.Spec PyProof.Rows L2 PySem.W
def allP : List Str := ["Kind", "Byte", "Use", "Row", "Record", "Overlay"]
def grpP : List Str := ["Row", "Record", "Overlay"]
def flatT : List String := ["str", "int", "bool", "NoneType", "tuple", "list", "dict"]
def six (K : Frag) : List Value := allP.map fun x => .ref (He.ga K x)
abbrev gP (K : Frag) : Addr := He.ga K "Part"
def isIntV (n : Int) : Option CFound → Bool
  | some (.val (.int i _)) => decide (i = n)
  | _ => false
theorem isIntV_ok {n : Int} {r : Option CFound} (h : isIntV n r = true) : ∃ t, r = some (.val (.int n t)) := by
  unfold isIntV at h
  split at h
  · rename_i i t
    exact ⟨t, by rw [of_decide_eq_true h]⟩
  · cases h
structure PC (K : Frag) (x : Str) : Prop where
  nm : nameIn K (He.ga K x) x = true
  gn : findCls K (.ref (He.ga K x)) (.type "type") "__name__" = getN (He.ga K x)
  rd : readsIn K (He.ga K x) (.type "type") = true
  gt : specialIn K (.ref (He.ga K x)) "__getattribute__" = some (some (.builtin "type.__getattribute__"))
  ca : findIn K (.ref (He.ga K x)) "__class__" = some (some (.builtin "object.__class__"))
  cm : mroIn K (He.ga K x) (.type "object") = some true
  eq : findIn K (.ref (He.ga K x)) "__eq__" = some (some (.ref (He.ma K (gP K) "__eq__")))
  ne : findIn K (.ref (He.ga K x)) "__ne__" = some (some (.builtin "object.__ne__"))
  kp : kitOne K (.ref (He.ga K x)) (.ref (gP K)) = some true
  nf : ∀ y ∈ allP, notFirst K (He.ga K x) (.ref (He.ga K y)) = true
  ft : ∀ t ∈ flatT, notFirst K (He.ga K x) (.type t) = true
  isP : kitAny K (.ref (He.ga K x)) (six K) = some true
  isG : kitOne K (.ref (He.ga K x)) (.ref (He.ga K "Group")) = some (decide (x ∈ grpP))
  isS : kitOne K (.ref (He.ga K x)) (.ref (He.ga K "Spread")) = some (decide (x = "Overlay"))
  isR : ∀ y ∈ allP, kitOne K (.ref (He.ga K x)) (.ref (He.ga K y)) = some (decide (x = y))
  isT : ∀ t ∈ flatT, kitOne K (.ref (He.ga K x)) (.type t) = some false
  ln : x ∈ grpP → findIn K (.ref (He.ga K x)) "__len__" = some (some (.ref (He.ma K (He.ga K "Group") "__len__")))
  fm : findIn K (.ref (He.ga K x)) "__format__" = some (some (.builtin "object.__format__"))
  op : ∀ T ∈ flatT, OwnOp K (He.ga K x) (He.ma K (gP K) "__mul__") "mul" T
def opB (K : Frag) (C g : Addr) (nm T : String) : Bool := selfFirst K C && (eqS (findIn K (.ref C) (PySem.dunder nm)) (some (some (.ref g))) && (isFn K (.ref g) &&
  (eqS (findIn K (.ref C) (dunderR nm)) (some none) && ((findIn K (.type T) (PySem.dunder nm)).isSome && ((findIn K (.type T) (dunderR nm)).isSome && decide (subIn K (.type T) (.ref C) = some false))))))
theorem opB_ok {K : Frag} {C g : Addr} {nm T : String} (h : opB K C g nm T = true) : OwnOp K C g nm T := by
  obtain ⟨h1, h⟩ := two h
  obtain ⟨h2, h⟩ := two h
  obtain ⟨h3, h⟩ := two h
  obtain ⟨h4, h⟩ := two h
  obtain ⟨h5, h⟩ := two h
  obtain ⟨h6, h7⟩ := two h
  exact ⟨h1, of_decide_eq_true h2, h3, of_decide_eq_true h4, h5, h6, of_decide_eq_true h7⟩
def pcB (K : Frag) (x : Str) : Bool := nameIn K (He.ga K x) x && (isN (He.ga K x) (findCls K (.ref (He.ga K x)) (.type "type") "__name__") && (readsIn K (He.ga K x) (.type "type") &&
  (eqS (specialIn K (.ref (He.ga K x)) "__getattribute__") (some (some (.builtin "type.__getattribute__"))) &&
  (eqS (findIn K (.ref (He.ga K x)) "__class__") (some (some (.builtin "object.__class__"))) && (decide (mroIn K (He.ga K x) (.type "object") = some true) &&
  (eqS (findIn K (.ref (He.ga K x)) "__eq__") (some (some (.ref (He.ma K (gP K) "__eq__")))) && (eqS (findIn K (.ref (He.ga K x)) "__ne__") (some (some (.builtin "object.__ne__"))) &&
  (decide (kitOne K (.ref (He.ga K x)) (.ref (gP K)) = some true) && ((allP.all fun y => notFirst K (He.ga K x) (.ref (He.ga K y))) &&
  ((flatT.all fun t => notFirst K (He.ga K x) (.type t)) && (decide (kitAny K (.ref (He.ga K x)) (six K) = some true) &&
  (decide (kitOne K (.ref (He.ga K x)) (.ref (He.ga K "Group")) = some (decide (x ∈ grpP))) && (decide (kitOne K (.ref (He.ga K x)) (.ref (He.ga K "Spread")) = some (decide (x = "Overlay"))) &&
  ((allP.all fun y => decide (kitOne K (.ref (He.ga K x)) (.ref (He.ga K y)) = some (decide (x = y)))) && ((flatT.all fun t => decide (kitOne K (.ref (He.ga K x)) (.type t) = some false)) && ((decide (x ∉ grpP) || eqS (findIn K (.ref (He.ga K x)) "__len__") (some (some (.ref (He.ma K (He.ga K "Group") "__len__"))))) && (eqS (findIn K (.ref (He.ga K x)) "__format__") (some (some (.builtin "object.__format__"))) &&
  (flatT.all fun T => opB K (He.ga K x) (He.ma K (gP K) "__mul__") "mul" T))))))))))))))))))
theorem pcB_ok {K : Frag} {x : Str} (h : pcB K x = true) : PC K x := by
  obtain ⟨h1, h⟩ := two h
  obtain ⟨h2, h⟩ := two h
  obtain ⟨h3, h⟩ := two h
  obtain ⟨h3', h⟩ := two h
  obtain ⟨h4, h⟩ := two h
  obtain ⟨h5, h⟩ := two h
  obtain ⟨h6, h⟩ := two h
  obtain ⟨h7, h⟩ := two h
  obtain ⟨h8, h⟩ := two h
  obtain ⟨h9, h⟩ := two h
  obtain ⟨h10, h⟩ := two h
  obtain ⟨h11, h⟩ := two h
  obtain ⟨h12, h⟩ := two h
  obtain ⟨h13, h⟩ := two h
  obtain ⟨h14, h⟩ := two h
  obtain ⟨h14', h⟩ := two h
  obtain ⟨h14b, h⟩ := two h
  obtain ⟨h15, h16⟩ := two h
  exact ⟨h1, isN_ok h2, h3, of_decide_eq_true h3', of_decide_eq_true h4, of_decide_eq_true h5, of_decide_eq_true h6, of_decide_eq_true h7, of_decide_eq_true h8, fun y hy => List.all_eq_true.mp h9 y hy, fun t ht => List.all_eq_true.mp h10 t ht,
    of_decide_eq_true h11, of_decide_eq_true h12, of_decide_eq_true h13, fun y hy => of_decide_eq_true (List.all_eq_true.mp h14 y hy), fun t ht => of_decide_eq_true (List.all_eq_true.mp h14' t ht), fun hx => by
      rw [decide_eq_false (fun z => z hx), Bool.false_or] at h14b
      exact of_decide_eq_true h14b, of_decide_eq_true h15, fun t ht => opB_ok (List.all_eq_true.mp h16 t ht)⟩
theorem PC.crd {K : Frag} {x : Str} (h : PC K x) : ClX.CRead K (He.ga K x) (.type "type") := ⟨h.rd, h.gt⟩
structure PartsF (K : Frag) : Prop where
  one : ∀ x ∈ allP, PC K x
  offP : OffT K (gP K) (He.ma K (gP K) "__init__")
  offG : OffT K (He.ga K "Group") (He.ma K (gP K) "__init__")
  depth : ∃ t, findCls K (.ref (gP K)) (.type "type") "DEPTH" = some (.val (.int 4 t))
  mostW : ∃ t, findCls K (.ref (He.ga K "Row")) (.type "type") "MOST" = some (.val (.int 64 t))
  mostR : ∃ t, findCls K (.ref (He.ga K "Record")) (.type "type") "MOST" = some (.val (.int 8 t))
  mostO : ∃ t, findCls K (.ref (He.ga K "Overlay")) (.type "type") "MOST" = some (.val (.int 4 t))
  eqF : isFn K (.ref (He.ma K (gP K) "__eq__")) = true
  lenF : isFn K (.ref (He.ma K (He.ga K "Group") "__len__")) = true
  cn : specialIn K (.builtin "object.__class__") "__get__" = some (some (.builtin "getset_descriptor.__get__"))
  ct : takesIn K (.builtin "object.__class__") = some true
  flat : ∀ t ∈ flatT, kitOne K (.type t) (.ref (gP K)) = some false
  flatP : ∀ t ∈ flatT, kitAny K (.type t) (six K) = some false
  bar : He.tupB K "BARRED" (barred.map He.Dv.str) = true
  nil : ∀ i < 2, nilT K (dfT i K) = true
def partsFB (K : Frag) : Bool := (allP.all fun x => pcB K x) && (offB K (gP K) (He.ma K (gP K) "__init__") && (offB K (He.ga K "Group") (He.ma K (gP K) "__init__") &&
  (isIntV 4 (findCls K (.ref (gP K)) (.type "type") "DEPTH") && (isIntV 64 (findCls K (.ref (He.ga K "Row")) (.type "type") "MOST") && (isIntV 8 (findCls K (.ref (He.ga K "Record")) (.type "type") "MOST") &&
  (isIntV 4 (findCls K (.ref (He.ga K "Overlay")) (.type "type") "MOST") && (isFn K (.ref (He.ma K (gP K) "__eq__")) && (isFn K (.ref (He.ma K (He.ga K "Group") "__len__")) &&
  (eqS (specialIn K (.builtin "object.__class__") "__get__") (some (some (.builtin "getset_descriptor.__get__"))) && (decide (takesIn K (.builtin "object.__class__") = some true) &&
  ((flatT.all fun t => decide (kitOne K (.type t) (.ref (gP K)) = some false)) && ((flatT.all fun t => decide (kitAny K (.type t) (six K) = some false)) &&
  (He.tupB K "BARRED" (barred.map He.Dv.str) && (nilT K (dfT 0 K) && nilT K (dfT 1 K)))))))))))))))
theorem partsFB_ok {K : Frag} (h : partsFB K = true) : PartsF K := by
  obtain ⟨h1, h⟩ := two h
  obtain ⟨h2, h⟩ := two h
  obtain ⟨h2', h⟩ := two h
  obtain ⟨h3, h⟩ := two h
  obtain ⟨h3a, h⟩ := two h
  obtain ⟨h3b, h⟩ := two h
  obtain ⟨h3c, h⟩ := two h
  obtain ⟨h4, h⟩ := two h
  obtain ⟨h4b, h⟩ := two h
  obtain ⟨h5, h⟩ := two h
  obtain ⟨h6, h⟩ := two h
  obtain ⟨h7, h⟩ := two h
  obtain ⟨h7', h⟩ := two h
  obtain ⟨h8, h⟩ := two h
  obtain ⟨h9, h10⟩ := two h
  refine ⟨fun x hx => pcB_ok (List.all_eq_true.mp h1 x hx), offB_ok h2, offB_ok h2', isIntV_ok h3, isIntV_ok h3a, isIntV_ok h3b, isIntV_ok h3c, h4, h4b, of_decide_eq_true h5, of_decide_eq_true h6, fun t ht => of_decide_eq_true (List.all_eq_true.mp h7 t ht),
    fun t ht => of_decide_eq_true (List.all_eq_true.mp h7' t ht), h8, fun i hi => ?_⟩
  match i, hi with
  | 0, _ => exact h9
  | 1, _ => exact h10
theorem PartsF.clsC {K : Frag} (T : PartsF K) {x : Str} (hx : x ∈ allP) (c : Cls K (He.ga K x)) : ClsC K (He.ga K x) := ⟨c, (T.one x hx).ca, T.cn, T.ct, (T.one x hx).cm⟩
end Ev
set_option Elab.async false
set_option linter.all false
/-! Numbers that classes give. -/
namespace Ev
open PySem PySem.W PySem.Spec PyProof.Rows L2
structure ConstAt (K : Frag) (x m : Str) (n : Int) : Prop where
  crd : ClX.CRead K (He.ga K x) (.type "type")
  at_ : ∃ t, findCls K (.ref (He.ga K x)) (.type "type") m = some (.val (.int n t))
def constB (K : Frag) (x m : Str) (n : Int) : Bool := readsIn K (He.ga K x) (.type "type") && (eqS (specialIn K (.ref (He.ga K x)) "__getattribute__") (some (some (.builtin "type.__getattribute__"))) && isIntV n (findCls K (.ref (He.ga K x)) (.type "type") m))
theorem constB_ok {K : Frag} {x m : Str} {n : Int} (h : constB K x m n = true) : ConstAt K x m n := by
  obtain ⟨h1, h⟩ := two h
  obtain ⟨h2, h3⟩ := two h
  exact ⟨⟨h1, of_decide_eq_true h2⟩, isIntV_ok h3⟩
def constsB (K : Frag) (l : List (Str × Str × Int)) : Bool := l.all fun q => constB K q.1 q.2.1 q.2.2
theorem constsB_ok {K : Frag} {l : List (Str × Str × Int)} (h : constsB K l = true) : ∀ q ∈ l, ConstAt K q.1 q.2.1 q.2.2 := fun q hq => constB_ok (List.all_eq_true.mp h q hq)
end Ev
set_option Elab.async false
set_option linter.all false
set_option maxRecDepth 100000
set_option maxHeartbeats 1000000
/-! Values as trees: what a value is worth; a def's own lists and dicts; the state of a body by these. -/
namespace Dl
open PySem PySem.Spec PyProof.Rows L2
/-- a value as a tree; o: the program's own objects -/
inductive D (O : Type) : Type where
  | non | bl (b : Bool) | int (i : Int) | str (s : Str) | ty (n : String) | cls (x : Str) | ptr (a : Addr)
  | tup (xs : List (D O)) | lst (xs : List (D O)) | dic (kvs : List (Key × D O)) | obj (o : O)
def isDc : HO → Bool
  | .dK _ => true
  | .dT _ => true
  | _ => false
/-- all stays, but dicts may be locked, locked ones free again -/
def Sim (H H' : Hp) : Prop := ∀ a o, H a = some o → H' a = some o ∨ (isDc o = true ∧ ∃ ob, H' a = some (.frz ob o)) ∨ ∃ ob u, o = .frz ob u ∧ isDc u = true ∧ H' a = some u
theorem Sim.of {H H' : Hp} (S : Same H H') : Sim H H' := fun a o h => .inl (S a o h)
theorem Sim.keep {H H' : Hp} (S : Sim H H') {a : Addr} {o : HO} (h : H a = some o) (n : isDc o = false) (f : ∀ ob u, o ≠ .frz ob u) : H' a = some o := by
  rcases S a o h with h | ⟨e, _⟩ | ⟨ob, u, e, _⟩
  · exact h
  · rw [n] at e; cases e
  · exact absurd e (f ob u)
theorem Sim.rd {H H' : Hp} (S : Sim H H') {a : Addr} {u : HO} (h : Rd H a u) (f : ∀ ob v, u ≠ .frz ob v) : Rd H' a u := by
  rcases h with h | ⟨o, h⟩
  · rcases S a u h with h | ⟨_, ob, h⟩ | ⟨ob, v, e, _⟩
    · exact .inl h
    · exact .inr ⟨ob, h⟩
    · exact absurd e (f ob v)
  · rcases S a _ h with h | ⟨e, _⟩ | ⟨ob, v, e, _, h⟩
    · exact .inr ⟨o, h⟩
    · cases e
    · cases e; exact .inl h
/-- the own objects of a program, by what stands in the heap -/
structure Th (K : PySem.W.Frag) where
  O : Type
  RO : Hp → Addr → O → Prop
  sim : ∀ {H H' : Hp} {a : Addr} {o : O}, Sim H H' → RO H a o → RO H' a o
variable {K : PySem.W.Frag} (T : Th K)
abbrev Dt : Type := D T.O
abbrev Sg : Type := L2.St
mutual
/-- the value v is worth d in H -/
inductive Rep (H : Hp) : V → D T.O → Prop
  | non : Rep H .non .non
  | bl (b : Bool) : Rep H (.bl b) (.bl b)
  | int (i : Int) : Rep H (.int i) (.int i)
  | str (s : Str) (z : s.length ≤ sizeLine) : Rep H (.str s) (.str s)
  | ty (n : String) : Rep H (.ty n) (.ty n)
  | cls (x : Str) : Rep H (.ref (He.ga K x)) (.cls x)
  | ptr (a : Addr) : Rep H (.ref a) (.ptr a)
  | tup {a : Addr} {vs : List V} {ds : List (D T.O)} : SqT K H a vs → RepL H vs ds → Rep H (.ref a) (.tup ds)
  | lst {a : Addr} {vs : List V} {ds : List (D T.O)} : H a = some (.lst vs) → RepL H vs ds → Rep H (.ref a) (.lst ds)
  | dic {a : Addr} {kvs : List (Key × V)} {kds : List (Key × D T.O)} : Rd H a (.dK kvs) → RepK H kvs kds → Rep H (.ref a) (.dic kds)
  | obj {a : Addr} {o : T.O} : T.RO H a o → Rep H (.ref a) (.obj o)
inductive RepL (H : Hp) : List V → List (D T.O) → Prop
  | nil : RepL H [] []
  | cons {v : V} {d : D T.O} {vs : List V} {ds : List (D T.O)} : Rep H v d → RepL H vs ds → RepL H (v :: vs) (d :: ds)
inductive RepK (H : Hp) : List (Key × V) → List (Key × D T.O) → Prop
  | nil : RepK H [] []
  | cons {k : Key} {v : V} {d : D T.O} {vs : List (Key × V)} {ds : List (Key × D T.O)} : Rep H v d → RepK H vs ds → RepK H ((k, v) :: vs) ((k, d) :: ds)
end
theorem same_rd {H H' : Hp} {a : Addr} {u : HO} (S : Same H H') (h : Rd H a u) : Rd H' a u := by
  rcases h with h | ⟨o, h⟩
  · exact .inl (S _ _ h)
  · exact .inr ⟨o, S _ _ h⟩
theorem same_seqL {H H' : Hp} {a : Addr} {xs : List V} (S : Same H H') (h : SqL K H a xs) : SqL K H' a xs := by
  rcases h with h | h
  · exact .inl (same_rd S h)
  · exact .inr h
theorem same_seqT {H H' : Hp} {a : Addr} {xs : List V} (S : Same H H') (h : SqT K H a xs) : SqT K H' a xs := by
  rcases h with h | h
  · exact .inl (same_rd S h)
  · exact .inr h
variable {T}
theorem sim_seqT {H H' : Hp} {a : Addr} {xs : List V} (S : Sim H H') (h : SqT K H a xs) : SqT K H' a xs := by
  rcases h with h | h
  · exact .inl (S.rd h fun _ _ z => nomatch z)
  · exact .inr h
mutual
theorem Rep.sim {H H' : Hp} (S : Sim H H') : ∀ {v : V} {d : D T.O}, Rep T H v d → Rep T H' v d
  | _, _, .non => .non
  | _, _, .bl b => .bl b
  | _, _, .int i => .int i
  | _, _, .str s z => .str s z
  | _, _, .ty n => .ty n
  | _, _, .cls x => .cls x
  | _, _, .ptr a => .ptr a
  | _, _, .tup a b => .tup (sim_seqT S a) (b.sim S)
  | _, _, .lst a b => .lst (S.keep a rfl fun _ _ z => nomatch z) (b.sim S)
  | _, _, .dic a b => .dic (S.rd a fun _ _ z => nomatch z) (b.sim S)
  | _, _, .obj a => .obj (T.sim S a)
theorem RepL.sim {H H' : Hp} (S : Sim H H') : ∀ {vs : List V} {ds : List (D T.O)}, RepL T H vs ds → RepL T H' vs ds
  | _, _, .nil => .nil
  | _, _, .cons a b => .cons (a.sim S) (b.sim S)
theorem RepK.sim {H H' : Hp} (S : Sim H H') : ∀ {vs : List (Key × V)} {ds : List (Key × D T.O)}, RepK T H vs ds → RepK T H' vs ds
  | _, _, .nil => .nil
  | _, _, .cons a b => .cons (a.sim S) (b.sim S)
end
theorem Rep.mono {H H' : Hp} (S : Same H H') {v : V} {d : D T.O} (r : Rep T H v d) : Rep T H' v d := r.sim (.of S)
theorem RepL.mono {H H' : Hp} (S : Same H H') {vs : List V} {ds : List (D T.O)} (r : RepL T H vs ds) : RepL T H' vs ds := r.sim (.of S)
theorem RepK.mono {H H' : Hp} (S : Same H H') {vs : List (Key × V)} {ds : List (Key × D T.O)} (r : RepK T H vs ds) : RepK T H' vs ds := r.sim (.of S)
theorem Th.mono {K : PySem.W.Frag} (T : Th K) {H H' : Hp} {a : Addr} {o : T.O} (S : Same H H') (r : T.RO H a o) : T.RO H' a o := T.sim (.of S) r
/-! ### lists of values and of what they are worth -/
theorem RepL.len {H : Hp} : ∀ {vs : List V} {ds : List (D T.O)}, RepL T H vs ds → vs.length = ds.length
  | _, _, .nil => rfl
  | _, _, .cons _ b => congrArg (· + 1) b.len
theorem RepL.get {H : Hp} : ∀ {vs : List V} {ds : List (D T.O)} {i : Nat} {d : D T.O}, RepL T H vs ds → ds[i]? = some d → ∃ v, vs[i]? = some v ∧ Rep T H v d
  | _, _, _, _, .nil, e => by simp at e
  | _, _, 0, _, .cons a _, e => by simp at e; subst e; exact ⟨_, rfl, a⟩
  | _, _, i + 1, d, .cons _ b, e => by
    obtain ⟨v, h1, h2⟩ := RepL.get (i := i) (d := d) b (by simpa using e)
    exact ⟨v, by simpa using h1, h2⟩
theorem RepL.getV {H : Hp} : ∀ {vs : List V} {ds : List (D T.O)} {i : Nat} {v : V}, RepL T H vs ds → vs[i]? = some v → ∃ d, ds[i]? = some d ∧ Rep T H v d
  | _, _, _, _, .nil, e => by simp at e
  | _, _, 0, _, .cons a _, e => by simp at e; subst e; exact ⟨_, rfl, a⟩
  | _, _, i + 1, v, .cons _ b, e => by
    obtain ⟨d, h1, h2⟩ := RepL.getV (i := i) (v := v) b (by simpa using e)
    exact ⟨d, by simpa using h1, h2⟩
theorem RepL.app {H : Hp} : ∀ {vs us : List V} {ds es : List (D T.O)}, RepL T H vs ds → RepL T H us es → RepL T H (vs ++ us) (ds ++ es)
  | _, _, _, _, .nil, h => h
  | _, _, _, _, .cons a b, h => .cons a (b.app h)
theorem RepL.take {H : Hp} : ∀ {vs : List V} {ds : List (D T.O)} (n : Nat), RepL T H vs ds → RepL T H (vs.take n) (ds.take n)
  | _, _, 0, _ => by rw [List.take_zero, List.take_zero]; exact .nil
  | _, _, n + 1, .nil => .nil
  | _, _, n + 1, .cons a b => .cons a (b.take n)
theorem RepL.drop {H : Hp} : ∀ {vs : List V} {ds : List (D T.O)} (n : Nat), RepL T H vs ds → RepL T H (vs.drop n) (ds.drop n)
  | _, _, 0, h => h
  | _, _, n + 1, .nil => .nil
  | _, _, n + 1, .cons _ b => b.drop n
theorem RepL.set {H : Hp} {v : V} {d : D T.O} (r : Rep T H v d) : ∀ {vs : List V} {ds : List (D T.O)} (n : Nat), RepL T H vs ds → RepL T H (vs.set n v) (ds.set n d)
  | _, _, _, .nil => .nil
  | _, _, 0, .cons _ b => .cons r b
  | _, _, n + 1, .cons a b => .cons a (b.set r n)
theorem RepK.len {H : Hp} : ∀ {vs : List (Key × V)} {ds : List (Key × D T.O)}, RepK T H vs ds → vs.length = ds.length
  | _, _, .nil => rfl
  | _, _, .cons _ b => congrArg (· + 1) b.len
theorem RepK.keys {H : Hp} : ∀ {vs : List (Key × V)} {ds : List (Key × D T.O)}, RepK T H vs ds → vs.map (·.1) = ds.map (·.1)
  | _, _, .nil => rfl
  | _, _, .cons _ b => congrArg (_ :: ·) b.keys
/-! ### what is hidden: the own lists and dicts of bodies -/
abbrev As := List (Option Addr)
def ow (as : As) : List Addr := as.filterMap id
def hid (Z : List Addr) (H : Hp) : Hp := fun a => if a ∈ Z then none else H a
theorem hid_sub {Z : List Addr} {H : Hp} : Same (hid Z H) H := fun a o h => by
  unfold hid at h
  split at h
  · cases h
  · exact h
theorem hid_out {Z : List Addr} {H : Hp} {a : Addr} (h : a ∉ Z) : hid Z H a = H a := if_neg h
theorem hid_in {Z : List Addr} {H : Hp} {a : Addr} (h : a ∈ Z) : hid Z H a = none := if_pos h
theorem hid_some {Z : List Addr} {H : Hp} {a : Addr} {o : HO} (h : hid Z H a = some o) : a ∉ Z ∧ H a = some o := by
  unfold hid at h
  split at h
  · cases h
  · rename_i g; exact ⟨g, h⟩
theorem hid_same {Z Z' : List Addr} {H H' : Hp} (S : Same H H') (h : ∀ a, a ∈ Z' → a ∈ Z ∨ H a = none) : Same (hid Z H) (hid Z' H') := fun a o e => by
  obtain ⟨n, e⟩ := hid_some e
  rw [hid_out]
  · exact S _ _ e
  · intro z
    rcases h a z with z | z
    · exact n z
    · rw [z] at e; cases e
theorem hid_congr {Z Z' : List Addr} {H : Hp} (h : ∀ a, a ∈ Z ↔ a ∈ Z') : hid Z H = hid Z' H := by
  funext a
  unfold hid
  by_cases g : a ∈ Z
  · rw [if_pos g, if_pos ((h a).mp g)]
  · rw [if_neg g, if_neg (fun z => g ((h a).mpr z))]
theorem same_refl (H : Hp) : Same H H := fun _ _ z => z
theorem same_trans {H H1 H2 : Hp} (a : Same H H1) (b : Same H1 H2) : Same H H2 := fun x o h => b x o (a x o h)
theorem mem_ow {as : As} {a : Addr} : a ∈ ow as ↔ some a ∈ as := by
  unfold ow
  rw [List.mem_filterMap]
  exact ⟨fun ⟨x, h, e⟩ => by cases x with
    | none => cases e
    | some b => cases e; exact h, fun h => ⟨some a, h, rfl⟩⟩
/-! ### what a def's own objects hold -/
inductive Cell (O : Type) where
  | lst (xs : List (D O)) | dic (kvs : List (Key × D O)) | ins (C : Str) (fs : List (Str × D O)) | tab (q : Str) | gone
abbrev RepF {K : PySem.W.Frag} (T : Th K) (h : Hp) : List (Str × V) → List (Str × D T.O) → Prop := Paired fun x y => x.1 = y.1 ∧ Rep T h x.2 y.2
theorem RepF.mono {K : PySem.W.Frag} {T : Th K} {h h' : Hp} (S : Same h h') {vs : List (Str × V)} {ds : List (Str × D T.O)} (r : RepF T h vs ds) : RepF T h' vs ds := Paired.mapP r fun a b q => ⟨q.1, q.2.mono S⟩
variable (T)
def CellAt (h H : Hp) : Option Addr → Cell T.O → Prop
  | some p, .lst ds => ∃ vs, H p = some (.lst vs) ∧ RepL T h vs ds
  | some p, .dic kds => ∃ kvs, H p = some (.dK kvs) ∧ RepK T h kvs kds
  | some p, .ins C fs => ∃ dx vs, H p = some (.ins (He.ga K C) dx vs) ∧ RepF T h vs fs
  | some p, .tab q => ∃ ps : Array Value, H p = some (.tbl ps) ∧ TriplesOk ps.toList ∧ ∀ (pos : Pos) (cv : Value), codeAmong pos ps.toList = some cv → ∃ c, cv = .ref c ∧ h c = some (LamX.CodeO c q)
  | none, .gone => True
  | _, _ => False
/-- a slot: a value, or the own object i -/
inductive Sl (O : Type) where
  | dat (d : D O) | own (i : Nat)
def SlotAt (as : As) (h : Hp) (v : V) : Sl T.O → Prop
  | .dat d => Rep T h v d
  | .own i => i < as.length ∧ ∀ p, as[i]? = some (some p) → v = .ref p
abbrev G : Type := List (Option (Sl T.O))
abbrev Cs : Type := List (Cell T.O)
structure EnvAt (as : As) (h : Hp) (g : G T) (σ : Sg) : Prop where
  len : g.length = σ.length
  at_ : ∀ (i : Nat) (s : Sl T.O), g[i]? = some (some s) → ∃ v, σ[i]? = some (some v) ∧ SlotAt T as h v s
/-- an object that is no word of code -/
def nco : Option HO → Prop
  | none => False
  | some (.ext _) => False
  | some _ => True
theorem nco.ne {o : Option HO} (h : nco o) : o ≠ none := fun z => by rw [z] at h; exact h
theorem CellAt.nco {h H : Hp} {p : Addr} {c : Cell T.O} (r : CellAt T h H (some p) c) : nco (H p) := by
  cases c with
  | lst ds => obtain ⟨vs, e, _⟩ := r; rw [e]; trivial
  | dic ds => obtain ⟨vs, e, _⟩ := r; rw [e]; trivial
  | ins C ds => obtain ⟨dx, vs, e, _⟩ := r; rw [e]; trivial
  | tab q => obtain ⟨vs, e, _⟩ := r; rw [e]; trivial
  | gone => exact r.elim
structure StC (Z : List Addr) (as : As) (cs : Cs T) (H : Hp) : Prop where
  nd : (ow as).Nodup
  apart : ∀ p ∈ ow as, p ∉ Z
  live : ∀ p ∈ Z ++ ow as, nco (H p)
  cells : Paired (CellAt T (hid (Z ++ ow as) H) H) as cs
/-- where a body began: what is hidden, its own arguments' addresses, the heap -/
structure Ba where
  Z : List Addr
  as0 : As
  H0 : Hp
/-- as' from as: some more, some given away -/
structure Lk (as as' : As) : Prop where
  le : as.length ≤ as'.length
  at_ : ∀ i, i < as.length → as'[i]? = as[i]? ∨ as'[i]? = some none
structure Kp (B : Ba) (as : As) (H : Hp) : Prop where
  lk : Lk B.as0 as
  kept : ∀ a o, a ∉ ow B.as0 → B.H0 a = some o → H a = some o
  fresh : ∀ p ∈ ow as, p ∉ ow B.as0 → B.H0 p = none
structure Stt (B : Ba) (g : G T) (as : As) (cs : Cs T) (σ : Sg) (H : Hp) : Prop where
  c : StC T B.Z as cs H
  e : EnvAt T as (hid (B.Z ++ ow as) H) g σ
  k : Kp B as H
/-- what an expression may do -/
structure Ex (B : Ba) (as : As) (H : Hp) (as' : As) (cs' : Cs T) (H' : Hp) : Prop where
  c : StC T B.Z as' cs' H'
  lk : Lk as as'
  same : Same (hid (B.Z ++ ow as) H) (hid (B.Z ++ ow as') H')
  fresh : ∀ p ∈ ow as', p ∉ ow as → H p = none
  zk : ∀ p ∈ B.Z, H' p = H p
variable {T}
theorem Lk.refl (as : As) : Lk as as := ⟨Nat.le_refl _, fun _ _ => .inl rfl⟩
theorem Lk.trans {a b c : As} (h : Lk a b) (k : Lk b c) : Lk a c := by
  refine ⟨Nat.le_trans h.le k.le, fun i hi => ?_⟩
  rcases k.at_ i (Nat.lt_of_lt_of_le hi h.le) with e | e
  · rw [e]; exact h.at_ i hi
  · exact .inr e
theorem Lk.mem {a b : As} (h : Lk a b) {i : Nat} {p : Addr} (e : b[i]? = some (some p)) (hi : i < a.length) : a[i]? = some (some p) := by
  rcases h.at_ i hi with z | z
  · rw [← z]; exact e
  · rw [z] at e; cases e
theorem SlotAt.mono {as as' : As} {h h' : Hp} {v : V} {s : Sl T.O} (S : Same h h') (L : Lk as as') (r : SlotAt T as h v s) : SlotAt T as' h' v s := by
  cases s with
  | dat d => exact Rep.mono S r
  | own i => exact ⟨Nat.lt_of_lt_of_le r.1 L.le, fun p e => r.2 p (L.mem e r.1)⟩
theorem EnvAt.mono {as as' : As} {h h' : Hp} {g : G T} {σ : Sg} (S : Same h h') (L : Lk as as') (r : EnvAt T as h g σ) : EnvAt T as' h' g σ :=
  ⟨r.len, fun i s e => let ⟨v, a, b⟩ := r.at_ i s e; ⟨v, a, b.mono S L⟩⟩
theorem EnvAt.set {as : As} {h : Hp} {g : G T} {σ : Sg} {v : V} {s : Sl T.O} (i : Nat) (r : EnvAt T as h g σ) (q : SlotAt T as h v s) : EnvAt T as h (g.set i (some s)) (σ.set i (some v)) := by
  refine ⟨by rw [List.length_set, List.length_set]; exact r.len, fun j u e => ?_⟩
  by_cases hj : i = j
  · subst hj
    by_cases hi : i < g.length
    · rw [List.getElem?_set_self hi] at e
      cases e
      exact ⟨v, by rw [List.getElem?_set_self (r.len ▸ hi)], q⟩
    · rw [List.getElem?_eq_none (by rw [List.length_set]; omega)] at e
      cases e
  · rw [List.getElem?_set_ne hj] at e
    obtain ⟨w, a, b⟩ := r.at_ j u e
    exact ⟨w, by rw [List.getElem?_set_ne hj]; exact a, b⟩
theorem EnvAt.forget {as : As} {h : Hp} {g : G T} {σ : Sg} (i : Nat) (r : EnvAt T as h g σ) : EnvAt T as h (g.set i none) (σ.set i none) := by
  refine ⟨by rw [List.length_set, List.length_set]; exact r.len, fun j u e => ?_⟩
  by_cases hj : i = j
  · subst hj
    by_cases hi : i < g.length
    · rw [List.getElem?_set_self hi] at e
      cases e
    · rw [List.getElem?_eq_none (by rw [List.length_set]; omega)] at e
      cases e
  · rw [List.getElem?_set_ne hj] at e
    obtain ⟨w, a, b⟩ := r.at_ j u e
    exact ⟨w, by rw [List.getElem?_set_ne hj]; exact a, b⟩
variable {B : Ba} {as as' as2 : As} {cs cs' cs2 : Cs T} {H H' H2 : Hp} {g : G T} {σ : Sg}
theorem Ex.refl (c : StC T B.Z as cs H) : Ex T B as H as cs H := ⟨c, Lk.refl _, same_refl _, fun _ a b => absurd a b, fun _ _ => rfl⟩
theorem Ex.trans (a : Ex T B as H as' cs' H') (b : Ex T B as' H' as2 cs2 H2) : Ex T B as H as2 cs2 H2 := by
  refine ⟨b.c, a.lk.trans b.lk, same_trans a.same b.same, fun p h1 h2 => ?_, fun p h => (b.zk p h).trans (a.zk p h)⟩
  by_cases h3 : p ∈ ow as'
  · exact a.fresh p h3 h2
  · have e := b.fresh p h1 h3
    cases q : H p with
    | none => rfl
    | some o =>
      by_cases hz : p ∈ B.Z
      · rw [a.zk p hz, q] at e; cases e
      · have := a.same p o (by rw [hid_out]; exact q; intro z; rcases List.mem_append.mp z with z | z; exact hz z; exact h2 z)
        rw [(hid_some this).2] at e; cases e
theorem Stt.step (s : Stt T B g as cs σ H) (x : Ex T B as H as' cs' H') : Stt T B g as' cs' σ H' := by
  refine ⟨x.c, s.e.mono x.same x.lk, ⟨s.k.lk.trans x.lk, fun a o h1 h2 => ?_, fun p h1 h2 => ?_⟩⟩
  · have e := s.k.kept a o h1 h2
    by_cases hz : a ∈ B.Z
    · rw [x.zk a hz]; exact e
    · have n : a ∉ ow as := fun z => by rw [s.k.fresh a z h1] at h2; cases h2
      exact (hid_some (x.same a o (by rw [hid_out]; exact e; intro z; rcases List.mem_append.mp z with z | z; exact hz z; exact n z))).2
  · by_cases h3 : p ∈ ow as
    · exact s.k.fresh p h3 h2
    · have e := x.fresh p h1 h3
      cases q : B.H0 p with
      | none => rfl
      | some o => rw [s.k.kept p o h2 q] at e; cases e
/-- more stands in the heap, the own things as they were -/
theorem CellAt.mono {h h' H H' : Hp} (S : Same h h') {p : Option Addr} {c : Cell T.O} (k : ∀ a, p = some a → H' a = H a) (r : CellAt T h H p c) : CellAt T h' H' p c := by
  cases p with
  | none => cases c <;> first | exact r | exact False.elim r
  | some a =>
    cases c with
    | lst ds => obtain ⟨vs, e, q⟩ := r; exact ⟨vs, (k a rfl).trans e, q.mono S⟩
    | dic ds => obtain ⟨vs, e, q⟩ := r; exact ⟨vs, (k a rfl).trans e, q.mono S⟩
    | ins C fs => obtain ⟨dx, vs, e, q⟩ := r; exact ⟨dx, vs, (k a rfl).trans e, RepF.mono S q⟩
    | tab q => obtain ⟨ps, e, t, f⟩ := r; exact ⟨ps, (k a rfl).trans e, t, fun pos cv hc => let ⟨c, e1, e2⟩ := f pos cv hc; ⟨c, e1, S _ _ e2⟩⟩
    | gone => exact False.elim r
theorem cells_mono {h h' H H' : Hp} (S : Same h h') : ∀ {as : As} {cs : Cs T}, (∀ a ∈ ow as, H' a = H a) → Paired (CellAt T h H) as cs → Paired (CellAt T h' H') as cs
  | _, _, _, .nil => .nil
  | _, _, k, .cons a b => .cons (a.mono S fun x e => k x (mem_ow.mpr (by rw [← e]; exact List.mem_cons_self))) (cells_mono S (fun x hx => k x (mem_ow.mpr (List.mem_cons_of_mem _ (mem_ow.mp hx)))) b)
theorem StC.grow {Z : List Addr} (s : StC T Z as cs H) (S : Same H H') : StC T Z as cs H' := by
  have k : ∀ a ∈ Z ++ ow as, H' a = H a := fun a h => by
    cases e : H a with
    | none => exact absurd e (s.live a h).ne
    | some o => exact S _ _ e
  exact ⟨s.nd, s.apart, fun p h => by rw [k p h]; exact s.live p h, cells_mono (hid_same S fun a h => .inl h) (fun a h => k a (List.mem_append_right _ h)) s.cells⟩
/-- nothing is written -/
theorem Ex.grow (c : StC T B.Z as cs H) (S : Same H H') : Ex T B as H as cs H' := by
  refine ⟨c.grow S, Lk.refl _, hid_same S fun a h => .inl h, fun _ a b => absurd a b, fun p h => ?_⟩
  cases e : H p with
  | none => exact absurd e (c.live p (List.mem_append_left _ h)).ne
  | some o => exact S _ _ e
end Dl
set_option Elab.async false
set_option linter.all false
set_option maxRecDepth 100000
set_option maxHeartbeats 1000000
/-! Readings by trees: what an expression, a test, an argument list, a statement says of trees, and the rules. -/
namespace Dl
open PySem PySem.Spec PyProof.Rows L2
section
variable {K : PySem.W.Frag} (T : Th K)
abbrev Xd : Type := Str → List (D T.O) → Prop
abbrev TDE : Type := G T → Cs T → (Sl T.O → Cs T → Prop) → Prop
abbrev TDT : Type := G T → Cs T → (Bool → Cs T → Prop) → Prop
abbrev TDA : Type := G T → Cs T → (List (Sl T.O) → Cs T → Prop) → Prop
structure En where
  nx : G T → Cs T → Prop
  rt : D T.O → Cs T → Prop
  bk : G T → Cs T → Prop := fun _ _ => False
  ct : G T → Cs T → Prop := fun _ _ => False
abbrev TDS : Type := En T → G T → Cs T → Prop
variable {T}
abbrev hz (B : Ba) (as : As) (H : Hp) : Hp := hid (B.Z ++ ow as) H
/-- a def's end: the value, the heap -/
structure Fin (T : Th K) (B : Ba) (as : As) (cs : Cs T) (H : Hp) (v : V) (d : D T.O) : Prop where
  c : StC T B.Z as cs H
  k : Kp B as H
  r : Rep T (hz B as H) v d
def lE (B : Ba) (t : TDE T) : TE := fun σ H Q => ∃ g as cs q, Stt T B g as cs σ H ∧ t g cs q ∧ ∀ s cs', q s cs' → ∀ v as' H', Ex T B as H as' cs' H' → SlotAt T as' (hz B as' H') v s → Q v H'
def lT (B : Ba) (t : TDT T) : TT := fun σ H Q => ∃ g as cs q, Stt T B g as cs σ H ∧ t g cs q ∧ ∀ b cs', q b cs' → ∀ as' H', Ex T B as H as' cs' H' → Q b H'
def lA (B : Ba) (t : TDA T) : TA := fun σ H Q => ∃ g as cs q, Stt T B g as cs σ H ∧ t g cs q ∧ ∀ ss cs', q ss cs' → ∀ vs as' H', Ex T B as H as' cs' H' → Paired (SlotAt T as' (hz B as' H')) vs ss → Q vs H'
structure EnOk (B : Ba) (e : En T) (E : Ends) : Prop where
  nx : ∀ g cs, e.nx g cs → ∀ as σ H, Stt T B g as cs σ H → E.nx σ H
  rt : ∀ d cs, e.rt d cs → ∀ v as H, Fin T B as cs H v d → E.rt v H
  bk : ∀ g cs, e.bk g cs → ∀ as σ H, Stt T B g as cs σ H → E.bk σ H
  ct : ∀ g cs, e.ct g cs → ∀ as σ H, Stt T B g as cs σ H → E.ct σ H
def lS (B : Ba) (t : TDS T) : TS := fun E σ H => ∃ g as cs e, Stt T B g as cs σ H ∧ t e g cs ∧ EnOk B e E
end
section
variable {X : Cx} {T : Th X.K} {B : Ba}
theorem PE.imp {e : Expr} {t t' : TE} (h : PE X e t) (i : ∀ σ H Q, t' σ H Q → t σ H Q) : PE X e t' := ⟨fun pins s σ H Q I q => h.run pins s σ H Q I (i σ H Q q)⟩
theorem PT.imp {e : Expr} {t t' : TT} (h : PT X e t) (i : ∀ σ H Q, t' σ H Q → t σ H Q) : PT X e t' := ⟨fun pins s σ H Q I q => h.run pins s σ H Q I (i σ H Q q)⟩
theorem PW.imp {e : Expr} {t t' : TT} (h : PW X e t) (i : ∀ σ H Q, t' σ H Q → t σ H Q) : PW X e t' := ⟨fun w pins s σ H Q I q => h.run w pins s σ H Q I (i σ H Q q)⟩
theorem PA.imp {e : List Expr} {t t' : TA} (h : PA X e t) (i : ∀ σ H Q, t' σ H Q → t σ H Q) : PA X e t' := ⟨fun p pins s σ H Q I q => h.run p pins s σ H Q I (i σ H Q q)⟩
theorem PS.imp {e : Stmt} {t t' : TS} (h : PS X e t) (i : ∀ E σ H, t' E σ H → t E σ H) : PS X e t' := ⟨fun pins s σ H E I q => h.run pins s σ H E I (i E σ H q)⟩
theorem PSs.imp {e : List Stmt} {t t' : TS} (h : PSs X e t) (i : ∀ E σ H, t' E σ H → t E σ H) : PSs X e t' := ⟨fun pins s σ H E I q => h.run pins s σ H E I (i E σ H q)⟩
/-! ### the judgements -/
abbrev PD (B : Ba) (X : Cx) {T : Th X.K} (e : Expr) (t : TDE T) : Prop := PE X e (lE B t)
abbrev PDT (B : Ba) (X : Cx) {T : Th X.K} (e : Expr) (t : TDT T) : Prop := PT X e (lT B t)
abbrev PDW (B : Ba) (X : Cx) {T : Th X.K} (e : Expr) (t : TDT T) : Prop := PW X e (lT B t)
abbrev PDA (B : Ba) (X : Cx) {T : Th X.K} (e : List Expr) (t : TDA T) : Prop := PA X e (lA B t)
abbrev PDS (B : Ba) (X : Cx) {T : Th X.K} (e : Stmt) (t : TDS T) : Prop := PS X e (lS B t)
abbrev PDSs (B : Ba) (X : Cx) {T : Th X.K} (e : List Stmt) (t : TDS T) : Prop := PSs X e (lS B t)
variable {e a b c : Expr} {es : List Expr} {pos : Pos}
/-! ### names, constants -/
def dVar {K : PySem.W.Frag} (T : Th K) (i : Nat) : TDE T := fun g cs Q => match g[i]? with
  | some (some s) => Q s cs
  | _ => False
theorem lE_val {g : G T} {cs : Cs T} {as : As} {σ : L2.St} {H : Hp} {s : Sl T.O} {v : V} {q : Sl T.O → Cs T → Prop} {Q : VK} (st : Stt T B g as cs σ H) (r : SlotAt T as (hz B as H) v s) (h : q s cs)
    (k : ∀ s cs', q s cs' → ∀ v as' H', Ex T B as H as' cs' H' → SlotAt T as' (hz B as' H') v s → Q v H') : Q v H := k s cs h v as H (Ex.refl st.c) r
theorem pd_var (i : Nat) {x : Str} (hN : X.N[i]? = some x := by rfl) (hv : Vis X.env.scope x := by first | exact Or.inl rfl | exact Or.inr (Or.inl rfl) | exact Or.inr (Or.inr rfl)) (hd : (x == ("__debug__" : Str)) = false := by decide)
    (hcd : (x == ("__classdict__" : Str)) = false := by decide) : PD B X (.Name x pos) (dVar T i) :=
  PE.imp (pe_var hN hv hd hcd) fun σ H Q ⟨g, as, cs, q, st, h, k⟩ => by
    unfold dVar at h
    cases e : g[i]? with
    | none => rw [e] at h; exact h.elim
    | some o =>
      cases o with
      | none => rw [e] at h; exact h.elim
      | some s =>
        rw [e] at h
        obtain ⟨v, h1, h2⟩ := st.e.at_ i s e
        exact ⟨v, h1, lE_val st h2 h k⟩
def dC {K : PySem.W.Frag} (T : Th K) (d : D T.O) : TDE T := fun _ cs Q => Q (.dat d) cs
theorem pd_of {v : V} {d : D T.O} (h : PE X e (tC v)) (r : ∀ h, Rep T h v d) : PD B X e (dC T d) :=
  PE.imp h fun σ H Q ⟨g, as, cs, q, st, h, k⟩ => lE_val (s := .dat d) st (r _) h k
theorem pd_int {i j} : PD B X (.Constant (.int i) j pos) (dC T (.int i)) := pd_of pe_int fun _ => .int i
theorem pd_bl {b j} : PD B X (.Constant (.bool b) j pos) (dC T (.bl b)) := pd_of pe_bl fun _ => .bl b
theorem pd_non {j} : PD B X (.Constant .none j pos) (dC T .non) := pd_of pe_non fun _ => .non
theorem pd_str {x j} (z : x.length ≤ sizeLine := by decide +kernel) : PD B X (.Constant (.str x) j pos) (dC T (.str x)) := pd_of pe_str fun _ => .str x z
/-- a name of the module -/
theorem pd_glob {x : Str} {v : V} {u : Value} {d : D T.O} (hg : Gl X x) (hm : X.mg x = some u) (r : RelV v u) (rd : ∀ h, Rep T h v d) (hd : (x == ("__debug__" : Str)) = false := by decide) : PD B X (.Name x pos) (dC T d) :=
  pd_of (pe_glob hg hm r hd) rd
theorem pd_ty {x : Str} {n : String} (hg : Gl X x) (hm : X.mg x = none) (hv : bootBuiltins x = some (.type n)) (hn : x ≠ "__name__" := by decide) (hd : (x == ("__debug__" : Str)) = false := by decide) : PD B X (.Name x pos) (dC T (.ty n)) :=
  pd_of (v := .ty n) (pe_bltn hg hm hv rfl hn hd) fun _ => .ty n
/-! ### what is seen of a slot -/
def vwC {K : PySem.W.Frag} {T : Th K} : Option (Cell T.O) → Option (D T.O)
  | some (.lst xs) => some (.lst xs)
  | some (.dic kvs) => some (.dic kvs)
  | _ => none
def vw {K : PySem.W.Frag} {T : Th K} (cs : Cs T) : Sl T.O → Option (D T.O)
  | .dat d => some d
  | .own i => vwC cs[i]?
/-- a value that an operation meets: its things stand in h, it itself in H -/
inductive TRep {K : PySem.W.Frag} (T : Th K) (h H : Hp) : V → D T.O → Prop
  | rep {v : V} {d : D T.O} : Rep T h v d → TRep T h H v d
  | lst {a : Addr} {vs : List V} {ds : List (D T.O)} : H a = some (.lst vs) → RepL T h vs ds → TRep T h H (.ref a) (.lst ds)
  | dic {a : Addr} {kvs : List (Key × V)} {kds : List (Key × D T.O)} : H a = some (.dK kvs) → RepK T h kvs kds → TRep T h H (.ref a) (.dic kds)
theorem Paired.ix {α β : Type} {F : α → β → Prop} : ∀ {l : List α} {m : List β} {i : Nat} {y : β}, Paired F l m → m[i]? = some y → ∃ x, l[i]? = some x ∧ F x y
  | _, _, _, _, .nil, e => by simp at e
  | _, _, 0, _, .cons a _, e => by simp at e; subst e; exact ⟨_, rfl, a⟩
  | _, _, i + 1, y, .cons _ b, e => by
    obtain ⟨x, h1, h2⟩ := Paired.ix (i := i) (y := y) b (by simpa using e)
    exact ⟨x, by simpa using h1, h2⟩
theorem slot_view {Z : List Addr} {as : As} {cs : Cs T} {H : Hp} {v : V} {s : Sl T.O} {d : D T.O} (st : StC T Z as cs H) (r : SlotAt T as (hid (Z ++ ow as) H) v s) (h : vw cs s = some d) : TRep T (hid (Z ++ ow as) H) H v d := by
  cases s with
  | dat d' => cases h; exact .rep r
  | own i =>
    have h : vwC cs[i]? = some d := h
    cases e : cs[i]? with
    | none => rw [e] at h; cases h
    | some c =>
      rw [e] at h
      obtain ⟨o, h1, h2⟩ := Paired.ix st.cells e
      cases c with
      | gone => cases h
      | tab q => cases h
      | ins C fs => cases h
      | lst xs =>
        cases h
        cases o with
        | none => exact h2.elim
        | some p =>
          obtain ⟨vs, h3, h4⟩ := h2
          rw [r.2 p h1]
          exact .lst h3 h4
      | dic xs =>
        cases h
        cases o with
        | none => exact h2.elim
        | some p =>
          obtain ⟨vs, h3, h4⟩ := h2
          rw [r.2 p h1]
          exact .dic h3 h4
/-- what is hidden stands somewhere -/
def Live (Z : List Addr) (H : Hp) : Prop := ∀ p ∈ Z, nco (H p)
theorem Live.same {Z : List Addr} {H H' : Hp} (l : Live Z H) (S : Same H H') : Live Z H' := fun p h => by
  have z := l p h
  cases e : H p with
  | none => rw [e] at z; exact z.elim
  | some o => rw [S _ _ e]; rw [e] at z; exact z
/-! ### operators -/
abbrev ROp {K : PySem.W.Frag} (T : Th K) : Type := D T.O → D T.O → (D T.O → Prop) → Prop
def OpD (T : Th X.K) (f : Value → Value → Sem Value) (r : ROp T) : Prop :=
  OpR X f fun x y H Q => ∃ Z dx dy q, Live Z H ∧ TRep T (hid Z H) H x dx ∧ TRep T (hid Z H) H y dy ∧ r dx dy q ∧ ∀ d, q d → ∀ v H', Same H H' → Rep T (hid Z H') v d → Q v H'
abbrev RUn {K : PySem.W.Frag} (T : Th K) : Type := D T.O → (D T.O → Prop) → Prop
def UnD (T : Th X.K) (f : Value → Sem Value) (r : RUn T) : Prop :=
  UnR X f fun x H Q => ∃ Z dx q, Live Z H ∧ TRep T (hid Z H) H x dx ∧ r dx q ∧ ∀ d, q d → ∀ v H', Same H H' → Rep T (hid Z H') v d → Q v H'
abbrev RCall {K : PySem.W.Frag} (T : Th K) : Type := List (D T.O) → (D T.O → Prop) → Prop
abbrev TRepL {K : PySem.W.Frag} (T : Th K) (h H : Hp) : List V → List (D T.O) → Prop := Paired (TRep T h H)
def CallD (T : Th X.K) (f : Value) (r : RCall T) : Prop :=
  CallR X f fun xs H Q => ∃ Z ds q, Live Z H ∧ TRepL T (hid Z H) H xs ds ∧ r ds q ∧ ∀ d, q d → ∀ v H', Same H H' → Rep T (hid Z H') v d → Q v H'
def on1 {K : PySem.W.Frag} {T : Th K} (cs : Cs T) (s : Sl T.O) (k : D T.O → Prop) : Prop := match vw cs s with
  | some d => k d
  | none => False
theorem on1_of {cs : Cs T} {s : Sl T.O} {k : D T.O → Prop} (h : on1 cs s k) : ∃ d, vw cs s = some d ∧ k d := by
  unfold on1 at h
  cases e : vw cs s with
  | none => rw [e] at h; exact h.elim
  | some d => rw [e] at h; exact ⟨d, rfl, h⟩
def dOp {K : PySem.W.Frag} {T : Th K} (r : ROp T) (ta tb : TDE T) : TDE T := fun g cs Q => ta g cs fun s cs1 => tb g cs1 fun u cs2 => on1 cs2 s fun dx => on1 cs2 u fun dy => r dx dy fun d => Q (.dat d) cs2
theorem live_of {Z : List Addr} {as : As} {cs : Cs T} {H : Hp} (st : StC T Z as cs H) : Live (Z ++ ow as) H := st.live
theorem ext_grow {g : G T} {as as' : As} {cs cs' : Cs T} {σ : L2.St} {H H' H2 : Hp} (x : Ex T B as H as' cs' H') (S : Same H' H2) : Ex T B as H as' cs' H2 := x.trans (Ex.grow x.c S)
theorem op_step {r : ROp T} {ta tb : TDE T} {σ : L2.St} {H : Hp} {Q : VK} (h : lE B (dOp r ta tb) σ H Q) :
    lE B ta σ H fun x H1 => lE B tb σ H1 fun y H2 => ∃ Z dx dy q, Live Z H2 ∧ TRep T (hid Z H2) H2 x dx ∧ TRep T (hid Z H2) H2 y dy ∧ r dx dy q ∧ ∀ d, q d → ∀ v H', Same H2 H' → Rep T (hid Z H') v d → Q v H' := by
  obtain ⟨g, as, cs, q, st, h, k⟩ := h
  refine ⟨g, as, cs, _, st, h, fun s cs1 h1 v as1 H1 x1 r1 => ?_⟩
  refine ⟨g, as1, cs1, _, st.step x1, h1, fun u cs2 h2 w as2 H2 x2 r2 => ?_⟩
  obtain ⟨dx, e1, h2⟩ := on1_of h2
  obtain ⟨dy, e2, h2⟩ := on1_of h2
  refine ⟨_, dx, dy, _, live_of x2.c, slot_view x2.c (r1.mono x2.same x2.lk) e1, slot_view x2.c r2 e2, h2, fun d hd v' H' S r' => ?_⟩
  exact k _ _ hd v' as2 H' (x1.trans (x2.trans (Ex.grow x2.c S))) r'
theorem pd_op {op : Operator} {r : ROp T} {ta tb : TDE T} (ho : OpD T (binaryOp op) r) (ha : PD B X a ta) (hb : PD B X b tb) : PD B X (.BinOp a op b pos) (dOp r ta tb) :=
  PE.imp (pe_op ho ha hb) fun _ _ _ h => op_step h
theorem pd_cmp {op : CmpOp} {r : ROp T} {ta tb : TDE T} (ho : OpD T (compareOp op) r) (ha : PD B X a ta) (hb : PD B X b tb) (hm : behindInMarks op b = false := by first | exact nomark _ | rfl) : PD B X (.Compare a [op] [b] pos) (dOp r ta tb) :=
  PE.imp (pe_cmpR ho ha hb hm) fun _ _ _ h => op_step h
def dTest {K : PySem.W.Frag} {T : Th K} (t : TDE T) : TDT T := fun g cs Q => t g cs fun s cs' => match s with
  | .dat (.bl b) => Q b cs'
  | _ => False
theorem test_step {t : TDE T} {σ : L2.St} {H : Hp} {Q : Bool → Hp → Prop} (h : lT B (dTest t) σ H Q) : lE B t σ H fun x H1 => ∃ c, x = .bl c ∧ Q c H1 := by
  obtain ⟨g, as, cs, q, st, h, k⟩ := h
  refine ⟨g, as, cs, _, st, h, fun s cs1 h1 v as1 H1 x1 r1 => ?_⟩
  cases s with
  | own i => exact h1.elim
  | dat d =>
    cases d with
    | bl b => cases r1; exact ⟨b, rfl, k _ _ h1 _ _ x1⟩
    | _ => exact h1.elim
theorem pdt_cmp {op : CmpOp} {r : ROp T} {ta tb : TDE T} (ho : OpD T (compareOp op) r) (ha : PD B X a ta) (hb : PD B X b tb) (hm : behindInMarks op b = false := by first | exact nomark _ | rfl) : PDT B X (.Compare a [op] [b] pos) (dTest (dOp r ta tb)) :=
  PT.imp (pt_cmpR ho ha hb hm) fun _ _ _ h => op_step (test_step h)
end
end Dl
set_option Elab.async false
set_option linter.all false
set_option maxRecDepth 100000
set_option maxHeartbeats 1000000
/-! Tests, choices, statements, blocks, argument lists. -/
namespace Dl
open PySem PySem.Spec PyProof.Rows L2
section
variable {X : Cx} {T : Th X.K} {B : Ba} {e a b c : Expr} {es : List Expr} {pos : Pos}
/-! ### and, or, not, chains -/
@[reducible] def Br (b : Bool) (p q : Prop) : Prop := match b with
  | true => p
  | false => q
theorem Br.of {b : Bool} {p q : Prop} (h1 : b = true → p) (h2 : b = false → q) : Br b p q := by
  cases b with
  | true => exact h1 rfl
  | false => exact h2 rfl
theorem Br.t {b : Bool} {p q : Prop} (h1 : b = true) (h2 : p) : Br b p q := by subst h1; exact h2
theorem Br.f {b : Bool} {p q : Prop} (h1 : b = false) (h2 : q) : Br b p q := by subst h1; exact h2
theorem lT_end {g : G T} {cs : Cs T} {as : As} {σ : L2.St} {H : Hp} {b : Bool} {q : Bool → Cs T → Prop} {Q : Bool → Hp → Prop} (st : Stt T B g as cs σ H) (h : q b cs) (k : ∀ b cs', q b cs' → ∀ as' H', Ex T B as H as' cs' H' → Q b H') : Q b H :=
  k b cs h as H (Ex.refl st.c)
def dAnd {K : PySem.W.Frag} {T : Th K} (t u : TDT T) : TDT T := fun g cs Q => t g cs fun c cs1 => Br c (u g cs1 Q) (Q false cs1)
def dOr {K : PySem.W.Frag} {T : Th K} (t u : TDT T) : TDT T := fun g cs Q => t g cs fun c cs1 => Br c (Q true cs1) (u g cs1 Q)
def dNot {K : PySem.W.Frag} {T : Th K} (t : TDT T) : TDT T := fun g cs Q => t g cs fun c cs1 => Q (!c) cs1
variable {rest : List Expr}
theorem pdw_and1 {t : TDT T} (ha : PDT B X a t) : PDW B X (.BoolOp .And [a] pos) t := pw_and1 ha
theorem pdw_or1 {t : TDT T} (ha : PDT B X a t) : PDW B X (.BoolOp .Or [a] pos) t := pw_or1 ha
theorem pdw_and {t u : TDT T} (ha : PDT B X a t) (hb : PDW B X (.BoolOp .And (b :: rest) pos) u) : PDW B X (.BoolOp .And (a :: b :: rest) pos) (dAnd t u) :=
  PW.imp (pw_and ha hb) fun σ H Q ⟨g, as, cs, q, st, h, k⟩ => ⟨g, as, cs, _, st, h, fun c cs1 h1 as1 H1 x1 => by
    cases c with
    | true => exact iteT ⟨g, as1, cs1, _, st.step x1, h1, fun b cs2 h2 as2 H2 x2 => k b cs2 h2 as2 H2 (x1.trans x2)⟩
    | false => exact iteF (k _ _ h1 _ _ x1)⟩
theorem pdw_or {t u : TDT T} (ha : PDT B X a t) (hb : PDW B X (.BoolOp .Or (b :: rest) pos) u) : PDW B X (.BoolOp .Or (a :: b :: rest) pos) (dOr t u) :=
  PW.imp (pw_or ha hb) fun σ H Q ⟨g, as, cs, q, st, h, k⟩ => ⟨g, as, cs, _, st, h, fun c cs1 h1 as1 H1 x1 => by
    cases c with
    | true => exact iteT (k _ _ h1 _ _ x1)
    | false => exact iteF ⟨g, as1, cs1, _, st.step x1, h1, fun b cs2 h2 as2 H2 x2 => k b cs2 h2 as2 H2 (x1.trans x2)⟩⟩
theorem pdt_w {t : TDT T} (h : PDW B X e t) : PDT B X e t := PW.pt h
theorem pdt_not {t : TDT T} (ha : PDT B X a t) : PDT B X (.UnaryOp .Not a pos) (dNot t) :=
  PT.imp (pt_not ha) fun σ H Q ⟨g, as, cs, q, st, h, k⟩ => ⟨g, as, cs, _, st, h, fun c cs1 h1 as1 H1 x1 => k _ _ h1 _ _ x1⟩
theorem pdt_val {t : TDE T} (h : PD B X e t) (he : ∀ whole, isTrue e X.env whole = (do let v ← whole; standAt e.pos; holding [v] (truthy v)) := by intro _; rfl) : PDT B X e (dTest t) :=
  PT.imp (pt_val h he) fun _ _ _ h => test_step h
/-- the truth of a value -/
def truD {O : Type} : D O → Option Bool
  | .non => some false
  | .bl b => some b
  | .int i => some (i != 0)
  | .str s => some ((s.length : Int) != 0)
  | .tup xs => some (!xs.isEmpty)
  | .lst xs => some (!xs.isEmpty)
  | _ => none
theorem RepL.empty {H : Hp} {vs : List V} {ds : List (D T.O)} (r : RepL T H vs ds) : vs.isEmpty = ds.isEmpty := by cases r <;> rfl
theorem RepK.empty {H : Hp} {vs : List (Key × V)} {ds : List (Key × D T.O)} (r : RepK T H vs ds) : vs.isEmpty = ds.isEmpty := by cases r <;> rfl
theorem tru_of {h H : Hp} (S : Same h H) {v : V} {d : D T.O} {b : Bool} (r : TRep T h H v d) (e : truD d = some b) : TruV X.K v H b := by
  cases r with
  | rep r =>
    cases r with
    | non => cases e; rfl
    | bl b => cases e; rfl
    | int i => cases e; rfl
    | str s z => cases e; exact ⟨z, rfl⟩
    | ty n => cases e
    | cls n => cases e
    | ptr n => cases e
    | tup s l => cases e; exact .inr (.inl ⟨_, same_seqT S s, by rw [l.empty]⟩)
    | lst s l => cases e; exact .inl ⟨_, SqL.of (S _ _ s), by rw [l.empty]⟩
    | dic s l => cases e
    | obj s => cases e
  | lst s l => cases e; exact .inl ⟨_, SqL.of s, by rw [l.empty]⟩
  | dic s l => cases e
def dTru {K : PySem.W.Frag} {T : Th K} (t : TDE T) : TDT T := fun g cs Q => t g cs fun s cs' => on1 cs' s fun d => match truD d with
  | some b => Q b cs'
  | none => False
theorem pdt_tru {t : TDE T} (h : PD B X e t) (he : ∀ whole, isTrue e X.env whole = (do let v ← whole; standAt e.pos; holding [v] (truthy v)) := by intro _; rfl) : PDT B X e (dTru t) :=
  PT.imp (pt_truth h he) fun σ H Q ⟨g, as, cs, q, st, h, k⟩ => ⟨g, as, cs, _, st, h, fun s cs1 h1 v as1 H1 x1 r1 => by
    obtain ⟨d, e1, h1⟩ := on1_of h1
    cases e2 : truD d with
    | none => rw [e2] at h1; exact h1.elim
    | some b =>
      rw [e2] at h1
      exact ⟨b, tru_of hid_sub (slot_view x1.c r1 e1) e2, k _ _ h1 _ _ x1⟩⟩
/-! ### as values -/
def dAndV {K : PySem.W.Frag} {T : Th K} (ta tb : TDE T) : TDE T := fun g cs Q => ta g cs fun s cs1 => match s with
  | .dat (.bl c) => Br c (tb g cs1 Q) (Q (.dat (.bl false)) cs1)
  | _ => False
def dOrV {K : PySem.W.Frag} {T : Th K} (ta tb : TDE T) : TDE T := fun g cs Q => ta g cs fun s cs1 => match s with
  | .dat (.bl c) => Br c (Q (.dat (.bl true)) cs1) (tb g cs1 Q)
  | _ => False
def dNotV {K : PySem.W.Frag} {T : Th K} (ta : TDE T) : TDE T := fun g cs Q => ta g cs fun s cs1 => match s with
  | .dat (.bl c) => Q (.dat (.bl (!c))) cs1
  | _ => False
theorem sl_bl {as : As} {h : Hp} {v : V} {s : Sl T.O} {c : Bool} (r : SlotAt T as h v s) (e : s = .dat (.bl c)) : v = .bl c := by subst e; cases r; rfl
theorem pd_one {op} {t : TDE T} (h : PD B X a t) : PD B X (.BoolOp op [a] pos) t := pe_one h
theorem pd_and {ta tb : TDE T} (ha : PD B X a ta) (hb : PD B X (.BoolOp .And (b :: rest) pos) tb) : PD B X (.BoolOp .And (a :: b :: rest) pos) (dAndV ta tb) :=
  PE.imp (pe_and ha hb) fun σ H Q ⟨g, as, cs, q, st, h, k⟩ => ⟨g, as, cs, _, st, h, fun s cs1 h1 v as1 H1 x1 r1 => by
    cases s with
    | own i => exact h1.elim
    | dat d =>
      cases d with
      | bl c =>
        cases r1
        refine ⟨c, rfl, ?_⟩
        cases c with
        | true => exact iteT ⟨g, as1, cs1, _, st.step x1, h1, fun b cs2 h2 v as2 H2 x2 r2 => k b cs2 h2 v as2 H2 (x1.trans x2) r2⟩
        | false => exact iteF (k _ _ h1 _ _ _ x1 (.bl false))
      | _ => exact h1.elim⟩
theorem pd_or {ta tb : TDE T} (ha : PD B X a ta) (hb : PD B X (.BoolOp .Or (b :: rest) pos) tb) : PD B X (.BoolOp .Or (a :: b :: rest) pos) (dOrV ta tb) :=
  PE.imp (pe_or ha hb) fun σ H Q ⟨g, as, cs, q, st, h, k⟩ => ⟨g, as, cs, _, st, h, fun s cs1 h1 v as1 H1 x1 r1 => by
    cases s with
    | own i => exact h1.elim
    | dat d =>
      cases d with
      | bl c =>
        cases r1
        refine ⟨c, rfl, ?_⟩
        cases c with
        | true => exact iteT (k _ _ h1 _ _ _ x1 (.bl true))
        | false => exact iteF ⟨g, as1, cs1, _, st.step x1, h1, fun b cs2 h2 v as2 H2 x2 r2 => k b cs2 h2 v as2 H2 (x1.trans x2) r2⟩
      | _ => exact h1.elim⟩
theorem pd_not {ta : TDE T} (ha : PD B X a ta) : PD B X (.UnaryOp .Not a pos) (dNotV ta) :=
  PE.imp (pe_not ha) fun σ H Q ⟨g, as, cs, q, st, h, k⟩ => ⟨g, as, cs, _, st, h, fun s cs1 h1 v as1 H1 x1 r1 => by
    cases s with
    | own i => exact h1.elim
    | dat d =>
      cases d with
      | bl c => cases r1; exact ⟨c, rfl, k _ _ h1 _ _ _ x1 (.bl _)⟩
      | _ => exact h1.elim⟩
def dIfE {K : PySem.W.Frag} {T : Th K} (t : TDT T) (ta tb : TDE T) : TDE T := fun g cs Q => t g cs fun c cs1 => Br c (ta g cs1 Q) (tb g cs1 Q)
theorem pd_ifE {t : TDT T} {ta tb : TDE T} (hc : PDT B X c t) (ha : PD B X a ta) (hb : PD B X b tb) : PD B X (.IfExp c a b pos) (dIfE t ta tb) :=
  PE.imp (pe_ifExp hc ha hb) fun σ H Q ⟨g, as, cs, q, st, h, k⟩ => ⟨g, as, cs, _, st, h, fun c cs1 h1 as1 H1 x1 => by
    cases c with
    | true => exact iteT ⟨g, as1, cs1, _, st.step x1, h1, fun b cs2 h2 v as2 H2 x2 r2 => k b cs2 h2 v as2 H2 (x1.trans x2) r2⟩
    | false => exact iteF ⟨g, as1, cs1, _, st.step x1, h1, fun b cs2 h2 v as2 H2 x2 r2 => k b cs2 h2 v as2 H2 (x1.trans x2) r2⟩⟩
/-- a < b < c -/
def dChain {K : PySem.W.Frag} {T : Th K} (r r' : ROp T) (ta tb tc : TDE T) : TDE T := fun g cs Q => ta g cs fun s cs1 => tb g cs1 fun u cs2 => on1 cs2 s fun dx => on1 cs2 u fun dy => r dx dy fun d => match d with
  | .bl c => Br c (tc g cs2 fun w cs3 => on1 cs3 u fun dy' => on1 cs3 w fun dz => r' dy' dz fun d' => Q (.dat d') cs3) (Q (.dat (.bl false)) cs2)
  | _ => False
theorem pd_chain {op op' : CmpOp} {r r' : ROp T} {ta tb tc : TDE T} (ho : OpD T (compareOp op) r) (ho' : OpD T (compareOp op') r') (ha : PD B X a ta) (hb : PD B X b tb) (hc : PD B X c tc)
    (hm : lastMarks [op, op'] [b, c] = false := by with_unfolding_all rfl) : PD B X (.Compare a [op, op'] [b, c] pos) (dChain r r' ta tb tc) :=
  PE.imp (pe_chain ho ho' ha hb hc hm) fun σ H Q ⟨g, as, cs, q, st, h, k⟩ => ⟨g, as, cs, _, st, h, fun s cs1 h1 v as1 H1 x1 r1 => ⟨g, as1, cs1, _, st.step x1, h1, fun u cs2 h2 w as2 H2 x2 r2 => by
    obtain ⟨dx, e1, h2⟩ := on1_of h2
    obtain ⟨dy, e2, h2⟩ := on1_of h2
    refine ⟨_, dx, dy, _, live_of x2.c, slot_view x2.c (r1.mono x2.same x2.lk) e1, slot_view x2.c r2 e2, h2, fun d hd v' H3 S r' => ?_⟩
    have x3 : Ex T B as H as2 cs2 H3 := x1.trans (x2.trans (Ex.grow x2.c S))
    cases d with
    | bl c =>
      cases r'
      refine ⟨c, rfl, ?_⟩
      cases c with
      | false => exact iteF (k _ _ hd _ _ _ x3 (.bl false))
      | true =>
        refine iteT ⟨g, as2, cs2, _, st.step x3, hd, fun z cs4 h4 v4 as4 H4 x4 r4 => ?_⟩
        obtain ⟨dy', e3, h4⟩ := on1_of h4
        obtain ⟨dz, e4, h4⟩ := on1_of h4
        have S23 := hid_same (Z := B.Z ++ ow as2) (Z' := B.Z ++ ow as2) S fun a h => .inl h
        refine ⟨_, dy', dz, _, live_of x4.c, slot_view x4.c ((r2.mono S23 (Lk.refl _)).mono x4.same x4.lk) e3, slot_view x4.c r4 e4, h4, fun d hd v' H' S' r' => ?_⟩
        exact k _ _ hd v' as4 H' (x3.trans (x4.trans (Ex.grow x4.c S'))) r'
    | _ => exact hd.elim⟩⟩
theorem pdt_chain {op op' : CmpOp} {r r' : ROp T} {ta tb tc : TDE T} (ho : OpD T (compareOp op) r) (ho' : OpD T (compareOp op') r') (ha : PD B X a ta) (hb : PD B X b tb) (hc : PD B X c tc)
    (hm : lastMarks [op, op'] [b, c] = false := by with_unfolding_all rfl) : PDT B X (.Compare a [op, op'] [b, c] pos) (dTest (dChain r r' ta tb tc)) := by
  have P := pd_chain (pos := pos) ho ho' ha hb hc hm
  have Q := pt_chain (pos := pos) ho ho' ha hb hc hm
  refine PT.imp Q fun σ H W h => ?_
  obtain ⟨g, as, cs, q, st, h, k⟩ := test_step h
  refine ⟨g, as, cs, _, st, h, fun s cs1 h1 v as1 H1 x1 r1 => ⟨g, as1, cs1, _, st.step x1, h1, fun u cs2 h2 w as2 H2 x2 r2 => ?_⟩⟩
  obtain ⟨dx, e1, h2⟩ := on1_of h2
  obtain ⟨dy, e2, h2⟩ := on1_of h2
  refine ⟨_, dx, dy, _, live_of x2.c, slot_view x2.c (r1.mono x2.same x2.lk) e1, slot_view x2.c r2 e2, h2, fun d hd v' H3 S r' => ?_⟩
  have x3 : Ex T B as H as2 cs2 H3 := x1.trans (x2.trans (Ex.grow x2.c S))
  cases d with
  | bl c =>
    cases r'
    refine ⟨c, rfl, ?_⟩
    cases c with
    | false => exact iteF (k _ _ hd _ _ _ x3 (.bl false))
    | true =>
      refine iteT ⟨g, as2, cs2, _, st.step x3, hd, fun z cs4 h4 v4 as4 H4 x4 r4 => ?_⟩
      obtain ⟨dy', e3, h4⟩ := on1_of h4
      obtain ⟨dz, e4, h4⟩ := on1_of h4
      have S23 := hid_same (Z := B.Z ++ ow as2) (Z' := B.Z ++ ow as2) S fun a h => .inl h
      refine ⟨_, dy', dz, _, live_of x4.c, slot_view x4.c ((r2.mono S23 (Lk.refl _)).mono x4.same x4.lk) e3, slot_view x4.c r4 e4, h4, fun d hd v' H' S' r' => ?_⟩
      exact k _ _ hd v' as4 H' (x3.trans (x4.trans (Ex.grow x4.c S'))) r'
  | _ => exact hd.elim
/-! ### argument lists -/
def dNil {K : PySem.W.Frag} {T : Th K} : TDA T := fun _ cs Q => Q [] cs
def dCons {K : PySem.W.Frag} {T : Th K} (ta : TDE T) (tr : TDA T) : TDA T := fun g cs Q => ta g cs fun s cs1 => tr g cs1 fun ss cs2 => Q (s :: ss) cs2
theorem pda_nil : PDA B X (T := T) [] dNil := PA.imp pa_nil fun σ H Q ⟨g, as, cs, q, st, h, k⟩ => k _ _ h [] as H (Ex.refl st.c) .nil
theorem slots_mono {as as' : As} {h h' : Hp} (S : Same h h') (L : Lk as as') : ∀ {vs : List V} {ss : List (Sl T.O)}, Paired (SlotAt T as h) vs ss → Paired (SlotAt T as' h') vs ss
  | _, _, .nil => .nil
  | _, _, .cons a b => .cons (a.mono S L) (slots_mono S L b)
theorem pda_cons {ta : TDE T} {tr : TDA T} (ha : PD B X e ta) (hr : PDA B X es tr) (hs : starEach (e :: es) X.env = (false, eval e X.env) :: starEach es X.env := by rfl) : PDA B X (e :: es) (dCons ta tr) :=
  PA.imp (pa_cons ha hr hs) fun σ H Q ⟨g, as, cs, q, st, h, k⟩ => ⟨g, as, cs, _, st, h, fun s cs1 h1 v as1 H1 x1 r1 => ⟨g, as1, cs1, _, st.step x1, h1, fun ss cs2 h2 vs as2 H2 x2 r2 =>
    k _ _ h2 (v :: vs) as2 H2 (x1.trans x2) (.cons (r1.mono x2.same x2.lk) r2)⟩⟩
/-! ### statements -/
def dNx {K : PySem.W.Frag} {T : Th K} : TDS T := fun E g cs => E.nx g cs
def dSeq {K : PySem.W.Frag} {T : Th K} (t u : TDS T) : TDS T := fun E g cs => t { E with nx := u E } g cs
variable {st : Stmt} {sts : List Stmt}
theorem EnOk.seq {e : En T} {E : Ends} {u : TDS T} (o : EnOk B e E) : EnOk B { e with nx := u e } { E with nx := lS B u E } :=
  ⟨fun g cs h as σ H s => ⟨g, as, cs, e, s, h, o⟩, o.rt, o.bk, o.ct⟩
theorem pds_nil : PDSs B X (T := T) [] dNx := PSs.imp pss_nil fun E σ H ⟨g, as, cs, e, s, h, o⟩ => o.nx g cs h as σ H s
theorem pds_one {t : TDS T} (h : PDS B X st t) : PDSs B X [st] t := pss_one h
theorem pds_cons {t u : TDS T} (h1 : PDS B X st t) (h2 : PDSs B X sts u) : PDSs B X (st :: sts) (dSeq t u) :=
  PSs.imp (pss_cons h1 h2) fun E σ H ⟨g, as, cs, e, s, h, o⟩ => ⟨g, as, cs, _, s, h, o.seq⟩
theorem pds_pass : PDS B X (T := T) (.Pass pos) dNx := PS.imp ps_pass fun E σ H ⟨g, as, cs, e, s, h, o⟩ => o.nx g cs h as σ H s
def dBk {K : PySem.W.Frag} {T : Th K} : TDS T := fun E g cs => E.bk g cs
def dCt {K : PySem.W.Frag} {T : Th K} : TDS T := fun E g cs => E.ct g cs
theorem pds_break : PDS B X (T := T) (.Break pos) dBk := PS.imp ps_break fun E σ H ⟨g, as, cs, e, s, h, o⟩ => o.bk g cs h as σ H s
theorem pds_continue : PDS B X (T := T) (.Continue pos) dCt := PS.imp ps_continue fun E σ H ⟨g, as, cs, e, s, h, o⟩ => o.ct g cs h as σ H s
def dIf {K : PySem.W.Frag} {T : Th K} (tc : TDT T) (t u : TDS T) : TDS T := fun E g cs => tc g cs fun c cs1 => Br c (t E g cs1) (u E g cs1)
theorem pds_if {sa sb : List Stmt} {tc : TDT T} {t u : TDS T} (hc : PDT B X c tc) (ha : PDSs B X sa t) (hb : PDSs B X sb u) : PDS B X (.If c sa sb pos) (dIf tc t u) :=
  PS.imp (ps_if hc ha hb) fun E σ H ⟨g, as, cs, e, s, h, o⟩ => ⟨g, as, cs, _, s, h, fun c cs1 h1 as1 H1 x1 => by
    cases c with
    | true => exact iteT ⟨g, as1, cs1, e, s.step x1, h1, o⟩
    | false => exact iteF ⟨g, as1, cs1, e, s.step x1, h1, o⟩⟩
/-- a return: its value is a value, or a list of one's own, given away -/
def dRet {K : PySem.W.Frag} {T : Th K} (te : TDE T) : TDS T := fun E g cs => te g cs fun s cs1 => match s with
  | .dat d => E.rt d cs1
  | .own _ => False
theorem pds_ret {te : TDE T} (he : PD B X e te) : PDS B X (.Return (some e) pos) (dRet te) :=
  PS.imp (ps_ret he) fun E σ H ⟨g, as, cs, e, s, h, o⟩ => ⟨g, as, cs, _, s, h, fun s1 cs1 h1 v as1 H1 x1 r1 => by
    cases s1 with
    | own i => exact h1.elim
    | dat d => exact o.rt d cs1 h1 v as1 H1 ⟨x1.c, (s.step x1).k, r1⟩⟩
theorem pds_retN : PDS B X (T := T) (.Return none pos) (dRet (dC T .non)) := PS.imp ps_retN fun E σ H ⟨g, as, cs, e, s, h, o⟩ => o.rt _ _ h _ as H ⟨s.c, s.k, .non⟩
def dDrop {K : PySem.W.Frag} {T : Th K} (te : TDE T) : TDS T := fun E g cs => te g cs fun _ cs1 => E.nx g cs1
theorem pds_expr {te : TDE T} (he : PD B X e te) (hs : swapsWith e none pos.line X.env = pure false := by rfl) : PDS B X (.Expr e pos) (dDrop te) :=
  PS.imp (ps_expr he hs) fun E σ H ⟨g, as, cs, e, s, h, o⟩ => ⟨g, as, cs, _, s, h, fun s1 cs1 h1 v as1 H1 x1 r1 => o.nx g cs1 h1 as1 σ H1 (s.step x1)⟩
theorem Stt.set {g : G T} {cs : Cs T} {as : As} {σ : L2.St} {H : Hp} {v : V} {u : Sl T.O} (i : Nat) (s : Stt T B g as cs σ H) (r : SlotAt T as (hz B as H) v u) : Stt T B (g.set i (some u)) as cs (σ.set i (some v)) H :=
  ⟨s.c, s.e.set i r, s.k⟩
def dSet {K : PySem.W.Frag} {T : Th K} (i : Nat) (te : TDE T) : TDS T := fun E g cs => te g cs fun s cs1 => E.nx (g.set i (some s)) cs1
theorem pds_set (i : Nat) {x : Str} {te : TDE T} {pos' : Pos} (hN : X.N.Nodup) (he : PD B X e te) (hi : X.N[i]? = some x := by rfl) (hx : Loc X.env.scope x := by first | exact Or.inl rfl | exact Or.inr rfl)
    (hs : swapsWith e (some (.Name x pos')) pos.line X.env = pure false := by rfl) (hf : X.fn x = true ∨ X.env.scope.names.lookup x = some .local := by first | exact .inl rfl | exact .inr rfl) : PDS B X (.Assign [.Name x pos'] e pos) (dSet i te) :=
  PS.imp (ps_set hN hi hx he hs hf) fun E σ H ⟨g, as, cs, e, s, h, o⟩ => ⟨g, as, cs, _, s, h, fun s1 cs1 h1 v as1 H1 x1 r1 => o.nx _ cs1 h1 as1 _ H1 ((s.step x1).set i r1)⟩
end
end Dl
set_option Elab.async false
set_option linter.all false
set_option maxRecDepth 100000
set_option maxHeartbeats 1000000
/-! Operators on trees. -/
namespace Dl
open PySem PySem.Spec PyProof.Rows L2
section
variable {K : PySem.W.Frag} {T : Th K} {h H : Hp} {v : V}
theorem TRep.of_int {i : Int} (r : TRep T h H v (.int i)) : v = .int i := by cases r with | rep r => cases r; rfl
theorem TRep.of_bl {i : Bool} (r : TRep T h H v (.bl i)) : v = .bl i := by cases r with | rep r => cases r; rfl
theorem TRep.of_non (r : TRep T h H v .non) : v = .non := by cases r with | rep r => cases r; rfl
theorem TRep.of_str {i : Str} (r : TRep T h H v (.str i)) : v = .str i ∧ i.length ≤ sizeLine := by cases r with | rep r => cases r; exact ⟨rfl, by assumption⟩
theorem TRep.of_ty {n : String} (r : TRep T h H v (.ty n)) : v = .ty n := by cases r with | rep r => cases r; rfl
theorem TRep.of_cls {n : Str} (r : TRep T h H v (.cls n)) : v = .ref (He.ga K n) := by cases r with | rep r => cases r; rfl
theorem TRep.of_ptr {a : Addr} (r : TRep T h H v (.ptr a)) : v = .ref a := by cases r with | rep r => cases r; rfl
theorem TRep.of_tup (S : Same h H) {ds : List (D T.O)} (r : TRep T h H v (.tup ds)) : ∃ a vs, v = .ref a ∧ SqT K H a vs ∧ RepL T h vs ds := by
  cases r with
  | rep r => cases r with | tup a b => exact ⟨_, _, rfl, same_seqT S a, b⟩
theorem TRep.of_lst (S : Same h H) {ds : List (D T.O)} (r : TRep T h H v (.lst ds)) : ∃ a vs, v = .ref a ∧ H a = some (.lst vs) ∧ RepL T h vs ds := by
  cases r with
  | rep r => cases r with | lst a b => exact ⟨_, _, rfl, S _ _ a, b⟩
  | lst a b => exact ⟨_, _, rfl, a, b⟩
theorem TRep.of_dic (S : Same h H) {ds : List (Key × D T.O)} (r : TRep T h H v (.dic ds)) : ∃ a vs, v = .ref a ∧ Rd H a (.dK vs) ∧ RepK T h vs ds := by
  cases r with
  | rep r => cases r with | dic a b => exact ⟨_, _, rfl, same_rd S a, b⟩
  | dic a b => exact ⟨_, _, rfl, .inl a, b⟩
theorem TRep.of_obj (S : Same h H) {o : T.O} (r : TRep T h H v (.obj o)) : ∃ a, v = .ref a ∧ T.RO h a o := by
  cases r with
  | rep r => cases r with | obj a => exact ⟨_, rfl, a⟩
theorem upd_sub {H : Hp} {p : Addr} {o : HO} (hp : H p = none) : Same H (upd H p o) := fun b u e => by
  rw [upd_ne (ne_of_none e hp)]; exact e
theorem not_live {Z : List Addr} {H : Hp} {p : Addr} (l : Live Z H) (hp : H p = none) : p ∉ Z := fun z => (l p z).ne hp
theorem hid_new {Z : List Addr} {H : Hp} {p : Addr} {o : HO} (l : Live Z H) (hp : H p = none) : hid Z (upd H p o) p = some o := by
  rw [hid_out (not_live l hp)]; exact upd_same
theorem hid_step {Z : List Addr} {H H' : Hp} (S : Same H H') : Same (hid Z H) (hid Z H') := hid_same S fun a h => .inl h
theorem new_tup {Z : List Addr} {H : Hp} {p : Addr} {vs : List V} {ds : List (D T.O)} (l : Live Z H) (hp : H p = none) (r : RepL T (hid Z H) vs ds) : Rep T (hid Z (upd H p (.tup vs))) (.ref p) (.tup ds) :=
  .tup (SqT.of (hid_new l hp)) (r.mono (hid_step (upd_sub hp)))
theorem new_lst {Z : List Addr} {H : Hp} {p : Addr} {vs : List V} {ds : List (D T.O)} (l : Live Z H) (hp : H p = none) (r : RepL T (hid Z H) vs ds) : Rep T (hid Z (upd H p (.lst vs))) (.ref p) (.lst ds) :=
  .lst (hid_new l hp) (r.mono (hid_step (upd_sub hp)))
end
section
variable {X : Cx} {T : Th X.K}
theorem OpR.imp {f : Value → Value → Sem Value} {r r' : R2} (h : OpR X f r) (i : ∀ x y H Q, r' x y H Q → r x y H Q) : OpR X f r' := fun pins s σ H x y v u Q I a b q => h pins s σ H x y v u Q I a b (i _ _ _ _ q)
theorem UnR.imp {f : Value → Sem Value} {r r' : V → Hp → VK → Prop} (h : UnR X f r) (i : ∀ x H Q, r' x H Q → r x H Q) : UnR X f r' := fun pins s σ H x v Q I a q => h pins s σ H x v Q I a (i _ _ _ q)
theorem CallR.imp {f : Value} {r r' : List V → Hp → VK → Prop} (h : CallR X f r) (i : ∀ xs H Q, r' xs H Q → r xs H Q) : CallR X f r' := fun pins s σ H xs us Q I a q => h pins s σ H xs us Q I a (i _ _ _ q)
/-- by the trees met: an operation is one of two -/
theorem OpD.or {f : Value → Value → Sem Value} {r1 r2 : ROp T} (h1 : OpD T f r1) (h2 : OpD T f r2) : OpD T f (fun dx dy k => r1 dx dy k ∨ r2 dx dy k) := fun pins s σ H x y v u Q I a b ⟨Z, dx, dy, q, l, rx, ry, e, k⟩ => by
  rcases e with e | e
  · exact h1 pins s σ H x y v u Q I a b ⟨Z, dx, dy, q, l, rx, ry, e, k⟩
  · exact h2 pins s σ H x y v u Q I a b ⟨Z, dx, dy, q, l, rx, ry, e, k⟩
theorem OpD.imp {f : Value → Value → Sem Value} {r r' : ROp T} (h : OpD T f r) (i : ∀ dx dy k, r' dx dy k → r dx dy k) : OpD T f r' := fun pins s σ H x y v u Q I a b ⟨Z, dx, dy, q, l, rx, ry, e, k⟩ =>
  h pins s σ H x y v u Q I a b ⟨Z, dx, dy, q, l, rx, ry, i _ _ _ e, k⟩
/-! ### whole numbers -/
def dI {K : PySem.W.Frag} {T : Th K} (C : Int → Int → Prop) (g : Int → Int → D T.O) : ROp T := fun dx dy k => match dx, dy with
  | .int i, .int j => C i j ∧ k (g i j)
  | _, _ => False
def dI0 {K : PySem.W.Frag} {T : Th K} (g : Int → Int → D T.O) : ROp T := fun dx dy k => match dx, dy with
  | .int i, .int j => k (g i j)
  | _, _ => False
theorem opd_I {f : Value → Value → Sem Value} {C : Int → Int → Prop} {g : Int → Int → V} {g' : Int → Int → D T.O} (h : OpR X f (rI C g)) (e : ∀ i j H, Rep T H (g i j) (g' i j)) : OpD T f (dI C g') :=
  OpR.imp h fun x y H Q ⟨Z, dx, dy, q, l, rx, ry, hr, k⟩ => by
    cases dx <;> try exact hr.elim
    cases dy <;> try exact hr.elim
    exact ⟨_, _, rx.of_int, ry.of_int, hr.1, k _ hr.2 _ _ (same_refl _) (e _ _ _)⟩
theorem opd_I0 {f : Value → Value → Sem Value} {g : Int → Int → V} {g' : Int → Int → D T.O} (h : OpR X f (rI0 g)) (e : ∀ i j H, Rep T H (g i j) (g' i j)) : OpD T f (dI0 g') :=
  OpR.imp h fun x y H Q ⟨Z, dx, dy, q, l, rx, ry, hr, k⟩ => by
    cases dx <;> try exact hr.elim
    cases dy <;> try exact hr.elim
    exact ⟨_, _, rx.of_int, ry.of_int, k _ hr _ _ (same_refl _) (e _ _ _)⟩
theorem od_sub : OpD T (binaryOp .Sub) (dI0 fun i j => .int (i - j)) := opd_I0 op_sub fun _ _ _ => .int _
theorem od_mul : OpD T (binaryOp .Mult) (dI CMul fun i j => .int (i * j)) := opd_I op_mul fun _ _ _ => .int _
theorem od_mod : OpD T (binaryOp .Mod) (dI (fun _ j => 0 < j) fun i j => .int (i % j)) := opd_I op_mod fun _ _ _ => .int _
theorem od_fdiv : OpD T (binaryOp .FloorDiv) (dI CDiv fun i j => .int (i / j)) := opd_I op_fdiv fun _ _ _ => .int _
theorem od_pow : OpD T (binaryOp .Pow) (dI CPow fun i j => .int (i ^ j.toNat)) := opd_I op_pow fun _ _ _ => .int _
theorem od_lt : OpD T (compareOp .Lt) (dI0 fun i j => .bl (decide (i < j))) := opd_I0 op_lt fun _ _ _ => .bl _
theorem od_le : OpD T (compareOp .LtE) (dI0 fun i j => .bl (decide (i ≤ j))) := opd_I0 op_le fun _ _ _ => .bl _
theorem od_gt : OpD T (compareOp .Gt) (dI0 fun i j => .bl (decide (j < i))) := opd_I0 op_gt fun _ _ _ => .bl _
theorem od_ge : OpD T (compareOp .GtE) (dI0 fun i j => .bl (decide (j ≤ i))) := opd_I0 op_ge fun _ _ _ => .bl _
/-! ### + -/
def rAddI {K : PySem.W.Frag} {T : Th K} : ROp T := dI0 fun i j => .int (i + j)
def rAddS {K : PySem.W.Frag} {T : Th K} : ROp T := fun dx dy k => match dx, dy with
  | .str i, .str j => i.length + j.length ≤ sizeLine ∧ k (.str (i ++ j))
  | _, _ => False
def rAddL {K : PySem.W.Frag} {T : Th K} : ROp T := fun dx dy k => match dx, dy with
  | .lst i, .lst j => i.length + j.length ≤ sizeLine ∧ k (.lst (i ++ j))
  | _, _ => False
def rAddT {K : PySem.W.Frag} {T : Th K} : ROp T := fun dx dy k => match dx, dy with
  | .tup i, .tup j => i ≠ [] ∧ i.length + j.length ≤ sizeLine ∧ k (.tup (i ++ j))
  | _, _ => False
theorem od_addI : OpD T (binaryOp .Add) rAddI := opd_I0 op_add fun _ _ _ => .int _
theorem str_len_app (a b : Str) : (a ++ b).length = a.length + b.length := by
  show (a.cps ++ b.cps).size = _
  rw [Array.size_append]; rfl
theorem od_addS : OpD T (binaryOp .Add) rAddS := OpR.imp op_add_str fun x y H Q ⟨Z, dx, dy, q, l, rx, ry, hr, k⟩ => by
  cases dx <;> try exact hr.elim
  cases dy <;> try exact hr.elim
  exact ⟨_, _, rx.of_str.1, ry.of_str.1, hr.1, k _ hr.2 _ _ (same_refl _) (.str _ (by rw [str_len_app]; exact hr.1))⟩
theorem od_addL : OpD T (binaryOp .Add) rAddL := OpR.imp op_cat fun x y H Q ⟨Z, dx, dy, q, l, rx, ry, hr, k⟩ => by
  cases dx <;> try exact hr.elim
  cases dy <;> try exact hr.elim
  obtain ⟨a, xs, ea, ha, la⟩ := rx.of_lst hid_sub
  obtain ⟨b, ys, eb, hb, lb⟩ := ry.of_lst hid_sub
  exact ⟨a, b, xs, ys, ea, eb, ha, hb, by rw [la.len, lb.len]; exact hr.1, fun p hp => k _ hr.2 _ _ (upd_sub hp) (new_lst l hp (la.app lb))⟩
theorem od_addT : OpD T (binaryOp .Add) rAddT := OpR.imp op_catT fun x y H Q ⟨Z, dx, dy, q, l, rx, ry, hr, k⟩ => by
  cases dx <;> try exact hr.elim
  cases dy <;> try exact hr.elim
  rename_i dxs dys
  obtain ⟨a, xs, ea, ha, la⟩ := rx.of_tup hid_sub
  obtain ⟨b, ys, eb, hb, lb⟩ := ry.of_tup hid_sub
  obtain ⟨r1, r2, r3⟩ := hr
  refine ⟨a, b, xs, ys, ea, eb, ha, hb, fun z => ?_, by rw [la.len, lb.len]; exact r2, fun z => ?_, fun z p hp => k _ r3 _ _ (upd_sub hp) (new_tup l hp (la.app lb))⟩
  · subst z; cases la; exact r1 rfl
  · subst z
    cases lb
    subst ea
    cases rx with
    | rep rx => exact k _ r3 _ _ (same_refl _) (by rw [List.append_nil]; exact rx)
/-! ### * of a list -/
def rMulL {K : PySem.W.Frag} {T : Th K} : ROp T := fun dx dy k => match dx, dy with
  | .lst i, .int j => (-(2 ^ 63) ≤ j ∧ j < 2 ^ 63 ∧ i.length * j.toNat ≤ sizeLine) ∧ k (.lst (List.replicate j.toNat i).flatten)
  | _, _ => False
theorem RepL.rep {K : PySem.W.Frag} {T : Th K} {H : Hp} {vs : List V} {ds : List (D T.O)} (r : RepL T H vs ds) : ∀ n : Nat, RepL T H (List.replicate n vs).flatten (List.replicate n ds).flatten
  | 0 => .nil
  | n + 1 => by
    rw [List.replicate_succ, List.replicate_succ, List.flatten_cons, List.flatten_cons]
    exact r.app (r.rep n)
theorem od_mulL : OpD T (binaryOp .Mult) rMulL := OpR.imp op_rep fun x y H Q ⟨Z, dx, dy, q, l, rx, ry, hr, k⟩ => by
  cases dx <;> try exact hr.elim
  cases dy <;> try exact hr.elim
  obtain ⟨a, xs, ea, ha, la⟩ := rx.of_lst hid_sub
  exact ⟨a, _, xs, ea, ry.of_int, ha, hr.1.1, hr.1.2.1, by rw [la.len]; exact hr.1.2.2, fun p hp => k _ hr.2 _ _ (upd_sub hp) (new_lst l hp (la.rep _))⟩
/-! ### == of flat things, of data -/
def flatE {O : Type} : D O → D O → Option Bool
  | .non, .non => some true
  | .bl a, .bl b => some (a == b)
  | .int a, .int b => some (a == b)
  | .str a, .str b => some (a == b)
  | .non, .int _ => some false
  | .int _, .non => some false
  | .non, .bl _ => some false
  | .bl _, .non => some false
  | .non, .str _ => some false
  | .str _, .non => some false
  | .int _, .str _ => some false
  | .str _, .int _ => some false
  | .bl _, .str _ => some false
  | .str _, .bl _ => some false
  | _, _ => none
theorem flatE_ok {K : PySem.W.Frag} {T : Th K} {h H : Hp} {x y : V} {dx dy : D T.O} {b : Bool} (rx : TRep T h H x dx) (ry : TRep T h H y dy) (e : flatE dx dy = some b) : scal x y = true ∧ decide (x = y) = b := by
  cases dx <;> cases dy <;> first
    | (cases e; done)
    | (cases e; rw [rx.of_non, ry.of_non]; exact ⟨rfl, by decide⟩)
    | (cases e; rw [rx.of_bl, ry.of_bl]; exact ⟨rfl, dec_bl⟩)
    | (cases e; rw [rx.of_int, ry.of_int]; exact ⟨rfl, dec_int⟩)
    | (cases e; rw [rx.of_str.1, ry.of_str.1]; exact ⟨rfl, dec_str⟩)
    | (cases e; rw [rx.of_non, ry.of_int]; exact ⟨rfl, decide_eq_false (fun z => nomatch z)⟩)
    | (cases e; rw [rx.of_int, ry.of_non]; exact ⟨rfl, decide_eq_false (fun z => nomatch z)⟩)
    | (cases e; rw [rx.of_non, ry.of_bl]; exact ⟨rfl, decide_eq_false (fun z => nomatch z)⟩)
    | (cases e; rw [rx.of_bl, ry.of_non]; exact ⟨rfl, decide_eq_false (fun z => nomatch z)⟩)
    | (cases e; rw [rx.of_non, ry.of_str.1]; exact ⟨rfl, decide_eq_false (fun z => nomatch z)⟩)
    | (cases e; rw [rx.of_str.1, ry.of_non]; exact ⟨rfl, decide_eq_false (fun z => nomatch z)⟩)
    | (cases e; rw [rx.of_int, ry.of_str.1]; exact ⟨rfl, decide_eq_false (fun z => nomatch z)⟩)
    | (cases e; rw [rx.of_str.1, ry.of_int]; exact ⟨rfl, decide_eq_false (fun z => nomatch z)⟩)
    | (cases e; rw [rx.of_bl, ry.of_str.1]; exact ⟨rfl, decide_eq_false (fun z => nomatch z)⟩)
    | (cases e; rw [rx.of_str.1, ry.of_bl]; exact ⟨rfl, decide_eq_false (fun z => nomatch z)⟩)
def rEqF {K : PySem.W.Frag} {T : Th K} : ROp T := fun dx dy k => match flatE dx dy with
  | some b => k (.bl b)
  | none => False
def rNeF {K : PySem.W.Frag} {T : Th K} : ROp T := fun dx dy k => match flatE dx dy with
  | some b => k (.bl (!b))
  | none => False
theorem od_eqF : OpD T (compareOp .Eq) rEqF := OpR.imp op_eq fun x y H Q ⟨Z, dx, dy, q, l, rx, ry, hr, k⟩ => by
  unfold rEqF at hr
  cases e : flatE dx dy with
  | none => rw [e] at hr; exact hr.elim
  | some b =>
    rw [e] at hr
    obtain ⟨h1, h2⟩ := flatE_ok rx ry e
    exact ⟨h1, by rw [h2]; exact k _ hr _ _ (same_refl _) (.bl _)⟩
theorem od_neF : OpD T (compareOp .NotEq) rNeF := OpR.imp op_ne fun x y H Q ⟨Z, dx, dy, q, l, rx, ry, hr, k⟩ => by
  unfold rNeF at hr
  cases e : flatE dx dy with
  | none => rw [e] at hr; exact hr.elim
  | some b =>
    rw [e] at hr
    obtain ⟨h1, h2⟩ := flatE_ok rx ry e
    exact ⟨h1, by rw [h2]; exact k _ hr _ _ (same_refl _) (.bl _)⟩
mutual
/-- as data -/
def toPy {O : Type} : D O → Option PyData
  | .non => some .none
  | .bl b => some (.bool b)
  | .int i => some (.int i)
  | .str s => some (.str s)
  | .tup xs => (toPyL xs).map .tuple
  | .lst xs => (toPyL xs).map .list
  | _ => none
def toPyL {O : Type} : List (D O) → Option (List PyData)
  | [] => some []
  | x :: xs => (toPy x).bind fun a => (toPyL xs).map (a :: ·)
end
mutual
theorem dp_of {K : PySem.W.Frag} {T : Th K} {H : Hp} : ∀ {v : V} {d : D T.O} {p : PyData}, Rep T H v d → toPy d = some p → Dp K H v p
  | _, _, _, .non, e => by cases e; exact .non
  | _, _, _, .bl b, e => by cases e; exact .bl b
  | _, _, _, .int i, e => by cases e; exact .int i
  | _, _, _, .str s z, e => by cases e; exact .str s
  | _, _, _, .ty n, e => by cases e
  | _, _, _, .cls n, e => by cases e
  | _, _, _, .ptr n, e => by cases e
  | _, _, _, .dic a b, e => by cases e
  | _, _, _, .obj a, e => by cases e
  | _, .tup ds, _, .tup a b, e => by
    have e : (toPyL ds).map PyData.tuple = some _ := e
    cases q : toPyL ds with
    | none => rw [q] at e; cases e
    | some ps => rw [q] at e; cases e; exact .tup a (dpL_of b q)
  | _, .lst ds, _, .lst a b, e => by
    have e : (toPyL ds).map PyData.list = some _ := e
    cases q : toPyL ds with
    | none => rw [q] at e; cases e
    | some ps => rw [q] at e; cases e; exact .lst (SqL.of a) (dpL_of b q)
theorem dpL_of {K : PySem.W.Frag} {T : Th K} {H : Hp} : ∀ {vs : List V} {ds : List (D T.O)} {ps : List PyData}, RepL T H vs ds → toPyL ds = some ps → DpAll K H vs ps
  | _, _, _, .nil, e => by cases e; exact .nil
  | _, d :: ds, _, .cons a b, e => by
    have e : ((toPy d).bind fun a => (toPyL ds).map (a :: ·)) = some _ := e
    cases q : toPy d with
    | none => rw [q] at e; cases e
    | some p =>
      rw [q] at e
      have e : (toPyL ds).map (p :: ·) = some _ := e
      cases q2 : toPyL ds with
      | none => rw [q2] at e; cases e
      | some ps => rw [q2] at e; cases e; exact .cons (dp_of a q) (dpL_of b q2)
end
theorem TRep.dp {K : PySem.W.Frag} {T : Th K} {h H : Hp} (S : Same h H) {v : V} {d : D T.O} {p : PyData} (r : TRep T h H v d) (e : toPy d = some p) : Dp K H v p := by
  cases r with
  | rep r => exact dp_of (r.mono S) e
  | dic a b => cases e
  | @lst a vs ds h1 h2 =>
    have e : (toPyL ds).map PyData.list = some _ := e
    cases q : toPyL ds with
    | none => rw [q] at e; cases e
    | some ps => rw [q] at e; cases e; exact .lst (SqL.of h1) (dpL_of (h2.mono S) q)
/-- == of data; the answer as data tells it -/
def rEqP {K : PySem.W.Frag} {T : Th K} : ROp T := fun dx dy k => ∃ a b, toPy dx = some a ∧ toPy dy = some b ∧ SeqAt.shaped a = true ∧ SeqAt.shaped b = true ∧ k (.bl (PyData.eqv a b))
def rNeP {K : PySem.W.Frag} {T : Th K} : ROp T := fun dx dy k => ∃ a b, toPy dx = some a ∧ toPy dy = some b ∧ SeqAt.shaped a = true ∧ SeqAt.shaped b = true ∧ k (.bl (!PyData.eqv a b))
theorem od_eqP (hu : X.A.units + 64 < cLine) : OpD T (compareOp .Eq) rEqP := OpR.imp (op_eqD hu) fun x y H Q ⟨Z, dx, dy, q, l, rx, ry, ⟨a, b, e1, e2, s1, s2, hr⟩, k⟩ =>
  ⟨a, b, rx.dp hid_sub e1, ry.dp hid_sub e2, s1, s2, k _ hr _ _ (same_refl _) (.bl _)⟩
theorem od_neP (hu : X.A.units + 64 < cLine) : OpD T (compareOp .NotEq) rNeP := OpR.imp (op_neD hu) fun x y H Q ⟨Z, dx, dy, q, l, rx, ry, ⟨a, b, e1, e2, s1, s2, hr⟩, k⟩ =>
  ⟨a, b, rx.dp hid_sub e1, ry.dp hid_sub e2, s1, s2, k _ hr _ _ (same_refl _) (.bl _)⟩
/-! ### is None -/
def isNonD {O : Type} : D O → Bool
  | .non => true
  | _ => false
theorem isNon_ok {K : PySem.W.Frag} {T : Th K} {h H : Hp} {v : V} {d : D T.O} (r : TRep T h H v d) : decide (v = .non) = isNonD d := by
  cases r with
  | rep r => cases r <;> first | exact decide_eq_true rfl | exact decide_eq_false (fun z => nomatch z)
  | lst a b => exact decide_eq_false (fun z => nomatch z)
  | dic a b => exact decide_eq_false (fun z => nomatch z)
def rIsN {K : PySem.W.Frag} {T : Th K} : ROp T := fun dx dy k => match dy with
  | .non => k (.bl (isNonD dx))
  | _ => False
def rNotN {K : PySem.W.Frag} {T : Th K} : ROp T := fun dx dy k => match dy with
  | .non => k (.bl (!isNonD dx))
  | _ => False
theorem od_isN : OpD T (compareOp .Is) rIsN := OpR.imp op_isN fun x y H Q ⟨Z, dx, dy, q, l, rx, ry, hr, k⟩ => by
  cases dy <;> try exact hr.elim
  exact ⟨ry.of_non, by rw [isNon_ok rx]; exact k _ hr _ _ (same_refl _) (.bl _)⟩
theorem od_notN : OpD T (compareOp .IsNot) rNotN := OpR.imp op_notN fun x y H Q ⟨Z, dx, dy, q, l, rx, ry, hr, k⟩ => by
  cases dy <;> try exact hr.elim
  exact ⟨ry.of_non, by rw [isNon_ok rx]; exact k _ hr _ _ (same_refl _) (.bl _)⟩
/-! ### in -/
def flatD {O : Type} : D O → Bool
  | .non => true
  | .bl _ => true
  | .int _ => true
  | .str _ => true
  | _ => false
/-- == of flat things of any two kinds -/
def eqFD {O : Type} : D O → D O → Bool
  | .non, .non => true
  | .bl a, .bl b => a == b
  | .bl a, .int b => (if a then 1 else 0) == b
  | .int a, .bl b => a == (if b then 1 else 0)
  | .int a, .int b => a == b
  | .str a, .str b => a == b
  | _, _ => false
def inD {O : Type} (x : D O) (xs : List (D O)) : Bool := xs.any fun y => eqFD y x
theorem flatD_ok {K : PySem.W.Frag} {T : Th K} {h H : Hp} {v : V} {d : D T.O} (r : TRep T h H v d) (e : flatD d = true) : flatV v = true := by
  cases d <;> first
    | (cases e; done)
    | (rw [r.of_non]; rfl)
    | (rw [r.of_bl]; rfl)
    | (rw [r.of_int]; rfl)
    | (rw [r.of_str.1]; rfl)
theorem eqFD_ok {K : PySem.W.Frag} {T : Th K} {h H : Hp} {v u : V} {d e : D T.O} (r : TRep T h H v d) (q : TRep T h H u e) (h1 : flatD d = true) (h2 : flatD e = true) : eqV v u = eqFD d e := by
  cases d <;> first
    | (cases h1; done)
    | (cases e <;> first
      | (cases h2; done)
      | (first | rw [r.of_non] | rw [r.of_bl] | rw [r.of_int] | rw [r.of_str.1]
         first | rw [q.of_non] | rw [q.of_bl] | rw [q.of_int] | rw [q.of_str.1]
         rfl))
theorem allFlat_ok {K : PySem.W.Frag} {T : Th K} {h H : Hp} : ∀ {vs : List V} {ds : List (D T.O)}, RepL T h vs ds → ds.all flatD = true → vs.all flatV = true
  | _, _, .nil, _ => rfl
  | _, d :: ds, .cons a b, e => by
    rw [List.all_cons, Bool.and_eq_true] at e
    rw [List.all_cons, flatD_ok (H := H) (.rep a) e.1, allFlat_ok (H := H) b e.2]
    rfl
theorem inD_ok {K : PySem.W.Frag} {T : Th K} {h H : Hp} {x : V} {dx : D T.O} (rx : TRep T h H x dx) (fx : flatD dx = true) : ∀ {vs : List V} {ds : List (D T.O)}, RepL T h vs ds → ds.all flatD = true → inV x vs = inD dx ds
  | _, _, .nil, _ => rfl
  | _, d :: ds, .cons a b, e => by
    rw [List.all_cons, Bool.and_eq_true] at e
    show (eqV _ x || inV x _) = (eqFD d dx || inD dx ds)
    rw [eqFD_ok (.rep a) rx e.1 fx, inD_ok rx fx b e.2]
def rInL {K : PySem.W.Frag} {T : Th K} (neg : Bool) : ROp T := fun dx dy k => match dy with
  | .lst ds => flatD dx = true ∧ ds.all flatD = true ∧ k (.bl (if neg then !inD dx ds else inD dx ds))
  | .tup ds => flatD dx = true ∧ ds.all flatD = true ∧ k (.bl (if neg then !inD dx ds else inD dx ds))
  | _ => False
theorem inL_step {neg : Bool} {x y : V} {H : Hp} {Q : VK} (h : ∃ Z dx dy q, Live Z H ∧ TRep T (hid Z H) H x dx ∧ TRep T (hid Z H) H y dy ∧ rInL neg dx dy q ∧ ∀ d, q d → ∀ v H', Same H H' → Rep T (hid Z H') v d → Q v H') : rIn X.K neg x y H Q := by
  obtain ⟨Z, dx, dy, q, l, rx, ry, hr, k⟩ := h
  cases dy <;> try exact hr.elim
  · obtain ⟨a, xs, ea, ha, la⟩ := ry.of_tup hid_sub
    obtain ⟨h1, h2, h3⟩ := hr
    exact ⟨a, xs, ea, .inr ha, flatD_ok rx h1, allFlat_ok (H := H) la h2, by rw [inD_ok rx h1 la h2]; exact k _ h3 _ _ (same_refl _) (.bl _)⟩
  · obtain ⟨a, xs, ea, ha, la⟩ := ry.of_lst hid_sub
    obtain ⟨h1, h2, h3⟩ := hr
    exact ⟨a, xs, ea, .inl (SqL.of ha), flatD_ok rx h1, allFlat_ok (H := H) la h2, by rw [inD_ok rx h1 la h2]; exact k _ h3 _ _ (same_refl _) (.bl _)⟩
theorem od_inL : OpD T (compareOp .In) (rInL false) := OpR.imp op_in_seq fun x y H Q h => inL_step h
theorem od_notInL : OpD T (compareOp .NotIn) (rInL true) := OpR.imp op_notIn_seq fun x y H Q h => inL_step h
/-- a sign in a text -/
def rInS {K : PySem.W.Frag} {T : Th K} : ROp T := fun dx dy k => match dx, dy with
  | .str c, .str z => ∃ n, c = ⟨#[n]⟩ ∧ k (.bl (decide (n ∈ z.cps.toList)))
  | _, _ => False
theorem od_inS : OpD T (compareOp .In) rInS := OpR.imp op_in_sign fun x y H Q ⟨Z, dx, dy, q, l, rx, ry, hr, k⟩ => by
  cases dx <;> try exact hr.elim
  cases dy <;> try exact hr.elim
  obtain ⟨n, e, hr⟩ := hr
  exact ⟨n, _, by rw [rx.of_str.1, e], ry.of_str.1, k _ hr _ _ (same_refl _) (.bl _)⟩
theorem od_ltS : OpD T (compareOp .Lt) (fun dx dy k => match dx, dy with
  | .str i, .str j => k (.bl (decide (i.cps.toList < j.cps.toList)))
  | _, _ => False) := OpR.imp op_lt_str fun x y H Q ⟨Z, dx, dy, q, l, rx, ry, hr, k⟩ => by
  cases dx <;> try exact hr.elim
  cases dy <;> try exact hr.elim
  exact ⟨_, _, rx.of_str.1, ry.of_str.1, k _ hr _ _ (same_refl _) (.bl _)⟩
end
end Dl
set_option Elab.async false
set_option linter.all false
set_option maxRecDepth 100000
set_option maxHeartbeats 1000000
/-! Displays, built-ins by name, subscripts, own lists and dicts, targets. -/
namespace Dl
open PySem PySem.Spec PyProof.Rows L2
section
variable {X : Cx} {T : Th X.K} {B : Ba} {e a b c o i : Expr} {es : List Expr} {pos : Pos}
/-! ### the values of a list of slots -/
def datL {O : Type} : List (Sl O) → Option (List (D O))
  | [] => some []
  | .dat d :: ss => (datL ss).map (d :: ·)
  | .own _ :: _ => none
def onDats {K : PySem.W.Frag} {T : Th K} (ss : List (Sl T.O)) (k : List (D T.O) → Prop) : Prop := match datL ss with
  | some ds => k ds
  | none => False
theorem onDats_of {ss : List (Sl T.O)} {k : List (D T.O) → Prop} (h : onDats ss k) : ∃ ds, datL ss = some ds ∧ k ds := by
  unfold onDats at h
  cases e : datL ss with
  | none => rw [e] at h; exact h.elim
  | some d => rw [e] at h; exact ⟨d, rfl, h⟩
theorem datL_rep {K : PySem.W.Frag} {T : Th K} {as : As} {h : Hp} : ∀ {vs : List V} {ss : List (Sl T.O)} {ds : List (D T.O)}, Paired (SlotAt T as h) vs ss → datL ss = some ds → RepL T h vs ds
  | _, [], _, .nil, e => by cases e; exact .nil
  | _, .own i :: ss, _, .cons a b, e => by cases e
  | _, .dat d :: ss, _, .cons a b, e => by
    have e : (datL ss).map (d :: ·) = some _ := e
    cases q : datL ss with
    | none => rw [q] at e; cases e
    | some ds => rw [q] at e; cases e; exact .cons a (datL_rep b q)
def onViews {K : PySem.W.Frag} {T : Th K} (cs : Cs T) : List (Sl T.O) → (List (D T.O) → Prop) → Prop
  | [], k => k []
  | s :: ss, k => on1 cs s fun d => onViews cs ss fun ds => k (d :: ds)
theorem onViews_of {Z : List Addr} {as : As} {cs : Cs T} {H : Hp} (st : StC T Z as cs H) : ∀ {vs : List V} {ss : List (Sl T.O)} {k : List (D T.O) → Prop}, Paired (SlotAt T as (hid (Z ++ ow as) H)) vs ss → onViews cs ss k → ∃ ds, TRepL T (hid (Z ++ ow as) H) H vs ds ∧ k ds
  | _, [], _, .nil, h => ⟨[], .nil, h⟩
  | _, s :: ss, k, .cons a b, h => by
    obtain ⟨d, e1, h⟩ := on1_of h
    obtain ⟨ds, r, h⟩ := onViews_of st b h
    exact ⟨d :: ds, .cons (slot_view st a e1) r, h⟩
/-! ### displays -/
/-- a new own object -/
theorem Ex.own {as : As} {cs : Cs T} {H : Hp} {p : Addr} {o : HO} {c : Cell T.O} (st : StC T B.Z as cs H) (hp : H p = none) (ce : CellAt T (hz B as H) (upd H p o) (some p) c) :
    Ex T B as H (as ++ [some p]) (cs ++ [c]) (upd H p o) := by
  have ho : ow (as ++ [some p]) = ow as ++ [p] := by unfold ow; rw [List.filterMap_append]; rfl
  have np : p ∉ B.Z ++ ow as := fun z => (st.live p z).ne hp
  have S : Same (hid (B.Z ++ ow as) H) (hid (B.Z ++ ow (as ++ [some p])) (upd H p o)) := by
    refine hid_same (upd_sub hp) fun a h => ?_
    rw [ho, ← List.append_assoc] at h
    rcases List.mem_append.mp h with h | h
    · exact .inl h
    · rw [List.mem_singleton] at h; subst h; exact .inr hp
  have np1 : p ∉ ow as := fun z => np (List.mem_append_right _ z)
  have same : ∀ a ∈ B.Z ++ ow as, upd H p o a = H a := fun a h => upd_ne fun z => np (z ▸ h)
  refine ⟨⟨?_, ?_, ?_, ?_⟩, ⟨by rw [List.length_append]; omega, fun i hi => .inl (by rw [List.getElem?_append_left hi])⟩, S, fun q h1 h2 => ?_, fun q h => same q (List.mem_append_left _ h)⟩
  · rw [ho]
    exact List.nodup_append.mpr ⟨st.nd, by simp, fun a h b h' z => by rw [List.mem_singleton] at h'; subst h'; subst z; exact np1 h⟩
  · intro q h
    rw [ho] at h
    rcases List.mem_append.mp h with h | h
    · exact st.apart q h
    · rw [List.mem_singleton] at h; subst h; exact fun z => np (List.mem_append_left _ z)
  · intro q h
    rw [ho, ← List.append_assoc] at h
    rcases List.mem_append.mp h with h | h
    · rw [same q h]; exact st.live q h
    · rw [List.mem_singleton] at h; subst h; exact ce.nco
  · refine Paired.snoc (cells_mono S (fun a h => same a (List.mem_append_right _ h)) st.cells) (ce.mono S fun a e => rfl)
  · rw [ho] at h1
    rcases List.mem_append.mp h1 with h1 | h1
    · exact absurd h1 h2
    · rw [List.mem_singleton] at h1; subst h1; exact hp
theorem own_slot {K : PySem.W.Frag} {T : Th K} {as : As} {h : Hp} {p : Addr} : SlotAt T (as ++ [some p]) h (.ref p) (.own as.length) :=
  ⟨by rw [List.length_append, List.length_singleton]; omega, fun q e => by rw [List.getElem?_append_right (Nat.le_refl _), Nat.sub_self] at e; cases e; rfl⟩
theorem StC.len {Z : List Addr} {as : As} {cs : Cs T} {H : Hp} (st : StC T Z as cs H) : as.length = cs.length := Paired.length st.cells
def dTup {K : PySem.W.Frag} {T : Th K} (t : TDA T) : TDE T := fun g cs Q => t g cs fun ss cs1 => onDats ss fun ds => ds.length ≤ sizeLine ∧ Q (.dat (.tup ds)) cs1
def dLst {K : PySem.W.Frag} {T : Th K} (t : TDA T) : TDE T := fun g cs Q => t g cs fun ss cs1 => onDats ss fun ds => ds.length ≤ sizeLine ∧ Q (.dat (.lst ds)) cs1
def dLstO {K : PySem.W.Frag} {T : Th K} (t : TDA T) : TDE T := fun g cs Q => t g cs fun ss cs1 => onDats ss fun ds => ds.length ≤ sizeLine ∧ Q (.own cs1.length) (cs1 ++ [.lst ds])
theorem pd_tup {x1} {t : TDA T} (h : PDA B X es t) : PD B X (.Tuple es x1 pos) (dTup t) :=
  PE.imp (pe_tup h) fun σ H Q ⟨g, as, cs, q, st, h, k⟩ => ⟨g, as, cs, _, st, h, fun ss cs1 h1 vs as1 H1 x1 r1 => by
    obtain ⟨ds, e1, h1⟩ := onDats_of h1
    have rl := datL_rep r1 e1
    exact ⟨by rw [rl.len]; exact h1.1, fun p hp => k _ _ h1.2 _ _ _ (ext_grow (g := g) (σ := σ) (cs := cs) x1 (upd_sub hp)) (new_tup x1.c.live hp rl)⟩⟩
theorem pd_lst {t : TDA T} (h : PDA B X es t) : PD B X (.List es pos) (dLst t) :=
  PE.imp (pe_lst h) fun σ H Q ⟨g, as, cs, q, st, h, k⟩ => ⟨g, as, cs, _, st, h, fun ss cs1 h1 vs as1 H1 x1 r1 => by
    obtain ⟨ds, e1, h1⟩ := onDats_of h1
    have rl := datL_rep r1 e1
    exact ⟨by rw [rl.len]; exact h1.1, fun p hp => k _ _ h1.2 _ _ _ (ext_grow (g := g) (σ := σ) (cs := cs) x1 (upd_sub hp)) (new_lst x1.c.live hp rl)⟩⟩
theorem pd_lstO {t : TDA T} (h : PDA B X es t) : PD B X (.List es pos) (dLstO t) :=
  PE.imp (pe_lst h) fun σ H Q ⟨g, as, cs, q, st, h, k⟩ => ⟨g, as, cs, _, st, h, fun ss cs1 h1 vs as1 H1 x1 r1 => by
    obtain ⟨ds, e1, h1⟩ := onDats_of h1
    have rl := datL_rep r1 e1
    exact ⟨by rw [rl.len]; exact h1.1, fun p hp => k _ _ h1.2 _ _ _ (x1.trans (Ex.own x1.c hp ⟨vs, upd_same, rl⟩)) (by rw [← x1.c.len]; exact own_slot)⟩⟩
def dDicO {K : PySem.W.Frag} (T : Th K) : TDE T := fun g cs Q => Q (.own cs.length) (cs ++ [.dic []])
theorem pd_dicO : PD B X (.Dict [] [] pos) (dDicO T) :=
  PE.imp pe_dnewK fun σ H Q ⟨g, as, cs, q, st, h, k⟩ => fun p hp => k _ _ h _ _ _ (Ex.own st.c hp ⟨[], upd_same, .nil⟩) (by rw [← st.c.len]; exact own_slot)
/-! ### given away -/
theorem ow_set {as : As} {i : Nat} {p : Addr} (nd : (ow as).Nodup) (e : as[i]? = some (some p)) : (ow (as.set i none)).Nodup ∧ ∀ a, a ∈ ow (as.set i none) ↔ a ∈ ow as ∧ a ≠ p := by
  induction as generalizing i with
  | nil => simp at e
  | cons x xs ih =>
    cases i with
    | zero =>
      simp at e
      subst e
      have nd : (p :: ow xs).Nodup := nd
      refine ⟨(List.nodup_cons.mp nd).2, fun a => ?_⟩
      show a ∈ ow xs ↔ a ∈ p :: ow xs ∧ a ≠ p
      rw [List.mem_cons]
      exact ⟨fun h => ⟨.inr h, fun z => (List.nodup_cons.mp nd).1 (z ▸ h)⟩, fun ⟨h, n⟩ => h.resolve_left n⟩
    | succ i =>
      have e : xs[i]? = some (some p) := by simpa using e
      cases x with
      | none => exact ih nd e
      | some y =>
        have nd : (y :: ow xs).Nodup := nd
        obtain ⟨n1, n2⟩ := List.nodup_cons.mp nd
        obtain ⟨h1, h2⟩ := ih n2 e
        have hp : p ∈ ow xs := mem_ow.mpr (List.mem_of_getElem? e)
        refine ⟨List.nodup_cons.mpr ⟨fun z => n1 ((h2 y).mp z).1, h1⟩, fun a => ?_⟩
        show a ∈ y :: ow (xs.set i none) ↔ a ∈ y :: ow xs ∧ a ≠ p
        rw [List.mem_cons, List.mem_cons, h2 a]
        constructor
        · rintro (rfl | ⟨h, n⟩)
          · exact ⟨.inl rfl, fun z => n1 (z ▸ hp)⟩
          · exact ⟨.inr h, n⟩
        · rintro ⟨rfl | h, n⟩
          · exact .inl rfl
          · exact .inr ⟨h, n⟩
theorem Paired.put {α β : Type} {G : α → β → Prop} {a : α} {b : β} (r : G a b) : ∀ {l : List α} {m : List β} (i : Nat), Paired G l m → Paired G (l.set i a) (m.set i b)
  | _, _, _, .nil => .nil
  | _, _, 0, .cons x t => .cons r t
  | _, _, i + 1, .cons x t => .cons x (Paired.put r i t)
theorem Ex.frz {as : As} {cs : Cs T} {H : Hp} {i : Nat} {p : Addr} (st : StC T B.Z as cs H) (e : as[i]? = some (some p)) : Ex T B as H (as.set i none) (cs.set i .gone) H := by
  obtain ⟨h1, h2⟩ := ow_set st.nd e
  have S : Same (hid (B.Z ++ ow as) H) (hid (B.Z ++ ow (as.set i none)) H) := hid_same (same_refl _) fun a h => by
    rcases List.mem_append.mp h with h | h
    · exact .inl (List.mem_append_left _ h)
    · exact .inl (List.mem_append_right _ ((h2 a).mp h).1)
  refine ⟨⟨h1, fun a h => st.apart a ((h2 a).mp h).1, fun a h => ?_, ?_⟩, ⟨by rw [List.length_set]; omega, fun j hj => ?_⟩, S, fun q g1 g2 => absurd ((h2 q).mp g1).1 g2, fun _ _ => rfl⟩
  · rcases List.mem_append.mp h with h | h
    · exact st.live a (List.mem_append_left _ h)
    · exact st.live a (List.mem_append_right _ ((h2 a).mp h).1)
  · exact Paired.put (by trivial) i (Paired.mapP st.cells fun x y r => r.mono S fun _ _ => rfl)
  · by_cases hij : i = j
    · subst hij; exact .inr (by rw [List.getElem?_set_self hj])
    · exact .inl (by rw [List.getElem?_set_ne hij])
def dFrz {K : PySem.W.Frag} {T : Th K} (t : TDE T) : TDE T := fun g cs Q => t g cs fun s cs1 => match s with
  | .dat d => Q (.dat d) cs1
  | .own i => match vwC cs1[i]? with
    | some d => Q (.dat d) (cs1.set i .gone)
    | none => False
theorem pd_frz {t : TDE T} (h : PD B X e t) : PD B X e (dFrz t) :=
  PE.imp h fun σ H Q ⟨g, as, cs, q, st, h, k⟩ => ⟨g, as, cs, _, st, h, fun s cs1 h1 v as1 H1 x1 r1 => by
    cases s with
    | dat d => exact k _ _ h1 _ _ _ x1 r1
    | own i =>
      dsimp only at h1
      cases ec : cs1[i]? with
      | none => rw [ec] at h1; exact h1.elim
      | some c =>
        rw [ec] at h1
        obtain ⟨o, e1, e2⟩ := Paired.ix x1.c.cells ec
        cases c with
        | gone => exact h1.elim
        | tab q => exact h1.elim
        | ins C fs => exact h1.elim
        | lst xs =>
          cases o with
          | none => exact e2.elim
          | some p =>
            obtain ⟨vs, e3, e4⟩ := e2
            have f := Ex.frz x1.c e1
            have hv := r1.2 p e1
            subst hv
            have np : p ∉ B.Z ++ ow (as1.set i none) := fun z => by
              rcases List.mem_append.mp z with z | z
              · exact x1.c.apart p (mem_ow.mpr (List.mem_of_getElem? e1)) z
              · exact (((ow_set x1.c.nd e1).2 p).mp z).2 rfl
            exact k _ _ h1 _ _ _ (x1.trans f) (.lst ((hid_out np).trans e3) (e4.mono f.same))
        | dic xs =>
          cases o with
          | none => exact e2.elim
          | some p =>
            obtain ⟨vs, e3, e4⟩ := e2
            have f := Ex.frz x1.c e1
            have hv := r1.2 p e1
            subst hv
            have np : p ∉ B.Z ++ ow (as1.set i none) := fun z => by
              rcases List.mem_append.mp z with z | z
              · exact x1.c.apart p (mem_ow.mpr (List.mem_of_getElem? e1)) z
              · exact (((ow_set x1.c.nd e1).2 p).mp z).2 rfl
            exact k _ _ h1 _ _ _ (x1.trans f) (.dic (.inl ((hid_out np).trans e3)) (e4.mono f.same))⟩
/-! ### built-ins by name -/
variable {x : Str} {p : Pos} {id : String} {Ty : String}
def dCall {K : PySem.W.Frag} {T : Th K} (r : RCall T) (t : TDA T) : TDE T := fun g cs Q => t g cs fun ss cs1 => onViews cs1 ss fun ds => r ds fun d => Q (.dat d) cs1
theorem call_step {r : RCall T} {t : TDA T} {σ : L2.St} {H : Hp} {Q : VK} (h : lE B (dCall r t) σ H Q) :
    lA B t σ H fun xs H1 => ∃ Z ds q, Live Z H1 ∧ TRepL T (hid Z H1) H1 xs ds ∧ r ds q ∧ ∀ d, q d → ∀ v H', Same H1 H' → Rep T (hid Z H') v d → Q v H' := by
  obtain ⟨g, as, cs, q, st, h, k⟩ := h
  refine ⟨g, as, cs, _, st, h, fun ss cs1 h1 vs as1 H1 x1 r1 => ?_⟩
  obtain ⟨ds, rl, h1⟩ := onViews_of x1.c r1 h1
  exact ⟨_, ds, _, live_of x1.c, rl, h1, fun d hd v H' S r' => k _ _ hd v as1 H' (ext_grow (g := g) (σ := σ) (cs := cs) x1 S) r'⟩
theorem pd_callB {r : RCall T} {t : TDA T} (hc : CallD T (.builtin id) r) (hm : X.mg x = none) (ha : PDA B X (e :: es) t) (hg : Gl X x := by rfl) (hv : bootBuiltins x = some (.builtin id) := by decide +kernel) (hn : x ≠ "__name__" := by decide) (hdb : (x == ("__debug__" : Str)) = false := by decide)
    (he : starEach (e :: es) X.env = (false, eval e X.env) :: starEach es X.env := by rfl) (hpl : (backTo pos (starEach es X.env)).any (·.1) = false := by rfl) : PD B X (.Call (.Name x p) (e :: es) [] pos) (dCall r t) :=
  PE.imp (pe_callB hc hg hm hv ha hn hdb he hpl) fun _ _ _ h => call_step h
theorem pd_callTy {r : RCall T} {t : TDA T} (hc : CallD T (.type Ty) r) (hm : X.mg x = none) (ha : PDA B X (e :: es) t) (hg : Gl X x := by rfl) (hv : bootBuiltins x = some (.type Ty) := by decide +kernel) (hn : x ≠ "__name__" := by decide) (hdb : (x == ("__debug__" : Str)) = false := by decide)
    (he : starEach (e :: es) X.env = (false, eval e X.env) :: starEach es X.env := by rfl) (hpl : (backTo pos (starEach es X.env)).any (·.1) = false := by rfl) : PD B X (.Call (.Name x p) (e :: es) [] pos) (dCall r t) :=
  PE.imp (pe_callTy hc hg hm hv ha hn hdb he hpl) fun _ _ _ h => call_step h
theorem trepl1 {K : PySem.W.Frag} {T : Th K} {h H : Hp} {xs : List V} {d : D T.O} (r : TRepL T h H xs [d]) : ∃ v, xs = [v] ∧ TRep T h H v d := by
  cases r with
  | cons a b => cases b; exact ⟨_, rfl, a⟩
theorem trepl2 {K : PySem.W.Frag} {T : Th K} {h H : Hp} {xs : List V} {d1 d2 : D T.O} (r : TRepL T h H xs [d1, d2]) : ∃ v u, xs = [v, u] ∧ TRep T h H v d1 ∧ TRep T h H u d2 := by
  cases r with
  | cons a b => cases b with
    | cons c d => cases d; exact ⟨_, _, rfl, a, c⟩
/-- one argument -/
def r1 {K : PySem.W.Frag} {T : Th K} (f : D T.O → (D T.O → Prop) → Prop) : RCall T := fun ds k => match ds with
  | [d] => f d k
  | _ => False
theorem r1_of {f : D T.O → (D T.O → Prop) → Prop} {ds : List (D T.O)} {k : D T.O → Prop} (h : r1 f ds k) : ∃ d, ds = [d] ∧ f d k := by
  match ds, h with
  | [d], h => exact ⟨d, rfl, h⟩
def fLen {K : PySem.W.Frag} {T : Th K} : D T.O → (D T.O → Prop) → Prop := fun d k => match d with
  | .lst xs => k (.int xs.length)
  | .tup xs => k (.int xs.length)
  | .dic xs => k (.int xs.length)
  | .str s => k (.int s.length)
  | _ => False
theorem len_rd : CallR X (.builtin "len") (fun xs H Q => ∃ a kvs, xs = [V.ref a] ∧ Rd H a (.dK kvs) ∧ Q (.int kvs.length) H) := by
  intro pins s σ H xs us Q I r h
  obtain ⟨a, kvs, rfl, ha, q⟩ := h
  obtain ⟨u, rfl, ru⟩ := vals1 r
  cases ru
  exact d_len I ha fun t _ I' => ⟨.int kvs.length, H, I', ⟨t, rfl⟩, q⟩
theorem cd_len : CallD T (.builtin "len") (r1 fLen) := by
  intro pins s σ H xs us Q I ru h
  obtain ⟨Z, ds, q, l, rl, hr, k⟩ := h
  obtain ⟨d, rfl, hr⟩ := r1_of hr
  obtain ⟨v, rfl, rv⟩ := trepl1 rl
  cases d <;> try exact hr.elim
  · obtain ⟨e1, e2⟩ := rv.of_str
    subst e1
    exact call_len_str pins s σ H _ us Q I ru ⟨_, rfl, e2, k _ hr _ _ (same_refl _) (.int _)⟩
  · obtain ⟨a, vs, rfl, e2, e3⟩ := rv.of_tup hid_sub
    exact call_len_seq pins s σ H _ us Q I ru ⟨a, vs, rfl, .inr e2, by rw [e3.len]; exact k _ hr _ _ (same_refl _) (.int _)⟩
  · obtain ⟨a, vs, rfl, e2, e3⟩ := rv.of_lst hid_sub
    exact call_len_seq pins s σ H _ us Q I ru ⟨a, vs, rfl, .inl (SqL.of e2), by rw [e3.len]; exact k _ hr _ _ (same_refl _) (.int _)⟩
  · obtain ⟨a, vs, rfl, e2, e3⟩ := rv.of_dic hid_sub
    exact len_rd pins s σ H _ us Q I ru ⟨a, vs, rfl, e2, by rw [e3.len]; exact k _ hr _ _ (same_refl _) (.int _)⟩
def fInt {K : PySem.W.Frag} {T : Th K} : D T.O → (D T.O → Prop) → Prop := fun d k => match d with
  | .int i => k (.int i)
  | .bl b => k (.int (if b then 1 else 0))
  | _ => False
theorem cd_int : CallD T (.type "int") (r1 fInt) := CallR.imp call_int1 fun xs H Q ⟨Z, ds, q, l, rl, hr, k⟩ => by
  obtain ⟨d, rfl, hr⟩ := r1_of hr
  obtain ⟨v, rfl, rv⟩ := trepl1 rl
  cases d <;> try exact hr.elim
  · exact .inr ⟨_, by rw [rv.of_bl], k _ hr _ _ (same_refl _) (.int _)⟩
  · exact .inl ⟨_, by rw [rv.of_int], k _ hr _ _ (same_refl _) (.int _)⟩
def fAbs {K : PySem.W.Frag} {T : Th K} : D T.O → (D T.O → Prop) → Prop := fun d k => match d with
  | .int i => k (.int (if i < 0 then -i else i))
  | _ => False
theorem cd_abs : CallD T (.builtin "abs") (r1 fAbs) := CallR.imp call_abs fun xs H Q ⟨Z, ds, q, l, rl, hr, k⟩ => by
  obtain ⟨d, rfl, hr⟩ := r1_of hr
  obtain ⟨v, rfl, rv⟩ := trepl1 rl
  cases d <;> try exact hr.elim
  exact ⟨_, by rw [rv.of_int], k _ hr _ _ (same_refl _) (.int _)⟩
/-- str of a whole number -/
def fStrI {K : PySem.W.Frag} {T : Th K} : D T.O → (D T.O → Prop) → Prop := fun d k => match d with
  | .int i => i.natAbs.log2 < 1920 ∧ (toString i : Str).length ≤ sizeLine ∧ k (.str (toString i))
  | _ => False
theorem cd_strI : CallD T (.type "str") (r1 fStrI) := CallR.imp call_str_int fun xs H Q ⟨Z, ds, q, l, rl, hr, k⟩ => by
  obtain ⟨d, rfl, hr⟩ := r1_of hr
  obtain ⟨v, rfl, rv⟩ := trepl1 rl
  cases d <;> try exact hr.elim
  exact ⟨_, by rw [rv.of_int], hr.1, k _ hr.2.2 _ _ (same_refl _) (.str _ hr.2.1)⟩
/-- list(..), tuple(..) -/
def fList {K : PySem.W.Frag} {T : Th K} : D T.O → (D T.O → Prop) → Prop := fun d k => match d with
  | .lst xs => k (.lst xs)
  | .tup xs => k (.lst xs)
  | _ => False
theorem cd_list : CallD T (.type "list") (r1 fList) := CallR.imp call_list_of fun xs H Q ⟨Z, ds, q, l, rl, hr, k⟩ => by
  obtain ⟨d, rfl, hr⟩ := r1_of hr
  obtain ⟨v, rfl, rv⟩ := trepl1 rl
  cases d <;> try exact hr.elim
  · obtain ⟨a, vs, rfl, e2, e3⟩ := rv.of_tup hid_sub
    exact ⟨a, vs, rfl, .inr e2, fun p hp => k _ hr _ _ (upd_sub hp) (new_lst l hp e3)⟩
  · obtain ⟨a, vs, rfl, e2, e3⟩ := rv.of_lst hid_sub
    exact ⟨a, vs, rfl, .inl (SqL.of e2), fun p hp => k _ hr _ _ (upd_sub hp) (new_lst l hp e3)⟩
def fTuple {K : PySem.W.Frag} {T : Th K} : D T.O → (D T.O → Prop) → Prop := fun d k => match d with
  | .lst xs => k (.tup xs)
  | .tup xs => k (.tup xs)
  | _ => False
theorem cd_tuple : CallD T (.type "tuple") (r1 fTuple) := CallR.imp call_tuple_of fun xs H Q ⟨Z, ds, q, l, rl, hr, k⟩ => by
  obtain ⟨d, rfl, hr⟩ := r1_of hr
  obtain ⟨v, rfl, rv⟩ := trepl1 rl
  cases d <;> try exact hr.elim
  · obtain ⟨a, vs, rfl, e2, e3⟩ := rv.of_tup hid_sub
    cases rv with
    | rep rv => exact ⟨a, vs, rfl, .inr ⟨e2, k _ hr _ _ (same_refl _) rv⟩⟩
  · obtain ⟨a, vs, rfl, e2, e3⟩ := rv.of_lst hid_sub
    exact ⟨a, vs, rfl, .inl ⟨SqL.of e2, fun p hp => k _ hr _ _ (upd_sub hp) (new_tup l hp e3)⟩⟩
/-! ### subscripts -/
def IxD (T : Th X.K) (r : ROp T) : Prop := IxR X fun x y H Q => ∃ Z dx dy q, Live Z H ∧ TRep T (hid Z H) H x dx ∧ TRep T (hid Z H) H y dy ∧ r dx dy q ∧ ∀ d, q d → ∀ v H', Same H H' → Rep T (hid Z H') v d → Q v H'
def rIxD {K : PySem.W.Frag} {T : Th K} : ROp T := fun dx dy k => match dx, dy with
  | .lst xs, .int i => match atI xs i with
    | some d => k d
    | none => False
  | .tup xs, .int i => match atI xs i with
    | some d => k d
    | none => False
  | .str z, .int i => match atI z.cps.toList i with
    | some c => k (.str ⟨#[c]⟩)
    | none => False
  | _, _ => False
theorem atI_rep {K : PySem.W.Frag} {T : Th K} {h : Hp} {vs : List V} {ds : List (D T.O)} (r : RepL T h vs ds) {i : Int} {d : D T.O} (e : atI ds i = some d) : ∃ v, atI vs i = some v ∧ Rep T h v d := by
  unfold atI at e ⊢
  rw [r.len]
  cases q : ixN ds.length i with
  | none => rw [q] at e; cases e
  | some j => rw [q] at e; exact r.get e
theorem IxR.imp {r r' : R2} (h : IxR X r) (i : ∀ x y H Q, r' x y H Q → r x y H Q) : IxR X r' := fun a b pins s σ H x y v u Q I rx ry q => h a b pins s σ H x y v u Q I rx ry (i _ _ _ _ q)
theorem xd_ix : IxD T rIxD := IxR.imp ix_seq fun x y H Q ⟨Z, dx, dy, q, l, rx, ry, hr, k⟩ => by
  cases dx <;> try exact hr.elim
  · cases dy <;> try exact hr.elim
    rename_i z i
    dsimp only [rIxD] at hr
    cases e : atI z.cps.toList i with
    | none => rw [e] at hr; exact hr.elim
    | some c =>
      rw [e] at hr
      exact .inr (.inr ⟨z, i, c, rx.of_str.1, ry.of_int, rx.of_str.2, e, k _ hr _ _ (same_refl _) (.str _ (by show 1 ≤ sizeLine; decide))⟩)
  · cases dy <;> try exact hr.elim
    rename_i xs i
    dsimp only [rIxD] at hr
    obtain ⟨a, vs, e1, e2, e3⟩ := rx.of_tup hid_sub
    cases e : atI xs i with
    | none => rw [e] at hr; exact hr.elim
    | some c =>
      rw [e] at hr
      obtain ⟨v, f1, f2⟩ := atI_rep e3 e
      exact .inr (.inl ⟨a, vs, i, v, e1, ry.of_int, e2, f1, k _ hr _ _ (same_refl _) f2⟩)
  · cases dy <;> try exact hr.elim
    rename_i xs i
    dsimp only [rIxD] at hr
    obtain ⟨a, vs, e1, e2, e3⟩ := rx.of_lst hid_sub
    cases e : atI xs i with
    | none => rw [e] at hr; exact hr.elim
    | some c =>
      rw [e] at hr
      obtain ⟨v, f1, f2⟩ := atI_rep e3 e
      exact .inl ⟨a, vs, i, v, e1, ry.of_int, SqL.of e2, f1, k _ hr _ _ (same_refl _) f2⟩
theorem pd_ix {ta tb : TDE T} (ha : PD B X a ta) (hb : PD B X b tb) (hs : PlainIx b := by exact fun _ _ => rfl) : PD B X (.Subscript a b pos) (dOp rIxD ta tb) :=
  PE.imp (pe_ix xd_ix ha hb hs) fun _ _ _ h => op_step h
/-- a slice -/
def cutD {α : Type} (xs : List α) (lo hi : Option Int) : List α := (xs.drop (HT.sIx xs.length 0 lo)).take (HT.sIx xs.length xs.length hi - HT.sIx xs.length 0 lo)
def rSlD {K : PySem.W.Frag} {T : Th K} : D T.O → Option Int → Option Int → (D T.O → Prop) → Prop := fun d lo hi k => match d with
  | .lst xs => k (.lst (cutD xs lo hi))
  | .str z => k (.str (cutS z lo hi))
  | _ => False
theorem RepL.cut {K : PySem.W.Frag} {T : Th K} {h : Hp} {vs : List V} {ds : List (D T.O)} (r : RepL T h vs ds) (lo hi : Option Int) : RepL T h (cutV vs lo hi) (cutD ds lo hi) := by
  unfold cutV cutD
  rw [r.len]
  exact (r.drop _).take _
theorem cutS_len (z : Str) (lo hi : Option Int) : (cutS z lo hi).length ≤ z.length := by
  unfold cutS
  show (List.toArray _).size ≤ z.cps.size
  rw [List.size_toArray, List.length_take, List.length_drop, Array.length_toList]
  omega
theorem SlR.imp {r r' : V → Option Int → Option Int → Hp → VK → Prop} (h : SlR X r) (i : ∀ x lo hi H Q, r' x lo hi H Q → r x lo hi H Q) : SlR X r' := fun pins s σ H x v vl vu lo hi sl Q I rx a b c q => h pins s σ H x v vl vu lo hi sl Q I rx a b c (i _ _ _ _ _ q)
theorem sd_sl : SlR X fun x lo hi H Q => ∃ Z dx q, Live Z H ∧ TRep T (hid Z H) H x dx ∧ rSlD dx lo hi q ∧ ∀ d, q d → ∀ v H', Same H H' → Rep T (hid Z H') v d → Q v H' :=
  SlR.imp (sl_list.or sl_str) fun x lo hi H Q ⟨Z, dx, q, l, rx, hr, k⟩ => by
    cases dx <;> try exact hr.elim
    · obtain ⟨e1, e2⟩ := rx.of_str
      exact .inr ⟨_, e1, e2, k _ hr _ _ (same_refl _) (.str _ (Nat.le_trans (cutS_len _ _ _) e2))⟩
    · obtain ⟨a, vs, e1, e2, e3⟩ := rx.of_lst hid_sub
      exact .inl ⟨a, vs, e1, SqL.of e2, fun p hp => k _ hr _ _ (upd_sub hp) (new_lst l hp (e3.cut lo hi))⟩
abbrev TDO {K : PySem.W.Frag} (T : Th K) : Type := G T → Cs T → (Option Int → Cs T → Prop) → Prop
def lO {K : PySem.W.Frag} {T : Th K} (B : Ba) (t : TDO T) : TO := fun σ H Q => ∃ g as cs q, Stt T B g as cs σ H ∧ t g cs q ∧ ∀ o cs', q o cs' → ∀ as' H', Ex T B as H as' cs' H' → Q o H'
abbrev PDO (B : Ba) (X : Cx) {T : Th X.K} (e : Option Expr) (t : TDO T) : Prop := PO X e (lO B t)
theorem PO.imp {e : Option Expr} {t t' : TO} (h : PO X e t) (i : ∀ σ H Q, t' σ H Q → t σ H Q) : PO X e t' := ⟨fun pins s σ H Q I q => h.run pins s σ H Q I (i σ H Q q)⟩
def dNoP {K : PySem.W.Frag} {T : Th K} : TDO T := fun _ cs Q => Q none cs
def dSoP {K : PySem.W.Frag} {T : Th K} (t : TDE T) : TDO T := fun g cs Q => t g cs fun s cs1 => match s with
  | .dat (.int i) => Q (some i) cs1
  | _ => False
theorem pdo_none : PDO B X (T := T) none dNoP := PO.imp po_none fun σ H Q ⟨g, as, cs, q, st, h, k⟩ => k _ _ h as H (Ex.refl st.c)
theorem pdo_some {t : TDE T} (h : PD B X e t) : PDO B X (some e) (dSoP t) := PO.imp (po_some h) fun σ H Q ⟨g, as, cs, q, st, h, k⟩ => ⟨g, as, cs, _, st, h, fun s cs1 h1 v as1 H1 x1 r1 => by
  cases s with
  | own i => exact h1.elim
  | dat d =>
    cases d with
    | int i => cases r1; exact ⟨i, rfl, k _ _ h1 _ _ x1⟩
    | _ => exact h1.elim⟩
def dSl {K : PySem.W.Frag} {T : Th K} (te : TDE T) (tl th : TDO T) : TDE T := fun g cs Q => te g cs fun s cs1 => tl g cs1 fun lo cs2 => th g cs2 fun hi cs3 => on1 cs3 s fun d => rSlD d lo hi fun d' => Q (.dat d') cs3
theorem pd_slice {p2 : Pos} {lo hi : Option Expr} {te : TDE T} {tl th : TDO T} (he : PD B X e te) (hl : PDO B X lo tl) (hu : PDO B X hi th) : PD B X (.Subscript e (.Slice lo hi none p2) pos) (dSl te tl th) :=
  PE.imp (pe_slice sd_sl he hl hu) fun σ H Q ⟨g, as, cs, q, st, h, k⟩ => ⟨g, as, cs, _, st, h, fun s cs1 h1 v as1 H1 x1 r1 => ⟨g, as1, cs1, _, st.step x1, h1, fun lo cs2 h2 as2 H2 x2 => ⟨g, as2, cs2, _, (st.step x1).step x2, h2, fun hi cs3 h3 as3 H3 x3 => by
    obtain ⟨d, e1, h3⟩ := on1_of h3
    exact ⟨_, d, _, live_of x3.c, slot_view x3.c ((r1.mono x2.same x2.lk).mono x3.same x3.lk) e1, h3, fun d hd v H' S r' => k _ _ hd v as3 H' (x1.trans (x2.trans (ext_grow (g := g) (σ := σ) (cs := cs) x3 S))) r'⟩⟩⟩⟩
end
end Dl
set_option Elab.async false
set_option linter.all false
set_option maxRecDepth 100000
set_option maxHeartbeats 1000000
/-! Own lists and dicts written; dicts read; fields; targets. -/
namespace Dl
open PySem PySem.Spec PyProof.Rows L2
section
variable {X : Cx} {T : Th X.K} {B : Ba} {e a b c o i : Expr} {es : List Expr} {pos : Pos}
theorem hid_upd {Z : List Addr} {H : Hp} {p : Addr} {u : HO} (h : p ∈ Z) : hid Z (upd H p u) = hid Z H := by
  funext a
  by_cases g : a ∈ Z
  · rw [hid_in g, hid_in g]
  · rw [hid_out g, hid_out g, upd_ne (show a ≠ p from fun z => g (by rw [z]; exact h))]
theorem own_in {as : As} {i : Nat} {p : Addr} (e : as[i]? = some (some p)) : p ∈ ow as := mem_ow.mpr (List.mem_of_getElem? e)
/-- two places of the own objects hold unlike addresses -/
theorem own_inj {as : As} {i j : Nat} {p : Addr} (nd : (ow as).Nodup) (e : as[i]? = some (some p)) (e' : as[j]? = some (some p)) : i = j := by
  induction as generalizing i j with
  | nil => simp at e
  | cons x xs ih =>
    have nt : ∀ {i : Nat}, xs[i]? = some (some p) → x = some p → False := fun {i} h z => by
      subst z
      exact (List.nodup_cons.mp (show (p :: ow xs).Nodup from nd)).1 (own_in h)
    have nd' : (ow xs).Nodup := by
      cases x with
      | none => exact nd
      | some y => exact (List.nodup_cons.mp (show (y :: ow xs).Nodup from nd)).2
    cases i with
    | zero =>
      cases j with
      | zero => rfl
      | succ j => exact (nt (by simpa using e') (by simpa using e)).elim
    | succ i =>
      cases j with
      | zero => exact (nt (by simpa using e) (by simpa using e')).elim
      | succ j => exact congrArg (· + 1) (ih nd' (by simpa using e) (by simpa using e'))
theorem cells_put {as : As} {cs : Cs T} {h H H' : Hp} {i : Nat} {p : Addr} {c : Cell T.O} (nd : (ow as).Nodup) (e : as[i]? = some (some p)) (ce : CellAt T h H' (some p) c) (k : ∀ a ∈ ow as, a ≠ p → H' a = H a) :
    Paired (CellAt T h H) as cs → Paired (CellAt T h H') as (cs.set i c) := by
  induction as generalizing i cs with
  | nil => simp at e
  | cons x xs ih =>
    intro P
    cases P with
    | cons r t =>
      have nd' : (ow xs).Nodup := by
        cases x with
        | none => exact nd
        | some y => exact (List.nodup_cons.mp (show (y :: ow xs).Nodup from nd)).2
      have sub : ∀ a ∈ ow xs, a ∈ ow (x :: xs) := fun a h => mem_ow.mpr (List.mem_cons_of_mem _ (mem_ow.mp h))
      cases i with
      | zero =>
        have e : x = some p := by simpa using e
        subst e
        have np := (List.nodup_cons.mp (show (p :: ow xs).Nodup from nd)).1
        exact .cons ce (cells_mono (same_refl _) (fun a h => k a (sub a h) fun z => np (z ▸ h)) t)
      | succ i =>
        have e : xs[i]? = some (some p) := by simpa using e
        refine .cons (r.mono (same_refl _) fun a z => ?_) (ih nd' e (fun a h => k a (sub a h)) t)
        subst z
        exact k a (mem_ow.mpr List.mem_cons_self) fun z => (List.nodup_cons.mp (show (a :: ow xs).Nodup from nd)).1 (z ▸ own_in e)
theorem Ex.put {as : As} {cs : Cs T} {H : Hp} {i : Nat} {p : Addr} {u : HO} {c : Cell T.O} (st : StC T B.Z as cs H) (e : as[i]? = some (some p)) (ce : CellAt T (hz B as H) (upd H p u) (some p) c) : Ex T B as H as (cs.set i c) (upd H p u) := by
  have hp : p ∈ B.Z ++ ow as := List.mem_append_right _ (own_in e)
  refine ⟨⟨st.nd, st.apart, fun q h => ?_, ?_⟩, Lk.refl _, by rw [hid_upd hp]; exact same_refl _, fun _ x y => absurd x y, fun q h => upd_ne fun z => st.apart p (own_in e) (z ▸ h)⟩
  · by_cases z : q = p
    · subst z; exact ce.nco
    · rw [upd_ne z]; exact st.live q h
  · rw [hid_upd hp]
    exact cells_put st.nd e ce (fun a _ z => upd_ne z) st.cells
theorem own_lst {Z : List Addr} {as : As} {cs : Cs T} {H : Hp} {v : V} {i : Nat} {xs : List (D T.O)} (st : StC T Z as cs H) (r : SlotAt T as (hid (Z ++ ow as) H) v (.own i)) (e : cs[i]? = some (.lst xs)) :
    ∃ p vs, as[i]? = some (some p) ∧ v = .ref p ∧ H p = some (.lst vs) ∧ RepL T (hid (Z ++ ow as) H) vs xs := by
  obtain ⟨o, h1, h2⟩ := Paired.ix st.cells e
  cases o with
  | none => exact h2.elim
  | some p => obtain ⟨vs, h3, h4⟩ := h2; exact ⟨p, vs, h1, r.2 p h1, h3, h4⟩
theorem own_dic {Z : List Addr} {as : As} {cs : Cs T} {H : Hp} {v : V} {i : Nat} {xs : List (Key × D T.O)} (st : StC T Z as cs H) (r : SlotAt T as (hid (Z ++ ow as) H) v (.own i)) (e : cs[i]? = some (.dic xs)) :
    ∃ p vs, as[i]? = some (some p) ∧ v = .ref p ∧ H p = some (.dK vs) ∧ RepK T (hid (Z ++ ow as) H) vs xs := by
  obtain ⟨o, h1, h2⟩ := Paired.ix st.cells e
  cases o with
  | none => exact h2.elim
  | some p => obtain ⟨vs, h3, h4⟩ := h2; exact ⟨p, vs, h1, r.2 p h1, h3, h4⟩
/-- an own list's items -/
def onOwnL {K : PySem.W.Frag} {T : Th K} (cs : Cs T) (s : Sl T.O) (k : Nat → List (D T.O) → Prop) : Prop := match s with
  | .own i => match cs[i]? with
    | some (.lst xs) => k i xs
    | _ => False
  | .dat _ => False
theorem onOwnL_of {cs : Cs T} {s : Sl T.O} {k : Nat → List (D T.O) → Prop} (h : onOwnL cs s k) : ∃ i xs, s = .own i ∧ cs[i]? = some (.lst xs) ∧ k i xs := by
  cases s with
  | dat d => exact h.elim
  | own i =>
    dsimp only [onOwnL] at h
    cases e : cs[i]? with
    | none => rw [e] at h; exact h.elim
    | some c =>
      rw [e] at h
      cases c with
      | lst xs => exact ⟨i, xs, rfl, e, h⟩
      | _ => exact h.elim
def onOwnD {K : PySem.W.Frag} {T : Th K} (cs : Cs T) (s : Sl T.O) (k : Nat → List (Key × D T.O) → Prop) : Prop := match s with
  | .own i => match cs[i]? with
    | some (.dic xs) => k i xs
    | _ => False
  | .dat _ => False
theorem onOwnD_of {cs : Cs T} {s : Sl T.O} {k : Nat → List (Key × D T.O) → Prop} (h : onOwnD cs s k) : ∃ i xs, s = .own i ∧ cs[i]? = some (.dic xs) ∧ k i xs := by
  cases s with
  | dat d => exact h.elim
  | own i =>
    dsimp only [onOwnD] at h
    cases e : cs[i]? with
    | none => rw [e] at h; exact h.elim
    | some c =>
      rw [e] at h
      cases c with
      | dic xs => exact ⟨i, xs, rfl, e, h⟩
      | _ => exact h.elim
def onDat {K : PySem.W.Frag} {T : Th K} (s : Sl T.O) (k : D T.O → Prop) : Prop := match s with
  | .dat d => k d
  | .own _ => False
theorem onDat_of {s : Sl T.O} {k : D T.O → Prop} (h : onDat s k) : ∃ d, s = .dat d ∧ k d := by
  cases s with
  | dat d => exact ⟨d, rfl, h⟩
  | own i => exact h.elim
/-! ### xs.append(e) -/
def dApp {K : PySem.W.Frag} {T : Th K} (to te : TDE T) : TDE T := fun g cs Q => to g cs fun s cs1 => onOwnL cs1 s fun _ _ => te g cs1 fun u cs2 => onDat u fun d => onOwnL cs2 s fun i xs => xs.length < sizeLine ∧ Q (.dat .non) (cs2.set i (.lst (xs ++ [d])))
variable {apos cpos : Pos}
theorem pd_append {to te : TDE T} (ho : PD B X o to) (he : PD B X e te) (hbase : attributeBase o "append" X.env (eval o X.env) = eval o X.env := by rfl)
    (hfew : ((backTo cpos (starEach [e] X.env)).all (fun x => !x.1) && (backToKw cpos (keywordEach [] X.env)).all (fun x => x.1.isSome)
      && decide ([e].length + ([] : List Keyword).length + (if ([] : List Keyword).isEmpty then 0 else 1) < 30)) = true := by rfl)
    (hline : (apos.endLine == cpos.line) = true := by rfl) (hs : starEach [e] X.env = (false, eval e X.env) :: starEach [] X.env := by rfl) (hplain : (backTo cpos (starEach [] X.env)).any (·.1) = false := by rfl) :
    PD B X (.Call (.Attribute o "append" apos) [e] [] cpos) (dApp to te) :=
  PE.imp (pe_bm PySem.F.plainAttrs_list PySem.F.slot_list_append PySem.F.type_list_append mt_append ho (pa_cons he pa_nil hs) hbase hfew hline hs hplain) fun σ H Q ⟨g, as, cs, q, st, h, k⟩ => ⟨g, as, cs, _, st, h, fun s cs1 h1 v as1 H1 x1 r1 => by
    obtain ⟨i, xs, rfl, e1, h1⟩ := onOwnL_of h1
    obtain ⟨p, vs, a1, rfl, a3, a4⟩ := own_lst x1.c r1 e1
    refine ⟨.inl ⟨rfl, vs, SqL.of a3⟩, g, as1, cs1, _, st.step x1, h1, fun u cs2 h2 w as2 H2 x2 r2 => ?_⟩
    obtain ⟨d, ed, h3⟩ := onDat_of h2
    subst ed
    obtain ⟨j, ys, ej, e2, h4⟩ := onOwnL_of h3
    cases ej
    obtain ⟨p2, us, b1, b2, b3, b4⟩ := own_lst x2.c (r1.mono x2.same x2.lk) e2
    cases b2
    refine ⟨p, us, w, rfl, rfl, b3, by rw [b4.len]; exact h4.1, ?_⟩
    exact k _ _ h4.2 _ _ _ (x1.trans (x2.trans (Ex.put x2.c b1 ⟨_, upd_same, b4.app (.cons r2 .nil)⟩))) .non⟩
/-! ### xs[i] = e -/
def dSetIx {K : PySem.W.Frag} {T : Th K} (to ti te : TDE T) : TDS T := fun E g cs => te g cs fun u cs1 => to g cs1 fun s cs2 => ti g cs2 fun w cs3 => onDat u fun d => onDat w fun dw => onOwnL cs3 s fun i xs => match dw with
  | .int n => match ixN xs.length n with
    | some j => E.nx g (cs3.set i (.lst (xs.set j d)))
    | none => False
  | _ => False
theorem pds_setIx {pos' : Pos} {to ti te : TDE T} (ho : PD B X o to) (hi : PD B X i ti) (he : PD B X e te) (hs : swapsWithSole [.Subscript o i pos'] e pos.line X.env = pure false := by rfl) (hw : swappedStores [.Subscript o i pos'] e X.env = pure none := by rfl)
    (h1 : (assignEach [.Subscript o i pos'] X.env).map (·.2) = [assign (.Subscript o i pos') X.env] := by rfl)
    (ha : ∀ v, assign (.Subscript o i pos') X.env v = (do
      let ov ← holding [v] (eval o X.env)
      let iv ← holding [v, ov] (eval i X.env)
      standAt pos'
      holding [v, ov, iv] (setItem ov iv v)
      release [v, ov, iv] []) := by intro _; rfl) : PDS B X (.Assign [.Subscript o i pos'] e pos) (dSetIx to ti te) :=
  PS.imp (ps_asg he (pg_sub ho hi set_list ha) hs hw h1) fun E σ H ⟨g, as, cs, e, s, h, ok⟩ => ⟨g, as, cs, _, s, h, fun u cs1 h1 v as1 H1 x1 r1 => ⟨g, as1, cs1, _, s.step x1, h1, fun s1 cs2 h2 w as2 H2 x2 r2 => ⟨g, as2, cs2, _, (s.step x1).step x2, h2, fun w1 cs3 h3 z as3 H3 x3 r3 => by
    obtain ⟨d, ed, h4⟩ := onDat_of h3
    obtain ⟨dw, ew, h5⟩ := onDat_of h4
    obtain ⟨n, xs, es, e1, h6⟩ := onOwnL_of h5
    subst ed ew es
    clear h3 h4 h5
    have h3 := h6
    clear h6
    obtain ⟨p, vs, a1, a2, a3, a4⟩ := own_lst x3.c (r2.mono x3.same x3.lk) e1
    cases dw with
    | int m =>
      cases r3
      dsimp only at h3
      cases ej : ixN xs.length m with
      | none => rw [ej] at h3; exact h3.elim
      | some j =>
        rw [ej] at h3
        refine ⟨p, vs, m, j, a2, rfl, a3, by rw [a4.len]; exact ej, ?_⟩
        have x4 := Ex.put (u := .lst (vs.set j v)) (c := .lst (xs.set j d)) x3.c a1 ⟨_, upd_same, a4.set ((r1.mono x2.same x2.lk).mono x3.same x3.lk) j⟩
        exact ok.nx _ _ h3 _ _ _ ((((s.step x1).step x2).step x3).step x4)
    | _ => exact h3.elim⟩⟩⟩
/-! ### dicts -/
def keyD {O : Type} : D O → Option Key
  | .int i => some (.inl i)
  | .str s => some (.inr s)
  | _ => none
def valD {α : Type} (kvs : List (Key × α)) (k : Key) : Option α := (kvs.find? fun kv => decide (kv.1 = k)).map (·.2)
def putD {α : Type} (kvs : List (Key × α)) (k : Key) (v : α) : List (Key × α) :=
  if (kvs.any fun kv => decide (kv.1 = k)) = true then kvs.map (fun kv => if kv.1 = k then (kv.1, v) else kv) else kvs ++ [(k, v)]
theorem keyD_ok {K : PySem.W.Frag} {T : Th K} {h H : Hp} {v : V} {d : D T.O} {k : Key} (r : TRep T h H v d) (e : keyD d = some k) : v = kV k := by
  cases d <;> first
    | (cases e; done)
    | (cases e; exact r.of_int)
    | (cases e; exact r.of_str.1)
theorem RepK.val {K : PySem.W.Frag} {T : Th K} {h : Hp} {k : Key} : ∀ {vs : List (Key × V)} {ds : List (Key × D T.O)}, RepK T h vs ds → (valV vs k = none ∧ valD ds k = none) ∨ ∃ v d, valV vs k = some v ∧ valD ds k = some d ∧ Rep T h v d
  | _, _, .nil => .inl ⟨rfl, rfl⟩
  | _, _, @RepK.cons _ _ _ k' v d vs ds a b => by
    by_cases g : k' = k
    · subst g
      exact .inr ⟨v, d, by simp [valV], by simp [valD], a⟩
    · rcases RepK.val (k := k) b with ⟨h1, h2⟩ | ⟨v', d', h1, h2, h3⟩
      · exact .inl ⟨by simpa [valV, g] using h1, by simpa [valD, g] using h2⟩
      · exact .inr ⟨v', d', by simpa [valV, g] using h1, by simpa [valD, g] using h2, h3⟩
theorem RepK.any {K : PySem.W.Frag} {T : Th K} {h : Hp} {k : Key} : ∀ {vs : List (Key × V)} {ds : List (Key × D T.O)}, RepK T h vs ds → (vs.any fun kv => decide (kv.1 = k)) = (ds.any fun kv => decide (kv.1 = k))
  | _, _, .nil => rfl
  | _, _, .cons a b => by rw [List.any_cons, List.any_cons, b.any]
theorem RepK.app {K : PySem.W.Frag} {T : Th K} {h : Hp} : ∀ {vs us : List (Key × V)} {ds es : List (Key × D T.O)}, RepK T h vs ds → RepK T h us es → RepK T h (vs ++ us) (ds ++ es)
  | _, _, _, _, .nil, q => q
  | _, _, _, _, .cons a b, q => .cons a (b.app q)
theorem RepK.over {K : PySem.W.Frag} {T : Th K} {h : Hp} {k : Key} {v : V} {d : D T.O} (r : Rep T h v d) : ∀ {vs : List (Key × V)} {ds : List (Key × D T.O)}, RepK T h vs ds →
    RepK T h (vs.map fun kv => if kv.1 = k then (kv.1, v) else kv) (ds.map fun kv => if kv.1 = k then (kv.1, d) else kv)
  | _, _, .nil => .nil
  | _, _, @RepK.cons _ _ _ k' v' d' vs ds a b => by
    rw [List.map_cons, List.map_cons]
    by_cases g : k' = k
    · rw [if_pos g, if_pos g]; exact .cons r (b.over r)
    · rw [if_neg g, if_neg g]; exact .cons a (b.over r)
theorem RepK.put {K : PySem.W.Frag} {T : Th K} {h : Hp} {k : Key} {v : V} {d : D T.O} (r : Rep T h v d) {vs : List (Key × V)} {ds : List (Key × D T.O)} (q : RepK T h vs ds) : RepK T h (putK vs k v) (putD ds k d) := by
  unfold putK putD
  rw [q.any (k := k)]
  split
  · exact q.over r
  · exact q.app (.cons r .nil)
/-- d[k] of a dict that is met -/
def dGet {K : PySem.W.Frag} {T : Th K} (td ti : TDE T) : TDE T := fun g cs Q => td g cs fun s cs1 => ti g cs1 fun u cs2 => on1 cs2 s fun d => on1 cs2 u fun du => match d, keyD du with
  | .dic kvs, some k => match valD kvs k with
    | some w => Q (.dat w) cs2
    | none => False
  | _, _ => False
theorem pd_dget {td ti : TDE T} (hu : X.A.units + 1 < cLine) (ho : PD B X o td) (hi : PD B X i ti) (hs : NoSl i := by exact fun _ _ => rfl) : PD B X (.Subscript o i pos) (dGet td ti) :=
  PE.imp (pe_dget hu ho hi hs) fun σ H Q ⟨g, as, cs, q, st, h, k⟩ => ⟨g, as, cs, _, st, h, fun s cs1 h1 v as1 H1 x1 r1 => ⟨g, as1, cs1, _, st.step x1, h1, fun u cs2 h2 w as2 H2 x2 r2 => by
    obtain ⟨d, e1, h2⟩ := on1_of h2
    obtain ⟨du, e2, h2⟩ := on1_of h2
    cases ek : keyD du with
    | none => rw [ek] at h2; cases d <;> exact h2.elim
    | some key =>
      rw [ek] at h2
      cases d with
      | dic kvs =>
        dsimp only at h2
        obtain ⟨a, vs, ev, ea, la⟩ := (slot_view x2.c (r1.mono x2.same x2.lk) e1).of_dic hid_sub
        have ey := keyD_ok (slot_view x2.c r2 e2) ek
        rcases RepK.val (k := key) la with ⟨g1, g2⟩ | ⟨z, dz, g1, g2, g3⟩
        · rw [g2] at h2; exact h2.elim
        · rw [g2] at h2
          exact ⟨a, z, ev, by rw [ey, ← g1]; exact .inl ⟨_, _, ea, rfl, rfl⟩, k _ _ h2 _ _ _ (x1.trans x2) g3⟩
      | _ => exact h2.elim⟩⟩
def dInD {K : PySem.W.Frag} {T : Th K} (ti td : TDE T) : TDE T := fun g cs Q => ti g cs fun u cs1 => td g cs1 fun s cs2 => on1 cs2 u fun du => on1 cs2 s fun d => match d, keyD du with
  | .dic kvs, some k => Q (.dat (.bl (valD kvs k).isSome)) cs2
  | _, _ => False
theorem in_dic_step {ti td : TDE T} {σ : L2.St} {H : Hp} {Q : VK} (h : lE B (dInD ti td) σ H Q) :
    lE B ti σ H fun y H1 => lE B td σ H1 fun x H2 => ∃ a o, x = .ref a ∧ DGet H2 a y o ∧ Q (.bl o.isSome) H2 := by
  obtain ⟨g, as, cs, q, st, h, k⟩ := h
  refine ⟨g, as, cs, _, st, h, fun u cs1 h1 v as1 H1 x1 r1 => ⟨g, as1, cs1, _, st.step x1, h1, fun s cs2 h2 w as2 H2 x2 r2 => ?_⟩⟩
  obtain ⟨du, e1, h2⟩ := on1_of h2
  obtain ⟨d, e2, h2⟩ := on1_of h2
  cases ek : keyD du with
  | none => rw [ek] at h2; cases d <;> exact h2.elim
  | some key =>
    rw [ek] at h2
    cases d with
    | dic kvs =>
      have h2 : q (.dat (.bl (valD kvs key).isSome)) cs2 := h2
      obtain ⟨a, vs, ev, ea, la⟩ := (slot_view x2.c r2 e2).of_dic hid_sub
      have ey := keyD_ok (slot_view x2.c (r1.mono x2.same x2.lk) e1) ek
      rcases RepK.val (k := key) la with ⟨g1, g2⟩ | ⟨z, dz, g1, g2, g3⟩
      · rw [g2] at h2
        exact ⟨a, none, ev, by rw [ey, ← g1]; exact .inl ⟨_, _, ea, rfl, rfl⟩, k _ _ h2 _ _ _ (x1.trans x2) (.bl _)⟩
      · rw [g2] at h2
        exact ⟨a, some z, ev, by rw [ey, ← g1]; exact .inl ⟨_, _, ea, rfl, rfl⟩, k _ _ h2 _ _ _ (x1.trans x2) (.bl _)⟩
    | _ => exact h2.elim
theorem pd_inD {ti td : TDE T} (hu : X.A.units + 1 < cLine) (hi : PD B X i ti) (ho : PD B X o td) (h1 : behindInMarks .In o = false := by rfl) : PD B X (.Compare i [.In] [o] pos) (dInD ti td) :=
  PE.imp (pe_cmp (pc_din hu hi ho) h1) fun _ _ _ h => in_dic_step h
theorem pdt_inD {ti td : TDE T} (hu : X.A.units + 1 < cLine) (hi : PD B X i ti) (ho : PD B X o td) (h1 : behindInMarks .In o = false := by rfl) : PDT B X (.Compare i [.In] [o] pos) (dTest (dInD ti td)) :=
  PT.imp (pt_cmp (pc_din hu hi ho) h1) fun _ _ _ h => in_dic_step (test_step h)
/-- d[k] = v, d one's own -/
def dPut {K : PySem.W.Frag} {T : Th K} (td ti tv : TDE T) : TDS T := fun E g cs => tv g cs fun u cs1 => td g cs1 fun s cs2 => ti g cs2 fun w cs3 => onDat u fun d => on1 cs3 w fun dw => onOwnD cs3 s fun n kvs => match keyD dw with
  | some k => kvs.length < sizeLine ∧ E.nx g (cs3.set n (.dic (putD kvs k d)))
  | none => False
theorem pds_dput {pos' : Pos} {td ti tv : TDE T} (hu : X.A.units + 1 < cLine) (ho : PD B X o td) (hi : PD B X i ti) (hv : PD B X e tv) (hs : swapsWith e (some (.Subscript o i pos')) pos.line X.env = pure false := by rfl) :
    PDS B X (.Assign [.Subscript o i pos'] e pos) (dPut td ti tv) :=
  PS.imp (ps_dput hu ho hi hv hs) fun E σ H ⟨g, as, cs, e, s, h, ok⟩ => ⟨g, as, cs, _, s, h, fun u cs1 h1 v as1 H1 x1 r1 => ⟨g, as1, cs1, _, s.step x1, h1, fun s1 cs2 h2 w as2 H2 x2 r2 => ⟨g, as2, cs2, _, (s.step x1).step x2, h2, fun w1 cs3 h3 z as3 H3 x3 r3 => by
    obtain ⟨d, ed, h4⟩ := onDat_of h3
    obtain ⟨dw, e2, h5⟩ := on1_of h4
    obtain ⟨n, kvs, es, e1, h6⟩ := onOwnD_of h5
    subst ed es
    clear h3 h4 h5
    have h3 := h6
    clear h6
    obtain ⟨p, vs, a1, a2, a3, a4⟩ := own_dic x3.c (r2.mono x3.same x3.lk) e1
    cases ek : keyD dw with
    | none => rw [ek] at h3; exact h3.elim
    | some key =>
      rw [ek] at h3
      have ey := keyD_ok (slot_view x3.c r3 e2) ek
      refine ⟨p, _, a2, by rw [ey]; exact DPut.k a3 (by rw [a4.len]; exact h3.1), ?_⟩
      have x4 := Ex.put (u := .dK (putK vs key v)) (c := .dic (putD kvs key d)) x3.c a1 ⟨_, upd_same, a4.put ((r1.mono x2.same x2.lk).mono x3.same x3.lk)⟩
      exact ok.nx _ _ h3.2 _ _ _ ((((s.step x1).step x2).step x3).step x4)⟩⟩⟩
/-! ### targets -/
abbrev TDG {K : PySem.W.Frag} (T : Th K) : Type := Sl T.O → G T → (G T → Prop) → Prop
abbrev TDGs {K : PySem.W.Frag} (T : Th K) : Type := List (D T.O) → G T → (G T → Prop) → Prop
/-- only these slots were set -/
structure Sets (L : List Nat) (σ σ' : L2.St) : Prop where
  len : σ'.length = σ.length
  out : ∀ i, i ∉ L → σ'[i]? = σ[i]?
theorem Sets.refl (L : List Nat) (σ : L2.St) : Sets L σ σ := ⟨rfl, fun _ _ => rfl⟩
theorem Sets.trans {L M : List Nat} {σ σ1 σ2 : L2.St} (h : Sets L σ σ1) (k : Sets M σ1 σ2) : Sets (L ++ M) σ σ2 :=
  ⟨k.len.trans h.len, fun i n => (k.out i fun z => n (List.mem_append_right _ z)).trans (h.out i fun z => n (List.mem_append_left _ z))⟩
theorem Sets.one {σ : L2.St} (i : Nat) (v : Option V) : Sets [i] σ (σ.set i v) := ⟨List.length_set, fun j n => List.getElem?_set_ne fun z => n (by rw [z]; exact List.mem_singleton.mpr rfl)⟩
def lG {K : PySem.W.Frag} {T : Th K} (B : Ba) (L : List Nat) (t : TDG T) : TG := fun v σ H Q => ∃ g as cs s q, Stt T B g as cs σ H ∧ SlotAt T as (hz B as H) v s ∧ t s g q ∧ ∀ g', q g' → ∀ σ', Stt T B g' as cs σ' H → Sets L σ σ' → Q σ' H
def lGs {K : PySem.W.Frag} {T : Th K} (B : Ba) (L : List Nat) (t : TDGs T) : TGs := fun vs σ H Q => ∃ g as cs ds q, Stt T B g as cs σ H ∧ RepL T (hz B as H) vs ds ∧ t ds g q ∧ ∀ g', q g' → ∀ σ', Stt T B g' as cs σ' H → Sets L σ σ' → Q σ' H
abbrev PDG (B : Ba) (X : Cx) {T : Th X.K} (L : List Nat) (e : Expr) (t : TDG T) : Prop := PG X e (lG B L t)
abbrev PDGs (B : Ba) (X : Cx) {T : Th X.K} (L : List Nat) (es : List Expr) (t : TDGs T) : Prop := PGs X es (lGs B L t)
theorem PG.imp {e : Expr} {t t' : TG} (h : PG X e t) (i : ∀ v σ H Q, t' v σ H Q → t v σ H Q) : PG X e t' := ⟨fun pins s σ H v u Q I r q => h.run pins s σ H v u Q I r (i v σ H Q q)⟩
theorem PGs.imp {e : List Expr} {t t' : TGs} (h : PGs X e t) (i : ∀ v σ H Q, t' v σ H Q → t v σ H Q) : PGs X e t' := ⟨fun pins s σ H v u Q I r q => h.run pins s σ H v u Q I r (i v σ H Q q)⟩
def dName {K : PySem.W.Frag} {T : Th K} (i : Nat) : TDG T := fun s g Q => Q (g.set i (some s))
theorem pdg_name (i : Nat) {x : Str} (hN : X.N.Nodup) (hi : X.N[i]? = some x := by rfl) (hx : Loc X.env.scope x := by first | exact Or.inl rfl | exact Or.inr rfl)
    (hf : X.fn x = true ∨ X.env.scope.names.lookup x = some .local := by first | exact .inl rfl | exact .inr rfl) : PDG B X (T := T) [i] (.Name x pos) (dName i) :=
  PG.imp (pg_name hN hi hx hf) fun v σ H Q ⟨g, as, cs, s, q, st, r, h, k⟩ => k _ h _ (st.set i r) (Sets.one i _)
def dGNil {K : PySem.W.Frag} {T : Th K} : TDGs T := fun ds g Q => match ds with
  | [] => Q g
  | _ => False
def dGCons {K : PySem.W.Frag} {T : Th K} (t : TDG T) (u : TDGs T) : TDGs T := fun ds g Q => match ds with
  | d :: r => t (.dat d) g fun g1 => u r g1 Q
  | [] => False
theorem pdgs_nil : PDGs B X (T := T) [] [] dGNil := PGs.imp pgs_nil fun v σ H Q ⟨g, as, cs, ds, q, st, r, h, k⟩ => by
  cases ds with
  | nil => cases r; exact ⟨rfl, k _ h _ st (Sets.refl _ _)⟩
  | cons _ _ => exact h.elim
theorem pdgs_cons {L M : List Nat} {t : TDG T} {u : TDGs T} (h1 : PDG B X L e t) (h2 : PDGs B X M es u) (hs : (assignEach (e :: es) X.env).map (·.2) = assign e X.env :: (assignEach es X.env).map (·.2) := by rfl) : PDGs B X (L ++ M) (e :: es) (dGCons t u) :=
  PGs.imp (pgs_cons h1 h2 hs) fun v σ H Q ⟨g, as, cs, ds, q, st, r, h, k⟩ => by
    cases ds with
    | nil => exact h.elim
    | cons d ds =>
      cases r with
      | cons a b => exact ⟨_, _, rfl, g, as, cs, .dat d, _, st, a, h, fun g1 h1 σ1 st1 w1 => ⟨g1, as, cs, ds, _, st1, b, h1, fun g2 h2 σ2 st2 w2 => k g2 h2 σ2 st2 (w1.trans w2)⟩⟩
def dGTup {K : PySem.W.Frag} {T : Th K} (n : Nat) (t : TDGs T) : TDG T := fun s g Q => match s with
  | .dat (.tup ds) => ds.length = n ∧ t ds g Q
  | _ => False
theorem pdg_tup {L : List Nat} {k n : Nat} {t : TDGs T} (hc : X.calm = true) (h : PDGs B X L es t) (hn : (assignEach es X.env).length = n := by rfl) (hst : (assignEach es X.env).findIdx? (·.1) = none := by rfl) : PDG B X L (.Tuple es k pos) (dGTup n t) :=
  PG.imp (pg_tup hc h hn hst) fun v σ H Q ⟨g, as, cs, s, q, st, r, h, k⟩ => by
    cases s with
    | own i => exact h.elim
    | dat d =>
      cases d with
      | tup ds =>
        cases r with
        | tup a b => exact ⟨_, _, rfl, same_seqT hid_sub a, b.len.trans h.1, g, as, cs, ds, _, st, b, h.2, k⟩
      | _ => exact h.elim
def dAsg {K : PySem.W.Frag} {T : Th K} (te : TDE T) (t : TDG T) : TDS T := fun E g cs => te g cs fun s cs1 => t s g fun g1 => E.nx g1 cs1
theorem pds_asg {L : List Nat} {te : TDE T} {t : TDG T} {tg : Expr} (he : PD B X e te) (hg : PDG B X L tg t) (hs : swapsWithSole [tg] e pos.line X.env = pure false := by rfl) (hw : swappedStores [tg] e X.env = pure none := by rfl)
    (h1 : (assignEach [tg] X.env).map (·.2) = [assign tg X.env] := by rfl) : PDS B X (.Assign [tg] e pos) (dAsg te t) :=
  PS.imp (ps_asg he hg hs hw h1) fun E σ H ⟨g, as, cs, e, s, h, ok⟩ => ⟨g, as, cs, _, s, h, fun u cs1 h1 v as1 H1 x1 r1 => ⟨g, as1, cs1, u, _, s.step x1, r1, h1, fun g2 h2 σ2 st2 _ => ok.nx _ _ h2 _ _ _ st2⟩⟩
end
end Dl
set_option Elab.async false
set_option linter.all false
set_option maxRecDepth 100000
set_option maxHeartbeats 4000000
/-! enumerate over a tuple. -/
namespace PySem
set_option maxHeartbeats 1000000 in
theorem meets_enumerate_new1 {v : Value} {o : Obj} {H : Heap → Prop} (B : Begins v o H) :
    Meets (Builtin.«enumerate.__new__» ⟨[.type "enumerate", v], []⟩) (fun _ R s => H s.heap ∧
      R (.ok (.ret (.ref (s.heap.push o).objs.size))) { s with heap := (s.heap.push o).push { cls := .type "enumerate", data := .fields #[.none, .bool false, .ref s.heap.objs.size, rawInt 0, .none, .none] } }) :=
  .of_wp fun prog w A R s h => by
    obtain ⟨hp, g, d, tk, os⟩ := s; obtain ⟨h1, h⟩ := h
    have hsub := sub_enumerate
    have q1 : ∀ {A' : Around} {E : Value → Shared → Prop} {Q : Value → Shared → Prop}, Q (.ref hp.objs.size) ⟨hp.push o, g, d, tk, os⟩ → wpAny (model prog w) A' (pyIter v) Q E ⟨hp, g, d, tk, os⟩ :=
      fun q => B.iter prog w _ _ ⟨hp, g, d, tk, os⟩ _ h1 q
    wp_walk using q1
    refine wpAny_stack_any fun st => wpAny_pure ?_
    split
    · rename_i c _ _ _ _ _
      cases (c == Value.type "enumerate")
      · wp_walk using q1
        exact ⟨_, rfl, h⟩
      · wp_walk using q1
        exact ⟨_, rfl, h⟩
    · wp_walk using q1
      exact ⟨_, rfl, h⟩
section
variable {prog : Program} {w : World} {A : Around} {E : Value → Shared → Prop} {s : Shared}
theorem enum_begins1 {v : Value} {o : Obj} {H : Heap → Prop} {Q : Value → Shared → Prop} (B : Begins v o H) (h1 : H s.heap)
    (h : ∀ h', IsEnum h' (s.heap.objs.size + 1) s.heap.objs.size 0 .none → h'.get? s.heap.objs.size = some o → h'.objs.size = s.heap.objs.size + 2 →
      (∀ b o, s.heap.get? b = some o → h'.get? b = some o) → Q (.ref (s.heap.objs.size + 1)) { s with heap := h' }) :
    wpAny (model prog w) A (call (.type "enumerate") [v]) Q E s := by
  refine callType_new F.called_enumerate (by decide) (F.typeCall_enumerate_1 _) (F.newCall_enumerate_1 _) (fun obj => F.args_object_init_2 obj _) F.entry_enumerate_new
    (meets_enumerate_new1 B) ⟨h1, ?_⟩
  have hz : (s.heap.push o).objs.size = s.heap.objs.size + 1 := Heap.size_push ..
  show _ ∧ _
  rw [hz]
  have he : IsEnum ((s.heap.push o).push { cls := .type "enumerate", data := .fields #[.none, .bool false, .ref s.heap.objs.size, rawInt 0, .none, .none] }) (s.heap.objs.size + 1) s.heap.objs.size 0 .none := by
    have := Heap.get?_push_size (s.heap.push o) (o := { cls := .type "enumerate", data := .fields #[.none, .bool false, .ref s.heap.objs.size, rawInt 0, .none, .none] }) rfl
    rw [hz] at this; exact this
  refine ⟨⟨_, he, rfl⟩, h _ he (Heap.get?_push_of_some _ (Heap.get?_push_size _ B.free)) (by rw [Heap.size_push, hz]) fun b o x => Heap.get?_push_of_some _ (Heap.get?_push_of_some _ x)⟩
end
section
variable {prog : Program} {w : World} {A : Around} {E : Value → Shared → Prop} {s : Shared}
theorem wpAny_pyNext_enum_endT {e it a : Addr} {i : Nat} {c : Int} {items : Array Value} {old : Value} {Q : Option Value → Shared → Prop} (hh : A.in1.handled = none)
    (he : IsEnum s.heap e it c old) (hit : s.heap.IsTupleIter it a i) (ht : s.heap.IsTuple a items) (hx : items[i]? = none)
    (hQ : ∀ h', Heap.ExtBut it s.heap h' → Q none { s with heap := h' }) : wpAny (model prog w) A (pyNext (.ref e)) Q E s := by
  have hT : s.TypeIs (.ref e) "enumerate" := ⟨_, he, rfl⟩
  unfold pyNext
  refine wpAny_bind (wpAny_attempt (wpAny_callSpecial?_slot (name := Str.ofString "__next__") hT F.slot_enumerate_next
    (wpAny_call_entry F.slot_enumerate_next hT F.entry_enumerate_next ?_ (F.args_enumerate_next_1 _))))
  show wpAny _ _ (field (.ref e) 2 >>= _) _ _ _
  refine wpAny_bind (wpAny_field he rfl (x := .ref it) rfl ?_)
  refine wpAny_bind (wpAny_nextOf_tuple_end hh hit ht hx fun h' x he' hx' => ?_)
  obtain ⟨o, ho, hc⟩ := hx'
  refine wpAny_bind (wpAny_isInstance (T := "StopIteration") (b := true) ⟨o, ho, hc⟩ isSubtype_stop ?_)
  exact wpAny_pure (hQ _ he')
end
end PySem
namespace L2
open PySem PySem.Spec PyProof.Rows
/-- the tuple at a, each item in a new pair with its number -/
def Itet (K : PySem.W.Frag) (a : Addr) : It :=
  ⟨fun i H => ∃ (xs : List V) (x : V), SqT K H a xs ∧ xs[i]? = some x, fun i H v H' => ∃ T x, v = .ref T ∧ H T = none ∧ H' = upd H T (.tup [.int (i : Nat), x]) ∧ ∀ xs, SqT K H a xs → xs[i]? = some x, fun i H => ∃ xs : List V, SqT K H a xs ∧ xs.length ≤ i⟩
theorem turn_enumT {P : Program} {w : World} {K : PySem.W.Frag} {elts : List Expr} {kk : Nat} {tpos : Pos} (a e it : Addr) :
    Turn P w K (.Tuple elts kk tpos) (Itet K a) [e, it] e (fun i h => (∃ old, IsEnum h e it ((i : Nat) : Int) old) ∧ h.IsTupleIter it a i ∧ (e ≠ it ∧ a ≠ it ∧ a ≠ e)) where
  mem := by simp
  obj := fun i h st b hb => by
    obtain ⟨⟨old, he⟩, ⟨o, ho, hc, hd⟩, _⟩ := st
    have e' : b = e ∨ b = it := by simpa using hb
    rcases e' with z | z
    · rw [z]; exact ⟨_, he, fun v q => nomatch q⟩
    · rw [z]; exact ⟨o, ho, fun v q => by rw [hd] at q; cases q⟩
  keep := fun i h h' st k => let ⟨⟨old, he⟩, hi, hne⟩ := st; ⟨⟨old, k e (by simp) _ he⟩, hi.at fun o q => k it (by simp) o q, hne⟩
  item := by
    intro X hP hw hK hc i pins s σ H E I hf st hg
    subst hP hw hK
    obtain ⟨⟨old, he⟩, hit, hne, hai, hae⟩ := st
    obtain ⟨xs, x, hq, hx⟩ := hg
    obtain ⟨its, rv, p, hz⟩ := I.tuple hq
    obtain ⟨u, hu, ru⟩ := rv.get hx
    have hel : e < s.heap.objs.size := Heap.lt_size he
    have hil : it < s.heap.objs.size := by obtain ⟨_, q, _⟩ := hit; exact Heap.lt_size q
    have D : Draws X.prog X.w X.A.in1 it [it, a] its.toArray.size (fun i v => its.toArray[i]? = some v) (fun i h => h.IsTupleIter it a i ∧ h.IsTuple a its.toArray) := Draws.tuple (A := X.A.in1) (show X.A.in1.handled = none from I.ok.hd hc) it a hai its.toArray
    have hlt : i < its.toArray.size := by
      have := (List.getElem?_eq_some_iff.mp hu).1
      simpa using this
    refine wpAny_pyNext_enum_itemD D he ⟨hit, (show s.heap.IsTuple a its.toArray from p)⟩ hlt hne (by simp [hne, Ne.symm hae]) fun x' h' tk hP ho hst hT hsz hk => ?_
    have ex : x' = u := by
      have : its.toArray[i]? = some u := by simpa using hu
      rw [this] at hP
      exact (Option.some.inj hP).symm
    subst ex
    refine ⟨_, rfl, wpAny_letOwnedTupleGo_enum (s := { s with heap := h', toks := tk + 1 }) ho fun h'' he' sb => ?_⟩
    have hT2 : h''.get? s.heap.objs.size = some { cls := .type "tuple", data := .seq #[.int i tk, x'] } := (sb.2 _ (Nat.ne_of_gt hel)).trans hT
    have new : ObjOk X.prog X.w (upd H s.heap.objs.size (.tup [.int (i : Nat), x])) h'' s.heap.objs.size (.tup [.int (i : Nat), x]) :=
      ⟨by show 2 ≤ sizeLine; decide, [.int i tk, x'], .cons ⟨_, rfl⟩ (.cons ru .nil), ⟨_, hT2, rfl, _, rfl⟩⟩
    have I1 : Inv X pins σ (upd H s.heap.objs.size (.tup [.int (i : Nat), x])) { s with heap := h'', toks := tk + 1 } :=
      I.turnedNew (ch := [e, it]) (fun b ob hb q => (sb.2 b (fun z => hb (by simp [z]))).trans (hk b ob (fun z => hb (by simp [z])) (fun z => hb (by simp [z])) q)) hf (Nat.le_refl _) new
    refine ⟨.ref s.heap.objs.size, _, I1, rfl, ⟨_, x, rfl, I.hok.fresh (Nat.le_refl _), rfl, fun ys hy => by rw [I.tuple_inj hy hq]; exact hx⟩, ⟨⟨x', ?_⟩, hst.1.at fun o q => (sb.2 it (Ne.symm hne)).trans q, hne, hai, hae⟩, fun b hb => ?_⟩
    · have e1 : ((i + 1 : Nat) : Int) = (i : Int) + 1 := by omega
      rw [e1]; exact he'
    · have hb' : b < s.heap.objs.size := by
        have e' : b = e ∨ b = it := by simpa using hb
        rcases e' with z | z
        · rw [z]; exact hel
        · rw [z]; exact hil
      rw [upd_ne (Nat.ne_of_lt hb')]
      exact (hf b hb).1
  done := by
    intro X hP hw hK hc i pins s σ H E I hf st hg
    subst hP hw hK
    obtain ⟨⟨old, he⟩, hit, hne, hai, hae⟩ := st
    obtain ⟨xs, hq, hx⟩ := hg
    obtain ⟨its, rv, p, hz⟩ := I.tuple hq
    obtain ⟨f0, f1, f2, f3, f4, f5⟩ := hf it (by simp)
    have hl := rv.length
    exact wpAny_pyNext_enum_endT (show X.A.in1.handled = none from I.ok.hd hc) he hit (show s.heap.IsTuple a its.toArray from p) (by simp; omega) fun h' eb => ⟨rfl, I.turned (t' := s.toks) (fun b o hb q => eb b o hb q) f0 f1 f3 f4 f5⟩
  self := fun A i s Q E st h => let ⟨⟨_, he⟩, _⟩ := st; wpAny_pyIter_enum he h
def iEnumT (K : PySem.W.Frag) (ta : TA) : TI := fun σ H R => ta σ H fun vs H1 => ∃ a xs, vs = [.ref a] ∧ SqT K H1 a xs ∧ R (Itet K a) H1
theorem pi_enumT {X : Cx} {e : Expr} {ta : TA} {p pos tpos : Pos} {elts : List Expr} {kk : Nat} (hg : Gl X "enumerate") (hm : X.mg "enumerate" = none) (ha : PA X [e] ta) (hs : starEach [e] X.env = [(false, eval e X.env)] := by rfl) :
    PI X (.Tuple elts kk tpos) (.Call (.Name "enumerate" p) [e] [] pos) (iEnumT X.K ta) := by
  refine ⟨fun pins s σ H R I h => ?_⟩
  refine Call_ (ld_blt I hg hm boot_enumerate (PyProof.Rows.callWith_type1 (thn (ha.run pos pins s σ H _ I h) fun us s1 ⟨vs, H1, I1, r1, q1⟩ => ?_) hs rfl))
  obtain ⟨a, xs, ex, hq, q⟩ := q1
  subst ex
  cases r1 with
  | cons r rr =>
    cases rr
    cases r
    obtain ⟨its, rv, p', hz⟩ := I1.tuple hq
    have hp : s1.heap.IsTuple a its.toArray := p'
    have hal : a < s1.heap.objs.size := by obtain ⟨o, ho, _⟩ := hp; exact Heap.lt_size ho
    refine enum_begins1 (begins_tuple a its.toArray) hp fun h' he hit hsz hk => wpAny_pyIter_enum he ?_
    have I2 : Inv X pins σ H1 { s1 with heap := h' } := I1.kept (t' := s1.toks) hk
    refine ⟨s1.heap.objs.size + 1, [s1.heap.objs.size + 1, s1.heap.objs.size], _, _, H1, rfl, I2, turn_enumT a (s1.heap.objs.size + 1) s1.heap.objs.size, ⟨⟨.none, he⟩, ⟨_, hit, rfl, rfl⟩, Nat.succ_ne_self _, Nat.ne_of_lt hal, Nat.ne_of_lt (Nat.lt_succ_of_lt hal)⟩, fun b hb => ?_, q⟩
    have e' : b = s1.heap.objs.size + 1 ∨ b = s1.heap.objs.size := by simpa using hb
    have hle : s1.heap.objs.size ≤ b := by
      rcases e' with z | z
      · rw [z]; exact Nat.le_add_right _ _
      · rw [z]; exact Nat.le_refl _
    exact I1.fpOk hle (I1.hok.fresh hle)
section
variable {K : PySem.W.Frag} {a : Addr} {xs : List V}
theorem walk_enumT : Walk (Itet K a) xs.length (fun H => SqT K H a xs) (YPair (fun i => some (.int (i : Nat))) (fun i => xs[i]?)) := by
  refine ⟨fun i _ hi q => ⟨xs, xs[i], q, by simp [hi]⟩, fun _ q => ⟨xs, q, Nat.le_refl _⟩, fun i H v H' _ q y => ?_⟩
  obtain ⟨T, x, h1, h2, h3, h4⟩ := y
  exact ⟨T, .int (i : Nat), x, h1, h2, h3, rfl, h4 xs q⟩
end
end L2
set_option Elab.async false
set_option linter.all false
set_option maxRecDepth 100000
set_option maxHeartbeats 1000000
/-! Loops and comprehensions: folds over the trees that are walked. -/
namespace Dl
open PySem PySem.Spec PyProof.Rows L2
section
variable {X : Cx} {T : Th X.K} {B : Ba} {e a b c o i : Expr} {es : List Expr} {pos : Pos}
/-! ### a place further on as a beginning -/
abbrev Ba.at (B : Ba) (as : As) (H : Hp) : Ba := ⟨B.Z, as, H⟩
theorem Kp.trans {as as' : As} {H H' : Hp} (h : Kp B as H) (k : Kp (B.at as H) as' H') : Kp B as' H' := by
  refine ⟨h.lk.trans k.lk, fun a o h1 h2 => ?_, fun p h1 h2 => ?_⟩
  · have e := h.kept a o h1 h2
    refine k.kept a o (fun z => ?_) e
    rw [h.fresh a z h1] at h2; cases h2
  · by_cases z : p ∈ ow as
    · exact h.fresh p z h2
    · have e := k.fresh p h1 z
      cases q : B.H0 p with
      | none => rfl
      | some o => have := h.kept p o h2 q; rw [show (B.at as H).H0 = H from rfl, this] at e; cases e
theorem Kp.refl (as : As) (H : Hp) : Kp (B.at as H) as H := ⟨Lk.refl _, fun _ _ _ e => e, fun _ x y => absurd x y⟩
theorem kp_same {Z : List Addr} {as as' : As} {H H' : Hp} (k : Kp ⟨Z, as, H⟩ as' H') : Same (hid (Z ++ ow as) H) (hid (Z ++ ow as') H') := fun a o e => by
  obtain ⟨n, e⟩ := hid_some e
  rw [hid_out]
  · exact k.kept a o (fun z => n (List.mem_append_right _ z)) e
  · intro z
    rcases List.mem_append.mp z with z | z
    · exact n (List.mem_append_left _ z)
    · have := k.fresh a z (fun y => n (List.mem_append_right _ y))
      rw [show (Ba.mk Z as H).H0 = H from rfl, e] at this; cases this
theorem Ex.ofKp {as as' : As} {cs cs' : Cs T} {H H' : Hp} (st : StC T B.Z as cs H) (c : StC T B.Z as' cs' H') (k : Kp (B.at as H) as' H') : Ex T B as H as' cs' H' := by
  refine ⟨c, k.lk, kp_same k, fun p h1 h2 => k.fresh p h1 h2, fun p h => ?_⟩
  cases e : H p with
  | none => exact absurd e (st.live p (List.mem_append_left _ h)).ne
  | some o => exact k.kept p o (fun z => st.apart p z h) e
theorem Stt.here {g : G T} {as : As} {cs : Cs T} {σ : L2.St} {H : Hp} (s : Stt T B g as cs σ H) : Stt T (B.at as H) g as cs σ H := ⟨s.c, s.e, Kp.refl _ _⟩
theorem Stt.back {g g' : G T} {as as' : As} {cs cs' : Cs T} {σ σ' : L2.St} {H H' : Hp} (s : Stt T B g as cs σ H) (s' : Stt T (B.at as H) g' as' cs' σ' H') : Stt T B g' as' cs' σ' H' := ⟨s'.c, s'.e, s.k.trans s'.k⟩
theorem Stt.grow {g : G T} {as : As} {cs : Cs T} {σ : L2.St} {H H' : Hp} (s : Stt T B g as cs σ H) (S : Same H H') : Stt T B g as cs σ H' := s.step (Ex.grow s.c S)
/-! ### what is walked -/
/-- J walks the trees ds, from a heap on in which what they are worth stands -/
structure ItOk {K : PySem.W.Frag} (T : Th K) (h1 : Hp) (J : It) (ds : List (D T.O)) : Prop where
  ex : ∃ (G : Hp → Prop) (Y : Nat → Hp → V → Hp → Prop), Walk J ds.length G Y ∧ (∀ Z H, Same h1 (hid Z H) → G H) ∧
    ∀ i x Z H H', i < ds.length → Same h1 (hid Z H) → Live Z H → Y i H x H' → Same H H' ∧ ∃ d, ds[i]? = some d ∧ Rep T (hid Z H') x d
abbrev TDI {K : PySem.W.Frag} (T : Th K) : Type := G T → Cs T → (List (D T.O) → Cs T → Prop) → Prop
def lI {K : PySem.W.Frag} {T : Th K} (B : Ba) (t : TDI T) : TI := fun σ H R => ∃ g as cs q, Stt T B g as cs σ H ∧ t g cs q ∧ ∀ ds cs', q ds cs' → ∀ as' H' J, Ex T B as H as' cs' H' → ItOk T (hz B as' H') J ds → R J H'
abbrev PDI (B : Ba) (X : Cx) {T : Th X.K} (tg iter : Expr) (t : TDI T) : Prop := PI X tg iter (lI B t)
theorem PI.imp {tg iter : Expr} {t t' : TI} (h : PI X tg iter t) (i : ∀ σ H Q, t' σ H Q → t σ H Q) : PI X tg iter t' := ⟨fun pins s σ H Q I q => h.run pins s σ H Q I (i σ H Q q)⟩
theorem PI.or {tg iter : Expr} {t t' : TI} (h : PI X tg iter t) (h' : PI X tg iter t') : PI X tg iter (fun σ H Q => t σ H Q ∨ t' σ H Q) :=
  ⟨fun pins s σ H Q I q => q.elim (h.run pins s σ H Q I) (h'.run pins s σ H Q I)⟩
/-- a list, a tuple -/
def onSeq {K : PySem.W.Frag} {T : Th K} (s : Sl T.O) (k : List (D T.O) → Prop) : Prop := match s with
  | .dat (.lst ds) => k ds
  | .dat (.tup ds) => k ds
  | _ => False
def dItL {K : PySem.W.Frag} {T : Th K} (t : TDE T) : TDI T := fun g cs Q => t g cs fun s cs1 => match s with
  | .dat (.lst ds) => Q ds cs1
  | _ => False
def dItT {K : PySem.W.Frag} {T : Th K} (t : TDE T) : TDI T := fun g cs Q => t g cs fun s cs1 => match s with
  | .dat (.tup ds) => Q ds cs1
  | _ => False
theorem itok_lst {K : PySem.W.Frag} {T : Th K} {h : Hp} {a : Addr} {vs : List V} {ds : List (D T.O)} (e : h a = some (.lst vs)) (r : RepL T h vs ds) : ItOk T h (Itl K a) ds := by
  refine ⟨fun H => SqL K H a vs, YAt vs, by rw [← r.len]; exact walk_list, fun Z H S => SqL.of (hid_some (S _ _ e)).2, fun i x Z H H2 hi S l y => ?_⟩
  obtain ⟨rfl, y⟩ := y
  obtain ⟨d, e1, e2⟩ := r.getV y
  exact ⟨same_refl _, d, e1, e2.mono S⟩
theorem itok_tup {K : PySem.W.Frag} {T : Th K} {h : Hp} {a : Addr} {vs : List V} {ds : List (D T.O)} (e : SqT K h a vs) (r : RepL T h vs ds) : ItOk T h (Itt K a) ds := by
  refine ⟨fun H => SqT K H a vs, YAt vs, by rw [← r.len]; exact walk_tup, fun Z H S => same_seqT hid_sub (same_seqT S e), fun i x Z H H2 hi S l y => ?_⟩
  obtain ⟨rfl, y⟩ := y
  obtain ⟨d, e1, e2⟩ := r.getV y
  exact ⟨same_refl _, d, e1, e2.mono S⟩
theorem pdi_list {tg : Expr} {t : TDE T} (h : PD B X e t) : PDI B X tg e (dItL t) :=
  PI.imp (pi_list h) fun σ H R ⟨g, as, cs, q, st, h, k⟩ => ⟨g, as, cs, _, st, h, fun s cs1 h1 v as1 H1 x1 r1 => by
    cases s with
    | own i => exact h1.elim
    | dat d =>
      cases d with
      | lst ds =>
        cases r1 with
        | lst a b => exact ⟨_, rfl, ⟨_, SqL.of (hid_some a).2⟩, k _ _ h1 as1 H1 _ x1 (itok_lst a b)⟩
      | _ => exact h1.elim⟩
theorem pdi_tup {tg : Expr} {t : TDE T} (h : PD B X e t) : PDI B X tg e (dItT t) :=
  PI.imp (pi_tup h) fun σ H R ⟨g, as, cs, q, st, h, k⟩ => ⟨g, as, cs, _, st, h, fun s cs1 h1 v as1 H1 x1 r1 => by
    cases s with
    | own i => exact h1.elim
    | dat d =>
      cases d with
      | tup ds =>
        cases r1 with
        | tup a b => exact ⟨_, rfl, ⟨_, same_seqT hid_sub a⟩, k _ _ h1 as1 H1 _ x1 (itok_tup a b)⟩
      | _ => exact h1.elim⟩
/-- range(n), range(a, b) -/
def rangeD {O : Type} (lo hi : Int) : List (D O) := (List.range (hi - lo).toNat).map fun i => .int (lo + (i : Nat))
theorem itok_range {K : PySem.W.Frag} {T : Th K} {h : Hp} {lo hi : Int} {n : Nat} (e : n = (hi - lo).toNat) : ItOk T h (Itr lo n) (rangeD lo hi) := by
  have el : (rangeD lo hi : List (D T.O)).length = n := by unfold rangeD; rw [List.length_map, List.length_range, e]
  refine ⟨fun _ => True, YFn fun i => .int (lo + i), by rw [el]; exact walk_range, fun _ _ _ => trivial, fun i x Z H H2 hi' S l y => ?_⟩
  obtain ⟨rfl, rfl⟩ := y
  refine ⟨same_refl _, .int (lo + i), ?_, .int _⟩
  unfold rangeD
  rw [List.getElem?_map, List.getElem?_range (by rw [el] at hi'; rw [← e]; exact hi')]
  rfl
theorem lA1_of {t : TDE T} {σ : L2.St} {H : Hp} {Q : List V → Hp → Prop} (h : lE B t σ H fun v H1 => Q [v] H1) : tCons (lE B t) tNil σ H Q := h
def dIt1 {K : PySem.W.Frag} {T : Th K} (t : TDE T) (f : D T.O → (List (D T.O) → Prop) → Prop) : TDI T := fun g cs Q => t g cs fun s cs1 => on1 cs1 s fun d => f d fun ds => Q ds cs1
def fRng {K : PySem.W.Frag} {T : Th K} : D T.O → (List (D T.O) → Prop) → Prop := fun d k => match d with
  | .int n => (-(2 ^ 62) ≤ n ∧ n < 2 ^ 62) ∧ k (rangeD 0 n)
  | _ => False
theorem pdi_range1 {tg : Expr} {p : Pos} {t : TDE T} (hm : X.mg "range" = none) (ha : PD B X a t) (hg : Gl X "range" := by rfl) (hs : starEach [a] X.env = [(false, eval a X.env)] := by rfl) : PDI B X tg (.Call (.Name "range" p) [a] [] pos) (dIt1 t fRng) :=
  PI.imp (pi_range1 hg hm (pa_cons ha pa_nil hs) hs) fun σ H R ⟨g, as, cs, q, st, h, k⟩ => by
    refine lA1_of ⟨g, as, cs, _, st, h, fun s cs1 h1 v as1 H1 x1 r1 => ?_⟩
    obtain ⟨d, e1, h1⟩ := on1_of h1
    have tr := slot_view x1.c r1 e1
    cases d with
    | int n => exact ⟨n, by rw [tr.of_int], h1.1.1, h1.1.2, k _ _ h1.2 as1 H1 _ x1 (itok_range (by rw [Int.sub_zero]))⟩
    | _ => exact h1.elim
/-- enumerate of a list, of a tuple -/
def enumD {O : Type} : Nat → List (D O) → List (D O)
  | _, [] => []
  | i, d :: ds => .tup [.int i, d] :: enumD (i + 1) ds
theorem enumD_len {O : Type} : ∀ (i : Nat) (ds : List (D O)), (enumD i ds).length = ds.length
  | _, [] => rfl
  | i, _ :: ds => congrArg (· + 1) (enumD_len (i + 1) ds)
theorem enumD_get {O : Type} : ∀ (j i : Nat) (ds : List (D O)) (d : D O), ds[i]? = some d → (enumD j ds)[i]? = some (.tup [.int ((j + i : Nat) : Int), d])
  | _, _, [], _, e => by simp at e
  | j, 0, x :: xs, d, e => by simp at e; subst e; rfl
  | j, i + 1, x :: xs, d, e => by
    have := enumD_get (j + 1) i xs d (by simpa using e)
    rw [show j + (i + 1) = j + 1 + i by omega]
    simpa [enumD] using this
def fEnum {K : PySem.W.Frag} {T : Th K} : D T.O → (List (D T.O) → Prop) → Prop := fun d k => match d with
  | .lst ds => k (enumD 0 ds)
  | .tup ds => k (enumD 0 ds)
  | _ => False
theorem itok_pair {K : PySem.W.Frag} {T : Th K} {h : Hp} {J : It} {n : Nat} {G : Hp → Prop} {xs ys : Nat → Option V} {out : List (D T.O)} (w : Walk J n G (YPair xs ys)) (hn : n = out.length)
    (hG : ∀ H, Same h H → G H) (hY : ∀ i x y, i < n → xs i = some x → ys i = some y → ∃ dx dy, Rep T h x dx ∧ Rep T h y dy ∧ out[i]? = some (.tup [dx, dy])) : ItOk T h J out := by
  refine ⟨G, YPair xs ys, by rw [← hn]; exact w, fun Z H S => hG H (same_trans S hid_sub), fun i v Z H H2 hi S l y => ?_⟩
  obtain ⟨Tp, x, z, rfl, h2, rfl, h4, h5⟩ := y
  obtain ⟨dx, dy, r1, r2, e⟩ := hY i x z (by rw [hn]; exact hi) h4 h5
  exact ⟨upd_sub h2, _, e, new_tup l h2 (.cons (r1.mono S) (.cons (r2.mono S) .nil))⟩
theorem pdi_or {tg iter : Expr} {t t' : TDI T} (h : PDI B X tg iter t) (h' : PDI B X tg iter t') : PDI B X tg iter (fun g cs Q => t g cs Q ∨ t' g cs Q) :=
  PI.imp (PI.or h h') fun σ H R ⟨g, as, cs, q, st, w, k⟩ => w.elim (fun w => .inl ⟨g, as, cs, q, st, w, k⟩) (fun w => .inr ⟨g, as, cs, q, st, w, k⟩)
def dItF {K : PySem.W.Frag} {T : Th K} (t : TDI T) (f : List (D T.O) → List (D T.O)) : TDI T := fun g cs Q => t g cs fun ds cs1 => Q (f ds) cs1
theorem pdi_enumL {p tpos : Pos} {elts : List Expr} {kk : Nat} {t : TDE T} (hm : X.mg "enumerate" = none) (ha : PD B X e t) (hg : Gl X "enumerate" := by rfl) (hs : starEach [e] X.env = [(false, eval e X.env)] := by rfl) :
    PDI B X (.Tuple elts kk tpos) (.Call (.Name "enumerate" p) [e] [] pos) (dItF (dItL t) (enumD 0)) :=
  PI.imp (pi_enum hg hm (pa_cons ha pa_nil hs) hs) fun σ H R ⟨g, as, cs, q, st, h, k⟩ => by
    refine lA1_of ⟨g, as, cs, _, st, h, fun s cs1 h1 v as1 H1 x1 r1 => ?_⟩
    cases s with
    | own i => exact h1.elim
    | dat d =>
      cases d with
      | lst ds =>
        cases r1 with
        | @lst a vs _ ha lb =>
          refine ⟨a, vs, rfl, SqL.of (hid_some ha).2, k _ _ h1 as1 H1 _ x1 (itok_pair walk_enum (by rw [enumD_len, lb.len]) (fun H' S => SqL.of (S _ _ ha)) fun i x y hi e1 e2 => ?_)⟩
          cases e1
          obtain ⟨d, f1, f2⟩ := lb.getV e2
          exact ⟨.int i, d, .int _, f2, by have := enumD_get 0 i _ _ f1; rwa [Nat.zero_add] at this⟩
      | _ => exact h1.elim
theorem pdi_enumT {p tpos : Pos} {elts : List Expr} {kk : Nat} {t : TDE T} (hm : X.mg "enumerate" = none) (ha : PD B X e t) (hg : Gl X "enumerate" := by rfl) (hs : starEach [e] X.env = [(false, eval e X.env)] := by rfl) :
    PDI B X (.Tuple elts kk tpos) (.Call (.Name "enumerate" p) [e] [] pos) (dItF (dItT t) (enumD 0)) :=
  PI.imp (pi_enumT hg hm (pa_cons ha pa_nil hs) hs) fun σ H R ⟨g, as, cs, q, st, h, k⟩ => by
    refine lA1_of ⟨g, as, cs, _, st, h, fun s cs1 h1 v as1 H1 x1 r1 => ?_⟩
    cases s with
    | own i => exact h1.elim
    | dat d =>
      cases d with
      | tup ds =>
        cases r1 with
        | @tup a vs _ ha lb =>
          refine ⟨a, vs, rfl, same_seqT hid_sub ha, k _ _ h1 as1 H1 _ x1 (itok_pair walk_enumT (by rw [enumD_len, lb.len]) (fun H' S => same_seqT S ha) fun i x y hi e1 e2 => ?_)⟩
          cases e1
          obtain ⟨d, f1, f2⟩ := lb.getV e2
          exact ⟨.int i, d, .int _, f2, by have := enumD_get 0 i _ _ f1; rwa [Nat.zero_add] at this⟩
      | _ => exact h1.elim
/-- a text, sign by sign -/
def signsD {O : Type} (z : Str) : List (D O) := z.cps.toList.map fun c => .str ⟨#[c]⟩
def dItS {K : PySem.W.Frag} {T : Th K} (t : TDE T) : TDI T := fun g cs Q => t g cs fun s cs1 => match s with
  | .dat (.str z) => Q (signsD z) cs1
  | _ => False
theorem pdi_str {tg : Expr} {t : TDE T} (h : PD B X e t) : PDI B X tg e (dItS t) :=
  PI.imp (pi_str h) fun σ H R ⟨g, as, cs, q, st, h, k⟩ => ⟨g, as, cs, _, st, h, fun s cs1 h1 v as1 H1 x1 r1 => by
    cases s with
    | own i => exact h1.elim
    | dat d =>
      cases d with
      | str z =>
        cases r1 with
        | str z hz =>
          refine ⟨z, rfl, k _ _ h1 as1 H1 _ x1 ⟨fun _ => True, _, by (have el : (signsD z : List (D T.O)).length = z.cps.size := by unfold signsD; rw [List.length_map, Array.length_toList]); rw [el]; exact walk_str, fun _ _ _ => trivial, fun i x Z H' H2 hi S l y => ?_⟩⟩
          obtain ⟨rfl, c, e1, rfl⟩ := y
          exact ⟨same_refl _, .str ⟨#[c]⟩, by unfold signsD; rw [List.getElem?_map, Array.getElem?_toList, e1]; rfl, .str _ (by show 1 ≤ sizeLine; decide)⟩
      | _ => exact h1.elim⟩
/-- zip of two lists -/
def zipD {O : Type} : List (D O) → List (D O) → List (D O)
  | d :: ds, e :: es => .tup [d, e] :: zipD ds es
  | _, _ => []
theorem zipD_len {O : Type} : ∀ (ds es : List (D O)), (zipD ds es).length = min ds.length es.length
  | [], _ => by simp [zipD]
  | _ :: _, [] => by simp [zipD]
  | _ :: ds, _ :: es => by simp [zipD, zipD_len ds es]
theorem zipD_get {O : Type} : ∀ (i : Nat) (ds es : List (D O)) (d e : D O), ds[i]? = some d → es[i]? = some e → (zipD ds es)[i]? = some (.tup [d, e])
  | _, [], _, _, _, h, _ => by simp at h
  | _, _ :: _, [], _, _, _, h => by simp at h
  | 0, x :: xs, y :: ys, d, e, h, h' => by simp at h h'; subst h; subst h'; rfl
  | i + 1, x :: xs, y :: ys, d, e, h, h' => by simpa [zipD] using zipD_get i xs ys d e (by simpa using h) (by simpa using h')
def dItZ {K : PySem.W.Frag} {T : Th K} (t u : TDE T) : TDI T := fun g cs Q => t g cs fun s cs1 => u g cs1 fun s' cs2 => match s, s' with
  | .dat (.lst ds), .dat (.lst es) => Q (zipD ds es) cs2
  | _, _ => False
theorem pdi_zip {p tpos : Pos} {elts : List Expr} {kk : Nat} {t u : TDE T} (hm : X.mg "zip" = none) (ha : PD B X a t) (hb : PD B X b u) (hg : Gl X "zip" := by rfl)
    (hs : starEach [a, b] X.env = (false, eval a X.env) :: starEach [b] X.env := by rfl) (hs2 : starEach [b] X.env = (false, eval b X.env) :: starEach [] X.env := by rfl) (hpl : (backTo pos (starEach [b] X.env)).any (·.1) = false := by rfl) :
    PDI B X (.Tuple elts kk tpos) (.Call (.Name "zip" p) [a, b] [] pos) (dItZ t u) :=
  PI.imp (pi_zip hg hm (pa_cons ha (pa_cons hb pa_nil hs2) hs) hs hpl) fun σ H R ⟨g, as, cs, q, st, h, k⟩ => ⟨g, as, cs, _, st, h, fun s cs1 h1 v as1 H1 x1 r1 => ⟨g, as1, cs1, _, st.step x1, h1, fun s' cs2 h2 w as2 H2 x2 r2 => by
    have r1 := r1.mono x2.same x2.lk
    cases s with
    | own i => exact h2.elim
    | dat d =>
      cases s' with
      | own i => cases d <;> exact h2.elim
      | dat d' =>
        cases d <;> try exact h2.elim
        cases d' <;> try exact h2.elim
        cases r1 with
        | @lst pa vs ds ha lb =>
          cases r2 with
          | @lst pb us es hb lc =>
            refine ⟨pa, pb, vs, us, rfl, SqL.of (hid_some ha).2, SqL.of (hid_some hb).2, k _ _ h2 as2 H2 _ (x1.trans x2) (itok_pair (walk_zip rfl) (by rw [zipD_len, lb.len, lc.len])
              (fun H' S => ⟨SqL.of (S _ _ ha), SqL.of (S _ _ hb)⟩) fun i x y hi e1 e2 => ?_)⟩
            obtain ⟨d, f1, f2⟩ := lb.getV e1
            obtain ⟨e, g1, g2⟩ := lc.getV e2
            exact ⟨d, e, f2, g2, zipD_get i _ _ _ _ f1 g1⟩⟩⟩
/-! ### for -/
def forD {K : PySem.W.Frag} {T : Th K} (dg : TDG T) (tb : TDS T) : List (D T.O) → En T → G T → Cs T → Prop
  | [], e, g, cs => e.nx g cs
  | d :: ds, e, g, cs => dg (.dat d) g fun g1 => tb { e with nx := fun g cs => forD dg tb ds e g cs, ct := fun g cs => forD dg tb ds e g cs, bk := e.nx } g1 cs
def dFor {K : PySem.W.Frag} {T : Th K} (src : TDI T) (dg : TDG T) (tb : TDS T) : TDS T := fun e g cs => src g cs fun ds cs1 => forD dg tb ds e g cs1
theorem PSs.ex {ι : Type} {sts : List Stmt} {t : ι → TS} (h : ∀ i, PSs X sts (t i)) : PSs X sts (fun E σ H => ∃ i, t i E σ H) := ⟨fun pins s σ H E I ⟨i, q⟩ => (h i).run pins s σ H E I q⟩
theorem PG.ex {ι : Type} {tg : Expr} {t : ι → TG} (h : ∀ i, PG X tg (t i)) : PG X tg (fun v σ H Q => ∃ i, t i v σ H Q) := ⟨fun pins s σ H v u Q I r ⟨i, q⟩ => (h i).run pins s σ H v u Q I r q⟩
theorem PE.ex {ι : Type} {e : Expr} {t : ι → TE} (h : ∀ i, PE X e (t i)) : PE X e (fun σ H Q => ∃ i, t i σ H Q) := ⟨fun pins s σ H Q I ⟨i, q⟩ => (h i).run pins s σ H Q I q⟩
/-- a base further on -/
def Le (B B' : Ba) : Prop := B'.Z = B.Z ∧ Kp B B'.as0 B'.H0
theorem Le.refl (B : Ba) : Le B B := ⟨rfl, Lk.refl _, fun _ _ _ e => e, fun _ x y => absurd x y⟩
theorem EnOk.back {as : As} {H : Hp} {e : En T} {E : Ends} {σ : L2.St} {g : G T} {cs : Cs T} (s : Stt T B g as cs σ H) (o : EnOk B e E) : EnOk (B.at as H) e E :=
  ⟨fun g cs h as' σ' H' s' => o.nx g cs h as' σ' H' (s.back s'), fun d cs h v as' H' f => o.rt d cs h v as' H' ⟨f.c, s.k.trans f.k, f.r⟩, fun g cs h as' σ' H' s' => o.bk g cs h as' σ' H' (s.back s'), fun g cs h as' σ' H' s' => o.ct g cs h as' σ' H' (s.back s')⟩
theorem pds_for {L : List Nat} {tg iter : Expr} {body : List Stmt} {src : TDI T} {dg : TDG T} {tb : TDS T} (hp : PassesOwn (model X.prog X.w) X.A X.env X.xe) (hc : X.calm = true) (hi : PDI B X tg iter src) (hg : ∀ B, PDG B X L tg dg) (hb : ∀ B', Le B B' → PDSs B' X body tb) (hs : ∀ x, foldedSetIterable iter X.env x = pure x := by intro _; rfl) :
    PDS B X (.For tg iter body [] pos) (dFor src dg tb) := by
  have hg' := PG.ex hg
  have hb' := PSs.ex (ι := { B' : Ba // Le B B' }) fun i => hb i.1 i.2
  refine PS.imp (ps_for hp hc hi hg' hb' hs) fun E σ H ⟨g, as, cs, e, s, h, ok⟩ => ⟨g, as, cs, _, s, h, fun ds cs1 h1 as1 H1 J x1 it => ?_⟩
  obtain ⟨G, Y, w, hG, hY⟩ := it.ex
  have s1 := s.step x1
  refine for_it (g := fun v σ H Q => ∃ i : Ba, lG i L dg v σ H Q) (tb := fun E σ H => ∃ i : { B' : Ba // Le B B' }, lS i.1 tb E σ H) (D := E) w (fun i σ H => ∃ g as cs, Stt T (B.at as1 H1) g as cs σ H ∧ forD dg tb (ds.drop i) e g cs) ⟨g, as1, cs1, s1.here, h1⟩ (fun i σ H _ ⟨g, as, cs, s2, _⟩ => hG _ H (kp_same s2.k)) ?_ ?_
  · rintro i x σ2 H2 H3 hi ⟨g2, as2, cs2, s2, f⟩ y
    obtain ⟨S, d, ed, r⟩ := hY i x _ H2 H3 hi (kp_same s2.k) s2.c.live y
    have f : forD dg tb (ds.drop i) e g2 cs2 := f
    rw [List.drop_eq_getElem_cons hi] at f
    have ed' : ds[i] = d := by rw [List.getElem?_eq_getElem hi] at ed; exact Option.some.inj ed
    rw [ed'] at f
    refine ⟨_, g2, as2, cs2, .dat d, _, s2.grow S, r, f, fun g3 h3 σ3 s3 _ => ?_⟩
    refine ⟨⟨B.at as1 H1, rfl, s1.k⟩, g3, as2, cs2, _, s3, h3, ⟨fun g cs h as' σ' H' s' => ⟨g, as', cs, s', h⟩, fun d cs h v as' H' f => ?_, fun g cs h as' σ' H' s' => ?_, fun g cs h as' σ' H' s' => ⟨g, as', cs, s', h⟩⟩⟩
    · exact ok.rt d cs h v as' H' ⟨f.c, s1.k.trans f.k, f.r⟩
    · exact ok.nx g cs h as' σ' H' (s1.back s')
  · rintro σ2 H2 ⟨g2, as2, cs2, s2, f⟩
    have f : forD dg tb (ds.drop ds.length) e g2 cs2 := f
    rw [List.drop_length] at f
    exact ok.nx _ _ f _ _ _ (s1.back s2)
/-! ### comprehensions -/
def lcD {K : PySem.W.Frag} {T : Th K} (dg : TDG T) (dt : TDT T) (de : TDE T) (g0 : G T) : List (D T.O) → List (D T.O) → Cs T → (List (D T.O) → Cs T → Prop) → Prop
  | [], acc, cs, Q => Q acc cs
  | d :: ds, acc, cs, Q => dg (.dat d) g0 fun g1 => dt g1 cs fun b cs1 => Br b (de g1 cs1 fun s cs2 => onDat s fun d' => lcD dg dt de g0 ds (acc ++ [d']) cs2 Q) (lcD dg dt de g0 ds acc cs1 Q)
def wipeG {O : Type} (g : List (Option (Sl O))) : List Nat → List (Option (Sl O))
  | [] => g
  | v :: vs => (wipeG g vs).set v none
def dLc {K : PySem.W.Frag} {T : Th K} (src : TDI T) (dg : TDG T) (dt : TDT T) (de : TDE T) (vs : List Nat) : TDE T := fun g cs Q => src g cs fun ds cs1 => ds.length ≤ sizeLine ∧ lcD dg dt de (wipeG g vs) ds [] cs1 fun out cs2 => Q (.dat (.lst out)) cs2
theorem EnvAt.wipe {K : PySem.W.Frag} {T : Th K} {as : As} {h : Hp} {g : Dl.G T} {σ : L2.St} (r : EnvAt T as h g σ) : ∀ vs : List Nat, EnvAt T as h (wipeG g vs) (L2.wipe σ vs)
  | [] => r
  | v :: vs => (r.wipe vs).forget v
def dYes {K : PySem.W.Frag} {T : Th K} : TDT T := fun _ cs Q => Q true cs
theorem PTs.imp {e : List Expr} {t t' : TT} (h : PTs X e t) (i : ∀ σ H Q, t' σ H Q → t σ H Q) : PTs X e t' := ⟨fun pins s σ H Q I q => h.run pins s σ H Q I (i σ H Q q)⟩
theorem PTs.ex {ι : Type} {e : List Expr} {t : ι → TT} (h : ∀ i, PTs X e (t i)) : PTs X e (fun σ H Q => ∃ i, t i σ H Q) := ⟨fun pins s σ H Q I ⟨i, q⟩ => (h i).run pins s σ H Q I q⟩
abbrev PDTs (B : Ba) (X : Cx) {T : Th X.K} (e : List Expr) (t : TDT T) : Prop := PTs X e (lT B t)
theorem pdts_nil : PDTs B X (T := T) [] dYes := PTs.imp pts_nil fun σ H Q ⟨g, as, cs, q, st, h, k⟩ => k _ _ h as H (Ex.refl st.c)
theorem pdts_one {t : TDT T} (h : PDT B X c t) : PDTs B X [c] t := pts_one h
end
end Dl
set_option Elab.async false
set_option linter.all false
set_option maxRecDepth 100000
set_option maxHeartbeats 1000000
/-! A comprehension's rule. -/
namespace Dl
open PySem PySem.Spec PyProof.Rows L2
section
variable {X : Cx} {T : Th X.K} {B : Ba} {e a b c o i : Expr} {es : List Expr} {pos : Pos}
theorem StC.less {Z : List Addr} {D : Addr} {as : As} {cs : Cs T} {H : Hp} (s : StC T (D :: Z) as cs H) : StC T Z as cs H := by
  refine ⟨s.nd, fun p h z => s.apart p h (List.mem_cons_of_mem _ z), fun p h => s.live p (List.mem_cons_of_mem _ h), ?_⟩
  exact cells_mono (hid_same (same_refl _) fun a h => .inl (List.mem_cons_of_mem _ h)) (fun _ _ => rfl) s.cells
/-- a new list that is hidden -/
theorem StC.hide {Z : List Addr} {as : As} {cs : Cs T} {H : Hp} {p : Addr} {u : HO} (s : StC T Z as cs H) (hp : H p = none) (hu : nco (some u) := by trivial) : StC T (p :: Z) as cs (upd H p u) ∧ hid (p :: Z ++ ow as) (upd H p u) = hid (Z ++ ow as) H := by
  have np : p ∉ Z ++ ow as := fun z => (s.live p z).ne hp
  have eh : hid (p :: Z ++ ow as) (upd H p u) = hid (Z ++ ow as) H := by
    funext a
    by_cases z : a = p
    · subst z; exact (hid_in (by simp)).trans (by rw [hid_out np, hp])
    · by_cases g : a ∈ Z ++ ow as
      · exact (hid_in (List.mem_cons_of_mem _ g)).trans (hid_in g).symm
      · exact (hid_out (by rw [List.cons_append, List.mem_cons]; exact fun y => y.elim z g)).trans ((upd_ne z).trans (hid_out g).symm)
  refine ⟨⟨s.nd, fun q h z => ?_, fun q h => ?_, ?_⟩, eh⟩
  · rcases List.mem_cons.mp z with z | z
    · subst z; exact np (List.mem_append_right _ h)
    · exact s.apart q h z
  · rw [List.cons_append] at h
    rcases List.mem_cons.mp h with z | h
    · rw [z, upd_same]; exact hu
    · rw [upd_ne (show q ≠ p from fun z => np (by rw [← z]; exact h))]; exact s.live q h
  · rw [eh]
    exact cells_mono (same_refl _) (fun a h => upd_ne (show a ≠ p from fun z => np (by rw [← z]; exact List.mem_append_right _ h))) s.cells
theorem hid_put {Z : List Addr} {H : Hp} {p : Addr} {u : HO} : hid (p :: Z) (upd H p u) = hid (p :: Z) H := hid_upd List.mem_cons_self
/-- what is hidden is written -/
theorem Stt.poke {Z : List Addr} {as0 : As} {H0 : Hp} {g : G T} {as : As} {cs : Cs T} {σ : L2.St} {H : Hp} {p : Addr} {u : HO} (s : Stt T ⟨p :: Z, as0, H0⟩ g as cs σ H) (hp : H0 p ≠ none) (n0 : p ∉ ow as0) (hu : nco (some u) := by trivial) : Stt T ⟨p :: Z, as0, upd H0 p u⟩ g as cs σ (upd H p u) := by
  have nas : p ∉ ow as := fun z => s.c.apart p z List.mem_cons_self
  have eh : hid (p :: Z ++ ow as) (upd H p u) = hid (p :: Z ++ ow as) H := hid_upd (by simp)
  refine ⟨⟨s.c.nd, s.c.apart, fun q h => ?_, ?_⟩, by rw [show hid ((Ba.mk (p :: Z) as0 (upd H0 p u)).Z ++ ow as) (upd H p u) = hid (p :: Z ++ ow as) H from eh]; exact s.e, ⟨s.k.lk, fun a o h1 h2 => ?_, fun q h1 h2 => ?_⟩⟩
  · by_cases z : q = p
    · rw [z, upd_same]; exact hu
    · rw [upd_ne z]; exact s.c.live q h
  · rw [show hid ((Ba.mk (p :: Z) as0 (upd H0 p u)).Z ++ ow as) (upd H p u) = hid (p :: Z ++ ow as) H from eh]
    exact cells_mono (same_refl _) (fun a h => upd_ne (show a ≠ p from fun z => nas (by rw [← z]; exact h))) s.c.cells
  · by_cases z : a = p
    · subst z; rw [upd_same]; rw [show (Ba.mk (a :: Z) as0 (upd H0 a u)).H0 a = some u from upd_same] at h2; exact h2
    · rw [upd_ne z]; rw [show (Ba.mk (p :: Z) as0 (upd H0 p u)).H0 a = H0 a from upd_ne z] at h2; exact s.k.kept a o h1 h2
  · have z : q ≠ p := fun z => nas (by rw [← z]; exact h1)
    rw [show (Ba.mk (p :: Z) as0 (upd H0 p u)).H0 q = H0 q from upd_ne z]
    exact s.k.fresh q h1 h2
theorem wipe_in {σ : L2.St} {i : Nat} : ∀ {vs : List Nat}, i ∈ vs → i < σ.length → (L2.wipe σ vs)[i]? = some none
  | v :: vs, h, hl => by
    show ((L2.wipe σ vs).set v none)[i]? = some none
    by_cases z : v = i
    · subst z; rw [List.getElem?_set_self (by rw [L2.wipe_length]; exact hl)]
    · rw [List.getElem?_set_ne z]
      exact wipe_in ((List.mem_cons.mp h).resolve_left fun y => z y.symm) hl
theorem Sets.wipe {L : List Nat} {σ σ' : L2.St} {vs : List Nat} (w : Sets L (L2.wipe σ vs) σ') (hL : ∀ i ∈ L, i ∈ vs) : L2.wipe σ' vs = L2.wipe σ vs := by
  have hl : σ'.length = σ.length := w.len.trans (L2.wipe_length σ vs)
  refine List.ext_getElem? fun i => ?_
  by_cases h : i ∈ vs
  · by_cases hi : i < σ.length
    · rw [wipe_in h hi, wipe_in h (hl ▸ hi)]
    · rw [List.getElem?_eq_none (by rw [L2.wipe_length]; omega), List.getElem?_eq_none (by rw [L2.wipe_length]; omega)]
  · rw [L2.wipe_out h, w.out i fun z => h (hL i z), L2.wipe_out h]
theorem lc_read {L : List Nat} {src : TDI T} {dg : TDG T} {dt : TDT T} {de : TDE T} {sl : List Nat} {σ : L2.St} {H : Hp} {Q : VK} (hL : ∀ i ∈ L, i ∈ sl) (h : lE B (dLc src dg dt de sl) σ H Q) :
    tLc (lI B src) (fun v σ H Q => ∃ B : Ba, lG B L dg v σ H Q) (fun σ H Q => ∃ B : Ba, lT B dt σ H Q) (fun σ H Q => ∃ B : Ba, lE B de σ H Q) sl σ H Q := by
  obtain ⟨g, as, cs, q, st, h, k⟩ := h
  refine ⟨g, as, cs, _, st, h, fun ds cs1 h1 as1 H1 J x1 it => fun D hD => ?_⟩
  obtain ⟨hl, h1⟩ := h1
  obtain ⟨G, Y, w, hG, hY⟩ := it.ex
  have s1 := st.step x1
  obtain ⟨c1, eh⟩ := s1.c.hide (u := .lst []) hD
  have nD : D ∉ B.Z ++ ow as1 := fun z => (s1.c.live D z).ne hD
  have nD1 : D ∉ ow as1 := fun z => nD (List.mem_append_right _ z)
  let g0 := wipeG g sl
  -- the block's state: D's list apart
  have kpB : ∀ {as' : As} {H' : Hp} {acc : List V}, Kp ⟨D :: B.Z, as1, upd H1 D (.lst acc)⟩ as' H' → Kp (B.at as1 H1) as' H' := fun {as' H' acc} kp => by
    refine ⟨kp.lk, fun a o e1 e2 => ?_, fun p e1 e2 => ?_⟩
    · have z : a ≠ D := ne_of_none e2 hD
      exact kp.kept a o e1 (by rw [show (Ba.mk (D :: B.Z) as1 (upd H1 D (.lst acc))).H0 a = H1 a from upd_ne z]; exact e2)
    · have := kp.fresh p e1 e2
      by_cases z : p = D
      · subst z; exact hD
      · rw [show (Ba.mk (D :: B.Z) as1 (upd H1 D (.lst acc))).H0 p = H1 p from upd_ne z] at this; exact this
  have later : ∀ {as' : As} {H' : Hp} {vs : List V}, Kp ⟨D :: B.Z, as1, upd H1 D (.lst vs)⟩ as' H' → Same (hz B as1 H1) (hid (D :: B.Z ++ ow as') H') := fun {as' H' vs} kp => by
    have := kp_same kp
    rw [show hid (D :: B.Z ++ ow as1) (upd H1 D (.lst vs)) = hz B as1 H1 from (s1.c.hide (u := .lst vs) hD).2] at this
    exact this
  refine lc_it (g := fun v σ H Q => ∃ B : Ba, lG B L dg v σ H Q) (tt := fun σ H Q => ∃ B : Ba, lT B dt σ H Q) (te := fun σ H Q => ∃ B : Ba, lE B de σ H Q) w
    (fun i H => ∃ as cs vs acc, Stt T ⟨D :: B.Z, as1, upd H1 D (.lst vs)⟩ g0 as cs (L2.wipe σ sl) H ∧ H D = some (.lst vs) ∧ RepL T (hid (D :: B.Z ++ ow as) H) vs acc ∧ acc.length ≤ i ∧ lcD dg dt de g0 (ds.drop i) acc cs fun out cs2 => q (.dat (.lst out)) cs2)
    ⟨as1, cs1, [], [], ⟨c1, ?_, ⟨Lk.refl _, fun _ _ _ e => e, fun _ x y => absurd x y⟩⟩, upd_same, .nil, Nat.zero_le _, h1⟩ (fun i H _ ⟨as, cs, vs, acc, s2, _⟩ => hG _ H (later s2.k)) ?_ ?_
  · rw [show hid ((Ba.mk (D :: B.Z) as1 (upd H1 D (.lst []))).Z ++ ow as1) (upd H1 D (.lst [])) = hz B as1 H1 from eh]
    exact s1.e.wipe _
  · rintro i x H2 H3 hi ⟨as2, cs2, vs, acc, s2, eD, rl, la, f⟩ y
    obtain ⟨S, d, ed, r3⟩ := hY i x _ H2 H3 hi (later s2.k) s2.c.live y
    rw [List.drop_eq_getElem_cons hi] at f
    have ed' : ds[i] = d := by rw [List.getElem?_eq_getElem hi] at ed; exact Option.some.inj ed
    rw [ed'] at f
    have s3 := s2.grow S
    have rl3 := rl.mono (hid_step (Z := D :: B.Z ++ ow as2) S)
    refine ⟨_, g0, as2, cs2, .dat d, _, s3, r3, f, fun g3 h3 σ3 s4 w4 => ⟨w4.wipe hL, ?_⟩⟩
    refine ⟨_, g3, as2, cs2, _, s4, h3, fun b cs5 h5 as5 H5 x5 => ?_⟩
    have s5 := s4.step x5
    have e5 : H5 D = some (.lst vs) := (x5.zk D List.mem_cons_self).trans (S _ _ eD)
    have rl5 := rl3.mono x5.same
    cases b with
    | false => exact iteF ⟨as5, cs5, vs, acc, s3.step x5, e5, rl5, Nat.le_succ_of_le la, h5⟩
    | true =>
      refine iteT ⟨_, g3, as5, cs5, _, s5, h5, fun s6 cs6 h6 v6 as6 H6 x6 r6 => ?_⟩
      obtain ⟨d', es, h7⟩ := onDat_of h6
      subst es
      have e6 : H6 D = some (.lst vs) := (x6.zk D List.mem_cons_self).trans e5
      have rl6 := rl5.mono x6.same
      refine ⟨vs, e6, by rw [rl6.len]; omega, as6, cs6, vs ++ [v6], acc ++ [d'], ?_, upd_same, ?_, by rw [List.length_append, List.length_singleton]; omega, h7⟩
      · have := ((s3.step x5).step x6).poke (u := .lst (vs ++ [v6])) (by rw [upd_same]; exact fun z => by cases z) nD1
        rw [upd_upd] at this
        exact this
      rw [show hid (D :: B.Z ++ ow as6) (upd H6 D (.lst (vs ++ [v6]))) = hid (D :: B.Z ++ ow as6) H6 from hid_upd (by simp)]
      exact rl6.app (.cons r6 .nil)
  · rintro H2 ⟨as2, cs2, vs, acc, s2, eD, rl, la, f⟩
    rw [List.drop_length] at f
    have nD2 : D ∉ B.Z ++ ow as2 := fun z => by
      rcases List.mem_append.mp z with z | z
      · exact nD (List.mem_append_left _ z)
      · exact s2.c.apart D z List.mem_cons_self
    exact k _ _ f (.ref D) as2 H2 (x1.trans (Ex.ofKp x1.c s2.c.less (kpB s2.k))) (.lst ((hid_out nD2).trans eD) (rl.mono (hid_same (same_refl _) fun a h => .inl (List.mem_cons_of_mem _ h))))
theorem pd_lc {elt tg iter : Expr} {ifs : List Expr} {scope : Scope} {own : List (Str × Nat)} {L : List Nat} {src : TDI T} {dg : TDG T} {dt : TDT T} {de : TDE T} (hc : X.calm = true) (hN : X.N.Nodup) (hi : PDI B X tg iter src) (ok : BlkOk X.N X.env.scope scope own)
    (hg : ∀ (B : Ba) (s : Shared) (H : Hp) (C : Addr) (cl : List (Str × Addr)) (fp : List Addr), PDG B (X.blk s H scope (compEnvC scope cl C X.env) fp) (T := T) L tg dg)
    (ht : ∀ (B : Ba) (s : Shared) (H : Hp) (C : Addr) (cl : List (Str × Addr)) (fp : List Addr), PDTs B (X.blk s H scope (compEnvC scope cl C X.env) fp) (T := T) ifs dt)
    (he : ∀ (B : Ba) (s : Shared) (H : Hp) (C : Addr) (cl : List (Str × Addr)) (fp : List Addr), PD B (X.blk s H scope (compEnvC scope cl C X.env) fp) (T := T) elt de) (hL : ∀ i ∈ L, i ∈ own.map (·.2) := by decide) (hs : ∀ x, foldedSetIterable iter X.env x = pure x := by intro _; rfl) :
    PD B X (.ListComp elt [⟨tg, iter, ifs, 0⟩] scope pos) (dLc src dg dt de (own.map (·.2))) :=
  PE.imp (pe_lc hc hN hi ok (fun s H C cl fp => PG.ex (t := fun B => lG B L dg) fun B => hg B s H C cl fp) (fun s H C cl fp => PTs.ex (t := fun B => lT B dt) fun B => ht B s H C cl fp) (fun s H C cl fp => PE.ex (t := fun B => lE B de) fun B => he B s H C cl fp) hs)
    fun _ _ _ h => lc_read hL h
/-- name = [..] on one line -/
theorem pds_setLc (i : Nat) {y : Str} {py spos : Pos} {elt tg iter : Expr} {ifs : List Expr} {scope : Scope} {own : List (Str × Nat)} {L : List Nat} {src : TDI T} {dg : TDG T} {dt : TDT T} {de : TDE T} (hc : X.calm = true) (hN : X.N.Nodup) (hi : PDI B X tg iter src) (ok : BlkOk X.N X.env.scope scope own)
    (hg : ∀ (B : Ba) (s : Shared) (H : Hp) (C : Addr) (cl : List (Str × Addr)) (fp : List Addr), PDG B (X.blk s H scope (compEnvC scope cl C X.env) fp) (T := T) L tg dg)
    (ht : ∀ (B : Ba) (s : Shared) (H : Hp) (C : Addr) (cl : List (Str × Addr)) (fp : List Addr), PDTs B (X.blk s H scope (compEnvC scope cl C X.env) fp) (T := T) ifs dt)
    (he : ∀ (B : Ba) (s : Shared) (H : Hp) (C : Addr) (cl : List (Str × Addr)) (fp : List Addr), PD B (X.blk s H scope (compEnvC scope cl C X.env) fp) (T := T) elt de)
    (hsw : swapsWith (.ListComp elt [⟨tg, iter, ifs, 0⟩] scope pos) (some (.Name y py)) spos.line X.env = pure true := by exact sw_true rfl rfl rfl (by decide +kernel)) (hy : X.N[i]? = some y := by rfl) (hyl : X.env.scope.names.lookup y = some .local := by rfl)
    (hL : ∀ i ∈ L, i ∈ own.map (·.2) := by decide) (hs : ∀ x, foldedSetIterable iter X.env x = pure x := by intro _; rfl) :
    PDS B X (.Assign [.Name y py] (.ListComp elt [⟨tg, iter, ifs, 0⟩] scope pos) spos) (dSet i (dLc src dg dt de (own.map (·.2)))) :=
  PS.imp (ps_setLc hc hN hy hyl hsw hi ok (fun s H C cl fp => PG.ex (t := fun B => lG B L dg) fun B => hg B s H C cl fp) (fun s H C cl fp => PTs.ex (t := fun B => lT B dt) fun B => ht B s H C cl fp) (fun s H C cl fp => PE.ex (t := fun B => lE B de) fun B => he B s H C cl fp) hs)
    fun E σ H ⟨g, as, cs, e, s, h, o⟩ => lc_read hL ⟨g, as, cs, _, s, h, fun s1 cs1 h1 v as1 H1 x1 r1 => o.nx _ cs1 h1 as1 _ H1 ((s.step x1).set i r1)⟩
end
end Dl
set_option Elab.async false
set_option linter.all false
set_option maxRecDepth 100000
set_option maxHeartbeats 4000000
/-! An own exception class with an __init__ of its own, called with keywords. -/
namespace PySem
namespace EvK
open PySem.W PySem.Calls PyProof.Rows PySem.HandSPX Builtin
section
variable {M : Model} {prog : Program} {w : World} {A : Around} {E : Value → Shared → Prop} {R : Result → Shared → Prop} {h : Heap} {g : Array GenState} {d : Drawn} {t : Nat} {os : OsState}
  {nm q : Str} {C N : Addr} {bs bm bmB : List Value} {hdct : Bool} {sn : List Str} {sub : List Value} {ab : Bool} {col : Option Bool} {dd : Option Addr} {k0 k1 k2 k3 k5 : Option Value} {B newId initId : String}
  {rest : List Value} {kw : List (Str × Value)}
/-- the class's record at C -/
abbrev Rec (h : Heap) (nm q : Str) (C N : Addr) (bs bm : List Value) (hdct : Bool) (sn : List Str) (sub : List Value) (ab : Bool) (col : Option Bool) (dd : Option Addr) (k0 k1 k2 k3 k5 : Option Value) (newId : String) : Prop :=
  h.get? C = some (excClassObj nm q C N bs bm hdct sn sub ab col dd k0 k1 k2 k3 k5 newId)
theorem kw_check (F : ExcBaseFacts B newId initId bmB) (hT : ∀ Y : String, bm.contains (.type Y) = bmB.contains (.type Y)) {Q : Unit → Shared → Prop}
    (hC : Rec h nm q C N bs bm hdct sn sub ab col dd k0 k1 k2 k3 k5 newId) (hq : Q () ⟨h, g, d, t, os⟩) :
    wpAny M A (checkBuiltinCall newId ⟨.ref C :: rest, kw⟩) Q E ⟨h, g, d, t, os⟩ := by
  have cB : (Value.ref C :: bm).contains (.type B) = true := by rw [List.contains_cons, hT, F.hasB, Bool.or_true]
  have st := F.noStar
  simp only [checkBuiltinCall, F.newKind, F.newSplit, F.newRow]
  repeat (first
    | refine wpAny_loadPart_at hC ?_
    | (refine wpAny_isSubtype_exc hC ?_; rw [cB])
    | refine wpAny_staticBase_exc hC ?_
    | refine wpAny_madeBy_exc hC ?_
    | simp only [bne_self_eq_false, Bool.false_eq_true, if_false]
    | wp_step)
  exact hq
theorem kw_new (F : ExcBaseFacts B newId initId bmB) (hT : ∀ Y : String, bm.contains (.type Y) = bmB.contains (.type Y))
    (hC : Rec h nm q C N bs bm hdct sn sub ab col dd k0 k1 k2 k3 k5 newId)
    (hq : R (.ok (.ret (.ref (h.objs.size + 1)))) ⟨(h.push { cls := .type "tuple", data := .seq rest.toArray }).push (excO C h.objs.size), g, d, t, os⟩) (hz : rest.length ≤ sizeLine) :
    codeAny (model prog w) A (.builtin newId ⟨.ref C :: rest, kw⟩) R ⟨h, g, d, t, os⟩ := by
  have en := F.ends
  have cB : (Value.ref C :: bm).contains (.type B) = true := by rw [List.contains_cons, hT, F.hasB, Bool.or_true]
  have cA : (Value.ref C :: bm).contains (.type "AttributeError") = false := by rw [List.contains_cons, hT, F.noAttr]; rfl
  have cN : (Value.ref C :: bm).contains (.type "NameError") = false := by rw [List.contains_cons, hT, F.noName]; rfl
  refine codeAny_builtinAt F.entry ?_
  unfold Builtin.«BaseException.__new__»
  refine wpAt_bind ?_
  show wpAt _ _ _ (stack >>= _) _ _ _
  refine wpAt_bind (wpAt_stack fun p below => wpAt_of_wpAny ?_)
  wp_walk
  refine wpAt_of_wpAny ?_
  rw [F.owner]
  repeat (first
    | with_reducible refine wpAny_madeHere_exc F.canon hC ?_
    | with_reducible refine wpAny_loadPart_at hC ?_
    | (with_reducible refine wpAny_isSubtype_exc hC ?_; first | rw [cB] | rw [cA] | rw [cN])
    | wp_step)
  show R _ _
  rw [Heap.size_push]
  exact hq
theorem kw_type_call (F : ExcBaseFacts B newId initId bmB) (hT : ∀ Y : String, bm.contains (.type Y) = bmB.contains (.type Y)) {fI : Addr} {Q : Fin → Shared → Prop}
    (hC : Rec h nm q C N bs bm hdct sn sub ab col dd k0 k1 k2 k3 k5 newId)
    (hi : Looks (model prog w) h (typeLookup (.ref C) "__init__") (some (.ref fI))) (hb : ∀ self, Looks (model prog w) h (bindSpecial (.ref fI) self) (.ref fI, [self])) (hz : rest.length ≤ sizeLine)
    (hq : codeAny (model prog w) A (.call (.ref fI) ⟨.ref (h.objs.size + 1) :: rest, kw⟩)
      (fun r s' => match r with | .ok (.ret v) => v = .none ∧ Q (.done (.ret (.ref (h.objs.size + 1)))) s' | .ok _ => False | .error e => E e s')
      ⟨(h.push (kdv_tup rest)).push (excO C h.objs.size), g, d, t, os⟩) :
    wpAny (model prog w) A (Builtin.«type.__call__» ⟨.ref C :: rest, kw⟩) Q E ⟨h, g, d, t, os⟩ := by
  repeat (first | with_reducible refine wpAny_loadPart_at hC ?_ | with_reducible refine wpAny_madeBy_exc hC ?_ | wp_step)
  refine codeAny_call_builtin_code (Code.quiet_builtin _ F.quiet) (kw_check F hT hC (kw_new F hT hC ?_ hz))
  show wpAny _ _ _ _ _ _
  have up : ∀ b o, h.get? b = some o → ((h.push (kdv_tup rest)).push (excO C h.objs.size)).get? b = some o :=
    fun b o e => Heap.get?_push_of_some _ (Heap.get?_push_of_some _ e)
  have hC1 := up _ _ hC
  have here : ((h.push (kdv_tup rest)).push (excO C h.objs.size)).get? (h.objs.size + 1) = some (excO C h.objs.size) := by heap_get
  have cC : (Value.ref C :: bm).contains (.ref C) = true := by simp
  have i1 := hi.keeps up
  have b1 := (hb (.ref (h.objs.size + 1))).keeps up
  unfold isInstance
  repeat (first | with_reducible refine wpAny_loadPart_at here ?_ | (with_reducible refine wpAny_isSubtype_exc hC1 ?_; rw [cC]) | wp_step)
  show wpAny _ _ (typeLookup (.ref C) _) _ _ _
  refine i1.at (wpAny_holding (wpAny_bind (b1.at (wpAny_bind (wpAny_call (codeAny_mono hq fun r s' z => ?_))))))
  cases r with
  | error e => exact z
  | ok fl =>
    cases fl with
    | ret v =>
      obtain ⟨rfl, z⟩ := z
      first
        | exact wpAny_pure (wpAny_pure z)
        | (wp_walk; exact z)
    | next => exact z.elim
    | brk => exact z.elim
    | cont => exact z.elim
theorem kw_call (F : ExcBaseFacts B newId initId bmB) (hT : ∀ Y : String, bm.contains (.type Y) = bmB.contains (.type Y)) {fI : Addr}
    (hC : Rec h nm q C N bs bm hdct sn sub ab col dd k0 k1 k2 k3 k5 newId)
    (hi : Looks (model prog w) h (typeLookup (.ref C) "__init__") (some (.ref fI))) (hb : ∀ self, Looks (model prog w) h (bindSpecial (.ref fI) self) (.ref fI, [self])) (hz : rest.length ≤ sizeLine)
    (hq : codeAny (model prog w) (A.under (.builtin "type.__call__" ⟨.ref C :: rest, kw⟩)) (.call (.ref fI) ⟨.ref (h.objs.size + 1) :: rest, kw⟩) (InitBack (h.objs.size + 1) R)
      ⟨(h.push (kdv_tup rest)).push (excO C h.objs.size), g, d, t, os⟩) :
    codeAny (model prog w) A (.call (.ref C) ⟨rest, kw⟩) R ⟨h, g, d, t, os⟩ := by
  have f1 := tc_lookup
  have f2 := tc_bind (.ref C)
  have hTy : (⟨h, g, d, t, os⟩ : Shared).TypeIs (.ref C) "type" := ⟨_, hC, rfl⟩
  have ty0 : Looks (model prog w) h (typeOf (.ref C)) (.type "type") := (Looks.ld hC).andThen .now
  have typ : Looks (model prog w) h (isInstance (.ref C) (.type "type")) true := ty0.andThen (Looks.of_pure tc_sub)
  refine codeAny_of_tree ?_
  show wpAny _ _ (callAny (.ref C) _) _ _ _
  repeat (any_goals (first | assumption | with_reducible refine wpAny_loadPart_at hC ?_ | wp_step))
  refine ⟨rfl, codeAny_call_builtin_at (Code.quiet_builtin _ (by decide +kernel)) entry_typeCall (check_slot tc_kind tc_split typ (tc_args _ _ _) (kw_type_call F hT hC hi hb hz ?_))⟩
  refine codeAny_mono hq fun r s' z => ?_
  cases r with
  | error e => exact z
  | ok fl => cases fl <;> exact z
end
end EvK
end PySem
set_option Elab.async false
set_option linter.all false
set_option maxRecDepth 100000
set_option maxHeartbeats 4000000
/-! Errors as the law makes them: by position, by keywords; what stands behind; a field read. -/
namespace Ev
open PySem PySem.Spec PyProof.Rows L2
section
variable {X : Cx} {pins : List (Addr × Obj)} {σ : L2.St} {H1 : Hp} {s : Shared} {C fI : Addr} {CX : CXT} {k : Nat} {sp : Sp} {E : XK} {Q : VK} {fd : FuncData} {ps ks : List Str} {g : List Value → List Value} {gV : List V → List V}
theorem run_mkK {ws : List Value} {zs : List V} (T : OexC X.K C)
    (iC : PySem.W.findIn X.K (.ref C) "__init__" = some (some (.ref fI)))
    (tI : PySem.W.typeIn X.K (.ref fI) = some (.type "function"))
    (FO : FnOk X.prog X.w X.K X.mg X.base CX k fI fd ps sp)
    (hb : ∀ (s : Shared) (a : Addr) (ws : List Value), ws.length = ks.length → BindsTo s fd ⟨[.ref a], ks.zip ws⟩ (ps.zip (.ref a :: g ws)))
    (hg : ∀ {zs : List V} {ws : List Value}, Vals zs ws → Vals (gV zs) (g ws)) (hr : Room (k + 1) X.A) (hx : Passes CX X E)
    (I1 : Inv X pins σ H1 s) (r1 : Vals zs ws) (hl : zs.length = ks.length)
    (q1 : ∀ a, H1 a = none → sp (.ref a :: gV zs) (upd H1 a (exo a C none)) (fun v H2 => v = .non ∧ Q (.ref a) H2) E) :
    wpAny (model X.prog X.w) X.A (call (.ref C) [] (ks.zip ws)) (EP X pins σ Q) X.xe s := by
  obtain ⟨x1, x2, x3, x4, x5, x6, x7, x8, x9, x10, x11, y0, y1, y2, y3, hC, hbm⟩ := T.cls
  obtain ⟨hp, g', dr, tk, os⟩ := s
  have hs1 : hp.objs.size ≤ hp.objs.size + 1 := Nat.le_succ _
  have hn : H1 (hp.objs.size + 1) = none := I1.hok.fresh hs1
  have hq := q1 (hp.objs.size + 1) hn
  have up : ∀ b o, hp.get? b = some o → ((hp.push (PySem.W.kdv_tup [])).push (PySem.HandSPX.excO C hp.objs.size)).get? b = some o :=
    fun b o e => Heap.get?_push_of_some _ (Heap.get?_push_of_some _ e)
  have here : ((hp.push (PySem.W.kdv_tup [])).push (PySem.HandSPX.excO C hp.objs.size)).get? (hp.objs.size + 1) = some (PySem.HandSPX.excO C hp.objs.size) := by heap_get
  have I2 : Inv X pins σ (upd H1 (hp.objs.size + 1) (exo (hp.objs.size + 1) C none))
      ⟨(hp.push (PySem.W.kdv_tup [])).push (PySem.HandSPX.excO C hp.objs.size), g', dr, tk, os⟩ :=
    I1.laid (t' := tk) (a := hp.objs.size + 1) (o := exo (hp.objs.size + 1) C none) (h' := (hp.push (PySem.W.kdv_tup [])).push (PySem.HandSPX.excO C hp.objs.size)) up hs1 (exo_ok here)
  have r2 : Vals (V.ref (hp.objs.size + 1) :: gV zs) (Value.ref (hp.objs.size + 1) :: g ws) := .cons rfl (hg r1)
  refine wpAny_call (PySem.EvK.kw_call PySem.F.excBase_ValueError (fun Y => PySem.HandSPX.refsVE_contains Y x5 hbm)
    (I1.kIn _ _ hC) (PySem.W.looks_findIn I1.kIn iC) (fun self => PySem.W.bind_fn I1.kIn self tI) (Nat.zero_le _)
    (codeAny_mono (FO.run _ X.stack _ _ ⟨[.ref (hp.objs.size + 1)], ks.zip ws⟩ _ _ _ E (hr.make C [] (ks.zip ws))
      (I2.env0.make C [] (ks.zip ws)) (hb _ _ ws (by rw [← r1.length]; exact hl)) r2 hq) fun r s' z => ?_))
  cases r with
  | error er => exact hx pins σ _ _ er s' I2 z
  | ok fl =>
    cases fl with
    | ret u =>
      obtain ⟨v, H', I3, rv, ev, q3⟩ := I2.after z
      subst ev
      exact ⟨rv, V.ref (hp.objs.size + 1), H', I3, rfl, q3⟩
    | next => exact False.elim z
    | brk => exact False.elim z
    | cont => exact False.elim z
end
/-- C(f = e, ..) as a value -/
def tMkK (C : Addr) (n : Nat) (sp : Sp) (gV : List V → List V) (E : XK) (tk : TA) : TE := fun σ H Q => tk σ H fun zs H1 => zs.length = n ∧
  ∀ a, H1 a = none → sp (.ref a :: gV zs) (upd H1 a (exo a C none)) (fun v H2 => v = .non ∧ Q (.ref a) H2) E
section
variable {X : Cx} {CX : CXT} {k : Nat} {C fI : Addr} {sp : Sp} {E : XK} {x : Str} {p pos : Pos} {kws : List Keyword} {tk : TA} {fd : FuncData} {ps ks : List Str} {g : List Value → List Value} {gV : List V → List V}
theorem pe_mkK (T : OexC X.K C) (iC : PySem.W.findIn X.K (.ref C) "__init__" = some (some (.ref fI)))
    (tI : PySem.W.typeIn X.K (.ref fI) = some (.type "function")) (FO : FnOk X.prog X.w X.K X.mg X.base CX k fI fd ps sp)
    (hb : ∀ (s : Shared) (a : Addr) (ws : List Value), ws.length = ks.length → BindsTo s fd ⟨[.ref a], ks.zip ws⟩ (ps.zip (.ref a :: g ws)))
    (hg : ∀ {zs : List V} {ws : List Value}, Vals zs ws → Vals (gV zs) (g ws))
    (hr : Room (k + 1) X.A) (hx : Passes CX X E) (hgl : Gl X x) (hm : X.mg x = some (.ref C)) (hkw : PK X kws tk)
    (hks : (backToKw pos (keywordEach kws X.env)).filterMap (·.1) = ks := by rfl)
    (hall : (backToKw pos (keywordEach kws X.env)).all (·.1.isSome) = true := by rfl)
    (hpl : ((backTo pos (starEach [] X.env)).any (·.1) || (backToKw pos (keywordEach kws X.env)).any (·.1.isNone)) = false := by rfl)
    (hdb : (x == ("__debug__" : Str)) = false := by decide) :
    PE X (.Call (.Name x p) [] kws pos) (tMkK C ks.length sp gV E tk) := by
  refine ⟨fun pins s σ H Q I h => wpAny_Call_Name_kw (ld_glob I hgl hm ?_ hdb)⟩
  refine PySem.W.callWith_KW0 (h₀ := X.base) I.ok.mod.kin T.kC hall (thn (hkw.run pos pins s σ H _ I h) fun ws s2 ⟨zs, H2, I2, rz, l2, q2⟩ => ⟨I2.kIn, ?_⟩) hpl
  rw [hks]
  exact run_mkK T iC tI FO hb hg hr hx I2 rz l2 q2
end
/-! ### what stands behind the making -/
theorem PE.imp {X : Cx} {e : Expr} {t t' : TE} (he : PE X e t) (h : ∀ σ H Q, t' σ H Q → t σ H Q) : PE X e t' := ⟨fun pins s σ H Q I z => he.run pins s σ H Q I (h σ H Q z)⟩
/-- an error of the class at C with these fields (the last one first) -/
def ErrAt (H : Hp) (e C : Addr) (fs : List (Str × V)) : Prop := ∃ d p, H e = some (exo e C (some d)) ∧ H d = some (exd d (fs ++ [(("told" : Str), V.ref p)]))
theorem ErrAt.same {H H' : Hp} {e C : Addr} {fs : List (Str × V)} (S : Same H H') : ErrAt H e C fs → ErrAt H' e C fs
  | ⟨d, p, h1, h2⟩ => ⟨d, p, S _ _ h1, S _ _ h2⟩
/-- the __init__ of such a class: the values under the names, behind all that the base keeps -/
def spIni (K : PySem.W.Frag) (C : Addr) (ns : List Str) : Sp := fun vs H Q _ => ∃ (a : Addr) (ys : List V), vs = .ref a :: ys ∧ ys.length = ns.length ∧ H a = some (exo a C none) ∧
  ∀ H', (∀ b o, b ≠ a → H b = some o → H' b = some o) → ErrAt H' a C (ns.zip ys).reverse → Q .non H'
theorem new_of {K : PySem.W.Frag} {C : Addr} {ns : List Str} {E : XK} {Q : VK} {ys : List V} {H1 : Hp} (hl : ys.length = ns.length) (q : ∀ e H', Same H1 H' → H1 e = none → ErrAt H' e C (ns.zip ys).reverse → Q (.ref e) H') (a : Addr) (ha : H1 a = none) :
    spIni K C ns (.ref a :: ys) (upd H1 a (exo a C none)) (fun v H2 => v = .non ∧ Q (.ref a) H2) E := by
  refine ⟨a, ys, rfl, hl, upd_same, fun H' k A => ⟨rfl, q a H' (fun b o e => ?_) ha A⟩⟩
  have n : b ≠ a := ne_of_none e ha
  exact k b o n (by rw [upd_ne n]; exact e)
def tNew1 (C : Addr) (f : Str) (i : Nat) : TE := fun σ H Q => ∃ v, σ[i]? = some (some v) ∧ ∀ e H', Same H H' → H e = none → ErrAt H' e C [(f, v)] → Q (.ref e) H'
def tNew2 (C : Addr) (f g : Str) (i j : Nat) : TE := fun σ H Q => ∃ v y, σ[i]? = some (some v) ∧ σ[j]? = some (some y) ∧ ∀ e H', Same H H' → H e = none → ErrAt H' e C [(g, y), (f, v)] → Q (.ref e) H'
def tNew0 (C : Addr) : TE := fun _ H Q => ∀ e H', Same H H' → H e = none → ErrAt H' e C [] → Q (.ref e) H'
section
variable {X : Cx} {C fI : Addr} {x f g : Str} {p pos p1 p2 q1 q2 : Pos} {k : Nat} {fs : List Str} {i j : Nat} {fd : FuncData} {ps : List Str} {a b : Expr}
theorem pe_new1 (T : ErrT X.K C fI fs) (FR : FnR X.prog X.w X.K X.mg X.base CX0 k fI (spIni X.K C [f])) (hr : Room (k + 1) X.A) (hg : Gl X x) (hm : X.mg x = some (.ref C)) (ha : PA X [a] (tCons (tVar i) tNil))
    (hdb : (x == ("__debug__" : Str)) = false := by decide)
    (he : starEach [a] X.env = (false, eval a X.env) :: starEach [] X.env := by rfl) : PE X (.Call (.Name x p) [a] [] pos) (tNew1 C f i) :=
  PE.imp (pe_mk (E := E0) T.ox T.iC T.tI FR hr pass0 hg hm ha hdb he) fun σ H Q ⟨v, h1, h2⟩ => ⟨v, h1, (by show 1 ≤ 1000; decide), fun a ha => new_of (ys := [v]) rfl h2 a ha⟩
theorem pe_new2 (T : ErrT X.K C fI fs) (FR : FnR X.prog X.w X.K X.mg X.base CX0 k fI (spIni X.K C [f, g])) (hr : Room (k + 1) X.A) (hg : Gl X x) (hm : X.mg x = some (.ref C)) (ha : PA X [a, b] (tCons (tVar i) (tCons (tVar j) tNil)))
    (hdb : (x == ("__debug__" : Str)) = false := by decide)
    (he : starEach [a, b] X.env = (false, eval a X.env) :: starEach [b] X.env := by rfl)
    (hpl : (backTo pos (starEach [b] X.env)).any (·.1) = false := by rfl) : PE X (.Call (.Name x p) [a, b] [] pos) (tNew2 C f g i j) :=
  PE.imp (pe_mk (E := E0) T.ox T.iC T.tI FR hr pass0 hg hm ha hdb he hpl) fun σ H Q ⟨v, y, h1, h2, h3⟩ => ⟨v, h1, y, h2, (by show 2 ≤ 1000; decide), fun a ha => new_of (ys := [v, y]) rfl h3 a ha⟩
theorem pe_new0 (T : ErrT X.K C fI fs) (FR : FnR X.prog X.w X.K X.mg X.base CX0 k fI (spIni X.K C [])) (hr : Room (k + 1) X.A) (hg : Gl X x) (hm : X.mg x = some (.ref C))
    (hdb : (x == ("__debug__" : Str)) = false := by decide) : PE X (.Call (.Name x p) [] [] pos) (tNew0 C) :=
  PE.imp (pe_mk0 (E := E0) T.ox T.iC T.tI FR hr pass0 hg hm hdb) fun σ H Q h => ⟨(by show 0 ≤ 1000; decide), fun a ha => new_of (ys := []) rfl (fun e H' S n A => h e H' S n A) a ha⟩
/-- C(f = e) -/
theorem pe_newK1 (T : ErrT X.K C fI fs) (FO : FnOk X.prog X.w X.K X.mg X.base CX0 k fI fd ps (spIni X.K C [f]))
    (hb : ∀ (s : Shared) (a : Addr) (ws : List Value), ws.length = [f].length → BindsTo s fd ⟨[.ref a], [f].zip ws⟩ (ps.zip (.ref a :: ws)))
    (hr : Room (k + 1) X.A) (hg : Gl X x) (hm : X.mg x = some (.ref C)) (ha : PE X a (tVar i))
    (hks : (backToKw pos (keywordEach [⟨some f, a, q1⟩] X.env)).filterMap (·.1) = [f] := by rfl)
    (hall : (backToKw pos (keywordEach [⟨some f, a, q1⟩] X.env)).all (·.1.isSome) = true := by rfl)
    (hpl : ((backTo pos (starEach [] X.env)).any (·.1) || (backToKw pos (keywordEach [⟨some f, a, q1⟩] X.env)).any (·.1.isNone)) = false := by rfl)
    (hdb : (x == ("__debug__" : Str)) = false := by decide) : PE X (.Call (.Name x p) [] [⟨some f, a, q1⟩] pos) (tNew1 C f i) :=
  PE.imp (pe_mkK (E := E0) (g := fun ws => ws) (gV := fun vs => vs) T.ox T.iC T.tI FO hb (fun r => r) hr pass0 hg hm (pk_cons ha pk_nil) hks hall hpl hdb)
    fun σ H Q ⟨v, h1, h2⟩ => ⟨v, h1, rfl, fun a ha => new_of (ys := [v]) rfl h2 a ha⟩
theorem vals_rev : ∀ {vs : List V} {us : List Value}, Vals vs us → Vals vs.reverse us.reverse
  | _, _, .nil => .nil
  | _, _, .cons (a := a) (b := b) h r => by
    rw [List.reverse_cons, List.reverse_cons]
    exact (vals_rev r).append (.cons h .nil)
/-- C(g = e, f = e'), the names the other way about -/
theorem pe_newK2 (T : ErrT X.K C fI fs) (FO : FnOk X.prog X.w X.K X.mg X.base CX0 k fI fd ps (spIni X.K C [f, g]))
    (hb : ∀ (s : Shared) (a : Addr) (ws : List Value), ws.length = [g, f].length → BindsTo s fd ⟨[.ref a], [g, f].zip ws⟩ (ps.zip (.ref a :: ws.reverse)))
    (hr : Room (k + 1) X.A) (hg : Gl X x) (hm : X.mg x = some (.ref C)) (ha : PE X a (tVar j)) (hb2 : PE X b (tVar i))
    (hks : (backToKw pos (keywordEach [⟨some g, a, q1⟩, ⟨some f, b, q2⟩] X.env)).filterMap (·.1) = [g, f] := by rfl)
    (hall : (backToKw pos (keywordEach [⟨some g, a, q1⟩, ⟨some f, b, q2⟩] X.env)).all (·.1.isSome) = true := by rfl)
    (hpl : ((backTo pos (starEach [] X.env)).any (·.1) || (backToKw pos (keywordEach [⟨some g, a, q1⟩, ⟨some f, b, q2⟩] X.env)).any (·.1.isNone)) = false := by rfl)
    (hdb : (x == ("__debug__" : Str)) = false := by decide) : PE X (.Call (.Name x p) [] [⟨some g, a, q1⟩, ⟨some f, b, q2⟩] pos) (tNew2 C f g i j) :=
  PE.imp (pe_mkK (E := E0) (g := fun ws => ws.reverse) (gV := fun vs => vs.reverse) T.ox T.iC T.tI FO hb (fun r => vals_rev r) hr pass0 hg hm (pk_cons ha (pk_cons hb2 pk_nil)) hks hall hpl hdb)
    fun σ H Q ⟨v, y, h1, h2, h3⟩ => ⟨y, h2, v, h1, rfl, fun a ha => new_of (ys := [v, y]) rfl h3 a ha⟩
/-- e.f of such an error -/
def tGet (C : Addr) (f : Str) (te : TE) : TE := fun σ H Q => te σ H fun x H1 => ∃ e fs v, x = .ref e ∧ ErrAt H1 e C fs ∧ fs.lookup f = some v ∧ Q v H1
theorem look_more {f : Str} {v : V} : ∀ {fs gs : List (Str × V)}, fs.lookup f = some v → (fs ++ gs).lookup f = some v
  | [], _, h => by cases h
  | (n, y) :: fs, gs, h => by
    show (match f == n with | true => some y | false => (fs ++ gs).lookup f) = some v
    have h2 : (match f == n with | true => some y | false => fs.lookup f) = some v := h
    cases q : (f == n) with
    | true =>
      rw [q] at h2
      exact h2
    | false =>
      rw [q] at h2
      exact look_more h2
/-- the field of an error that is made on the spot -/
def tG1 (C : Addr) (f : Str) (i : Nat) : TE := fun σ H Q => ∃ v, σ[i]? = some (some v) ∧ ∀ H', Same H H' → Q v H'
theorem pe_get1 (T : ErrT X.K C fI fs) (hf : f ∈ fs) (he : PE X a (tNew1 C f i)) (hb : attributeBase a f X.env (eval a X.env) = eval a X.env := by rfl) : PE X (.Attribute a f pos) (tG1 C f i) :=
  PE.imp (pe_err he hb) fun σ H Q ⟨v, h1, h2⟩ => ⟨v, h1, fun e H' S n ⟨d, q, a1, a2⟩ => ⟨e, C, d, _, v, rfl, T.ec, T.no f hf, a1, a2, look_more (by simp [List.lookup]), h2 H' S⟩⟩
/-- the field of an error that a slot holds -/
theorem pe_getv (T : ErrT X.K C fI fs) (hf : f ∈ fs) (he : PE X a (tVar i)) (hb : attributeBase a f X.env (eval a X.env) = eval a X.env := by rfl) :
    PE X (.Attribute a f pos) (fun σ H Q => ∃ e gs v, σ[i]? = some (some (.ref e)) ∧ ErrAt H e C gs ∧ gs.lookup f = some v ∧ Q v H) :=
  PE.imp (pe_err he hb) fun σ H Q ⟨e, gs, v, h1, ⟨d, q, a1, a2⟩, l, h2⟩ => ⟨_, h1, e, C, d, _, v, rfl, T.ec, T.no f hf, a1, a2, look_more l, h2⟩
end
end Ev
set_option Elab.async false
set_option linter.all false
set_option maxRecDepth 100000
set_option maxHeartbeats 4000000
/-! The base's own __init__ and the others', whatever the text: what is asked of the body. -/
namespace Ev
open PySem PySem.Spec PyProof.Rows L2
/-- PadError.__init__(self, *told) -/
def spPad (K : PySem.W.Frag) : Sp := fun vs H Q _ => ∃ (a C : Addr) (ws : List V), vs = .ref a :: ws ∧ OexC K C ∧ PySem.W.findIn K (.ref C) "told" = some none ∧ H a = some (exo a C none) ∧ ws.length ≤ 900 ∧
  ∀ p d, H p = none → H d = none → d ≠ p → d ≠ a → Q .non (upd (upd (upd H p (.tup ws)) d (exd d [(("told" : Str), .ref p)])) a (exo a C (some d)))
def spPadIn (K : PySem.W.Frag) : Sp := fun vs H Q _ => ∃ (a C p : Addr), vs = [.ref a, .ref p] ∧ OexC K C ∧ PySem.W.findIn K (.ref C) "told" = some none ∧ H a = some (exo a C none) ∧
  ∀ d, H d = none → d ≠ a → Q .non (upd (upd H d (exd d [(("told" : Str), .ref p)])) a (exo a C (some d)))
theorem pad_imp {K : PySem.W.Frag} (vs : List V) (H : Hp) (Q : VK) (E : XK) (h : spPad K vs H Q E) :
    ∃ ws rest, vs = ws ++ rest ∧ ws.length = (["self"] : List Str).length ∧ rest.length ≤ sizeLine ∧ ∀ p, H p = none → spPadIn K (ws ++ [V.ref p]) (upd H p (.tup rest)) Q E := by
  obtain ⟨a, C, ws, rfl, T, no, ha, hl, q⟩ := h
  refine ⟨[.ref a], ws, rfl, rfl, by rw [sizeLine_eq]; omega, fun p hp => ⟨a, C, p, rfl, T, no, ?_, fun d hd ne => ?_⟩⟩
  · rw [upd_ne (ne_of_none ha hp)]
    exact ha
  · have dp : d ≠ p := fun z => by
      rw [z, upd_same] at hd
      cases hd
    rw [upd_ne dp] at hd
    exact q p d hp hd dp ne
/-- behind the base's __init__: one field more -/
theorem ini1 {H : Hp} {a C p d : Addr} {ws : List V} {f : Str} {y : V} (ha : H a = some (exo a C none)) (hp : H p = none) (hd : H d = none) (dp : d ≠ p) (da : d ≠ a) :
    (∀ b o, b ≠ a → H b = some o → (upd (upd (upd (upd H p (.tup ws)) d (exd d [(("told" : Str), .ref p)])) a (exo a C (some d))) d (exd d [(f, y), (("told" : Str), .ref p)])) b = some o) ∧
    ErrAt (upd (upd (upd (upd H p (.tup ws)) d (exd d [(("told" : Str), .ref p)])) a (exo a C (some d))) d (exd d [(f, y), (("told" : Str), .ref p)])) a C [(f, y)] := by
  refine ⟨fun b o n e => ?_, d, p, ?_, upd_same⟩
  · rw [upd_ne (ne_of_none e hd), upd_ne n, upd_ne (ne_of_none e hd), upd_ne (ne_of_none e hp)]
    exact e
  · rw [upd_ne (Ne.symm da), upd_same]
theorem ini2 {H : Hp} {a C p d : Addr} {ws : List V} {f g : Str} {x y : V} (ha : H a = some (exo a C none)) (hp : H p = none) (hd : H d = none) (dp : d ≠ p) (da : d ≠ a) :
    (∀ b o, b ≠ a → H b = some o → (upd (upd (upd (upd (upd H p (.tup ws)) d (exd d [(("told" : Str), .ref p)])) a (exo a C (some d))) d (exd d [(f, x), (("told" : Str), .ref p)])) d (exd d [(g, y), (f, x), (("told" : Str), .ref p)])) b = some o) ∧
    ErrAt (upd (upd (upd (upd (upd H p (.tup ws)) d (exd d [(("told" : Str), .ref p)])) a (exo a C (some d))) d (exd d [(f, x), (("told" : Str), .ref p)])) d (exd d [(g, y), (f, x), (("told" : Str), .ref p)])) a C [(g, y), (f, x)] := by
  refine ⟨fun b o n e => ?_, d, p, ?_, upd_same⟩
  · rw [upd_ne (ne_of_none e hd), upd_ne (ne_of_none e hd), upd_ne n, upd_ne (ne_of_none e hd), upd_ne (ne_of_none e hp)]
    exact e
  · rw [upd_ne (Ne.symm da), upd_ne (Ne.symm da), upd_same]
theorem ini0 {H : Hp} {a C p d : Addr} {ws : List V} (ha : H a = some (exo a C none)) (hp : H p = none) (hd : H d = none) (dp : d ≠ p) (da : d ≠ a) :
    (∀ b o, b ≠ a → H b = some o → (upd (upd (upd H p (.tup ws)) d (exd d [(("told" : Str), .ref p)])) a (exo a C (some d))) b = some o) ∧
    ErrAt (upd (upd (upd H p (.tup ws)) d (exd d [(("told" : Str), .ref p)])) a (exo a C (some d))) a C [] := by
  refine ⟨fun b o n e => ?_, d, p, upd_same, ?_⟩
  · rw [upd_ne n, upd_ne (ne_of_none e hd), upd_ne (ne_of_none e hp)]
    exact e
  · rw [upd_ne da, upd_same]
    rfl
end Ev
set_option Elab.async false
set_option linter.all false
set_option maxRecDepth 100000
set_option maxHeartbeats 4000000
/-! A caught error that is kept under another name: known behind its clause too. -/
namespace Ev
open PySem PySem.Spec PyProof.Rows L2
/-- at a: an error that was caught, of the class cls, its dict at d -/
def exk (a : Addr) (cls : Value) (d : Option Addr) : HO := .ext fun h => ∃ (oe : Obj) (vs : Array Value), h.get? a = some oe ∧ Zc cls d oe ∧ oe.data = .fields vs
theorem exk_ok {P : Program} {w : World} {H : Hp} {h : Heap} {a : Addr} {cls : Value} {d : Option Addr} {oe : Obj} {vs : Array Value} (ha : h.get? a = some oe) (z : Zc cls d oe) (hd : oe.data = .fields vs) :
    ObjOk P w H h a (exk a cls d) :=
  ⟨⟨oe, vs, ha, z, hd⟩, ⟨oe, ha⟩, fun h1 h2 ⟨o1, v1, e1, e2, e3⟩ k => ⟨o1, v1, k _ e1, e2, e3⟩⟩
theorem exk_at {P : Program} {w : World} {H : Hp} {h : Heap} {a : Addr} {cls : Value} {d : Option Addr} (hok : HOk P w H h) (e : H a = some (exk a cls d)) :
    ∃ (oe : Obj) (vs : Array Value), h.get? a = some oe ∧ Zc cls d oe ∧ oe.data = .fields vs := by
  have z := hok a _ e
  exact z.1
section
variable {X : Cx} {pins : List (Addr × Obj)} {σ : L2.St} {H : Hp} {s : Shared} {a : Addr} {oe : Obj} {vs : Array Value} {cls : Value} {d : Option Addr}
/-- an object of our own time that is not known yet is known from now on -/
theorem track (I : Inv X pins σ H s) (ha : s.heap.get? a = some oe) (z : Zc cls d oe) (hd : oe.data = .fields vs) (na : H a = none) (n0 : X.s_0.heap.get? a = none) (nL : a ≠ X.env.locals)
    (np : ∀ p ∈ X.pn ++ pins, p.1 ≠ a) : Inv X pins σ (upd H a (exk a cls d)) s := by
  have ne : ∀ {b : Addr} {u : HO}, H b = some u → b ≠ a := fun {b u} q => ne_of_none q na
  have n1 : ∀ {b : Addr} {u : Obj}, X.s_0.heap.get? b = some u → b ≠ a := fun {b u} q e => by
    rw [e, n0] at q
    cases q
  refine ⟨I.ok, I.os, I.bare, ?_, I.loc, I.cell, ?_, fun x c e => ?_, fun p hp => ?_, fun b u q => ?_, I.len⟩
  · refine ⟨I.base.keep, I.base.slot, fun b u q n hx => ?_, I.base.there, fun b xs q => ?_, fun b u v q => ?_, fun b ps q => ?_⟩
    · rw [upd_ne (n1 q)]
      exact I.base.free b u q n hx
    · have q' := I.base.tups b xs q
      rw [upd_ne (ne q')]
      exact q'
    · have q' := I.base.frzs b u v q
      rw [upd_ne (ne q')]
      exact q'
    · obtain ⟨m, q'⟩ := I.base.tbls b ps q
      exact ⟨m, by rw [upd_ne (ne q')]; exact q'⟩
  · rw [upd_ne (Ne.symm nL)]
    exact I.free
  · have nc : c ≠ a := fun q => by
      obtain ⟨w, o, ho, hw⟩ := I.cell x c e
      rw [q, ha] at ho
      cases ho
      rw [hd] at hw
      cases hw
    rw [upd_ne nc]
    exact I.freeC x c e
  · obtain ⟨e1, e2, e3⟩ := I.pin p hp
    exact ⟨e1, by rw [upd_ne (np p hp)]; exact e2, e3⟩
  · by_cases hb : b = a
    · subst hb
      rw [upd_same] at q
      cases q
      exact exk_ok ha z hd
    · rw [upd_ne hb] at q
      exact (I.hok b u q).stay (fun _ _ _ r => r) (fun c r => by rw [upd_ne (ne r)]; exact r) (fun c xs r => by rw [upd_ne (ne r)]; exact r)
end
/-- as wAs; behind the suite, if it ends, the error is known -/
def wKeep (K : PySem.W.Frag) (n : Nat) (c : Value) (i : Nat) (ts : Addr → Value → Option Addr → TS) (Wout : WX) (D : Ends) : WX := fun cls d σ H => σ.length = n → ∃ b, PySem.W.exmOne K cls c = some b ∧
  (b = true → ∀ a, H a = none → ts a cls d { nx := fun σ' H' => D.nx (σ'.set i none) (upd H' a (exk a cls d)), rt := fun v H' => D.rt v H', bk := fun _ _ => False, ct := fun _ _ => False } (σ.set i (some (.ref a))) H) ∧
  (b = false → Wout cls d σ H)
section
variable {X : Cx} {x n : Str} {c : Value} {i : Nat} {body suite : List Stmt} {b₀ : Stmt} {np pos pos' : Pos} {tb : WX → TS} {ts : Addr → Value → Option Addr → TS} {Wout : WX}
theorem ps_try_keep (hs : X.stack = X.env :: X.outer) (hf : X.env.frame = some X.env.locals) (hex : X.ex = []) (hN : X.N.Nodup) (hi : X.N[i]? = some n) (hln : X.env.kindOf n = some .local)
    (hc : Names X x c) (tk : Takes X Wout)
    (hb : ∀ (W : WX) (pn : List (Addr × Obj)) (xe : Value → Shared → Prop), Takes (X.tr pn xe) W → PassesOwn (model X.prog X.w) X.A X.env xe → PSs (X.tr pn xe) body (tb W))
    (hsu : ∀ (a : Addr) (oe : Obj) (cls : Value) (d : Option Addr) (pn : List (Addr × Obj)), PSs (X.suite a ((a, oe) :: pn)) (b₀ :: suite) (ts a cls d)) :
    PS X (.Try body [.ExceptHandler (some (.Name x np)) (some n) (b₀ :: suite) pos'] [] [] pos) (fun D σ H => tb (wKeep X.K X.N.length c i ts Wout D) D σ H) := by
  constructor
  intro pins s σ H D I h
  have ok := I.ok
  have frm : X.A.frames = some (X.env :: X.outer) := ok.frames.trans (congrArg some hs)
  apply wpAny_Try_except
  have run := (hb (wKeep X.K X.N.length c i ts Wout D) (X.pn ++ pins) (fun e s1 => wpAny (model X.prog X.w) X.A (noteFrame e X.env)
    (fun _ s2 => wpAny (model X.prog X.w) X.A (setFlight e none) (fun _ s3 => wpAny (model X.prog X.w) X.A (handleBy e X.env [.ExceptHandler (some (.Name x np)) (some n) (b₀ :: suite) pos']) (SP X pins D) X.xe s3) X.xe s2) X.xe s1)
    (fun u s' y => ?_) PassesOwn.looking).run [] s σ H D (I.toTry _) h
  · refine wpAny_mono run (fun f s1 z => ?_) fun _ _ z => z
    cases f with
    | next => obtain ⟨σ', H', J, q⟩ := z; exact wpAny_execs_nil ⟨σ', H', J.ofTry ok, q⟩
    | ret u => obtain ⟨v, σ', H', J, r, q⟩ := z; exact ⟨v, σ', H', J.ofTry ok, r, q⟩
    | brk => obtain ⟨σ', H', J, q⟩ := z; exact ⟨σ', H', J.ofTry ok, q⟩
    | cont => obtain ⟨σ', H', J, q⟩ := z; exact ⟨σ', H', J.ofTry ok, q⟩
  · obtain ⟨a, B, sI, pins', σ', H', cls, d, rfl, J', nb, up, sky, na, os, ag, wk⟩ := y
    obtain ⟨b, hb1, yes, no⟩ := wk J'.len
    have J : Inv X pins σ' H' sI := J'.ofTry ok
    have sk : Sky B (X.env :: X.outer) a (Zc cls d) X.env.locals s'.heap := hs ▸ sky
    show wpAny (model X.prog X.w) X.A (noteFrame (.ref a) X.env) _ _ _
    refine Sky.land Zc.steady frm hf sk fun g1 l1 u1 => ?_
    have nBa : B.get? a = none := l1.2.1
    have J1 : Inv X pins σ' H' { s' with heap := g1 } := J.landed nb l1.1 (up.trans u1) os ag
    obtain ⟨o1, v1, a1, z1, d1⟩ := l1.there
    have off : ∀ {g : Heap} {o : Obj} {vs : Array Value}, g.FunFrames B (X.env :: X.outer) → g.get? a = some o → o.data = .fields vs → a ∉ frs (X.env :: X.outer) := by
      intro g o vs ff e dd hm
      obtain ⟨_, o', e', hnf⟩ := ff.mem hm
      rw [e] at e'
      cases e'
      exact hnf _ dd
    have nfr := off l1.2.2.1 a1 d1
    have nL : a ≠ X.env.locals := fun q => nfr (List.mem_filterMap.mpr ⟨X.env, List.mem_cons_self, by rw [q]; exact hf⟩)
    have nF : a ∉ X.fs := fun q => by
      obtain ⟨e, he, w⟩ := List.mem_filterMap.mp q
      exact nfr (List.mem_filterMap.mpr ⟨e, List.mem_cons_of_mem _ he, w⟩)
    -- what the ground has is not a
    have ground : ∀ {b : Addr} {o : Obj}, sI.heap.get? b = some o → b ∉ frs X.stack → b ≠ a := fun {b o} e hb q => by
      have w := nb b o e hb
      rw [q, nBa] at w
      cases w
    have n0 : X.s_0.heap.get? a = none := by
      cases e : X.s_0.heap.get? a with
      | none => rfl
      | some o =>
        obtain ⟨o', e'⟩ := J.base.there a o e (by rw [hex]; intro q; cases q)
        exact absurd rfl (ground e' (fun q => nfr (hs ▸ q)))
    have np' : ∀ p ∈ X.pn ++ pins, p.1 ≠ a := fun p hp => by
      obtain ⟨e1, e2, e3, e4, e5⟩ := J.pin p hp
      exact ground e1 fun q => (List.mem_cons.mp (J.stkSub _ q)).elim e3 e4
    have S1 := J1.suite a1 d1 na nL nF
    refine wpAny_handleBy_cons (codeAny_handlers_test ?_) (by intro q; cases q)
    have LT : PySem.W.Looks (model X.prog X.w) g1 (typeOf (.ref a)) cls := fun A Q E s k q => wpAny_typeOf_ref (k _ _ a1) (by rw [z1.1]; exact q)
    have LM := PySem.W.exm_one (M := model X.prog X.w) (J1.kIn) LT hb1
    have test : ∀ {Q : Value → Shared → Prop} {E : Value → Shared → Prop}, Q c { s' with heap := g1 } → wpAny (model X.prog X.w) (X.A.mark (some (.ref a))) (eval (.Name x np) X.env) Q E { s' with heap := g1 } := by
      intro Q E q
      obtain ⟨hg, hdb, hm | ⟨hm, hv, hn⟩⟩ := hc
      · exact ld_glob (X := X.suite a ((a, o1) :: (X.pn ++ pins))) S1 hg hm q hdb
      · exact ld_blt (X := X.suite a ((a, o1) :: (X.pn ++ pins))) S1 hg hm hv q hn hdb
    refine test (LM.here ?_)
    cases b with
    | true =>
      refine codeAny_handlers_suite_as (HandSPX.lands_againZ l1 fun g2 l2 u2 => ?_)
      have J2 : Inv X pins σ' H' { s' with heap := g2 } := J.landed nb l2.1 ((up.trans u1).trans u2) os ag
      obtain ⟨o2, v2, a2, z2, d2⟩ := l2.there
      refine store_ok (X := X.suite a ((a, o2) :: (X.pn ++ pins))) (v := .ref a) (J2.suite a2 d2 na nL nF) hN hi (.inl hln) rfl (fun s3 S3 => ?_) (.inr hln)
      refine wpAny_mono ((hsu a o2 cls d (X.pn ++ pins)).run [] s3 _ H' _ S3 (yes rfl a na)) (fun f s4 z => ?_) (fun _ _ q => False.elim q)
      cases f with
      | next =>
        obtain ⟨σ4, H4, S4, q4⟩ := z
        obtain ⟨e1, e2, _⟩ := S4.pin (a, o2) (List.mem_append_left _ List.mem_cons_self)
        have T4 := track (S4.unsuite ok) e1 z2 d2 e2 n0 nL np'
        exact gone_ok T4 hN hi hln fun s7 J7 => ⟨_, _, J7, q4⟩
      | ret u =>
        obtain ⟨v4, σ4, H4, S4, r4, q4⟩ := z
        exact gone_ok (S4.unsuite ok) hN hi hln fun s7 J7 => ⟨_, _, _, J7, r4, q4⟩
      | brk => obtain ⟨_, _, _, q⟩ := z; exact False.elim q
      | cont => obtain ⟨_, _, _, q⟩ := z; exact False.elim q
    | false =>
      show wpAny _ X.A (handleBy (.ref a) X.env []) _ _ _
      refine wpAny_handleBy_nil ?_
      obtain ⟨_, _, _, oe, vs, T, oT, ts', he, hz, hd, h1, _⟩ := id l1
      unfold PySem.passOn
      refine wpAny_bind (wpAny_field he hd h1 ?_)
      have nn : ¬ ((Value.ref T == Value.none) = true) := by simp
      rw [if_neg nn]
      have fin : wpAny (model X.prog X.w) X.A (setFlight (.ref a) X.env.frame) (fun _ s4 => wpAny (model X.prog X.w) X.A (throw (.ref a) : Sem Flow) (SP X pins D) X.xe s4) X.xe { s' with heap := g1 } := by
        rw [hf]
        exact HandSPX.setFlight_upZ l1 fun g5 l5 u5 => wpAny_throw (tk _ _ ⟨a, B, sI, pins, σ', H', cls, d, rfl, J, nb, (up.trans u1).trans u5, .inr (.inr (by rw [hs]; exact l5)), na, os, ag, no rfl⟩)
      first
        | exact wpAny_bind (wpAny_pure (wpAny_bind fin))
        | exact wpAny_bind fin
end
/-! ### such an error's class and fields -/
theorem exk_inst {P : Program} {w : World} {H : Hp} {h : Heap} {a C dd : Addr} {fs : List (Str × V)} (hok : HOk P w H h) (ea : H a = some (exk a (.ref C) (some dd))) (ed : H dd = some (.xd fs)) :
    ∃ (oe od : Obj) (mA : Str → Option Value), PySem.W.InstAt h a oe C (some od) ∧ (∀ y, PySem.W.lookIn y od = some (mA y)) ∧ ∀ f, RelO (fs.lookup f) (mA f) := by
  obtain ⟨oe, vs, ho, z, hv⟩ := exk_at hok ea
  have hx : ObjOk P w H h dd (.xd fs) := hok dd _ ed
  obtain ⟨mA, hns, rel⟩ := hx
  obtain ⟨od, hd, hl⟩ := lookIn_ns hns
  exact ⟨oe, od, mA, ⟨ho, z.1, by unfold PySem.W.notCls; rw [hv] <;> rfl, by rw [z.2]; exact hd⟩, hl, rel⟩
def tKept (K : PySem.W.Frag) (ta : TE) (f : Str) : TE := fun σ H Q => ta σ H fun x H1 => ∃ (a C dd : Addr) (fs : List (Str × V)) (v : V), x = .ref a ∧
  ExcC K C ∧ PySem.W.findIn K (.ref C) f = some none ∧ H1 a = some (exk a (.ref C) (some dd)) ∧ H1 dd = some (.xd fs) ∧ fs.lookup f = some v ∧ Q v H1
theorem pe_kept {X : Cx} {e : Expr} {te : TE} {f : Str} {pos : Pos} (he : PE X e te) (hb : attributeBase e f X.env (eval e X.env) = eval e X.env := by rfl) : PE X (.Attribute e f pos) (tKept X.K te f) := by
  refine ⟨fun pins s σ H Q I h => attr_of hb (thn (he.run pins s σ H _ I h) fun u s1 z => ?_)⟩
  obtain ⟨x, H1, I1, rx, a, C, dd, fs, v, ex, T, no, ea, ed, l, q⟩ := z
  subst ex
  obtain rfl : u = Value.ref a := rx
  obtain ⟨oe, od, mA, J, hl, rel⟩ := exk_inst I1.hok ea ed
  obtain ⟨u, hu, ru⟩ := RelO.some_of (v := v) (o := mA f) (by rw [← l]; exact rel f)
  exact PySem.HandSPX.exc_get I1.kIn J T.hg T.hk T.hs (PySem.W.findObj_own T.hd no rfl (by rw [hl, hu])) (handed_of ru) ⟨v, H1, I1.tok _, ru, q⟩
def rIsK (K : PySem.W.Frag) : List V → Hp → VK → Prop := fun xs H Q => ∃ (a D dd : Addr) (fs : List (Str × V)) (c : V) (cv : Value) (b : Bool), xs = [.ref a, c] ∧ ExcC K D ∧
  H a = some (exk a (.ref D) (some dd)) ∧ H dd = some (.xd fs) ∧ (∀ u, RelV c u → u = cv) ∧ PySem.W.kitOne K (.ref D) cv = some b ∧ Q (.bl b) H
theorem call_isK {X : Cx} : CallR X (.builtin "isinstance") (rIsK X.K) := by
  intro pins s σ H xs us Q I r h
  obtain ⟨a, D, dd, fs, c, cv, b, rfl, T, ea, ed, hcv, e, q⟩ := h
  obtain ⟨oe, od, mA, J, hl, rel⟩ := exk_inst I.hok ea ed
  obtain ⟨u1, u2, rfl, r1, r2⟩ : ∃ u1 u2, us = [u1, u2] ∧ RelV (.ref a) u1 ∧ RelV c u2 := by
    cases r with
    | cons rx rr => cases rr with
      | cons rt rr => cases rr; exact ⟨_, _, rfl, rx, rt⟩
  obtain rfl : u1 = Value.ref a := r1
  obtain rfl := hcv _ r2
  exact PySem.W.kia_one (kit_err T) I.kIn J e (fun z => nomatch z) fun tk => ⟨.bl b, H, I.kept (t' := tk) fun _ _ z => z, rfl, q⟩
end Ev
set_option Elab.async false
set_option linter.all false
set_option maxRecDepth 100000
set_option maxHeartbeats 1000000
/-! A def's promise by trees; its body; calls. -/
namespace Dl
open PySem PySem.Spec PyProof.Rows L2
section
variable {K : PySem.W.Frag} (T : Th K) (ef : Str → List Str)
/-- an error of the program's own: its class, its fields -/
def ExcAt (Z : List Addr) (H : Hp) (y : Str) (ds : List (D T.O)) (cls : Value) (dx : Option Addr) : Prop :=
  cls = .ref (He.ga K y) ∧ ∃ (d p : Addr) (vs : List V), dx = some d ∧ d ∉ Z ∧ H d = some (.xd (((ef y).zip vs).reverse ++ [(("told" : Str), V.ref p)])) ∧ RepL T (hid Z H) vs ds ∧ vs.length = (ef y).length
abbrev SpP : Type := List (D T.O) → (D T.O → Prop) → Xd T → Prop
/-- a def that writes nothing of what it is handed -/
def spP (sd : SpP T) : Sp := fun vs H Q E => ∃ Z ds q x, Live Z H ∧ RepL T (hid Z H) vs ds ∧ sd ds q x ∧ (∀ d, q d → ∀ v H', Same H H' → Rep T (hid Z H') v d → Q v H') ∧
  (∀ y ds, x y ds → ∀ cls dx H', Same H H' → ExcAt T ef Z H' y ds cls dx → E cls dx H')
/-- all but p stays -/
def ButA (p : Addr) (H H' : Hp) : Prop := ∀ a o, a ≠ p → H a = some o → H' a = some o
abbrev SpO : Type := Cell T.O → List (D T.O) → (D T.O → Cell T.O → Prop) → Xd T → Prop
/-- a def that writes its first argument -/
def spOA (sd : Addr → SpO T) : Sp := fun vs H Q E => ∃ Z p c us ds q x, Live (Z ++ [p]) H ∧ p ∉ Z ∧ vs = .ref p :: us ∧ CellAt T (hid (Z ++ [p]) H) H (some p) c ∧ RepL T (hid (Z ++ [p]) H) us ds ∧ sd p c ds q x ∧
  (∀ d c', q d c' → ∀ v H', ButA p H H' → CellAt T (hid (Z ++ [p]) H') H' (some p) c' → Rep T (hid (Z ++ [p]) H') v d → Q v H') ∧
  (∀ y ds, x y ds → ∀ cls dx H', ButA p H H' → ExcAt T ef Z H' y ds cls dx → E cls dx H')
def spO (sd : SpO T) : Sp := fun vs H Q E => ∃ Z p c us ds q x, Live (Z ++ [p]) H ∧ p ∉ Z ∧ vs = .ref p :: us ∧ CellAt T (hid (Z ++ [p]) H) H (some p) c ∧ RepL T (hid (Z ++ [p]) H) us ds ∧ sd c ds q x ∧
  (∀ d c', q d c' → ∀ v H', ButA p H H' → CellAt T (hid (Z ++ [p]) H') H' (some p) c' → Rep T (hid (Z ++ [p]) H') v d → Q v H') ∧
  (∀ y ds, x y ds → ∀ cls dx H', ButA p H H' → ExcAt T ef Z H' y ds cls dx → E cls dx H')
end
section
variable {X : Cx} {T : Th X.K} {B : Ba} {ef : Str → List Str} {e a b c o i : Expr} {es : List Expr} {pos : Pos}
/-! ### what is wanted of errors -/
def liftX {K : PySem.W.Frag} (T : Th K) (ef : Str → List Str) (B : Ba) (xd : Xd T) : XK := fun cls dx H' => ∃ y ds, xd y ds ∧ (∀ a o, a ∉ ow B.as0 → B.H0 a = some o → H' a = some o) ∧ ExcAt T ef B.Z H' y ds cls dx
structure XP (X : Cx) {T : Th X.K} (ef : Str → List Str) (B : Ba) (xd : Xd T) : Prop where
  tk : Takes X (fun cls d _ H => liftX T ef B xd cls d H)
  ps : Passes (L2.CX X.prog X.w) X (liftX T ef B xd)
theorem liftX.le {B B' : Ba} {xd : Xd T} (h : Le B B') {cls : Value} {dx : Option Addr} {H : Hp} (l : liftX T ef B' xd cls dx H) : liftX T ef B xd cls dx H := by
  obtain ⟨hz, k⟩ := h
  obtain ⟨y, ds, h1, h2, h3⟩ := l
  refine ⟨y, ds, h1, fun a o n e => h2 a o (fun z => ?_) (k.kept a o n e), by rw [← hz]; exact h3⟩
  rw [k.fresh a z n] at e; cases e
theorem XP.le {B B' : Ba} {xd : Xd T} (x : XP X ef B xd) (h : Le B B') : XP X ef B' xd :=
  ⟨x.tk.imp fun c d σ H l => l.le h, fun pins σ H s e s' I q => x.ps pins σ H s e s' I (by
    obtain ⟨a, Bh, H', cls, d, h1, h2, h3, h4, h5, h6, h7, h8⟩ := q
    exact ⟨a, Bh, H', cls, d, h1, h2, h3, h4, h5, h6, h7, h8.le h⟩)⟩
/-- no error -/
def noX {K : PySem.W.Frag} (T : Th K) : Xd T := fun _ _ => False
theorem XP.no (X : Cx) {T : Th X.K} (B : Ba) : XP X (T := T) ef B (noX T) :=
  ⟨takes0.imp fun c d σ H ⟨_, _, h, _⟩ => h.elim, fun pins σ H s e s' I q => by
    obtain ⟨a, Bh, H', cls, d, h1, h2, h3, h4, h5, h6, h7, ⟨_, _, h8, _⟩⟩ := q
    exact h8.elim⟩
theorem XP.of {xd : Xd T} {E : XK} (hs : X.stack = X.env :: X.outer) (hf : X.env.frame = some X.env.locals) (hex : X.ex = []) {E₁ : Value → Shared → Prop}
    (hx : X.xe = fun e s' => wpAny (model X.prog X.w) X.A (leaving X.env e) (fun _ s'' => L2.CX X.prog X.w X.outer X.H_0 X.s_0 E e s'') E₁ s') (h : ∀ cls dx H, liftX T ef B xd cls dx H → E cls dx H) : XP X ef B xd := by
  have tk : Takes X (fun cls d _ H => E cls d H) := takes_of hs hf hex hx
  exact ⟨tk.imp fun c d σ H l => h c d H l, passes_call (E := liftX T ef B xd) tk fun c d σ H l => h c d H l⟩
/-! ### a body -/
def startG {O : Type} (N : List Str) (ss : List (Sl O)) : List (Option (Sl O)) := ss.map some ++ List.replicate (N.length - ss.length) none
theorem env_start {K : PySem.W.Frag} {T : Th K} {as : As} {h : Hp} {N : List Str} {vs : List V} {ss : List (Sl T.O)} (r : Paired (SlotAt T as h) vs ss) : EnvAt T as h (startG N ss) (L2.start N vs) := by
  have hl : vs.length = ss.length := Paired.length r
  refine ⟨by unfold startG L2.start; simp [hl], fun i s e => ?_⟩
  unfold startG at e
  by_cases hi : i < ss.length
  · rw [List.getElem?_append_left (by rw [List.length_map]; exact hi), List.getElem?_map] at e
    cases q : ss[i]? with
    | none => rw [q] at e; cases e
    | some u =>
      rw [q] at e
      cases e
      obtain ⟨v, h1, h2⟩ := Paired.ix r q
      refine ⟨v, ?_, h2⟩
      unfold L2.start
      rw [List.getElem?_append_left (by rw [List.length_map]; omega), List.getElem?_map, h1]
      rfl
  · rw [List.getElem?_append_right (by rw [List.length_map]; omega), List.getElem?_replicate] at e
    split at e <;> cases e
theorem slots_dat {K : PySem.W.Frag} {T : Th K} {as : As} {h : Hp} : ∀ {vs : List V} {ds : List (D T.O)}, RepL T h vs ds → Paired (SlotAt T as h) vs (ds.map .dat)
  | _, _, .nil => .nil
  | _, _, .cons a b => .cons a (slots_dat b)
end
section
variable {P : Program} {w : World} {K : PySem.W.Frag} {mg : Str → Option Value} {base : Heap} {N : List Str} {qual : Str} {scope : Scope} {f : Addr} {cd : Value} {A : Around} {outer : List Env} {s : Shared} {H : Hp} {E : XK} {Q : VK} {vs : List V}
  {T : Th K} {ef : Str → List Str} {body : List Stmt}
def enP (q : D T.O → Prop) : En T := ⟨fun _ _ => q .non, fun d _ => q d, fun _ _ => False, fun _ _ => False⟩
def onC (cs : Cs T) (k : Cell T.O → Prop) : Prop := match cs with
  | .gone :: _ => False
  | c :: _ => k c
  | [] => False
def enO (q : D T.O → Cell T.O → Prop) : En T := ⟨fun _ cs => onC cs (q .non), fun d cs => onC cs (q d), fun _ _ => False, fun _ _ => False⟩
theorem onC_of {cs : Cs T} {k : Cell T.O → Prop} (h : onC cs k) : ∃ c', cs[0]? = some c' ∧ c' ≠ .gone ∧ k c' := by
  cases cs with
  | nil => exact h.elim
  | cons c cs => cases c <;> first | exact h.elim | exact ⟨_, rfl, fun z => (nomatch z), h⟩
abbrev cxR (P : Program) (w : World) (K : PySem.W.Frag) (mg : Str → Option Value) (base : Heap) (N : List Str) (qual : Str) (scope : Scope) (f : Addr) (cd : Value) (A : Around) (outer : List Env) (s : Shared) (H : Hp) (E : XK) : Cx := cxOf (L2.CX P w) P w K mg base N qual scope f cd A outer s H E
theorem body_P {sd : SpP T} {t : Xd T → TDS T}
    (der : ∀ (B : Ba) (xd : Xd T), XP (cxR P w K mg base N qual scope f cd A outer s H E) (T := T) ef B xd → PDSs B (cxR P w K mg base N qual scope f cd A outer s H E) (T := T) body (t xd))
    (hs : ∀ ds q x, sd ds q x → t x (enP q) (startG N (ds.map .dat)) []) (h : spP T ef sd vs H Q E) :
    ∃ t, PSs (cxR P w K mg base N qual scope f cd A outer s H E) body t ∧ t { nx := fun _ H' => Q .non H', rt := Q } (L2.start N vs) H := by
  obtain ⟨Z, ds, q, x, lv, rl, h, hq, hx⟩ := h
  have XX : XP (cxR P w K mg base N qual scope f cd A outer s H E) (T := T) ef ⟨Z, [], H⟩ x := XP.of rfl rfl rfl rfl fun cls dx H' ⟨y, es, h1, h2, h3⟩ => hx y es h1 cls dx H' (fun a o e => h2 a o (by simp [ow]) e) h3
  refine ⟨_, der ⟨Z, [], H⟩ x XX, startG N (ds.map .dat), [], [], _, ⟨⟨by simp [ow], fun p h => by simp [ow] at h, fun p h => lv p (by simpa [ow] using h), .nil⟩, env_start (slots_dat ?_), ⟨Lk.refl _, fun _ _ _ e => e, fun _ x y => absurd x y⟩⟩, hs ds q x h, ?_⟩
  · rw [show hid ((Ba.mk Z [] H).Z ++ ow []) H = hid Z H from hid_congr fun a => by simp [ow]]
    exact rl
  · have last : ∀ {as' : As} {cs' : Cs T} {H' : Hp}, StC T Z as' cs' H' → Kp ⟨Z, [], H⟩ as' H' → Same H H' := fun c k a o e => k.kept a o (by simp [ow]) e
    refine ⟨fun g cs h as' σ' H' st => hq _ h _ H' (last st.c st.k) .non, fun d cs h v as' H' fi => hq _ h _ H' (last fi.c fi.k) (fi.r.mono ?_), fun _ _ h => h.elim, fun _ _ h => h.elim⟩
    exact hid_same (same_refl _) fun a h => .inl (List.mem_append_left _ h)
theorem body_OA {sd : Addr → SpO T} {t : Addr → Xd T → TDS T}
    (der : ∀ (B : Ba) (p : Addr) (xd : Xd T), B.as0 = [some p] → XP (cxR P w K mg base N qual scope f cd A outer s H E) (T := T) ef B xd → PDSs B (cxR P w K mg base N qual scope f cd A outer s H E) (T := T) body (t p xd))
    (hs : ∀ p c ds q x, sd p c ds q x → t p x (enO q) (startG N (.own 0 :: ds.map .dat)) [c]) (h : spOA T ef sd vs H Q E) :
    ∃ t, PSs (cxR P w K mg base N qual scope f cd A outer s H E) body t ∧ t { nx := fun _ H' => Q .non H', rt := Q } (L2.start N vs) H := by
  obtain ⟨Z, p, c, us, ds, q, x, lv, np, rfl, ce, rl, h, hq, hx⟩ := h
  have XX : XP (cxR P w K mg base N qual scope f cd A outer s H E) (T := T) ef ⟨Z, [some p], H⟩ x := XP.of rfl rfl rfl rfl fun cls dx H' ⟨y, es, h1, h2, h3⟩ => hx y es h1 cls dx H' (fun a o n e => h2 a o (by simpa [ow] using n) e) h3
  have ez : ∀ H', hid ((Ba.mk Z [some p] H).Z ++ ow [some p]) H' = hid (Z ++ [p]) H' := fun H' => rfl
  refine ⟨_, der ⟨Z, [some p], H⟩ p x rfl XX, startG N (.own 0 :: ds.map .dat), [some p], [c], _, ⟨⟨by simp [ow], fun a h => by simp [ow] at h; subst h; exact np, fun a h => lv a (by simpa [ow] using h), .cons ce .nil⟩, env_start (.cons ⟨Nat.zero_lt_one, fun a e => by cases e; rfl⟩ (slots_dat rl)), ⟨Lk.refl _, fun _ _ _ e => e, fun _ x y => absurd x y⟩⟩, hs p c ds q x h, ?_⟩
  have last : ∀ {as' : As} {cs' : Cs T} {H' : Hp} {c' : Cell T.O}, StC T Z as' cs' H' → Kp ⟨Z, [some p], H⟩ as' H' → cs'[0]? = some c' → c' ≠ .gone → ButA p H H' ∧ CellAt T (hid (Z ++ [p]) H') H' (some p) c' ∧ Same (hid (Z ++ ow as') H') (hid (Z ++ [p]) H') := fun {as' cs' H' c'} st k e n => by
    obtain ⟨o, e1, e2⟩ := Paired.ix st.cells e
    have e3 : o = some p := by
      rcases k.lk.at_ 0 Nat.zero_lt_one with z | z
      · rw [e1] at z; cases z; rfl
      · rw [e1] at z; cases z
        cases c' <;> first | exact e2.elim | exact absurd rfl n
    subst e3
    have S : Same (hid (Z ++ ow as') H') (hid (Z ++ [p]) H') := hid_same (same_refl _) fun a h => .inl (by
      rcases List.mem_append.mp h with h | h
      · exact List.mem_append_left _ h
      · rw [List.mem_singleton] at h; subst h; exact List.mem_append_right _ (own_in e1))
    exact ⟨fun a o n e => k.kept a o (by simpa [ow] using n) e, e2.mono S fun _ _ => rfl, S⟩
  refine ⟨fun g cs hh as' σ' H' st => ?_, fun d cs hh v as' H' fi => ?_, fun _ _ h => h.elim, fun _ _ h => h.elim⟩
  · obtain ⟨c', e, n, h⟩ := onC_of hh
    obtain ⟨k1, k2, k3⟩ := last st.c st.k e n
    exact hq _ _ h _ H' k1 k2 .non
  · obtain ⟨c', e, n, h⟩ := onC_of hh
    obtain ⟨k1, k2, k3⟩ := last fi.c fi.k e n
    exact hq _ _ h _ H' k1 k2 (fi.r.mono k3)
theorem body_O {sd : SpO T} {t : Xd T → TDS T}
    (der : ∀ (B : Ba) (xd : Xd T), XP (cxR P w K mg base N qual scope f cd A outer s H E) (T := T) ef B xd → PDSs B (cxR P w K mg base N qual scope f cd A outer s H E) (T := T) body (t xd))
    (hs : ∀ c ds q x, sd c ds q x → t x (enO q) (startG N (.own 0 :: ds.map .dat)) [c]) (h : spO T ef sd vs H Q E) :
    ∃ t, PSs (cxR P w K mg base N qual scope f cd A outer s H E) body t ∧ t { nx := fun _ H' => Q .non H', rt := Q } (L2.start N vs) H :=
  body_OA (sd := fun _ => sd) (t := fun _ => t) (fun B _ xd _ XX => der B xd XX) (fun _ => hs) h
end
end Dl
set_option Elab.async false
set_option linter.all false
set_option maxRecDepth 100000
set_option maxHeartbeats 4000000
/-! Defs, classes, errors with what calls of them want; calls by trees. -/
namespace Ev
open PySem PySem.Spec PyProof.Rows L2
/-- the __init__ of an error, its dict told to be new -/
def spIniD (K : PySem.W.Frag) (C : Addr) (ns : List Str) : Sp := fun vs H Q _ => ∃ (a : Addr) (ys : List V), vs = .ref a :: ys ∧ ys.length = ns.length ∧ H a = some (exo a C none) ∧
  ∀ (H' : Hp) (d p : Addr), d ≠ a → H d = none → (∀ b o, b ≠ a → H b = some o → H' b = some o) → H' a = some (exo a C (some d)) → H' d = some (exd d ((ns.zip ys).reverse ++ [(("told" : Str), V.ref p)])) → Q .non H'
/-- what a def that raises may be called for where nothing is raised -/
theorem passN {P : Program} {w : World} {X : Cx} : Passes (L2.CX P w) X (fun _ _ _ => False) := fun _ _ _ _ _ _ _ h => by
  obtain ⟨_, _, _, _, _, _, _, _, _, _, _, _, e⟩ := h
  exact e.elim
section
variable (P : Program) (w : World) (K : PySem.W.Frag) (mg : Str → Option Value) (base : Heap)
/-- a def of the text under its own name -/
structure DefP (CX : CXT) (k : Nat) (x : Str) (ps : List Str) (sp : Sp) : Prop where
  ex : ∃ (f : Addr) (fd : FuncData), mg x = some (.ref f) ∧ PySem.W.keepIn K (.ref f) = true ∧ FnOk P w K mg base CX k f fd ps sp ∧ Binds K fd ps []
/-- .. whose body asks repr -/
structure DefG (CX : CXT) (k : Nat) (x : Str) (sp : Sp) : Prop where
  ex : ∃ (f : Addr), mg x = some (.ref f) ∧ PySem.W.keepIn K (.ref f) = true ∧ FnG P w K mg base CX k f sp
/-- a class, its __init__'s promise with these defaults behind -/
structure DefC (CX : CXT) (k : Nat) (x : Str) (ps : List Str) (sp : Sp) (dvs : List V) : Prop where
  ex : ∃ (fd : FuncData) (ds : List Value), mg x = some (.ref (He.ga K x)) ∧ Mk K (He.ga K x) (He.ma K (He.ga K x) "__init__") ∧ FnOk P w K mg base CX k (He.ma K (He.ga K x) "__init__") fd ps sp ∧ Binds K fd ps ds ∧ Vals dvs ds
/-- .. called by keywords alone -/
structure DefK (CX : CXT) (k : Nat) (x : Str) (ps ks : List Str) (sp : Sp) (gV : List V → List V → List V) : Prop where
  ex : ∃ (fd : FuncData) (g : List Value → List Value → List Value), mg x = some (.ref (He.ga K x)) ∧ Mk K (He.ga K x) (He.ma K (He.ga K x) "__init__") ∧ FnOk P w K mg base CX k (He.ma K (He.ga K x) "__init__") fd ps sp ∧ KBn K fd ps 1 ks g gV
/-- an error's class -/
structure DefE (x : Str) (fs : List Str) : Prop where
  ex : ∃ (fd : FuncData), mg x = some (.ref (He.ga K x)) ∧ ErrT K (He.ga K x) (He.ma K (He.ga K x) "__init__") ("told" :: fs) ∧
    FnOk P w K mg base CX0 2 (He.ma K (He.ga K x) "__init__") fd ("self" :: fs) (spIniD K (He.ga K x) fs) ∧ Binds K fd ("self" :: fs) []
end
section
variable {X : Cx} {CX : CXT} {k : Nat} {x : Str} {ps ks fs : List Str} {sp : Sp} {dvs : List V} {E : XK} {e : Expr} {es : List Expr} {kws : List Keyword} {t tk : TA} {p pos : Pos} {gV : List V → List V → List V}
theorem pe_def (D : DefP X.prog X.w X.K X.mg X.base CX k x ps sp) (hr : Room k X.A) (hg : Gl X x) (hx : Passes CX X E) (ha : PA X (e :: es) t) (hdb : (x == ("__debug__" : Str)) = false := by decide)
    (he : starEach (e :: es) X.env = (false, eval e X.env) :: starEach es X.env := by rfl) (hpl : (backTo pos (starEach es X.env)).any (·.1) = false := by rfl) : PE X (.Call (.Name x p) (e :: es) [] pos) (tCall sp [] E t) := by
  obtain ⟨f, fd, m, kp, F, b⟩ := D.ex
  exact pe_call F hr hg m kp b .nil hx ha hdb he hpl
theorem pe_defG (D : DefG X.prog X.w X.K X.mg X.base CX k x sp) (hgd : X.A.guards = some []) (hr : Room k X.A) (hg : Gl X x) (hx : Passes CX X E) (ha : PA X (e :: es) t) (hdb : (x == ("__debug__" : Str)) = false := by decide)
    (he : starEach (e :: es) X.env = (false, eval e X.env) :: starEach es X.env := by rfl) (hpl : (backTo pos (starEach es X.env)).any (·.1) = false := by rfl) : PE X (.Call (.Name x p) (e :: es) [] pos) (tCall sp [] E t) := by
  obtain ⟨f, m, kp, F⟩ := D.ex
  exact pe_callG F hgd hr hg m kp hx ha hdb he hpl
theorem pe_new (D : DefC X.prog X.w X.K X.mg X.base CX k x ps sp dvs) (hr : Room (k + 1) X.A) (hg : Gl X x) (hx : Passes CX X E) (ha : PA X (e :: es) t) (hdb : (x == ("__debug__" : Str)) = false := by decide)
    (he : starEach (e :: es) X.env = (false, eval e X.env) :: starEach es X.env := by rfl) (hpl : (backTo pos (starEach es X.env)).any (·.1) = false := by rfl) : PE X (.Call (.Name x p) (e :: es) [] pos) (tMake (He.ga X.K x) sp dvs E t) := by
  obtain ⟨fd, ds, m, M, F, b, v⟩ := D.ex
  exact pe_make M F hr hg m b v hx ha hdb he hpl
theorem pe_newN (D : DefC X.prog X.w X.K X.mg X.base CX k x ps sp dvs) (hr : Room (k + 1) X.A) (hg : Gl X x) (hx : Passes CX X E) (hdb : (x == ("__debug__" : Str)) = false := by decide) :
    PE X (.Call (.Name x p) [] [] pos) (tMake (He.ga X.K x) sp dvs E tNil) := by
  obtain ⟨fd, ds, m, M, F, b, v⟩ := D.ex
  exact pe_make0 M F hr hg m b v hx hdb
theorem pe_newK (D : DefK X.prog X.w X.K X.mg X.base CX k x ps ks sp gV) (hr : Room (k + 1) X.A) (hg : Gl X x) (hx : Passes CX X E) (hkw : PK X kws tk)
    (hall : (backToKw pos (keywordEach kws X.env)).all (·.1.isSome) = true := by rfl) (hks : (backToKw pos (keywordEach kws X.env)).filterMap (·.1) = ks := by rfl) (hdb : (x == ("__debug__" : Str)) = false := by decide)
    (hpl : ((backTo pos (starEach [] X.env)).any (·.1) || (backToKw pos (keywordEach kws X.env)).any (·.1.isNone)) = false := by rfl) :
    PE X (.Call (.Name x p) [] kws pos) (tMakeK (He.ga X.K x) 0 ks.length sp gV E tNil tk) := by
  obtain ⟨fd, g, m, M, F, b⟩ := D.ex
  exact pe_makeK0 M F hr hg m b hx hkw hall hks hdb hpl
theorem pmk_err (D : DefE X.prog X.w X.K X.mg X.base x fs) (hr : Room 3 X.A) (hg : Gl X x) (ha : PA X (e :: es) t) (hdb : (x == ("__debug__" : Str)) = false := by decide)
    (he : starEach (e :: es) X.env = (false, eval e X.env) :: starEach es X.env := by rfl) (hpl : (backTo pos (starEach es X.env)).any (·.1) = false := by rfl) :
    PMk X (.Call (.Name x p) (e :: es) [] pos) (tMkO (He.ga X.K x) (spIniD X.K (He.ga X.K x) fs) [] t) := by
  obtain ⟨fd, m, T, F, b⟩ := D.ex
  exact pmk_oex T.ox T.iC T.tI F hr b .nil pass0 hg m ha hdb he hpl
end
end Ev
set_option Elab.async false
set_option linter.all false
set_option maxRecDepth 100000
set_option maxHeartbeats 1000000
/-! Calls by trees. -/
namespace Dl
open PySem PySem.Spec PyProof.Rows L2 Ev
section
variable {X : Cx} {T : Th X.K} {B : Ba} {ef : Str → List Str} {xd : Xd T} {e a b c o i : Expr} {es : List Expr} {pos p : Pos} {k : Nat} {x : Str} {ps : List Str} {g : G T} {as as1 : As} {cs cs1 : Cs T} {σ : L2.St} {H H1 : Hp}
theorem kept_of (st : Stt T B g as cs σ H) {H' : Hp} (S : ∀ a o, a ∉ ow as → H a = some o → H' a = some o) : ∀ a o, a ∉ ow B.as0 → B.H0 a = some o → H' a = some o := fun a o n e => by
  refine S a o (fun z => ?_) (st.k.kept a o n e)
  rw [st.k.fresh a z n] at e; cases e
theorem ExcAt.sub {K : PySem.W.Frag} {T : Th K} {Z Z' : List Addr} {H : Hp} {y : Str} {ds : List (D T.O)} {cls : Value} {dx : Option Addr} (h : ∀ a, a ∈ Z' → a ∈ Z) (x : ExcAt T ef Z H y ds cls dx) : ExcAt T ef Z' H y ds cls dx := by
  obtain ⟨e, d, q, vs, h1, h2, h3, h4, h5⟩ := x
  exact ⟨e, d, q, vs, h1, fun z => h2 (h d z), h3, h4.mono (hid_same (same_refl _) fun a z => .inl (h a z)), h5⟩
def dCallP {K : PySem.W.Frag} {T : Th K} (sd : SpP T) (xd : Xd T) (t : TDA T) : TDE T := fun g cs Q => t g cs fun ss cs1 => onDats ss fun ds => sd ds (fun d => Q (.dat d) cs1) xd
theorem callP_step {sd : SpP T} {t : TDA T} {Q : VK} (h : lE B (dCallP sd xd t) σ H Q) : lA B t σ H fun vs H1 => spP T ef sd vs H1 Q (liftX T ef B xd) := by
  obtain ⟨g, as, cs, q, st, h, k⟩ := h
  refine ⟨g, as, cs, _, st, h, fun ss cs1 h1 vs as1 H1 x1 r1 => ?_⟩
  obtain ⟨ds, e1, h1⟩ := onDats_of h1
  refine ⟨B.Z ++ ow as1, ds, _, xd, x1.c.live, datL_rep r1 e1, h1, fun d hd v H' S r => k _ _ hd v as1 H' (x1.trans (Ex.grow x1.c S)) r, fun y es hy cls dx H' S ex => ?_⟩
  exact ⟨y, es, hy, kept_of (st.step x1) fun a o _ e => S a o e, ex.sub fun a z => List.mem_append_left _ z⟩
theorem app_nil_spP {sd : SpP T} {t : TDA T} {Q : VK} (h : lA B t σ H fun vs H1 => spP T ef sd vs H1 Q (liftX T ef B xd)) : lA B t σ H fun vs H1 => spP T ef sd (vs ++ []) H1 Q (liftX T ef B xd) := by
  have e : (fun (vs : List V) (H1 : Hp) => spP T ef sd (vs ++ []) H1 Q (liftX T ef B xd)) = fun vs H1 => spP T ef sd vs H1 Q (liftX T ef B xd) := by funext vs H1; rw [List.append_nil]
  rw [e]; exact h
theorem pd_def {sd : SpP T} {t : TDA T} (D : DefP X.prog X.w X.K X.mg X.base (L2.CX X.prog X.w) k x ps (spP T ef sd)) (hr : Room k X.A) (hx : XP X ef B xd) (ha : PDA B X (e :: es) t) (hg : Gl X x := by rfl) (hdb : (x == ("__debug__" : Str)) = false := by decide)
    (he : starEach (e :: es) X.env = (false, eval e X.env) :: starEach es X.env := by rfl) (hpl : (backTo pos (starEach es X.env)).any (·.1) = false := by rfl) : PD B X (.Call (.Name x p) (e :: es) [] pos) (dCallP sd xd t) :=
  PE.imp (pe_def D hr hg hx.ps ha hdb he hpl) fun _ _ _ h => app_nil_spP (callP_step h)
theorem pd_defG {sd : SpP T} {t : TDA T} (D : DefG X.prog X.w X.K X.mg X.base (L2.CX X.prog X.w) k x (spP T ef sd)) (hgd : X.A.guards = some []) (hr : Room k X.A) (hx : XP X ef B xd) (ha : PDA B X (e :: es) t) (hg : Gl X x := by rfl) (hdb : (x == ("__debug__" : Str)) = false := by decide)
    (he : starEach (e :: es) X.env = (false, eval e X.env) :: starEach es X.env := by rfl) (hpl : (backTo pos (starEach es X.env)).any (·.1) = false := by rfl) : PD B X (.Call (.Name x p) (e :: es) [] pos) (dCallP sd xd t) :=
  PE.imp (pe_defG D hgd hr hg hx.ps ha hdb he hpl) fun _ _ _ h => app_nil_spP (callP_step h)
/-! ### raise -/
def dRaise {K : PySem.W.Frag} {T : Th K} (xd : Xd T) (ef : Str → List Str) (y : Str) (t : TDA T) : TDS T := fun _ g cs => t g cs fun ss _ => onDats ss fun ds => ds.length = (ef y).length ∧ xd y ds
theorem fliesN {K : PySem.W.Frag} {x : Str} {ns : List Str} {ys : List V} {H1 : Hp} {E : XK} (hl : ys.length = ns.length) (h : ∀ (d p : Addr) (H' : Hp), H1 d = none → Same H1 H' → H' d = some (.xd ((ns.zip ys).reverse ++ [(("told" : Str), V.ref p)])) → E (.ref (He.ga K x)) (some d) H') (a : Addr) (ha : H1 a = none) :
    spIniD K (He.ga K x) ns (.ref a :: (ys ++ [])) (upd H1 a (exo a (He.ga K x) none))
      (fun v H2 => v = .non ∧ ∃ (d : Addr) (fs : List (Str × V)), H2 a = some (exo a (He.ga K x) (some d)) ∧ H2 d = some (exd d fs) ∧ H1 d = none ∧ E (.ref (He.ga K x)) (some d) (upd (del H2 a) d (.xd fs))) (fun _ _ _ => False) := by
  rw [List.append_nil]
  refine ⟨a, ys, rfl, hl, upd_same, fun H' d p da hd kk e1 e2 => ?_⟩
  rw [upd_ne da] at hd
  refine ⟨rfl, d, _, e1, e2, hd, h d p _ hd (fun b o z => ?_) upd_same⟩
  have nb : b ≠ a := ne_of_none z ha
  exact (upd_ne (ne_of_none z hd)).trans ((del_ne nb).trans (kk b o nb ((upd_ne nb).trans z)))
theorem pds_raise {cpos : Pos} {fs : List Str} {t : TDA T} (D : DefE X.prog X.w X.K X.mg X.base x fs) (hfs : ef x = fs) (hn : fs.length ≤ 1000) (hr : Room 3 X.A) (hx : XP X ef B xd) (hc : X.calm = true) (ha : PDA B X (e :: es) t) (hg : Gl X x := by rfl) (hdb : (x == ("__debug__" : Str)) = false := by decide)
    (he : starEach (e :: es) X.env = (false, eval e X.env) :: starEach es X.env := by rfl) (hpl : (backTo cpos (starEach es X.env)).any (·.1) = false := by rfl) : PDS B X (.Raise (some (.Call (.Name x p) (e :: es) [] cpos)) none pos) (dRaise xd ef x t) :=
  PS.imp (ps_raise hc hx.tk (pmk_err D hr hg ha hdb he hpl)) fun E σ H ⟨g, as, cs, en, st, h, ok⟩ => ⟨g, as, cs, _, st, h, fun ss cs1 h1 vs as1 H1 x1 r1 => by
    obtain ⟨ds, e1, h1⟩ := onDats_of h1
    have rl := datL_rep r1 e1
    have ln : vs.length = (ef x).length := by rw [rl.len]; exact h1.1
    refine ⟨by rw [ln, hfs]; exact hn, fun a ha => fliesN (by rw [ln, hfs]) (fun d q H' hd S e2 => ?_) a ha⟩
    refine ⟨x, ds, h1.2, kept_of (st.step x1) fun a o _ e => S a o e, rfl, d, q, vs, rfl, fun z => (x1.c.live d (List.mem_append_left _ z)).ne hd, by rw [hfs]; exact e2, rl.mono (hid_same S fun a z => .inl (List.mem_append_left _ z)), ln⟩⟩
/-! ### a def that writes its first argument -/
def dCallO {K : PySem.W.Frag} {T : Th K} (sd : SpO T) (xd : Xd T) (t : TDA T) : TDE T := fun g cs Q => t g cs fun ss cs1 => match ss with
  | .own i :: rest => match cs1[i]? with
    | some c => c ≠ .gone ∧ onDats rest fun ds => sd c ds (fun d c' => c' ≠ .gone ∧ Q (.dat d) (cs1.set i c')) xd
    | none => False
  | _ => False
theorem callO_step {sd : SpO T} {t : TDA T} {Q : VK} (h : lE B (dCallO sd xd t) σ H Q) : lA B t σ H fun vs H1 => spO T ef sd vs H1 Q (liftX T ef B xd) := by
  obtain ⟨g, as, cs, q, st, h, k⟩ := h
  refine ⟨g, as, cs, _, st, h, fun ss cs1 h1 vs as1 H1 x1 r1 => ?_⟩
  cases r1 with
  | nil => exact h1.elim
  | @cons v s vs rest ra rr =>
    cases s with
    | dat d => exact h1.elim
    | own i =>
      dsimp only at h1
      cases ec : cs1[i]? with
      | none => rw [ec] at h1; exact h1.elim
      | some c =>
        rw [ec] at h1
        obtain ⟨ng, h1⟩ := h1
        obtain ⟨ds, e1, h1⟩ := onDats_of h1
        obtain ⟨o, a1, a2⟩ := Paired.ix x1.c.cells ec
        cases o with
        | none => cases c <;> first | exact a2.elim | exact absurd rfl ng
        | some p =>
          have hv := ra.2 p a1
          subst hv
          obtain ⟨w1, w2⟩ := ow_set x1.c.nd a1
          have pin := own_in a1
          have mem : ∀ a, a ∈ (B.Z ++ ow (as1.set i none)) ++ [p] ↔ a ∈ B.Z ++ ow as1 := fun a => by
            rw [List.mem_append, List.mem_append, List.mem_append, List.mem_singleton, w2 a]
            constructor
            · rintro ((z | z) | z)
              · exact .inl z
              · exact .inr z.1
              · subst z; exact .inr pin
            · rintro (z | z)
              · exact .inl (.inl z)
              · by_cases y : a = p
                · exact .inr y
                · exact .inl (.inr ⟨z, y⟩)
          have eh : ∀ H', hid ((B.Z ++ ow (as1.set i none)) ++ [p]) H' = hz B as1 H' := fun H' => hid_congr mem
          refine ⟨B.Z ++ ow (as1.set i none), p, c, vs, ds, _, xd, fun a z => x1.c.live a ((mem a).mp z), fun z => ?_, rfl, by rw [eh]; exact a2, by rw [eh]; exact datL_rep rr e1, h1, fun d c' hd v H' S ce r => ?_, fun y es hy cls dx H' S ex => ?_⟩
          · rcases List.mem_append.mp z with z | z
            · exact x1.c.apart p pin z
            · exact ((w2 p).mp z).2 rfl
          · rw [eh] at ce r
            have hs : Same (hz B as1 H1) (hz B as1 H') := fun a o e => by
              obtain ⟨n, e⟩ := hid_some e
              exact (hid_out n).trans (S a o (fun z => n (List.mem_append_right _ (z ▸ pin))) e)
            have stay : ∀ a ∈ B.Z ++ ow as1, a ≠ p → H' a = H1 a := fun a h n => by
              cases ea : H1 a with
              | none => exact absurd ea (x1.c.live a h).ne
              | some o => exact S a o n ea
            have x2 : Ex T B as1 H1 as1 (cs1.set i c') H' := by
              refine ⟨⟨x1.c.nd, x1.c.apart, fun a h => ?_, ?_⟩, Lk.refl _, hs, fun _ x y => absurd x y, fun a h => stay a (List.mem_append_left _ h) fun z => x1.c.apart p pin (z ▸ h)⟩
              · by_cases y : a = p
                · subst y
                  exact ce.nco
                · rw [stay a h y]; exact x1.c.live a h
              · exact cells_put x1.c.nd a1 ce (fun a h n => stay a (List.mem_append_right _ h) n) (Paired.mapP x1.c.cells fun x y r => r.mono hs fun _ _ => rfl)
            exact k _ _ hd.2 v as1 H' (x1.trans x2) r
          · refine ⟨y, es, hy, kept_of (st.step x1) fun a o n e => S a o (fun z => n (by rw [z]; exact pin)) e, ex.sub fun a z => List.mem_append_left _ z⟩
theorem pd_defO {sd : SpO T} {t : TDA T} (D : DefP X.prog X.w X.K X.mg X.base (L2.CX X.prog X.w) k x ps (spO T ef sd)) (hr : Room k X.A) (hx : XP X ef B xd) (ha : PDA B X (e :: es) t) (hg : Gl X x := by rfl) (hdb : (x == ("__debug__" : Str)) = false := by decide)
    (he : starEach (e :: es) X.env = (false, eval e X.env) :: starEach es X.env := by rfl) (hpl : (backTo pos (starEach es X.env)).any (·.1) = false := by rfl) : PD B X (.Call (.Name x p) (e :: es) [] pos) (dCallO sd xd t) :=
  PE.imp (pe_def D hr hg hx.ps ha hdb he hpl) fun σ H Q h => by
    have h := callO_step (ef := ef) h
    have e : (fun (vs : List V) (H1 : Hp) => spO T ef sd (vs ++ []) H1 Q (liftX T ef B xd)) = fun vs H1 => spO T ef sd vs H1 Q (liftX T ef B xd) := by funext vs H1; rw [List.append_nil]
    show lA B t σ H fun vs H1 => spO T ef sd (vs ++ []) H1 Q (liftX T ef B xd)
    rw [e]; exact h
theorem pd_defOG {sd : SpO T} {t : TDA T} (D : DefG X.prog X.w X.K X.mg X.base (L2.CX X.prog X.w) k x (spO T ef sd)) (hgd : X.A.guards = some []) (hr : Room k X.A) (hx : XP X ef B xd) (ha : PDA B X (e :: es) t) (hg : Gl X x := by rfl) (hdb : (x == ("__debug__" : Str)) = false := by decide)
    (he : starEach (e :: es) X.env = (false, eval e X.env) :: starEach es X.env := by rfl) (hpl : (backTo pos (starEach es X.env)).any (·.1) = false := by rfl) : PD B X (.Call (.Name x p) (e :: es) [] pos) (dCallO sd xd t) :=
  PE.imp (pe_defG D hgd hr hg hx.ps ha hdb he hpl) fun σ H Q h => by
    have h := callO_step (ef := ef) h
    have e : (fun (vs : List V) (H1 : Hp) => spO T ef sd (vs ++ []) H1 Q (liftX T ef B xd)) = fun vs H1 => spO T ef sd vs H1 Q (liftX T ef B xd) := by funext vs H1; rw [List.append_nil]
    show lA B t σ H fun vs H1 => spO T ef sd (vs ++ []) H1 Q (liftX T ef B xd)
    rw [e]; exact h
end
/-! ### making an object -/
section
variable {K : PySem.W.Frag} (T : Th K) (ef : Str → List Str)
abbrev SpN : Type := List (D T.O) → (T.O → Prop) → Xd T → Prop
/-- a class's __init__, its object told to be new -/
def spN (C : Str) (sd : SpN T) : Sp := fun vs H Q E => ∃ Z a dx us ds q x, vs = .ref a :: us ∧ H a = some (.ins (He.ga K C) dx []) ∧ H dx = some (.own a) ∧ dx ≠ a ∧ a ∉ Z ∧ Live Z H ∧ RepL T (hid (a :: Z) H) us ds ∧ sd ds q x ∧
  (∀ o, q o → ∀ H', ButA a H H' → T.RO (hid Z H') a o → Q .non H') ∧ (∀ y es, x y es → ∀ cls dx H', ButA a H H' → ExcAt T ef Z H' y es cls dx → E cls dx H')
end
section
variable {X : Cx} {T : Th X.K} {B : Ba} {ef : Str → List Str} {xd : Xd T} {e : Expr} {es : List Expr} {pos p : Pos} {k : Nat} {x : Str} {ps : List Str}
def dNew {K : PySem.W.Frag} {T : Th K} (sd : SpN T) (xd : Xd T) (dfl : List (D T.O)) (t : TDA T) : TDE T := fun g cs Q => t g cs fun ss cs1 => onDats ss fun ds => sd (ds ++ dfl) (fun o => Q (.dat (.obj o)) cs1) xd
theorem new_step {sd : SpN T} {dvs : List V} {dfl : List (D T.O)} {t : TDA T} {σ : L2.St} {H : Hp} {Q : VK} (hd : ∀ h, RepL T h dvs dfl) (h : lE B (dNew sd xd dfl t) σ H Q) :
    tMake (He.ga X.K x) (spN T ef x sd) dvs (liftX T ef B xd) (lA B t) σ H Q := by
  obtain ⟨g, as, cs, q, st, h, k⟩ := h
  refine ⟨g, as, cs, _, st, h, fun ss cs1 h1 vs as1 H1 x1 r1 => fun a dx ha hdx ne => ?_⟩
  obtain ⟨ds, e1, h1⟩ := onDats_of h1
  have rl := datL_rep r1 e1
  have na : a ∉ B.Z ++ ow as1 := fun z => (x1.c.live a z).ne ha
  have S : Same H1 (upd (upd H1 dx (.own a)) a (.ins (He.ga X.K x) dx [])) := fun b o e => by
    rw [upd_ne (ne_of_none e ha), upd_ne (ne_of_none e hdx)]; exact e
  refine ⟨B.Z ++ ow as1, a, dx, vs ++ dvs, ds ++ dfl, _, xd, rfl, upd_same, by rw [upd_ne ne, upd_same], ne, na, Live.same x1.c.live S, RepL.app (rl.mono ?_) (hd _), h1, fun o ho H' S' r => ⟨rfl, ?_⟩, fun y es hy cls dx H' S' ex => ?_⟩
  · exact hid_same S fun b z => (List.mem_cons.mp z).elim (fun z => .inr (by rw [z]; exact ha)) .inl
  · exact k _ _ ho _ as1 H' (x1.trans (Ex.grow x1.c fun b o e => S' b o (ne_of_none e ha) (S _ _ e))) (.obj r)
  · exact ⟨y, es, hy, kept_of (st.step x1) fun b o _ e => S' b o (ne_of_none e ha) (S _ _ e), ex.sub fun a z => List.mem_append_left _ z⟩
theorem pd_new {sd : SpN T} {dvs : List V} {dfl : List (D T.O)} {t : TDA T} (D : DefC X.prog X.w X.K X.mg X.base (L2.CX X.prog X.w) k x ps (spN T ef x sd) dvs) (hd : ∀ h, RepL T h dvs dfl) (hr : Room (k + 1) X.A) (hx : XP X ef B xd) (ha : PDA B X (e :: es) t) (hg : Gl X x := by rfl) (hdb : (x == ("__debug__" : Str)) = false := by decide)
    (he : starEach (e :: es) X.env = (false, eval e X.env) :: starEach es X.env := by rfl) (hpl : (backTo pos (starEach es X.env)).any (·.1) = false := by rfl) : PD B X (.Call (.Name x p) (e :: es) [] pos) (dNew sd xd dfl t) :=
  PE.imp (Ev.pe_new D hr hg hx.ps ha hdb he hpl) fun _ _ _ h => new_step hd h
theorem pd_newN {sd : SpN T} {dvs : List V} {dfl : List (D T.O)} (D : DefC X.prog X.w X.K X.mg X.base (L2.CX X.prog X.w) k x ps (spN T ef x sd) dvs) (hd : ∀ h, RepL T h dvs dfl) (hr : Room (k + 1) X.A) (hx : XP X ef B xd) (hg : Gl X x := by rfl) (hdb : (x == ("__debug__" : Str)) = false := by decide) :
    PD B X (.Call (.Name x p) [] [] pos) (dNew sd xd dfl dNil) :=
  PE.imp (Ev.pe_newN D hr hg hx.ps hdb) fun σ H Q h => by
    obtain ⟨g, as, cs, q, st, h, k⟩ := new_step (ef := ef) (x := x) hd h
    exact k [] cs h [] as H (Ex.refl st.c) .nil
end
end Dl
set_option Elab.async false
set_option linter.all false
set_option maxRecDepth 100000
set_option maxHeartbeats 1000000
/-! Fields, methods, a base's def off its class, dicts updated, texts, sums, sorts. -/
namespace Dl
open PySem PySem.Spec PyProof.Rows L2 Ev
section
variable {X : Cx} {T : Th X.K} {B : Ba} {ef : Str → List Str} {xd : Xd T} {e a b c o i : Expr} {es : List Expr} {pos p : Pos} {k : Nat} {x f m : Str} {ps : List Str}
/-! ### fields -/
/-- a class whose instances' fields may be read and stored -/
def ClF (K : PySem.W.Frag) (C f : Str) : Prop := Cls K (He.ga K C) ∧ NoAttr K (He.ga K C) f
/-- what the fields of the own objects are worth -/
def FldAt {K : PySem.W.Frag} (T : Th K) (h : Hp) (a : Addr) (f : Str) (d : D T.O) : Prop := (∃ C dx fs v, h a = some (.ins C dx fs) ∧ Cls K C ∧ NoAttr K C f ∧ fs.lookup f = some v ∧ Rep T h v d) ∨
  ∃ C dd fs v, ExcC K C ∧ PySem.W.findIn K (.ref C) f = some none ∧ h a = some (exk a (.ref C) (some dd)) ∧ h dd = some (.xd fs) ∧ fs.lookup f = some v ∧ Rep T h v d
structure AttrT {K : PySem.W.Frag} (T : Th K) (attr : T.O → Str → Option (D T.O)) : Prop where
  ok : ∀ h a o f d, T.RO h a o → attr o f = some d → FldAt T h a f d
/-- a field of an object, of a kept error -/
def tFldU (K : PySem.W.Frag) (ta : TE) (f : Str) : TE := fun σ H Q => ta σ H fun x H1 => (∃ a C dx fs v, x = .ref a ∧ H1 a = some (.ins C dx fs) ∧ Cls K C ∧ NoAttr K C f ∧ fs.lookup f = some v ∧ Q v H1) ∨
  ∃ (a C dd : Addr) (fs : List (Str × V)) (v : V), x = .ref a ∧ ExcC K C ∧ PySem.W.findIn K (.ref C) f = some none ∧ H1 a = some (exk a (.ref C) (some dd)) ∧ H1 dd = some (.xd fs) ∧ fs.lookup f = some v ∧ Q v H1
theorem pe_fldU {te : TE} (he : PE X e te) (hb : attributeBase e f X.env (eval e X.env) = eval e X.env := by rfl) : PE X (.Attribute e f pos) (tFldU X.K te f) := by
  refine ⟨fun pins s σ H Q I h => attr_of hb (thn (he.run pins s σ H _ I h) fun u s1 z => ?_)⟩
  obtain ⟨x, H1, I1, rx, z⟩ := z
  rcases z with ⟨a, C, dx, fs, v, ex, ea, c, n, l, q⟩ | ⟨a, C, dd, fs, v, ex, T, no, ea, ed, l, q⟩
  · subst ex
    obtain rfl : u = Value.ref a := rx
    exact getattr_ok I1 ea c n l fun u' s2 I2 ru => ⟨v, H1, I2, ru, q⟩
  · subst ex
    obtain rfl : u = Value.ref a := rx
    obtain ⟨oe, od, mA, J, hl, rel⟩ := exk_inst I1.hok ea ed
    obtain ⟨u, hu, ru⟩ := RelO.some_of (v := v) (o := mA f) (by rw [← l]; exact rel f)
    exact PySem.HandSPX.exc_get I1.kIn J T.hg T.hk T.hs (PySem.W.findObj_own T.hd no rfl (by rw [hl, hu])) (handed_of ru) ⟨v, H1, I1.tok _, ru, q⟩
theorem RepF.look {K : PySem.W.Frag} {T : Th K} {h : Hp} {f : Str} : ∀ {vs : List (Str × V)} {ds : List (Str × D T.O)} {d : D T.O}, RepF T h vs ds → ds.lookup f = some d → ∃ v, vs.lookup f = some v ∧ Rep T h v d
  | _, _, _, .nil, e => by cases e
  | (g, v) :: vs, (g', d') :: ds, d, .cons a b, e => by
    have eg : g = g' := a.1
    subst eg
    rw [List.lookup_cons] at e ⊢
    cases hb : f == g with
    | true => rw [hb] at e; cases e; exact ⟨v, rfl, a.2⟩
    | false => rw [hb] at e; exact RepF.look b e
def dFld {K : PySem.W.Frag} {T : Th K} (attr : T.O → Str → Option (D T.O)) (t : TDE T) (f : Str) : TDE T := fun g cs Q => t g cs fun s cs1 => match s with
  | .dat (.obj o) => match attr o f with
    | some d => Q (.dat d) cs1
    | none => False
  | .own i => match cs1[i]? with
    | some (.ins C fs) => ClF K C f ∧ match fs.lookup f with
      | some d => Q (.dat d) cs1
      | none => False
    | _ => False
  | _ => False
theorem own_ins {Z : List Addr} {as : As} {cs : Cs T} {H : Hp} {v : V} {i : Nat} {C : Str} {fs : List (Str × D T.O)} (st : StC T Z as cs H) (r : SlotAt T as (hid (Z ++ ow as) H) v (.own i)) (e : cs[i]? = some (.ins C fs)) :
    ∃ p dx vs, as[i]? = some (some p) ∧ v = .ref p ∧ H p = some (.ins (He.ga X.K C) dx vs) ∧ RepF T (hid (Z ++ ow as) H) vs fs := by
  obtain ⟨o, h1, h2⟩ := Paired.ix st.cells e
  cases o with
  | none => exact h2.elim
  | some p => obtain ⟨dx, vs, h3, h4⟩ := h2; exact ⟨p, dx, vs, h1, r.2 p h1, h3, h4⟩
theorem pd_fld {attr : T.O → Str → Option (D T.O)} {t : TDE T} (A : AttrT T attr) (he : PD B X e t) (hb : attributeBase e f X.env (eval e X.env) = eval e X.env := by rfl) : PD B X (.Attribute e f pos) (dFld attr t f) :=
  PE.imp (pe_fldU he hb) fun σ H Q ⟨g, as, cs, q, st, h, k⟩ => ⟨g, as, cs, _, st, h, fun s cs1 h1 v as1 H1 x1 r1 => by
    cases s with
    | dat d =>
      cases d with
      | obj o =>
        dsimp only at h1
        cases ea : attr o f with
        | none => rw [ea] at h1; exact h1.elim
        | some d =>
          rw [ea] at h1
          cases r1 with
          | @obj a _ r =>
            rcases A.ok _ _ _ _ _ r ea with ⟨C, dx, fs, v, e1, e2, e3, e4, e5⟩ | ⟨C, dd, fs, v, e1, e2, e3, e3', e4, e5⟩
            · exact .inl ⟨a, C, dx, fs, v, rfl, (hid_some e1).2, e2, e3, e4, k _ _ h1 _ _ _ x1 e5⟩
            · exact .inr ⟨a, C, dd, fs, v, rfl, e1, e2, (hid_some e3).2, (hid_some e3').2, e4, k _ _ h1 _ _ _ x1 e5⟩
      | _ => exact h1.elim
    | own i =>
      dsimp only at h1
      cases ec : cs1[i]? with
      | none => rw [ec] at h1; exact h1.elim
      | some c =>
        cases c with
        | ins C fs =>
          rw [ec] at h1
          obtain ⟨hc, h1⟩ := h1
          cases el : fs.lookup f with
          | none => rw [el] at h1; exact h1.elim
          | some d =>
            rw [el] at h1
            obtain ⟨p, dx, vs, a1, rfl, a3, a4⟩ := own_ins x1.c r1 ec
            obtain ⟨v, b1, b2⟩ := a4.look el
            exact .inl ⟨p, _, dx, vs, v, rfl, a3, hc.1, hc.2, b1, k _ _ h1 _ _ _ x1 b2⟩
        | _ => rw [ec] at h1; exact h1.elim⟩
/-- o.f = e, o one's own new instance -/
def putFD {O : Type} (f : Str) (d : D O) : List (Str × D O) → List (Str × D O)
  | [] => [(f, d)]
  | (g, x) :: r => if g = f then (g, d) :: r else (g, x) :: putFD f d r
theorem RepF.put {K : PySem.W.Frag} {T : Th K} {h : Hp} {v : V} {d : D T.O} (r : Rep T h v d) : ∀ {vs : List (Str × V)} {ds : List (Str × D T.O)}, RepF T h vs ds → RepF T h (putF f v vs) (putFD f d ds)
  | _, _, .nil => .cons ⟨rfl, r⟩ .nil
  | (g, u) :: vs, (g', d') :: ds, .cons a b => by
    have eg : g = g' := a.1
    subst eg
    unfold putF putFD
    by_cases z : g = f
    · rw [if_pos z, if_pos z]; exact .cons ⟨rfl, r⟩ b
    · rw [if_neg z, if_neg z]; exact .cons a (RepF.put r b)
theorem RepF.len {K : PySem.W.Frag} {T : Th K} {h : Hp} {vs : List (Str × V)} {ds : List (Str × D T.O)} (r : RepF T h vs ds) : vs.length = ds.length := Paired.length r
def dFldSet {K : PySem.W.Frag} {T : Th K} (to te : TDE T) (f : Str) : TDS T := fun E g cs => te g cs fun u cs1 => to g cs1 fun s cs2 => onDat u fun d => match s with
  | .own i => match cs2[i]? with
    | some (.ins C fs) => ClF K C f ∧ fs.length < 1000 ∧ E.nx g (cs2.set i (.ins C (putFD f d fs)))
    | _ => False
  | _ => False
theorem pds_fld {pos' : Pos} {to te : TDE T} (ho : PD B X o to) (he : PD B X e te) (hs : swapsWith e (some (.Attribute o f pos')) pos.line X.env = pure false := by rfl) : PDS B X (.Assign [.Attribute o f pos'] e pos) (dFldSet to te f) :=
  PS.imp (ps_fld ho he hs) fun E σ H ⟨g, as, cs, e, s, h, ok⟩ => ⟨g, as, cs, _, s, h, fun u cs1 h1 v as1 H1 x1 r1 => ⟨g, as1, cs1, _, s.step x1, h1, fun s1 cs2 h2 w as2 H2 x2 r2 => by
    obtain ⟨d, ed, h3⟩ := onDat_of h2
    subst ed
    cases s1 with
    | dat _ => exact h3.elim
    | own i =>
      dsimp only at h3
      cases ec : cs2[i]? with
      | none => rw [ec] at h3; exact h3.elim
      | some c =>
        cases c with
        | ins C fs =>
          rw [ec] at h3
          obtain ⟨hc, hl, h3⟩ := h3
          obtain ⟨p, dx, vs, a1, rfl, a3, a4⟩ := own_ins x2.c r2 ec
          refine ⟨p, _, dx, vs, rfl, a3, hc.1, hc.2, by rw [a4.len]; exact hl, ?_⟩
          exact ok.nx _ _ h3 _ _ _ (((s.step x1).step x2).step (Ex.put x2.c a1 ⟨dx, _, upd_same, a4.put (r1.mono x2.same x2.lk)⟩))
        | _ => rw [ec] at h3; exact h3.elim⟩⟩
/-- one's own object as a thing that is pointed at -/
def dPtr {K : PySem.W.Frag} {T : Th K} (q : Addr) (t : TDE T) : TDE T := fun g cs Q => t g cs fun s cs1 => s = .own 0 ∧ (∃ c, cs1[0]? = some c ∧ c ≠ .gone) ∧ Q (.dat (.ptr q)) cs1
theorem pd_ptr {q : Addr} {t : TDE T} (hB : B.as0 = [some q]) (he : PD B X e t) : PD B X e (dPtr q t) :=
  PE.imp he fun σ H Q ⟨g, as, cs, qq, st, h, k⟩ => ⟨g, as, cs, _, st, h, fun s cs1 h1 v as1 H1 x1 r1 => by
    obtain ⟨rfl, ⟨c, ec, ng⟩, h1⟩ := h1
    obtain ⟨o, e1, e2⟩ := Paired.ix x1.c.cells ec
    have e3 : o = some q := by
      rcases (st.step x1).k.lk.at_ 0 (by rw [hB]; exact Nat.zero_lt_one) with z | z
      · rw [e1, hB] at z; cases z; rfl
      · rw [e1] at z; cases z
        cases c <;> first | exact e2.elim | exact absurd rfl ng
    subst e3
    rw [r1.2 q e1]
    exact k _ _ h1 _ _ _ x1 (.ptr q)⟩
/-! ### methods of the own objects -/
/-- what the classes' methods keep -/
structure MethD (P : Program) (w : World) (K : PySem.W.Frag) (mg : Str → Option Value) (base : Heap) (CX : CXT) (k : Nat) (Cs : List Str) (m : Str) (ps : List Str) (sp : Sp) : Prop where
  ex : ∃ (f : Addr) (fd : FuncData), FnOk P w K mg base CX k f fd ps sp ∧ Binds K fd ps [] ∧ ∀ c ∈ Cs, Cls K (He.ga K c) ∧ Meth K (He.ga K c) m f
/-- what the own objects are instances of -/
structure CnT {K : PySem.W.Frag} (T : Th K) (cn : T.O → Str) (Cs ms : List Str) : Prop where
  ins : ∀ h a o, T.RO h a o → cn o ∈ Cs → ∃ dx fs, h a = some (.ins (He.ga K (cn o)) dx fs) ∧ ∀ m ∈ ms, fs.lookup m = none
def dMeth {K : PySem.W.Frag} {T : Th K} (Cs : List Str) (cn : T.O → Str) (sd : SpP T) (xd : Xd T) (to : TDE T) (t : TDA T) : TDE T := fun g cs Q => ∃ c ∈ Cs, to g cs fun s cs1 => match s with
  | .dat (.obj o) => cn o = c ∧ t g cs1 fun ss cs2 => onDats ss fun ds => sd (.obj o :: ds) (fun d => Q (.dat d) cs2) xd
  | _ => False
theorem meth_step {Cs : List Str} {cn : T.O → Str} {ms : List Str} (C : CnT T cn Cs ms) (hm : m ∈ ms) {sd : SpP T} {to : TDE T} {t : TDA T} {σ : L2.St} {H : Hp} {Q : VK} (h : lE B (dMeth Cs cn sd xd to t) σ H Q) :
    ∃ c : { c : Str // c ∈ Cs }, tMeth (He.ga X.K c.1) m (spP T ef sd) [] (liftX T ef B xd) (lE B to) (lA B t) σ H Q := by
  obtain ⟨g, as, cs, q, st, ⟨c, hc, h⟩, k⟩ := h
  refine ⟨⟨c, hc⟩, g, as, cs, _, st, h, fun s cs1 h1 v as1 H1 x1 r1 => ?_⟩
  cases s with
  | own i => exact h1.elim
  | dat d =>
    cases d with
    | obj o =>
      obtain ⟨e1, h1⟩ := h1
      cases r1 with
      | @obj a _ r =>
        obtain ⟨dx, fs, e2, e3⟩ := C.ins _ _ _ r (e1 ▸ hc)
        rw [e1] at e2
        refine ⟨a, dx, fs, rfl, (hid_some e2).2, e3 m hm, g, as1, cs1, _, st.step x1, h1, fun ss cs2 h2 vs as2 H2 x2 r2 => ?_⟩
        obtain ⟨ds, e4, h2⟩ := onDats_of h2
        rw [List.append_nil]
        refine ⟨B.Z ++ ow as2, .obj o :: ds, _, xd, x2.c.live, .cons (.obj (T.mono x2.same r)) (datL_rep r2 e4), h2, fun d hd v H' S r => k _ _ hd v as2 H' (x1.trans (x2.trans (Ex.grow x2.c S))) r, fun y es hy cls dx H' S ex => ?_⟩
        exact ⟨y, es, hy, kept_of ((st.step x1).step x2) fun a o _ e => S a o e, ex.sub fun a z => List.mem_append_left _ z⟩
    | _ => exact h1.elim
variable {apos : Pos} {pl : Sem Bool}
theorem pd_meth {Cs : List Str} {cn : T.O → Str} {ms : List Str} {sd : SpP T} {to : TDE T} {t : TDA T} (C : CnT T cn Cs ms) (hm : m ∈ ms) (M : MethD X.prog X.w X.K X.mg X.base (L2.CX X.prog X.w) k Cs m ps (spP T ef sd)) (hr : Room k X.A) (hx : XP X ef B xd) (ho : PD B X o to) (ha : PDA B X (e :: es) t)
    (hst : starEach (e :: es) X.env = (false, eval e X.env) :: starEach es X.env := by rfl) (hpl : (backTo pos (starEach es X.env)).any (·.1) = false := by rfl)
    (ht : eval (.Call (.Attribute o m apos) (e :: es) [] pos) X.env = (eval o X.env >>= fun ov => standAt apos.atName >>= fun _ => holding [ov] (getMethod ov m pl) >>= fun q => callWith pos q.1 q.2 (backTo pos (starEach (e :: es) X.env)) (backToKw pos (keywordEach [] X.env))) := by rfl) :
    PD B X (.Call (.Attribute o m apos) (e :: es) [] pos) (dMeth Cs cn sd xd to t) := by
  obtain ⟨f, fd, F, b, hC⟩ := M.ex
  exact PE.imp (PE.ex (t := fun c : { c : Str // c ∈ Cs } => tMeth (He.ga X.K c.1) m (spP T ef sd) [] (liftX T ef B xd) (lE B to) (lA B t)) fun c => pe_meth ho (hC c.1 c.2).1 (hC c.1 c.2).2 F hr b .nil hx.ps ha hst hpl ht) fun _ _ _ h => meth_step C hm h
theorem pd_meth0 {Cs : List Str} {cn : T.O → Str} {ms : List Str} {sd : SpP T} {to : TDE T} (C : CnT T cn Cs ms) (hm : m ∈ ms) (M : MethD X.prog X.w X.K X.mg X.base (L2.CX X.prog X.w) k Cs m ps (spP T ef sd)) (hr : Room k X.A) (hx : XP X ef B xd) (ho : PD B X o to)
    (ht : eval (.Call (.Attribute o m apos) [] [] pos) X.env = (eval o X.env >>= fun ov => standAt apos.atName >>= fun _ => holding [ov] (getMethod ov m pl) >>= fun q => callWith pos q.1 q.2 (backTo pos (starEach [] X.env)) (backToKw pos (keywordEach [] X.env))) := by rfl) :
    PD B X (.Call (.Attribute o m apos) [] [] pos) (dMeth Cs cn sd xd to dNil) := by
  obtain ⟨f, fd, F, b, hC⟩ := M.ex
  refine PE.imp (PE.ex (t := fun c : { c : Str // c ∈ Cs } => tMeth (He.ga X.K c.1) m (spP T ef sd) [] (liftX T ef B xd) (lE B to) tNil) fun c => pe_meth0 ho (hC c.1 c.2).1 (hC c.1 c.2).2 F hr b .nil hx.ps ht) fun σ H Q h => ?_
  obtain ⟨c, g, as, cs, q, st, h, k⟩ := meth_step (ef := ef) C hm h
  refine ⟨c, g, as, cs, _, st, h, fun s cs1 h1 v as1 H1 x1 r1 => ?_⟩
  obtain ⟨a, dx, fs, e1, e2, e3, g2, as2, cs2, q2, st2, h2, k2⟩ := k s cs1 h1 v as1 H1 x1 r1
  exact ⟨a, dx, fs, e1, e2, e3, k2 [] cs2 h2 [] as2 H1 (Ex.refl st2.c) .nil⟩
/-! ### Base.__init__(self, ..) -/
theorem pd_off {pl : Sem Bool} {C0 f0 : Addr} {mc : Value} {sd : SpO T} {t : TDA T} (hg : Gl X x) (hmg : X.mg x = some (.ref C0)) (r : ClX.CRead X.K C0 mc) (hf : PySem.W.findCls X.K (.ref C0) mc m = some (.val (.ref f0))) (FR : FnR X.prog X.w X.K X.mg X.base (L2.CX X.prog X.w) k f0 (spO T ef sd)) (hr : Room k X.A) (kf : PySem.W.keepIn X.K (.ref f0) = true)
    (hx : XP X ef B xd) (ha : PDA B X (e :: es) t) (hdb : (x == ("__debug__" : Str)) = false := by decide) (hst : starEach (e :: es) X.env = (false, eval e X.env) :: starEach es X.env := by rfl) (hpl : (backTo pos (starEach es X.env)).any (·.1) = false := by rfl)
    (ht : eval (.Call (.Attribute (.Name x p) m apos) (e :: es) [] pos) X.env = (eval (.Name x p) X.env >>= fun ov => standAt apos.atName >>= fun _ => holding [ov] (getMethod ov m pl) >>= fun q => callWith pos q.1 q.2 (backTo pos (starEach (e :: es) X.env)) (backToKw pos (keywordEach [] X.env))) := by rfl) :
    PD B X (.Call (.Attribute (.Name x p) m apos) (e :: es) [] pos) (dCallO sd xd t) :=
  PE.imp (pe_off (pe_glob (v := .ref C0) hg hmg rfl hdb) r hf FR hr kf hx.ps ha hst hpl ht) fun σ H Q h => ⟨rfl, callO_step (ef := ef) h⟩
/-- C.NAME, a constant of a class -/
theorem pd_cval {v : V} {u mc : Value} {C : Addr} {d : D T.O} (hg : Gl X x) (hm : X.mg x = some (.ref C)) (r : ClX.CRead X.K C mc) (c : ClX.CVal X.K C mc f v u) (rd : ∀ h, Rep T h v d) (hdb : (x == ("__debug__" : Str)) = false := by decide)
    (hb : attributeBase (.Name x p) f X.env (eval (.Name x p) X.env) = eval (.Name x p) X.env := by rfl) : PD B X (.Attribute (.Name x p) f pos) (dC T d) :=
  PE.imp (ClX.pe_cval (pe_glob (v := .ref C) hg hm rfl hdb) hb) fun σ H Q ⟨g, as, cs, q, st, h, k⟩ => ⟨C, mc, v, u, rfl, r, c, lE_val (s := .dat d) st (rd _) h k⟩
/-! ### dict.update -/
theorem mt_dupd : MtM X "dict.update" (fun x vs H Q => ∃ d o kvs more, x = .ref d ∧ vs = [.ref o] ∧ H d = some (.dK kvs) ∧ Rd H o (.dK more) ∧ d ≠ o ∧ kvs.length + more.length ≤ sizeLine ∧ (mergeK kvs more).length ≤ sizeLine ∧ Q .non (upd H d (.dK (mergeK kvs more)))) := by
  intro pins s σ H x vs v us Q I rx rv h
  obtain ⟨d, o, kvs, more, rfl, rfl, hd, ho, ne, hz, hz2, q⟩ := h
  cases rx
  obtain ⟨u, rfl, ru⟩ := rv.one
  cases ru
  obtain ⟨z1, s1, vs1, r1, m1⟩ := dk_of I.hok hd
  obtain ⟨z2, s2, vs2, r2, m2⟩ := dk_rd I.hok ho
  refine call_meetsIn PySem.F.slot_dict_update m1.typeIs PySem.F.entry_dict_update (PySem.F.args_dict_update_2 _ _) (meets_dict_update (mixKind X.prog X.w) d o ne s2) ⟨vs1, vs2, m1, m2, by rw [← r1.length, ← r2.length]; exact hz, fun h' n1 n2 hs => ?_⟩
  have he : ∃ w, h'.get? d = some w := let ⟨w, _, _, hw, _⟩ := n1; ⟨w, hw⟩
  exact ⟨.non, _, d_write (t' := s.toks) I (by rw [hd]; trivial) hs he (dk_new hz2 s1 (KV.merge r2 r1) n1), rfl, q⟩
def mergeD {α : Type} (kvs more : List (Key × α)) : List (Key × α) := more.foldl (fun acc kv => putD acc kv.1 kv.2) kvs
theorem RepK.merge {K : PySem.W.Frag} {T : Th K} {h : Hp} : ∀ {more : List (Key × V)} {em : List (Key × D T.O)} {kvs : List (Key × V)} {ek : List (Key × D T.O)}, RepK T h more em → RepK T h kvs ek → RepK T h (mergeK kvs more) (mergeD ek em)
  | _, _, _, _, .nil, q => q
  | _, _, kvs, ek, @RepK.cons _ _ _ k v d vs ds a b, q => by
    show RepK T h (mergeK (putK kvs k v) vs) (mergeD (putD ek k d) ds)
    exact RepK.merge b (q.put a)
theorem putD_len {α : Type} (kvs : List (Key × α)) (k : Key) (v : α) : (putD kvs k v).length ≤ kvs.length + 1 := by
  unfold putD
  split
  · rw [List.length_map]; omega
  · rw [List.length_append]; simp
theorem mergeD_len {α : Type} : ∀ (more kvs : List (Key × α)), (mergeD kvs more).length ≤ kvs.length + more.length
  | [], kvs => Nat.le_refl _
  | kv :: more, kvs => by
    have h1 := mergeD_len more (putD kvs kv.1 kv.2)
    have h2 := putD_len kvs kv.1 kv.2
    show (mergeD (putD kvs kv.1 kv.2) more).length ≤ kvs.length + (more.length + 1)
    omega
def dUpd {K : PySem.W.Frag} {T : Th K} (to te : TDE T) : TDE T := fun g cs Q => to g cs fun s cs1 => onOwnD cs1 s fun _ _ => te g cs1 fun u cs2 => onDat u fun d => onOwnD cs2 s fun i kvs => match d with
  | .dic more => kvs.length + more.length ≤ sizeLine ∧ Q (.dat .non) (cs2.set i (.dic (mergeD kvs more)))
  | _ => False
variable {cpos : Pos}
theorem pd_upd {to te : TDE T} (ho : PD B X o to) (he : PD B X e te) (hbase : attributeBase o "update" X.env (eval o X.env) = eval o X.env := by rfl)
    (hfew : ((backTo cpos (starEach [e] X.env)).all (fun x => !x.1) && (backToKw cpos (keywordEach [] X.env)).all (fun x => x.1.isSome)
      && decide ([e].length + ([] : List Keyword).length + (if ([] : List Keyword).isEmpty then 0 else 1) < 30)) = true := by rfl)
    (hline : (apos.endLine == cpos.line) = true := by rfl) (hs : starEach [e] X.env = (false, eval e X.env) :: starEach [] X.env := by rfl) (hplain : (backTo cpos (starEach [] X.env)).any (·.1) = false := by rfl) :
    PD B X (.Call (.Attribute o "update" apos) [e] [] cpos) (dUpd to te) :=
  PE.imp (pe_bm PySem.F.plainAttrs_dict PySem.F.slot_dict_update PySem.F.type_dict_update mt_dupd ho (pa_cons he pa_nil hs) hbase hfew hline hs hplain) fun σ H Q ⟨g, as, cs, q, st, h, k⟩ => ⟨g, as, cs, _, st, h, fun s cs1 h1 v as1 H1 x1 r1 => by
    obtain ⟨i, xs, rfl, e1, h1⟩ := onOwnD_of h1
    obtain ⟨p, vs, a1, rfl, a3, a4⟩ := own_dic x1.c r1 e1
    refine ⟨.inr (.inr (.inl ⟨rfl, .inl ⟨_, a3⟩⟩)), g, as1, cs1, _, st.step x1, h1, fun u cs2 h2 w as2 H2 x2 r2 => ?_⟩
    obtain ⟨d, ed, h3⟩ := onDat_of h2
    subst ed
    obtain ⟨j, ys, ej, e2, h4⟩ := onOwnD_of h3
    cases ej
    obtain ⟨p2, us, b1, b2, b3, b4⟩ := own_dic x2.c (r1.mono x2.same x2.lk) e2
    cases b2
    cases d with
    | dic more =>
      cases r2 with
      | @dic ao mv _ ra rl =>
        have ra' : Rd H2 ao (.dK mv) := same_rd hid_sub ra
        have rm := RepK.merge rl b4
        refine ⟨p, ao, us, mv, rfl, rfl, b3, ra', fun z => ?_, by rw [b4.len, rl.len]; exact h4.1, by rw [rm.len]; exact Nat.le_trans (mergeD_len _ _) h4.1, ?_⟩
        · have hp : p ∈ B.Z ++ ow as2 := List.mem_append_right _ (own_in b1)
          rcases ra with ra | ⟨_, ra⟩
          · exact (hid_some ra).1 (z ▸ hp)
          · exact (hid_some ra).1 (z ▸ hp)
        · exact k _ _ h4.2 _ _ _ (x1.trans (x2.trans (Ex.put x2.c b1 ⟨_, upd_same, rm⟩))) .non
    | _ => exact h4.elim⟩
end
end Dl
set_option Elab.async false
set_option linter.all false
set_option maxRecDepth 100000
set_option maxHeartbeats 1000000
/-! isinstance; texts; sums, greatest ones, sorts; a dict's keys. -/
namespace Dl
open PySem PySem.Spec PyProof.Rows L2 Ev
/-! ### isinstance -/
abbrev CN : Type := Sum String Str
def tyNm {O : Type} : D O → Option String
  | .non => some "NoneType"
  | .bl _ => some "bool"
  | .int _ => some "int"
  | .str _ => some "str"
  | .tup _ => some "tuple"
  | .lst _ => some "list"
  | .dic _ => some "dict"
  | _ => none
def bNames : List String := ["str", "int", "bool", "NoneType", "tuple", "list", "dict"]
def valN (K : PySem.W.Frag) : CN → Value
  | .inl n => .type n
  | .inr x => .ref (He.ga K x)
def clsD {O : Type} : D O → Option CN
  | .ty n => some (.inl n)
  | .cls x => some (.inr x)
  | _ => none
def kindN {O : Type} (cn : O → Str) : D O → Option CN
  | .obj o => some (.inr (cn o))
  | d => (tyNm d).map .inl
/-- .. of what is no kept error -/
def kindT {O : Type} (cn : O → Str) (er : O → Bool) : D O → Option CN
  | .obj o => match er o with
    | true => none
    | false => some (.inr (cn o))
  | d => (tyNm d).map .inl
/-- is the one below the other: own classes by a table -/
def subN (own : List Str) (sub : Str → Str → Bool) : CN → CN → Option Bool
  | .inl n, .inl m => if n ∈ bNames ∧ m ∈ bNames then some (n == m || (n == "bool" && m == "int")) else none
  | .inl n, .inr y => if n ∈ bNames ∧ y ∈ own then some false else none
  | .inr x, .inl m => if x ∈ own ∧ m ∈ bNames then some false else none
  | .inr x, .inr y => if x ∈ own ∧ y ∈ own then some (sub x y) else none
structure IsiT (K : PySem.W.Frag) (T : Th K) (cn : T.O → Str) (er : T.O → Bool) (own : List Str) (sub : Str → Str → Bool) : Prop where
  ty : ∀ H a o, T.RO H a o → er o = false → TyX K H (.ref a) (.ref (He.ga K (cn o)))
  ex : ∀ H a o, T.RO H a o → er o = true → ExcC K (He.ga K (cn o)) ∧ ∃ dd fs, H a = some (exk a (.ref (He.ga K (cn o))) (some dd)) ∧ H dd = some (.xd fs)
  oo : ∀ x ∈ own, ∀ y ∈ own, PySem.W.kitOne K (.ref (He.ga K x)) (.ref (He.ga K y)) = some (sub x y)
  ob : ∀ x ∈ own, ∀ n ∈ bNames, PySem.W.kitOne K (.ref (He.ga K x)) (.type n) = some false
  bo : ∀ n ∈ bNames, ∀ y ∈ own, PySem.W.kitOne K (.type n) (.ref (He.ga K y)) = some false
theorem bb_ok : ∀ n ∈ bNames, ∀ m ∈ bNames, kitB n m = some (n == m || (n == "bool" && m == "int")) := by decide +kernel
section
variable {K : PySem.W.Frag} {T : Th K} {cn : T.O → Str} {er : T.O → Bool} {own : List Str} {sub : Str → Str → Bool}
theorem IsiT.one (I : IsiT K T cn er own sub) {x y : CN} {b : Bool} (h : subN own sub x y = some b) : PySem.W.kitOne K (valN K x) (valN K y) = some b := by
  cases x with
  | inl n =>
    cases y with
    | inl m =>
      have h : (if n ∈ bNames ∧ m ∈ bNames then some (n == m || (n == "bool" && m == "int")) else none) = some b := h
      split at h
      · rename_i g; rw [← h]; exact kit_ty (bb_ok n g.1 m g.2)
      · cases h
    | inr y =>
      have h : (if n ∈ bNames ∧ y ∈ own then some false else none) = some b := h
      split at h
      · rename_i g; rw [← h]; exact I.bo n g.1 y g.2
      · cases h
  | inr x =>
    cases y with
    | inl m =>
      have h : (if x ∈ own ∧ m ∈ bNames then some false else none) = some b := h
      split at h
      · rename_i g; rw [← h]; exact I.ob x g.1 m g.2
      · cases h
    | inr y =>
      have h : (if x ∈ own ∧ y ∈ own then some (sub x y) else none) = some b := h
      split at h
      · rename_i g; rw [← h]; exact I.oo x g.1 y g.2
      · cases h
theorem sqt_ty {H : Hp} {a : Addr} {vs : List V} (h : SqT K H a vs) : TyX K H (.ref a) (.type "tuple") := by
  rcases h with (h | ⟨o, h⟩) | ⟨o, its, n, h, c, _⟩
  · exact .base (.tup h)
  · exact .fTuple h
  · exact .kTuple h c
theorem IsiT.tyx (I : IsiT K T cn er own sub) {h H : Hp} (S : Same h H) {v : V} {d : D T.O} {c : CN} (r : TRep T h H v d) (e : kindT cn er d = some c) : TyX K H v (valN K c) := by
  cases d with
  | non => cases e; rw [r.of_non]; exact .base .non
  | bl b => cases e; rw [r.of_bl]; exact .base (.bl b)
  | int b => cases e; rw [r.of_int]; exact .base (.int b)
  | str b => cases e; rw [r.of_str.1]; exact .base (.str b)
  | ty n => cases e
  | cls n => cases e
  | ptr n => cases e
  | tup ds => cases e; obtain ⟨a, vs, rfl, h1, _⟩ := r.of_tup S; exact sqt_ty h1
  | lst ds => cases e; obtain ⟨a, vs, rfl, h1, _⟩ := r.of_lst S; exact .base (.lst h1)
  | dic ds =>
    cases e
    obtain ⟨a, vs, rfl, h1, _⟩ := r.of_dic S
    rcases h1 with h1 | ⟨o, h1⟩
    · exact .base (.dK h1)
    · exact .fDict h1
  | obj o =>
    have e : (match er o with
      | true => none
      | false => some (Sum.inr (cn o))) = some c := e
    cases g : er o with
    | true => rw [g] at e; cases e
    | false => rw [g] at e; cases e; obtain ⟨a, rfl, h1⟩ := r.of_obj S; exact I.ty H a o (T.mono S h1) g
theorem IsiT.kindT {h H : Hp} (S : Same h H) (I : IsiT K T cn er own sub) {v : V} {d : D T.O} {c : CN} (r : TRep T h H v d) (e : kindN cn d = some c) : kindT cn er d = some c ∨ ∃ x a dd fs, c = .inr x ∧ v = .ref a ∧ ExcC K (He.ga K x) ∧ H a = some (exk a (.ref (He.ga K x)) (some dd)) ∧ H dd = some (.xd fs) := by
  cases d with
  | obj o =>
    cases g : er o with
    | false =>
      refine .inl ?_
      show (match er o with
        | true => none
        | false => some (Sum.inr (cn o))) = some c
      rw [g]; exact e
    | true =>
      cases e
      obtain ⟨a, rfl, h1⟩ := r.of_obj S
      obtain ⟨e1, dd, fs, e2, e3⟩ := I.ex H a o (T.mono S h1) g
      exact .inr ⟨_, a, dd, fs, rfl, rfl, e1, e2, e3⟩
  | _ => exact .inl e
theorem clsV_ok {h H : Hp} {v : V} {d : D T.O} {c : CN} (r : TRep T h H v d) (e : clsD d = some c) : ClsV v (valN K c) := by
  cases d <;> first
    | (cases e; done)
    | (cases e; rw [r.of_ty]; exact .ty _)
    | (cases e; rw [r.of_cls]; exact .own _)
end
section
variable {X : Cx} {T : Th X.K} {B : Ba} {ef : Str → List Str} {xd : Xd T} {e a b c o i : Expr} {es : List Expr} {pos p apos : Pos} {k : Nat} {x f m : Str} {ps : List Str}
  {cn : T.O → Str} {er : T.O → Bool} {own : List Str} {sub : Str → Str → Bool}
def rIsi1 {K : PySem.W.Frag} {T : Th K} (cn : T.O → Str) (own : List Str) (sub : Str → Str → Bool) : RCall T := fun ds k => match ds with
  | [d, c] => match kindN cn d, clsD c with
    | some x, some y => match subN own sub x y with
      | some b => k (.bl b)
      | none => False
    | _, _ => False
  | _ => False
theorem call_isU : CallR X (.builtin "isinstance") (fun xs H Q => rIsi X.K xs H Q ∨ rIsK X.K xs H Q) := fun pins s σ H xs us Q I ru h => h.elim (call_isi pins s σ H xs us Q I ru) (call_isK pins s σ H xs us Q I ru)
theorem cd_isi (I : IsiT X.K T cn er own sub) : CallD T (.builtin "isinstance") (rIsi1 cn own sub) := CallR.imp call_isU fun xs H Q ⟨Z, ds, q, l, rl, hr, k⟩ => by
  match ds, hr with
  | [d, c], hr =>
    obtain ⟨v, u, rfl, r1, r2⟩ := trepl2 rl
    dsimp only [rIsi1] at hr
    cases e1 : kindN cn d with
    | none => rw [e1] at hr; exact hr.elim
    | some x =>
      cases e2 : clsD c with
      | none => rw [e1, e2] at hr; exact hr.elim
      | some y =>
        rw [e1, e2] at hr
        dsimp only at hr
        cases e3 : subN own sub x y with
        | none => rw [e3] at hr; exact hr.elim
        | some b =>
          rw [e3] at hr
          rcases I.kindT hid_sub r1 e1 with e1 | ⟨x', a, dd, fs, ec, ev, f1, f2, f3⟩
          · exact .inl ⟨v, u, _, _, b, rfl, clsV_ok r2 e2, I.tyx hid_sub r1 e1, I.one e3, k _ hr _ _ (same_refl _) (.bl _)⟩
          · rw [ec] at e3
            exact .inr ⟨a, _, dd, fs, u, _, b, by rw [ev], f1, f2, f3, fun w r => (clsV_ok r2 e2).eq r, I.one e3, k _ hr _ _ (same_refl _) (.bl _)⟩
/-- isinstance(x, (C1, C2, ..)) -/
def anyN (own : List Str) (sub : Str → Str → Bool) (x : CN) : List CN → Option Bool
  | [] => some false
  | y :: r => match subN own sub x y with
    | some true => some true
    | some false => anyN own sub x r
    | none => none
theorem IsiT.any (I : IsiT X.K T cn er own sub) {x : CN} : ∀ {ys : List CN} {b : Bool}, anyN own sub x ys = some b → PySem.W.kitAny X.K (valN X.K x) (ys.map (valN X.K)) = some b
  | [], _, h => h
  | y :: r, b, h => by
    dsimp only [anyN] at h
    rw [List.map_cons]
    cases e : subN own sub x y with
    | none => rw [e] at h; cases h
    | some c =>
      rw [e] at h
      cases c with
      | true => cases h; exact kitAny_cons (I.one e) (fun z => nomatch z) fun _ => rfl
      | false => exact kitAny_cons (I.one e) (fun _ => I.any h) fun z => nomatch z
def dIsiT {K : PySem.W.Frag} {T : Th K} (cn : T.O → Str) (er : T.O → Bool) (own : List Str) (sub : Str → Str → Bool) (t : TDE T) (ys : List CN) : TDE T := fun g cs Q => t g cs fun s cs1 => on1 cs1 s fun d => match kindT cn er d with
  | some x => match anyN own sub x ys with
    | some b => Q (.dat (.bl b)) cs1
    | none => False
  | none => False
def cvN (K : PySem.W.Frag) : CN → V
  | .inl n => .ty n
  | .inr x => .ref (He.ga K x)
theorem clsV_all (K : PySem.W.Frag) : ∀ ys : List CN, Paired ClsV (ys.map (cvN K)) (ys.map (valN K))
  | [] => .nil
  | .inl n :: r => .cons (.ty n) (clsV_all K r)
  | .inr x :: r => .cons (.own _) (clsV_all K r)
theorem pd_isiT {x1} {tpos : Pos} {t : TDE T} {ts : TA} {ys : List CN} (I : IsiT X.K T cn er own sub) (hm : X.mg "isinstance" = none) (ha : PD B X a t) (hes : PA X es ts) (hts : ∀ σ H Q, Q (ys.map (cvN X.K)) H → ts σ H Q) (hl : ys.length ≤ sizeLine) (hg : Gl X "isinstance" := by rfl)
    (hs : starEach [a, .Tuple es x1 tpos] X.env = (false, eval a X.env) :: starEach [.Tuple es x1 tpos] X.env := by rfl) (hs2 : starEach [.Tuple es x1 tpos] X.env = (false, eval (.Tuple es x1 tpos) X.env) :: starEach [] X.env := by rfl)
    (hpl : (backTo pos (starEach [.Tuple es x1 tpos] X.env)).any (·.1) = false := by rfl) : PD B X (.Call (.Name "isinstance" p) [a, .Tuple es x1 tpos] [] pos) (dIsiT cn er own sub t ys) :=
  PE.imp (pe_callB call_isiT hg hm (by decide +kernel) (pa_cons ha (pa_cons (pe_tup hes) pa_nil hs2) hs) (by decide) (by decide) hs hpl) fun σ H Q ⟨g, as, cs, q, st, h, k⟩ => ⟨g, as, cs, _, st, h, fun s cs1 h1 v as1 H1 x1 r1 => hts _ _ _ ⟨by rw [List.length_map]; exact hl, fun tp htp => by
    obtain ⟨d, e1, h1⟩ := on1_of h1
    have tr := slot_view x1.c r1 e1
    cases e2 : kindT cn er d with
    | none => rw [e2] at h1; exact h1.elim
    | some x =>
      rw [e2] at h1
      dsimp only at h1
      cases e3 : anyN own sub x ys with
      | none => rw [e3] at h1; exact h1.elim
      | some b =>
        rw [e3] at h1
        have S := upd_sub (o := .tup (ys.map (cvN X.K))) htp
        have tr2 : TyX X.K (upd H1 tp (.tup (ys.map (cvN X.K)))) v (valN X.K x) := by
          have hz2 : ∀ {v d}, TRep T (hz B as1 H1) H1 v d → TRep T (hz B as1 H1) (upd H1 tp (.tup (ys.map (cvN X.K)))) v d := fun r => by
            cases r with
            | rep r => exact .rep r
            | lst a b => exact .lst (S _ _ a) b
            | dic a b => exact .dic (S _ _ a) b
          exact I.tyx (same_trans hid_sub S) (hz2 tr) e2
        exact ⟨v, tp, _, _, _, b, rfl, upd_same, clsV_all X.K ys, tr2, I.any e3, k _ _ h1 _ _ _ (ext_grow (g := g) (σ := σ) (cs := cs) x1 S) (.bl _)⟩⟩⟩
/-! ### texts -/
def fStrS {K : PySem.W.Frag} {T : Th K} : D T.O → (D T.O → Prop) → Prop := fun d k => match d with
  | .str s => k (.str s)
  | _ => False
theorem cd_strS : CallD T (.type "str") (r1 fStrS) := CallR.imp SkE.call_str_str fun xs H Q ⟨Z, ds, q, l, rl, hr, k⟩ => by
  obtain ⟨d, rfl, hr⟩ := r1_of hr
  obtain ⟨v, rfl, rv⟩ := trepl1 rl
  cases d <;> try exact hr.elim
  obtain ⟨e1, e2⟩ := rv.of_str
  exact ⟨_, by rw [e1], k _ hr _ _ (same_refl _) (.str _ e2)⟩
/-- the pieces of an f-string -/
def fmtD {K : PySem.W.Frag} {T : Th K} : D T.O → (Str → Prop) → Prop := fun d k => match d with
  | .str s => k s
  | .int i => i.natAbs.log2 < 1920 ∧ k (toString i)
  | _ => False
def dFmt {K : PySem.W.Frag} {T : Th K} (t : TDE T) : TDE T := fun g cs Q => t g cs fun s cs1 => onDat s fun d => fmtD d fun z => z.length ≤ sizeLine ∧ Q (.dat (.str z)) cs1
theorem pd_fmt {t : TDE T} (h : PD B X e t) : PD B X (.FormattedValue e (-1) none pos) (dFmt t) :=
  PE.imp (pe_fmt h) fun σ H Q ⟨g, as, cs, q, st, h, k⟩ => ⟨g, as, cs, _, st, h, fun s cs1 h1 v as1 H1 x1 r1 => by
    obtain ⟨d, ed, h2⟩ := onDat_of h1
    subst ed
    cases d with
    | str z => cases r1; exact .inl ⟨z, rfl, h2.1, k _ _ h2.2 _ _ _ x1 (.str _ h2.1)⟩
    | int i => cases r1; exact .inr ⟨i, rfl, h2.1, k _ _ h2.2.2 _ _ _ x1 (.str _ h2.2.1)⟩
    | _ => exact h2.elim⟩
inductive PDJ (B : Ba) (X : Cx) {T : Th X.K} : List Expr → List (TDE T) → Prop where
  | nil : PDJ B X [] []
  | cons {e : Expr} {t : TDE T} {es : List Expr} {ts : List (TDE T)} (h : PD B X e t) (r : PDJ B X es ts) : PDJ B X (e :: es) (t :: ts)
theorem PDJ.pj {ts : List (TDE T)} (h : PDJ B X es ts) : PJ X es (ts.map (lE B)) := by
  induction h with
  | nil => exact .nil
  | cons h _ ih => exact .cons h ih
def dJs {K : PySem.W.Frag} {T : Th K} : List (TDE T) → Str → G T → Cs T → (Str → Cs T → Prop) → Prop
  | [], acc, _, cs, Q => Q acc cs
  | t :: ts, acc, g, cs, Q => t g cs fun s cs1 => onDat s fun d => match d with
    | .str z => (acc ++ z).length ≤ sizeLine ∧ dJs ts (acc ++ z) g cs1 Q
    | _ => False
theorem js_step {ts : List (TDE T)} : ∀ {acc : Str} {g : G T} {as : As} {cs : Cs T} {σ : L2.St} {H : Hp} {q : Str → Cs T → Prop} {Q : Str → Hp → Prop}, Stt T B g as cs σ H → dJs ts acc g cs q → (∀ z cs', q z cs' → ∀ as' H', Ex T B as H as' cs' H' → Q z H') → tJs (ts.map (lE B)) acc σ H Q := by
  induction ts with
  | nil => intro acc g as cs σ H q Q st h k; exact k _ _ h _ _ (Ex.refl st.c)
  | cons t ts ih =>
    intro acc g as cs σ H q Q st h k
    refine ⟨g, as, cs, _, st, h, fun s cs1 h1 v as1 H1 x1 r1 => ?_⟩
    obtain ⟨d, ed, h2⟩ := onDat_of h1
    subst ed
    cases d with
    | str z => cases r1; exact ⟨z, rfl, h2.1, ih (st.step x1) h2.2 fun z cs' hq as' H' x' => k z cs' hq as' H' (x1.trans x')⟩
    | _ => exact h2.elim
def dJoined {K : PySem.W.Frag} {T : Th K} (ts : List (TDE T)) : TDE T := fun g cs Q => dJs ts Str.empty g cs fun z cs1 => z.length ≤ sizeLine ∧ Q (.dat (.str z)) cs1
theorem pd_joined {v1 v2 : Expr} {rest : List Expr} {ts : List (TDE T)} (h : PDJ B X (v1 :: v2 :: rest) ts) : PD B X (.JoinedStr (v1 :: v2 :: rest) pos) (dJoined ts) :=
  PE.imp (pe_joined h.pj) fun σ H Q ⟨g, as, cs, q, st, h, k⟩ => js_step st h fun z cs' hq as' H' x' => k _ _ hq.2 _ _ _ x' (.str _ hq.1)
theorem pd_joined1 {t : TDE T} (h : PD B X e t) : PD B X (.JoinedStr [e] pos) t := pe_joined1 h
/-- sep.join(xs) -/
def strsL {O : Type} : List (D O) → Option (List Str)
  | [] => some []
  | .str s :: r => (strsL r).map (s :: ·)
  | _ :: _ => none
theorem strsL_ok {K : PySem.W.Frag} {T : Th K} {h : Hp} : ∀ {vs : List V} {ds : List (D T.O)} {ss : List Str}, RepL T h vs ds → strsL ds = some ss → vs = ss.map V.str ∧ ds = ss.map D.str
  | _, [], _, .nil, e => by cases e; exact ⟨rfl, rfl⟩
  | _, d :: ds, _, .cons a b, e => by
    cases d with
    | str s =>
      have e : (strsL ds).map (s :: ·) = some _ := e
      cases q : strsL ds with
      | none => rw [q] at e; cases e
      | some r =>
        rw [q] at e
        cases e
        obtain ⟨h1, h2⟩ := strsL_ok b q
        cases a
        exact ⟨by rw [h1]; rfl, by rw [h2]; rfl⟩
    | _ => cases e
def onStrs {K : PySem.W.Frag} {T : Th K} (d : D T.O) (k : List Str → Prop) : Prop := match d with
  | .lst ds => match strsL ds with
    | some ss => k ss
    | none => False
  | .tup ds => match strsL ds with
    | some ss => k ss
    | none => False
  | _ => False
theorem onStrs_of {h H : Hp} (S : Same h H) {v : V} {d : D T.O} {k : List Str → Prop} (r : TRep T h H v d) (q : onStrs d k) : ∃ p ss, v = .ref p ∧ (SqL X.K H p (ss.map V.str) ∨ SqT X.K H p (ss.map V.str)) ∧ k ss := by
  cases d <;> try exact q.elim
  · rename_i ds
    have q : (match strsL ds with
      | some ss => k ss
      | none => False) := q
    cases e : strsL ds with
    | none => rw [e] at q; exact q.elim
    | some ss =>
      rw [e] at q
      obtain ⟨a, vs, rfl, h1, h2⟩ := r.of_tup S
      rw [(strsL_ok h2 e).1] at h1
      exact ⟨a, ss, rfl, .inr h1, q⟩
  · rename_i ds
    have q : (match strsL ds with
      | some ss => k ss
      | none => False) := q
    cases e : strsL ds with
    | none => rw [e] at q; exact q.elim
    | some ss =>
      rw [e] at q
      obtain ⟨a, vs, rfl, h1, h2⟩ := r.of_lst S
      rw [(strsL_ok h2 e).1] at h1
      exact ⟨a, ss, rfl, .inl (SqL.of h1), q⟩
def dJoin {K : PySem.W.Frag} {T : Th K} (to te : TDE T) : TDE T := fun g cs Q => to g cs fun s cs1 => onDat s fun d => match d with
  | .str a => te g cs1 fun u cs2 => on1 cs2 u fun du => onStrs du fun ss => (ss.map (·.length)).sum + ss.length * a.length ≤ 16777216 ∧ (Txt.join a ss).length ≤ sizeLine ∧ Q (.dat (.str (Txt.join a ss))) cs2
  | _ => False
theorem pd_join {to te : TDE T} (ho : PD B X o to) (he : PD B X e te) (hs : starEach [e] X.env = [(false, eval e X.env)] := by rfl) (hbase : attributeBase o "join" X.env (eval o X.env) = eval o X.env := by rfl) (hline : (apos.endLine == pos.line) = true := by rfl) :
    PD B X (.Call (.Attribute o "join" apos) [e] [] pos) (dJoin to te) :=
  PE.imp (pe_join ho he hs hbase hline) fun σ H Q ⟨g, as, cs, q, st, h, k⟩ => ⟨g, as, cs, _, st, h, fun s cs1 h1 v as1 H1 x1 r1 => by
    obtain ⟨d, ed, h2⟩ := onDat_of h1
    subst ed
    cases d with
    | str a =>
      cases r1
      refine ⟨⟨a, rfl⟩, g, as1, cs1, _, st.step x1, h2, fun u cs2 h3 w as2 H2 x2 r2 => ?_⟩
      obtain ⟨du, e1, h4⟩ := on1_of h3
      obtain ⟨p, ss, rfl, hp, c1, c2, c3⟩ := onStrs_of hid_sub (slot_view x2.c r2 e1) h4
      exact ⟨a, p, ss, rfl, rfl, hp, c1, k _ _ c3 _ _ _ (x1.trans x2) (.str _ c2)⟩
    | _ => exact h2.elim⟩
/-! ### sums, greatest ones, sorts -/
def intsL {O : Type} : List (D O) → Option (List Int)
  | [] => some []
  | .int s :: r => (intsL r).map (s :: ·)
  | _ :: _ => none
theorem intsL_ok {K : PySem.W.Frag} {T : Th K} {h : Hp} : ∀ {vs : List V} {ds : List (D T.O)} {ss : List Int}, RepL T h vs ds → intsL ds = some ss → vs = ss.map V.int
  | _, [], _, .nil, e => by cases e; rfl
  | _, d :: ds, _, .cons a b, e => by
    cases d with
    | int s =>
      have e : (intsL ds).map (s :: ·) = some _ := e
      cases q : intsL ds with
      | none => rw [q] at e; cases e
      | some r =>
        rw [q] at e
        cases e
        cases a
        rw [intsL_ok b q]; rfl
    | _ => cases e
def onInts {K : PySem.W.Frag} {T : Th K} (d : D T.O) (k : List Int → Prop) : Prop := match d with
  | .lst ds => match intsL ds with
    | some ss => k ss
    | none => False
  | _ => False
theorem onInts_of {h H : Hp} (S : Same h H) {v : V} {d : D T.O} {k : List Int → Prop} (r : TRep T h H v d) (q : onInts d k) : ∃ p ss, v = .ref p ∧ SqL X.K H p (ss.map V.int) ∧ k ss := by
  cases d <;> try exact q.elim
  rename_i ds
  have q : (match intsL ds with
    | some ss => k ss
    | none => False) := q
  cases e : intsL ds with
  | none => rw [e] at q; exact q.elim
  | some ss =>
    rw [e] at q
    obtain ⟨a, vs, rfl, h1, h2⟩ := r.of_lst S
    rw [intsL_ok h2 e] at h1
    exact ⟨a, ss, rfl, SqL.of h1, q⟩
def fSum {K : PySem.W.Frag} {T : Th K} : D T.O → (D T.O → Prop) → Prop := fun d k => onInts d fun ns => k (.int ns.sum)
theorem cd_sum (hc : X.calm = true) : CallD T (.builtin "sum") (r1 fSum) := CallR.imp (cr_sum hc) fun xs H Q ⟨Z, ds, q, l, rl, hr, k⟩ => by
  obtain ⟨d, rfl, hr⟩ := r1_of hr
  obtain ⟨v, rfl, rv⟩ := trepl1 rl
  obtain ⟨p, ns, rfl, hp, hr⟩ := onInts_of hid_sub rv hr
  exact ⟨p, ns, rfl, hp, k _ hr _ _ (same_refl _) (.int _)⟩
def fMax {K : PySem.W.Frag} {T : Th K} : D T.O → (D T.O → Prop) → Prop := fun d k => onInts d fun ns => match ns with
  | n :: r => k (.int (r.foldl max n))
  | [] => False
theorem cd_max (hc : X.calm = true) (hu : X.A.units + 1 < cLine) : CallD T (.builtin "max") (r1 fMax) := CallR.imp (cr_maxN hc hu) fun xs H Q ⟨Z, ds, q, l, rl, hr, k⟩ => by
  obtain ⟨d, rfl, hr⟩ := r1_of hr
  obtain ⟨v, rfl, rv⟩ := trepl1 rl
  obtain ⟨p, ns, rfl, hp, hr⟩ := onInts_of hid_sub rv hr
  cases ns with
  | nil => exact hr.elim
  | cons n r => exact ⟨p, n, r, rfl, hp, k _ hr _ _ (same_refl _) (.int _)⟩
/-- max(xs, default=d) -/
def dMaxD {K : PySem.W.Frag} {T : Th K} (t u : TDE T) : TDE T := fun g cs Q => t g cs fun s cs1 => u g cs1 fun s' cs2 => on1 cs2 s fun d => onDat s' fun d' => match d' with
  | .int m => onInts d fun ns => Q (.dat (.int (maxI m ns))) cs2
  | _ => False
theorem pd_maxD {kpos : Pos} {t u : TDE T} (hc : X.calm = true) (hu : X.A.units + 1 < cLine) (hm : X.mg "max" = none) (ha : PD B X a t) (hb : PD B X b u) (hg : Gl X "max" := by rfl)
    (hs : starEach [a] X.env = (false, eval a X.env) :: starEach [] X.env := by rfl) (he : backTo pos (starEach [a] X.env) = (false, eval a X.env) :: backTo pos (starEach [] X.env) := by rfl) (hpl : (backTo pos (starEach [a] X.env)).any (·.1) = false := by rfl)
    (hall : (backToKw pos (keywordEach [⟨some (Str.ofString "default"), b, kpos⟩] X.env)).all (·.1.isSome) = true := by rfl) (hnone : (backToKw pos (keywordEach [⟨some (Str.ofString "default"), b, kpos⟩] X.env)).any (·.1.isNone) = false := by rfl)
    (hks : (backToKw pos (keywordEach [⟨some (Str.ofString "default"), b, kpos⟩] X.env)).filterMap (·.1) = [Str.ofString "default"] := by rfl) :
    PD B X (.Call (.Name "max" p) [a] [⟨some (Str.ofString "default"), b, kpos⟩] pos) (dMaxD t u) :=
  PE.imp (pe_callBK (cr_maxD hc hu) hg hm (by decide +kernel) (pa_cons ha pa_nil hs) (pk_cons hb pk_nil) (by decide) (by decide) he hpl hall hnone hks) fun σ H Q ⟨g, as, cs, q, st, h, k⟩ => ⟨g, as, cs, _, st, h, fun s cs1 h1 v as1 H1 x1 r1 => ⟨g, as1, cs1, _, st.step x1, h1, fun u cs2 h2 w as2 H2 x2 r2 => by
    obtain ⟨d, e1, h3⟩ := on1_of h2
    obtain ⟨d', e2, h4⟩ := onDat_of h3
    subst e2
    cases d' with
    | int m =>
      cases r2
      obtain ⟨p, ns, rfl, hp, h5⟩ := onInts_of hid_sub (slot_view x2.c (r1.mono x2.same x2.lk) e1) h4
      exact ⟨p, m, ns, rfl, rfl, hp, k _ _ h5 _ _ _ (x1.trans x2) (.int _)⟩
    | _ => exact h4.elim⟩⟩
/-- sorted(..) of texts -/
def fSortS {K : PySem.W.Frag} {T : Th K} : D T.O → (D T.O → Prop) → Prop := fun d k => match d with
  | .lst ds => match strsL ds with
    | some ss => ss.length < 64 ∧ ∀ ys : List Str, ys.Perm ss → sortedS ys = true → k (.lst (ys.map .str))
    | none => False
  | _ => False
theorem repl_strs {K : PySem.W.Frag} {T : Th K} {h : Hp} : ∀ {ys : List Str}, (∀ y ∈ ys, y.length ≤ sizeLine) → RepL T h (ys.map V.str) (ys.map D.str)
  | [], _ => .nil
  | y :: r, hz => .cons (.str y (hz y List.mem_cons_self)) (repl_strs fun z hz' => hz z (List.mem_cons_of_mem _ hz'))
theorem strs_len {K : PySem.W.Frag} {T : Th K} {h : Hp} : ∀ {vs : List V} {ss : List Str}, RepL T h vs (ss.map D.str) → ∀ s ∈ ss, s.length ≤ sizeLine
  | _, [], _, s, hs => by cases hs
  | _, y :: r, .cons a b, s, hs => by
    rcases List.mem_cons.mp hs with rfl | hs
    · cases a; assumption
    · exact strs_len b s hs
theorem cd_sortS : CallD T (.builtin "sorted") (r1 fSortS) := CallR.imp cr_sortedS fun xs H Q ⟨Z, ds, q, l, rl, hr, k⟩ => by
  obtain ⟨d, rfl, hw⟩ := r1_of hr
  clear hr
  obtain ⟨v, rfl, rv⟩ := trepl1 rl
  obtain ⟨ds, rfl⟩ : ∃ ds, d = .lst ds := by cases d <;> first | exact ⟨_, rfl⟩ | exact hw.elim
  dsimp only [fSortS] at hw
  cases e : strsL ds with
  | none => rw [e] at hw; exact hw.elim
  | some ss =>
    rw [e] at hw
    obtain ⟨hr1, hr2⟩ := hw
    obtain ⟨a, vs, rfl, h1, h2⟩ := rv.of_lst hid_sub
    obtain ⟨e1, e2⟩ := strsL_ok h2 e
    subst e1 e2
    refine ⟨a, ss, rfl, SqL.of h1, hr1, fun ys p hp hs hn => k _ (hr2 ys hp hs) _ _ (upd_sub hn) (new_lst l hn (repl_strs fun y hy => strs_len h2 y (hp.mem_iff.mp hy)))⟩
end
end Dl
set_option Elab.async false
set_option linter.all false
set_option maxRecDepth 100000
set_option maxHeartbeats 1000000
/-! Objects in general: how an object lies in the heap, told by its shape; the fields' trees speak of further objects. -/
namespace Dl
open PySem PySem.Spec PyProof.Rows L2 Ev
inductive Shape (O : Type) : Type where
  | ins (C : Str) (fs : List (Str × D O)) | exc (C : Str) (ds : List (D O)) | none
abbrev RelO (K : PySem.W.Frag) (O : Type) : Type := { R : Hp → Addr → O → Prop // ∀ H H' a o, Sim H H' → R H a o → R H' a o }
abbrev thR {K : PySem.W.Frag} {O : Type} (R : RelO K O) : Th K := ⟨O, R.1, fun S r => R.2 _ _ _ _ S r⟩
theorem RepF.sim {K : PySem.W.Frag} {T : Th K} {h h' : Hp} (S : Sim h h') {vs : List (Str × V)} {ds : List (Str × D T.O)} (r : RepF T h vs ds) : RepF T h' vs ds := Paired.mapP r fun a b q => ⟨q.1, q.2.sim S⟩
section
variable (K : PySem.W.Frag) {O : Type} (ef : Str → List Str) (sh : Addr → O → Shape O)
/-- an error that was caught and is kept -/
def ExAt {K : PySem.W.Frag} (T : Th K) (ef : Str → List Str) (H : Hp) (a : Addr) (C : Str) (ds : List (D T.O)) : Prop :=
  ∃ (d p : Addr) (vs : List V), H a = some (exk a (.ref (He.ga K C)) (some d)) ∧ H d = some (.xd (((ef C).zip vs).reverse ++ [(("told" : Str), V.ref p)])) ∧ RepL T H vs ds ∧ vs.length = (ef C).length
theorem ExAt.sim {K : PySem.W.Frag} {T : Th K} {ef : Str → List Str} {H H' : Hp} {a : Addr} {C : Str} {ds : List (D T.O)} (S : Sim H H') : ExAt T ef H a C ds → ExAt T ef H' a C ds
  | ⟨d, p, vs, e1, e2, r, l⟩ => ⟨d, p, vs, S.keep e1 rfl (fun _ _ z => nomatch z), S.keep e2 rfl (fun _ _ z => nomatch z), r.sim S, l⟩
def ShAt {K : PySem.W.Frag} (T : Th K) (ef : Str → List Str) (H : Hp) (a : Addr) : Shape T.O → Prop
  | .ins C fs => ∃ dx vs, H a = some (.ins (He.ga K C) dx vs) ∧ RepF T H vs fs
  | .exc C ds => ExAt T ef H a C ds
  | .none => False
theorem ShAt.sim {K : PySem.W.Frag} {T : Th K} {ef : Str → List Str} {H H' : Hp} {a : Addr} (S : Sim H H') : ∀ {s : Shape T.O}, ShAt T ef H a s → ShAt T ef H' a s
  | .ins C fs, ⟨dx, vs, e, q⟩ => ⟨dx, vs, S.keep e rfl (fun _ _ z => nomatch z), RepF.sim S q⟩
  | .exc C ds, h => ExAt.sim S h
  | .none, h => h
def RSs : Nat → RelO K O
  | 0 => ⟨fun _ _ _ => False, fun _ _ _ _ _ h => h⟩
  | n + 1 => ⟨fun H a o => ShAt (thR (RSs n)) ef H a (sh a o), fun _ _ _ _ S r => ShAt.sim S r⟩
mutual
theorem Rep.up {K : PySem.W.Frag} {O : Type} {R R' : RelO K O} (h : ∀ H a o, R.1 H a o → R'.1 H a o) {H : Hp} : ∀ {v : V} {d : D O}, Rep (thR R) H v d → Rep (thR R') H v d
  | _, _, .non => .non
  | _, _, .bl b => .bl b
  | _, _, .int i => .int i
  | _, _, .str s z => .str s z
  | _, _, .ty n => .ty n
  | _, _, .cls x => .cls x
  | _, _, .ptr a => .ptr a
  | _, _, .tup a b => .tup a (RepL.up h b)
  | _, _, .lst a b => .lst a (RepL.up h b)
  | _, _, .dic a b => .dic a (RepK.up h b)
  | _, _, .obj a => .obj (h _ _ _ a)
theorem RepL.up {K : PySem.W.Frag} {O : Type} {R R' : RelO K O} (h : ∀ H a o, R.1 H a o → R'.1 H a o) {H : Hp} : ∀ {vs : List V} {ds : List (D O)}, RepL (thR R) H vs ds → RepL (thR R') H vs ds
  | _, _, .nil => .nil
  | _, _, .cons a b => .cons (Rep.up h a) (RepL.up h b)
theorem RepK.up {K : PySem.W.Frag} {O : Type} {R R' : RelO K O} (h : ∀ H a o, R.1 H a o → R'.1 H a o) {H : Hp} : ∀ {vs : List (Key × V)} {ds : List (Key × D O)}, RepK (thR R) H vs ds → RepK (thR R') H vs ds
  | _, _, .nil => .nil
  | _, _, .cons a b => .cons (Rep.up h a) (RepK.up h b)
end
theorem RepF.up {K : PySem.W.Frag} {O : Type} {R R' : RelO K O} (h : ∀ H a o, R.1 H a o → R'.1 H a o) {H : Hp} {vs : List (Str × V)} {ds : List (Str × D O)} (r : RepF (thR R) H vs ds) : RepF (thR R') H vs ds := Paired.mapP r fun a b q => ⟨q.1, Rep.up h q.2⟩
theorem ShAt.up {K : PySem.W.Frag} {O : Type} {R R' : RelO K O} {ef : Str → List Str} (h : ∀ H a o, R.1 H a o → R'.1 H a o) {H : Hp} {a : Addr} : ∀ {s : Shape O}, ShAt (thR R) ef H a s → ShAt (thR R') ef H a s
  | .ins C fs, ⟨dx, vs, e, q⟩ => ⟨dx, vs, e, RepF.up h q⟩
  | .exc C ds, ⟨d, p, vs, e1, e2, r, l⟩ => ⟨d, p, vs, e1, e2, RepL.up h r, l⟩
  | .none, h => h
theorem RSs.step : ∀ (n : Nat) (H : Hp) (a : Addr) (o : O), (RSs K ef sh n).1 H a o → (RSs K ef sh (n + 1)).1 H a o
  | 0, H, a, o, h => h.elim
  | n + 1, H, a, o, h => ShAt.up (RSs.step n) h
theorem RSs.le {n m : Nat} (h : n ≤ m) : ∀ (H : Hp) (a : Addr) (o : O), (RSs K ef sh n).1 H a o → (RSs K ef sh m).1 H a o := by
  induction h with
  | refl => exact fun _ _ _ h => h
  | step _ ih => exact fun H a o h => RSs.step K ef sh _ H a o (ih H a o h)
def RSo : RelO K O := ⟨fun H a o => ∃ n, (RSs K ef sh n).1 H a o, fun H H' a o S ⟨n, r⟩ => ⟨n, (RSs K ef sh n).2 H H' a o S r⟩⟩
/-- the theory of all these -/
abbrev TS : Th K := thR (RSo K ef sh)
mutual
theorem Rep.fin {H : Hp} : ∀ {v : V} {d : D O}, Rep (TS K ef sh) H v d → ∃ n, Rep (thR (RSs K ef sh n)) H v d
  | _, _, .non => ⟨0, .non⟩
  | _, _, .bl b => ⟨0, .bl b⟩
  | _, _, .int i => ⟨0, .int i⟩
  | _, _, .str s z => ⟨0, .str s z⟩
  | _, _, .ty n => ⟨0, .ty n⟩
  | _, _, .cls x => ⟨0, .cls x⟩
  | _, _, .ptr a => ⟨0, .ptr a⟩
  | _, _, .tup a b => let ⟨n, h⟩ := RepL.fin b; ⟨n, .tup a h⟩
  | _, _, .lst a b => let ⟨n, h⟩ := RepL.fin b; ⟨n, .lst a h⟩
  | _, _, .dic a b => let ⟨n, h⟩ := RepK.fin b; ⟨n, .dic a h⟩
  | _, _, .obj ⟨n, h⟩ => ⟨n, .obj h⟩
theorem RepL.fin {H : Hp} : ∀ {vs : List V} {ds : List (D O)}, RepL (TS K ef sh) H vs ds → ∃ n, RepL (thR (RSs K ef sh n)) H vs ds
  | _, _, .nil => ⟨0, .nil⟩
  | _, _, .cons a b => let ⟨n, h⟩ := Rep.fin a; let ⟨m, g⟩ := RepL.fin b; ⟨max n m, .cons (Rep.up (RSs.le K ef sh (Nat.le_max_left n m)) h) (RepL.up (RSs.le K ef sh (Nat.le_max_right n m)) g)⟩
theorem RepK.fin {H : Hp} : ∀ {vs : List (Key × V)} {ds : List (Key × D O)}, RepK (TS K ef sh) H vs ds → ∃ n, RepK (thR (RSs K ef sh n)) H vs ds
  | _, _, .nil => ⟨0, .nil⟩
  | _, _, .cons a b => let ⟨n, h⟩ := Rep.fin a; let ⟨m, g⟩ := RepK.fin b; ⟨max n m, .cons (Rep.up (RSs.le K ef sh (Nat.le_max_left n m)) h) (RepK.up (RSs.le K ef sh (Nat.le_max_right n m)) g)⟩
end
theorem RepF.fin {H : Hp} : ∀ {vs : List (Str × V)} {ds : List (Str × D O)}, RepF (TS K ef sh) H vs ds → ∃ n, RepF (thR (RSs K ef sh n)) H vs ds
  | _, _, .nil => ⟨0, .nil⟩
  | _, _, .cons a b => let ⟨n, h⟩ := Rep.fin K ef sh a.2; let ⟨m, g⟩ := RepF.fin b; ⟨max n m, .cons ⟨a.1, Rep.up (RSs.le K ef sh (Nat.le_max_left n m)) h⟩ (RepF.up (RSs.le K ef sh (Nat.le_max_right n m)) g)⟩
theorem ShAt.fin {H : Hp} {a : Addr} : ∀ {s : Shape O}, ShAt (TS K ef sh) ef H a s → ∃ n, ShAt (thR (RSs K ef sh n)) ef H a s
  | .ins C fs, ⟨dx, vs, e, q⟩ => let ⟨n, h⟩ := RepF.fin K ef sh q; ⟨n, dx, vs, e, h⟩
  | .exc C ds, ⟨d, p, vs, e1, e2, r, l⟩ => let ⟨n, h⟩ := RepL.fin K ef sh r; ⟨n, d, p, vs, e1, e2, h, l⟩
  | .none, h => h.elim
/-- what an object is -/
theorem RSo_iff {H : Hp} {a : Addr} {o : O} : (RSo K ef sh).1 H a o ↔ ShAt (TS K ef sh) ef H a (sh a o) := by
  constructor
  · rintro ⟨n, h⟩
    cases n with
    | zero => exact h.elim
    | succ n => exact ShAt.up (R' := RSo K ef sh) (fun H a o h => ⟨n, h⟩) h
  · intro h
    obtain ⟨n, h⟩ := ShAt.fin K ef sh h
    exact ⟨n + 1, h⟩
end
/-! ### objects that are a class's name and fields, or a kept error -/
/-- of a base kind, or a class's name with its fields, or an error with its values -/
inductive Ob (O : Type) : Type where
  | base (o : O) | mk (C : Str) (fs : List (Str × D (Ob O))) | err (C : Str) (ds : List (D (Ob O)))
def shU {O : Type} (tb : List (Str × List Str)) (es : List Str) (sb : Addr → O → Shape (Ob O)) : Addr → Ob O → Shape (Ob O)
  | a, .base o => sb a o
  | _, .mk C fs => if (C, fs.map (·.1)) ∈ tb then .ins C fs else .none
  | _, .err C ds => if C ∈ es then .exc C ds else .none
def shE : Addr → Empty → Shape (Ob Empty) := fun _ o => nomatch o
theorem lookup_mem {α : Type} {f : Str} : ∀ {fs : List (Str × α)} {d : α}, fs.lookup f = some d → f ∈ fs.map (·.1)
  | (g, x) :: fs, d, e => by
    rw [List.lookup_cons] at e
    cases hb : f == g with
    | true => rw [List.map_cons, eq_of_beq hb]; exact List.mem_cons_self
    | false => rw [hb] at e; rw [List.map_cons]; exact List.mem_cons_of_mem _ (lookup_mem e)
theorem RepF.names {K : PySem.W.Frag} {T : Th K} {H : Hp} : ∀ {vs : List (Str × V)} {ds : List (Str × D T.O)}, RepF T H vs ds → vs.map (·.1) = ds.map (·.1)
  | _, _, .nil => rfl
  | _, _, .cons a b => by rw [List.map_cons, List.map_cons, a.1, RepF.names b]
mutual
def unptr {O : Type} (a : Addr) (o : O) : D O → D O
  | .ptr b => if b = a then .obj o else .ptr b
  | .tup xs => .tup (unptrL a o xs)
  | .lst xs => .lst (unptrL a o xs)
  | .dic kvs => .dic (unptrK a o kvs)
  | .non => .non
  | .bl b => .bl b
  | .int b => .int b
  | .str b => .str b
  | .ty b => .ty b
  | .cls b => .cls b
  | .obj b => .obj b
def unptrL {O : Type} (a : Addr) (o : O) : List (D O) → List (D O)
  | [] => []
  | x :: xs => unptr a o x :: unptrL a o xs
def unptrK {O : Type} (a : Addr) (o : O) : List (Key × D O) → List (Key × D O)
  | [] => []
  | (k, x) :: xs => (k, unptr a o x) :: unptrK a o xs
end
mutual
theorem Rep.unptr {K : PySem.W.Frag} {T : Th K} {H : Hp} {a : Addr} {o : T.O} (h : T.RO H a o) : ∀ {v : V} {d : D T.O}, Rep T H v d → Rep T H v (unptr a o d)
  | _, _, .non => .non
  | _, _, .bl b => .bl b
  | _, _, .int i => .int i
  | _, _, .str s z => .str s z
  | _, _, .ty n => .ty n
  | _, _, .cls x => .cls x
  | _, _, .ptr b => by
    by_cases e : b = a
    · subst e; unfold Dl.unptr; rw [if_pos rfl]; exact .obj h
    · unfold Dl.unptr; rw [if_neg e]; exact .ptr b
  | _, _, .tup a b => .tup a (RepL.unptr h b)
  | _, _, .lst a b => .lst a (RepL.unptr h b)
  | _, _, .dic a b => .dic a (RepK.unptr h b)
  | _, _, .obj a => .obj a
theorem RepL.unptr {K : PySem.W.Frag} {T : Th K} {H : Hp} {a : Addr} {o : T.O} (h : T.RO H a o) : ∀ {vs : List V} {ds : List (D T.O)}, RepL T H vs ds → RepL T H vs (unptrL a o ds)
  | _, _, .nil => .nil
  | _, _, .cons a b => .cons (Rep.unptr h a) (RepL.unptr h b)
theorem RepK.unptr {K : PySem.W.Frag} {T : Th K} {H : Hp} {a : Addr} {o : T.O} (h : T.RO H a o) : ∀ {vs : List (Key × V)} {ds : List (Key × D T.O)}, RepK T H vs ds → RepK T H vs (unptrK a o ds)
  | _, _, .nil => .nil
  | _, _, .cons a b => .cons (Rep.unptr h a) (RepK.unptr h b)
end
/-! ### fields of such objects -/
theorem zip_look {K : PySem.W.Frag} {T : Th K} {H : Hp} {f : Str} : ∀ {ns : List Str} {vs : List V} {ds : List (D T.O)} {d : D T.O}, RepL T H vs ds → (ns.zip ds).lookup f = some d → ∃ v, (ns.zip vs).lookup f = some v ∧ Rep T H v d
  | [], _, _, _, _, e => by cases e
  | n :: ns, _, _, _, .nil, e => by cases e
  | n :: ns, _, _, d, .cons a b, e => by
    rw [List.zip_cons_cons, List.lookup_cons] at e ⊢
    cases hb : f == n with
    | true => rw [hb] at e; cases e; exact ⟨_, rfl, a⟩
    | false => rw [hb] at e; exact zip_look b e
theorem lookup_app {α : Type} {f : Str} {v : α} : ∀ {l m : List (Str × α)}, l.lookup f = some v → (l ++ m).lookup f = some v
  | (g, x) :: l, m, e => by
    rw [List.cons_append, List.lookup_cons]
    rw [List.lookup_cons] at e
    cases hb : f == g with
    | true => rw [hb] at e; exact e
    | false => rw [hb] at e; exact lookup_app e
theorem lookup_rev {α : Type} {f : Str} {v : α} : ∀ {l : List (Str × α)}, (l.map (·.1)).Nodup → l.lookup f = some v → l.reverse.lookup f = some v
  | (g, x) :: l, nd, e => by
    rw [List.map_cons, List.nodup_cons] at nd
    rw [List.reverse_cons]
    rw [List.lookup_cons] at e
    cases hb : f == g with
    | true =>
      rw [hb] at e; cases e
      have no : l.reverse.lookup f = none := by
        cases q : l.reverse.lookup f with
        | none => rfl
        | some y =>
          have := lookup_mem q
          rw [List.map_reverse, List.mem_reverse, eq_of_beq hb] at this
          exact absurd this nd.1
      have : ∀ {m n : List (Str × α)}, m.lookup f = none → (m ++ n).lookup f = n.lookup f := by
        intro m n h
        induction m with
        | nil => rfl
        | cons y m ih =>
          rw [List.cons_append, List.lookup_cons]
          rw [List.lookup_cons] at h
          cases hc : f == y.1 with
          | true => rw [hc] at h; cases h
          | false => rw [hc] at h; exact ih h
      rw [this no, List.lookup_cons, hb]
    | false => rw [hb] at e; exact lookup_app (lookup_rev nd.2 e)
theorem zip_names {α : Type} : ∀ {ns : List Str} {vs : List α}, vs.length = ns.length → (ns.zip vs).map (·.1) = ns
  | [], [], _ => rfl
  | n :: ns, v :: vs, h => by rw [List.zip_cons_cons, List.map_cons, zip_names (Nat.succ.inj h)]
structure ClsT (K : PySem.W.Frag) (tb : List (Str × List Str)) : Prop where
  cls : ∀ q ∈ tb, Cls K (He.ga K q.1)
  noat : ∀ q ∈ tb, ∀ f ∈ q.2, NoAttr K (He.ga K q.1) f
structure ExsT (K : PySem.W.Frag) (ef : Str → List Str) (es : List Str) : Prop where
  ec : ∀ C ∈ es, ExcC K (He.ga K C)
  no : ∀ C ∈ es, ∀ f ∈ ef C, PySem.W.findIn K (.ref (He.ga K C)) f = some none
  nd : ∀ C ∈ es, (ef C).Nodup
theorem attrS {K : PySem.W.Frag} {O : Type} {ef : Str → List Str} {sh : Addr → O → Shape O} {tb : List (Str × List Str)} {es : List Str} {attr : O → Str → Option (D O)} (ct : ClsT K tb) (et : ExsT K ef es)
    (h : ∀ a o f d, attr o f = some d → match sh a o with
      | .ins C fs => (C, fs.map (·.1)) ∈ tb ∧ ∃ d0, fs.lookup f = some d0 ∧ (d = d0 ∨ d = unptr a o d0)
      | .exc C ds => C ∈ es ∧ ((ef C).zip ds).lookup f = some d
      | .none => True) : AttrT (TS K ef sh) attr := ⟨fun H a o f d r e => by
  have r0 := r
  have r := (RSo_iff K ef sh).mp r
  have h := h a o f d e
  cases es : sh a o with
  | none => rw [es] at r; exact r.elim
  | ins C fs =>
    rw [es] at r h
    obtain ⟨m, d0, l, ed⟩ := h
    obtain ⟨dx, vs, e1, e2⟩ := r
    obtain ⟨v, e3, e4⟩ := e2.look l
    refine .inl ⟨_, dx, vs, v, e1, ct.cls _ m, ct.noat _ m f (lookup_mem l), e3, ?_⟩
    rcases ed with rfl | rfl
    · exact e4
    · exact Rep.unptr r0 e4
  | exc C ds =>
    rw [es] at r h
    obtain ⟨m, l⟩ := h
    obtain ⟨dd, p, vs, e1, e2, rl, ln⟩ := r
    obtain ⟨v, e3, e4⟩ := zip_look rl l
    refine .inr ⟨_, dd, _, v, et.ec C m, et.no C m f ?_, e1, e2, lookup_app (lookup_rev (by rw [zip_names ln]; exact et.nd C m) e3), e4⟩
    have := lookup_mem e3
    rw [zip_names ln] at this
    exact this⟩
end Dl
set_option Elab.async false
set_option linter.all false
set_option maxRecDepth 100000
set_option maxHeartbeats 1000000
/-! From a body's reading to its def's promise. -/
namespace Dl
open PySem PySem.Spec PyProof.Rows L2 Ev
section
variable {P : Program} {w : World} {K : PySem.W.Frag} {mg : Str → Option Value} {base : Heap} {N ps : List Str} {x qual : Str} {params : Arguments} {scope : Scope} {dvs : List V} {kws : List (Str × V)} {f : Addr} {fd : FuncData}
  {T : Th K} {ef : Str → List Str} {body : List Stmt} {k : Nat}
/-- a reading of a body, in each context of the def -/
abbrev Der (P : Program) (w : World) (K : PySem.W.Frag) (mg : Str → Option Value) (base : Heap) (N : List Str) (qual : Str) (scope : Scope) (f : Addr) (k : Nat) {T : Th K} (ef : Str → List Str) (body : List Stmt) (t : Xd T → TDS T) : Prop :=
  ∀ (cdv : Value) (A : Around) (outer : List Env) (s : Shared) (H : Hp) (E : XK), Room k (A.deeper (envOfC qual scope s.heap.objs.size f cdv)) →
    ∀ (B : Ba) (xd : Xd T), XP (cxR P w K mg base N qual scope f cdv A outer s H E) (T := T) ef B xd → PDSs B (cxR P w K mg base N qual scope f cdv A outer s H E) (T := T) body (t xd)
/-- .. where no repr is under way -/
abbrev DerG (P : Program) (w : World) (K : PySem.W.Frag) (mg : Str → Option Value) (base : Heap) (N : List Str) (qual : Str) (scope : Scope) (f : Addr) (k : Nat) {T : Th K} (ef : Str → List Str) (body : List Stmt) (t : Xd T → TDS T) : Prop :=
  ∀ (cdv : Value) (A : Around) (outer : List Env) (s : Shared) (H : Hp) (E : XK), A.guards = some [] → Room k (A.deeper (envOfC qual scope s.heap.objs.size f cdv)) →
    ∀ (B : Ba) (xd : Xd T), XP (cxR P w K mg base N qual scope f cdv A outer s H E) (T := T) ef B xd → PDSs B (cxR P w K mg base N qual scope f cdv A outer s H E) (T := T) body (t xd)
theorem Der.g {t : Xd T → TDS T} (d : Der P w K mg base N qual scope f k ef body t) : DerG P w K mg base N qual scope f k ef body t := fun cdv A outer s H E _ => d cdv A outer s H E
theorem okP {sd : SpP T} {t : Xd T → TDS T} (F : FunD K x qual params body scope dvs kws f fd) (S : FnScope N ps scope) (der : Der P w K mg base N qual scope f k ef body t)
    (ar : ∀ ds q x, sd ds q x → ds.length = ps.length) (hs : ∀ ds q x, sd ds q x → t x (enP q) (startG N (ds.map .dat)) []) : FnOk P w K mg base (L2.CX P w) (k + 1) f fd ps (spP T ef sd) :=
  F.ok S (fun vs H Q E ⟨Z, ds, q, x, _, rl, h, _⟩ => rl.len.trans (ar ds q x h)) fun cdv A outer s H vs Q E hr h =>
    body_P (fun B xd XX => der cdv A outer s H E hr B xd XX) hs h
theorem okO {sd : SpO T} {t : Xd T → TDS T} (F : FunD K x qual params body scope dvs kws f fd) (S : FnScope N ps scope) (der : Der P w K mg base N qual scope f k ef body t)
    (ar : ∀ c ds q x, sd c ds q x → ds.length + 1 = ps.length) (hs : ∀ c ds q x, sd c ds q x → t x (enO q) (startG N (.own 0 :: ds.map .dat)) [c]) : FnOk P w K mg base (L2.CX P w) (k + 1) f fd ps (spO T ef sd) :=
  F.ok S (fun vs H Q E ⟨Z, p, c, us, ds, q, x, _, _, e, _, rl, h, _⟩ => by rw [e, List.length_cons, rl.len]; exact ar c ds q x h) fun cdv A outer s H vs Q E hr h =>
    body_O (fun B xd XX => der cdv A outer s H E hr B xd XX) hs h
/-! ### where no repr is under way -/
abbrev Bnd (x qual : Str) (params : Arguments) (body : List Stmt) (scope : Scope) (ps : List Str) : Prop := ∀ (kV doc pm : Value) (an : Option Addr) (cdv ct : Value) (us : List Value), us.length = ps.length →
      bindArgs (PySem.W.fnOf x qual params body scope .none kV doc pm an cdv ct) ⟨us, []⟩ = pure (ps.zip us)
theorem okPG {sd : SpP T} {t : Xd T → TDS T} (F : FunD K x qual params body scope [] [] f fd) (S : FnScope N ps scope) (hb : Bnd x qual params body scope ps) (der : DerG P w K mg base N qual scope f k ef body t)
    (ar : ∀ ds q x, sd ds q x → ds.length = ps.length) (hs : ∀ ds q x, sd ds q x → t x (enP q) (startG N (ds.map .dat)) []) : FnG P w K mg base (L2.CX P w) (k + 1) f (spP T ef sd) :=
  okG F S hb (fun vs H Q E ⟨Z, ds, q, x, _, rl, h, _⟩ => rl.len.trans (ar ds q x h)) fun cdv A outer s H vs Q E hg hr h =>
    body_P (fun B xd XX => der cdv A outer s H E hg hr B xd XX) hs h
theorem okOG {sd : SpO T} {t : Xd T → TDS T} (F : FunD K x qual params body scope [] [] f fd) (S : FnScope N ps scope) (hb : Bnd x qual params body scope ps) (der : DerG P w K mg base N qual scope f k ef body t)
    (ar : ∀ c ds q x, sd c ds q x → ds.length + 1 = ps.length) (hs : ∀ c ds q x, sd c ds q x → t x (enO q) (startG N (.own 0 :: ds.map .dat)) [c]) : FnG P w K mg base (L2.CX P w) (k + 1) f (spO T ef sd) :=
  okG F S hb (fun vs H Q E ⟨Z, p, c, us, ds, q, x, _, _, e, _, rl, h, _⟩ => by rw [e, List.length_cons, rl.len]; exact ar c ds q x h) fun cdv A outer s H vs Q E hg hr h =>
    body_O (fun B xd XX => der cdv A outer s H E hg hr B xd XX) hs h
/-! ### a class's __init__ -/
def onIns (C : Str) (c : Cell T.O) (k : List (Str × D T.O) → Prop) : Prop := match c with
  | .ins C' fs => C' = C ∧ k fs
  | _ => False
theorem onIns_of {C : Str} {c : Cell T.O} {k : List (Str × D T.O) → Prop} (h : onIns C c k) : ∃ fs, c = .ins C fs ∧ k fs := by
  cases c with
  | ins C' fs => obtain ⟨rfl, h⟩ := h; exact ⟨fs, rfl, h⟩
  | _ => exact h.elim
/-- fields that make an object -/
structure MkO (T : Th K) (C : Str) (mk : Addr → List (Str × D T.O) → T.O → Prop) : Prop where
  ok : ∀ h a dx vs fs o, h a = some (.ins (He.ga K C) dx vs) → RepF T h vs fs → mk a fs o → T.RO h a o
theorem spN_O {C : Str} {sd : SpN T} {mk : Addr → List (Str × D T.O) → T.O → Prop} (M : MkO T C mk) {vs : List V} {H : Hp} {Q : VK} {E : XK} (h : spN T ef C sd vs H Q E) :
    spOA T ef (fun a c ds q x => ∃ qo, sd ds qo x ∧ c = .ins C [] ∧ ∀ d c', (d = .non ∧ onIns C c' fun fs => ∃ o, mk a fs o ∧ qo o) → q d c') vs H Q E := by
  obtain ⟨Z, a, dx, us, ds, q, x, rfl, ha, hdx, ne, na, lv, rl, h, hq, hx⟩ := h
  have ez : ∀ H', hid (Z ++ [a]) H' = hid (a :: Z) H' := fun H' => hid_congr fun b => by simp [or_comm]
  refine ⟨Z, a, .ins C [], us, ds, fun d c' => d = .non ∧ onIns C c' fun fs => ∃ o, mk a fs o ∧ q o, x, fun p hp => ?_, na, rfl, ⟨dx, [], ha, .nil⟩, by rw [ez]; exact rl, ⟨q, h, rfl, fun d c' z => z⟩, fun d c' ⟨e1, e2⟩ v H' S ce r => ?_, fun y es hy cls dx H' S ex => hx y es hy cls dx H' S ex⟩
  · rcases List.mem_append.mp hp with z | z
    · exact lv p z
    · rw [List.mem_singleton.mp z, ha]; trivial
  · obtain ⟨fs, rfl, o, m, ho⟩ := onIns_of e2
    subst e1
    cases r
    obtain ⟨dx', vs', e3, e4⟩ := ce
    refine hq o ho H' S (M.ok _ a dx' vs' fs o (by rw [hid_out na]; exact e3) (e4.mono ?_) m)
    exact hid_same (same_refl _) fun b z => .inl (List.mem_append_left _ z)
/-- .. by its body, the object's address told -/
theorem okNA {C : Str} {sd : SpN T} {mk : Addr → List (Str × D T.O) → T.O → Prop} {t : Addr → Xd T → TDS T} (M : MkO T C mk) (F : FunD K x qual params body scope dvs kws f fd) (S : FnScope N ps scope)
    (der : ∀ (cdv : Value) (A : Around) (outer : List Env) (s : Shared) (H : Hp) (E : XK), Room k (A.deeper (envOfC qual scope s.heap.objs.size f cdv)) →
      ∀ (B : Ba) (p : Addr) (xd : Xd T), B.as0 = [some p] → XP (cxR P w K mg base N qual scope f cdv A outer s H E) (T := T) ef B xd → PDSs B (cxR P w K mg base N qual scope f cdv A outer s H E) (T := T) body (t p xd))
    (ar : ∀ ds q x, sd ds q x → ds.length + 1 = ps.length)
    (hs : ∀ a ds q x, sd ds q x → t a x (enO fun d c => d = .non ∧ onIns C c fun fs => ∃ o, mk a fs o ∧ q o) (startG N (.own 0 :: ds.map .dat)) [.ins C []]) : FnOk P w K mg base (L2.CX P w) (k + 1) f fd ps (spN T ef C sd) :=
  F.ok S (fun vs H Q E ⟨Z, a, dx, us, ds, q, x, e, _, _, _, _, _, rl, h, _⟩ => by rw [e, List.length_cons, rl.len]; exact ar ds q x h) fun cdv A outer s H vs Q E hr h => by
    have h := spN_O M h
    obtain ⟨Z, p, c, us, ds, q, x, lv, np, e, ce, rl, ⟨qo, h1, h2, h3⟩, hq, hx⟩ := h
    refine body_OA (sd := fun a c ds q x => c = .ins C [] ∧ ∃ qo, sd ds qo x ∧ q = fun d c => d = .non ∧ onIns C c fun fs => ∃ o, mk a fs o ∧ qo o) (fun B p xd hB XX => der cdv A outer s H E hr B p xd hB XX) (fun a c ds q x ⟨e1, qo, e2, e3⟩ => ?_)
      ⟨Z, p, c, us, ds, fun d c => d = .non ∧ onIns C c fun fs => ∃ o, mk p fs o ∧ qo o, x, lv, np, e, ce, rl, ⟨h2, qo, h1, rfl⟩, fun d c' z => hq d c' (h3 d c' z), hx⟩
    rw [e1, e3]
    exact hs a ds qo x e2
theorem okN {C : Str} {sd : SpN T} {mk : Addr → List (Str × D T.O) → T.O → Prop} {t : Xd T → TDS T} (M : MkO T C mk) (F : FunD K x qual params body scope dvs kws f fd) (S : FnScope N ps scope) (der : Der P w K mg base N qual scope f k ef body t)
    (ar : ∀ ds q x, sd ds q x → ds.length + 1 = ps.length)
    (hs : ∀ a ds q x, sd ds q x → t x (enO fun d c => d = .non ∧ onIns C c fun fs => ∃ o, mk a fs o ∧ q o) (startG N (.own 0 :: ds.map .dat)) [.ins C []]) : FnOk P w K mg base (L2.CX P w) (k + 1) f fd ps (spN T ef C sd) :=
  okNA (t := fun _ => t) M F S (fun cdv A outer s H E hr B _ xd _ XX => der cdv A outer s H E hr B xd XX) ar hs
/-- an object by its shape -/
theorem mkS (K : PySem.W.Frag) {O : Type} (ef : Str → List Str) (sh : Addr → O → Shape O) (C : Str) : MkO (TS K ef sh) C (fun a fs o => sh a o = .ins C fs) := ⟨fun h a dx vs fs o e r m => (RSo_iff K ef sh).mpr (by rw [m]; exact ⟨dx, vs, e, r⟩)⟩
end
end Dl
set_option Elab.async false
set_option linter.all false
set_option maxRecDepth 100000
set_option maxHeartbeats 1000000
/-! Operators that look at what they meet. -/
namespace Dl
open PySem PySem.Spec PyProof.Rows L2 Ev
section
variable {X : Cx} {T : Th X.K} {B : Ba} {e a b c : Expr} {pos : Pos}
def rAdd {K : PySem.W.Frag} {T : Th K} : ROp T := fun dx dy k => match dx, dy with
  | .int i, .int j => k (.int (i + j))
  | .str i, .str j => i.length + j.length ≤ sizeLine ∧ k (.str (i ++ j))
  | .lst i, .lst j => i.length + j.length ≤ sizeLine ∧ k (.lst (i ++ j))
  | .tup i, .tup j => i ≠ [] ∧ i.length + j.length ≤ sizeLine ∧ k (.tup (i ++ j))
  | _, _ => False
theorem od_add : OpD T (binaryOp .Add) rAdd := OpD.imp (od_addI.or (od_addS.or (od_addL.or od_addT))) fun dx dy k h => by
  cases dx <;> cases dy <;> first
    | exact h.elim
    | exact .inl h
    | exact .inr (.inl h)
    | exact .inr (.inr (.inl h))
    | exact .inr (.inr (.inr h))
def rMul {K : PySem.W.Frag} {T : Th K} : ROp T := fun dx dy k => match dx, dy with
  | .int i, .int j => CMul i j ∧ k (.int (i * j))
  | .lst i, .int j => (-(2 ^ 63) ≤ j ∧ j < 2 ^ 63 ∧ i.length * j.toNat ≤ sizeLine) ∧ k (.lst (List.replicate j.toNat i).flatten)
  | _, _ => False
theorem od_mulA : OpD T (binaryOp .Mult) rMul := OpD.imp (od_mul.or od_mulL) fun dx dy k h => by
  cases dx <;> cases dy <;> first
    | exact h.elim
    | exact .inl h
    | exact .inr h
def rLt {K : PySem.W.Frag} {T : Th K} : ROp T := fun dx dy k => match dx, dy with
  | .int i, .int j => k (.bl (decide (i < j)))
  | .str i, .str j => k (.bl (decide (i.cps.toList < j.cps.toList)))
  | _, _ => False
theorem od_ltA : OpD T (compareOp .Lt) rLt := OpD.imp (od_lt.or od_ltS) fun dx dy k h => by
  cases dx <;> cases dy <;> first
    | exact h.elim
    | exact .inl h
    | exact .inr h
def rSub {K : PySem.W.Frag} {T : Th K} : ROp T := dI0 fun i j => .int (i - j)
def rMod {K : PySem.W.Frag} {T : Th K} : ROp T := dI (fun _ j => 0 < j) fun i j => .int (i % j)
def rFdiv {K : PySem.W.Frag} {T : Th K} : ROp T := dI CDiv fun i j => .int (i / j)
def rPow {K : PySem.W.Frag} {T : Th K} : ROp T := dI CPow fun i j => .int (i ^ j.toNat)
def rLe {K : PySem.W.Frag} {T : Th K} : ROp T := dI0 fun i j => .bl (decide (i ≤ j))
def rGt {K : PySem.W.Frag} {T : Th K} : ROp T := dI0 fun i j => .bl (decide (j < i))
def rGe {K : PySem.W.Frag} {T : Th K} : ROp T := dI0 fun i j => .bl (decide (j ≤ i))
/-- == of flat things and of data -/
def rEqA {K : PySem.W.Frag} {T : Th K} : ROp T := fun dx dy k => match flatE dx dy with
  | some b => k (.bl b)
  | none => rEqP dx dy k
def rNeA {K : PySem.W.Frag} {T : Th K} : ROp T := fun dx dy k => match flatE dx dy with
  | some b => k (.bl (!b))
  | none => rNeP dx dy k
theorem od_eqA (hu : X.A.units + 64 < cLine) : OpD T (compareOp .Eq) rEqA := OpD.imp (od_eqF.or (od_eqP hu)) fun dx dy k h => by
  unfold rEqA at h
  cases q : flatE dx dy with
  | none => rw [q] at h; exact .inr h
  | some b => rw [q] at h; refine .inl ?_; unfold rEqF; rw [q]; exact h
theorem od_neA (hu : X.A.units + 64 < cLine) : OpD T (compareOp .NotEq) rNeA := OpD.imp (od_neF.or (od_neP hu)) fun dx dy k h => by
  unfold rNeA at h
  cases q : flatE dx dy with
  | none => rw [q] at h; exact .inr h
  | some b => rw [q] at h; refine .inl ?_; unfold rNeF; rw [q]; exact h
/-- in: a list, a tuple of flat things; a sign in a text -/
def rInA {K : PySem.W.Frag} {T : Th K} : ROp T := fun dx dy k => match dy with
  | .str z => rInS dx (.str z) k
  | d => rInL false dx d k
def rNotInA {K : PySem.W.Frag} {T : Th K} : ROp T := fun dx dy k => rInL true dx dy k
theorem od_inA : OpD T (compareOp .In) rInA := OpD.imp (od_inL.or od_inS) fun dx dy k h => by
  cases dy <;> first
    | exact .inl h
    | exact .inr h
/-! ### minus -/
def dNeg {K : PySem.W.Frag} {T : Th K} (t : TDE T) : TDE T := fun g cs Q => t g cs fun s cs1 => match s with
  | .dat (.int i) => Q (.dat (.int (-i))) cs1
  | _ => False
theorem pd_neg {t : TDE T} (h : PD B X e t) : PD B X (.UnaryOp .USub e pos) (dNeg t) :=
  PE.imp (pe_un un_neg h) fun σ H Q ⟨g, as, cs, q, st, h, k⟩ => ⟨g, as, cs, _, st, h, fun s cs1 h1 v as1 H1 x1 r1 => by
    cases s with
    | own i => exact h1.elim
    | dat d =>
      cases d with
      | int i => cases r1; exact ⟨i, rfl, k _ _ h1 _ _ _ x1 (.int _)⟩
      | _ => exact h1.elim⟩
/-! ### all, any -/
def blsL {O : Type} : List (D O) → Option (List Bool)
  | [] => some []
  | .bl s :: r => (blsL r).map (s :: ·)
  | _ :: _ => none
theorem blsL_ok {K : PySem.W.Frag} {T : Th K} {h : Hp} : ∀ {vs : List V} {ds : List (D T.O)} {ss : List Bool}, RepL T h vs ds → blsL ds = some ss → vs = ss.map V.bl
  | _, [], _, .nil, e => by cases e; rfl
  | _, d :: ds, _, .cons a b, e => by
    cases d with
    | bl s =>
      have e : (blsL ds).map (s :: ·) = some _ := e
      cases q : blsL ds with
      | none => rw [q] at e; cases e
      | some r =>
        rw [q] at e
        cases e
        cases a
        rw [blsL_ok b q]; rfl
    | _ => cases e
def onBls {K : PySem.W.Frag} {T : Th K} (d : D T.O) (k : List Bool → Prop) : Prop := match d with
  | .lst ds => match blsL ds with
    | some ss => k ss
    | none => False
  | _ => False
theorem onBls_of {h H : Hp} (S : Same h H) {v : V} {d : D T.O} {k : List Bool → Prop} (r : TRep T h H v d) (q : onBls d k) : ∃ p ss, v = .ref p ∧ SqL X.K H p (ss.map V.bl) ∧ k ss := by
  cases d <;> try exact q.elim
  rename_i ds
  have q : (match blsL ds with
    | some ss => k ss
    | none => False) := q
  cases e : blsL ds with
  | none => rw [e] at q; exact q.elim
  | some ss =>
    rw [e] at q
    obtain ⟨a, vs, rfl, h1, h2⟩ := r.of_lst S
    rw [blsL_ok h2 e] at h1
    exact ⟨a, ss, rfl, SqL.of h1, q⟩
def fAll {K : PySem.W.Frag} {T : Th K} : D T.O → (D T.O → Prop) → Prop := fun d k => onBls d fun ns => k (.bl (ns.all id))
def fAny {K : PySem.W.Frag} {T : Th K} : D T.O → (D T.O → Prop) → Prop := fun d k => onBls d fun ns => k (.bl (ns.any id))
theorem cd_all (hc : X.calm = true) : CallD T (.builtin "all") (r1 fAll) := CallR.imp (cr_all hc) fun xs H Q ⟨Z, ds, q, l, rl, hr, k⟩ => by
  obtain ⟨d, rfl, hr⟩ := r1_of hr
  obtain ⟨v, rfl, rv⟩ := trepl1 rl
  obtain ⟨p, ns, rfl, hp, hr⟩ := onBls_of hid_sub rv hr
  exact ⟨p, ns, rfl, hp, k _ hr _ _ (same_refl _) (.bl _)⟩
theorem cd_any (hc : X.calm = true) : CallD T (.builtin "any") (r1 fAny) := CallR.imp (cr_any hc) fun xs H Q ⟨Z, ds, q, l, rl, hr, k⟩ => by
  obtain ⟨d, rfl, hr⟩ := r1_of hr
  obtain ⟨v, rfl, rv⟩ := trepl1 rl
  obtain ⟨p, ns, rfl, hp, hr⟩ := onBls_of hid_sub rv hr
  exact ⟨p, ns, rfl, hp, k _ hr _ _ (same_refl _) (.bl _)⟩
/-! ### str of flat things -/
def fStr {K : PySem.W.Frag} {T : Th K} : D T.O → (D T.O → Prop) → Prop := fun d k => match d with
  | .int i => i.natAbs.log2 < 1920 ∧ (toString i : Str).length ≤ sizeLine ∧ k (.str (toString i))
  | .str s => k (.str s)
  | _ => False
theorem CallD.or {f : Value} {r1 r2 : RCall T} (h1 : CallD T f r1) (h2 : CallD T f r2) : CallD T f (fun ds k => r1 ds k ∨ r2 ds k) := fun pins s σ H xs us Q I ru ⟨Z, ds, q, l, rl, e, k⟩ => by
  rcases e with e | e
  · exact h1 pins s σ H xs us Q I ru ⟨Z, ds, q, l, rl, e, k⟩
  · exact h2 pins s σ H xs us Q I ru ⟨Z, ds, q, l, rl, e, k⟩
theorem CallD.imp {f : Value} {r r' : RCall T} (h : CallD T f r) (i : ∀ ds k, r' ds k → r ds k) : CallD T f r' := fun pins s σ H xs us Q I ru ⟨Z, ds, q, l, rl, e, k⟩ => h pins s σ H xs us Q I ru ⟨Z, ds, q, l, rl, i _ _ e, k⟩
theorem cd_str : CallD T (.type "str") (r1 fStr) := CallD.imp (cd_strI.or cd_strS) fun ds k h => by
  obtain ⟨d, rfl, h⟩ := r1_of h
  cases d <;> first
    | exact h.elim
    | exact .inl h
    | exact .inr h
/-! ### text.split(sep) -/
variable {o : Expr}
theorem rep_strs {K : PySem.W.Frag} {T : Th K} {h : Hp} {ys : List Str} (hz : ∀ y ∈ ys, y.length ≤ sizeLine) : RepL T h (ys.map V.str) (ys.map D.str) := repl_strs hz
def onStr {K : PySem.W.Frag} {T : Th K} (s : Sl T.O) (k : Str → Prop) : Prop := match s with
  | .dat (.str a) => k a
  | _ => False
theorem onStr_of {s : Sl T.O} {k : Str → Prop} (h : onStr s k) : ∃ a, s = .dat (.str a) ∧ k a := by
  cases s with
  | own i => exact h.elim
  | dat d => cases d <;> first | exact h.elim | exact ⟨_, rfl, h⟩
def onInt {K : PySem.W.Frag} {T : Th K} (s : Sl T.O) (k : Int → Prop) : Prop := match s with
  | .dat (.int a) => k a
  | _ => False
theorem onInt_of {s : Sl T.O} {k : Int → Prop} (h : onInt s k) : ∃ a, s = .dat (.int a) ∧ k a := by
  cases s with
  | own i => exact h.elim
  | dat d => cases d <;> first | exact h.elim | exact ⟨_, rfl, h⟩
def dSplit {K : PySem.W.Frag} {T : Th K} (to te : TDE T) : TDE T := fun g cs Q => to g cs fun s cs1 => onStr s fun a => te g cs1 fun u cs2 => onStr u fun b =>
  (b.length == 0) = false ∧ a.length + 2 ≤ sizeLine ∧ (∀ y ∈ Txt.split a b, y.length ≤ sizeLine) ∧ Q (.dat (.lst ((Txt.split a b).map .str))) cs2
theorem pd_split {apos : Pos} {to te : TDE T} (ho : PD B X o to) (he : PD B X e te) (hs : starEach [e] X.env = [(false, eval e X.env)] := by rfl) (hbase : attributeBase o "split" X.env (eval o X.env) = eval o X.env := by rfl) (hline : (apos.endLine == pos.line) = true := by rfl) :
    PD B X (.Call (.Attribute o "split" apos) [e] [] pos) (dSplit to te) :=
  PE.imp (pe_split ho he hs hbase hline) fun σ H Q ⟨g, as, cs, q, st, h, k⟩ => ⟨g, as, cs, _, st, h, fun s cs1 h1 v as1 H1 x1 r1 => by
    obtain ⟨a, es, h2⟩ := onStr_of h1
    subst es
    cases r1
    refine ⟨⟨a, rfl⟩, g, as1, cs1, _, st.step x1, h2, fun u cs2 h3 w as2 H2 x2 r2 => ?_⟩
    obtain ⟨b, eu, h4, h5, h6, h7⟩ := onStr_of h3
    subst eu
    cases r2
    exact ⟨a, b, rfl, rfl, h4, h5, fun p hp => k _ _ h7 _ _ _ (x1.trans (ext_grow (g := g) (σ := σ) (cs := cs1) x2 (upd_sub hp))) (new_lst x2.c.live hp (repl_strs h6))⟩⟩
/-! ### two tests of things in a loop: walking what one has at hand -/
def dItA {K : PySem.W.Frag} {T : Th K} (t : TDE T) : TDI T := fun g cs Q => t g cs fun s cs1 => match s with
  | .dat (.lst ds) => Q ds cs1
  | .dat (.tup ds) => Q ds cs1
  | _ => False
/-- a list of one's own is walked as a thing given away -/
def dItO {K : PySem.W.Frag} {T : Th K} (t : TDE T) : TDI T := dItL (dFrz t)
end
end Dl
set_option Elab.async false
set_option linter.all false
set_option maxRecDepth 100000
set_option maxHeartbeats 1000000
/-! Parts as trees. -/
namespace Dl
open PySem PySem.Spec PyProof.Rows L2 Ev
mutual
inductive Pt where
  | byte | kind (s : Str) (t : Nat) | use (s : Str) | row (p : Pt) (n : Nat) | grp (ov : Bool) (ps : Pts)
inductive Pts where
  | nil | cons (s : Str) (p : Pt) (r : Pts)
end
mutual
def Pt.dep : Pt → Nat
  | .row p _ => p.dep + 1
  | .grp _ ps => ps.dep
  | .byte => 0
  | .kind _ _ => 0
  | .use _ => 0
/-- the greatest depth and one -/
def Pts.dep : Pts → Nat
  | .nil => 0
  | .cons _ p r => max (p.dep + 1) r.dep
end
def Pts.len : Pts → Nat
  | .nil => 0
  | .cons _ _ r => r.len + 1
def Pts.nms : Pts → List Str
  | .nil => []
  | .cons s _ r => s :: r.nms
def Pts.get : Pts → Str → Option Pt
  | .nil, _ => none
  | .cons s p r, x => if s = x then some p else r.get x
def lettersS : Str := "abcdefghijklmnopqrstuvwxyz"
def barredS : List Str := ["byte", "size", "align", "place", "end", "packed", "and", "or", "not", "yes", "no", "for", "nogap", "notail", "leaf"]
/-- a name -/
def nmS (s : Str) : Bool := !decide (s ∈ barredS) && (decide (1 ≤ s.length) && (decide (s.length ≤ 8) && s.cps.toList.all fun c => decide (c ∈ lettersS.cps.toList)))
mutual
def Pt.wf : Pt → Bool
  | .byte => true
  | .kind s t => nmS s && (decide (1 ≤ t) && decide (t ≤ 8))
  | .use s => nmS s
  | .row p n => p.wf && (decide (1 ≤ n) && (decide (n ≤ 64) && decide (p.dep + 1 ≤ 4)))
  | .grp ov ps => ps.wf && (decide (1 ≤ ps.len) && (decide (ps.len ≤ if ov then 4 else 8) && (decide ps.nms.Nodup && decide (ps.dep ≤ 4))))
def Pts.wf : Pts → Bool
  | .nil => true
  | .cons s p r => nmS s && (p.wf && r.wf)
end
def Pt.cn : Pt → Str
  | .byte => "Byte"
  | .kind _ _ => "Kind"
  | .use _ => "Use"
  | .row _ _ => "Row"
  | .grp ov _ => if ov then "Overlay" else "Record"
def intS (i : Int) : Str := toString i
/-! ### texts -/
mutual
def Pt.tx : Pt → Str
  | .byte => "byte"
  | .kind s _ => s
  | .use s => "@" ++ s
  | .row p n => intS n ++ ("*" ++ p.tx)
  | .grp false ps => "{" ++ (Txt.join " " ps.txs ++ "}")
  | .grp true ps => "(" ++ (Txt.join "|" ps.txs ++ ")")
def Pts.txs : Pts → List Str
  | .nil => []
  | .cons s p r => (s ++ (":" ++ p.tx)) :: r.txs
end
/-! ### weights -/
mutual
def Pt.wt : Pt → Nat
  | .byte => 1
  | .kind _ t => t
  | .use _ => 1
  | .row p n => n * p.wt
  | .grp false ps => ps.wtS
  | .grp true ps => ps.wtM + 1
def Pts.wtS : Pts → Nat
  | .nil => 0
  | .cons _ p r => (p.wt + 1) + r.wtS
def Pts.wtM : Pts → Nat
  | .nil => 0
  | .cons _ p r => max p.wt r.wtM
end
/-! ### leaves -/
mutual
def Pt.ends : Pt → List (Key × Pt)
  | .byte => []
  | .kind s t => [(.inr (s ++ (" " ++ intS t)), .kind s t)]
  | .use s => [(.inr ("@" ++ s), .use s)]
  | .row p n => (List.replicate n p.ends).foldl mergeD []
  | .grp _ ps => ps.ends []
def Pts.ends : Pts → List (Key × Pt) → List (Key × Pt)
  | .nil, acc => acc
  | .cons _ p r, acc => r.ends (mergeD acc p.ends)
end
/-! ### fields -/
abbrev PO : Type := Ob Pt
abbrev pD (p : Pt) : D PO := .obj (.base p)
def Pts.pairs : Pts → List (D PO)
  | .nil => []
  | .cons s p r => .tup [.str s, pD p] :: r.pairs
def rowIn (p : Pt) (n : Nat) : List (D PO) := (List.range n).map fun k : Nat => .tup [.str (intS (k : Int)), pD p]
def Pt.traits : Pt → List (D PO)
  | .byte => []
  | .kind s t => [.str s, .int t]
  | .use s => [.str s]
  | .row p n => [pD p, .int n]
  | .grp _ ps => ps.pairs
def Pt.inside : Pt → List (D PO)
  | .row p n => rowIn p n
  | .grp _ ps => ps.pairs
  | _ => []
def endsD (es : List (Key × Pt)) : List (Key × D PO) := es.map fun e => (e.1, pD e.2)
/-- its ends, it itself at a -/
def Pt.endsA (a : Addr) : Pt → List (Key × D PO)
  | .kind s t => [(.inr (s ++ (" " ++ intS t)), .ptr a)]
  | .use s => [(.inr ("@" ++ s), .ptr a)]
  | p => endsD p.ends
def Pt.more : Pt → List (Str × D PO)
  | .byte => []
  | .kind s t => [("name", .str s), ("times", .int t)]
  | .use s => [("name", .str s)]
  | .row p n => [("part", pD p), ("n", .int n)]
  | .grp false ps => [("fields", .tup ps.pairs)]
  | .grp true ps => [("members", .tup ps.pairs)]
def Pt.flds (e : List (Key × D PO)) (p : Pt) : List (Str × D PO) :=
  ("text", .str p.tx) :: ("traits", .tup p.traits) :: ("inside", .tup p.inside) :: ("ends", .dic e) :: ("weight", .int p.wt) :: ("depth", .int p.dep) :: p.more
def shP (a : Addr) (p : Pt) : Shape PO := if p.wf then .ins p.cn (p.flds (p.endsA a)) else .none
def erL : List (Str × List Str) := [("BadName", ["name"]), ("BadTimes", ["value"]), ("BadParts", ["at"]), ("NoPath", ["path", "at"]), ("Unresolved", ["name"]), ("TooLarge", ["what", "most"]), ("NotRecord", ["name"]), ("NoOrder", ["at"])]
def efP (C : Str) : List Str := ((erL.lookup C).getD [])
abbrev TP (es : List Str) (K : PySem.W.Frag) : Th K := TS K efP (shU [] es shP)
def cnP : PO → Str
  | .base p => p.cn
  | .mk C _ => C
  | .err C _ => C
def erP : PO → Bool
  | .err _ _ => true
  | _ => false
def atP : PO → Str → Option (D PO)
  | .base p, f => (p.flds (endsD p.ends)).lookup f
  | .err C ds, f => ((efP C).zip ds).lookup f
  | .mk _ _, _ => none
theorem at_text (p : Pt) : atP (.base p) "text" = some (.str p.tx) := rfl
theorem at_traits (p : Pt) : atP (.base p) "traits" = some (.tup p.traits) := rfl
theorem at_inside (p : Pt) : atP (.base p) "inside" = some (.tup p.inside) := rfl
theorem at_ends (p : Pt) : atP (.base p) "ends" = some (.dic (endsD p.ends)) := rfl
theorem at_weight (p : Pt) : atP (.base p) "weight" = some (.int p.wt) := rfl
theorem at_depth (p : Pt) : atP (.base p) "depth" = some (.int p.dep) := rfl
end Dl
set_option Elab.async false
set_option linter.all false
set_option maxRecDepth 100000
set_option maxHeartbeats 1000000
/-! Parts in the heap: their fields, their classes. -/
namespace Dl
open PySem PySem.Spec PyProof.Rows L2 Ev
def base6 : List Str := ["text", "traits", "inside", "ends", "weight", "depth"]
def tbP : List (Str × List Str) := [("Byte", base6), ("Kind", base6 ++ (["name", "times"] : List Str)), ("Use", base6 ++ (["name"] : List Str)), ("Row", base6 ++ (["part", "n"] : List Str)), ("Record", base6 ++ (["fields"] : List Str)), ("Overlay", base6 ++ (["members"] : List Str))]
theorem shU_base {sb : Addr → Pt → Shape PO} {tb : List (Str × List Str)} {es : List Str} {a : Addr} {p : Pt} : shU tb es sb a (.base p) = sb a p := rfl
theorem tbP_mem (p : Pt) (e : List (Key × D PO)) : (p.cn, (p.flds e).map (·.1)) ∈ tbP := by
  cases p with
  | byte => exact List.mem_of_getElem? (i := 0) rfl
  | kind s t => exact List.mem_of_getElem? (i := 1) rfl
  | use s => exact List.mem_of_getElem? (i := 2) rfl
  | row p n => exact List.mem_of_getElem? (i := 3) rfl
  | grp ov ps =>
    cases ov
    · exact List.mem_of_getElem? (i := 4) rfl
    · exact List.mem_of_getElem? (i := 5) rfl
theorem fld_ends (p : Pt) (e : List (Key × D PO)) : (p.flds e).lookup ("ends" : Str) = some (.dic e) := rfl
theorem fld_ne (p : Pt) (e e' : List (Key × D PO)) {f : Str} (h : f ≠ "ends") : (p.flds e).lookup f = (p.flds e').lookup f := by
  have hb : (f == ("ends" : Str)) = false := by simpa using h
  simp only [Pt.flds, List.lookup_cons, hb]
theorem endsA_D (a : Addr) (p : Pt) : D.dic (endsD p.ends) = .dic (p.endsA a) ∨ D.dic (endsD p.ends) = unptr a (.base p) (.dic (p.endsA a)) := by
  cases p with
  | byte => exact .inl rfl
  | kind s t =>
    refine .inr ?_
    simp only [Pt.endsA, Pt.ends, endsD, List.map_cons, List.map_nil, unptr, unptrK, if_true]
  | use s =>
    refine .inr ?_
    simp only [Pt.endsA, Pt.ends, endsD, List.map_cons, List.map_nil, unptr, unptrK, if_true]
  | row p n => exact .inl rfl
  | grp ov ps => exact .inl rfl
section
variable {K : PySem.W.Frag} {es : List Str}
theorem erP_at {H : Hp} {a : Addr} {C : Str} {ds : List (D PO)} (r : (TP es K).RO H a (.err C ds)) : C ∈ es ∧ ExAt (TP es K) efP H a C ds := by
  have r := (RSo_iff K efP (shU [] es shP)).mp r
  by_cases m : C ∈ es
  · have e : shU [] es shP a (Ob.err C ds) = .exc C ds := if_pos m
    rw [e] at r
    exact ⟨m, r⟩
  · have e : shU [] es shP a (Ob.err C ds) = .none := if_neg m
    rw [e] at r
    exact r.elim
theorem erP_mk {H : Hp} {a : Addr} {C : Str} {ds : List (D PO)} (m : C ∈ es) (r : ExAt (TP es K) efP H a C ds) : (TP es K).RO H a (.err C ds) := by
  refine (RSo_iff K efP (shU [] es shP)).mpr ?_
  have e : shU [] es shP a (Ob.err C ds) = .exc C ds := if_pos m
  rw [e]
  exact r
/-- a kept error's fields -/
theorem exc_fld {T : Th K} {ef : Str → List Str} {C : Str} (ec : ExcC K (He.ga K C)) (no : ∀ f ∈ ef C, PySem.W.findIn K (.ref (He.ga K C)) f = some none) (nd : (ef C).Nodup) {a : Addr} {ds : List (D T.O)} {h : Hp} {f : Str} {d : D T.O} (x : ExAt T ef h a C ds) (l : ((ef C).zip ds).lookup f = some d) : FldAt T h a f d := by
  obtain ⟨dd, p, vs, e1, e2, rl, ln⟩ := x
  obtain ⟨v, e3, e4⟩ := zip_look rl l
  refine .inr ⟨_, dd, _, v, ec, no f ?_, e1, e2, lookup_app (lookup_rev (by rw [zip_names ln]; exact nd) e3), e4⟩
  have := lookup_mem e3
  rw [zip_names ln] at this
  exact this
theorem atP_ok (ct : ClsT K tbP) (et : ∀ C ∈ es, ∀ a ds h f d, ExAt (TP es K) efP h a C ds → ((efP C).zip ds).lookup f = some d → FldAt (TP es K) h a f d) : AttrT (TP es K) atP := by
  refine ⟨fun h a o f d r e => ?_⟩
  cases o with
  | mk C fs => cases e
  | err C ds => obtain ⟨m, x⟩ := erP_at r; exact et C m a ds h f d x e
  | base p =>
    refine (attrS (sh := shU [] es shP) (tb := tbP) (es := []) (attr := fun o f => match o with
      | .base p => (p.flds (endsD p.ends)).lookup f
      | _ => none) ct ⟨fun C m => by (cases m), fun C m => by (cases m), fun C m => by (cases m)⟩ fun a o f d h => ?_).ok h a (.base p) f d r e
    cases o with
    | mk C fs => cases h
    | err C ds => cases h
    | base p =>
      rw [shU_base]
      unfold shP
      cases hw : p.wf with
      | false => trivial
      | true =>
        have h : (p.flds (endsD p.ends)).lookup f = some d := h
        refine ⟨tbP_mem p _, ?_⟩
        by_cases e : f = "ends"
        · subst e
          rw [fld_ends] at h
          cases h
          exact ⟨_, fld_ends p _, endsA_D a p⟩
        · exact ⟨d, by rw [← h]; exact fld_ne p _ _ e, .inl rfl⟩
theorem part_at {H : Hp} {a : Addr} {p : Pt} (r : (TP es K).RO H a (.base p)) : p.wf = true ∧ ∃ dx vs, H a = some (.ins (He.ga K p.cn) dx vs) ∧ RepF (TP es K) H vs (p.flds (p.endsA a)) := by
  have r := (RSo_iff K efP (shU [] es shP)).mp r
  rw [shU_base] at r
  unfold shP at r
  cases hw : p.wf with
  | false => rw [hw] at r; exact r.elim
  | true => rw [hw] at r; exact ⟨rfl, r⟩
theorem part_mk {H : Hp} {a dx : Addr} {p : Pt} {vs : List (Str × V)} (hw : p.wf = true) (e : H a = some (.ins (He.ga K p.cn) dx vs)) (r : RepF (TP es K) H vs (p.flds (p.endsA a))) : (TP es K).RO H a (.base p) := by
  refine (RSo_iff K efP (shU [] es shP)).mpr ?_
  rw [shU_base]
  unfold shP
  rw [hw]
  exact ⟨dx, vs, e, r⟩
/-- what a class's __init__ leaves is a part -/
theorem mkP (C : Str) : MkO (TP es K) C (fun a fs o => ∃ p : Pt, o = .base p ∧ p.cn = C ∧ p.wf = true ∧ fs = p.flds (p.endsA a)) := ⟨fun h a dx vs fs o e r ⟨p, eo, ec, hw, ef⟩ => by
  subst eo ec ef
  exact part_mk hw e r⟩
theorem mk_no {H : Hp} {a : Addr} {C : Str} {fs : List (Str × D PO)} (r : (TP es K).RO H a (.mk C fs)) : False := by
  have r := (RSo_iff K efP (shU [] es shP)).mp r
  have e : shU [] es shP a (Ob.mk C fs) = .none := by simp [shU]
  rw [e] at r
  exact r
end
end Dl
set_option Elab.async false
set_option linter.all false
set_option maxRecDepth 100000
set_option maxHeartbeats 4000000
/-! == and != of lists: of the very same objects, or of unlike lengths. -/
namespace L2
open PySem PySem.Spec PyProof.Rows PySem.SeqAt
theorem vals_refs : ∀ {xs : List V} {us ws : List Value}, (∀ v ∈ xs, ∃ a, v = V.ref a) → Vals xs us → Vals xs ws → us = ws
  | [], _, _, _, .nil, .nil => rfl
  | x :: xs, _, _, h, .cons r t, .cons r' t' => by
    obtain ⟨a, rfl⟩ := h x (by simp)
    cases r
    cases r'
    rw [vals_refs (fun v hv => h v (List.mem_cons_of_mem _ hv)) t t']
/-- two lists: the same objects in order, or of unlike lengths -/
def TwoL (K : PySem.W.Frag) (x y : V) (H : Hp) (b : Bool) : Prop := ∃ (a c : Addr) (xs ys : List V), x = .ref a ∧ y = .ref c ∧ SqL K H a xs ∧ SqL K H c ys ∧ ((xs = ys ∧ (∀ v ∈ xs, ∃ r, v = V.ref r) ∧ b = true) ∨ (xs.length ≠ ys.length ∧ b = false))
def rEqL (K : PySem.W.Frag) : R2 := fun x y H Q => ∃ b, TwoL K x y H b ∧ Q (.bl b) H
def rNeL (K : PySem.W.Frag) : R2 := fun x y H Q => ∃ b, TwoL K x y H b ∧ Q (.bl (!b)) H
variable {X : Cx}
theorem op_neL (hu : X.A.units < cLine) : OpR X (compareOp .NotEq) (rNeL X.K) := by
  intro pins s σ H x y v u Q I rx ry h
  obtain ⟨b, ⟨a, c, xs, ys, rfl, rfl, ha, hc, h⟩, q⟩ := h
  cases rx
  cases ry
  obtain ⟨its, r, p, z⟩ := I.list ha
  obtain ⟨its2, r2, p2, z2⟩ := I.list hc
  show wpAny _ _ (richCompare .NotEq (.ref a) (.ref c)) _ _ _
  rcases h with ⟨rfl, hr, rfl⟩ | ⟨hne, rfl⟩
  · have e : its = its2 := vals_refs hr r r2
    subst e
    refine RcNeAt.lists (e := fun _ => true) p.isList p2.isList rfl hu (fun j h1 h2 => EqAt.same _) _ _ _ _ ⟨.bl _, H, I, rfl, ?_⟩
    have : (!(List.range its.toArray.size).all fun _ => true) = !true := by simp
    rw [this]
    exact q
  · refine RcNeAt.lists_lengths p.isList p2.isList ?_ hu _ _ _ _ ⟨.bl true, H, I, rfl, q⟩
    have h1 := r.length
    have h2 := r2.length
    simp only [bne_iff_ne, ne_eq, List.size_toArray]
    omega
theorem op_eqL (hu : X.A.units < cLine) : OpR X (compareOp .Eq) (rEqL X.K) := by
  intro pins s σ H x y v u Q I rx ry h
  obtain ⟨b, ⟨a, c, xs, ys, rfl, rfl, ha, hc, h⟩, q⟩ := h
  cases rx
  cases ry
  obtain ⟨its, r, p, z⟩ := I.list ha
  obtain ⟨its2, r2, p2, z2⟩ := I.list hc
  show wpAny _ _ (richCompare .Eq (.ref a) (.ref c)) _ _ _
  rcases h with ⟨rfl, hr, rfl⟩ | ⟨hne, rfl⟩
  · have e : its = its2 := vals_refs hr r r2
    subst e
    refine RcAt.lists (e := fun _ => true) p.isList p2.isList rfl hu (fun j h1 h2 => EqAt.same _) _ _ _ _ ⟨.bl _, H, I, rfl, ?_⟩
    have : ((List.range its.toArray.size).all fun _ => true) = true := by simp
    rw [this]
    exact q
  · refine RcAt.lists_lengths p.isList p2.isList ?_ hu _ _ _ _ ⟨.bl false, H, I, rfl, q⟩
    have h1 := r.length
    have h2 := r2.length
    simp only [bne_iff_ne, ne_eq, List.size_toArray]
    omega
end L2
set_option Elab.async false
set_option linter.all false
set_option maxRecDepth 100000
set_option maxHeartbeats 1000000
/-! == of trees with own objects in them. -/
namespace L2
open PySem PySem.Spec PyProof.Rows
section
variable {X : Cx} {n m : Nat} {D D' : EqvB}
theorem RcJ.eqJ' (h : RcJ X n D) (hr : ∀ x y H b, D x y H b → ∃ a c, x = .ref a ∧ y = .ref c) (hid : ∀ pins s σ H x b, Inv X pins σ H s → D x x H b → b = true) : EqJ X n D := by
  intro A pins s σ H x y u v b sb I rx ry d
  obtain ⟨a, c, rfl, rfl⟩ := hr _ _ _ _ d
  cases rx
  cases ry
  by_cases hab : a = c
  · subst hab
    rw [hid pins s σ H _ b I d]
    exact SeqAt.EqAt.same (A := A) (s := s) (.ref a) X.prog X.w X.xe _ ⟨rfl, H, I, Ext.rfl'⟩
  · refine GQ.eqBool_refG hab (wpAny_mono (h A pins s σ H (.ref a) (.ref c) _ _ b sb I rfl rfl d) (fun r s' q => ?_) fun _ _ x => x)
    obtain ⟨hr', q⟩ := q
    exact ⟨b, hr', rfl, q⟩
end
end L2
namespace Dl
open PySem PySem.Spec PyProof.Rows L2 Ev
/-- a tuple's items are what they are -/
def SqFun (K : PySem.W.Frag) (h : Hp) : Prop := ∀ a xs ys, SqT K h a xs → SqT K h a ys → xs = ys
theorem sqFun_of {X : Cx} {pins : List (Addr × Obj)} {s : Shared} {σ : L2.St} {H h : Hp} (I : Inv X pins σ H s) (S : Same h H) : SqFun X.K h := fun a xs ys e e' => I.tuple_inj (same_seqT S e) (same_seqT S e')
section
variable {K : PySem.W.Frag} {T : Th K}
mutual
/-- the comparison of trees, n tuples deep -/
inductive EqS (oe : T.O → T.O → Option Bool) : Nat → D T.O → D T.O → Bool → Prop
  | flat {n : Nat} {dx dy : D T.O} : flatD dx = true → flatD dy = true → EqS oe n dx dy (eqFD dx dy)
  | obj {n : Nat} {a b : T.O} {r : Bool} : oe a b = some r → EqS oe n (.obj a) (.obj b) r
  | tup {n : Nat} {xs ys : List (D T.O)} {r : Bool} : EqSL oe n xs ys r → EqS oe (n + 1) (.tup xs) (.tup ys) r
inductive EqSL (oe : T.O → T.O → Option Bool) : Nat → List (D T.O) → List (D T.O) → Bool → Prop
  | nil {n : Nat} : EqSL oe n [] [] true
  | nilL {n : Nat} {y : D T.O} {ys : List (D T.O)} : EqSL oe n [] (y :: ys) false
  | nilR {n : Nat} {x : D T.O} {xs : List (D T.O)} : EqSL oe n (x :: xs) [] false
  | yes {n : Nat} {x y : D T.O} {xs ys : List (D T.O)} {r : Bool} : EqS oe n x y true → EqSL oe n xs ys r → EqSL oe n (x :: xs) (y :: ys) r
  | no {n : Nat} {x y : D T.O} {xs ys : List (D T.O)} : EqS oe n x y false → EqSL oe n (x :: xs) (y :: ys) false
end
variable {oe : T.O → T.O → Option Bool} {h H : Hp}
/-- the same value, told by two flat trees -/
theorem flat_inj {v : V} {dx dy : D T.O} (rx : Rep T h v dx) (ry : Rep T h v dy) (fx : flatD dx = true) (fy : flatD dy = true) : eqFD dx dy = true := by
  cases rx <;> first
    | (cases fx; done)
    | (cases ry <;> first
      | (cases fy; done)
      | rfl
      | exact beq_self_eq_true _)
mutual
theorem EqS.refl (fn : SqFun K h) (det : ∀ a o o', T.RO h a o → T.RO h a o' → oe o o' = none ∨ oe o o' = some true) : ∀ {n : Nat} {v : V} {dx dy : D T.O} {b : Bool}, EqS oe n dx dy b → Rep T h v dx → Rep T h v dy → b = true
  | _, _, _, _, _, .flat f1 f2, rx, ry => flat_inj rx ry f1 f2
  | _, _, _, _, _, .obj e, .obj r1, .obj r2 => by
    rcases det _ _ _ r1 r2 with z | z
    · rw [z] at e; cases e
    · rw [z] at e; cases e; rfl
  | _, _, _, _, _, .tup e, .tup a1 l1, .tup a2 l2 => by
    have := fn _ _ _ a1 a2
    subst this
    exact EqSL.refl fn det e l1 l2
theorem EqSL.refl (fn : SqFun K h) (det : ∀ a o o', T.RO h a o → T.RO h a o' → oe o o' = none ∨ oe o o' = some true) : ∀ {n : Nat} {vs : List V} {xs ys : List (D T.O)} {b : Bool}, EqSL oe n xs ys b → RepL T h vs xs → RepL T h vs ys → b = true
  | _, _, _, _, _, .nil, _, _ => rfl
  | _, _, _, _, _, .nilL, .nil, r => by cases r
  | _, _, _, _, _, .nilR, r, .nil => by cases r
  | _, _, _, _, _, .yes e l, .cons a1 b1, .cons a2 b2 => EqSL.refl fn det l b1 b2
  | _, _, _, _, _, .no e, .cons a1 b1, .cons a2 b2 => EqS.refl fn det e a1 a2
end
/-- trees compared, as a relation of values -/
def DV (T : Th K) (S : D T.O → D T.O → Bool → Prop) : EqvB := fun x y H b => ∃ h dx dy, Same h H ∧ Rep T h x dx ∧ Rep T h y dy ∧ S dx dy b
theorem monB_DV {S : D T.O → D T.O → Bool → Prop} : MonB (DV T S) := fun x y H H' b e ⟨h, dx, dy, s, r1, r2, q⟩ => ⟨h, dx, dy, same_trans s e, r1, r2, q⟩
def ObS (oe : T.O → T.O → Option Bool) : D T.O → D T.O → Bool → Prop := fun dx dy b => ∃ a c, dx = .obj a ∧ dy = .obj c ∧ oe a c = some b
def TupS (oe : T.O → T.O → Option Bool) (n : Nat) : D T.O → D T.O → Bool → Prop := fun dx dy b => ∃ xs ys, dx = .tup xs ∧ dy = .tup ys ∧ EqSL oe n xs ys b
end
section
variable {X : Cx} {T : Th X.K} {m : Nat} {oe : T.O → T.O → Option Bool}
theorem prs_of {h H : Hp} {n : Nat} (S : Same h H) : ∀ {vs ws : List V} {xs ys : List (D T.O)} {b : Bool}, EqSL oe n xs ys b → RepL T h vs xs → RepL T h ws ys → PrsB (DV T (EqS oe n)) H vs ws b
  | _, _, _, _, _, .nil, .nil, .nil => .nil
  | _, _, _, _, _, .nilL, .nil, .cons _ _ => .nilL _ _
  | _, _, _, _, _, .nilR, .cons _ _, .nil => .nilR _ _
  | _, _, _, _, _, .yes e l, .cons a1 b1, .cons a2 b2 => .yes ⟨h, _, _, S, a1, a2, e⟩ (prs_of S l b1 b2)
  | _, _, _, _, _, .no e, .cons a1 b1, .cons a2 b2 => .no ⟨h, _, _, S, a1, a2, e⟩
theorem rcJ_deep {n : Nat} (h : EqJ X m (DV T (EqS oe n))) : RcJ X (m + 1) (DV T (TupS oe n)) := (rcJ_tup monB_DV h).imp fun x y H b ⟨h, dx, dy, S, r1, r2, xs, ys, e1, e2, q⟩ => by
  subst e1 e2
  cases r1 with
  | tup a1 l1 =>
    cases r2 with
    | tup a2 l2 => exact ⟨_, _, _, _, rfl, rfl, same_seqT S a1, same_seqT S a2, prs_of S q l1 l2⟩
theorem eqJ_deep (hO : RcJ X m (DV T (ObS oe))) (det : ∀ h, SqFun X.K h → ∀ a o o', T.RO h a o → T.RO h a o' → oe o o' = none ∨ oe o o' = some true) : ∀ n : Nat, EqJ X (m + n) (DV T (EqS oe n)) := by
  have eO : EqJ X m (DV T (ObS oe)) := hO.eqJ' (fun x y H b ⟨h, dx, dy, S, r1, r2, a, c, e1, e2, q⟩ => by subst e1 e2; cases r1; cases r2; exact ⟨_, _, rfl, rfl⟩)
    fun pins s σ H x b I ⟨h, dx, dy, S, r1, r2, a, c, e1, e2, q⟩ => by
      subst e1 e2
      exact EqS.refl (n := 0) (sqFun_of I S) (det h (sqFun_of I S)) (.obj q) r1 r2
  have split : ∀ n x y H b, DV T (EqS oe n) x y H b → (DFlatB x y H b ∨ DV T (ObS oe) x y H b) ∨ (∃ k, n = k + 1 ∧ DV T (TupS oe k) x y H b) := fun n x y H b ⟨h, dx, dy, S, r1, r2, q⟩ => by
    cases q with
    | flat f1 f2 => exact .inl (.inl ⟨flatD_ok (H := H) (.rep r1) f1, flatD_ok (H := H) (.rep r2) f2, eqFD_ok (H := H) (.rep r1) (.rep r2) f1 f2⟩)
    | obj e => exact .inl (.inr ⟨h, _, _, S, r1, r2, _, _, rfl, rfl, e⟩)
    | tup e => exact .inr ⟨_, rfl, h, _, _, S, r1, r2, _, _, rfl, rfl, e⟩
  have e0 : EqJ X m (fun x y H b => DFlatB x y H b ∨ DV T (ObS oe) x y H b) := (eqJ_flat.mono (Nat.zero_le m)).or eO
  intro n
  induction n with
  | zero => exact e0.imp fun x y H b d => (split 0 x y H b d).elim id fun ⟨k, e, _⟩ => by cases e
  | succ n ih =>
    have eT : EqJ X (m + n + 1) (DV T (TupS oe n)) := (rcJ_deep ih).eqJ' (fun x y H b ⟨h, dx, dy, S, r1, r2, a, c, e1, e2, q⟩ => by subst e1 e2; cases r1; cases r2; exact ⟨_, _, rfl, rfl⟩)
      fun pins s σ H x b I ⟨h, dx, dy, S, r1, r2, xs, ys, e1, e2, q⟩ => by
        subst e1 e2
        exact EqS.refl (sqFun_of I S) (det h (sqFun_of I S)) (.tup q) r1 r2
    exact ((e0.mono (by omega)).or eT).imp fun x y H b d => (split _ x y H b d).elim .inl fun ⟨k, e, q⟩ => by cases e; exact .inr q
/-- == of tuples of such things -/
def rEqT {K : PySem.W.Frag} {T : Th K} (oe : T.O → T.O → Option Bool) (n : Nat) : ROp T := fun dx dy k => ∃ b, TupS oe n dx dy b ∧ k (.bl b)
theorem od_eqT {n : Nat} (h : EqJ X m (DV T (EqS oe n))) (hr : Room (m + 1) X.A) : OpD T (compareOp .Eq) (rEqT oe n) := OpR.imp (op_eqJ (rcJ_deep h) hr) fun x y H Q ⟨Z, dx, dy, q, l, rx, ry, ⟨b, e, hb⟩, k⟩ => by
  have vx : ∀ {v : V} {d : D T.O} {xs : List (D T.O)}, d = .tup xs → TRep T (hid Z H) H v d → Rep T (hid Z H) v d := fun {v d xs} e r => by
    subst e
    cases r with
    | rep r => exact r
  obtain ⟨xs, ys, e1, e2, e3⟩ := e
  exact ⟨b, ⟨hid Z H, dx, dy, hid_sub, vx e1 rx, vx e2 ry, xs, ys, e1, e2, e3⟩, fun H' S => k _ hb _ _ S (.bl _)⟩
end
end Dl
set_option Elab.async false
set_option linter.all false
set_option maxRecDepth 100000
set_option maxHeartbeats 1000000
/-! What built-ins and operators ask of own objects: ==, !=, str, len, an f-string. -/
namespace PySem.W
open PySem PySem.Calls PyProof.Rows Builtin
section
variable {prog : Program} {w : World} {A : Around} {E : Value → Shared → Prop} {s : Shared} {K : Frag} {x C f : Addr} {ox : Obj} {od : Option Obj}
theorem len_own {Q : Value → Shared → Prop} (X : K.In s.heap) (I : InstAt s.heap x ox C od) (hs : findIn K (.ref C) "__len__" = some (some (.ref f))) (hf : isFn K (.ref f) = true)
    (h : wpAny (model prog w) A.in1 (call (.ref f) [.ref x]) (LenBack Q) E s) : wpAny (model prog w) A (call (.builtin "len") [.ref x]) Q E s := by
  refine Calls.call_function_entry kind_len plain_len entry_len (args_len1 _) ?_
  unfold Builtin.«len»
  refine wpAny_bind (m := oneArg "len" _) (wpAny_pure ?_)
  refine wpAny_bind (m := callSpecial? (.ref x) (Str.ofString "__len__")) (special_fn X I hs (beq_iff_eq.mp hf) (wpAny_mono h (fun r s' hr => ?_) fun _ _ y => y))
  cases r <;> first | exact hr.elim | skip
  rename_i n u
  obtain ⟨⟨h0, h1⟩, hq⟩ := hr
  refine wpAny_bind (wpAny_holding (wpAny_pure ?_))
  refine wpAny_bind (wpAny_letGo ?_)
  show wpAny _ _ (if n < 0 then _ else _) _ _ _
  rw [if_neg (by omega)]
  show wpAny _ _ (if n ≥ 2 ^ 63 then _ else _) _ _ _
  rw [if_neg (by omega)]
  exact wpAny_bind (wpAny_mkInt (wpAny_pure ⟨_, rfl, hq⟩))
end
end PySem.W
namespace Dl
open PySem PySem.Spec PyProof.Rows L2 Ev
theorem FnR.cx0 {P : Program} {w : World} {K : PySem.W.Frag} {mg : Str → Option Value} {base : Heap} {k : Nat} {f : Addr} {sp : Sp} (F : FnR P w K mg base (L2.CX P w) k f sp) : FnR P w K mg base CX0 k f (fun vs H Q _ => sp vs H Q fun _ _ _ => False) :=
  fun A outer s H us vs Q E hr e0 r h => codeAny_mono (F A outer s H us vs Q _ hr e0 r h) fun z s' q => by
    cases z with
    | ok fl => cases fl <;> exact q
    | error e => obtain ⟨_, _, _, _, _, _, _, _, _, _, _, _, q⟩ := q; exact q
section
variable (P : Program) (w : World) (K : PySem.W.Frag) (mg : Str → Option Value) (base : Heap) (T : Th K) (ef : Str → List Str) (n : Nat)
/-- an own __eq__, asked with anything on the right -/
structure EqO (oe : T.O → D T.O → Option Bool) : Prop where
  ok : ∀ h H a o y d b, Same h H → T.RO h a o → TRep T h H y d → oe o d = some b → ∃ (C g dx : Addr) (fs : List (Str × V)) (t : Value) (sp : Sp), H a = some (.ins C dx fs) ∧ TyX K H y t ∧ PySem.W.notFirst K C t = true ∧
    PySem.W.findIn K (.ref C) "__eq__" = some (some (.ref g)) ∧ PySem.W.isFn K (.ref g) = true ∧ PySem.W.mroIn K C (.type "object") = some true ∧ PySem.W.findIn K (.ref C) "__ne__" = some (some (.builtin "object.__ne__")) ∧
    FnR P w K mg base CX0 n g sp ∧ ∀ Q : VK, (∀ H', Same H H' → Q (.bl b) H') → sp [.ref a, y] H Q (fun _ _ _ => False)
/-- an own def without arguments, off the object's class -/
structure OneO (m : Str) (C : T.O → Prop) (so : T.O → Option (D T.O)) : Prop where
  ok : ∀ h a o d, T.RO h a o → so o = some d → ∃ (C g dx : Addr) (fs : List (Str × V)) (sp : Sp), h a = some (.ins C dx fs) ∧ PySem.W.findIn K (.ref C) m = some (some (.ref g)) ∧ PySem.W.isFn K (.ref g) = true ∧ FnR P w K mg base CX0 n g sp ∧
    ∀ (Z : List Addr) (H : Hp) (Q : VK), h = hid Z H → Live Z H → (∀ v H', Same H H' → Rep T (hid Z H') v d → Q v H') → sp [.ref a] H Q (fun _ _ _ => False)
end
section
variable {X : Cx} {T : Th X.K} {B : Ba} {ef : Str → List Str} {n : Nat} {e : Expr} {pos : Pos}
/-- == : an own object on the left, or data -/
def rEqX {K : PySem.W.Frag} {T : Th K} (oe : T.O → D T.O → Option Bool) : ROp T := fun dx dy k => match dx with
  | .obj a => ∃ b, oe a dy = some b ∧ k (.bl b)
  | d => rEqA d dy k
def rNeX {K : PySem.W.Frag} {T : Th K} (oe : T.O → D T.O → Option Bool) : ROp T := fun dx dy k => match dx with
  | .obj a => ∃ b, oe a dy = some b ∧ k (.bl (!b))
  | d => rNeA d dy k
def rEqO {K : PySem.W.Frag} {T : Th K} (oe : T.O → D T.O → Option Bool) : ROp T := fun dx dy k => match dx with
  | .obj a => ∃ b, oe a dy = some b ∧ k (.bl b)
  | _ => False
def rNeO {K : PySem.W.Frag} {T : Th K} (oe : T.O → D T.O → Option Bool) : ROp T := fun dx dy k => match dx with
  | .obj a => ∃ b, oe a dy = some b ∧ k (.bl (!b))
  | _ => False
variable {oe : T.O → D T.O → Option Bool}
theorem rcJ_eqO (O : EqO X.prog X.w X.K X.mg X.base T n oe) : RcJ X n (fun x y H b => ∃ h a o d, Same h H ∧ x = .ref a ∧ T.RO h a o ∧ TRep T h H y d ∧ oe o d = some b) :=
  rcJ_own.imp fun x y H b ⟨h, a, o, d, S, ex, r, ry, e⟩ => by
    obtain ⟨C, g, dx, fs, t, sp, h1, h2, h3, h4, h5, h6, h7, h8, h9⟩ := O.ok h H a o y d b S r ry e
    exact ⟨a, C, g, dx, fs, t, sp, ex, h1, h2, h3, h4, h5, h8, by rw [ex]; exact h9 _ fun H' S' => ⟨rfl, S'⟩⟩
theorem od_eqO (O : EqO X.prog X.w X.K X.mg X.base T n oe) (hr : Room n X.A) : OpD T (compareOp .Eq) (rEqO oe) := OpR.imp (op_eqJ (rcJ_eqO O) hr) fun x y H Q ⟨Z, dx, dy, q, l, rx, ry, hq, k⟩ => by
  cases dx <;> try exact hq.elim
  obtain ⟨b, eb, hb⟩ := hq
  obtain ⟨a, ex, r⟩ := rx.of_obj hid_sub
  exact ⟨b, ⟨_, a, _, _, hid_sub, ex, r, ry, eb⟩, fun H' S => k _ hb _ _ S (.bl _)⟩
theorem od_neO (O : EqO X.prog X.w X.K X.mg X.base T n oe) (hr : Room (n + 1) X.A) : OpD T (compareOp .NotEq) (rNeO oe) := by
  intro pins s σ H x y v u Q I rx0 ry0 ⟨Z, dx, dy, q, l, rx, ry, hq, k⟩
  cases dx <;> try exact hq.elim
  obtain ⟨b, eb, hb⟩ := hq
  obtain ⟨a, ex, r⟩ := rx.of_obj hid_sub
  obtain ⟨C, g, dx, fs, t, sp, h1, h2, h3, h4, h5, h6, h7, h8, h9⟩ := O.ok _ H a _ y _ b hid_sub r ry eb
  exact op_ownNe (C := C) (E := E0) h6 h7 h4 h5 h8 hr pass0 pins s σ H x y v u Q I rx0 ry0 ⟨a, dx, fs, t, ex, h1, h2, h3, by rw [ex]; exact h9 _ fun H' S' => ⟨b, rfl, k _ hb _ _ S' (.bl _)⟩⟩
theorem od_eqX (O : EqO X.prog X.w X.K X.mg X.base T n oe) (hr : Room n X.A) (hu : X.A.units + 64 < cLine) : OpD T (compareOp .Eq) (rEqX oe) := OpD.imp ((od_eqO O hr).or (od_eqA hu)) fun dx dy k h => by
  cases dx <;> first
    | exact .inr h
    | exact .inl h
theorem od_neX (O : EqO X.prog X.w X.K X.mg X.base T n oe) (hr : Room (n + 1) X.A) (hu : X.A.units + 64 < cLine) : OpD T (compareOp .NotEq) (rNeX oe) := OpD.imp ((od_neO O hr).or (od_neA hu)) fun dx dy k h => by
  cases dx <;> first
    | exact .inr h
    | exact .inl h
/-! ### str(x) -/
end
section
variable {X : Cx} {CX : CXT} {C g : Addr} {n : Nat} {sp : Sp} {E : XK}
def rStrOwn (C : Addr) (sp : Sp) (E : XK) : List V → Hp → VK → Prop := fun xs H Q => ∃ (a dx : Addr) (fs : List (Str × V)), xs = [V.ref a] ∧ H a = some (.ins C dx fs) ∧ sp [.ref a] H (fun z H' => ∃ i, z = .str i ∧ Q z H') E
theorem call_strOwn (hs : PySem.W.findIn X.K (.ref C) "__str__" = some (some (.ref g))) (hf : PySem.W.isFn X.K (.ref g) = true) (F : FnR X.prog X.w X.K X.mg X.base CX n g sp) (hr : Room (n + 2) X.A) (hx : Passes CX X E) :
    CallR X (.type "str") (rStrOwn C sp E) := by
  intro pins s σ H xs us Q I r h
  obtain ⟨a, dx, fs, rfl, ha, q⟩ := h
  obtain ⟨u, rfl, ru⟩ := r.one
  cases (show u = Value.ref a from ru)
  obtain ⟨mA, O, _⟩ := ins_get I.hok ha
  obtain ⟨od, J, _⟩ := O.look
  have hr2 : Room n X.A.in1.in1 := (show Room (n + 1) X.A.in1 from Room.in1 hr).in1
  refine PySem.W.kso_call hr2.units0 I.kIn J hs hf (thn (wpAny_call (SlX.run_at (us := [.ref a]) (ws := [.ref a]) F hr2 I.env0.in1.in1 hx I (.cons rfl .nil) q)) (fun w s' z => ?_))
  obtain ⟨z', H', I', rz, i, ei, qz⟩ := z
  subst ei
  obtain ⟨t, e⟩ := (show ∃ t, w = Value.str i t from rz)
  cases e
  exact ⟨.str i, H', I', ⟨t, rfl⟩, qz⟩
end
section
variable {X : Cx} {T : Th X.K} {B : Ba} {ef : Str → List Str} {n : Nat} {e : Expr} {pos : Pos}
variable {m : Str} {C : T.O → Prop} {so : T.O → Option (D T.O)}
def fStrO {K : PySem.W.Frag} {T : Th K} (so : T.O → Option (D T.O)) : D T.O → (D T.O → Prop) → Prop := fun d k => match d with
  | .obj o => ∃ s, so o = some (.str s) ∧ k (.str s)
  | _ => False
theorem cd_strO (O : OneO X.prog X.w X.K X.mg X.base T n "__str__" C so) (hr : Room (n + 2) X.A) : CallD T (.type "str") (r1 (fStrO so)) := by
  intro pins s σ H xs us Q I ru ⟨Z, ds, q, l, rl, hq, k⟩
  obtain ⟨d, rfl, hq⟩ := r1_of hq
  obtain ⟨v, rfl, rv⟩ := trepl1 rl
  cases d <;> try exact hq.elim
  obtain ⟨z, ez, hz⟩ := hq
  obtain ⟨a, rfl, r⟩ := rv.of_obj hid_sub
  obtain ⟨C, g, dx, fs, sp, h1, h2, h3, h4, h5⟩ := O.ok _ a _ _ r ez
  refine call_strOwn (C := C) (E := E0) h2 h3 h4 hr pass0 pins s σ H _ us Q I ru ⟨a, dx, fs, rfl, (hid_some h1).2, h5 Z H _ rfl l fun v H' S r' => ?_⟩
  cases r'
  exact ⟨_, rfl, k _ hz _ _ S (.str _ (by assumption))⟩
/-- str of what is flat, and of own objects -/
def fStrX {K : PySem.W.Frag} {T : Th K} (so : T.O → Option (D T.O)) : D T.O → (D T.O → Prop) → Prop := fun d k => match d with
  | .obj o => ∃ s, so o = some (.str s) ∧ k (.str s)
  | d => fStr d k
theorem cd_strX (O : OneO X.prog X.w X.K X.mg X.base T n "__str__" C so) (hr : Room (n + 2) X.A) : CallD T (.type "str") (r1 (fStrX so)) := CallD.imp ((cd_strO O hr).or cd_str) fun ds k h => by
  obtain ⟨d, rfl, h⟩ := r1_of h
  cases d <;> first
    | exact .inr h
    | exact .inl h
/-! ### len(x) -/
def fLenO {K : PySem.W.Frag} {T : Th K} (so : T.O → Option (D T.O)) : D T.O → (D T.O → Prop) → Prop := fun d k => match d with
  | .obj o => ∃ m : Nat, so o = some (.int m) ∧ m < 2 ^ 62 ∧ k (.int m)
  | _ => False
theorem cd_lenO (O : OneO X.prog X.w X.K X.mg X.base T n "__len__" C so) (hr : Room (n + 1) X.A) : CallD T (.builtin "len") (r1 (fLenO so)) := by
  intro pins s σ H xs us Q I ru ⟨Z, ds, q, l, rl, hq, k⟩
  obtain ⟨d, rfl, hq⟩ := r1_of hq
  obtain ⟨v, rfl, rv⟩ := trepl1 rl
  cases d <;> try exact hq.elim
  obtain ⟨m, ez, hm, hz⟩ := hq
  obtain ⟨a, rfl, r⟩ := rv.of_obj hid_sub
  obtain ⟨C, g, dx, fs, sp, h1, h2, h3, h4, h5⟩ := O.ok _ a _ _ r ez
  obtain ⟨u, rfl, ru2⟩ := ru.one
  cases (show u = Value.ref a from ru2)
  obtain ⟨mA, O1, _⟩ := ins_get I.hok (hid_some h1).2
  obtain ⟨od, J, _⟩ := O1.look
  have hr1 : Room n X.A.in1 := Room.in1 hr
  refine PySem.W.len_own I.kIn J h2 h3 (thn (wpAny_call (SlX.run_at (us := [.ref a]) (ws := [.ref a]) (Q := fun v H' => v = .int m ∧ Same H H') h4 hr1 I.env0.in1 pass0 I (.cons rfl .nil) (h5 Z H _ rfl l fun v H' S r' => by cases r'; exact ⟨rfl, S⟩))) (fun w s' z => ?_))
  obtain ⟨z', H', I', rz, e, S⟩ := z
  subst e
  obtain ⟨t, e⟩ := (show ∃ t, w = Value.int m t from rz)
  cases e
  exact ⟨⟨by omega, by omega⟩, .int m, H', I'.tok _, ⟨_, rfl⟩, k _ hz _ _ S (.int _)⟩
def fLenX {K : PySem.W.Frag} {T : Th K} (so : T.O → Option (D T.O)) : D T.O → (D T.O → Prop) → Prop := fun d k => match d with
  | .obj o => ∃ m : Nat, so o = some (.int m) ∧ m < 2 ^ 62 ∧ k (.int m)
  | d => fLen d k
theorem cd_lenX (O : OneO X.prog X.w X.K X.mg X.base T n "__len__" C so) (hr : Room (n + 1) X.A) : CallD T (.builtin "len") (r1 (fLenX so)) := CallD.imp ((cd_lenO O hr).or cd_len) fun ds k h => by
  obtain ⟨d, rfl, h⟩ := r1_of h
  cases d <;> first
    | exact .inr h
    | exact .inl h
/-! ### x[k] by an own __getitem__ -/
def rIxOwn (X : Cx) (CX : CXT) (n : Nat) (E : XK) : R2 := fun x y H Q => ∃ (a C g dx : Addr) (fs : List (Str × V)) (sp : Sp), x = .ref a ∧ H a = some (.ins C dx fs) ∧ PySem.W.findIn X.K (.ref C) "__getitem__" = some (some (.ref g)) ∧ PySem.W.fnIn X.K g = true ∧ PySem.W.isFn X.K (.ref g) = true ∧
  FnR X.prog X.w X.K X.mg X.base CX n g sp ∧ sp [x, y] H Q E
theorem pe_ixOwn {CX : CXT} {E : XK} {a b : Expr} {ta tb : TE} (ha : PE X a ta) (hb : PE X b tb) (hr : Room (n + 1) X.A) (hx : Passes CX X E)
    (hs : ∀ x i, subscripted b true (.ref x) i = runValue (.builtin "lifetime.subscript" ⟨[.ref x, i], []⟩) := by intro _ _; with_unfolding_all rfl) : PE X (.Subscript a b pos) (tOp (rIxOwn X CX n E) ta tb) := by
  refine ⟨fun pins s σ H Q I h => ?_⟩
  refine Subscript_ (binT ha hb I h fun v u s2 x y H2 I2 rx ry q => ?_)
  obtain ⟨a, C, g, dx, fs, sp, rfl, h1, h2, h3, h4, h5, h6⟩ := q
  cases (show v = Value.ref a from rx)
  obtain ⟨mA, O1, _⟩ := ins_get I2.hok h1
  obtain ⟨od, J, _⟩ := O1.look
  obtain ⟨m, hF⟩ := I2.fr
  have hr1 : Room n X.A.in1 := Room.in1 hr
  refine PySem.W.sub_K hF I2.ok.mod.kin J h2 h3 h4 (thn (wpAny_call (SlX.run_at (us := [.ref a, u]) (ws := [.ref a, y]) h5 hr1 I2.env0.in1 hx I2 (.cons rfl (.cons ry .nil)) h6)) (fun w s' z => z)) (hs a u)
structure SpecM (P : Program) (w : World) (K : PySem.W.Frag) (mg : Str → Option Value) (base : Heap) (k : Nat) (Cs : List Str) (m : Str) (sp : Sp) : Prop where
  ex : ∃ g, FnR P w K mg base (L2.CX P w) k g sp ∧ ∀ c ∈ Cs, PySem.W.findIn K (.ref (He.ga K c)) m = some (some (.ref g)) ∧ PySem.W.isFn K (.ref g) = true ∧ PySem.W.fnIn K g = true
def dIxO {K : PySem.W.Frag} {T : Th K} (Cs : List Str) (cn : T.O → Str) (sd : SpP T) (xd : Xd T) (ta tb : TDE T) : TDE T := fun g cs Q => ta g cs fun s cs1 => tb g cs1 fun u cs2 => match s with
  | .dat (.obj o) => cn o ∈ Cs ∧ onDat u fun d => sd [.obj o, d] (fun d => Q (.dat d) cs2) xd
  | _ => False
theorem pd_ixO {Cs : List Str} {cn : T.O → Str} {ms : List Str} {sd : SpP T} {xd : Xd T} {a b : Expr} {ta tb : TDE T} {k : Nat} (C : CnT T cn Cs ms) (M : SpecM X.prog X.w X.K X.mg X.base k Cs "__getitem__" (spP T ef sd)) (hr : Room (k + 1) X.A) (hx : XP X ef B xd) (ha : PD B X a ta) (hb : PD B X b tb)
    (hs : ∀ x i, subscripted b true (.ref x) i = runValue (.builtin "lifetime.subscript" ⟨[.ref x, i], []⟩) := by intro _ _; with_unfolding_all rfl) : PD B X (.Subscript a b pos) (dIxO Cs cn sd xd ta tb) := by
  obtain ⟨g0, F, hM⟩ := M.ex
  refine PE.imp (pe_ixOwn ha hb hr hx.ps hs) fun σ H Q ⟨g, as, cs, q, st, h, k⟩ => ⟨g, as, cs, _, st, h, fun s cs1 h1 v as1 H1 x1 r1 => ⟨g, as1, cs1, _, st.step x1, h1, fun u cs2 h2 w as2 H2 x2 r2 => ?_⟩⟩
  cases s with
  | own i => exact h2.elim
  | dat d =>
    cases d with
    | obj o =>
      obtain ⟨hc, h2⟩ := h2
      obtain ⟨d, ed, h3⟩ := onDat_of h2
      subst ed
      have r1 := r1.mono x2.same x2.lk
      cases r1 with
      | @obj a _ r =>
        obtain ⟨dx, fs, e2, e3⟩ := C.ins _ _ _ r hc
        obtain ⟨m1, m2, m3⟩ := hM _ hc
        refine ⟨a, _, g0, dx, fs, _, rfl, (hid_some e2).2, m1, m3, m2, F, B.Z ++ ow as2, [.obj o, d], _, xd, x2.c.live, .cons (.obj r) (.cons r2 .nil), h3, fun d hd v H' S r => k _ _ hd v as2 H' (x1.trans (x2.trans (Ex.grow x2.c S))) r, fun y es hy cls dx H' S ex => ?_⟩
        exact ⟨y, es, hy, kept_of ((st.step x1).step x2) fun a o _ e => S a o e, ex.sub fun a z => List.mem_append_left _ z⟩
    | _ => exact h2.elim
end
end Dl
set_option Elab.async false
set_option linter.all false
set_option maxRecDepth 100000
set_option maxHeartbeats 1000000
/-! Defs that make lambdas: their tables of code as own objects; what is heard of a lambda; errors that are caught and kept. -/
namespace Dl
open PySem PySem.Spec PyProof.Rows L2 Ev LamX
section
variable {P : Program} {w : World} {K : PySem.W.Frag} {mg : Str → Option Value} {base : Heap} {CX : CXT} {k : Nat} {sp : Sp}
/-- a def whose body asks repr and makes lambdas, the code object told -/
theorem okGc {x qual : Str} {p : Str × Option Str} {params : Arguments} {body : List Stmt} {scope : Scope} {fd : FuncData} {N ps : List Str}
    (F : FunD K x qual params body scope [] [] (He.fAd K p) fd) (S : FnScope N ps scope)
    (hb : ∀ (kV doc pm : Value) (an : Option Addr) (cdv ct : Value) (us : List Value), us.length = ps.length →
      bindArgs (PySem.W.fnOf x qual params body scope .none kV doc pm an cdv ct) ⟨us, []⟩ = pure (ps.zip us))
    (len : ∀ vs H Q E, sp vs H Q E → vs.length = ps.length)
    (hbody : ∀ (A : Around) (outer : List Env) (s : Shared) (H : Hp) (vs : List V) (Q : VK) (E : XK), A.guards = some [] →
      Room k (A.deeper (envOfC qual scope s.heap.objs.size (He.fAd K p) (.ref (He.codeOf K p)))) → sp vs H Q E →
      ∃ t, PSs (cxOf CX P w K mg base N qual scope (He.fAd K p) (.ref (He.codeOf K p)) A outer s H E) body t ∧ t { nx := fun _ H' => Q .non H', rt := Q } (start N vs) H) :
    FnG P w K mg base CX (k + 1) (He.fAd K p) sp := by
  intro A outer s H us vs Q E hg hr e0 r hsp
  obtain ⟨oc, od, dV, kV, doc, pm, an, cdv, ct, osl, rfl, lk, hcd, hD, hK⟩ := F.ex
  obtain ⟨c, rfl⟩ := He.codeIn_ref hcd
  have ec : He.codeOf K p = c := He.codeOf_eq lk rfl
  have hl : us.length = ps.length := by rw [← r.length]; exact len _ _ _ _ hsp
  rcases hD with ⟨_, rfl⟩ | ⟨e, _⟩
  · refine StX.run_bnd (G := fun xs H2 => xs = vs ∧ H2 = H) lk hcd S hr e0 (fun A' Ex Q' h => ?_) fun s2 H2 xs ⟨ex, eH⟩ hr' => ?_
    · rw [hb kV doc pm an (.ref c) ct us hl]
      exact wpAny_pure (h s H vs us e0 (Un.kept fun _ _ z => z) rfl (fun _ _ z => z) r (r.length.trans hl) ⟨rfl, rfl⟩)
    · subst ex eH
      subst ec
      exact hbody A outer s2 _ _ Q E hg hr' hsp
  · exact absurd rfl e
end
theorem Paired.of_get {α β : Type} {F : α → β → Prop} : ∀ {l : List α} {m : List β}, l.length = m.length → (∀ (i : Nat) (a : α) (b : β), l[i]? = some a → m[i]? = some b → F a b) → Paired F l m
  | [], [], _, _ => .nil
  | a :: l, b :: m, hl, h => .cons (h 0 a b rfl rfl) (Paired.of_get (Nat.succ.inj hl) fun i x y e1 e2 => h (i + 1) x y (by simpa using e1) (by simpa using e2))
theorem Paired.getF {α β : Type} {F : α → β → Prop} {l : List α} {m : List β} (p : Paired F l m) {i : Nat} {a : α} {b : β} (e1 : l[i]? = some a) (e2 : m[i]? = some b) : F a b := by
  obtain ⟨x, h1, h2⟩ := Paired.ix p e2
  rw [e1] at h1
  cases h1
  exact h2
theorem Paired.split {α β : Type} {F : α → β → Prop} : ∀ {m1 : List β} {l : List α} {m2 : List β}, Paired F l (m1 ++ m2) → ∃ l1 l2, l = l1 ++ l2 ∧ Paired F l1 m1 ∧ Paired F l2 m2
  | [], l, m2, p => ⟨[], l, rfl, .nil, p⟩
  | b :: m1, _, m2, .cons a t => by
    obtain ⟨l1, l2, e, p1, p2⟩ := Paired.split t
    exact ⟨_ :: l1, l2, by rw [e]; rfl, .cons a p1, p2⟩
theorem Paired.app2 {α β : Type} {F : α → β → Prop} : ∀ {l1 : List α} {m1 : List β} {l2 : List α} {m2 : List β}, Paired F l1 m1 → Paired F l2 m2 → Paired F (l1 ++ l2) (m1 ++ m2)
  | _, _, _, _, .nil, h => h
  | _, _, _, _, .cons a b, h => .cons a (Paired.app2 b h)
theorem ow_some (L : List Addr) : ow (L.map some) = L := by
  unfold ow
  rw [List.filterMap_map]
  simp
section
variable {K : PySem.W.Frag} (T : Th K) (ef : Str → List Str)
def ButL (L : List Addr) (H H' : Hp) : Prop := ∀ a o, a ∉ L → H a = some o → H' a = some o
abbrev SpW : Type := List (Cell T.O) → List (D T.O) → (D T.O → List (Cell T.O) → Prop) → Xd T → Prop
/-- the own objects at hand: the first arguments', then the tables -/
abbrev tabC (tl : List (Addr × Str)) : List (Cell T.O) := tl.map fun t => .tab t.2
/-- a def that writes its first arguments and makes lambdas, itself or by others: their tables are tl -/
def spW (tl : List (Addr × Str)) (sd : SpW T) : Sp := fun vs H Q E => ∃ Z ps cs us ds q x, Live (Z ++ (ps ++ tl.map (·.1))) H ∧ (ps ++ tl.map (·.1)).Nodup ∧ (∀ p ∈ ps ++ tl.map (·.1), p ∉ Z) ∧ vs = ps.map .ref ++ us ∧
  Paired (CellAt T (hid (Z ++ (ps ++ tl.map (·.1))) H) H) ((ps ++ tl.map (·.1)).map some) (cs ++ tabC T tl) ∧ ps.length = cs.length ∧ RepL T (hid (Z ++ (ps ++ tl.map (·.1))) H) us ds ∧ sd cs ds q x ∧
  (∀ d cs', q d cs' → cs'.length = cs.length → ∀ v H', ButL (ps ++ tl.map (·.1)) H H' → Paired (CellAt T (hid (Z ++ (ps ++ tl.map (·.1))) H') H') ((ps ++ tl.map (·.1)).map some) (cs' ++ tabC T tl) → Rep T (hid (Z ++ (ps ++ tl.map (·.1))) H') v d → Q v H') ∧
  (∀ y ds, x y ds → ∀ cls dx H', ButL (ps ++ tl.map (·.1)) H H' → ExcAt T ef Z H' y ds cls dx → E cls dx H')
variable {T} {ef}
/-- the first cells, then tables -/
def onW : Nat → List Str → Cs T → (List (Cell T.O) → Prop) → Prop
  | 0, [], _, k => k []
  | 0, t :: ts, .tab q :: cs, k => q = t ∧ onW 0 ts cs k
  | 0, _ :: _, _, _ => False
  | _ + 1, _, .gone :: _, _ => False
  | n + 1, ts, c :: cs, k => onW n ts cs fun r => k (c :: r)
  | _ + 1, _, [], _ => False
theorem onW_of : ∀ {n : Nat} {ts : List Str} {cs : Cs T} {k : List (Cell T.O) → Prop}, onW n ts cs k → ∃ cs0 rest, cs = cs0 ++ (ts.map .tab ++ rest) ∧ cs0.length = n ∧ (∀ c ∈ cs0, c ≠ .gone) ∧ k cs0
  | 0, [], cs, k, h => ⟨[], cs, rfl, rfl, fun _ z => (by cases z), by cases cs <;> exact h⟩
  | 0, t :: ts, [], k, h => h.elim
  | 0, t :: ts, c :: cs, k, h => by
    cases c with
    | tab q =>
      obtain ⟨rfl, h⟩ := h
      obtain ⟨cs0, rest, e, l, g, hk⟩ := onW_of h
      have : cs0 = [] := List.eq_nil_of_length_eq_zero l
      subst this
      exact ⟨[], rest, by rw [e]; rfl, rfl, g, hk⟩
    | _ => exact h.elim
  | n + 1, ts, [], k, h => h.elim
  | n + 1, ts, c :: cs, k, h => by
    have h : c ≠ .gone ∧ onW n ts cs fun r => k (c :: r) := by
      cases c with
      | gone => exact h.elim
      | _ => exact ⟨fun z => (nomatch z), h⟩
    obtain ⟨cs0, rest, e, l, g, hk⟩ := onW_of h.2
    exact ⟨c :: cs0, rest, by rw [e]; rfl, by rw [List.length_cons, l], fun x hx => (List.mem_cons.mp hx).elim (fun z => z ▸ h.1) (g x), hk⟩
def enW (n : Nat) (ts : List Str) (q : D T.O → List (Cell T.O) → Prop) : En T := ⟨fun _ cs => onW n ts cs (q .non), fun d cs => onW n ts cs (q d), fun _ _ => False, fun _ _ => False⟩
/-- tables stand at these places -/
def TbAt (B : Ba) (m : Nat) (tl : List (Addr × Str)) : Prop := m + tl.length ≤ B.as0.length ∧ ∀ j t, tl[j]? = some t → ∀ p, B.as0[m + j]? = some (some p) → p = t.1
theorem TbAt.le {B B' : Ba} {m : Nat} {tl : List (Addr × Str)} (l : Le B B') (h : TbAt B m tl) : TbAt B' m tl := by
  refine ⟨Nat.le_trans h.1 l.2.lk.le, fun j t e p e' => ?_⟩
  have hj : j < tl.length := (List.getElem?_eq_some_iff.mp e).1
  rcases l.2.lk.at_ (m + j) (by have := h.1; omega) with z | z
  · exact h.2 j t e p (by rw [← z]; exact e')
  · rw [z] at e'; cases e'
def ownSl (n : Nat) : List (Sl T.O) := (List.range n).map .own
end
section
variable {P : Program} {w : World} {K : PySem.W.Frag} {mg : Str → Option Value} {base : Heap} {N : List Str} {qual : Str} {scope : Scope} {f : Addr} {cd : Value} {A : Around} {outer : List Env} {s : Shared} {H : Hp} {E : XK} {Q : VK} {vs : List V}
  {T : Th K} {ef : Str → List Str} {body : List Stmt}
theorem body_W {tl : List (Addr × Str)} {n : Nat} {sd : SpW T} {t : Xd T → TDS T}
    (der : ∀ (B : Ba) (xd : Xd T), TbAt B n tl → XP (cxR P w K mg base N qual scope f cd A outer s H E) (T := T) ef B xd → PDSs B (cxR P w K mg base N qual scope f cd A outer s H E) (T := T) body (t xd))
    (hn : ∀ cs ds q x, sd cs ds q x → cs.length = n)
    (hs : ∀ cs ds q x, sd cs ds q x → t x (enW n (tl.map (·.2)) q) (startG N (ownSl n ++ ds.map .dat)) (cs ++ tabC T tl)) (h : spW T ef tl sd vs H Q E) :
    ∃ t, PSs (cxR P w K mg base N qual scope f cd A outer s H E) body t ∧ t { nx := fun _ H' => Q .non H', rt := Q } (L2.start N vs) H := by
  obtain ⟨Z, ps, cs, us, ds, q, x, lv, nd, ap, rfl, pc, lp, rl, h, hq, hx⟩ := h
  have ln := hn _ _ _ _ h
  let as0 : As := (ps ++ tl.map (·.1)).map some
  have eo : ow as0 = ps ++ tl.map (·.1) := ow_some _
  have XX : XP (cxR P w K mg base N qual scope f cd A outer s H E) (T := T) ef ⟨Z, as0, H⟩ x := XP.of rfl rfl rfl rfl fun cls dx H' ⟨y, es, h1, h2, h3⟩ => hx y es h1 cls dx H' (fun a o n e => h2 a o (by rw [eo]; exact n) e) h3
  have tb : TbAt ⟨Z, as0, H⟩ n tl := by
    refine ⟨?_, fun j t e p e' => ?_⟩
    · show n + tl.length ≤ as0.length
      rw [List.length_map, List.length_append, List.length_map]; omega
    · have e' : as0[n + j]? = some (some p) := e'
      have e2 : as0[n + j]? = some (some t.1) := by
        rw [List.getElem?_map, List.getElem?_append_right (by omega), show n + j - ps.length = j by omega, List.getElem?_map, e]; rfl
      rw [e2] at e'
      cases e'
      rfl
  refine ⟨_, der ⟨Z, as0, H⟩ x tb XX, startG N (ownSl n ++ ds.map .dat), as0, cs ++ tabC T tl, _, ⟨⟨by rw [eo]; exact nd, by rw [eo]; exact ap, by rw [eo]; exact lv, by rw [eo]; exact pc⟩, env_start ?_, ⟨Lk.refl _, fun _ _ _ e => e, fun _ x y => absurd x y⟩⟩, hs cs ds q x h, ?_⟩
  · refine Paired.app2 (Paired.of_get (by unfold ownSl; simp; omega) fun i a b e1 e2 => ?_) (slots_dat (by rw [show hid ((Ba.mk Z as0 H).Z ++ ow as0) H = hid (Z ++ (ps ++ tl.map (·.1))) H by rw [eo]]; exact rl))
    have hi : i < ps.length := by have := (List.getElem?_eq_some_iff.mp e1).1; simpa using this
    unfold ownSl at e2
    rw [List.getElem?_map, List.getElem?_range (by omega)] at e2
    cases e2
    refine ⟨by show i < as0.length; rw [List.length_map, List.length_append]; omega, fun p e => ?_⟩
    have e : as0[i]? = some (some p) := e
    rw [List.getElem?_map, List.getElem?_append_left hi] at e
    rw [List.getElem?_map] at e1
    cases q : ps[i]? with
    | none => rw [q] at e; cases e
    | some y => rw [q] at e e1; cases e; cases e1; rfl
  have last : ∀ {as' : As} {cs' : Cs T} {H' : Hp} {k : List (Cell T.O) → Prop}, StC T Z as' cs' H' → Kp ⟨Z, as0, H⟩ as' H' → onW n (tl.map (·.2)) cs' k → ∃ cs0, k cs0 ∧ cs0.length = cs.length ∧ ButL (ps ++ tl.map (·.1)) H H' ∧
      Paired (CellAt T (hid (Z ++ (ps ++ tl.map (·.1))) H') H') ((ps ++ tl.map (·.1)).map some) (cs0 ++ tabC T tl) ∧ Same (hid (Z ++ ow as') H') (hid (Z ++ (ps ++ tl.map (·.1))) H') := fun {as' cs' H' k} st kp o => by
    obtain ⟨cs0, rest, e, l0, ng, hk⟩ := onW_of o
    have et : (tl.map (·.2)).map Cell.tab = tabC T tl := by rw [List.map_map]; rfl
    rw [et, ← List.append_assoc] at e
    have st0 := st.cells
    rw [e] at st0
    obtain ⟨a1, a2, ea, p1, p2⟩ := Paired.split st0
    have la : a1.length = as0.length := by
      rw [Paired.length p1, List.length_append, List.length_map, l0, List.length_map, List.length_append, List.length_map]; omega
    have e1 : a1 = as0 := by
      refine List.ext_getElem? fun i => ?_
      by_cases hi : i < a1.length
      · have h1 : as'[i]? = a1[i]? := by rw [ea, List.getElem?_append_left hi]
        rcases kp.lk.at_ i (by show i < as0.length; omega) with z | z
        · rw [← h1]; exact z
        · exfalso
          have hx : i < (cs0 ++ tabC T tl).length := by rw [← Paired.length p1]; exact hi
          have c1 := Paired.getF p1 (i := i) (a := none) (b := (cs0 ++ tabC T tl)[i]) (by rw [← h1]; exact z) (List.getElem?_eq_getElem hx)
          have : (cs0 ++ tabC T tl)[i] = .gone := by
            cases q : (cs0 ++ tabC T tl)[i] with
            | gone => rfl
            | _ => rw [q] at c1; exact c1.elim
          have hm : Cell.gone ∈ cs0 ++ tabC T tl := this ▸ List.getElem_mem hx
          rcases List.mem_append.mp hm with m | m
          · exact ng _ m rfl
          · obtain ⟨t, _, z⟩ := List.mem_map.mp m; cases z
      · rw [List.getElem?_eq_none (by omega), List.getElem?_eq_none (by omega)]
    subst e1
    have sub : ∀ a ∈ ps ++ tl.map (·.1), a ∈ ow as' := fun a h => by
      rw [ea]
      unfold ow
      rw [List.filterMap_append]
      exact List.mem_append_left _ (by rw [show List.filterMap id as0 = ow as0 from rfl, eo]; exact h)
    have S : Same (hid (Z ++ ow as') H') (hid (Z ++ (ps ++ tl.map (·.1))) H') := hid_same (same_refl _) fun a h => .inl (by
      rcases List.mem_append.mp h with h | h
      · exact List.mem_append_left _ h
      · exact List.mem_append_right _ (sub a h))
    exact ⟨cs0, hk, by omega, fun a o n e => kp.kept a o (by rw [show (Ba.mk Z as0 H).as0 = as0 from rfl, eo]; exact n) e, Paired.mapP p1 fun x y r => r.mono S fun _ _ => rfl, S⟩
  refine ⟨fun g cs' hh as' σ' H' st => ?_, fun d cs' hh v as' H' fi => ?_, fun _ _ h => h.elim, fun _ _ h => h.elim⟩
  · obtain ⟨cs0, hk, l, b, pc', S⟩ := last st.c st.k hh
    exact hq _ _ hk l _ H' b pc' .non
  · obtain ⟨cs0, hk, l, b, pc', S⟩ := last fi.c fi.k hh
    exact hq _ _ hk l _ H' b pc' (fi.r.mono S)
end
end Dl
set_option Elab.async false
set_option linter.all false
set_option maxRecDepth 100000
set_option maxHeartbeats 1000000
/-! Calls of defs that make lambdas. -/
namespace Dl
open PySem PySem.Spec PyProof.Rows L2 Ev LamX
section
variable {P : Program} {w : World} {K : PySem.W.Frag} {mg : Str → Option Value} {base : Heap} {N ps : List Str} {x qual : Str} {params : Arguments} {scope : Scope} {fd : FuncData} {p : Str × Option Str}
  {T : Th K} {ef : Str → List Str} {body : List Stmt} {k n : Nat} {tl : List (Addr × Str)}
abbrev DerW (P : Program) (w : World) (K : PySem.W.Frag) (mg : Str → Option Value) (base : Heap) (N : List Str) (qual : Str) (scope : Scope) (p : Str × Option Str) (k n : Nat) (tl : List (Addr × Str)) {T : Th K} (ef : Str → List Str) (body : List Stmt) (t : Xd T → TDS T) : Prop :=
  ∀ (A : Around) (outer : List Env) (s : Shared) (H : Hp) (E : XK), A.guards = some [] → Room k (A.deeper (envOfC qual scope s.heap.objs.size (He.fAd K p) (.ref (He.codeOf K p)))) →
    ∀ (B : Ba) (xd : Xd T), TbAt B n tl → XP (cxR P w K mg base N qual scope (He.fAd K p) (.ref (He.codeOf K p)) A outer s H E) (T := T) ef B xd → PDSs B (cxR P w K mg base N qual scope (He.fAd K p) (.ref (He.codeOf K p)) A outer s H E) (T := T) body (t xd)
theorem okWG {sd : SpW T} {t : Xd T → TDS T} (F : FunD K x qual params body scope [] [] (He.fAd K p) fd) (S : FnScope N ps scope) (hb : Bnd x qual params body scope ps) (der : DerW P w K mg base N qual scope p k n tl ef body t)
    (hn : ∀ cs ds q x, sd cs ds q x → cs.length = n) (ar : ∀ cs ds q x, sd cs ds q x → n + ds.length = ps.length)
    (hs : ∀ cs ds q x, sd cs ds q x → t x (enW n (tl.map (·.2)) q) (startG N (ownSl n ++ ds.map .dat)) (cs ++ tabC T tl)) : FnG P w K mg base (L2.CX P w) (k + 1) (He.fAd K p) (spW T ef tl sd) :=
  okGc F S hb (fun vs H Q E ⟨Z, ps, cs, us, ds, q, x, _, _, _, e, _, lp, rl, h, _⟩ => by rw [e, List.length_append, List.length_map, rl.len, lp, hn _ _ _ _ h]; exact ar cs ds q x h) fun A outer s H vs Q E hg hr h =>
    body_W (fun B xd tb XX => der A outer s H E hg hr B xd tb XX) hn hs h
end
section
variable {X : Cx} {T : Th X.K} {B : Ba} {ef : Str → List Str} {xd : Xd T} {e : Expr} {es : List Expr} {pos p : Pos} {k n m : Nat} {x : Str} {tl : List (Addr × Str)} {g : G T} {as as1 : As} {cs cs1 : Cs T} {σ : L2.St} {H H1 : Hp}
def tabsL {O : Type} : List Str → List (Cell O) → Prop
  | [], _ => True
  | t :: ts, .tab q :: cs => q = t ∧ tabsL ts cs
  | _ :: _, _ => False
theorem tabsL_of {O : Type} : ∀ {ts : List Str} {cs : List (Cell O)}, tabsL ts cs → ∀ (j : Nat) (t : Str), ts[j]? = some t → cs[j]? = some (.tab t)
  | [], _, _, j, t, e => by simp at e
  | t :: ts, [], h, _, _, _ => h.elim
  | t :: ts, c :: cs, h, j, u, e => by
    cases c with
    | tab q =>
      obtain ⟨rfl, h⟩ := h
      cases j with
      | zero => simp at e; subst e; rfl
      | succ j => simpa using tabsL_of h j u (by simpa using e)
    | _ => exact h.elim
def dCallW {K : PySem.W.Frag} {T : Th K} (m : Nat) (ts : List Str) (n : Nat) (sd : SpW T) (xd : Xd T) (t : TDA T) : TDE T := fun g cs Q => t g cs fun ss cs1 => tabsL ts (cs1.drop m) ∧ match n, ss with
  | 0, ss => onDats ss fun ds => sd [] ds (fun d _ => Q (.dat d) cs1) xd
  | _ + 1, .own i :: rest => (i < m ∨ m + ts.length ≤ i) ∧ match cs1[i]? with
    | some c => c ≠ .gone ∧ onDats rest fun ds => sd [c] ds (fun d cs' => match cs' with
      | [c'] => Q (.dat d) (cs1.set i c')
      | _ => True) xd
    | none => False
  | _ + 1, _ => False
/-- the tables' addresses among the own ones -/
theorem tabs_at (tb : TbAt B m tl) (st : Stt T B g as cs σ H) (h : tabsL (tl.map (·.2)) (cs.drop m)) : ∀ (j : Nat) (t : Addr × Str), tl[j]? = some t → as[m + j]? = some (some t.1) ∧ cs[m + j]? = some (.tab t.2) := fun j t e => by
  have hc := tabsL_of h j t.2 (by rw [List.getElem?_map, e]; rfl)
  rw [List.getElem?_drop] at hc
  refine ⟨?_, hc⟩
  obtain ⟨o, e1, e2⟩ := Paired.ix st.c.cells hc
  cases o with
  | none => exact e2.elim
  | some p =>
    have hj : j < tl.length := (List.getElem?_eq_some_iff.mp e).1
    rcases st.k.lk.at_ (m + j) (by have := tb.1; omega) with z | z
    · rw [e1] at z
      rw [tb.2 j t e p z.symm] at e1
      exact e1
    · rw [z] at e1; cases e1
theorem nodup_at {as : As} (nd : (ow as).Nodup) {i j : Nat} {p : Addr} (e1 : as[i]? = some (some p)) (e2 : as[j]? = some (some p)) : i = j := own_inj nd e1 e2
/-- what is hidden of a call with the own objects L -/
theorem rest_mem {Z L : List Addr} {as : As} (hL : ∀ p ∈ L, p ∈ ow as) : ∀ a, a ∈ (Z ++ (ow as).filter fun a => decide (a ∉ L)) ++ L ↔ a ∈ Z ++ ow as := fun a => by
  simp only [List.mem_append, List.mem_filter, decide_eq_true_eq]
  constructor
  · rintro ((z | z) | z)
    · exact .inl z
    · exact .inr z.1
    · exact .inr (hL a z)
  · rintro (z | z)
    · exact .inl (.inl z)
    · by_cases y : a ∈ L
      · exact .inr y
      · exact .inl (.inr ⟨z, y⟩)
/-- behind a call that wrote the own objects L alone -/
theorem Ex.wrote {L : List Addr} {cs' : Cs T} {H' : Hp} (c : StC T B.Z as cs H) (hL : ∀ p ∈ L, p ∈ ow as) (b : ButL L H H') (hl : cs'.length = cs.length) (hc : ∀ (i : Nat) (p : Addr) (u : Cell T.O), p ∈ L → as[i]? = some (some p) → cs'[i]? = some u → CellAt T (hz B as H') H' (some p) u)
    (ho : ∀ (i : Nat), (∀ p, as[i]? = some (some p) → p ∉ L) → cs'[i]? = cs[i]?) : Ex T B as H as cs' H' := by
  have hs : Same (hz B as H) (hz B as H') := fun a o e => by
    obtain ⟨n, e⟩ := hid_some e
    exact (hid_out n).trans (b a o (fun z => n (List.mem_append_right _ (hL a z))) e)
  have stay : ∀ a ∈ B.Z ++ ow as, a ∉ L → H' a = H a := fun a h n => by
    cases ea : H a with
    | none => exact absurd ea (c.live a h).ne
    | some o => exact b a o n ea
  have cells : Paired (CellAt T (hz B as H') H') as cs' := Paired.of_get (by rw [hl]; exact c.len) fun i o u e1 e2 => by
    cases o with
    | none =>
      rw [ho i fun p e => by rw [e1] at e; cases e] at e2
      exact (Paired.getF c.cells e1 e2).mono hs fun a z => (by cases z)
    | some p =>
      by_cases hp : p ∈ L
      · exact hc i p u hp e1 e2
      · rw [ho i fun q e => by rw [e1] at e; cases e; exact hp] at e2
        exact (Paired.getF c.cells e1 e2).mono hs fun a z => by cases z; exact stay _ (List.mem_append_right _ (own_in e1)) hp
  refine ⟨⟨c.nd, c.apart, fun a h => ?_, cells⟩, Lk.refl _, hs, fun _ x y => absurd x y, fun a h => stay a (List.mem_append_left _ h) fun z => c.apart a (hL a z) h⟩
  by_cases y : a ∈ L
  · obtain ⟨i, hi⟩ := List.getElem?_of_mem (mem_ow.mp (hL a y))
    have hx : i < cs'.length := by rw [hl, ← c.len]; exact (List.getElem?_eq_some_iff.mp hi).1
    exact (hc i a _ y hi (List.getElem?_eq_getElem hx)).nco
  · rw [stay a h y]; exact c.live a h
theorem callW_step {sd : SpW T} {t : TDA T} {Q : VK} (tb : TbAt B m tl) (h : lE B (dCallW m (tl.map (·.2)) n sd xd t) σ H Q) (hn : ∀ cs ds q x, sd cs ds q x → cs.length = n) : lA B t σ H fun vs H1 => spW T ef tl sd vs H1 Q (liftX T ef B xd) := by
  obtain ⟨g, as, cs, q, st, h, k⟩ := h
  refine ⟨g, as, cs, _, st, h, fun ss cs1 h1 vs as1 H1 x1 r1 => ?_⟩
  obtain ⟨ht, h1⟩ := h1
  have st1 := st.step x1
  have ta := tabs_at tb st1 ht
  have tin : ∀ p ∈ tl.map (·.1), p ∈ ow as1 := fun p hp => by
    obtain ⟨t, h, rfl⟩ := List.mem_map.mp hp
    obtain ⟨j, hj⟩ := List.getElem?_of_mem h
    exact own_in (ta j t hj).1
  have tnd : (tl.map (·.1)).Nodup := List.pairwise_iff_getElem.mpr fun i j hi hj hij z => by
    have hj' : j < tl.length := by simpa using hj
    have hi' : i < tl.length := by omega
    rw [List.getElem_map, List.getElem_map] at z
    have e1 := (ta i tl[i] (List.getElem?_eq_getElem hi')).1
    have e2 := (ta j tl[j] (List.getElem?_eq_getElem hj')).1
    rw [z] at e1
    have := nodup_at x1.c.nd e1 e2
    omega
  have tcell : ∀ {h' H' : Hp}, Paired (CellAt T h' H') ((tl.map (·.1)).map some) (tabC T tl) → ∀ (i : Nat) (p : Addr), p ∈ tl.map (·.1) → as1[i]? = some (some p) → ∃ q, cs1[i]? = some (.tab q) ∧ CellAt T h' H' (some p) (.tab q) := fun {h' H'} pc i p hp e => by
    obtain ⟨t, ht', rfl⟩ := List.mem_map.mp hp
    obtain ⟨j, hj⟩ := List.getElem?_of_mem ht'
    have : i = m + j := nodup_at x1.c.nd e (ta j t hj).1
    subst this
    exact ⟨_, (ta j t hj).2, Paired.getF pc (i := j) (by rw [List.getElem?_map, List.getElem?_map, hj]; rfl) (by rw [List.getElem?_map, hj]; rfl)⟩
  have tpair : Paired (CellAt T (hz B as1 H1) H1) ((tl.map (·.1)).map some) (tabC T tl) := Paired.of_get (by simp) fun i o u e1 e2 => by
    rw [List.getElem?_map, List.getElem?_map] at e1
    rw [List.getElem?_map] at e2
    cases ei : tl[i]? with
    | none => rw [ei] at e1; cases e1
    | some t => rw [ei] at e1 e2; cases e1; cases e2; exact Paired.getF x1.c.cells (ta i t ei).1 (ta i t ei).2
  match n, ss, h1, hn with
  | 0, ss, h1, hn =>
    obtain ⟨ds, e1, h1⟩ := onDats_of h1
    have mem := rest_mem (Z := B.Z) tin
    have eh : ∀ H', hid ((B.Z ++ (ow as1).filter fun a => decide (a ∉ tl.map (·.1))) ++ ([] ++ tl.map (·.1))) H' = hz B as1 H' := fun H' => hid_congr (by rw [List.nil_append]; exact mem)
    refine ⟨B.Z ++ (ow as1).filter fun a => decide (a ∉ tl.map (·.1)), [], [], vs, ds, _, xd, fun a h => x1.c.live a ((mem a).mp (by rw [List.nil_append] at h; exact h)), by rw [List.nil_append]; exact tnd, fun p hp z => ?_, rfl, by rw [eh]; exact tpair, rfl, by rw [eh]; exact datL_rep r1 e1, h1, fun d cs' hd hl v H' b pc r => ?_, fun y es hy cls dx H' b ex => ?_⟩
    · rw [List.nil_append] at hp
      rcases List.mem_append.mp z with z | z
      · exact x1.c.apart p (tin p hp) z
      · have := (List.mem_filter.mp z).2
        rw [decide_eq_true_eq] at this
        exact this hp
    · have : cs' = [] := List.eq_nil_of_length_eq_zero hl
      subst this
      rw [eh] at pc r
      rw [List.nil_append] at b
      have x2 : Ex T B as1 H1 as1 cs1 H' := Ex.wrote x1.c tin b rfl (fun i p u hp e1 e2 => by
        obtain ⟨q, f1, f2⟩ := tcell pc i p hp e1
        rw [f1] at e2; cases e2; exact f2) fun _ _ => rfl
      exact k _ _ hd v as1 H' (x1.trans x2) r
    · exact ⟨y, es, hy, kept_of st1 fun a o n e => b a o (fun z => n (tin a (by rw [List.nil_append] at z; exact z))) e, ex.sub fun a z => List.mem_append_left _ z⟩
  | n + 1, [], h1, _ => exact h1.elim
  | n + 1, .dat _ :: _, h1, _ => exact h1.elim
  | n + 1, .own i :: rest, h1, hn =>
    obtain ⟨hi, h1⟩ := h1
    cases r1 with
    | @cons v0 _ vs _ ra rr =>
      cases ec : cs1[i]? with
      | none => rw [ec] at h1; exact h1.elim
      | some c =>
        rw [ec] at h1
        obtain ⟨ng, h1⟩ := h1
        obtain ⟨ds, e1, h1⟩ := onDats_of h1
        obtain ⟨o, a1, a2⟩ := Paired.ix x1.c.cells ec
        cases o with
        | none => cases c <;> first | exact a2.elim | exact absurd rfl ng
        | some p =>
          have hv := ra.2 p a1
          subst hv
          have pin := own_in a1
          have pnt : p ∉ tl.map (·.1) := fun z => by
            obtain ⟨t, h, e⟩ := List.mem_map.mp z
            obtain ⟨j, hj⟩ := List.getElem?_of_mem h
            have f := (ta j t hj).1
            rw [e] at f
            have := nodup_at x1.c.nd a1 f
            have hj' : j < tl.length := (List.getElem?_eq_some_iff.mp hj).1
            rw [List.length_map] at hi
            omega
          have lin : ∀ a ∈ p :: tl.map (·.1), a ∈ ow as1 := fun a h => (List.mem_cons.mp h).elim (fun z => z ▸ pin) (tin a)
          have mem := rest_mem (Z := B.Z) lin
          have eh : ∀ H', hid ((B.Z ++ (ow as1).filter fun a => decide (a ∉ p :: tl.map (·.1))) ++ ([p] ++ tl.map (·.1))) H' = hz B as1 H' := fun H' => hid_congr mem
          refine ⟨B.Z ++ (ow as1).filter fun a => decide (a ∉ p :: tl.map (·.1)), [p], [c], vs, ds, _, xd, fun a h => x1.c.live a ((mem a).mp h), List.nodup_cons.mpr ⟨pnt, tnd⟩, fun q hq z => ?_, rfl, by rw [eh]; exact .cons a2 tpair, rfl, by rw [eh]; exact datL_rep rr e1, h1, fun d cs' hd hl v H' b pc r => ?_, fun y es hy cls dx H' b ex => ?_⟩
          · rcases List.mem_append.mp z with z | z
            · exact x1.c.apart q (lin q hq) z
            · have := (List.mem_filter.mp z).2
              rw [decide_eq_true_eq] at this
              exact this hq
          · obtain ⟨c', rfl⟩ : ∃ c', cs' = [c'] := match cs', hl with | [c'], _ => ⟨c', rfl⟩
            rw [eh] at pc r
            have hd : q (.dat d) (cs1.set i c') := hd
            cases pc with
            | cons pc1 pc2 =>
              have x2 : Ex T B as1 H1 as1 (cs1.set i c') H' := Ex.wrote x1.c lin b (by rw [List.length_set]) (fun j q u hq f1 f2 => by
                rcases List.mem_cons.mp hq with rfl | hq
                · have : i = j := nodup_at x1.c.nd a1 f1
                  subst this
                  rw [List.getElem?_set_self (List.getElem?_eq_some_iff.mp ec).1] at f2
                  cases f2
                  exact pc1
                · obtain ⟨q', g1, g2⟩ := tcell pc2 j q hq f1
                  have nij : i ≠ j := fun z => by
                    subst z; rw [a1] at f1; cases f1; exact pnt hq
                  rw [List.getElem?_set_ne nij, g1] at f2
                  cases f2; exact g2) fun j hj => List.getElem?_set_ne fun z => by subst z; exact hj p a1 List.mem_cons_self
              exact k _ _ hd v as1 H' (x1.trans x2) r
          · exact ⟨y, es, hy, kept_of st1 fun a o n e => b a o (fun z => n (lin a z)) e, ex.sub fun a z => List.mem_append_left _ z⟩
theorem pd_defW {sd : SpW T} {t : TDA T} (D : DefG X.prog X.w X.K X.mg X.base (L2.CX X.prog X.w) k x (spW T ef tl sd)) (hn : ∀ cs ds q x, sd cs ds q x → cs.length = n) (tb : TbAt B m tl) (hgd : X.A.guards = some []) (hr : Room k X.A) (hx : XP X ef B xd) (ha : PDA B X (e :: es) t) (hg : Gl X x := by rfl) (hdb : (x == ("__debug__" : Str)) = false := by decide)
    (he : starEach (e :: es) X.env = (false, eval e X.env) :: starEach es X.env := by rfl) (hpl : (backTo pos (starEach es X.env)).any (·.1) = false := by rfl) : PD B X (.Call (.Name x p) (e :: es) [] pos) (dCallW m (tl.map (·.2)) n sd xd t) :=
  PE.imp (pe_defG D hgd hr hg hx.ps ha hdb he hpl) fun σ H Q h => by
    have h := callW_step (ef := ef) tb h hn
    have e : (fun (vs : List V) (H1 : Hp) => spW T ef tl sd (vs ++ []) H1 Q (liftX T ef B xd)) = fun vs H1 => spW T ef tl sd vs H1 Q (liftX T ef B xd) := by funext vs H1; rw [List.append_nil]
    show lA B t σ H fun vs H1 => spW T ef tl sd (vs ++ []) H1 Q (liftX T ef B xd)
    rw [e]; exact h
end
end Dl
set_option Elab.async false
set_option linter.all false
set_option maxRecDepth 100000
set_option maxHeartbeats 1000000
/-! A lambda handed to a def: what the table's change leaves; what is heard. -/
namespace Dl
open PySem PySem.Spec PyProof.Rows L2 Ev LamX
/-- what the making of a lambda may do: nothing, or the table at P grows and a code object is new -/
def Lam1 (P : Addr) (q : Str) (H H1 : Hp) : Prop := H1 = H ∨ ∃ (ps : Array Value) (d : Addr), H d = none ∧ H1 = upd (upd H P (.tbl ps)) d (CodeO d q)
theorem Lam1.but {P : Addr} {q : Str} {H H1 : Hp} (h : Lam1 P q H H1) : ButL [P] H H1 := fun a o n e => by
  rcases h with rfl | ⟨ps, d, nd, rfl⟩
  · exact e
  · rw [upd_ne (ne_of_none e nd), upd_ne (fun z => n (by rw [z]; exact List.mem_singleton.mpr rfl))]
    exact e
section
variable {X : Cx} {pins : List (Addr × Obj)} {σ : L2.St} {H : Hp} {s : Shared}
theorem lam_one {c P : Addr} {ar : Arguments} {bd : Expr} {sc : Scope} {ps0 : Pos} {E Q : Value → Shared → Prop} (J : Inv X pins σ H s) (tb : TabB X.base X.mg c P) (cd : X.env.code = .ref c) (ts : TabS H P (X.env.qual ++ "<lambda>")) (dd : defaultsOf ar X.env = ([], []))
    (fr : ∀ y ∈ sc.names, y.2 = .free → ∃ c, X.env.cells.lookup y.1 = some c)
    (k : ∀ (f d : Addr) (pm cv : Value) (H1 : Hp) (z : Shared), Inv X pins σ H1 z → Lam1 P (X.env.qual ++ "<lambda>") H H1 → TabS H1 P (X.env.qual ++ "<lambda>") →
      z.heap.get? f = some (PySem.W.kla_obj "<lambda>" (X.env.qual ++ "<lambda>") ar bd sc (cloFrom X.env.cells sc.names []) pm d cv) → H1 f = none → f ∉ frs X.stack → H1 d = some (CodeO d (X.env.qual ++ "<lambda>")) → Q (.ref f) z) :
    wpAny (model X.prog X.w) X.A (eval (.Lambda ar bd sc ps0) X.env) Q E s := by
  generalize eq : X.env.qual ++ "<lambda>" = q at *
  obtain ⟨tab, atP, trip, known⟩ := ts
  refine PySem.W.kla_eval dd ?_
  have there := J.hok P _ atP
  have blt : s.heap.BuiltinsAt X.mg P := tb.bm.keeps J.bk
  have far : ∀ f, s.heap.objs.size ≤ f → f ∉ frs X.stack := fun f big m => (List.mem_cons.mp (J.stkSub _ m)).elim
    (fun e => absurd (e ▸ J.lt) (Nat.not_lt.mpr big)) fun e => J.nofs big e
  cases found : codeAmong ps0 tab.toList with
  | some cv =>
    obtain ⟨d, e1, e2⟩ := known ps0 cv found
    subst e1
    refine PySem.W.kla_makeFunctionHit (mg := X.mg) (c := c) (P := P) (ps := tab) (closure_ok fr) J.ok.glob (J.mod.glob.keeps J.bk) cd (tb.code.keeps J.bk) there trip found blt fun cv2 g tk up big => ?_
    subst eq
    exact k g.objs.size d ((X.mg "__name__").getD .none) cv2 H _ (J.kept fun b o e => Heap.get?_push_of_some _ (up b o e)) (.inl rfl) ⟨tab, atP, trip, known⟩ (Heap.get?_push_size _ rfl) (J.hok.fresh big) (far _ big) e2
  | none =>
    refine PySem.W.kla_makeFunction (mg := X.mg) (c := c) (P := P) (ps := tab) (closure_ok fr) J.ok.glob (J.mod.glob.keeps J.bk) cd (tb.code.keeps J.bk) there trip found tb.gP blt fun d cv2 g tk up big lt rec grown => ?_
    obtain ⟨d2, oc, vs, t, e2, hoc, hdt, hnm⟩ := rec
    cases e2
    have nd : H d = none := J.hok.fresh big
    have wide : s.heap.objs.size ≤ g.objs.size := Nat.le_trans big (Nat.le_of_lt lt)
    let more : Array Value := #[rawInt ps0.line, rawInt ps0.col, .ref d]
    have J1 := inv_table (q := q) (t' := tk) (more := more) (h' := g.push (PySem.W.kla_obj "<lambda>" q ar bd sc (cloFrom X.env.cells sc.names []) ((X.mg "__name__").getD .none) d cv2)) J atP
      (fun b o hb e => Heap.get?_push_of_some _ (up b o hb e)) (by subst eq; exact Heap.get?_push_of_some _ grown) big ⟨oc, vs, t, Heap.get?_push_of_some _ hoc, hdt, by subst eq; exact hnm⟩
    have eL : (tab ++ more).toList = tab.toList ++ [rawInt ps0.line, rawInt ps0.col, .ref d] := by simp [more]
    have ndP : P ≠ d := ne_of_none atP nd
    have ngd : g.objs.size ≠ d := Nat.ne_of_gt lt
    have ngP : g.objs.size ≠ P := Nat.ne_of_gt (Nat.lt_of_lt_of_le (Heap.lt_size there) wide)
    subst eq
    refine k g.objs.size d ((X.mg "__name__").getD .none) cv2 _ _ J1 (.inr ⟨_, d, nd, rfl⟩) ⟨tab ++ more, by rw [upd_ne ndP, upd_same], by rw [eL]; exact PySem.TriplesOk_snoc _ _ _ _ trip, fun p' u hu => ?_⟩ (Heap.get?_push_size _ rfl) (by rw [upd_ne ngd, upd_ne ngP]; exact J.hok.fresh wide) (far _ wide) upd_same
    rw [eL] at hu
    rcases among_app _ trip hu with z | z
    · obtain ⟨d0, f1, f2⟩ := known p' u z
      refine ⟨d0, f1, ?_⟩
      rw [upd_ne (ne_of_none f2 nd), upd_ne (fun y => by rw [y, atP] at f2; exact codeO_ne tab (Option.some.inj f2).symm)]
      exact f2
    · exact ⟨d, z, upd_same⟩
end
section
variable {X : Cx}
def tLamS (P : Addr) (q : Str) (TT : (XK → Hp → VK → Prop) → Hp → VK → Prop) (t : XK → TE) : TE := fun σ H Q => TabS H P q ∧ ∀ H1, Lam1 P q H H1 → TabS H1 P q → TT (fun E H' Q' => t E σ H' Q') H1 Q
/-- h(lambda: bd) -/
theorem pe_lamS {TT : (XK → Hp → VK → Prop) → Hp → VK → Prop} {x a : Str} {g c P : Addr} {n : Nat} {pg : Arguments} {bg : List Stmt} {sg : Scope} {dV kV doc pm cdv ct oc : Value} {an od : Option Addr} {osl : Array (Option Value)} {Ng : List Str}
    {ar : Arguments} {bd : Expr} {sc : Scope} {t : XK → TE} {p p0 pos : Pos} (hg : Gl X x) (hm : X.mg x = some (.ref g)) (hk : PySem.W.keepIn X.K (.ref g) = true)
    (lk : X.K.lookup g = some ⟨oc, od, .func (PySem.W.fnOf x x pg bg sg dV kV doc pm an cdv ct), osl⟩) (hcg : PySem.W.codeIn X.K cdv x = true) (hb : L2.Binds X.K (PySem.W.fnOf x x pg bg sg dV kV doc pm an cdv ct) [a] []) (Sg : FnScope Ng [a] sg) (hN : Ng[0]? = some a) (hv : Vis sg a)
    (gives : GivesTo X Ng x sg g cdv bg a (X.env.qual ++ "<lambda>") TT)
    (tb : TabB X.base X.mg c P) (cd : X.env.code = .ref c) (room : Room (n + 2) X.A) (L : LamS X.env.scope sc) (dd : defaultsOf ar X.env = ([], []))
    (bind : ∀ (q : Str) (cl : List (Str × Addr)) (pm cv ctv : Value), bindArgs (PySem.W.kla_fn "<lambda>" q ar bd sc cl pm cv ctv) ⟨[], []⟩ = pure [])
    (inner : ∀ (A : Around) (outer : List Env) (s : Shared) (H : Hp) (E : XK) (f d : Addr), Room n (A.deeper (lamEnv X sc s.heap.objs.size f d)) → PE (lamCx X A outer s H E sc f d) bd (t E))
    (hx : (x == ("__debug__" : Str)) = false := by decide) (ha : (a == ("__debug__" : Str)) = false := by decide) (hac : (a == ("__classdict__" : Str)) = false := by decide) :
    PE X (.Call (.Name x p) [.Lambda ar bd sc p0] [] pos) (tLamS P (X.env.qual ++ "<lambda>") TT t) := by
  refine ⟨fun pins s σ H Q J ⟨tab, heard⟩ => wpAny_Call_Name_kw (ld_glob J hg hm ?_ hx)⟩
  refine PySem.W.callWith_K (h₀ := X.base) J.ok.mod.kin hk ?_ (by rfl) (by rfl)
  show wpAny _ _ (spliced ((false, eval (.Lambda ar bd sc p0) X.env) :: backTo pos (starEach [] X.env))) _ _ s
  refine Calls.spliced_cons (lam_one J tb cd tab dd (L.has J.ok) fun f d pm' cv H1 z J1 one T1 atF nF offF atD => Calls.spliced_nil ⟨J1.kIn, ?_⟩)
  have run : codeAny (model X.prog X.w) X.A (.call (.ref g) ⟨[.ref f], []⟩) (CR C8.CX0 X.stack X.prog X.w H1 z Q C8.E0) z :=
    run_ofS (N := Ng) (ps := [a]) (us := [.ref f]) (vs := [.ref f]) lk hcg Sg room J1.env0 (hb z [.ref f] J1.kIn rfl) (.cons rfl .nil) rfl fun room' => by
      obtain ⟨t', h1, h2⟩ := gives f d z H1 Q (fun E H' Q' => t E σ H' Q') (fun W pn xe E p1 p2 tk hW => LamX.pe_act (i := 0) J1 L atF nF offF (bind _ _ _ _ _) tk hW room' (fun A outer s H r => inner A outer s H E f d r) hN hv ha hac) atD (heard H1 one T1)
      exact ⟨t', h1.nox, h2⟩
  refine wpAny_call (codeAny_mono run fun r z2 hq => ?_)
  cases r with
  | ok fl =>
    cases fl with
    | ret u => exact J1.after hq
    | _ => exact False.elim hq
  | error e => exact False.elim hq
end
/-! ### by trees -/
section
variable {K : PySem.W.Frag} (T : Th K) (ef : Str → List Str)
abbrev ActD : Type := (D T.O → Prop) → Xd T → Prop
/-- what a lambda does, told by trees: from the heap H1 on, Z hidden -/
def LamOk (Z : List Addr) (H1 : Hp) (tl : XK → Hp → VK → Prop) (act : ActD T) : Prop := ∀ (H : Hp) (Q : VK) (E : XK) (q : D T.O → Prop) (x : Xd T), Same H1 H → act q x →
  (∀ d, q d → ∀ v H', Same H H' → Rep T (hid Z H') v d → Q v H') → (∀ y ds, x y ds → ∀ cls dx H', Same H H' → ExcAt T ef Z H' y ds cls dx → E cls dx H') → tl E H Q
/-- what a def makes of a lambda -/
def TTD (F : ActD T → (D T.O → Prop) → Prop) (tl : XK → Hp → VK → Prop) (H : Hp) (Q : VK) : Prop :=
  ∃ Z act k, Live Z H ∧ LamOk T ef Z H tl act ∧ F act k ∧ ∀ d, k d → ∀ v H', Same H H' → Rep T (hid Z H') v d → Q v H'
/-- the slots without the own objects -/
def datG {O : Type} (g : List (Option (Sl O))) : List (Option (Sl O)) := g.map fun s => match s with
  | some (.dat d) => some (.dat d)
  | _ => none
def ntab {O : Type} : Cell O → Bool
  | .tab _ => false
  | _ => true
variable {T} {ef}
def dHeard (j : Nat) (q : Str) (F : ActD T → (D T.O → Prop) → Prop) (td : Xd T → TDE T) : TDE T := fun g cs Q => (match cs[j]? with
  | some (.tab q') => q' = q
  | _ => False) ∧ F (fun q x => td x (datG g) [] fun s _ => onDat s q) (fun d => Q (.dat d) cs)
theorem env_dat {as : As} {h h' : Hp} {g : G T} {σ : L2.St} (S : Same h h') (e : EnvAt T as h g σ) : EnvAt T [] h' (datG g) σ := by
  refine ⟨by unfold datG; rw [List.length_map]; exact e.len, fun i s hs => ?_⟩
  unfold datG at hs
  rw [List.getElem?_map] at hs
  cases q : g[i]? with
  | none => rw [q] at hs; cases hs
  | some o =>
    rw [q] at hs
    cases o with
    | none => cases hs
    | some u =>
      cases u with
      | own i => cases hs
      | dat d =>
        cases hs
        obtain ⟨v, h1, h2⟩ := e.at_ i (.dat d) q
        exact ⟨v, h1, Rep.mono S h2⟩
end
section
variable {X : Cx} {T : Th X.K} {B : Ba} {ef : Str → List Str}
/-- the reading of a lambda's body, at whatever heap -/
def tLamD {K : PySem.W.Frag} {T : Th K} (ef : Str → List Str) (td : Xd T → TDE T) (E : XK) : TE := fun σ H Q => ∃ Z x, (∀ cls dx H', liftX T ef ⟨Z, [], H⟩ x cls dx H' → E cls dx H') ∧ lE ⟨Z, [], H⟩ (td x) σ H Q
theorem pe_lamBody {bd : Expr} {td : Xd T → TDE T} {E : XK} (hs : X.stack = X.env :: X.outer) (hf : X.env.frame = some X.env.locals) (hex : X.ex = []) {E₁ : Value → Shared → Prop}
    (hx : X.xe = fun e s' => wpAny (model X.prog X.w) X.A (leaving X.env e) (fun _ s'' => L2.CX X.prog X.w X.outer X.H_0 X.s_0 E e s'') E₁ s')
    (h : ∀ (B : Ba) (xd : Xd T), XP X ef B xd → PD B X bd (td xd)) : PE X bd (tLamD ef td E) :=
  ⟨fun pins s σ H Q I ⟨Z, x, hE, q⟩ => (h ⟨Z, [], H⟩ x (XP.of hs hf hex hx hE)).run pins s σ H Q I q⟩
theorem lamOk_of {td : Xd T → TDE T} {g : G T} {σ : L2.St} {Z : List Addr} {as : As} {H0 H1 : Hp} (lv : Live Z H1) (e : EnvAt T as (hid Z H0) g σ) (S01 : Same (hid Z H0) (hid Z H1)) :
    LamOk T ef Z H1 (fun E H' Q' => tLamD ef td E σ H' Q') (fun q x => td x (datG g) [] fun s _ => onDat s q) := fun H Q E q x S act hq hx => by
  have ez : ∀ H', hid ((Ba.mk Z [] H).Z ++ ow []) H' = hid Z H' := fun H' => hid_congr fun a => by simp [ow]
  have last : ∀ {as' : As} {cs' : Cs T} {H' : Hp}, Ex T ⟨Z, [], H⟩ [] H as' cs' H' → Same H H' := fun {as' cs' H'} x a o e => by
    by_cases hz : a ∈ Z
    · exact (x.zk a hz).trans e
    · exact (hid_some (x.same a o ((ez H ▸ hid_out hz).trans e))).2
  refine ⟨Z, x, fun cls dx H' ⟨y, ds, h1, h2, h3⟩ => hx y ds h1 cls dx H' (fun a o e => h2 a o (by simp [ow]) e) h3, datG g, [], [], _, ⟨⟨by simp [ow], fun p h => by simp [ow] at h, fun p h => lv.same S p (by simpa [ow] using h), .nil⟩, ?_, ⟨Lk.refl _, fun _ _ _ e => e, fun _ x y => absurd x y⟩⟩, act, fun s cs' hs v as' H' ex r => ?_⟩
  · rw [ez]
    exact env_dat (same_trans S01 (hid_step S)) e
  · obtain ⟨d, ed, hd⟩ := onDat_of hs
    subst ed
    exact hq d hd v H' (last ex) (Rep.mono (hid_same (same_refl _) fun a h => .inl (List.mem_append_left _ h)) r)
theorem tabS_at {Z : List Addr} {as : As} {cs : Cs T} {H : Hp} {j : Nat} {P : Addr} {q : Str} (st : StC T Z as cs H) (e1 : as[j]? = some (some P)) (e2 : cs[j]? = some (.tab q)) : TabS H P q := by
  obtain ⟨ps, h1, h2, h3⟩ := Paired.getF st.cells e1 e2
  exact ⟨ps, h1, h2, fun pos cv hc => let ⟨c, f1, f2⟩ := h3 pos cv hc; ⟨c, f1, (hid_some f2).2⟩⟩
theorem cell_tab {Z : List Addr} {H : Hp} {P : Addr} {q : Str} (lv : Live Z H) (t : TabS H P q) : CellAt T (hid Z H) H (some P) (.tab q) := by
  obtain ⟨ps, h1, h2, h3⟩ := t
  refine ⟨ps, h1, h2, fun pos cv hc => ?_⟩
  obtain ⟨c, f1, f2⟩ := h3 pos cv hc
  refine ⟨c, f1, (hid_out fun z => ?_).trans f2⟩
  have := lv c z
  rw [f2] at this
  exact this
theorem lam_read {td : Xd T → TDE T} {F : ActD T → (D T.O → Prop) → Prop} {m j : Nat} {t0 : Addr × Str} {tl : List (Addr × Str)} {σ : L2.St} {H : Hp} {Q : VK} (tb : TbAt B m tl) (ht : tl[j]? = some t0) (h : lE B (dHeard (m + j) t0.2 F td) σ H Q) :
    tLamS t0.1 t0.2 (TTD T ef F) (tLamD ef td) σ H Q := by
  obtain ⟨g, as, cs, q, st, ⟨hc, hF⟩, k⟩ := h
  have ec : cs[m + j]? = some (.tab t0.2) := by
    cases e : cs[m + j]? with
    | none => rw [e] at hc; exact hc.elim
    | some c =>
      rw [e] at hc
      cases c with
      | tab q' => have hc : q' = t0.2 := hc; rw [hc]
      | _ => exact hc.elim
  have ea : as[m + j]? = some (some t0.1) := by
    obtain ⟨o, e1, e2⟩ := Paired.ix st.c.cells ec
    cases o with
    | none => exact e2.elim
    | some p =>
      have hj : j < tl.length := (List.getElem?_eq_some_iff.mp ht).1
      rcases st.k.lk.at_ (m + j) (by have := tb.1; omega) with z | z
      · rw [e1] at z
        rw [tb.2 j t0 ht p z.symm] at e1
        exact e1
      · rw [z] at e1; cases e1
  refine ⟨tabS_at st.c ea ec, fun H1 one T1 => ?_⟩
  have pin := own_in ea
  have x1 : Ex T B as H as cs H1 := Ex.wrote (L := [t0.1]) st.c (fun p hp => by rw [List.mem_singleton.mp hp]; exact pin) one.but rfl (fun i p u hp e1 e2 => by
    have hp := List.mem_singleton.mp hp
    subst hp
    have : i = m + j := nodup_at st.c.nd e1 ea
    subst this
    rw [ec] at e2
    cases e2
    have lv1 : Live (B.Z ++ ow as) H1 := fun a ha => by
      by_cases y : a = t0.1
      · obtain ⟨ps, h1, _⟩ := T1; rw [y, h1]; trivial
      · have := st.c.live a ha
        cases ea' : H a with
        | none => rw [ea'] at this; exact this.elim
        | some o => rw [one.but a o (fun z => y (List.mem_singleton.mp z)) ea']; rw [ea'] at this; exact this
    exact cell_tab lv1 T1) fun _ _ => rfl
  refine ⟨B.Z ++ ow as, _, _, x1.c.live, lamOk_of x1.c.live st.e x1.same, hF, fun d hd v H' S r => k _ _ hd v as H' (x1.trans (Ex.grow x1.c S)) r⟩
end
end Dl
set_option Elab.async false
set_option linter.all false
set_option maxRecDepth 100000
set_option maxHeartbeats 1000000
/-! try .. except X as e: y = e; the def that calls a lambda. -/
namespace Dl
open PySem PySem.Spec PyProof.Rows L2 Ev LamX
section
variable {X : Cx} {T : Th X.K} {B : Ba} {ef : Str → List Str}
/-- the theory knows kept errors -/
structure ErrO {K : PySem.W.Frag} (T : Th K) (ef : Str → List Str) (ok : Str → Bool) (mk : Str → List (D T.O) → T.O) : Prop where
  at_ : ∀ H a y ds, ok y = true → ExAt T ef H a y ds → T.RO H a (mk y ds)
def dTryK {K : PySem.W.Frag} {T : Th K} (n j : Nat) (ok : Str → Bool) (mk : Str → List (D T.O) → T.O) (tb : Xd T → TDS T) : TDS T := fun E g cs =>
  tb (fun y ds => ok y = true ∧ E.nx ((List.replicate n none).set j (some (.dat (.obj (mk y ds))))) []) E g cs
variable {ok : Str → Bool} {mk : Str → List (D T.O) → T.O} {x n y : Str} {c : Value} {i j : Nat} {body : List Stmt} {st0 : Stmt} {np pos pos' : Pos} {tb : Xd T → TDS T}
theorem pds_tryK (hs : X.stack = X.env :: X.outer) (hf : X.env.frame = some X.env.locals) (hex : X.ex = []) (hN : X.N.Nodup) (hi : X.N[i]? = some n) (hln : X.env.kindOf n = some .local) (hc : Names X x c) (hB : B.as0 = []) (hlv : Live B.Z B.H0) (er : ErrO T ef ok mk)
    (hok : ∀ y, ok y = true → PySem.W.exmOne X.K (.ref (He.ga X.K y)) c = some true) (hij : j ≠ i) (hj : j < X.N.length)
    (hb : ∀ (pn : List (Addr × Obj)) (xe : Value → Shared → Prop) (xd : Xd T), XP (X.tr pn xe) (T := T) ef B xd → PassesOwn (model X.prog X.w) X.A X.env xe → PDSs B (X.tr pn xe) (T := T) body (tb xd))
    (hsu : ∀ (a : Addr) (oe : Obj) (pn : List (Addr × Obj)), PSs (X.suite a ((a, oe) :: pn)) [st0] (fun D σ H => ∃ v, σ[i]? = some (some v) ∧ D.nx (σ.set j (some v)) H)) :
    PDS B X (.Try body [.ExceptHandler (some (.Name x np)) (some n) [st0] pos'] [] [] pos) (dTryK X.N.length j ok mk tb) := by
  refine PS.imp (ps_try_keep (Wout := fun _ _ _ _ => False) (tb := fun W D σ H => ∃ xd, (∀ cls d σ' H', liftX T ef B xd cls d H' → W cls d σ' H') ∧ lS B (tb xd) D σ H)
    (ts := fun _ _ _ D σ H => ∃ v, σ[i]? = some (some v) ∧ D.nx (σ.set j (some v)) H) hs hf hex hN hi hln hc LamX.takes0 (fun W pn xe tk po => ?_) (fun a oe cls d pn => hsu a oe pn)) fun E σ H ⟨g, as, cs, e, s, h, o⟩ => ?_
  · refine ⟨fun pins s σ H D I ⟨xd, hW, q⟩ => ?_⟩
    have tk' : Takes (X.tr pn xe) (fun cls d _ H => liftX T ef B xd cls d H) := tk.imp fun cls d σ H l => hW cls d σ H l
    exact (hb pn xe xd ⟨tk', passes_call (E := liftX T ef B xd) tk' fun _ _ _ _ l => l⟩ po).run pins s σ H D I q
  · refine ⟨_, fun cls d σ' H' l hl => ?_, g, as, cs, e, s, h, o⟩
    obtain ⟨y, ds, ⟨h1, h2⟩, h3, ec, dd, p, vs, ed, nz, h4, h5, h6⟩ := l
    subst ec ed
    refine ⟨true, hok y h1, fun _ a na => ?_, fun z => by cases z⟩
    have hi' : i < σ'.length := by rw [hl]; exact (List.getElem?_eq_some_iff.mp hi).1
    refine ⟨.ref a, by rw [List.getElem?_set_self hi'], ?_⟩
    have S : Same H' (upd H' a (exk a (.ref (He.ga X.K y)) (some dd))) := upd_sub na
    have kept : ∀ b u, B.H0 b = some u → upd H' a (exk a (.ref (He.ga X.K y)) (some dd)) b = some u := fun b u e => S _ _ (h3 b u (by rw [hB]; simp [ow]) e)
    have live : Live B.Z H' := fun q hq => by
      have z1 := hlv q hq
      cases eq : B.H0 q with
      | none => rw [eq] at z1; exact z1.elim
      | some u => rw [h3 q u (by rw [hB]; simp [ow]) eq]; rw [eq] at z1; exact z1
    have live2 := Live.same live S
    have na' : a ∉ B.Z := fun z => (live a z).ne na
    have ne : dd ≠ a := ne_of_none h4 na
    have ez : ∀ h, hid (B.Z ++ ow []) h = hid B.Z h := fun h => hid_congr fun b => by simp [ow]
    have ro : T.RO (hid B.Z (upd H' a (exk a (.ref (He.ga X.K y)) (some dd)))) a (mk y ds) := er.at_ _ a y ds h1 ⟨dd, p, vs, (hid_out na').trans upd_same, (hid_out nz).trans (S _ _ h4), h5.mono (hid_step S), h6⟩
    have jl : j < σ'.length := by omega
    refine o.nx _ _ h2 [] _ _ ⟨⟨by simp [ow], fun q h => by simp [ow] at h, fun q h => live2 q (by simpa [ow] using h), .nil⟩, ⟨?_, fun k u hk => ?_⟩, ⟨by rw [hB]; exact Lk.refl _, fun b u _ e => kept b u e, fun q h => by simp [ow] at h⟩⟩
    · rw [List.length_set, List.length_replicate, List.length_set, List.length_set, List.length_set, hl]
    · by_cases hkj : k = j
      · subst hkj
        rw [List.getElem?_set_self (by rw [List.length_replicate]; omega)] at hk
        cases hk
        refine ⟨.ref a, ?_, ?_⟩
        · rw [List.getElem?_set_ne (Ne.symm hij), List.getElem?_set_self (by rw [List.length_set]; omega)]
        · show Rep T (hid (B.Z ++ ow []) _) (.ref a) (.obj (mk y ds))
          rw [ez]
          exact .obj ro
      · rw [List.getElem?_set_ne (Ne.symm hkj), List.getElem?_replicate] at hk
        split at hk <;> cases hk
/-! ### the lambda called -/
def dAct {K : PySem.W.Frag} {T : Th K} (f : Addr) (act : ActD T) (xd : Xd T) : TDE T := fun g cs Q => g[0]? = some (some (.dat (.ptr f))) ∧ cs = [] ∧ act (fun d => Q (.dat d) []) xd
/-- the call's rule, where the lambda is at f -/
def ActR (X : Cx) (a : Str) (f c' : Addr) (q : Str) (tl : XK → Hp → VK → Prop) : Prop := ∀ (W : WX) (pn : List (Addr × Obj)) (xe : Value → Shared → Prop) (E : XK) (p1 p2 : Pos), Takes (X.tr pn xe) W → (∀ cls d σ' H', E cls d H' → W cls d σ' H') →
      PE (X.tr pn xe) (.Call (.Name a p1) [] [] p2) (fun σZ HZ Q => σZ[0]? = some (some (.ref f)) ∧ HZ c' = some (CodeO c' q) ∧ tl E HZ Q)
theorem pd_act {a : Str} {f c' : Addr} {q : Str} {tl : XK → Hp → VK → Prop} {act : ActD T} {xd : Xd T} {pn : List (Addr × Obj)} {xe : Value → Shared → Prop} {p1 p2 : Pos} (R : ActR X a f c' q tl) (hB : B.as0 = []) (hc : B.H0 c' = some (CodeO c' q)) (hl : LamOk T ef B.Z B.H0 tl act)
    (hx : XP (X.tr pn xe) (T := T) ef B xd) : PD B (X.tr pn xe) (T := T) (.Call (.Name a p1) [] [] p2) (dAct f act xd) :=
  PE.imp (R (fun cls d _ H => liftX T ef B xd cls d H) pn xe (liftX T ef B xd) p1 p2 hx.tk fun _ _ _ _ l => l) fun σ H Q ⟨g, as, cs, qq, st, ⟨h1, h2, h3⟩, k⟩ => by
    have no : ∀ b, b ∉ ow B.as0 := fun b => by rw [hB]; simp [ow]
    have S0 : Same B.H0 H := fun b u e => st.k.kept b u (no b) e
    obtain ⟨v, e1, e2⟩ := st.e.at_ 0 _ h1
    cases e2
    subst h2
    have as0 : as = [] := List.eq_nil_of_length_eq_zero st.c.len
    subst as0
    have ez : ∀ h, hid (B.Z ++ ow []) h = hid B.Z h := fun h => hid_congr fun b => by simp [ow]
    refine ⟨e1, S0 _ _ hc, hl H Q _ _ xd S0 h3 (fun d hd v H' S r => k _ _ hd v [] H' (Ex.grow st.c S) (by show Rep T (hid (B.Z ++ ow []) H') v d; rw [ez]; exact r)) fun y ds hy cls dx H' S ex => ⟨y, ds, hy, fun b u _ e => S _ _ (S0 _ _ e), ex⟩⟩
end
section
variable {X : Cx} {T : Th X.K} {ef : Str → List Str} {N : List Str} {x a : Str} {sg : Scope} {g : Addr} {cdg : Value} {bg : List Stmt} {q : Str}
abbrev cxH (X : Cx) (N : List Str) (x : Str) (sg : Scope) (g : Addr) (cdg : Value) (s : Shared) (H : Hp) : Cx := cxOf C8.CX0 X.prog X.w X.K X.mg X.base N x sg g cdg X.A X.stack s H C8.E0
/-- a def that calls what it got, by its body's reading -/
theorem gives_of {F : ActD T → (D T.O → Prop) → Prop} {t : Addr → ActD T → TDS T}
    (der : ∀ (B : Ba) (f c' : Addr) (s : Shared) (H : Hp) (tl : XK → Hp → VK → Prop) (act : ActD T), B.as0 = [] → Live B.Z B.H0 → B.H0 c' = some (CodeO c' q) → LamOk T ef B.Z B.H0 tl act → ActR (cxH X N x sg g cdg s H) a f c' q tl →
      PDSs B (cxH X N x sg g cdg s H).nox (T := T) bg (t f act))
    (hs : ∀ f act k, F act k → t f act (enP k) (startG N [.dat (.ptr f)]) []) : GivesTo X N x sg g cdg bg a q (TTD T ef F) := by
  intro f c' s H Q tl R hc ⟨Z, act, k, lv, lo, hF, hk⟩
  refine ⟨_, der ⟨Z, [], H⟩ f c' s H tl act rfl lv hc lo R, startG N [.dat (.ptr f)], [], [], _, ⟨⟨by simp [ow], fun p h => by simp [ow] at h, fun p h => lv p (by simpa [ow] using h), .nil⟩, env_start (.cons (Rep.ptr f) .nil), ⟨Lk.refl _, fun _ _ _ e => e, fun _ x y => absurd x y⟩⟩, hs f act k hF, ?_⟩
  have last : ∀ {as' : As} {cs' : Cs T} {H' : Hp}, StC T Z as' cs' H' → Kp ⟨Z, [], H⟩ as' H' → Same H H' := fun c k a o e => k.kept a o (by simp [ow]) e
  refine ⟨fun g cs h as' σ' H' st => hk _ h _ H' (last st.c st.k) .non, fun d cs h v as' H' fi => hk _ h _ H' (last fi.c fi.k) (fi.r.mono ?_), fun _ _ h => h.elim, fun _ _ h => h.elim⟩
  exact hid_same (same_refl _) fun a h => .inl (List.mem_append_left _ h)
end
end Dl
set_option Elab.async false
set_option linter.all false
set_option maxRecDepth 100000
set_option maxHeartbeats 1000000
/-! repr of data. -/
namespace Dl
open PySem PySem.Spec PyProof.Rows L2 Ev LamX
mutual
theorem dr_of {K : PySem.W.Frag} {T : Th K} {H : Hp} : ∀ {v : V} {d : D T.O} {p : PyData}, Rep T H v d → toPy d = some p → Dr K H v p
  | _, _, _, .non, e => by cases e; exact .non
  | _, _, _, .bl b, e => by cases e; exact .bl b
  | _, _, _, .int i, e => by cases e; exact .int i
  | _, _, _, .str s z, e => by cases e; exact .str s
  | _, _, _, .ty n, e => by cases e
  | _, _, _, .cls n, e => by cases e
  | _, _, _, .ptr n, e => by cases e
  | _, _, _, .dic a b, e => by cases e
  | _, _, _, .obj a, e => by cases e
  | _, .tup ds, _, .tup a b, e => by
    have e : (toPyL ds).map PyData.tuple = some _ := e
    cases q : toPyL ds with
    | none => rw [q] at e; cases e
    | some ps => rw [q] at e; cases e; exact .tup a (drL_of b q)
  | _, .lst ds, _, .lst a b, e => by
    have e : (toPyL ds).map PyData.list = some _ := e
    cases q : toPyL ds with
    | none => rw [q] at e; cases e
    | some ps => rw [q] at e; cases e; exact .lst (SqL.of a) (drL_of b q)
theorem drL_of {K : PySem.W.Frag} {T : Th K} {H : Hp} : ∀ {vs : List V} {ds : List (D T.O)} {ps : List PyData}, RepL T H vs ds → toPyL ds = some ps → DrAll K H vs ps
  | _, _, _, .nil, e => by cases e; exact .nil
  | _, d :: ds, _, .cons a b, e => by
    have e : ((toPy d).bind fun a => (toPyL ds).map (a :: ·)) = some _ := e
    cases q : toPy d with
    | none => rw [q] at e; cases e
    | some p =>
      rw [q] at e
      have e : (toPyL ds).map (p :: ·) = some _ := e
      cases q2 : toPyL ds with
      | none => rw [q2] at e; cases e
      | some ps => rw [q2] at e; cases e; exact .cons (dr_of a q) (drL_of b q2)
end
theorem TRep.dr {K : PySem.W.Frag} {T : Th K} {h H : Hp} (S : Same h H) {v : V} {d : D T.O} {p : PyData} (r : TRep T h H v d) (e : toPy d = some p) : Dr K H v p := by
  cases r with
  | rep r => exact dr_of (r.mono S) e
  | dic a b => cases e
  | @lst a vs ds h1 h2 =>
    have e : (toPyL ds).map PyData.list = some _ := e
    cases q : toPyL ds with
    | none => rw [q] at e; cases e
    | some ps => rw [q] at e; cases e; exact .lst (SqL.of h1) (drL_of (h2.mono S) q)
section
variable {X : Cx} {T : Th X.K}
def fRepr {K : PySem.W.Frag} {T : Th K} : D T.O → (D T.O → Prop) → Prop := fun d k => ∃ p, toPy d = some p ∧ p.showable = true ∧ p.shown.length ≤ sizeLine ∧ p.depth ≤ 20 ∧ k (.str p.shown)
theorem cd_repr (hg : X.A.guards = some []) (hu : X.A.units + 64 < cLine) (hs : SysK X.K) : CallD T (.builtin "repr") (r1 fRepr) := CallR.imp (call_repr hg hu hs) fun xs H Q ⟨Z, ds, q, l, rl, hr, k⟩ => by
  obtain ⟨d, rfl, hr⟩ := r1_of hr
  obtain ⟨v, rfl, rv⟩ := trepl1 rl
  obtain ⟨p, e, h1, h2, h3, hk⟩ := hr
  exact ⟨v, p, rfl, rv.dr hid_sub e, h1, h2, h3, k _ hk _ _ (same_refl _) (.str _ h2)⟩
end
end Dl
set_option Elab.async false
set_option linter.all false
set_option maxRecDepth 100000
set_option maxHeartbeats 1000000
/-! What the written part says of own classes: tables that the head looks up. -/
namespace Dl
open PySem PySem.Spec PyProof.Rows L2 Ev LamX PySem.W
abbrev Chk : Type := Frag → Bool
theorem chk_ok {l : List Chk} {K : Frag} (h : (l.all fun c => c K) = true) (i : Nat) {c : Chk} (e : l[i]? = some c := by rfl) : c K = true := List.all_eq_true.mp h c (List.mem_of_getElem? e)
/-- a class with attributes, an own __eq__ of the base B, names -/
structure ClE (K : Frag) (B x : Str) (own : List Str) : Prop where
  nm : nameIn K (He.ga K x) x = true
  gn : findCls K (.ref (He.ga K x)) (.type "type") "__name__" = getN (He.ga K x)
  rd : readsIn K (He.ga K x) (.type "type") = true
  ca : findIn K (.ref (He.ga K x)) "__class__" = some (some (.builtin "object.__class__"))
  cm : mroIn K (He.ga K x) (.type "object") = some true
  eq : findIn K (.ref (He.ga K x)) "__eq__" = some (some (.ref (He.ma K (He.ga K B) "__eq__")))
  ne : findIn K (.ref (He.ga K x)) "__ne__" = some (some (.builtin "object.__ne__"))
  nf : ∀ y ∈ own, notFirst K (He.ga K x) (.ref (He.ga K y)) = true
  ft : ∀ t ∈ bNames, notFirst K (He.ga K x) (.type t) = true
  ef : isFn K (.ref (He.ma K (He.ga K B) "__eq__")) = true
def clEB (B x : Str) (own : List Str) : Chk := fun K => nameIn K (He.ga K x) x && (isN (He.ga K x) (findCls K (.ref (He.ga K x)) (.type "type") "__name__") && (readsIn K (He.ga K x) (.type "type") &&
  (eqS (findIn K (.ref (He.ga K x)) "__class__") (some (some (.builtin "object.__class__"))) && (decide (mroIn K (He.ga K x) (.type "object") = some true) &&
  (eqS (findIn K (.ref (He.ga K x)) "__eq__") (some (some (.ref (He.ma K (He.ga K B) "__eq__")))) && (eqS (findIn K (.ref (He.ga K x)) "__ne__") (some (some (.builtin "object.__ne__"))) &&
  ((own.all fun y => notFirst K (He.ga K x) (.ref (He.ga K y))) && ((bNames.all fun t => notFirst K (He.ga K x) (.type t)) && isFn K (.ref (He.ma K (He.ga K B) "__eq__"))))))))))
theorem clEB_ok {K : Frag} {B x : Str} {own : List Str} (h : clEB B x own K = true) : ClE K B x own := by
  obtain ⟨h1, h⟩ := two h
  obtain ⟨h2, h⟩ := two h
  obtain ⟨h3, h⟩ := two h
  obtain ⟨h4, h⟩ := two h
  obtain ⟨h5, h⟩ := two h
  obtain ⟨h6, h⟩ := two h
  obtain ⟨h7, h⟩ := two h
  obtain ⟨h8, h⟩ := two h
  obtain ⟨h9, h10⟩ := two h
  exact ⟨h1, isN_ok h2, h3, of_decide_eq_true h4, of_decide_eq_true h5, of_decide_eq_true h6, of_decide_eq_true h7, fun y hy => List.all_eq_true.mp h8 y hy, fun t ht => List.all_eq_true.mp h9 t ht, h10⟩
/-- how __class__ is asked -/
structure ClG (K : Frag) : Prop where
  cn : specialIn K (.builtin "object.__class__") "__get__" = some (some (.builtin "getset_descriptor.__get__"))
  ct : takesIn K (.builtin "object.__class__") = some true
def clGB : Chk := fun K => eqS (specialIn K (.builtin "object.__class__") "__get__") (some (some (.builtin "getset_descriptor.__get__"))) && decide (takesIn K (.builtin "object.__class__") = some true)
theorem clGB_ok {K : Frag} (h : clGB K = true) : ClG K := ⟨of_decide_eq_true (two h).1, of_decide_eq_true (two h).2⟩
theorem ClE.clsC {K : Frag} {B x : Str} {own : List Str} (e : ClE K B x own) (g : ClG K) (c : Cls K (He.ga K x)) : ClsC K (He.ga K x) := ⟨c, e.ca, g.cn, g.ct, e.cm⟩
/-- a special def of a class: where it stands -/
structure SpF (K : Frag) (x m : Str) (g : Addr) : Prop where
  at_ : findIn K (.ref (He.ga K x)) m = some (some (.ref g))
  fn : isFn K (.ref g) = true
  fk : fnIn K g = true
/-- class x has the def m of class B -/
def spFB (x m B : Str) : Chk := fun K => eqS (findIn K (.ref (He.ga K x)) m) (some (some (.ref (He.ma K (He.ga K B) m)))) && (isFn K (.ref (He.ma K (He.ga K B) m)) && fnIn K (He.ma K (He.ga K B) m))
theorem spFB_ok {K : Frag} {x m B : Str} (h : spFB x m B K = true) : SpF K x m (He.ma K (He.ga K B) m) := ⟨of_decide_eq_true (two h).1, (two (two h).2).1, (two (two h).2).2⟩
/-- isinstance between own classes and built-in types -/
structure IsiF (K : Frag) (own : List Str) (sub : Str → Str → Bool) : Prop where
  oo : ∀ x ∈ own, ∀ y ∈ own, kitOne K (.ref (He.ga K x)) (.ref (He.ga K y)) = some (sub x y)
  ob : ∀ x ∈ own, ∀ n ∈ bNames, kitOne K (.ref (He.ga K x)) (.type n) = some false
  bo : ∀ n ∈ bNames, ∀ y ∈ own, kitOne K (.type n) (.ref (He.ga K y)) = some false
def isiFB (own : List Str) (sub : Str → Str → Bool) : Chk := fun K => (own.all fun x => own.all fun y => decide (kitOne K (.ref (He.ga K x)) (.ref (He.ga K y)) = some (sub x y))) &&
  ((own.all fun x => bNames.all fun n => decide (kitOne K (.ref (He.ga K x)) (.type n) = some false)) && (bNames.all fun n => own.all fun y => decide (kitOne K (.type n) (.ref (He.ga K y)) = some false)))
theorem isiFB_ok {K : Frag} {own : List Str} {sub : Str → Str → Bool} (h : isiFB own sub K = true) : IsiF K own sub := by
  obtain ⟨h1, h⟩ := two h
  obtain ⟨h2, h3⟩ := two h
  exact ⟨fun x hx y hy => of_decide_eq_true (List.all_eq_true.mp (List.all_eq_true.mp h1 x hx) y hy), fun x hx n hn => of_decide_eq_true (List.all_eq_true.mp (List.all_eq_true.mp h2 x hx) n hn), fun n hn y hy => of_decide_eq_true (List.all_eq_true.mp (List.all_eq_true.mp h3 n hn) y hy)⟩
def offC (x B m : Str) : Chk := fun K => offB K (He.ga K x) (He.ma K (He.ga K B) m)
def constC (x m : Str) (n : Int) : Chk := fun K => constB K x m n
def tupC (x : Str) (l : List He.Dv) : Chk := fun K => He.tupB K x l
def neqC (p q : He.Defn) : Chk := fun K => decide ((He.cT K p).2 ≠ (He.cT K q).2)
theorem rep_dvs {K : PySem.W.Frag} {T : Th K} {h : Hp} {l : List Str} (hl : ∀ s ∈ l, s.length ≤ sizeLine) : RepL T h ((l.map He.Dv.str).map (He.Dv.v K)) (l.map D.str) := by
  have : (l.map He.Dv.str).map (He.Dv.v K) = l.map V.str := by rw [List.map_map]; rfl
  rw [this]
  exact repl_strs hl
theorem rep_tupC {K : PySem.W.Frag} {T : Th K} {x : Str} {l : List Str} (h : tupC x (l.map He.Dv.str) K = true) (hl : ∀ s ∈ l, s.length ≤ sizeLine) (H : Hp) : Rep T H (.ref (He.ga K x)) (.tup (l.map D.str)) := .tup (He.tupB_ok h H) (rep_dvs hl)
/-! ### o.__class__.__name__ -/
section
variable {X : Cx} {T : Th X.K} {B : Ba} {e : Expr} {pos pos' : Pos}
structure ClsN {K : PySem.W.Frag} (T : Th K) (cn : T.O → Str) (ok : T.O → Bool) : Prop where
  at_ : ∀ h a o, T.RO h a o → ok o = true → ∃ dx fs, h a = some (.ins (He.ga K (cn o)) dx fs) ∧ ClsC K (He.ga K (cn o)) ∧ nameIn K (He.ga K (cn o)) (cn o) = true ∧ findCls K (.ref (He.ga K (cn o))) (.type "type") "__name__" = getN (He.ga K (cn o)) ∧ readsIn K (He.ga K (cn o)) (.type "type") = true ∧ (cn o).length ≤ sizeLine
def dClsN {K : PySem.W.Frag} {T : Th K} (cn : T.O → Str) (ok : T.O → Bool) (t : TDE T) : TDE T := fun g cs Q => t g cs fun s cs1 => match s with
  | .dat (.obj o) => ok o = true ∧ Q (.dat (.str (cn o))) cs1
  | _ => False
theorem reads_type {K : PySem.W.Frag} {C : Addr} {mc : Value} (h : PySem.W.readsIn K C mc = true) : PySem.W.typeIn K (.ref C) = some mc := by
  simp only [PySem.W.readsIn, Bool.and_eq_true, beq_iff_eq] at h
  exact h.1.1.1.2
theorem pd_clsN {cn : T.O → Str} {ok : T.O → Bool} {t : TDE T} (N : ClsN T cn ok) (he : PD B X e t) (hb : attributeBase e "__class__" X.env (eval e X.env) = eval e X.env := by rfl)
    (hb2 : attributeBase (.Attribute e "__class__" pos) "__name__" X.env (eval (.Attribute e "__class__" pos) X.env) = eval (.Attribute e "__class__" pos) X.env := by rfl) : PD B X (.Attribute (.Attribute e "__class__" pos) "__name__" pos') (dClsN cn ok t) :=
  PE.imp (pe_nameOf (pe_clsOf he hb) hb2) fun σ H Q ⟨g, as, cs, q, st, h, k⟩ => ⟨g, as, cs, _, st, h, fun s cs1 h1 v as1 H1 x1 r1 => by
    cases s with
    | own i => exact h1.elim
    | dat d =>
      cases d with
      | obj o =>
        obtain ⟨ho, h1⟩ := h1
        cases r1 with
        | @obj a _ r =>
          obtain ⟨dx, fs, e1, c, e2, e3, e4, e5⟩ := N.at_ _ a o r ho
          exact ⟨a, _, dx, fs, rfl, (hid_some e1).2, c, _, cn o, rfl, e2, e3, e4, reads_type e4, k _ _ h1 _ _ _ x1 (.str _ e5)⟩
      | _ => exact h1.elim⟩
end
end Dl
set_option Elab.async false
set_option linter.all false
set_option maxRecDepth 100000
set_option maxHeartbeats 1000000
/-! Folds that are pure; lists of flat things. -/
namespace Dl
open PySem PySem.Spec PyProof.Rows L2 Ev
section
variable {K : PySem.W.Frag} {T : Th K}
theorem lcD_fm {dg : TDG T} {dt : TDT T} {de : TDE T} {g0 : G T} (p : D T.O → Bool) (f : D T.O → D T.O) {cs : Cs T} {Q : List (D T.O) → Cs T → Prop} : ∀ {ds acc : List (D T.O)},
    (∀ d ∈ ds, ∀ (R : D T.O → Cs T → Prop) (N : Cs T → Prop), Br (p d) (R (f d) cs) (N cs) → dg (.dat d) g0 fun g1 => dt g1 cs fun b cs1 => Br b (de g1 cs1 fun s cs2 => onDat s fun d' => R d' cs2) (N cs1)) →
    Q (acc ++ (ds.filter p).map f) cs → lcD dg dt de g0 ds acc cs Q
  | [], acc, _, h => by rw [List.filter_nil, List.map_nil, List.append_nil] at h; exact h
  | d :: ds, acc, hd, h => by
    refine hd d List.mem_cons_self (fun d' cs2 => lcD dg dt de g0 ds (acc ++ [d']) cs2 Q) (fun cs1 => lcD dg dt de g0 ds acc cs1 Q) ?_
    cases e : p d with
    | true =>
      refine lcD_fm p f (fun x hx => hd x (List.mem_cons_of_mem _ hx)) ?_
      rw [List.filter_cons, if_pos e, List.map_cons] at h
      rw [List.append_assoc]; exact h
    | false =>
      refine lcD_fm p f (fun x hx => hd x (List.mem_cons_of_mem _ hx)) ?_
      rw [List.filter_cons, if_neg (by rw [e]; exact Bool.false_ne_true)] at h
      exact h
theorem lcD_map {dg : TDG T} {dt : TDT T} {de : TDE T} {g0 : G T} (f : D T.O → D T.O) {cs : Cs T} {Q : List (D T.O) → Cs T → Prop} {ds acc : List (D T.O)}
    (hd : ∀ d ∈ ds, ∀ (R : D T.O → Cs T → Prop) (N : Cs T → Prop), R (f d) cs → dg (.dat d) g0 fun g1 => dt g1 cs fun b cs1 => Br b (de g1 cs1 fun s cs2 => onDat s fun d' => R d' cs2) (N cs1)) (h : Q (acc ++ ds.map f) cs) : lcD dg dt de g0 ds acc cs Q :=
  lcD_fm (fun _ => true) f (fun d hx R N r => hd d hx R N r) (by rw [List.filter_eq_self.mpr fun _ _ => rfl]; exact h)
/-- a loop that goes through the same cells, from slots to slots -/
theorem forD_inv {dg : TDG T} {tb : TDS T} {e : En T} (I : List (D T.O) → G T → Cs T → Prop) (hs : ∀ d ds g cs, I (d :: ds) g cs → ∀ (nx : G T → Cs T → Prop), (∀ g' cs', I ds g' cs' → nx g' cs') → dg (.dat d) g fun g1 => tb { e with nx := nx, ct := nx, bk := e.nx } g1 cs)
    (hn : ∀ g cs, I [] g cs → e.nx g cs) : ∀ (ds : List (D T.O)) (g : G T) (cs : Cs T), I ds g cs → forD dg tb ds e g cs
  | [], g, cs, i => hn g cs i
  | d :: ds, g, cs, i => hs d ds g cs i _ fun g' cs' i' => forD_inv I hs hn ds g' cs' i'
end
theorem blsL_map {O : Type} : ∀ bs : List Bool, blsL (bs.map (D.bl (O := O))) = some bs
  | [] => rfl
  | b :: bs => by show (blsL (bs.map D.bl)).map (b :: ·) = _; rw [blsL_map bs]; rfl
theorem strsL_map {O : Type} : ∀ bs : List Str, strsL (bs.map (D.str (O := O))) = some bs
  | [] => rfl
  | b :: bs => by show (strsL (bs.map D.str)).map (b :: ·) = _; rw [strsL_map bs]; rfl
theorem intsL_map {O : Type} : ∀ bs : List Int, intsL (bs.map (D.int (O := O))) = some bs
  | [] => rfl
  | b :: bs => by show (intsL (bs.map D.int)).map (b :: ·) = _; rw [intsL_map bs]; rfl
theorem inD_strs {O : Type} (s : Str) : ∀ l : List Str, inD (D.str (O := O) s) (l.map D.str) = decide (s ∈ l)
  | [] => rfl
  | a :: l => by
    show ((a == s) || inD (D.str s) (l.map D.str)) = _
    rw [inD_strs s l]
    by_cases h : a = s
    · subst h; simp
    · have h' : ¬ s = a := fun z => h z.symm
      simp [h, h']
theorem flat_strs {O : Type} : ∀ l : List Str, (l.map (D.str (O := O))).all flatD = true
  | [] => rfl
  | a :: l => flat_strs l
theorem onBls_mk {K : PySem.W.Frag} {T : Th K} {bs : List Bool} {ds : List (D T.O)} {k : List Bool → Prop} (e : ds = bs.map .bl) (h : k bs) : onBls (.lst ds) k := by
  subst e
  show (match blsL (bs.map D.bl) with
    | some ss => k ss
    | none => False)
  rw [blsL_map]
  exact h
theorem onInts_mk {K : PySem.W.Frag} {T : Th K} {bs : List Int} {ds : List (D T.O)} {k : List Int → Prop} (e : ds = bs.map .int) (h : k bs) : onInts (.lst ds) k := by
  subst e
  show (match intsL (bs.map D.int) with
    | some ss => k ss
    | none => False)
  rw [intsL_map]
  exact h
theorem onStrs_mk {K : PySem.W.Frag} {T : Th K} {bs : List Str} {ds : List (D T.O)} {k : List Str → Prop} (e : ds = bs.map .str) (h : k bs) : onStrs (.lst ds) k := by
  subst e
  show (match strsL (bs.map D.str) with
    | some ss => k ss
    | none => False)
  rw [strsL_map]
  exact h
end Dl
set_option Elab.async false
set_option linter.all false
set_option maxRecDepth 100000
set_option maxHeartbeats 0
/-! The head: what the top leaves; the places of its statements by name. -/
namespace H1
open PySem PySem.Spec PyProof.Rows L2
abbrev i__wall : Nat := 0
abbrev i_PadError : Nat := 2
abbrev i_BadName : Nat := 3
abbrev i_BadTimes : Nat := 4
abbrev i_BadParts : Nat := 5
abbrev i_NoPath : Nat := 6
abbrev i_TooLarge : Nat := 7
abbrev i_LETTERS : Nat := 9
abbrev i_LONGEST : Nat := 10
abbrev i_BARRED : Nat := 11
abbrev i_is_name : Nat := 12
abbrev i_is_number : Nat := 13
abbrev i_is_whole : Nat := 14
abbrev i_MOST_TIMES : Nat := 16
abbrev i_Part : Nat := 17
abbrev i_Kind : Nat := 18
abbrev i_Byte : Nat := 19
abbrev i_Use : Nat := 20
abbrev i_Group : Nat := 21
abbrev i_Spread : Nat := 22
abbrev i_Row : Nat := 23
abbrev i_Record : Nat := 24
abbrev i_Overlay : Nat := 25
abbrev i_is_part : Nat := 26
abbrev i_checked_pairs : Nat := 27
abbrev i_is_pair : Nat := 28
abbrev i_stepped : Nat := 29
abbrev i_led : Nat := 30
abbrev i_need_path : Nat := 31
abbrev i__law_pen : Nat := 33
abbrev i__law_draw : Nat := 34
abbrev i__law_pick : Nat := 35
abbrev i__law_word : Nat := 36
abbrev i__law_is_name : Nat := 37
abbrev i__law_heard : Nat := 38
abbrev i__law_right : Nat := 39
abbrev i__law_equal_right : Nat := 40
abbrev i_law : Nat := 41
abbrev j_PadError___init__ : Nat := 0
abbrev j_BadName___init__ : Nat := 0
abbrev j_BadTimes___init__ : Nat := 0
abbrev j_BadParts___init__ : Nat := 0
abbrev j_NoPath___init__ : Nat := 0
abbrev j_TooLarge___init__ : Nat := 0
abbrev j_Part___init__ : Nat := 1
abbrev j_Part___eq__ : Nat := 2
abbrev j_Part___mul__ : Nat := 3
abbrev j_Part___getitem__ : Nat := 4
abbrev j_Part___contains__ : Nat := 5
abbrev j_Part___iter__ : Nat := 6
abbrev j_Part_paths : Nat := 7
abbrev j_Part_kinds_in : Nat := 8
abbrev j_Part_uses : Nat := 9
abbrev j_Part_put : Nat := 10
abbrev j_Kind___init__ : Nat := 0
abbrev j_Kind___str__ : Nat := 1
abbrev j_Byte___init__ : Nat := 0
abbrev j_Byte___str__ : Nat := 1
abbrev j_Use___init__ : Nat := 0
abbrev j_Use___str__ : Nat := 1
abbrev j_Group___len__ : Nat := 0
abbrev j_Row___init__ : Nat := 1
abbrev j_Row___str__ : Nat := 2
abbrev j_Record___init__ : Nat := 1
abbrev j_Record___add__ : Nat := 2
abbrev j_Record___str__ : Nat := 3
abbrev j_Overlay___init__ : Nat := 1
abbrev j_Overlay___or__ : Nat := 2
abbrev j_Overlay___str__ : Nat := 3
def top (i : Nat) : Stmt := PySem.Challenge.pw_anypads_k01_kinds_bytes_and_uses_made.main.body.getD i (.Pass ⟨0, 0, 0, 0⟩)
abbrev sM (i j : Nat) : Stmt := inClass (top i) j
def mkD (x : Str) (i : Nat) : He.DefD := ⟨(x, some "__init__"), "__init__", x ++ ".__init__", defArgs (inClass (top i) 0), defBody (inClass (top i) 0), defScope (inClass (top i) 0), [], []⟩
def meD (x m : Str) (i j : Nat) (dfl : List He.Dv) : He.DefD := ⟨(x, some m), m, x ++ "." ++ m, defArgs (inClass (top i) j), defBody (inClass (top i) j), defScope (inClass (top i) j), dfl, []⟩
def fnD (x : Str) (i : Nat) : He.DefD := ⟨(x, none), x, x, defArgs (top i), defBody (top i), defScope (top i), [], []⟩
def errs : List (Str × List Str) := [("BadName", ["name"]), ("BadTimes", ["value"]), ("BadParts", ["at"]), ("NoPath", ["path", "at"]), ("TooLarge", ["what", "most"])]
def fn : List He.DefD := [mkD "PadError" i_PadError, mkD "BadName" i_BadName, mkD "BadTimes" i_BadTimes, mkD "BadParts" i_BadParts, mkD "NoPath" i_NoPath, mkD "TooLarge" i_TooLarge, meD "Part" "__init__" i_Part j_Part___init__ [.str "", .adr (He.dflAt ("Part", some "__init__") 1), .adr (He.dflAt ("Part", some "__init__") 2), .int 1], meD "Part" "__eq__" i_Part j_Part___eq__ [], meD "Group" "__len__" i_Group j_Group___len__ [], meD "Kind" "__init__" i_Kind j_Kind___init__ [.int 1], meD "Kind" "__str__" i_Kind j_Kind___str__ [], meD "Byte" "__init__" i_Byte j_Byte___init__ [], meD "Byte" "__str__" i_Byte j_Byte___str__ [], meD "Use" "__init__" i_Use j_Use___init__ [], meD "Use" "__str__" i_Use j_Use___str__ [], meD "Row" "__init__" i_Row j_Row___init__ [], meD "Row" "__str__" i_Row j_Row___str__ [], meD "Record" "__init__" i_Record j_Record___init__ [], meD "Record" "__str__" i_Record j_Record___str__ [], meD "Overlay" "__init__" i_Overlay j_Overlay___init__ [], meD "Overlay" "__str__" i_Overlay j_Overlay___str__ [], fnD "is_name" i_is_name, fnD "is_number" i_is_number, fnD "is_whole" i_is_whole, fnD "is_part" i_is_part, fnD "checked_pairs" i_checked_pairs, fnD "is_pair" i_is_pair, fnD "stepped" i_stepped, fnD "led" i_led, fnD "need_path" i_need_path, fnD "_law_pen" i__law_pen, fnD "_law_draw" i__law_draw, fnD "_law_pick" i__law_pick, fnD "_law_word" i__law_word, fnD "_law_is_name" i__law_is_name, fnD "_law_heard" i__law_heard, fnD "_law_right" i__law_right, fnD "_law_equal_right" i__law_equal_right, fnD "law" i_law]
def fa : List He.Fa := [.glo "PadError", .glo "BadName", .glo "BadTimes", .glo "BadParts", .glo "NoPath", .glo "TooLarge", .glo "Part", .glo "Kind", .glo "Byte", .glo "Use", .glo "Group", .glo "Spread", .glo "Row", .glo "Record", .glo "Overlay", .glo "BARRED", .glo "is_name", .glo "is_number", .glo "is_whole", .glo "is_part", .glo "checked_pairs", .glo "is_pair", .glo "stepped", .glo "led", .glo "need_path", .glo "_law_pen", .glo "_law_draw", .glo "_law_pick", .glo "_law_word", .glo "_law_is_name", .glo "_law_heard", .glo "_law_right", .glo "_law_equal_right", .glo "law", .free "int", .free "len", .free "abs", .free "range", .free "list", .free "isinstance", .free "str", .free "max", .free "all", .free "bool", .free "enumerate", .free "tuple", .free "sum", .free "repr", .int "MOST_TIMES" 8, .int "LONGEST" 8, .str "LETTERS" "abcdefghijklmnopqrstuvwxyz", .cls "Byte", .mkr "Byte", .noat "Byte" "text", .noat "Byte" "traits", .noat "Byte" "inside", .noat "Byte" "ends", .noat "Byte" "weight", .noat "Byte" "depth", .cls "Kind", .mkr "Kind", .noat "Kind" "text", .noat "Kind" "traits", .noat "Kind" "inside", .noat "Kind" "ends", .noat "Kind" "weight", .noat "Kind" "depth", .noat "Kind" "name", .noat "Kind" "times", .cls "Use", .mkr "Use", .noat "Use" "text", .noat "Use" "traits", .noat "Use" "inside", .noat "Use" "ends", .noat "Use" "weight", .noat "Use" "depth", .noat "Use" "name", .cls "Row", .mkr "Row", .noat "Row" "text", .noat "Row" "traits", .noat "Row" "inside", .noat "Row" "ends", .noat "Row" "weight", .noat "Row" "depth", .noat "Row" "part", .noat "Row" "n", .cls "Record", .mkr "Record", .noat "Record" "text", .noat "Record" "traits", .noat "Record" "inside", .noat "Record" "ends", .noat "Record" "weight", .noat "Record" "depth", .noat "Record" "fields", .cls "Overlay", .mkr "Overlay", .noat "Overlay" "text", .noat "Overlay" "traits", .noat "Overlay" "inside", .noat "Overlay" "ends", .noat "Overlay" "weight", .noat "Overlay" "depth", .noat "Overlay" "members", .exm "BadName" "PadError" true, .exm "BadTimes" "PadError" true, .exm "BadParts" "PadError" true, .exm "NoPath" "PadError" true, .exm "TooLarge" "PadError" true]
def tf : List He.Defn := [("_law_right", none)]
abbrev p__law_right : He.Defn := ("_law_right", none)
def ownT : List Str := ["Kind", "Byte", "Use", "Row", "Record", "Overlay", "Part", "Group", "Spread", "BadName", "BadTimes", "BadParts", "NoPath", "TooLarge"]
def subL : List (Str × Str) := [("Kind", "Kind"), ("Byte", "Byte"), ("Use", "Use"), ("Row", "Row"), ("Record", "Record"), ("Overlay", "Overlay"), ("Part", "Part"), ("Group", "Group"), ("Spread", "Spread"), ("BadName", "BadName"), ("BadTimes", "BadTimes"), ("BadParts", "BadParts"), ("NoPath", "NoPath"), ("TooLarge", "TooLarge"), ("Kind", "Part"), ("Byte", "Part"), ("Use", "Part"), ("Row", "Group"), ("Row", "Part"), ("Record", "Group"), ("Record", "Part"), ("Overlay", "Group"), ("Overlay", "Spread"), ("Overlay", "Part"), ("Group", "Part"), ("Spread", "Part")]
def subT (x y : Str) : Bool := decide ((x, y) ∈ subL)
def chk : List (PySem.W.Frag → Bool) := [Dl.clGB, Dl.isiFB ownT subT, Dl.clEB "Part" "Kind" ["Kind", "Byte", "Use", "Row", "Record", "Overlay"], Dl.clEB "Part" "Byte" ["Kind", "Byte", "Use", "Row", "Record", "Overlay"], Dl.clEB "Part" "Use" ["Kind", "Byte", "Use", "Row", "Record", "Overlay"], Dl.clEB "Part" "Row" ["Kind", "Byte", "Use", "Row", "Record", "Overlay"], Dl.clEB "Part" "Record" ["Kind", "Byte", "Use", "Row", "Record", "Overlay"], Dl.clEB "Part" "Overlay" ["Kind", "Byte", "Use", "Row", "Record", "Overlay"], Dl.offC "Part" "Part" "__init__", Dl.offC "Group" "Part" "__init__", Dl.constC "Part" "DEPTH" 4, Dl.constC "Row" "MOST" 64, Dl.constC "Record" "MOST" 8, Dl.constC "Overlay" "MOST" 4, Dl.tupC "BARRED" ((["byte", "size", "align", "place", "end", "packed", "and", "or", "not", "yes", "no", "for", "nogap", "notail", "leaf"] : List Str).map He.Dv.str), Dl.spFB "Kind" "__str__" "Kind", Dl.spFB "Byte" "__str__" "Byte", Dl.spFB "Use" "__str__" "Use", Dl.spFB "Row" "__str__" "Row", Dl.spFB "Record" "__str__" "Record", Dl.spFB "Overlay" "__str__" "Overlay", Dl.spFB "Row" "__len__" "Group", Dl.spFB "Record" "__len__" "Group", Dl.spFB "Overlay" "__len__" "Group", fun K => Ev.nilT K (He.dflAt ("Part", some "__init__") 1 K), fun K => Ev.nilT K (He.dflAt ("Part", some "__init__") 2 K)]
abbrev ex (K : PySem.W.Frag) : Bool := Ev.errsB errs K && chk.all fun c => c K
abbrev R : PySem.W.OpenRow := PySem.W.OpenLaw.row PySem.Challenge.rw_anypads_k01_kinds_bytes_and_uses_made
abbrev hk : PySem.W.Hook := Ev.hookY 5 fa fn tf ex
def ob (s : PySem.W.SharedT) : He.AlD × Bool := Ev.obsY 5 fa fn tf ex (HandSHeadRun.getT s)
theorem ob_eq (s : PySem.W.SharedT) : ob s = hk.obs s.abs := Ev.obsY_eq (HandSHeadRun.getT_eq s)
def loose : List Str := [("_wall" : Str), ("PadError" : Str), ("BadName" : Str), ("BadTimes" : Str), ("BadParts" : Str), ("NoPath" : Str), ("TooLarge" : Str), ("LETTERS" : Str), ("LONGEST" : Str), ("BARRED" : Str), ("is_name" : Str), ("is_number" : Str), ("is_whole" : Str), ("MOST_TIMES" : Str), ("Part" : Str), ("Kind" : Str), ("Byte" : Str), ("Use" : Str), ("Group" : Str), ("Spread" : Str), ("Row" : Str), ("Record" : Str), ("Overlay" : Str), ("is_part" : Str), ("checked_pairs" : Str), ("is_pair" : Str), ("stepped" : Str), ("led" : Str), ("need_path" : Str), ("_law_pen" : Str), ("_law_draw" : Str), ("_law_pick" : Str), ("_law_word" : Str), ("_law_is_name" : Str), ("_law_heard" : Str), ("_law_right" : Str), ("_law_equal_right" : Str)]
theorem run (w : World) : HandSHeadRun.RunEq R (PySem.W.view R.prog [i_law]) hk ob 20000 loose w := by
  intro os
  kernel_rfl
end H1
set_option Elab.async false
set_option linter.all false
set_option maxRecDepth 100000
set_option maxHeartbeats 4000000
/-! What the head says, by name; the errors. -/
namespace H1
open PySem PySem.Spec PyProof.Rows L2 Ev Dl
abbrev FnI (K : PySem.W.Frag) (x : Str) (i : Nat) (f : Addr) (fd : FuncData) : Prop := FunD K "__init__" (x ++ ".__init__") (defArgs (inClass (top i) 0)) (defBody (inClass (top i) 0)) (defScope (inClass (top i) 0)) [] [] f fd
abbrev FnL (K : PySem.W.Frag) (x : Str) (i : Nat) (f : Addr) (fd : FuncData) : Prop := FunD K x x (defArgs (top i)) (defBody (top i)) (defScope (top i)) [] [] f fd
abbrev FnM (K : PySem.W.Frag) (x m : Str) (i j : Nat) (dfl : List V) (f : Addr) (fd : FuncData) : Prop := FunD K m (x ++ "." ++ m) (defArgs (sM i j)) (defBody (sM i j)) (defScope (sM i j)) dfl [] f fd
section
variable {P : Program} {w : World} {K : PySem.W.Frag} {mg : Str → Option Value} {base : Heap} {f C f0 C0 : Addr} {fd : FuncData}
theorem scPad : FnScope ["self", "told"] ((["self"] : List Str) ++ (["told"] : List Str)) (defScope (inClass (top i_PadError) 0)) := ⟨rfl, rfl, rfl, by decide +kernel, rfl, by decide +kernel, by decide +kernel⟩
theorem ok_pad (F : FnI K "PadError" i_PadError f fd) : FnR P w K mg base CX0 1 f (spPad K) := by
  obtain ⟨oc, od, dV, kV, doc, pm, an, cdv, ct, osl, rfl, lk, hcd, hD, hK⟩ := F.ex
  rcases hD with ⟨_, rfl⟩ | ⟨e, _⟩
  · refine FnR.imp (StX.fn_star (ps := ["self"]) (pv := "told") (N := ["self", "told"]) (CX := CX0) (k := 0) (sp := spPadIn K) lk hcd scPad StX.cxUp_none
      (fun us rest hl => match us, rest, hl with | [_], [], _ => rfl | [_], _ :: _, _ => rfl) (fun A outer s H vs Q E hr h => ?_)) pad_imp
    obtain ⟨a, C, p, rfl, T, no, ha, q⟩ := h
    refine ⟨_, PSs.nox (pss_one (ps_ost (pv 0) (pv 1))), ?_⟩
    exact ⟨_, rfl, _, rfl, a, C, rfl, T, no, .inl ⟨ha, fun dx hn ne => q dx hn ne⟩⟩
  · exact absurd rfl e
theorem scI_BadName : FnScope ["self", "name"] ["self", "name"] (defScope (inClass (top i_BadName) 0)) := ⟨rfl, rfl, rfl, by decide +kernel, rfl, by decide +kernel, by decide +kernel⟩
theorem ok_BadName (F : FnI K "BadName" i_BadName f fd) (gP : mg "PadError" = some (.ref C0)) (O : OffT K C0 f0) (GP : FnR P w K mg base CX0 1 f0 (spPad K)) (T : ErrT K C f ["told", "name"]) :
    FnOk P w K mg base CX0 2 f fd ["self", "name"] (Ev.spIniD K C ["name"]) := by
  refine F.ok scI_BadName (fun vs H Q E h => ?_) (fun cdv A outer s H vs Q E hr h => ?_)
  · obtain ⟨a, ys, rfl, hl, _⟩ := h
    show ys.length + 1 = 2
    rw [hl]; rfl
  · obtain ⟨a, ys, rfl, hl, ha, q⟩ := h
    obtain ⟨y0, rfl⟩ : ∃ y, ys = [y] := match ys, hl with | [y], _ => ⟨y, rfl⟩
    refine ⟨_, PSs.nox (pss_cons (ps_expr (pe_off (E := E0) (pe_glob (v := .ref C0) rfl gP rfl) O.rd O.at_ GP hr O.kp pass0 (pa_cons (pv 0) (pa_cons (pv 1) pa_nil))))
      (pss_one (ps_ost (pv 0) (pv 1)))), ?_⟩
    refine ⟨rfl, _, rfl, _, rfl, a, C, [y0], rfl, T.ox, T.no _ (by simp), ha, (by show 1 ≤ 900; decide), fun p d hp hd dp da => ?_⟩
    refine ⟨_, rfl, _, rfl, a, C, rfl, T.ox, T.no _ (by simp), .inr ⟨d, [(("told" : Str), .ref p)], upd_same, by rw [upd_ne da, upd_same], (by show 1 ≤ 900; decide), ?_⟩⟩
    exact q _ d p da hd (ini1 ha hp hd dp da).1 (by rw [upd_ne (Ne.symm da), upd_same]) upd_same
theorem bI_BadName {fN : Addr} {dN : FuncData} (F : FnI K "BadName" i_BadName fN dN) : Binds K dN ["self", "name"] [] := FunD.bindsN F fun _ _ _ _ _ _ us hl => match us, hl with | [_, _], _ => rfl
theorem scI_BadTimes : FnScope ["self", "value"] ["self", "value"] (defScope (inClass (top i_BadTimes) 0)) := ⟨rfl, rfl, rfl, by decide +kernel, rfl, by decide +kernel, by decide +kernel⟩
theorem ok_BadTimes (F : FnI K "BadTimes" i_BadTimes f fd) (gP : mg "PadError" = some (.ref C0)) (O : OffT K C0 f0) (GP : FnR P w K mg base CX0 1 f0 (spPad K)) (T : ErrT K C f ["told", "value"]) :
    FnOk P w K mg base CX0 2 f fd ["self", "value"] (Ev.spIniD K C ["value"]) := by
  refine F.ok scI_BadTimes (fun vs H Q E h => ?_) (fun cdv A outer s H vs Q E hr h => ?_)
  · obtain ⟨a, ys, rfl, hl, _⟩ := h
    show ys.length + 1 = 2
    rw [hl]; rfl
  · obtain ⟨a, ys, rfl, hl, ha, q⟩ := h
    obtain ⟨y0, rfl⟩ : ∃ y, ys = [y] := match ys, hl with | [y], _ => ⟨y, rfl⟩
    refine ⟨_, PSs.nox (pss_cons (ps_expr (pe_off (E := E0) (pe_glob (v := .ref C0) rfl gP rfl) O.rd O.at_ GP hr O.kp pass0 (pa_cons (pv 0) (pa_cons (pv 1) pa_nil))))
      (pss_one (ps_ost (pv 0) (pv 1)))), ?_⟩
    refine ⟨rfl, _, rfl, _, rfl, a, C, [y0], rfl, T.ox, T.no _ (by simp), ha, (by show 1 ≤ 900; decide), fun p d hp hd dp da => ?_⟩
    refine ⟨_, rfl, _, rfl, a, C, rfl, T.ox, T.no _ (by simp), .inr ⟨d, [(("told" : Str), .ref p)], upd_same, by rw [upd_ne da, upd_same], (by show 1 ≤ 900; decide), ?_⟩⟩
    exact q _ d p da hd (ini1 ha hp hd dp da).1 (by rw [upd_ne (Ne.symm da), upd_same]) upd_same
theorem bI_BadTimes {fN : Addr} {dN : FuncData} (F : FnI K "BadTimes" i_BadTimes fN dN) : Binds K dN ["self", "value"] [] := FunD.bindsN F fun _ _ _ _ _ _ us hl => match us, hl with | [_, _], _ => rfl
theorem scI_BadParts : FnScope ["self", "at"] ["self", "at"] (defScope (inClass (top i_BadParts) 0)) := ⟨rfl, rfl, rfl, by decide +kernel, rfl, by decide +kernel, by decide +kernel⟩
theorem ok_BadParts (F : FnI K "BadParts" i_BadParts f fd) (gP : mg "PadError" = some (.ref C0)) (O : OffT K C0 f0) (GP : FnR P w K mg base CX0 1 f0 (spPad K)) (T : ErrT K C f ["told", "at"]) :
    FnOk P w K mg base CX0 2 f fd ["self", "at"] (Ev.spIniD K C ["at"]) := by
  refine F.ok scI_BadParts (fun vs H Q E h => ?_) (fun cdv A outer s H vs Q E hr h => ?_)
  · obtain ⟨a, ys, rfl, hl, _⟩ := h
    show ys.length + 1 = 2
    rw [hl]; rfl
  · obtain ⟨a, ys, rfl, hl, ha, q⟩ := h
    obtain ⟨y0, rfl⟩ : ∃ y, ys = [y] := match ys, hl with | [y], _ => ⟨y, rfl⟩
    refine ⟨_, PSs.nox (pss_cons (ps_expr (pe_off (E := E0) (pe_glob (v := .ref C0) rfl gP rfl) O.rd O.at_ GP hr O.kp pass0 (pa_cons (pv 0) (pa_cons (pv 1) pa_nil))))
      (pss_one (ps_ost (pv 0) (pv 1)))), ?_⟩
    refine ⟨rfl, _, rfl, _, rfl, a, C, [y0], rfl, T.ox, T.no _ (by simp), ha, (by show 1 ≤ 900; decide), fun p d hp hd dp da => ?_⟩
    refine ⟨_, rfl, _, rfl, a, C, rfl, T.ox, T.no _ (by simp), .inr ⟨d, [(("told" : Str), .ref p)], upd_same, by rw [upd_ne da, upd_same], (by show 1 ≤ 900; decide), ?_⟩⟩
    exact q _ d p da hd (ini1 ha hp hd dp da).1 (by rw [upd_ne (Ne.symm da), upd_same]) upd_same
theorem bI_BadParts {fN : Addr} {dN : FuncData} (F : FnI K "BadParts" i_BadParts fN dN) : Binds K dN ["self", "at"] [] := FunD.bindsN F fun _ _ _ _ _ _ us hl => match us, hl with | [_, _], _ => rfl
theorem scI_NoPath : FnScope ["self", "path", "at"] ["self", "path", "at"] (defScope (inClass (top i_NoPath) 0)) := ⟨rfl, rfl, rfl, by decide +kernel, rfl, by decide +kernel, by decide +kernel⟩
theorem ok_NoPath (F : FnI K "NoPath" i_NoPath f fd) (gP : mg "PadError" = some (.ref C0)) (O : OffT K C0 f0) (GP : FnR P w K mg base CX0 1 f0 (spPad K)) (T : ErrT K C f ["told", "path", "at"]) :
    FnOk P w K mg base CX0 2 f fd ["self", "path", "at"] (Ev.spIniD K C ["path", "at"]) := by
  refine F.ok scI_NoPath (fun vs H Q E h => ?_) (fun cdv A outer s H vs Q E hr h => ?_)
  · obtain ⟨a, ys, rfl, hl, _⟩ := h
    show ys.length + 1 = 3
    rw [hl]; rfl
  · obtain ⟨a, ys, rfl, hl, ha, q⟩ := h
    obtain ⟨y0, y1, rfl⟩ : ∃ y z, ys = [y, z] := match ys, hl with | [y, z], _ => ⟨y, z, rfl⟩
    refine ⟨_, PSs.nox (pss_cons (ps_expr (pe_off (E := E0) (pe_glob (v := .ref C0) rfl gP rfl) O.rd O.at_ GP hr O.kp pass0 (pa_cons (pv 0) (pa_cons (pv 1) (pa_cons (pv 2) pa_nil)))))
      (pss_cons (ps_ost (pv 0) (pv 1)) (pss_one (ps_ost (pv 0) (pv 2))))), ?_⟩
    refine ⟨rfl, _, rfl, _, rfl, _, rfl, a, C, [y0, y1], rfl, T.ox, T.no _ (by simp), ha, (by show 2 ≤ 900; decide), fun p d hp hd dp da => ?_⟩
    refine ⟨_, rfl, _, rfl, a, C, rfl, T.ox, T.no _ (by simp), .inr ⟨d, [(("told" : Str), .ref p)], upd_same, by rw [upd_ne da, upd_same], (by show 1 ≤ 900; decide), ?_⟩⟩
    refine ⟨_, rfl, _, rfl, a, C, rfl, T.ox, T.no _ (by simp), .inr ⟨d, _, by rw [upd_ne (Ne.symm da), upd_same], upd_same, (by show 2 ≤ 900; decide), ?_⟩⟩
    exact q _ d p da hd (ini2 ha hp hd dp da).1 (by rw [upd_ne (Ne.symm da), upd_ne (Ne.symm da), upd_same]) upd_same
theorem bI_NoPath {fN : Addr} {dN : FuncData} (F : FnI K "NoPath" i_NoPath fN dN) : Binds K dN ["self", "path", "at"] [] := FunD.bindsN F fun _ _ _ _ _ _ us hl => match us, hl with | [_, _, _], _ => rfl
theorem scI_TooLarge : FnScope ["self", "what", "most"] ["self", "what", "most"] (defScope (inClass (top i_TooLarge) 0)) := ⟨rfl, rfl, rfl, by decide +kernel, rfl, by decide +kernel, by decide +kernel⟩
theorem ok_TooLarge (F : FnI K "TooLarge" i_TooLarge f fd) (gP : mg "PadError" = some (.ref C0)) (O : OffT K C0 f0) (GP : FnR P w K mg base CX0 1 f0 (spPad K)) (T : ErrT K C f ["told", "what", "most"]) :
    FnOk P w K mg base CX0 2 f fd ["self", "what", "most"] (Ev.spIniD K C ["what", "most"]) := by
  refine F.ok scI_TooLarge (fun vs H Q E h => ?_) (fun cdv A outer s H vs Q E hr h => ?_)
  · obtain ⟨a, ys, rfl, hl, _⟩ := h
    show ys.length + 1 = 3
    rw [hl]; rfl
  · obtain ⟨a, ys, rfl, hl, ha, q⟩ := h
    obtain ⟨y0, y1, rfl⟩ : ∃ y z, ys = [y, z] := match ys, hl with | [y, z], _ => ⟨y, z, rfl⟩
    refine ⟨_, PSs.nox (pss_cons (ps_expr (pe_off (E := E0) (pe_glob (v := .ref C0) rfl gP rfl) O.rd O.at_ GP hr O.kp pass0 (pa_cons (pv 0) (pa_cons (pv 1) (pa_cons (pv 2) pa_nil)))))
      (pss_cons (ps_ost (pv 0) (pv 1)) (pss_one (ps_ost (pv 0) (pv 2))))), ?_⟩
    refine ⟨rfl, _, rfl, _, rfl, _, rfl, a, C, [y0, y1], rfl, T.ox, T.no _ (by simp), ha, (by show 2 ≤ 900; decide), fun p d hp hd dp da => ?_⟩
    refine ⟨_, rfl, _, rfl, a, C, rfl, T.ox, T.no _ (by simp), .inr ⟨d, [(("told" : Str), .ref p)], upd_same, by rw [upd_ne da, upd_same], (by show 1 ≤ 900; decide), ?_⟩⟩
    refine ⟨_, rfl, _, rfl, a, C, rfl, T.ox, T.no _ (by simp), .inr ⟨d, _, by rw [upd_ne (Ne.symm da), upd_same], upd_same, (by show 2 ≤ 900; decide), ?_⟩⟩
    exact q _ d p da hd (ini2 ha hp hd dp da).1 (by rw [upd_ne (Ne.symm da), upd_ne (Ne.symm da), upd_same]) upd_same
theorem bI_TooLarge {fN : Addr} {dN : FuncData} (F : FnI K "TooLarge" i_TooLarge fN dN) : Binds K dN ["self", "what", "most"] [] := FunD.bindsN F fun _ _ _ _ _ _ us hl => match us, hl with | [_, _, _], _ => rfl
end
/-- what the head says -/
structure Fh (P : Program) (w : World) (K : PySem.W.Frag) (mg : Str → Option Value) (base : Heap) : Prop where
  g_PadError : mg "PadError" = some (.ref (He.ga K "PadError"))
  g_BadName : mg "BadName" = some (.ref (He.ga K "BadName"))
  g_BadTimes : mg "BadTimes" = some (.ref (He.ga K "BadTimes"))
  g_BadParts : mg "BadParts" = some (.ref (He.ga K "BadParts"))
  g_NoPath : mg "NoPath" = some (.ref (He.ga K "NoPath"))
  g_TooLarge : mg "TooLarge" = some (.ref (He.ga K "TooLarge"))
  g_Part : mg "Part" = some (.ref (He.ga K "Part"))
  g_Kind : mg "Kind" = some (.ref (He.ga K "Kind"))
  g_Byte : mg "Byte" = some (.ref (He.ga K "Byte"))
  g_Use : mg "Use" = some (.ref (He.ga K "Use"))
  g_Group : mg "Group" = some (.ref (He.ga K "Group"))
  g_Spread : mg "Spread" = some (.ref (He.ga K "Spread"))
  g_Row : mg "Row" = some (.ref (He.ga K "Row"))
  g_Record : mg "Record" = some (.ref (He.ga K "Record"))
  g_Overlay : mg "Overlay" = some (.ref (He.ga K "Overlay"))
  g_BARRED : mg "BARRED" = some (.ref (He.ga K "BARRED"))
  g_is_name : mg "is_name" = some (.ref (He.ga K "is_name"))
  g_is_number : mg "is_number" = some (.ref (He.ga K "is_number"))
  g_is_whole : mg "is_whole" = some (.ref (He.ga K "is_whole"))
  g_is_part : mg "is_part" = some (.ref (He.ga K "is_part"))
  g_checked_pairs : mg "checked_pairs" = some (.ref (He.ga K "checked_pairs"))
  g_is_pair : mg "is_pair" = some (.ref (He.ga K "is_pair"))
  g_stepped : mg "stepped" = some (.ref (He.ga K "stepped"))
  g_led : mg "led" = some (.ref (He.ga K "led"))
  g_need_path : mg "need_path" = some (.ref (He.ga K "need_path"))
  g__law_pen : mg "_law_pen" = some (.ref (He.ga K "_law_pen"))
  g__law_draw : mg "_law_draw" = some (.ref (He.ga K "_law_draw"))
  g__law_pick : mg "_law_pick" = some (.ref (He.ga K "_law_pick"))
  g__law_word : mg "_law_word" = some (.ref (He.ga K "_law_word"))
  g__law_is_name : mg "_law_is_name" = some (.ref (He.ga K "_law_is_name"))
  g__law_heard : mg "_law_heard" = some (.ref (He.ga K "_law_heard"))
  g__law_right : mg "_law_right" = some (.ref (He.ga K "_law_right"))
  g__law_equal_right : mg "_law_equal_right" = some (.ref (He.ga K "_law_equal_right"))
  g_law : mg "law" = some (.ref (He.ga K "law"))
  t_int : mg "int" = none
  t_len : mg "len" = none
  t_abs : mg "abs" = none
  t_range : mg "range" = none
  t_list : mg "list" = none
  t_isinstance : mg "isinstance" = none
  t_str : mg "str" = none
  t_max : mg "max" = none
  t_all : mg "all" = none
  t_bool : mg "bool" = none
  t_enumerate : mg "enumerate" = none
  t_tuple : mg "tuple" = none
  t_sum : mg "sum" = none
  t_repr : mg "repr" = none
  i_MOST_TIMES : ∃ t, mg "MOST_TIMES" = some (.int 8 t)
  i_LONGEST : ∃ t, mg "LONGEST" = some (.int 8 t)
  i_LETTERS : ∃ t, mg "LETTERS" = some (.str "abcdefghijklmnopqrstuvwxyz" t)
  mk_Byte : Mk K (He.ga K "Byte") (He.ma K (He.ga K "Byte") "__init__")
  mk_Kind : Mk K (He.ga K "Kind") (He.ma K (He.ga K "Kind") "__init__")
  mk_Use : Mk K (He.ga K "Use") (He.ma K (He.ga K "Use") "__init__")
  mk_Row : Mk K (He.ga K "Row") (He.ma K (He.ga K "Row") "__init__")
  mk_Record : Mk K (He.ga K "Record") (He.ma K (He.ga K "Record") "__init__")
  mk_Overlay : Mk K (He.ga K "Overlay") (He.ma K (He.ga K "Overlay") "__init__")
  x_BadName : PySem.W.exmOne K (.ref (He.ga K "BadName")) (.ref (He.ga K "PadError")) = some true
  x_BadTimes : PySem.W.exmOne K (.ref (He.ga K "BadTimes")) (.ref (He.ga K "PadError")) = some true
  x_BadParts : PySem.W.exmOne K (.ref (He.ga K "BadParts")) (.ref (He.ga K "PadError")) = some true
  x_NoPath : PySem.W.exmOne K (.ref (He.ga K "NoPath")) (.ref (He.ga K "PadError")) = some true
  x_TooLarge : PySem.W.exmOne K (.ref (He.ga K "TooLarge")) (.ref (He.ga K "PadError")) = some true
  cls : ClsT K [("Byte", ["text", "traits", "inside", "ends", "weight", "depth"]), ("Kind", ["text", "traits", "inside", "ends", "weight", "depth", "name", "times"]), ("Use", ["text", "traits", "inside", "ends", "weight", "depth", "name"]), ("Row", ["text", "traits", "inside", "ends", "weight", "depth", "part", "n"]), ("Record", ["text", "traits", "inside", "ends", "weight", "depth", "fields"]), ("Overlay", ["text", "traits", "inside", "ends", "weight", "depth", "members"])]
  F_Part_init : ∃ fd, FnM K "Part" "__init__" i_Part j_Part___init__ [.str "", .ref (He.dflAt ("Part", some "__init__") 1 K), .ref (He.dflAt ("Part", some "__init__") 2 K), .int 1] (He.ma K (He.ga K "Part") "__init__") fd
  F_Part_eq : ∃ fd, FnM K "Part" "__eq__" i_Part j_Part___eq__ [] (He.ma K (He.ga K "Part") "__eq__") fd
  F_Group_len : ∃ fd, FnM K "Group" "__len__" i_Group j_Group___len__ [] (He.ma K (He.ga K "Group") "__len__") fd
  F_Kind_init : ∃ fd, FnM K "Kind" "__init__" i_Kind j_Kind___init__ [.int 1] (He.ma K (He.ga K "Kind") "__init__") fd
  F_Kind_str : ∃ fd, FnM K "Kind" "__str__" i_Kind j_Kind___str__ [] (He.ma K (He.ga K "Kind") "__str__") fd
  F_Byte_init : ∃ fd, FnM K "Byte" "__init__" i_Byte j_Byte___init__ [] (He.ma K (He.ga K "Byte") "__init__") fd
  F_Byte_str : ∃ fd, FnM K "Byte" "__str__" i_Byte j_Byte___str__ [] (He.ma K (He.ga K "Byte") "__str__") fd
  F_Use_init : ∃ fd, FnM K "Use" "__init__" i_Use j_Use___init__ [] (He.ma K (He.ga K "Use") "__init__") fd
  F_Use_str : ∃ fd, FnM K "Use" "__str__" i_Use j_Use___str__ [] (He.ma K (He.ga K "Use") "__str__") fd
  F_Row_init : ∃ fd, FnM K "Row" "__init__" i_Row j_Row___init__ [] (He.ma K (He.ga K "Row") "__init__") fd
  F_Row_str : ∃ fd, FnM K "Row" "__str__" i_Row j_Row___str__ [] (He.ma K (He.ga K "Row") "__str__") fd
  F_Record_init : ∃ fd, FnM K "Record" "__init__" i_Record j_Record___init__ [] (He.ma K (He.ga K "Record") "__init__") fd
  F_Record_str : ∃ fd, FnM K "Record" "__str__" i_Record j_Record___str__ [] (He.ma K (He.ga K "Record") "__str__") fd
  F_Overlay_init : ∃ fd, FnM K "Overlay" "__init__" i_Overlay j_Overlay___init__ [] (He.ma K (He.ga K "Overlay") "__init__") fd
  F_Overlay_str : ∃ fd, FnM K "Overlay" "__str__" i_Overlay j_Overlay___str__ [] (He.ma K (He.ga K "Overlay") "__str__") fd
  F_is_name : ∃ fd, FnL K "is_name" i_is_name (He.ga K "is_name") fd
  F_is_number : ∃ fd, FnL K "is_number" i_is_number (He.ga K "is_number") fd
  F_is_whole : ∃ fd, FnL K "is_whole" i_is_whole (He.ga K "is_whole") fd
  F_is_part : ∃ fd, FnL K "is_part" i_is_part (He.ga K "is_part") fd
  F_checked_pairs : ∃ fd, FnL K "checked_pairs" i_checked_pairs (He.ga K "checked_pairs") fd
  F_is_pair : ∃ fd, FnL K "is_pair" i_is_pair (He.ga K "is_pair") fd
  F_stepped : ∃ fd, FnL K "stepped" i_stepped (He.ga K "stepped") fd
  F_led : ∃ fd, FnL K "led" i_led (He.ga K "led") fd
  F_need_path : ∃ fd, FnL K "need_path" i_need_path (He.ga K "need_path") fd
  F__law_pen : ∃ fd, FnL K "_law_pen" i__law_pen (He.ga K "_law_pen") fd
  F__law_draw : ∃ fd, FnL K "_law_draw" i__law_draw (He.ga K "_law_draw") fd
  F__law_pick : ∃ fd, FnL K "_law_pick" i__law_pick (He.ga K "_law_pick") fd
  F__law_word : ∃ fd, FnL K "_law_word" i__law_word (He.ga K "_law_word") fd
  F__law_is_name : ∃ fd, FnL K "_law_is_name" i__law_is_name (He.ga K "_law_is_name") fd
  F__law_heard : ∃ fd, FnL K "_law_heard" i__law_heard (He.ga K "_law_heard") fd
  F__law_right : ∃ fd, FnL K "_law_right" i__law_right (He.ga K "_law_right") fd
  F__law_equal_right : ∃ fd, FnL K "_law_equal_right" i__law_equal_right (He.ga K "_law_equal_right") fd
  F_law : ∃ fd, FnL K "law" i_law (He.ga K "law") fd
  er : ErrsT errs K
  sys : SysK K
  E_BadName : DefE P w K mg base "BadName" ["name"]
  E_BadTimes : DefE P w K mg base "BadTimes" ["value"]
  E_BadParts : DefE P w K mg base "BadParts" ["at"]
  E_NoPath : DefE P w K mg base "NoPath" ["path", "at"]
  E_TooLarge : DefE P w K mg base "TooLarge" ["what", "most"]
  clG : ClG K
  isf : IsiF K ownT subT
  ce_Kind : ClE K "Part" "Kind" ["Kind", "Byte", "Use", "Row", "Record", "Overlay"]
  ce_Byte : ClE K "Part" "Byte" ["Kind", "Byte", "Use", "Row", "Record", "Overlay"]
  ce_Use : ClE K "Part" "Use" ["Kind", "Byte", "Use", "Row", "Record", "Overlay"]
  ce_Row : ClE K "Part" "Row" ["Kind", "Byte", "Use", "Row", "Record", "Overlay"]
  ce_Record : ClE K "Part" "Record" ["Kind", "Byte", "Use", "Row", "Record", "Overlay"]
  ce_Overlay : ClE K "Part" "Overlay" ["Kind", "Byte", "Use", "Row", "Record", "Overlay"]
  o_Part : OffT K (He.ga K "Part") (He.ma K (He.ga K "Part") "__init__")
  o_Group : OffT K (He.ga K "Group") (He.ma K (He.ga K "Part") "__init__")
  k_Part_DEPTH : ConstAt K "Part" "DEPTH" 4
  k_Row_MOST : ConstAt K "Row" "MOST" 64
  k_Record_MOST : ConstAt K "Record" "MOST" 8
  k_Overlay_MOST : ConstAt K "Overlay" "MOST" 4
  r_BARRED : tupC "BARRED" ((["byte", "size", "align", "place", "end", "packed", "and", "or", "not", "yes", "no", "for", "nogap", "notail", "leaf"] : List Str).map He.Dv.str) K = true
  sp_Kind_str : SpF K "Kind" "__str__" (He.ma K (He.ga K "Kind") "__str__")
  sp_Byte_str : SpF K "Byte" "__str__" (He.ma K (He.ga K "Byte") "__str__")
  sp_Use_str : SpF K "Use" "__str__" (He.ma K (He.ga K "Use") "__str__")
  sp_Row_str : SpF K "Row" "__str__" (He.ma K (He.ga K "Row") "__str__")
  sp_Record_str : SpF K "Record" "__str__" (He.ma K (He.ga K "Record") "__str__")
  sp_Overlay_str : SpF K "Overlay" "__str__" (He.ma K (He.ga K "Overlay") "__str__")
  sp_Row_len : SpF K "Row" "__len__" (He.ma K (He.ga K "Group") "__len__")
  sp_Record_len : SpF K "Record" "__len__" (He.ma K (He.ga K "Group") "__len__")
  sp_Overlay_len : SpF K "Overlay" "__len__" (He.ma K (He.ga K "Group") "__len__")
  c_nil1 : (fun K => Ev.nilT K (He.dflAt ("Part", some "__init__") 1 K)) K = true
  c_nil2 : (fun K => Ev.nilT K (He.dflAt ("Part", some "__init__") 2 K)) K = true
section
variable {P : Program} {w : World} {K : PySem.W.Frag} {mg : Str → Option Value} {h : Heap}
theorem fh_of (KX : K.In h) (G : h.Ns mainGlobals mg) (c : He.SaysD fa fn K) (m : ex K = true) (base : Heap) : Fh P w K mg base := by
  have er := Ev.errsB_ok (Ev.two m).1
  have m2 := (Ev.two m).2
  have hc : ClsT K [("Byte", ["text", "traits", "inside", "ends", "weight", "depth"]), ("Kind", ["text", "traits", "inside", "ends", "weight", "depth", "name", "times"]), ("Use", ["text", "traits", "inside", "ends", "weight", "depth", "name"]), ("Row", ["text", "traits", "inside", "ends", "weight", "depth", "part", "n"]), ("Record", ["text", "traits", "inside", "ends", "weight", "depth", "fields"]), ("Overlay", ["text", "traits", "inside", "ends", "weight", "depth", "members"])] := by
    refine ⟨fun q hq => ?_, fun q hq f hf => ?_⟩
    · simp only [List.mem_cons, List.not_mem_nil, or_false] at hq
      rcases hq with rfl | rfl | rfl | rfl | rfl | rfl
      · exact He.cls_ok (c.fact 51 rfl)
      · exact He.cls_ok (c.fact 59 rfl)
      · exact He.cls_ok (c.fact 69 rfl)
      · exact He.cls_ok (c.fact 78 rfl)
      · exact He.cls_ok (c.fact 88 rfl)
      · exact He.cls_ok (c.fact 97 rfl)
    · simp only [List.mem_cons, List.not_mem_nil, or_false] at hq
      rcases hq with rfl | rfl | rfl | rfl | rfl | rfl
      · simp only [List.mem_cons, List.not_mem_nil, or_false] at hf
        rcases hf with rfl | rfl | rfl | rfl | rfl | rfl
        · exact He.noat_ok (c.fact 53 rfl)
        · exact He.noat_ok (c.fact 54 rfl)
        · exact He.noat_ok (c.fact 55 rfl)
        · exact He.noat_ok (c.fact 56 rfl)
        · exact He.noat_ok (c.fact 57 rfl)
        · exact He.noat_ok (c.fact 58 rfl)
      · simp only [List.mem_cons, List.not_mem_nil, or_false] at hf
        rcases hf with rfl | rfl | rfl | rfl | rfl | rfl | rfl | rfl
        · exact He.noat_ok (c.fact 61 rfl)
        · exact He.noat_ok (c.fact 62 rfl)
        · exact He.noat_ok (c.fact 63 rfl)
        · exact He.noat_ok (c.fact 64 rfl)
        · exact He.noat_ok (c.fact 65 rfl)
        · exact He.noat_ok (c.fact 66 rfl)
        · exact He.noat_ok (c.fact 67 rfl)
        · exact He.noat_ok (c.fact 68 rfl)
      · simp only [List.mem_cons, List.not_mem_nil, or_false] at hf
        rcases hf with rfl | rfl | rfl | rfl | rfl | rfl | rfl
        · exact He.noat_ok (c.fact 71 rfl)
        · exact He.noat_ok (c.fact 72 rfl)
        · exact He.noat_ok (c.fact 73 rfl)
        · exact He.noat_ok (c.fact 74 rfl)
        · exact He.noat_ok (c.fact 75 rfl)
        · exact He.noat_ok (c.fact 76 rfl)
        · exact He.noat_ok (c.fact 77 rfl)
      · simp only [List.mem_cons, List.not_mem_nil, or_false] at hf
        rcases hf with rfl | rfl | rfl | rfl | rfl | rfl | rfl | rfl
        · exact He.noat_ok (c.fact 80 rfl)
        · exact He.noat_ok (c.fact 81 rfl)
        · exact He.noat_ok (c.fact 82 rfl)
        · exact He.noat_ok (c.fact 83 rfl)
        · exact He.noat_ok (c.fact 84 rfl)
        · exact He.noat_ok (c.fact 85 rfl)
        · exact He.noat_ok (c.fact 86 rfl)
        · exact He.noat_ok (c.fact 87 rfl)
      · simp only [List.mem_cons, List.not_mem_nil, or_false] at hf
        rcases hf with rfl | rfl | rfl | rfl | rfl | rfl | rfl
        · exact He.noat_ok (c.fact 90 rfl)
        · exact He.noat_ok (c.fact 91 rfl)
        · exact He.noat_ok (c.fact 92 rfl)
        · exact He.noat_ok (c.fact 93 rfl)
        · exact He.noat_ok (c.fact 94 rfl)
        · exact He.noat_ok (c.fact 95 rfl)
        · exact He.noat_ok (c.fact 96 rfl)
      · simp only [List.mem_cons, List.not_mem_nil, or_false] at hf
        rcases hf with rfl | rfl | rfl | rfl | rfl | rfl | rfl
        · exact He.noat_ok (c.fact 99 rfl)
        · exact He.noat_ok (c.fact 100 rfl)
        · exact He.noat_ok (c.fact 101 rfl)
        · exact He.noat_ok (c.fact 102 rfl)
        · exact He.noat_ok (c.fact 103 rfl)
        · exact He.noat_ok (c.fact 104 rfl)
        · exact He.noat_ok (c.fact 105 rfl)
  have hE_BadName : DefE P w K mg base "BadName" ["name"] := by
    obtain ⟨d1, F1⟩ := c.def_ 0 (d := mkD "PadError" i_PadError) rfl
    obtain ⟨d2, F2⟩ := c.def_ 1 (d := mkD "BadName" i_BadName) rfl
    have gP := He.glo_ok KX G (x := "PadError") (c.fact 0 rfl)
    exact ⟨_, He.glo_ok KX G (c.fact 1 rfl), er.one _ (show (("BadName" : Str), (["name"] : List Str)) ∈ errs by simp [errs]), ok_BadName F2 gP er.off (ok_pad F1) (er.one _ (show (("BadName" : Str), (["name"] : List Str)) ∈ errs by simp [errs])), bI_BadName F2⟩
  have hE_BadTimes : DefE P w K mg base "BadTimes" ["value"] := by
    obtain ⟨d1, F1⟩ := c.def_ 0 (d := mkD "PadError" i_PadError) rfl
    obtain ⟨d2, F2⟩ := c.def_ 2 (d := mkD "BadTimes" i_BadTimes) rfl
    have gP := He.glo_ok KX G (x := "PadError") (c.fact 0 rfl)
    exact ⟨_, He.glo_ok KX G (c.fact 2 rfl), er.one _ (show (("BadTimes" : Str), (["value"] : List Str)) ∈ errs by simp [errs]), ok_BadTimes F2 gP er.off (ok_pad F1) (er.one _ (show (("BadTimes" : Str), (["value"] : List Str)) ∈ errs by simp [errs])), bI_BadTimes F2⟩
  have hE_BadParts : DefE P w K mg base "BadParts" ["at"] := by
    obtain ⟨d1, F1⟩ := c.def_ 0 (d := mkD "PadError" i_PadError) rfl
    obtain ⟨d2, F2⟩ := c.def_ 3 (d := mkD "BadParts" i_BadParts) rfl
    have gP := He.glo_ok KX G (x := "PadError") (c.fact 0 rfl)
    exact ⟨_, He.glo_ok KX G (c.fact 3 rfl), er.one _ (show (("BadParts" : Str), (["at"] : List Str)) ∈ errs by simp [errs]), ok_BadParts F2 gP er.off (ok_pad F1) (er.one _ (show (("BadParts" : Str), (["at"] : List Str)) ∈ errs by simp [errs])), bI_BadParts F2⟩
  have hE_NoPath : DefE P w K mg base "NoPath" ["path", "at"] := by
    obtain ⟨d1, F1⟩ := c.def_ 0 (d := mkD "PadError" i_PadError) rfl
    obtain ⟨d2, F2⟩ := c.def_ 4 (d := mkD "NoPath" i_NoPath) rfl
    have gP := He.glo_ok KX G (x := "PadError") (c.fact 0 rfl)
    exact ⟨_, He.glo_ok KX G (c.fact 4 rfl), er.one _ (show (("NoPath" : Str), (["path", "at"] : List Str)) ∈ errs by simp [errs]), ok_NoPath F2 gP er.off (ok_pad F1) (er.one _ (show (("NoPath" : Str), (["path", "at"] : List Str)) ∈ errs by simp [errs])), bI_NoPath F2⟩
  have hE_TooLarge : DefE P w K mg base "TooLarge" ["what", "most"] := by
    obtain ⟨d1, F1⟩ := c.def_ 0 (d := mkD "PadError" i_PadError) rfl
    obtain ⟨d2, F2⟩ := c.def_ 5 (d := mkD "TooLarge" i_TooLarge) rfl
    have gP := He.glo_ok KX G (x := "PadError") (c.fact 0 rfl)
    exact ⟨_, He.glo_ok KX G (c.fact 5 rfl), er.one _ (show (("TooLarge" : Str), (["what", "most"] : List Str)) ∈ errs by simp [errs]), ok_TooLarge F2 gP er.off (ok_pad F1) (er.one _ (show (("TooLarge" : Str), (["what", "most"] : List Str)) ∈ errs by simp [errs])), bI_TooLarge F2⟩
  exact {
    g_PadError := He.glo_ok KX G (c.fact 0 rfl)
    g_BadName := He.glo_ok KX G (c.fact 1 rfl)
    g_BadTimes := He.glo_ok KX G (c.fact 2 rfl)
    g_BadParts := He.glo_ok KX G (c.fact 3 rfl)
    g_NoPath := He.glo_ok KX G (c.fact 4 rfl)
    g_TooLarge := He.glo_ok KX G (c.fact 5 rfl)
    g_Part := He.glo_ok KX G (c.fact 6 rfl)
    g_Kind := He.glo_ok KX G (c.fact 7 rfl)
    g_Byte := He.glo_ok KX G (c.fact 8 rfl)
    g_Use := He.glo_ok KX G (c.fact 9 rfl)
    g_Group := He.glo_ok KX G (c.fact 10 rfl)
    g_Spread := He.glo_ok KX G (c.fact 11 rfl)
    g_Row := He.glo_ok KX G (c.fact 12 rfl)
    g_Record := He.glo_ok KX G (c.fact 13 rfl)
    g_Overlay := He.glo_ok KX G (c.fact 14 rfl)
    g_BARRED := He.glo_ok KX G (c.fact 15 rfl)
    g_is_name := He.glo_ok KX G (c.fact 16 rfl)
    g_is_number := He.glo_ok KX G (c.fact 17 rfl)
    g_is_whole := He.glo_ok KX G (c.fact 18 rfl)
    g_is_part := He.glo_ok KX G (c.fact 19 rfl)
    g_checked_pairs := He.glo_ok KX G (c.fact 20 rfl)
    g_is_pair := He.glo_ok KX G (c.fact 21 rfl)
    g_stepped := He.glo_ok KX G (c.fact 22 rfl)
    g_led := He.glo_ok KX G (c.fact 23 rfl)
    g_need_path := He.glo_ok KX G (c.fact 24 rfl)
    g__law_pen := He.glo_ok KX G (c.fact 25 rfl)
    g__law_draw := He.glo_ok KX G (c.fact 26 rfl)
    g__law_pick := He.glo_ok KX G (c.fact 27 rfl)
    g__law_word := He.glo_ok KX G (c.fact 28 rfl)
    g__law_is_name := He.glo_ok KX G (c.fact 29 rfl)
    g__law_heard := He.glo_ok KX G (c.fact 30 rfl)
    g__law_right := He.glo_ok KX G (c.fact 31 rfl)
    g__law_equal_right := He.glo_ok KX G (c.fact 32 rfl)
    g_law := He.glo_ok KX G (c.fact 33 rfl)
    t_int := He.free_ok KX G (c.fact 34 rfl)
    t_len := He.free_ok KX G (c.fact 35 rfl)
    t_abs := He.free_ok KX G (c.fact 36 rfl)
    t_range := He.free_ok KX G (c.fact 37 rfl)
    t_list := He.free_ok KX G (c.fact 38 rfl)
    t_isinstance := He.free_ok KX G (c.fact 39 rfl)
    t_str := He.free_ok KX G (c.fact 40 rfl)
    t_max := He.free_ok KX G (c.fact 41 rfl)
    t_all := He.free_ok KX G (c.fact 42 rfl)
    t_bool := He.free_ok KX G (c.fact 43 rfl)
    t_enumerate := He.free_ok KX G (c.fact 44 rfl)
    t_tuple := He.free_ok KX G (c.fact 45 rfl)
    t_sum := He.free_ok KX G (c.fact 46 rfl)
    t_repr := He.free_ok KX G (c.fact 47 rfl)
    i_MOST_TIMES := He.int_ok KX G (c.fact 48 rfl)
    i_LONGEST := He.int_ok KX G (c.fact 49 rfl)
    i_LETTERS := He.str_ok KX G (c.fact 50 rfl)
    mk_Byte := He.mkr_ok (c.fact 52 rfl)
    mk_Kind := He.mkr_ok (c.fact 60 rfl)
    mk_Use := He.mkr_ok (c.fact 70 rfl)
    mk_Row := He.mkr_ok (c.fact 79 rfl)
    mk_Record := He.mkr_ok (c.fact 89 rfl)
    mk_Overlay := He.mkr_ok (c.fact 98 rfl)
    x_BadName := He.exm_ok (c.fact 106 rfl)
    x_BadTimes := He.exm_ok (c.fact 107 rfl)
    x_BadParts := He.exm_ok (c.fact 108 rfl)
    x_NoPath := He.exm_ok (c.fact 109 rfl)
    x_TooLarge := He.exm_ok (c.fact 110 rfl)
    cls := hc
    F_Part_init := c.def_ 6 (d := meD "Part" "__init__" i_Part j_Part___init__ [.str "", .adr (He.dflAt ("Part", some "__init__") 1), .adr (He.dflAt ("Part", some "__init__") 2), .int 1]) rfl
    F_Part_eq := c.def_ 7 (d := meD "Part" "__eq__" i_Part j_Part___eq__ []) rfl
    F_Group_len := c.def_ 8 (d := meD "Group" "__len__" i_Group j_Group___len__ []) rfl
    F_Kind_init := c.def_ 9 (d := meD "Kind" "__init__" i_Kind j_Kind___init__ [.int 1]) rfl
    F_Kind_str := c.def_ 10 (d := meD "Kind" "__str__" i_Kind j_Kind___str__ []) rfl
    F_Byte_init := c.def_ 11 (d := meD "Byte" "__init__" i_Byte j_Byte___init__ []) rfl
    F_Byte_str := c.def_ 12 (d := meD "Byte" "__str__" i_Byte j_Byte___str__ []) rfl
    F_Use_init := c.def_ 13 (d := meD "Use" "__init__" i_Use j_Use___init__ []) rfl
    F_Use_str := c.def_ 14 (d := meD "Use" "__str__" i_Use j_Use___str__ []) rfl
    F_Row_init := c.def_ 15 (d := meD "Row" "__init__" i_Row j_Row___init__ []) rfl
    F_Row_str := c.def_ 16 (d := meD "Row" "__str__" i_Row j_Row___str__ []) rfl
    F_Record_init := c.def_ 17 (d := meD "Record" "__init__" i_Record j_Record___init__ []) rfl
    F_Record_str := c.def_ 18 (d := meD "Record" "__str__" i_Record j_Record___str__ []) rfl
    F_Overlay_init := c.def_ 19 (d := meD "Overlay" "__init__" i_Overlay j_Overlay___init__ []) rfl
    F_Overlay_str := c.def_ 20 (d := meD "Overlay" "__str__" i_Overlay j_Overlay___str__ []) rfl
    F_is_name := c.def_ 21 (d := fnD "is_name" i_is_name) rfl
    F_is_number := c.def_ 22 (d := fnD "is_number" i_is_number) rfl
    F_is_whole := c.def_ 23 (d := fnD "is_whole" i_is_whole) rfl
    F_is_part := c.def_ 24 (d := fnD "is_part" i_is_part) rfl
    F_checked_pairs := c.def_ 25 (d := fnD "checked_pairs" i_checked_pairs) rfl
    F_is_pair := c.def_ 26 (d := fnD "is_pair" i_is_pair) rfl
    F_stepped := c.def_ 27 (d := fnD "stepped" i_stepped) rfl
    F_led := c.def_ 28 (d := fnD "led" i_led) rfl
    F_need_path := c.def_ 29 (d := fnD "need_path" i_need_path) rfl
    F__law_pen := c.def_ 30 (d := fnD "_law_pen" i__law_pen) rfl
    F__law_draw := c.def_ 31 (d := fnD "_law_draw" i__law_draw) rfl
    F__law_pick := c.def_ 32 (d := fnD "_law_pick" i__law_pick) rfl
    F__law_word := c.def_ 33 (d := fnD "_law_word" i__law_word) rfl
    F__law_is_name := c.def_ 34 (d := fnD "_law_is_name" i__law_is_name) rfl
    F__law_heard := c.def_ 35 (d := fnD "_law_heard" i__law_heard) rfl
    F__law_right := c.def_ 36 (d := fnD "_law_right" i__law_right) rfl
    F__law_equal_right := c.def_ 37 (d := fnD "_law_equal_right" i__law_equal_right) rfl
    F_law := c.def_ 38 (d := fnD "law" i_law) rfl
    er := er
    sys := er.sys
    E_BadName := hE_BadName
    E_BadTimes := hE_BadTimes
    E_BadParts := hE_BadParts
    E_NoPath := hE_NoPath
    E_TooLarge := hE_TooLarge
    clG := clGB_ok (chk_ok m2 0 rfl)
    isf := isiFB_ok (chk_ok m2 1 rfl)
    ce_Kind := clEB_ok (chk_ok m2 2 rfl)
    ce_Byte := clEB_ok (chk_ok m2 3 rfl)
    ce_Use := clEB_ok (chk_ok m2 4 rfl)
    ce_Row := clEB_ok (chk_ok m2 5 rfl)
    ce_Record := clEB_ok (chk_ok m2 6 rfl)
    ce_Overlay := clEB_ok (chk_ok m2 7 rfl)
    o_Part := offB_ok (chk_ok m2 8 rfl)
    o_Group := offB_ok (chk_ok m2 9 rfl)
    k_Part_DEPTH := constB_ok (chk_ok m2 10 rfl)
    k_Row_MOST := constB_ok (chk_ok m2 11 rfl)
    k_Record_MOST := constB_ok (chk_ok m2 12 rfl)
    k_Overlay_MOST := constB_ok (chk_ok m2 13 rfl)
    r_BARRED := chk_ok m2 14 rfl
    sp_Kind_str := spFB_ok (chk_ok m2 15 rfl)
    sp_Byte_str := spFB_ok (chk_ok m2 16 rfl)
    sp_Use_str := spFB_ok (chk_ok m2 17 rfl)
    sp_Row_str := spFB_ok (chk_ok m2 18 rfl)
    sp_Record_str := spFB_ok (chk_ok m2 19 rfl)
    sp_Overlay_str := spFB_ok (chk_ok m2 20 rfl)
    sp_Row_len := spFB_ok (chk_ok m2 21 rfl)
    sp_Record_len := spFB_ok (chk_ok m2 22 rfl)
    sp_Overlay_len := spFB_ok (chk_ok m2 23 rfl)
    c_nil1 := chk_ok m2 24 rfl
    c_nil2 := chk_ok m2 25 rfl
  }
end
end H1
set_option Elab.async false
set_option linter.all false
set_option maxRecDepth 100000
set_option maxHeartbeats 1000000
/-! The parts' theory with what the head says. -/
namespace H1
open PySem PySem.Spec PyProof.Rows L2 Ev Dl
abbrev esT : List Str := errs.map (·.1)
abbrev TT (K : PySem.W.Frag) : Th K := TP esT K
abbrev efT : Str → List Str := efP
abbrev atT : PO → Str → Option (D PO) := atP
abbrev cnT : PO → Str := cnP
abbrev erT : PO → Bool := erP
abbrev c_BARRED : List (D PO) := barredS.map .str
def allP : List Str := ["Kind", "Byte", "Use", "Row", "Record", "Overlay"]
theorem cn_all (p : Pt) : p.cn ∈ allP := by
  cases p with
  | byte => exact List.mem_of_getElem? (i := 1) rfl
  | kind s t => exact List.mem_of_getElem? (i := 0) rfl
  | use s => exact List.mem_of_getElem? (i := 2) rfl
  | row p n => exact List.mem_of_getElem? (i := 3) rfl
  | grp ov ps =>
    cases ov
    · exact List.mem_of_getElem? (i := 4) rfl
    · exact List.mem_of_getElem? (i := 5) rfl
theorem err_not : ∀ C ∈ esT, C ∉ allP := by decide
theorem err_ef : ∀ q ∈ errs, efT q.1 = q.2 := by decide
theorem err_nd : ∀ C ∈ esT, (efT C).Nodup := by decide
section
variable {P : Program} {w : World} {K : PySem.W.Frag} {mg : Str → Option Value} {base : Heap}
abbrev Fc := Fh
theorem Fh.err (F : Fh P w K mg base) {C : Str} (h : C ∈ esT) : ExcC K (He.ga K C) ∧ ∀ f ∈ efT C, PySem.W.findIn K (.ref (He.ga K C)) f = some none := by
  obtain ⟨q, hq, rfl⟩ := List.mem_map.mp h
  have e := F.er.one q hq
  exact ⟨e.ec, fun f hf => e.no f (List.mem_cons_of_mem _ (by rw [← err_ef q hq]; exact hf))⟩
theorem Fh.at_ (F : Fh P w K mg base) : AttrT (TT K) atT := atP_ok F.cls fun C m a ds h f d x l => exc_fld (F.err m).1 (F.err m).2 (err_nd C m) x l
theorem Fh.one (F : Fh P w K mg base) (p : Pt) : ClE K "Part" p.cn allP ∧ Cls K (He.ga K p.cn) := by
  refine ⟨?_, F.cls.cls _ (tbP_mem p [])⟩
  cases p with
  | byte => exact F.ce_Byte
  | kind s t => exact F.ce_Kind
  | use s => exact F.ce_Use
  | row p n => exact F.ce_Row
  | grp ov ps =>
    cases ov
    · exact F.ce_Record
    · exact F.ce_Overlay
theorem Fh.clsC (F : Fh P w K mg base) (p : Pt) : ClsC K (He.ga K p.cn) := (F.one p).1.clsC F.clG (F.one p).2
theorem Fh.isi (F : Fh P w K mg base) : IsiT K (TT K) cnT erT ownT subT := by
  refine ⟨fun H a o r e => ?_, fun H a o r e => ?_, F.isf.oo, F.isf.ob, F.isf.bo⟩
  · cases o with
    | mk C fs => exact (mk_no r).elim
    | err C ds => cases e
    | base p =>
      obtain ⟨_, dx, vs, e, _⟩ := part_at r
      have o := (F.one p).1
      exact .base (.ins e (F.one p).2 o.ca F.clG.cn F.clG.ct o.cm)
  · cases o with
    | mk C fs => cases e
    | base p => cases e
    | err C ds =>
      obtain ⟨m, d, p, vs, e1, e2, _⟩ := erP_at r
      exact ⟨(F.err m).1, d, _, e1, e2⟩
theorem flds_no (p : Pt) (e : List (Key × D PO)) : ∀ m ∈ (["put", "paths", "uses", "kinds_in"] : List Str), m ∉ (p.flds e).map (·.1) := by
  have h := tbP_mem p e
  have : ∀ q ∈ tbP, ∀ m ∈ (["put", "paths", "uses", "kinds_in"] : List Str), m ∉ q.2 := by decide
  exact this _ h
theorem Fh.cn (F : Fh P w K mg base) : CnT (TT K) cnT allP ["put", "paths", "uses", "kinds_in"] := ⟨fun h a o r hc => by
  cases o with
  | mk C fs => exact (mk_no r).elim
  | err C ds => exact absurd hc (err_not C (erP_at r).1)
  | base p =>
    obtain ⟨_, dx, vs, e, q⟩ := part_at r
    refine ⟨dx, vs, e, fun m hm => ?_⟩
    cases l : vs.lookup m with
    | none => rfl
    | some v =>
      have := lookup_mem l
      rw [RepF.names q] at this
      exact absurd this (flds_no p _ m hm)⟩
def okC : PO → Bool
  | .base _ => true
  | _ => false
theorem cn_len (p : Pt) : p.cn.length ≤ sizeLine := by
  have : ∀ x ∈ allP, x.length ≤ sizeLine := by decide +kernel
  exact this _ (cn_all p)
theorem Fh.nmC (F : Fh P w K mg base) : ClsN (TT K) cnT okC := ⟨fun h a o r e => by
  cases o with
  | mk C fs => cases e
  | err C ds => cases e
  | base p =>
    obtain ⟨_, dx, vs, e, _⟩ := part_at r
    have o := (F.one p).1
    exact ⟨dx, vs, e, F.clsC p, o.nm, o.gn, o.rd, cn_len p⟩⟩
theorem Fh.xmE (F : Fh P w K mg base) : ∀ y, (fun y => decide (y ∈ esT)) y = true → PySem.W.exmOne K (.ref (He.ga K y)) (.ref (He.ga K "PadError")) = some true := fun y h => by
  have h : y ∈ esT := of_decide_eq_true h
  simp only [esT, errs, List.map_cons, List.map_nil, List.mem_cons, List.not_mem_nil, or_false] at h
  rcases h with rfl | rfl | rfl | rfl | rfl
  · exact F.x_BadName
  · exact F.x_BadTimes
  · exact F.x_BadParts
  · exact F.x_NoPath
  · exact F.x_TooLarge
abbrev okE : Str → Bool := fun y => decide (y ∈ esT)
theorem Fh.rBARRED (F : Fh P w K mg base) (h : Hp) : Rep (TT K) h (.ref (He.ga K "BARRED")) (.tup c_BARRED) := rep_tupC F.r_BARRED (by decide) h
theorem Fh.erO (F : Fh P w K mg base) : ErrO (TT K) efT (fun y => decide (y ∈ esT)) .err := ⟨fun H a y ds h x => erP_mk (of_decide_eq_true h) x⟩
end
end H1
set_option Elab.async false
set_option linter.all false
set_option maxRecDepth 100000
set_option maxHeartbeats 2000000
/-! Readings of the program's defs. -/
namespace H1
open PySem PySem.Spec PyProof.Rows L2 Ev Dl
theorem un1 {k : Nat} {A : Around} (hr : Room k A) : A.units + 1 < cLine := Nat.lt_of_le_of_lt (Nat.add_le_add_left (by decide) _) hr.units
section
variable {P : Program} {w : World} {K : PySem.W.Frag} {mg : Str → Option Value} {base : Heap} {f : Addr}
abbrev N_is_name : List Str := ["value", "letter"]
theorem sc_is_name : FnScope N_is_name ["value"] (defScope (top i_is_name)) := ⟨rfl, rfl, rfl, by decide +kernel, rfl, by decide +kernel, by decide +kernel⟩
def t_is_name (K : PySem.W.Frag)  (xd : Xd (TT K)) : TDS (TT K) := (dSeq (dIf (dOr (dNot (dTru (dCall (rIsi1 cnT ownT subT) (dCons (dVar (TT K) 0) (dCons (dC (TT K) (.ty "str")) dNil))))) (dTest (dOp rInA (dVar (TT K) 0) (dC (TT K) (.tup c_BARRED))))) (dRet (dC (TT K) (.bl false))) dNx) (dRet (dAndV (dChain rLe rLe (dC (TT K) (.int 1)) (dCall (r1 (fLen (T := TT K))) (dCons (dVar (TT K) 0) dNil)) (dC (TT K) (.int 8))) (dCall (r1 (fAll (T := TT K))) (dCons (dLc (dItS (dVar (TT K) 0)) (dName 1) dYes (dOp rInA (dVar (TT K) 1) (dC (TT K) (.str "abcdefghijklmnopqrstuvwxyz"))) [1]) dNil)))))
theorem der_is_name {k : Nat} (F : Fc P w K mg base)   : Der P w K mg base N_is_name "is_name" (defScope (top i_is_name)) f k efT (defBody (top i_is_name)) (t_is_name K ) := fun cdv A outer s H E hr B xd XX => (pds_cons (pds_if (pdt_w (pdw_or (pdt_not (pdt_tru (pd_callB (cd_isi F.isi) F.t_isinstance (pda_cons (pd_var 0) (pda_cons (pd_ty (by rfl) F.t_str (by decide +kernel)) pda_nil))))) (pdw_or1 (pdt_cmp od_inA (pd_var 0) (pd_glob (v := .ref (He.ga K "BARRED")) (by rfl) F.g_BARRED rfl F.rBARRED))))) (pds_one (pds_ret pd_bl)) pds_nil) (pds_one (pds_ret (pd_and (pd_chain od_le od_le pd_int (pd_callB cd_len F.t_len (pda_cons (pd_var 0) pda_nil)) (pd_glob (v := .int 8) (by rfl) F.i_LONGEST.choose_spec ⟨_, rfl⟩ (fun _ => .int _))) (pd_one (pd_callB (cd_all rfl) F.t_all (pda_cons (pd_lc (own := [("letter", 1)]) rfl sc_is_name.nd (pdi_str (pd_var 0)) (blkOk_by (N := N_is_name) (sc := (defScope (top i_is_name))) (by decide +kernel)) (fun _ _ _ _ _ _ => (pdg_name 1 sc_is_name.nd)) (fun _ _ _ _ _ _ => pdts_nil) (fun _ _ _ _ _ _ => (pd_cmp od_inA (pd_var 1) (pd_glob (v := .str "abcdefghijklmnopqrstuvwxyz") (by rfl) F.i_LETTERS.choose_spec ⟨_, rfl⟩ (fun _ => .str _ (by decide +kernel)))))) pda_nil)))))))
abbrev N_is_number : List Str := ["value"]
theorem sc_is_number : FnScope N_is_number ["value"] (defScope (top i_is_number)) := ⟨rfl, rfl, rfl, by decide +kernel, rfl, by decide +kernel, by decide +kernel⟩
def t_is_number (K : PySem.W.Frag)  (xd : Xd (TT K)) : TDS (TT K) := (dRet (dAndV (dCall (rIsi1 cnT ownT subT) (dCons (dVar (TT K) 0) (dCons (dC (TT K) (.ty "int")) dNil))) (dNotV (dCall (rIsi1 cnT ownT subT) (dCons (dVar (TT K) 0) (dCons (dC (TT K) (.ty "bool")) dNil))))))
theorem der_is_number {k : Nat} (F : Fc P w K mg base)   : Der P w K mg base N_is_number "is_number" (defScope (top i_is_number)) f k efT (defBody (top i_is_number)) (t_is_number K ) := fun cdv A outer s H E hr B xd XX => (pds_one (pds_ret (pd_and (pd_callB (cd_isi F.isi) F.t_isinstance (pda_cons (pd_var 0) (pda_cons (pd_ty (by rfl) F.t_int (by decide +kernel)) pda_nil))) (pd_one (pd_not (pd_callB (cd_isi F.isi) F.t_isinstance (pda_cons (pd_var 0) (pda_cons (pd_ty (by rfl) F.t_bool (by decide +kernel)) pda_nil))))))))
abbrev N_is_whole : List Str := ["value", "least", "most"]
theorem sc_is_whole : FnScope N_is_whole ["value", "least", "most"] (defScope (top i_is_whole)) := ⟨rfl, rfl, rfl, by decide +kernel, rfl, by decide +kernel, by decide +kernel⟩
def t_is_whole (K : PySem.W.Frag) (sd_is_number : SpP (TT K)) (xd : Xd (TT K)) : TDS (TT K) := (dRet (dAndV (dCallP sd_is_number xd (dCons (dVar (TT K) 0) dNil)) (dChain rLe rLe (dVar (TT K) 1) (dVar (TT K) 0) (dVar (TT K) 2))))
theorem der_is_whole {k : Nat} (F : Fc P w K mg base) {sd_is_number : SpP (TT K)} {k_is_number : Nat} (D_is_number : DefP P w K mg base (L2.CX P w) k_is_number "is_number" ["value"] (spP (TT K) efT sd_is_number)) (h_is_number : k_is_number ≤ k) : Der P w K mg base N_is_whole "is_whole" (defScope (top i_is_whole)) f k efT (defBody (top i_is_whole)) (t_is_whole K sd_is_number) := fun cdv A outer s H E hr B xd XX => (pds_one (pds_ret (pd_and (pd_def D_is_number (hr.mono h_is_number) XX (pda_cons (pd_var 0) pda_nil)) (pd_one (pd_chain od_le od_le (pd_var 1) (pd_var 0) (pd_var 2))))))
abbrev N_is_part : List Str := ["value"]
theorem sc_is_part : FnScope N_is_part ["value"] (defScope (top i_is_part)) := ⟨rfl, rfl, rfl, by decide +kernel, rfl, by decide +kernel, by decide +kernel⟩
def t_is_part (K : PySem.W.Frag)  (xd : Xd (TT K)) : TDS (TT K) := (dRet (dIsiT cnT erT ownT subT (dVar (TT K) 0) [.inr "Kind", .inr "Byte", .inr "Use", .inr "Row", .inr "Record", .inr "Overlay"]))
theorem der_is_part {k : Nat} (F : Fc P w K mg base)   : Der P w K mg base N_is_part "is_part" (defScope (top i_is_part)) f k efT (defBody (top i_is_part)) (t_is_part K ) := fun cdv A outer s H E hr B xd XX => (pds_one (pds_ret (pd_isiT (ys := [.inr "Kind", .inr "Byte", .inr "Use", .inr "Row", .inr "Record", .inr "Overlay"]) F.isi F.t_isinstance (pd_var 0) (pa_cons (pe_glob (v := .ref (He.ga K "Kind")) (by rfl) F.g_Kind rfl) (pa_cons (pe_glob (v := .ref (He.ga K "Byte")) (by rfl) F.g_Byte rfl) (pa_cons (pe_glob (v := .ref (He.ga K "Use")) (by rfl) F.g_Use rfl) (pa_cons (pe_glob (v := .ref (He.ga K "Row")) (by rfl) F.g_Row rfl) (pa_cons (pe_glob (v := .ref (He.ga K "Record")) (by rfl) F.g_Record rfl) (pa_cons (pe_glob (v := .ref (He.ga K "Overlay")) (by rfl) F.g_Overlay rfl) pa_nil)))))) (fun _ _ _ h => h) (by decide))))
abbrev N_is_pair : List Str := ["value"]
theorem sc_is_pair : FnScope N_is_pair ["value"] (defScope (top i_is_pair)) := ⟨rfl, rfl, rfl, by decide +kernel, rfl, by decide +kernel, by decide +kernel⟩
def t_is_pair (K : PySem.W.Frag) (sd_is_name : SpP (TT K)) (sd_is_part : SpP (TT K)) (xd : Xd (TT K)) : TDS (TT K) := (dRet (dAndV (dCall (rIsi1 cnT ownT subT) (dCons (dVar (TT K) 0) (dCons (dC (TT K) (.ty "tuple")) dNil))) (dAndV (dOp rEqA (dCall (r1 (fLen (T := TT K))) (dCons (dVar (TT K) 0) dNil)) (dC (TT K) (.int 2))) (dAndV (dCallP sd_is_name xd (dCons (dOp rIxD (dVar (TT K) 0) (dC (TT K) (.int 0))) dNil)) (dCallP sd_is_part xd (dCons (dOp rIxD (dVar (TT K) 0) (dC (TT K) (.int 1))) dNil))))))
theorem der_is_pair {k : Nat} (F : Fc P w K mg base) {sd_is_name : SpP (TT K)} {sd_is_part : SpP (TT K)} {k_is_name : Nat} (D_is_name : DefP P w K mg base (L2.CX P w) k_is_name "is_name" ["value"] (spP (TT K) efT sd_is_name)) (h_is_name : k_is_name ≤ k) {k_is_part : Nat} (D_is_part : DefP P w K mg base (L2.CX P w) k_is_part "is_part" ["value"] (spP (TT K) efT sd_is_part)) (h_is_part : k_is_part ≤ k) : Der P w K mg base N_is_pair "is_pair" (defScope (top i_is_pair)) f k efT (defBody (top i_is_pair)) (t_is_pair K sd_is_name sd_is_part) := fun cdv A outer s H E hr B xd XX => (pds_one (pds_ret (pd_and (pd_callB (cd_isi F.isi) F.t_isinstance (pda_cons (pd_var 0) (pda_cons (pd_ty (by rfl) F.t_tuple (by decide +kernel)) pda_nil))) (pd_and (pd_cmp (od_eqA hr.units) (pd_callB cd_len F.t_len (pda_cons (pd_var 0) pda_nil)) pd_int) (pd_and (pd_def D_is_name (hr.mono h_is_name) XX (pda_cons (pd_ix (pd_var 0) pd_int) pda_nil)) (pd_one (pd_def D_is_part (hr.mono h_is_part) XX (pda_cons (pd_ix (pd_var 0) pd_int) pda_nil))))))))
abbrev N_checked_pairs : List Str := ["pairs", "most", "found", "at", "pair"]
theorem sc_checked_pairs : FnScope N_checked_pairs ["pairs", "most"] (defScope (top i_checked_pairs)) := ⟨rfl, rfl, rfl, by decide +kernel, rfl, by decide +kernel, by decide +kernel⟩
def lb_checked_pairs_1 (K : PySem.W.Frag) (sd_is_pair : SpP (TT K)) (xd : Xd (TT K)) : TDS (TT K) := (dSeq (dIf (dOr (dNot (dTru (dCallP sd_is_pair xd (dCons (dVar (TT K) 4) dNil)))) (dTest (dInD (dOp rIxD (dVar (TT K) 4) (dC (TT K) (.int 0))) (dVar (TT K) 2)))) (dRaise xd efT "BadParts" (dCons (dVar (TT K) 3) dNil)) dNx) (dPut (dVar (TT K) 2) (dOp rIxD (dVar (TT K) 4) (dC (TT K) (.int 0))) (dC (TT K) (.bl true))))
def t_checked_pairs (K : PySem.W.Frag) (sd_is_pair : SpP (TT K)) (xd : Xd (TT K)) : TDS (TT K) := (dSeq (dIf (dOr (dNot (dTru (dIsiT cnT erT ownT subT (dVar (TT K) 0) [.inl "list", .inl "tuple"]))) (dNot (dTest (dChain rLe rLe (dC (TT K) (.int 1)) (dCall (r1 (fLen (T := TT K))) (dCons (dVar (TT K) 0) dNil)) (dVar (TT K) 1))))) (dRaise xd efT "BadParts" (dCons (dC (TT K) .non) dNil)) dNx) (dSeq (dSet 2 (dDicO (TT K))) (dSeq (dFor (fun g cs Q => dItF (dItL (dVar (TT K) 0)) (enumD 0) g cs Q ∨ dItF (dItT (dVar (TT K) 0)) (enumD 0) g cs Q) (dGTup 2 (dGCons (dName 3) (dGCons (dName 4) dGNil))) (lb_checked_pairs_1 K sd_is_pair xd)) (dRet (dCall (r1 (fTuple (T := TT K))) (dCons (dVar (TT K) 0) dNil))))))
theorem der_checked_pairs {k : Nat} (F : Fc P w K mg base) {sd_is_pair : SpP (TT K)} {k_is_pair : Nat} (D_is_pair : DefP P w K mg base (L2.CX P w) k_is_pair "is_pair" ["value"] (spP (TT K) efT sd_is_pair)) (h_is_pair : k_is_pair ≤ k) (h3 : 3 ≤ k) : Der P w K mg base N_checked_pairs "checked_pairs" (defScope (top i_checked_pairs)) f k efT (defBody (top i_checked_pairs)) (t_checked_pairs K sd_is_pair) := fun cdv A outer s H E hr B xd XX => (pds_cons (pds_if (pdt_w (pdw_or (pdt_not (pdt_tru (pd_isiT (ys := [.inl "list", .inl "tuple"]) F.isi F.t_isinstance (pd_var 0) (pa_cons (pe_bltn (v := .ty "list") (by rfl) F.t_list (by decide +kernel) rfl) (pa_cons (pe_bltn (v := .ty "tuple") (by rfl) F.t_tuple (by decide +kernel) rfl) pa_nil)) (fun _ _ _ h => h) (by decide)))) (pdw_or1 (pdt_not (pdt_chain od_le od_le pd_int (pd_callB cd_len F.t_len (pda_cons (pd_var 0) pda_nil)) (pd_var 1)))))) (pds_one (pds_raise F.E_BadParts rfl (by decide) (hr.mono h3) XX rfl (pda_cons pd_non pda_nil))) pds_nil) (pds_cons (pds_set 2 sc_checked_pairs.nd pd_dicO) (pds_cons (pds_for (passes_of rfl) rfl (pdi_or (pdi_enumL F.t_enumerate (pd_var 0)) (pdi_enumT F.t_enumerate (pd_var 0))) (fun _ => (pdg_tup rfl (pdgs_cons (pdg_name 3 sc_checked_pairs.nd) (pdgs_cons (pdg_name 4 sc_checked_pairs.nd) pdgs_nil)))) (fun B1 l1 => (pds_cons (pds_if (pdt_w (pdw_or (pdt_not (pdt_tru (pd_def D_is_pair (hr.mono h_is_pair) (XX.le l1) (pda_cons (pd_var 4) pda_nil)))) (pdw_or1 (pdt_inD (un1 hr) (pd_ix (pd_var 4) pd_int) (pd_var 2))))) (pds_one (pds_raise F.E_BadParts rfl (by decide) (hr.mono h3) (XX.le l1) rfl (pda_cons (pd_var 3) pda_nil))) pds_nil) (pds_one (pds_dput (un1 hr) (pd_var 2) (pd_ix (pd_var 4) pd_int) pd_bl))))) (pds_one (pds_ret (pd_callTy cd_tuple F.t_tuple (pda_cons (pd_var 0) pda_nil)))))))
abbrev N_stepped : List Str := ["part", "step", "name", "inner"]
theorem sc_stepped : FnScope N_stepped ["part", "step"] (defScope (top i_stepped)) := ⟨rfl, rfl, rfl, by decide +kernel, rfl, by decide +kernel, by decide +kernel⟩
def lb_stepped_1 (K : PySem.W.Frag)  (xd : Xd (TT K)) : TDS (TT K) := (dIf (dTest (dOp rEqA (dVar (TT K) 2) (dVar (TT K) 1))) (dRet (dVar (TT K) 3)) dNx)
def t_stepped (K : PySem.W.Frag)  (xd : Xd (TT K)) : TDS (TT K) := (dSeq (dFor (dItT (dFld atT (dVar (TT K) 0) "inside")) (dGTup 2 (dGCons (dName 2) (dGCons (dName 3) dGNil))) (lb_stepped_1 K  xd)) (dRet (dC (TT K) .non)))
theorem der_stepped {k : Nat} (F : Fc P w K mg base)   : Der P w K mg base N_stepped "stepped" (defScope (top i_stepped)) f k efT (defBody (top i_stepped)) (t_stepped K ) := fun cdv A outer s H E hr B xd XX => (pds_cons (pds_for (passes_of rfl) rfl (pdi_tup (pd_fld F.at_ (pd_var 0))) (fun _ => (pdg_tup rfl (pdgs_cons (pdg_name 2 sc_stepped.nd) (pdgs_cons (pdg_name 3 sc_stepped.nd) pdgs_nil)))) (fun B1 l1 => (pds_one (pds_if (pdt_cmp (od_eqA hr.units) (pd_var 2) (pd_var 1)) (pds_one (pds_ret (pd_var 3))) pds_nil)))) (pds_one (pds_ret pd_non)))
abbrev N_led : List Str := ["part", "path", "rows", "at", "step"]
theorem sc_led : FnScope N_led ["part", "path", "rows"] (defScope (top i_led)) := ⟨rfl, rfl, rfl, by decide +kernel, rfl, by decide +kernel, by decide +kernel⟩
def lb_led_1 (K : PySem.W.Frag) (sd_stepped : SpP (TT K)) (xd : Xd (TT K)) : TDS (TT K) := (dSeq (dSet 0 (dIfE (dOr (dTru (dVar (TT K) 2)) (dNot (dTru (dCall (rIsi1 cnT ownT subT) (dCons (dVar (TT K) 0) (dCons (dC (TT K) (.cls "Row")) dNil)))))) (dCallP sd_stepped xd (dCons (dVar (TT K) 0) (dCons (dVar (TT K) 4) dNil))) (dC (TT K) .non))) (dIf (dTest (dOp rIsN (dVar (TT K) 0) (dC (TT K) .non))) (dRet (dTup (dCons (dC (TT K) .non) (dCons (dVar (TT K) 3) dNil)))) dNx))
def t_led (K : PySem.W.Frag) (sd_stepped : SpP (TT K)) (xd : Xd (TT K)) : TDS (TT K) := (dSeq (dIf (dNot (dTru (dCall (rIsi1 cnT ownT subT) (dCons (dVar (TT K) 1) (dCons (dC (TT K) (.ty "str")) dNil))))) (dRet (dTup (dCons (dC (TT K) .non) (dCons (dC (TT K) (.int 0)) dNil)))) dNx) (dSeq (dFor (dItF (dItL (dSplit (dVar (TT K) 1) (dC (TT K) (.str ".")))) (enumD 0)) (dGTup 2 (dGCons (dName 3) (dGCons (dName 4) dGNil))) (lb_led_1 K sd_stepped xd)) (dRet (dTup (dCons (dVar (TT K) 0) (dCons (dC (TT K) .non) dNil))))))
theorem der_led {k : Nat} (F : Fc P w K mg base) {sd_stepped : SpP (TT K)} {k_stepped : Nat} (D_stepped : DefP P w K mg base (L2.CX P w) k_stepped "stepped" ["part", "step"] (spP (TT K) efT sd_stepped)) (h_stepped : k_stepped ≤ k) : Der P w K mg base N_led "led" (defScope (top i_led)) f k efT (defBody (top i_led)) (t_led K sd_stepped) := fun cdv A outer s H E hr B xd XX => (pds_cons (pds_if (pdt_not (pdt_tru (pd_callB (cd_isi F.isi) F.t_isinstance (pda_cons (pd_var 1) (pda_cons (pd_ty (by rfl) F.t_str (by decide +kernel)) pda_nil))))) (pds_one (pds_ret (pd_tup (pda_cons pd_non (pda_cons pd_int pda_nil))))) pds_nil) (pds_cons (pds_for (passes_of rfl) rfl (pdi_enumL F.t_enumerate (pd_split (pd_var 1) pd_str)) (fun _ => (pdg_tup rfl (pdgs_cons (pdg_name 3 sc_led.nd) (pdgs_cons (pdg_name 4 sc_led.nd) pdgs_nil)))) (fun B1 l1 => (pds_cons (pds_set 0 sc_led.nd (pd_ifE (pdt_w (pdw_or (pdt_tru (pd_var 2)) (pdw_or1 (pdt_not (pdt_tru (pd_callB (cd_isi F.isi) F.t_isinstance (pda_cons (pd_var 0) (pda_cons (pd_glob (v := .ref (He.ga K "Row")) (by rfl) F.g_Row rfl (fun _ => .cls _)) pda_nil)))))))) (pd_def D_stepped (hr.mono h_stepped) (XX.le l1) (pda_cons (pd_var 0) (pda_cons (pd_var 4) pda_nil))) pd_non)) (pds_one (pds_if (pdt_cmp od_isN (pd_var 0) pd_non) (pds_one (pds_ret (pd_tup (pda_cons pd_non (pda_cons (pd_var 3) pda_nil))))) pds_nil))))) (pds_one (pds_ret (pd_tup (pda_cons (pd_var 0) (pda_cons pd_non pda_nil)))))))
abbrev N_need_path : List Str := ["part", "path", "found", "lost"]
theorem sc_need_path : FnScope N_need_path ["part", "path"] (defScope (top i_need_path)) := ⟨rfl, rfl, rfl, by decide +kernel, rfl, by decide +kernel, by decide +kernel⟩
def t_need_path (K : PySem.W.Frag) (sd_led : SpP (TT K)) (xd : Xd (TT K)) : TDS (TT K) := (dSeq (dAsg (dCallP sd_led xd (dCons (dVar (TT K) 0) (dCons (dVar (TT K) 1) (dCons (dC (TT K) (.bl true)) dNil)))) (dGTup 2 (dGCons (dName 2) (dGCons (dName 3) dGNil)))) (dSeq (dIf (dTest (dOp rIsN (dVar (TT K) 2) (dC (TT K) .non))) (dRaise xd efT "NoPath" (dCons (dVar (TT K) 1) (dCons (dVar (TT K) 3) dNil))) dNx) (dRet (dVar (TT K) 2))))
theorem der_need_path {k : Nat} (F : Fc P w K mg base) {sd_led : SpP (TT K)} {k_led : Nat} (D_led : DefP P w K mg base (L2.CX P w) k_led "led" ["part", "path", "rows"] (spP (TT K) efT sd_led)) (h_led : k_led ≤ k) (h3 : 3 ≤ k) : Der P w K mg base N_need_path "need_path" (defScope (top i_need_path)) f k efT (defBody (top i_need_path)) (t_need_path K sd_led) := fun cdv A outer s H E hr B xd XX => (pds_cons (pds_asg (pd_def D_led (hr.mono h_led) XX (pda_cons (pd_var 0) (pda_cons (pd_var 1) (pda_cons pd_bl pda_nil)))) (pdg_tup rfl (pdgs_cons (pdg_name 2 sc_need_path.nd) (pdgs_cons (pdg_name 3 sc_need_path.nd) pdgs_nil)))) (pds_cons (pds_if (pdt_cmp od_isN (pd_var 2) pd_non) (pds_one (pds_raise F.E_NoPath rfl (by decide) (hr.mono h3) XX rfl (pda_cons (pd_var 1) (pda_cons (pd_var 3) pda_nil)))) pds_nil) (pds_one (pds_ret (pd_var 2)))))
end
end H1
set_option Elab.async false
set_option linter.all false
set_option maxRecDepth 100000
set_option maxHeartbeats 1000000
/-! What the words' and the parts' defs promise. -/
namespace H1
open PySem PySem.Spec PyProof.Rows L2 Ev Dl
/-- what may be asked what it is -/
def askD : D PO → Bool
  | .non => true
  | .bl _ => true
  | .int _ => true
  | .str _ => true
  | .tup _ => true
  | .lst _ => true
  | .dic _ => true
  | .obj (.base _) => true
  | _ => false
def isIntD : D PO → Bool
  | .int _ => true
  | _ => false
def wholeD (d : D PO) (lo hi : Int) : Bool := match d with
  | .int i => decide (lo ≤ i) && decide (i ≤ hi)
  | _ => false
def nameD : D PO → Bool
  | .str s => nmS s
  | _ => false
def isPartD : D PO → Bool
  | .obj (.base _) => true
  | _ => false
/-- an item that is a pair of a name and a part -/
def pairD : D PO → Bool
  | .tup [a, b] => nameD a && isPartD b
  | _ => false
def letB : D PO → Bool
  | .str z => (match z.cps.toList with
    | [c] => decide (c ∈ lettersS.cps.toList)
    | _ => false)
  | _ => false
theorem signs_let (s : Str) : (signsD s).map letB = s.cps.toList.map fun c => decide (c ∈ lettersS.cps.toList) := by
  unfold signsD
  rw [List.map_map]
  rfl
section
variable {K : PySem.W.Frag}
def sd_is_number : SpP (TT K) := fun ds q _ => match ds with
  | [d] => askD d = true ∧ q (.bl (isIntD d))
  | _ => False
def sd_is_whole : SpP (TT K) := fun ds q _ => match ds with
  | [d, .int lo, .int hi] => askD d = true ∧ q (.bl (wholeD d lo hi))
  | _ => False
def sd_is_name : SpP (TT K) := fun ds q _ => match ds with
  | [d] => askD d = true ∧ q (.bl (nameD d))
  | _ => False
def sd_is_part : SpP (TT K) := fun ds q _ => match ds with
  | [d] => askD d = true ∧ q (.bl (isPartD d))
  | _ => False
def sd_is_pair : SpP (TT K) := fun ds q _ => match ds with
  | [d] => askD d = true ∧ (∀ a b, d = .tup [a, b] → askD a = true ∧ askD b = true) ∧ q (.bl (pairD d))
  | _ => False
theorem hs_is_number (ds : List (D PO)) (q : D PO → Prop) (x : Xd (TT K)) (h : sd_is_number (K := K) ds q x) : t_is_number K x (enP q) (startG N_is_number (ds.map .dat)) [] := by
  match ds, h with
  | [d], ⟨ha, hq⟩ =>
    cases d with
    | obj o =>
      cases o with
      | base p => cases p with
        | grp ov ps => cases ov <;> exact hq
        | _ => exact hq
      | _ => cases ha
    | ty n => cases ha
    | cls n => cases ha
    | ptr n => cases ha
    | _ => exact hq
theorem hs_is_whole (ds : List (D PO)) (q : D PO → Prop) (x : Xd (TT K)) (h : sd_is_whole (K := K) ds q x) : t_is_whole K sd_is_number x (enP q) (startG N_is_whole (ds.map .dat)) [] := by
  match ds, h with
  | [d, .int lo, .int hi], ⟨ha, hq⟩ =>
    refine And.intro ha ?_
    cases d with
    | int i =>
      have hq : q (.bl (decide (lo ≤ i) && decide (i ≤ hi))) := hq
      refine Br.t rfl (Br.of (fun h1 => ?_) (fun h1 => ?_))
      · rw [h1, Bool.true_and] at hq; exact hq
      · rw [h1, Bool.false_and] at hq; exact hq
    | _ => exact hq
theorem hs_is_name (ds : List (D PO)) (q : D PO → Prop) (x : Xd (TT K)) (h : sd_is_name (K := K) ds q x) : t_is_name K x (enP q) (startG N_is_name (ds.map .dat)) [] := by
  match ds, h with
  | [d], ⟨ha, hq⟩ =>
    cases d with
    | obj o =>
      cases o with
      | base p => cases p with
        | grp ov ps => cases ov <;> exact hq
        | _ => exact hq
      | _ => cases ha
    | ty n => cases ha
    | cls n => cases ha
    | ptr n => cases ha
    | str s =>
      refine And.intro rfl (And.intro (Dl.flat_strs barredS) ?_)
      have e1 : inD (D.str (O := PO) s) (barredS.map D.str) = decide (s ∈ barredS) := inD_strs s _
      refine Br.of (fun h1 => ?_) (fun h1 => ?_)
      · have h1 : inD (D.str (O := PO) s) (barredS.map D.str) = true := h1
        have e : nameD (.str s) = false := by rw [e1] at h1; simp [nameD, nmS, of_decide_eq_true h1]
        rw [e] at hq; exact hq
      · have h1 : inD (D.str (O := PO) s) (barredS.map D.str) = false := h1
        have nb : nmS s = (decide (1 ≤ s.length) && (decide (s.length ≤ 8) && s.cps.toList.all fun c => decide (c ∈ lettersS.cps.toList))) := by rw [e1] at h1; simp [nmS, of_decide_eq_false h1]
        have hq : q (.bl (nmS s)) := hq
        rw [nb] at hq
        refine Br.of (fun h2 => ?_) (fun h2 => ?_)
        · have h2 : 1 ≤ s.length := by have := of_decide_eq_true h2; omega
          refine Br.of (fun h3 => ?_) (fun h3 => ?_)
          · have h3 : s.length ≤ 8 := by have := of_decide_eq_true h3; omega
            rw [decide_eq_true h2, decide_eq_true h3, Bool.true_and, Bool.true_and] at hq
            refine And.intro (by show (signsD s : List (D PO)).length ≤ sizeLine; unfold signsD; rw [List.length_map, sizeLine_eq]; have : s.cps.toList.length = s.length := by rw [Array.length_toList]; rfl
                                 omega) (lcD_map (T := TT K) (fun d => .bl (letB d)) (fun d hd R N r => ?_) ?_)
            · obtain ⟨c, hc, rfl⟩ := List.mem_map.mp hd
              exact ⟨c, rfl, r⟩
            · refine onBls_mk (bs := (signsD s).map letB) (by rw [List.nil_append, List.map_map]; rfl) ?_
              rw [signs_let]
              have e : ((s.cps.toList.map fun c => decide (c ∈ lettersS.cps.toList)).all id) = s.cps.toList.all fun c => decide (c ∈ lettersS.cps.toList) := by rw [List.all_map]; rfl
              rw [← e] at hq
              exact hq
          · have h3 : ¬ s.length ≤ 8 := by have := of_decide_eq_false h3; omega
            rw [decide_eq_true h2, decide_eq_false h3, Bool.false_and, Bool.true_and] at hq
            exact hq
        · have h2 : ¬ 1 ≤ s.length := by have := of_decide_eq_false h2; omega
          rw [decide_eq_false h2, Bool.false_and] at hq
          exact hq
    | _ => exact hq
theorem hs_is_part (ds : List (D PO)) (q : D PO → Prop) (x : Xd (TT K)) (h : sd_is_part (K := K) ds q x) : t_is_part K x (enP q) (startG N_is_part (ds.map .dat)) [] := by
  match ds, h with
  | [d], ⟨ha, hq⟩ =>
    cases d with
    | obj o =>
      cases o with
      | base p => cases p with
        | grp ov ps => cases ov <;> exact hq
        | _ => exact hq
      | _ => cases ha
    | ty n => cases ha
    | cls n => cases ha
    | ptr n => cases ha
    | _ => exact hq
theorem hs_is_pair (ds : List (D PO)) (q : D PO → Prop) (x : Xd (TT K)) (h : sd_is_pair (K := K) ds q x) : t_is_pair K sd_is_name sd_is_part x (enP q) (startG N_is_pair (ds.map .dat)) [] := by
  match ds, h with
  | [d], ⟨ha, hi, hq⟩ =>
    cases d with
    | obj o =>
      cases o with
      | base p => cases p with
        | grp ov ps => cases ov <;> exact hq
        | _ => exact hq
      | _ => cases ha
    | ty n => cases ha
    | cls n => cases ha
    | ptr n => cases ha
    | tup xs =>
      match xs, hi, hq with
      | [], _, hq => exact hq
      | [a], _, hq => exact hq
      | [a, b], hi, hq =>
        obtain ⟨h1, h2⟩ := hi a b rfl
        have hq : q (.bl (nameD a && isPartD b)) := hq
        refine And.intro h1 (Br.of (fun h3 => And.intro h2 ?_) (fun h3 => ?_))
        · rw [h3, Bool.true_and] at hq; exact hq
        · rw [h3, Bool.false_and] at hq; exact hq
      | a :: b :: c :: r, _, hq =>
        exact hq
    | _ => exact hq
/-! ### checked pairs -/
def nameOfD : D PO → Str
  | .tup (.str s :: _) => s
  | _ => Str.empty
def firstBadD : Nat → List Str → List (D PO) → Option Nat
  | _, _, [] => none
  | i, seen, d :: r => if pairD d = true then (if nameOfD d ∈ seen then some i else firstBadD (i + 1) (seen ++ [nameOfD d]) r) else some i
def itemsOf : D PO → Option (List (D PO))
  | .lst xs => some xs
  | .tup xs => some xs
  | _ => none
def askI (d : D PO) : Prop := askD d = true ∧ ∀ a b, d = .tup [a, b] → askD a = true ∧ askD b = true
def sd_checked_pairs : SpP (TT K) := fun ds q x => match ds with
  | [d, .int most] => askD d = true ∧ most ≤ 64 ∧ match itemsOf d with
    | some xs => if 1 ≤ xs.length ∧ (xs.length : Int) ≤ most then (∀ y ∈ xs, askI y) ∧ (match firstBadD 0 [] xs with
        | some i => x "BadParts" [.int i]
        | none => q (.tup xs)) else x "BadParts" [.non]
    | none => x "BadParts" [.non]
  | _ => False
theorem pairD_of {d : D PO} (h : pairD d = true) : ∃ (s : Str) (p : Pt), d = .tup [.str s, pD p] ∧ nmS s = true ∧ nameOfD d = s := by
  cases d with
  | tup xs =>
    match xs, h with
    | [a, b], h =>
      have h : (nameD a && isPartD b) = true := h
      rw [Bool.and_eq_true] at h
      obtain ⟨h1, h2⟩ := h
      cases a with
      | str s =>
        cases b with
        | obj o =>
          cases o with
          | base p => exact ⟨s, p, rfl, h1, rfl⟩
          | _ => cases h2
        | _ => cases h2
      | _ => cases h1
  | _ => cases h
abbrev seenD (seen : List Str) : List (Key × D PO) := seen.map fun s => (.inr s, .bl true)
theorem seen_val (seen : List Str) (s : Str) : (valD (seenD seen) (.inr s)).isSome = decide (s ∈ seen) := by
  induction seen with
  | nil => rfl
  | cons a l ih =>
    by_cases h : a = s
    · subst h; simp [valD, seenD]
    · have h' : ¬ s = a := fun z => h z.symm
      have : valD (seenD (a :: l)) (.inr s) = valD (seenD l) (.inr s) := by simp [valD, seenD, h]
      rw [this, ih]
      simp [h']
theorem seen_put {seen : List Str} {s : Str} (h : s ∉ seen) : putD (seenD seen) (.inr s) (.bl true) = seenD (seen ++ [s]) := by
  unfold putD
  have : ((seenD seen).any fun kv => decide (kv.1 = Sum.inr s)) = false := by
    rw [List.any_eq_false]
    intro kv hk
    obtain ⟨a, ha, rfl⟩ := List.mem_map.mp hk
    simp only [decide_eq_true_eq, Sum.inr.injEq]
    exact fun z => h (z ▸ ha)
  rw [this]
  simp [seenD]
end
end H1
set_option Elab.async false
set_option linter.all false
set_option maxRecDepth 100000
set_option maxHeartbeats 1000000
/-! Checked pairs, paths, parts put. -/
namespace H1
open PySem PySem.Spec PyProof.Rows L2 Ev Dl
section
variable {K : PySem.W.Frag}
theorem cp_loop {x : Xd (TT K)} {e : En (TT K)} {d m : D PO} : ∀ (xs : List (D PO)) (i : Nat) (seen : List Str) (s3 s4 : Option (Sl PO)), (∀ y ∈ xs, askI y) → seen.length + xs.length ≤ 64 →
    (match firstBadD i seen xs with
      | some i => x "BadParts" [.int i]
      | none => ∀ s3 s4 seen, e.nx [some (.dat d), some (.dat m), some (.own 0), s3, s4] [.dic (seenD seen)]) →
    forD (dGTup 2 (dGCons (dName 3) (dGCons (dName 4) dGNil))) (lb_checked_pairs_1 K sd_is_pair x) (enumD i xs) e [some (.dat d), some (.dat m), some (.own 0), s3, s4] [.dic (seenD seen)]
  | [], i, seen, s3, s4, _, _, h => h _ _ _
  | y :: ys, i, seen, s3, s4, ha, hl, h => by
    obtain ⟨a1, a2⟩ := ha y List.mem_cons_self
    refine ⟨rfl, ⟨a1, a2, Br.of (fun h1 => ?_) (fun h1 => ?_)⟩⟩
    · have h1 : pairD y = false := by simpa using h1
      have e1 : firstBadD i seen (y :: ys) = some i := by show (if pairD y = true then _ else _) = _; rw [if_neg (by rw [h1]; exact Bool.false_ne_true)]
      rw [e1] at h
      exact ⟨rfl, h⟩
    · have h1 : pairD y = true := by simpa using h1
      obtain ⟨s, p, ey, _, en⟩ := pairD_of h1
      have e1 : firstBadD i seen (y :: ys) = if s ∈ seen then some i else firstBadD (i + 1) (seen ++ [s]) ys := by show (if pairD y = true then _ else _) = _; rw [if_pos h1, en]
      rw [e1] at h
      subst ey
      refine Br.of (fun h2 => ?_) (fun h2 => ?_)
      · have h2 : decide (s ∈ seen) = true := (seen_val seen s).symm.trans h2
        rw [if_pos (of_decide_eq_true h2)] at h
        exact ⟨rfl, h⟩
      · have h2 : decide (s ∈ seen) = false := (seen_val seen s).symm.trans h2
        have h2 := of_decide_eq_false h2
        rw [if_neg h2] at h
        refine ⟨?_, ?_⟩
        · show (seenD seen).length < sizeLine
          unfold seenD
          rw [List.length_map, sizeLine_eq]
          omega
        · show forD _ _ (enumD (i + 1) ys) e [some (.dat d), some (.dat m), some (.own 0), _, _] [.dic (putD (seenD seen) (.inr s) (.bl true))]
          rw [seen_put h2]
          exact cp_loop ys (i + 1) _ _ _ (fun z hz => ha z (List.mem_cons_of_mem _ hz)) (by rw [List.length_append, List.length_singleton]; rw [List.length_cons] at hl; omega) h
theorem hs_checked_pairs (ds : List (D PO)) (q : D PO → Prop) (x : Xd (TT K)) (h : sd_checked_pairs (K := K) ds q x) : t_checked_pairs K sd_is_pair x (enP q) (startG N_checked_pairs (ds.map .dat)) [] := by
  match ds, h with
  | [d, .int most], ⟨ha, hm, h⟩ =>
    cases d with
    | obj o =>
      cases o with
      | base p => cases p with
        | grp ov ps => cases ov <;> exact ⟨rfl, h⟩
        | _ => exact ⟨rfl, h⟩
      | _ => cases ha
    | ty n => cases ha
    | cls n => cases ha
    | ptr n => cases ha
    | lst xs =>
      have h : if 1 ≤ xs.length ∧ (xs.length : Int) ≤ most then (∀ y ∈ xs, askI y) ∧ (match firstBadD 0 [] xs with
        | some i => x "BadParts" [.int i]
        | none => q (.tup xs)) else x "BadParts" [.non] := h
      have no : ¬ (1 ≤ xs.length ∧ (xs.length : Int) ≤ most) → x "BadParts" [.non] := fun n => by rw [if_neg n] at h; exact h
      have yes : (1 ≤ xs.length ∧ (xs.length : Int) ≤ most) → (∀ y ∈ xs, askI y) ∧ (match firstBadD 0 [] xs with
        | some i => x "BadParts" [.int i]
        | none => q (.tup xs)) := fun n => by rw [if_pos n] at h; exact h
      refine Br.of (fun h1 => Br.of (fun h2 => ?_) (fun h2 => ?_)) (fun h1 => ?_)
      · have h2 : ¬ (xs.length : Int) ≤ most := by simpa using h2
        exact ⟨rfl, no fun z => h2 z.2⟩
      · have h1 := of_decide_eq_true h1
        have h2 : (xs.length : Int) ≤ most := by simpa using h2
        obtain ⟨y1, y2⟩ := yes ⟨by omega, h2⟩
        refine .inl (cp_loop xs 0 [] none none y1 (by rw [List.length_nil]; omega) ?_)
        cases e : firstBadD 0 [] xs with
        | some i => rw [e] at y2; exact y2
        | none => rw [e] at y2; exact fun _ _ _ => y2
      · have h1 := of_decide_eq_false h1
        exact ⟨rfl, no fun z => h1 (by omega)⟩
    | tup xs =>
      have h : if 1 ≤ xs.length ∧ (xs.length : Int) ≤ most then (∀ y ∈ xs, askI y) ∧ (match firstBadD 0 [] xs with
        | some i => x "BadParts" [.int i]
        | none => q (.tup xs)) else x "BadParts" [.non] := h
      have no : ¬ (1 ≤ xs.length ∧ (xs.length : Int) ≤ most) → x "BadParts" [.non] := fun n => by rw [if_neg n] at h; exact h
      have yes : (1 ≤ xs.length ∧ (xs.length : Int) ≤ most) → (∀ y ∈ xs, askI y) ∧ (match firstBadD 0 [] xs with
        | some i => x "BadParts" [.int i]
        | none => q (.tup xs)) := fun n => by rw [if_pos n] at h; exact h
      refine Br.of (fun h1 => Br.of (fun h2 => ?_) (fun h2 => ?_)) (fun h1 => ?_)
      · have h2 : ¬ (xs.length : Int) ≤ most := by simpa using h2
        exact ⟨rfl, no fun z => h2 z.2⟩
      · have h1 := of_decide_eq_true h1
        have h2 : (xs.length : Int) ≤ most := by simpa using h2
        obtain ⟨y1, y2⟩ := yes ⟨by omega, h2⟩
        refine .inr (cp_loop xs 0 [] none none y1 (by rw [List.length_nil]; omega) ?_)
        cases e : firstBadD 0 [] xs with
        | some i => rw [e] at y2; exact y2
        | none => rw [e] at y2; exact fun _ _ _ => y2
      · have h1 := of_decide_eq_false h1
        exact ⟨rfl, no fun z => h1 (by omega)⟩
    | _ => exact ⟨rfl, h⟩
/-! ### one step -/
def stepL : List (D PO) → Str → D PO
  | [], _ => .non
  | .tup [.str a, d] :: r, s => if a = s then d else stepL r s
  | _ :: r, s => stepL r s
def pairL : List (D PO) → Prop
  | [] => True
  | d :: r => (∃ (a : Str) (p : Pt), d = .tup [.str a, pD p]) ∧ pairL r
def sd_stepped : SpP (TT K) := fun ds q _ => match ds with
  | [.obj (.base p), .str s] => q (stepL p.inside s)
  | _ => False
theorem pairL_row {p : Pt} : ∀ l : List Nat, pairL (l.map fun k : Nat => .tup [.str (intS (k : Int)), pD p])
  | [] => trivial
  | _ :: l => ⟨⟨_, _, rfl⟩, pairL_row l⟩
theorem pairL_pairs : ∀ ps : Pts, pairL ps.pairs
  | .nil => trivial
  | .cons _ _ r => ⟨⟨_, _, rfl⟩, pairL_pairs r⟩
theorem pairL_in (p : Pt) : pairL p.inside := by
  cases p with
  | row p n => exact pairL_row _
  | grp ov ps => exact pairL_pairs ps
  | _ => exact trivial
theorem st_loop {x : Xd (TT K)} {e : En (TT K)} {d : D PO} {s : Str} : ∀ (xs : List (D PO)) (s2 s3 : Option (Sl PO)), pairL xs →
    (match stepL xs s with
      | .non => ∀ s2 s3, e.nx [some (.dat d), some (.dat (.str s)), s2, s3] []
      | d => e.rt d []) →
    forD (dGTup 2 (dGCons (dName 2) (dGCons (dName 3) dGNil))) (lb_stepped_1 K x) xs e [some (.dat d), some (.dat (.str s)), s2, s3] []
  | [], s2, s3, _, h => h _ _
  | y :: ys, s2, s3, ⟨⟨a, p, ey⟩, hp⟩, h => by
    subst ey
    refine ⟨rfl, Br.of (fun h1 => ?_) (fun h1 => ?_)⟩
    · have h1 : a = s := by simpa using h1
      have e1 : stepL (.tup [.str a, pD p] :: ys) s = pD p := if_pos h1
      rw [e1] at h
      exact h
    · have h1 : ¬ a = s := by simpa using h1
      have e1 : stepL (.tup [.str a, pD p] :: ys) s = stepL ys s := if_neg h1
      rw [e1] at h
      exact st_loop ys _ _ hp h
theorem hs_stepped (ds : List (D PO)) (q : D PO → Prop) (x : Xd (TT K)) (h : sd_stepped (K := K) ds q x) : t_stepped K x (enP q) (startG N_stepped (ds.map .dat)) [] := by
  match ds, h with
  | [.obj (.base p), .str s], h =>
    have h : q (stepL p.inside s) := h
    refine st_loop p.inside none none (pairL_in p) ?_
    cases e : stepL p.inside s with
    | non => rw [e] at h; exact fun _ _ => h
    | _ => rw [e] at h; exact h
/-! ### many steps -/
def isRow : Pt → Bool
  | .row _ _ => true
  | _ => false
/-- where one step leads -/
def stepP (p : Pt) (s : Str) : Option Pt := match stepL p.inside s with
  | .obj (.base q) => some q
  | _ => none
def ledL (rows : Bool) : Pt → Nat → List Str → Option Pt × Option Nat
  | p, _, [] => (some p, none)
  | p, i, s :: r => match (if rows || !isRow p then stepP p s else none) with
    | some p' => ledL rows p' (i + 1) r
    | none => (none, some i)
def ledD : Option Pt × Option Nat → D PO
  | (some p, _) => .tup [pD p, .non]
  | (none, some i) => .tup [.non, .int i]
  | (none, none) => .tup [.non, .non]
/-- where a value leads -/
def wayL (rows : Bool) (p : Pt) : D PO → Option Pt × Option Nat
  | .str z => ledL rows p 0 (Txt.split z ".")
  | _ => (none, some 0)
def wayOk : D PO → Prop
  | .str z => z.length + 2 ≤ sizeLine
  | d => askD d = true
def sd_led : SpP (TT K) := fun ds q _ => match ds with
  | [.obj (.base p), d, .bl rows] => wayOk d ∧ q (ledD (wayL rows p d))
  | _ => False
theorem stepL_D {xs : List (D PO)} (h : pairL xs) (s : Str) : stepL xs s = .non ∨ ∃ p, stepL xs s = pD p := by
  induction xs with
  | nil => exact .inl rfl
  | cons y ys ih =>
    obtain ⟨⟨a, p, ey⟩, hp⟩ := h
    subst ey
    by_cases e : a = s
    · exact .inr ⟨p, if_pos e⟩
    · have e1 : stepL (.tup [.str a, pD p] :: ys) s = stepL ys s := if_neg e
      rw [e1]
      exact ih hp
theorem stepP_D (p : Pt) (s : Str) : (stepP p s = none ∧ stepL p.inside s = .non) ∨ ∃ p', stepP p s = some p' ∧ stepL p.inside s = pD p' := by
  unfold stepP
  rcases stepL_D (pairL_in p) s with e | ⟨p', e⟩
  · rw [e]; exact .inl ⟨rfl, rfl⟩
  · rw [e]; exact .inr ⟨p', rfl, rfl⟩
def ledC (x : Xd (TT K)) (e : En (TT K)) (d : D PO) (rows : Bool) (i : Nat) (y : Str) (ys : List Str) (d' : D PO) : Prop :=
  dIf (dTest (dOp rIsN (dVar (TT K) 0) (dC (TT K) .non))) (dRet (dTup (dCons (dC (TT K) .non) (dCons (dVar (TT K) 3) dNil)))) dNx { e with nx := fun g cs => forD (dGTup 2 (dGCons (dName 3) (dGCons (dName 4) dGNil))) (lb_led_1 K sd_stepped x) (enumD (i + 1) (ys.map .str)) e g cs, ct := fun g cs => forD (dGTup 2 (dGCons (dName 3) (dGCons (dName 4) dGNil))) (lb_led_1 K sd_stepped x) (enumD (i + 1) (ys.map .str)) e g cs, bk := e.nx } [some (.dat d'), some (.dat d), some (.dat (.bl rows)), some (.dat (.int i)), some (.dat (.str y))] []
theorem led_loop {x : Xd (TT K)} {e : En (TT K)} {d : D PO} {rows : Bool} : ∀ (xs : List Str) (i : Nat) (p : Pt) (s3 s4 : Option (Sl PO)),
    (match ledL rows p i xs with
      | (some p', _) => ∀ s3 s4, e.nx [some (.dat (pD p')), some (.dat d), some (.dat (.bl rows)), s3, s4] []
      | (none, some i) => e.rt (.tup [.non, .int i]) []
      | (none, none) => True) →
    forD (dGTup 2 (dGCons (dName 3) (dGCons (dName 4) dGNil))) (lb_led_1 K sd_stepped x) (enumD i (xs.map .str)) e [some (.dat (pD p)), some (.dat d), some (.dat (.bl rows)), s3, s4] []
  | [], i, p, s3, s4, h => h _ _
  | y :: ys, i, p, s3, s4, h => by
    have go : (∀ p', stepP p y = some p' → ledL rows p' (i + 1) ys = ledL rows p i (y :: ys)) → (stepP p y = none → ledL rows p i (y :: ys) = (none, some i)) → ledC x e d rows i y ys (stepL p.inside y) := fun h1 h2 => by
      rcases stepP_D p y with ⟨e1, e2⟩ | ⟨p', e1, e2⟩
      · rw [h2 e1] at h
        rw [e2]
        exact ⟨by show 2 ≤ sizeLine; decide, h⟩
      · rw [← h1 p' e1] at h
        rw [e2]
        exact led_loop ys (i + 1) p' _ _ h
    have ev : ∀ o, (if rows || !isRow p then stepP p y else none) = o → ledL rows p i (y :: ys) = match o with
        | some p' => ledL rows p' (i + 1) ys
        | none => (none, some i) := fun o e => by subst e; rfl
    cases rows with
    | true =>
      refine ⟨rfl, go (fun p' e1 => ?_) fun e1 => ?_⟩
      · exact (ev (some p') e1).symm
      · exact ev none e1
    | false =>
      cases p with
      | row p n =>
        have ev := ev none rfl
        rw [ev] at h
        exact ⟨rfl, ⟨by show 2 ≤ sizeLine; decide, h⟩⟩
      | grp ov ps =>
        cases ov <;>
        exact ⟨rfl, go (fun p' e1 => (ev (some p') e1).symm) fun e1 => ev none e1⟩
      | _ => exact ⟨rfl, go (fun p' e1 => (ev (some p') e1).symm) fun e1 => ev none e1⟩
theorem hs_led (ds : List (D PO)) (q : D PO → Prop) (x : Xd (TT K)) (h : sd_led (K := K) ds q x) : t_led K sd_stepped x (enP q) (startG N_led (ds.map .dat)) [] := by
  match ds, h with
  | [.obj (.base p), d, .bl rows], ⟨hw, h⟩ =>
    cases d with
    | obj o =>
      cases o with
      | base p => cases p with
        | grp ov ps => cases ov <;> exact ⟨by show 2 ≤ sizeLine; decide, h⟩
        | _ => exact ⟨by show 2 ≤ sizeLine; decide, h⟩
      | _ => cases hw
    | ty n => cases hw
    | cls n => cases hw
    | ptr n => cases hw
    | str z =>
      refine ⟨rfl, hw, fun y hy => Nat.le_trans (part_short hy) (Nat.le_trans (Nat.le_add_right _ 2) hw), ?_⟩
      have h : q (ledD (ledL rows p 0 (Txt.split z "."))) := h
      refine led_loop (Txt.split z ".") 0 p none none ?_
      cases e : ledL rows p 0 (Txt.split z ".") with
      | mk a b =>
        rw [e] at h
        cases a with
        | some p' => exact fun _ _ => ⟨by show 2 ≤ sizeLine; decide, h⟩
        | none => cases b with
          | some i => exact h
          | none => exact trivial
    | _ => exact ⟨by show 2 ≤ sizeLine; decide, h⟩
end
end H1
set_option Elab.async false
set_option linter.all false
set_option maxRecDepth 100000
set_option maxHeartbeats 1000000
/-! Dict displays; promises with default values; defs by name. -/
namespace Dl
open PySem PySem.Spec PyProof.Rows L2 Ev
section
variable {X : Cx} {T : Th X.K} {B : Ba} {pos : Pos}
/-! ### dict displays -/
def dPairs {K : PySem.W.Frag} {T : Th K} : List (TDE T × TDE T) → G T → Cs T → (List (Key × D T.O) → Cs T → Prop) → Prop
  | [], _, cs, Q => Q [] cs
  | (tk, tv) :: r, g, cs, Q => tk g cs fun s cs1 => tv g cs1 fun u cs2 => onDat s fun dk => onDat u fun d => match keyD dk with
    | some k => dPairs r g cs2 fun kvs cs3 => Q ((k, d) :: kvs) cs3
    | none => False
/-- the new dict is one's own -/
def dDisp {K : PySem.W.Frag} {T : Th K} (trs : List (TDE T × TDE T)) : TDE T := fun g cs Q => dPairs trs g (cs ++ [.dic []]) fun kvs cs1 => cs1[cs.length]? = some (.dic []) ∧ kvs.length ≤ 15 ∧ Q (.own cs.length) (cs1.set cs.length (.dic (mergeD [] kvs)))
inductive PDP (B : Ba) (X : Cx) {T : Th X.K} (pos : Pos) : List (Option Expr) → List Expr → List (TDE T × TDE T) → Prop where
  | nil : PDP B X pos [] [] []
  | cons {k v : Expr} {ks : List (Option Expr)} {vs : List Expr} {tk tv : TDE T} {trs : List (TDE T × TDE T)} : PD B X k tk → PD B X v tv → PDP B X pos ks vs trs → PDP B X pos (some k :: ks) (v :: vs) ((tk, tv) :: trs)
abbrev lP (B : Ba) (trs : List (TDE T × TDE T)) : List (TE × TE) := trs.map fun t => (lE B t.1, lE B t.2)
theorem PDP.pps {keys : List (Option Expr)} {values : List Expr} {trs : List (TDE T × TDE T)} (h : PDP B X pos keys values trs) : PPs X pos keys values (lP B trs) := by
  induction h with
  | nil => exact pps_nil
  | cons h1 h2 _ ih => exact pps_cons h1 h2 ih
theorem pairs_read : ∀ {trs : List (TDE T × TDE T)} {g : G T} {as : As} {cs : Cs T} {σ : L2.St} {H : Hp} {q : List (Key × D T.O) → Cs T → Prop} {Q : List (V × V) → Hp → Prop}, Stt T B g as cs σ H → dPairs trs g cs q →
    (∀ kds cs', q kds cs' → ∀ kvs as' H', Ex T B as H as' cs' H' → RepK T (hz B as' H') kvs kds → Q (kvs.map fun kv => (kV kv.1, kv.2)) H') → tPairs (lP B trs) σ H Q
  | [], g, as, cs, σ, H, q, Q, st, h, k => k [] cs h [] as H (Ex.refl st.c) .nil
  | (tk, tv) :: r, g, as, cs, σ, H, q, Q, st, h, k => ⟨g, as, cs, _, st, h, fun s cs1 h1 v as1 H1 x1 r1 => ⟨g, as1, cs1, _, st.step x1, h1, fun u cs2 h2 w as2 H2 x2 r2 => by
      obtain ⟨dk, e1, h3⟩ := onDat_of h2
      obtain ⟨d, e2, h4⟩ := onDat_of h3
      subst e1 e2
      cases ek : keyD dk with
      | none => rw [ek] at h4; exact h4.elim
      | some key =>
        rw [ek] at h4
        have ey : v = kV key := keyD_ok (TRep.rep (H := H1) (T := T) r1) ek
        refine pairs_read ((st.step x1).step x2) h4 fun kds cs3 h5 kvs as3 H3 x3 r3 => ?_
        have := k _ _ h5 ((key, w) :: kvs) as3 H3 (x1.trans (x2.trans x3)) (.cons (Rep.mono x3.same r2) r3)
        rw [ey]
        exact this⟩⟩
theorem pd_disp {keys : List (Option Expr)} {values : List Expr} {trs : List (TDE T × TDE T)} (h : PDP B X pos keys values trs) (hall : keys.all (·.isSome) = true := by rfl) (hl : keys.length = values.length := by rfl) (h0 : keys ≠ [] := by exact fun z => nomatch z)
    (h15 : keys.length ≤ 15 := by decide) : PD B X (.Dict keys values pos) (dDisp trs) :=
  PE.imp (pe_disp h.pps hall hl h0 h15) fun σ H Q ⟨g, as, cs, q, st, h, k⟩ => fun p hp => by
    have x0 : Ex T B as H (as ++ [some p]) (cs ++ [.dic []]) (upd H p (.dK [])) := Ex.own st.c hp ⟨[], upd_same, .nil⟩
    refine pairs_read (st.step x0) h fun kds cs1 h1 kvs as1 H1 x1 r1 => ?_
    obtain ⟨e1, h2, h3⟩ := h1
    have sl : SlotAt T as1 (hz B as1 H1) (.ref p) (.own cs.length) := by
      rw [← st.c.len]
      exact (own_slot (h := hz B (as ++ [some p]) (upd H p (.dK [])))).mono x1.same x1.lk
    obtain ⟨p', vs, a1, a2, a3, a4⟩ := own_dic x1.c sl e1
    cases a2
    have ev : vs = [] := by cases a4; rfl
    subst ev
    refine ⟨a3, kvs, rfl, by rw [r1.len]; exact h2, ?_⟩
    have x2 := Ex.put (u := .dK (mergeK [] kvs)) (c := .dic (mergeD [] kds)) x1.c a1 ⟨_, upd_same, RepK.merge r1 .nil⟩
    refine k _ _ h3 _ _ _ (x0.trans (x1.trans x2)) ?_
    exact sl.mono x2.same x2.lk
/-! ### default values -/
theorem spO_dfl {K : PySem.W.Frag} {T : Th K} {ef : Str → List Str} {sd : SpO T} {dvs : List V} {dfl : List (D T.O)} (hd : ∀ h, RepL T h dvs dfl) {vs : List V} {H : Hp} {Q : VK} {E : XK} (h : spO T ef (fun c ds => sd c (ds ++ dfl)) vs H Q E) : spO T ef sd (vs ++ dvs) H Q E := by
  obtain ⟨Z, p, c, us, ds, q, x, lv, np, rfl, ce, rl, h, hq, hx⟩ := h
  exact ⟨Z, p, c, us ++ dvs, ds ++ dfl, q, x, lv, np, rfl, ce, rl.app (hd _), h, hq, hx⟩
theorem spP_dfl {K : PySem.W.Frag} {T : Th K} {ef : Str → List Str} {sd : SpP T} {dvs : List V} {dfl : List (D T.O)} (hd : ∀ h, RepL T h dvs dfl) {vs : List V} {H : Hp} {Q : VK} {E : XK} (h : spP T ef (fun ds => sd (ds ++ dfl)) vs H Q E) : spP T ef sd (vs ++ dvs) H Q E := by
  obtain ⟨Z, ds, q, x, lv, rl, h, hq, hx⟩ := h
  exact ⟨Z, ds ++ dfl, q, x, lv, rl.app (hd _), h, hq, hx⟩
end
end Dl
set_option Elab.async false
set_option linter.all false
set_option maxRecDepth 100000
set_option maxHeartbeats 1000000
/-! Calls by keywords; a def that hands out a new list of its own. -/
namespace Dl
open PySem PySem.Spec PyProof.Rows L2 Ev
section
variable {X : Cx} {T : Th X.K} {B : Ba} {ef : Str → List Str} {xd : Xd T} {e o : Expr} {es : List Expr} {pos p apos : Pos} {k : Nat} {x m : Str} {ps ks : List Str} {kws : List Keyword}
/-! ### keywords -/
abbrev PDK (B : Ba) (X : Cx) {T : Th X.K} (kws : List Keyword) (t : TDA T) : Prop := PK X kws (lA B t)
theorem PK.imp {t t' : TA} (h : PK X kws t) (i : ∀ σ H Q, t' σ H Q → t σ H Q) : PK X kws t' := ⟨fun pos pins s σ H Q I q => h.run pos pins s σ H Q I (i σ H Q q)⟩
theorem pdk_nil : PDK B X (T := T) [] dNil := PK.imp pk_nil fun σ H Q ⟨g, as, cs, q, st, h, k⟩ => k _ _ h [] as H (Ex.refl st.c) .nil
theorem pdk_cons {nm : Option Str} {kpos : Pos} {ta : TDE T} {tr : TDA T} (ha : PD B X e ta) (hr : PDK B X kws tr) : PDK B X (⟨nm, e, kpos⟩ :: kws) (dCons ta tr) :=
  PK.imp (pk_cons ha hr) fun σ H Q ⟨g, as, cs, q, st, h, k⟩ => ⟨g, as, cs, _, st, h, fun s cs1 h1 v as1 H1 x1 r1 => ⟨g, as1, cs1, _, st.step x1, h1, fun ss cs2 h2 vs as2 H2 x2 r2 =>
    k _ _ h2 (v :: vs) as2 H2 (x1.trans x2) (.cons (r1.mono x2.same x2.lk) r2)⟩⟩
theorem RepL.rev {K : PySem.W.Frag} {T : Th K} {h : Hp} : ∀ {vs : List V} {ds : List (D T.O)}, RepL T h vs ds → RepL T h vs.reverse ds.reverse
  | _, _, .nil => .nil
  | _, _, .cons a b => by rw [List.reverse_cons, List.reverse_cons]; exact b.rev.app (.cons a .nil)
/-- o.m(k = v, ..) -/
def tMethK (C : Addr) (m : Str) (n : Nat) (sp : Sp) (gV : List V → List V → List V) (E : XK) (ta tk : TE) (tz : TA) : TE := fun σ H Q => ta σ H fun x H1 => ∃ a dx fs, x = .ref a ∧ H1 a = some (.ins C dx fs) ∧ fs.lookup m = none ∧ tz σ H1 fun zs H2 => zs.length = n ∧ sp (gV [x] zs) H2 Q E
theorem pe_methK0 {CX : CXT} {C f : Addr} {fd : FuncData} {sp : Sp} {E : XK} {pl : Sem Bool} {ta : TE} {tk : TA} {g : List Value → List Value → List Value} {gV : List V → List V → List V} (he : PE X o ta) (c : Cls X.K C) (hm : Meth X.K C m f) (F : FnOk X.prog X.w X.K X.mg X.base CX k f fd ps sp) (hr : Room k X.A)
    (hb : KBn X.K fd ps 1 ks g gV) (hx : Passes CX X E) (hkw : PK X kws tk) (hall : (backToKw pos (keywordEach kws X.env)).all (·.1.isSome) = true := by rfl) (hks : (backToKw pos (keywordEach kws X.env)).filterMap (·.1) = ks := by rfl)
    (hpl : ((backTo pos (starEach [] X.env)).any (·.1) || (backToKw pos (keywordEach kws X.env)).any (·.1.isNone)) = false := by rfl)
    (ht : eval (.Call (.Attribute o m apos) [] kws pos) X.env = (eval o X.env >>= fun ov => standAt apos.atName >>= fun _ => holding [ov] (getMethod ov m pl) >>= fun q => callWith pos q.1 q.2 (backTo pos (starEach [] X.env)) (backToKw pos (keywordEach kws X.env))) := by rfl) :
    PE X (.Call (.Attribute o m apos) [] kws pos) (tMethK C m ks.length sp gV E ta ta tk) := by
  refine ⟨fun pins s σ H Q I h => ?_⟩
  refine PySem.W.methodCall_KW (pl := pl) (thn (he.run pins s σ H _ I h) fun u s1 ⟨x, H1, I1, rx, a, dx, fs, ex, ea, l, q⟩ => ?_) ht
  subst ex
  obtain rfl : u = Value.ref a := rx
  refine getmeth_ok I1 ea c hm l ?_
  refine PySem.W.callWith_KW0 (first := [.ref a]) (h₀ := X.base) I.ok.mod.kin hm.kp hall ?_ hpl
  refine thn (hkw.run pos pins s1 σ H1 _ I1 q) fun ws s2 ⟨zs, H2, I2, rz, l2, q2⟩ => ⟨I2.kIn, ?_⟩
  rw [hks]
  refine wpAny_call (codeAny_mono (F.run X.A X.stack s2 H2 ⟨[.ref a], ks.zip ws⟩ (g [.ref a] ws) (gV [.ref a] zs) Q E hr I2.env0 (hb.to s2 [.ref a] ws I2.kIn rfl (rz.length.symm.trans l2)) (hb.rel (.cons rfl .nil) rz) q2) fun r s' hq => ?_)
  cases r with
  | error e => exact hx pins σ _ _ e s' I2 hq
  | ok fl =>
    cases fl with
    | ret u => exact I2.after hq
    | next => exact False.elim hq
    | brk => exact False.elim hq
    | cont => exact False.elim hq
structure MethDK (P : Program) (w : World) (K : PySem.W.Frag) (mg : Str → Option Value) (base : Heap) (CX : CXT) (k : Nat) (Cs : List Str) (m : Str) (ps ks : List Str) (gV : List V → List V → List V) (sp : Sp) : Prop where
  ex : ∃ (f : Addr) (fd : FuncData) (g : List Value → List Value → List Value), FnOk P w K mg base CX k f fd ps sp ∧ KBn K fd ps 1 ks g gV ∧ ∀ c ∈ Cs, Cls K (He.ga K c) ∧ Meth K (He.ga K c) m f
def dMethK {K : PySem.W.Frag} {T : Th K} (Cs : List Str) (cn : T.O → Str) (n : Nat) (ord : List (D T.O) → List (D T.O)) (sd : SpP T) (xd : Xd T) (to : TDE T) (t : TDA T) : TDE T := fun g cs Q => ∃ c ∈ Cs, to g cs fun s cs1 => match s with
  | .dat (.obj o) => cn o = c ∧ t g cs1 fun ss cs2 => onDats ss fun ds => ds.length = n ∧ sd (.obj o :: ord ds) (fun d => Q (.dat d) cs2) xd
  | _ => False
theorem pd_methK0 {Cs : List Str} {cn : T.O → Str} {ms : List Str} {sd : SpP T} {to : TDE T} {t : TDA T} {pl : Sem Bool} {oV : List V → List V} {ord : List (D T.O) → List (D T.O)} (C : CnT T cn Cs ms) (hm : m ∈ ms) (ho' : ∀ {h zs ds}, RepL T h zs ds → RepL T h (oV zs) (ord ds))
    (M : MethDK X.prog X.w X.K X.mg X.base (L2.CX X.prog X.w) k Cs m ps ks (fun vs zs => vs ++ oV zs) (spP T ef sd)) (hr : Room k X.A) (hx : XP X ef B xd) (ho : PD B X o to) (hk : PDK B X kws t)
    (hall : (backToKw pos (keywordEach kws X.env)).all (·.1.isSome) = true := by rfl) (hks : (backToKw pos (keywordEach kws X.env)).filterMap (·.1) = ks := by rfl)
    (hpl : ((backTo pos (starEach [] X.env)).any (·.1) || (backToKw pos (keywordEach kws X.env)).any (·.1.isNone)) = false := by rfl)
    (ht : eval (.Call (.Attribute o m apos) [] kws pos) X.env = (eval o X.env >>= fun ov => standAt apos.atName >>= fun _ => holding [ov] (getMethod ov m pl) >>= fun q => callWith pos q.1 q.2 (backTo pos (starEach [] X.env)) (backToKw pos (keywordEach kws X.env))) := by rfl) :
    PD B X (.Call (.Attribute o m apos) [] kws pos) (dMethK Cs cn ks.length ord sd xd to t) := by
  obtain ⟨f, fd, gv, F, b, hC⟩ := M.ex
  refine PE.imp (PE.ex (t := fun c : { c : Str // c ∈ Cs } => tMethK (He.ga X.K c.1) m ks.length (spP T ef sd) (fun vs zs => vs ++ oV zs) (liftX T ef B xd) (lE B to) (lE B to) (lA B t)) fun c => pe_methK0 ho (hC c.1 c.2).1 (hC c.1 c.2).2 F hr b hx.ps hk hall hks hpl ht) fun σ H Q h => ?_
  obtain ⟨g, as, cs, q, st, ⟨c, hc, h⟩, k⟩ := h
  refine ⟨⟨c, hc⟩, g, as, cs, _, st, h, fun s cs1 h1 v as1 H1 x1 r1 => ?_⟩
  cases s with
  | own i => exact h1.elim
  | dat d =>
    cases d with
    | obj o =>
      obtain ⟨e1, h1⟩ := h1
      cases r1 with
      | @obj a _ r =>
        obtain ⟨dx, fs, e2, e3⟩ := C.ins _ _ _ r (e1 ▸ hc)
        rw [e1] at e2
        refine ⟨a, dx, fs, rfl, (hid_some e2).2, e3 m hm, g, as1, cs1, _, st.step x1, h1, fun ss cs2 h2 vs as2 H2 x2 r2 => ?_⟩
        obtain ⟨ds, e4, h2⟩ := onDats_of h2
        have rl := datL_rep r2 e4
        refine ⟨rl.len.trans h2.1, B.Z ++ ow as2, .obj o :: ord ds, _, xd, x2.c.live, .cons (.obj (T.mono x2.same r)) (ho' rl), h2.2, fun d hd v H' S r => k _ _ hd v as2 H' (x1.trans (x2.trans (Ex.grow x2.c S))) r, fun y es hy cls dx H' S ex => ?_⟩
        exact ⟨y, es, hy, kept_of ((st.step x1).step x2) fun a o _ e => S a o e, ex.sub fun a z => List.mem_append_left _ z⟩
    | _ => exact h1.elim
/-! ### C(k = v, ..) -/
def dNewK {K : PySem.W.Frag} {T : Th K} (sd : SpN T) (xd : Xd T) (n : Nat) (ord : List (D T.O) → List (D T.O)) (t : TDA T) : TDE T := fun g cs Q => t g cs fun ss cs1 => onDats ss fun ds => ds.length = n ∧ sd (ord ds) (fun o => Q (.dat (.obj o)) cs1) xd
theorem pd_newK {sd : SpN T} {t : TDA T} {oV : List V → List V} {ord : List (D T.O) → List (D T.O)} (ho' : ∀ {h zs ds}, RepL T h zs ds → RepL T h (oV zs) (ord ds)) (Dk : DefK X.prog X.w X.K X.mg X.base (L2.CX X.prog X.w) k x ps ks (spN T ef x sd) (fun vs zs => vs ++ oV zs)) (hr : Room (k + 1) X.A) (hx : XP X ef B xd) (hk : PDK B X kws t) (hg : Gl X x := by rfl)
    (hall : (backToKw pos (keywordEach kws X.env)).all (·.1.isSome) = true := by rfl) (hks : (backToKw pos (keywordEach kws X.env)).filterMap (·.1) = ks := by rfl) (hdb : (x == ("__debug__" : Str)) = false := by decide)
    (hpl : ((backTo pos (starEach [] X.env)).any (·.1) || (backToKw pos (keywordEach kws X.env)).any (·.1.isNone)) = false := by rfl) : PD B X (.Call (.Name x p) [] kws pos) (dNewK sd xd ks.length ord t) :=
  PE.imp (Ev.pe_newK Dk hr hg hx.ps hk hall hks hdb hpl) fun σ H Q ⟨g, as, cs, q, st, h, k⟩ => by
    refine ⟨g, as, cs, _, st, h, fun ss cs1 h1 vs as1 H1 x1 r1 => ?_⟩
    obtain ⟨ds, e1, hl, h1⟩ := onDats_of h1
    have rl := datL_rep r1 e1
    refine ⟨rfl, rl.len.trans hl, fun a dx ha hdx ne => ?_⟩
    have na : a ∉ B.Z ++ ow as1 := fun z => (x1.c.live a z).ne ha
    have S : Same H1 (upd (upd H1 dx (.own a)) a (.ins (He.ga X.K x) dx [])) := fun b o e => by
      rw [upd_ne (ne_of_none e ha), upd_ne (ne_of_none e hdx)]; exact e
    refine ⟨B.Z ++ ow as1, a, dx, oV vs, ord ds, _, xd, rfl, upd_same, by rw [upd_ne ne, upd_same], ne, na, Live.same x1.c.live S, ho' (rl.mono ?_), h1, fun o ho H' S' r => ⟨rfl, ?_⟩, fun y es hy cls dx H' S' ex => ?_⟩
    · exact hid_same S fun b z => (List.mem_cons.mp z).elim (fun z => .inr (by rw [z]; exact ha)) .inl
    · exact k _ _ ho _ as1 H' (x1.trans (Ex.grow x1.c fun b o e => S' b o (ne_of_none e ha) (S _ _ e))) (.obj r)
    · exact ⟨y, es, hy, kept_of (st.step x1) fun b o _ e => S' b o (ne_of_none e ha) (S _ _ e), ex.sub fun a z => List.mem_append_left _ z⟩
/-! ### a new list of its own, handed out -/
end
section
variable {K : PySem.W.Frag} (T : Th K) (ef : Str → List Str)
abbrev SpNw : Type := List (D T.O) → (Cell T.O → Prop) → Xd T → Prop
def spNw (sd : SpNw T) : Sp := fun vs H Q E => ∃ Z ds q x, Live Z H ∧ RepL T (hid Z H) vs ds ∧ sd ds q x ∧ (∀ c, q c → ∀ p H', H p = none → Same H H' → CellAt T (hid (p :: Z) H') H' (some p) c → Q (.ref p) H') ∧
  (∀ y ds, x y ds → ∀ cls dx H', Same H H' → ExcAt T ef Z H' y ds cls dx → E cls dx H')
end
section
variable {P : Program} {w : World} {K : PySem.W.Frag} {mg : Str → Option Value} {base : Heap} {N ps : List Str} {x qual : Str} {params : Arguments} {scope : Scope} {dvs : List V} {kws : List (Str × V)} {f : Addr} {fd : FuncData}
  {T : Th K} {ef : Str → List Str} {k : Nat} {e : Expr} {pos : Pos}
abbrev DerE (P : Program) (w : World) (K : PySem.W.Frag) (mg : Str → Option Value) (base : Heap) (N : List Str) (qual : Str) (scope : Scope) (f : Addr) (k : Nat) {T : Th K} (ef : Str → List Str) (e : Expr) (t : Xd T → TDE T) : Prop :=
  ∀ (cdv : Value) (A : Around) (outer : List Env) (s : Shared) (H : Hp) (E : XK), Room k (A.deeper (envOfC qual scope s.heap.objs.size f cdv)) →
    ∀ (B : Ba) (xd : Xd T), XP (cxR P w K mg base N qual scope f cdv A outer s H E) (T := T) ef B xd → PD B (cxR P w K mg base N qual scope f cdv A outer s H E) (T := T) e (t xd)
def onOwn {K : PySem.W.Frag} {T : Th K} (q : Cell T.O → Prop) : Sl T.O → Cs T → Prop := fun s cs => match s with
  | .own i => match cs[i]? with
    | some c => c ≠ .gone ∧ q c
    | none => False
  | _ => False
theorem onOwn_of {K : PySem.W.Frag} {T : Th K} {q : Cell T.O → Prop} {s : Sl T.O} {cs : Cs T} (h : onOwn q s cs) : ∃ i c, s = .own i ∧ cs[i]? = some c ∧ c ≠ .gone ∧ q c := by
  cases s with
  | dat d => exact h.elim
  | own i =>
    unfold onOwn at h
    dsimp only at h
    cases e : cs[i]? with
    | none => rw [e] at h; exact h.elim
    | some c => rw [e] at h; exact ⟨i, c, rfl, e, h.1, h.2⟩
/-- a def that is one return of an own list -/
theorem okNw {sd : SpNw T} {t : Xd T → TDE T} (F : FunD K x qual params [.Return (some e) pos] scope dvs kws f fd) (S : FnScope N ps scope) (der : DerE P w K mg base N qual scope f k ef e t)
    (ar : ∀ ds q x, sd ds q x → ds.length = ps.length) (hs : ∀ ds q x, sd ds q x → t x (startG N (ds.map .dat)) [] (onOwn q)) : FnOk P w K mg base (L2.CX P w) (k + 1) f fd ps (spNw T ef sd) :=
  F.ok S (fun vs H Q E ⟨Z, ds, q, x, _, rl, h, _⟩ => rl.len.trans (ar ds q x h)) fun cdv A outer s H vs Q E hr ⟨Z, ds, q, x, lv, rl, h, hq, hx⟩ => by
    have XX : XP (cxR P w K mg base N qual scope f cdv A outer s H E) (T := T) ef ⟨Z, [], H⟩ x := XP.of rfl rfl rfl rfl fun cls dx H' ⟨y, es, h1, h2, h3⟩ => hx y es h1 cls dx H' (fun a o e => h2 a o (by simp [ow]) e) h3
    refine ⟨_, pss_one (ps_ret (der cdv A outer s H E hr ⟨Z, [], H⟩ x XX)), startG N (ds.map .dat), [], [], _, ⟨⟨by simp [ow], fun p h => by simp [ow] at h, fun p h => lv p (by simpa [ow] using h), .nil⟩, env_start (slots_dat ?_), ⟨Lk.refl _, fun _ _ _ e => e, fun _ x y => absurd x y⟩⟩, hs ds q x h, ?_⟩
    · rw [show hid ((Ba.mk Z [] H).Z ++ ow []) H = hid Z H from hid_congr fun a => by simp [ow]]
      exact rl
    · intro s' cs' hh v as' H' ex r
      obtain ⟨i, c, rfl, ec, ng, hh⟩ := onOwn_of hh
      obtain ⟨o, e1, e2⟩ := Paired.ix ex.c.cells ec
      cases o with
      | none => cases c <;> first | exact e2.elim | exact absurd rfl ng
      | some p =>
        rw [r.2 p e1]
        have pin := own_in e1
        have S : Same H H' := fun a o e => by
          by_cases hz : a ∈ Z
          · exact (ex.zk a hz).trans e
          · exact (hid_some (ex.same a o (by
              rw [hid_out (fun z => hz (by simpa [ow] using z))]
              exact e))).2
        refine hq c hh p H' (ex.fresh p pin (by simp [ow])) S (e2.mono ?_ fun _ _ => rfl)
        exact hid_same (same_refl _) fun a z => (List.mem_cons.mp z).elim (fun z => .inl (List.mem_append_right _ (z ▸ pin))) fun z => .inl (List.mem_append_left _ z)
end
section
variable {X : Cx} {T : Th X.K} {B : Ba} {ef : Str → List Str} {xd : Xd T} {e : Expr} {es : List Expr} {pos p : Pos} {k : Nat} {x : Str} {ps : List Str}
def dCallNw {K : PySem.W.Frag} {T : Th K} (sd : SpNw T) (xd : Xd T) (t : TDA T) : TDE T := fun g cs Q => t g cs fun ss cs1 => onDats ss fun ds => sd ds (fun c => Q (.own cs1.length) (cs1 ++ [c])) xd
theorem Ex.own2 {as : As} {cs : Cs T} {H H' : Hp} {p : Addr} {c : Cell T.O} (st : StC T B.Z as cs H) (hp : H p = none) (S0 : Same H H') (ce : CellAt T (hid (p :: (B.Z ++ ow as)) H') H' (some p) c) :
    Ex T B as H (as ++ [some p]) (cs ++ [c]) H' := by
  have ho : ow (as ++ [some p]) = ow as ++ [p] := by unfold ow; rw [List.filterMap_append]; rfl
  have np : p ∉ B.Z ++ ow as := fun z => (st.live p z).ne hp
  have S : Same (hid (B.Z ++ ow as) H) (hid (B.Z ++ ow (as ++ [some p])) H') := by
    refine hid_same S0 fun a h => ?_
    rw [ho, ← List.append_assoc] at h
    rcases List.mem_append.mp h with h | h
    · exact .inl h
    · rw [List.mem_singleton] at h; subst h; exact .inr hp
  have np1 : p ∉ ow as := fun z => np (List.mem_append_right _ z)
  have same : ∀ a ∈ B.Z ++ ow as, H' a = H a := fun a h => by
    cases e : H a with
    | none => exact absurd e (st.live a h).ne
    | some o => exact S0 _ _ e
  refine ⟨⟨?_, ?_, ?_, ?_⟩, ⟨by rw [List.length_append]; omega, fun i hi => .inl (by rw [List.getElem?_append_left hi])⟩, S, fun q h1 h2 => ?_, fun q h => same q (List.mem_append_left _ h)⟩
  · rw [ho]
    exact List.nodup_append.mpr ⟨st.nd, by simp, fun a h b h' z => by rw [List.mem_singleton] at h'; subst h'; subst z; exact np1 h⟩
  · intro q h
    rw [ho] at h
    rcases List.mem_append.mp h with h | h
    · exact st.apart q h
    · rw [List.mem_singleton] at h; subst h; exact fun z => np (List.mem_append_left _ z)
  · intro q h
    rw [ho, ← List.append_assoc] at h
    rcases List.mem_append.mp h with h | h
    · rw [same q h]; exact st.live q h
    · rw [List.mem_singleton] at h; subst h; exact ce.nco
  · refine Paired.snoc (cells_mono S (fun a h => same a (List.mem_append_right _ h)) st.cells) (ce.mono (hid_same (same_refl _) fun a h => ?_) fun a e => rfl)
    rw [ho, ← List.append_assoc] at h
    rcases List.mem_append.mp h with h | h
    · exact .inl (List.mem_cons_of_mem _ h)
    · exact .inl (by rw [List.mem_singleton] at h; rw [h]; exact List.mem_cons_self)
  · rw [ho] at h1
    rcases List.mem_append.mp h1 with h1 | h1
    · exact absurd h1 h2
    · rw [List.mem_singleton] at h1; subst h1; exact hp
theorem pd_defNw {sd : SpNw T} {t : TDA T} (D : DefP X.prog X.w X.K X.mg X.base (L2.CX X.prog X.w) k x ps (spNw T ef sd)) (hr : Room k X.A) (hx : XP X ef B xd) (ha : PDA B X (e :: es) t) (hg : Gl X x := by rfl) (hdb : (x == ("__debug__" : Str)) = false := by decide)
    (he : starEach (e :: es) X.env = (false, eval e X.env) :: starEach es X.env := by rfl) (hpl : (backTo pos (starEach es X.env)).any (·.1) = false := by rfl) : PD B X (.Call (.Name x p) (e :: es) [] pos) (dCallNw sd xd t) :=
  PE.imp (pe_def D hr hg hx.ps ha hdb he hpl) fun σ H Q ⟨g, as, cs, q, st, h, k⟩ => ⟨g, as, cs, _, st, h, fun ss cs1 h1 vs as1 H1 x1 r1 => by
    obtain ⟨ds, e1, h1⟩ := onDats_of h1
    rw [List.append_nil]
    refine ⟨B.Z ++ ow as1, ds, _, xd, x1.c.live, datL_rep r1 e1, h1, fun c hc p H' hp S ce => ?_, fun y es hy cls dx H' S ex => ?_⟩
    · exact k _ _ hc _ _ _ (x1.trans (Ex.own2 x1.c hp S ce)) (by rw [← x1.c.len]; exact own_slot)
    · exact ⟨y, es, hy, kept_of (st.step x1) fun a o _ e => S a o e, ex.sub fun a z => List.mem_append_left _ z⟩⟩
end
end Dl
set_option Elab.async false
set_option linter.all false
set_option maxRecDepth 100000
set_option maxHeartbeats 2000000
/-! Readings of the program's defs. -/
namespace H1
open PySem PySem.Spec PyProof.Rows L2 Ev Dl
section
variable {P : Program} {w : World} {K : PySem.W.Frag} {mg : Str → Option Value} {base : Heap} {f : Addr}
abbrev N_Part_init : List Str := ["self", "text", "traits", "inside", "weight", "depth", "ends", "step", "part"]
theorem sc_Part_init : FnScope N_Part_init ["self", "text", "traits", "inside", "weight"] (defScope (sM i_Part j_Part___init__)) := ⟨rfl, rfl, rfl, by decide +kernel, rfl, by decide +kernel, by decide +kernel⟩
def lb_Part_init_1 (K : PySem.W.Frag)  (xd : Xd (TT K)) : TDS (TT K) := (dDrop (dUpd (dVar (TT K) 6) (dFld atT (dVar (TT K) 8) "ends")))
def t_Part_init (K : PySem.W.Frag)  (xd : Xd (TT K)) : TDS (TT K) := (dSeq (dSet 5 (dMaxD (dLc (dItT (dVar (TT K) 3)) (dGTup 2 (dGCons (dName 7) (dGCons (dName 8) dGNil))) dYes (dOp rAdd (dCall (r1 (fInt (T := TT K))) (dCons (dFld atT (dVar (TT K) 8) "depth") dNil)) (dC (TT K) (.int 1))) [7, 8]) (dC (TT K) (.int 0)))) (dSeq (dIf (dTest (dOp rGt (dVar (TT K) 5) (dC (TT K) (.int 4)))) (dRaise xd efT "TooLarge" (dCons (dC (TT K) (.str "depth")) (dCons (dC (TT K) (.int 4)) dNil))) dNx) (dSeq (dSet 6 (dDicO (TT K))) (dSeq (dFor (dItT (dVar (TT K) 3)) (dGTup 2 (dGCons (dName 7) (dGCons (dName 8) dGNil))) (lb_Part_init_1 K  xd)) (dSeq (dFldSet (dVar (TT K) 0) (dVar (TT K) 1) "text") (dSeq (dFldSet (dVar (TT K) 0) (dVar (TT K) 2) "traits") (dSeq (dFldSet (dVar (TT K) 0) (dVar (TT K) 3) "inside") (dSeq (dFldSet (dVar (TT K) 0) (dFrz (dVar (TT K) 6)) "ends") (dSeq (dFldSet (dVar (TT K) 0) (dVar (TT K) 4) "weight") (dFldSet (dVar (TT K) 0) (dVar (TT K) 5) "depth"))))))))))
theorem der_Part_init {k : Nat} (F : Fc P w K mg base)  (h3 : 3 ≤ k) : Der P w K mg base N_Part_init "Part.__init__" (defScope (sM i_Part j_Part___init__)) f k efT (defBody (sM i_Part j_Part___init__)) (t_Part_init K ) := fun cdv A outer s H E hr B xd XX => (pds_cons (pds_set 5 sc_Part_init.nd (pd_maxD rfl (un1 hr) F.t_max (pd_lc (own := [("step", 7), ("part", 8)]) rfl sc_Part_init.nd (pdi_tup (pd_var 3)) (blkOk_by (N := N_Part_init) (sc := (defScope (sM i_Part j_Part___init__))) (by decide +kernel)) (fun _ _ _ _ _ _ => (pdg_tup rfl (pdgs_cons (pdg_name 7 sc_Part_init.nd) (pdgs_cons (pdg_name 8 sc_Part_init.nd) pdgs_nil)))) (fun _ _ _ _ _ _ => pdts_nil) (fun _ _ _ _ _ _ => (pd_op od_add (pd_callTy cd_int F.t_int (pda_cons (pd_fld F.at_ (pd_var 8)) pda_nil)) pd_int))) pd_int)) (pds_cons (pds_if (pdt_cmp od_gt (pd_var 5) (pd_cval (v := .int 4) (by rfl) F.g_Part F.k_Part_DEPTH.crd ⟨F.k_Part_DEPTH.at_.choose_spec, ⟨_, rfl⟩⟩ (fun _ => .int _))) (pds_one (pds_raise F.E_TooLarge rfl (by decide) (hr.mono h3) XX rfl (pda_cons pd_str (pda_cons (pd_cval (v := .int 4) (by rfl) F.g_Part F.k_Part_DEPTH.crd ⟨F.k_Part_DEPTH.at_.choose_spec, ⟨_, rfl⟩⟩ (fun _ => .int _)) pda_nil)))) pds_nil) (pds_cons (pds_set 6 sc_Part_init.nd pd_dicO) (pds_cons (pds_for (passes_of rfl) rfl (pdi_tup (pd_var 3)) (fun _ => (pdg_tup rfl (pdgs_cons (pdg_name 7 sc_Part_init.nd) (pdgs_cons (pdg_name 8 sc_Part_init.nd) pdgs_nil)))) (fun B1 l1 => (pds_one (pds_expr (pd_upd (pd_var 6) (pd_fld F.at_ (pd_var 8))))))) (pds_cons (pds_fld (pd_var 0) (pd_var 1)) (pds_cons (pds_fld (pd_var 0) (pd_var 2)) (pds_cons (pds_fld (pd_var 0) (pd_var 3)) (pds_cons (pds_fld (pd_var 0) (pd_frz (pd_var 6))) (pds_cons (pds_fld (pd_var 0) (pd_var 4)) (pds_one (pds_fld (pd_var 0) (pd_var 5))))))))))))
abbrev N_Part_eq : List Str := ["self", "other"]
theorem sc_Part_eq : FnScope N_Part_eq ["self", "other"] (defScope (sM i_Part j_Part___eq__)) := ⟨rfl, rfl, rfl, by decide +kernel, rfl, by decide +kernel, by decide +kernel⟩
def t_Part_eq (K : PySem.W.Frag) (oe : PO → PO → Option Bool) (xd : Xd (TT K)) : TDS (TT K) := (dSeq (dIf (dNot (dTru (dCall (rIsi1 cnT ownT subT) (dCons (dVar (TT K) 1) (dCons (dC (TT K) (.cls "Part")) dNil))))) (dRet (dC (TT K) (.bl false))) dNx) (dRet (dAndV (dOp rEqA (dClsN cnT okC (dVar (TT K) 0)) (dClsN cnT okC (dVar (TT K) 1))) (dOp (rEqT (T := TT K) oe 1) (dFld atT (dVar (TT K) 0) "traits") (dFld atT (dVar (TT K) 1) "traits")))))
theorem der_Part_eq {k : Nat} (F : Fc P w K mg base) {oe : PO → PO → Option Bool} {k_e : Nat} (hE : ∀ cdv A outer s H E, EqJ (cxR P w K mg base N_Part_eq "Part.__eq__" (defScope (sM i_Part j_Part___eq__)) f cdv A outer s H E) k_e (DV (TT K) (EqS oe 1))) (h_e : k_e + 1 ≤ k) : Der P w K mg base N_Part_eq "Part.__eq__" (defScope (sM i_Part j_Part___eq__)) f k efT (defBody (sM i_Part j_Part___eq__)) (t_Part_eq K oe) := fun cdv A outer s H E hr B xd XX => (pds_cons (pds_if (pdt_not (pdt_tru (pd_callB (cd_isi F.isi) F.t_isinstance (pda_cons (pd_var 1) (pda_cons (pd_glob (v := .ref (He.ga K "Part")) (by rfl) F.g_Part rfl (fun _ => .cls _)) pda_nil))))) (pds_one (pds_ret pd_bl)) pds_nil) (pds_one (pds_ret (pd_and (pd_cmp (od_eqA hr.units) (pd_clsN F.nmC (pd_var 0)) (pd_clsN F.nmC (pd_var 1))) (pd_one (pd_cmp (od_eqT (hE cdv A outer s H E) (hr.mono h_e)) (pd_fld F.at_ (pd_var 0)) (pd_fld F.at_ (pd_var 1))))))))
abbrev N_Group_len : List Str := ["self"]
theorem sc_Group_len : FnScope N_Group_len ["self"] (defScope (sM i_Group j_Group___len__)) := ⟨rfl, rfl, rfl, by decide +kernel, rfl, by decide +kernel, by decide +kernel⟩
def t_Group_len (K : PySem.W.Frag)  (xd : Xd (TT K)) : TDS (TT K) := (dRet (dCall (r1 (fLen (T := TT K))) (dCons (dFld atT (dVar (TT K) 0) "inside") dNil)))
theorem der_Group_len {k : Nat} (F : Fc P w K mg base)   : Der P w K mg base N_Group_len "Group.__len__" (defScope (sM i_Group j_Group___len__)) f k efT (defBody (sM i_Group j_Group___len__)) (t_Group_len K ) := fun cdv A outer s H E hr B xd XX => (pds_one (pds_ret (pd_callB cd_len F.t_len (pda_cons (pd_fld F.at_ (pd_var 0)) pda_nil))))
abbrev N_Kind_init : List Str := ["self", "name", "times"]
theorem sc_Kind_init : FnScope N_Kind_init ["self", "name", "times"] (defScope (sM i_Kind j_Kind___init__)) := ⟨rfl, rfl, rfl, by decide +kernel, rfl, by decide +kernel, by decide +kernel⟩
def t_Kind_init (K : PySem.W.Frag) (pt : Addr) (sd_is_name : SpP (TT K)) (sd_is_whole : SpP (TT K)) (sdI_Part_5 : SpO (TT K)) (xd : Xd (TT K)) : TDS (TT K) := (dSeq (dIf (dNot (dTru (dCallP sd_is_name xd (dCons (dVar (TT K) 1) dNil)))) (dRaise xd efT "BadName" (dCons (dVar (TT K) 1) dNil)) dNx) (dSeq (dIf (dNot (dTru (dCallP sd_is_whole xd (dCons (dVar (TT K) 2) (dCons (dC (TT K) (.int 1)) (dCons (dC (TT K) (.int 8)) dNil)))))) (dRaise xd efT "BadTimes" (dCons (dVar (TT K) 2) dNil)) dNx) (dSeq (dDrop (dCallO sdI_Part_5 xd (dCons (dVar (TT K) 0) (dCons (dVar (TT K) 1) (dCons (dTup (dCons (dVar (TT K) 1) (dCons (dVar (TT K) 2) dNil))) (dCons (dTup dNil) (dCons (dVar (TT K) 2) dNil))))))) (dSeq (dFldSet (dVar (TT K) 0) (dFrz (dDisp [((dJoined [(dFmt (dVar (TT K) 1)), (dC (TT K) (.str " ")), (dFmt (dVar (TT K) 2))]), (dPtr pt (dVar (TT K) 0)))])) "ends") (dSeq (dFldSet (dVar (TT K) 0) (dVar (TT K) 1) "name") (dFldSet (dVar (TT K) 0) (dVar (TT K) 2) "times"))))))
theorem der_Kind_init {k : Nat} (F : Fc P w K mg base) {sd_is_name : SpP (TT K)} {sd_is_whole : SpP (TT K)} {sdI_Part_5 : SpO (TT K)} {k_is_name : Nat} (D_is_name : DefP P w K mg base (L2.CX P w) k_is_name "is_name" ["value"] (spP (TT K) efT sd_is_name)) (h_is_name : k_is_name ≤ k) {k_is_whole : Nat} (D_is_whole : DefP P w K mg base (L2.CX P w) k_is_whole "is_whole" ["value", "least", "most"] (spP (TT K) efT sd_is_whole)) (h_is_whole : k_is_whole ≤ k) {k_Part_init : Nat} (h_Part_init : k_Part_init ≤ k) (DI_Part_5 : FnR P w K mg base (L2.CX P w) k_Part_init (He.ma K (He.ga K "Part") "__init__") (spO (TT K) efT sdI_Part_5)) (h3 : 3 ≤ k) : ∀ (cdv : Value) (A : Around) (outer : List Env) (s : Shared) (H : Hp) (E : XK), Room k (A.deeper (envOfC "Kind.__init__" (defScope (sM i_Kind j_Kind___init__)) s.heap.objs.size f cdv)) → ∀ (B : Ba) (pt : Addr) (xd : Xd (TT K)), B.as0 = [some pt] → XP (cxR P w K mg base N_Kind_init "Kind.__init__" (defScope (sM i_Kind j_Kind___init__)) f cdv A outer s H E) (T := TT K) efT B xd → PDSs B (cxR P w K mg base N_Kind_init "Kind.__init__" (defScope (sM i_Kind j_Kind___init__)) f cdv A outer s H E) (T := TT K) (defBody (sM i_Kind j_Kind___init__)) (t_Kind_init K pt sd_is_name sd_is_whole sdI_Part_5 xd) := fun cdv A outer s H E hr B pt xd hB XX => (pds_cons (pds_if (pdt_not (pdt_tru (pd_def D_is_name (hr.mono h_is_name) XX (pda_cons (pd_var 1) pda_nil)))) (pds_one (pds_raise F.E_BadName rfl (by decide) (hr.mono h3) XX rfl (pda_cons (pd_var 1) pda_nil))) pds_nil) (pds_cons (pds_if (pdt_not (pdt_tru (pd_def D_is_whole (hr.mono h_is_whole) XX (pda_cons (pd_var 2) (pda_cons pd_int (pda_cons (pd_glob (v := .int 8) (by rfl) F.i_MOST_TIMES.choose_spec ⟨_, rfl⟩ (fun _ => .int _)) pda_nil)))))) (pds_one (pds_raise F.E_BadTimes rfl (by decide) (hr.mono h3) XX rfl (pda_cons (pd_var 2) pda_nil))) pds_nil) (pds_cons (pds_expr (pd_off rfl F.g_Part F.o_Part.rd F.o_Part.at_ DI_Part_5 (hr.mono h_Part_init) F.o_Part.kp XX (pda_cons (pd_var 0) (pda_cons (pd_var 1) (pda_cons (pd_tup (pda_cons (pd_var 1) (pda_cons (pd_var 2) pda_nil))) (pda_cons (pd_tup pda_nil) (pda_cons (pd_var 2) pda_nil))))))) (pds_cons (pds_fld (pd_var 0) (pd_frz (pd_disp (PDP.cons (pd_joined (PDJ.cons (pd_fmt (pd_var 1)) (PDJ.cons pd_str (PDJ.cons (pd_fmt (pd_var 2)) PDJ.nil)))) (pd_ptr hB (pd_var 0)) PDP.nil)))) (pds_cons (pds_fld (pd_var 0) (pd_var 1)) (pds_one (pds_fld (pd_var 0) (pd_var 2))))))))
abbrev N_Byte_init : List Str := ["self"]
theorem sc_Byte_init : FnScope N_Byte_init ["self"] (defScope (sM i_Byte j_Byte___init__)) := ⟨rfl, rfl, rfl, by decide +kernel, rfl, by decide +kernel, by decide +kernel⟩
def t_Byte_init (K : PySem.W.Frag) (sdI_Part_2 : SpO (TT K)) (xd : Xd (TT K)) : TDS (TT K) := (dDrop (dCallO sdI_Part_2 xd (dCons (dVar (TT K) 0) (dCons (dC (TT K) (.str "byte")) dNil))))
theorem der_Byte_init {k : Nat} (F : Fc P w K mg base) {sdI_Part_2 : SpO (TT K)} {k_Part_init : Nat} (h_Part_init : k_Part_init ≤ k) (DI_Part_2 : FnR P w K mg base (L2.CX P w) k_Part_init (He.ma K (He.ga K "Part") "__init__") (spO (TT K) efT sdI_Part_2)) : Der P w K mg base N_Byte_init "Byte.__init__" (defScope (sM i_Byte j_Byte___init__)) f k efT (defBody (sM i_Byte j_Byte___init__)) (t_Byte_init K sdI_Part_2) := fun cdv A outer s H E hr B xd XX => (pds_one (pds_expr (pd_off rfl F.g_Part F.o_Part.rd F.o_Part.at_ DI_Part_2 (hr.mono h_Part_init) F.o_Part.kp XX (pda_cons (pd_var 0) (pda_cons pd_str pda_nil)))))
abbrev N_Use_init : List Str := ["self", "name"]
theorem sc_Use_init : FnScope N_Use_init ["self", "name"] (defScope (sM i_Use j_Use___init__)) := ⟨rfl, rfl, rfl, by decide +kernel, rfl, by decide +kernel, by decide +kernel⟩
def t_Use_init (K : PySem.W.Frag) (pt : Addr) (sd_is_name : SpP (TT K)) (sdI_Part_3 : SpO (TT K)) (xd : Xd (TT K)) : TDS (TT K) := (dSeq (dIf (dNot (dTru (dCallP sd_is_name xd (dCons (dVar (TT K) 1) dNil)))) (dRaise xd efT "BadName" (dCons (dVar (TT K) 1) dNil)) dNx) (dSeq (dDrop (dCallO sdI_Part_3 xd (dCons (dVar (TT K) 0) (dCons (dJoined [(dC (TT K) (.str "@")), (dFmt (dVar (TT K) 1))]) (dCons (dTup (dCons (dVar (TT K) 1) dNil)) dNil))))) (dSeq (dFldSet (dVar (TT K) 0) (dFrz (dDisp [((dFld atT (dVar (TT K) 0) "text"), (dPtr pt (dVar (TT K) 0)))])) "ends") (dFldSet (dVar (TT K) 0) (dVar (TT K) 1) "name"))))
theorem der_Use_init {k : Nat} (F : Fc P w K mg base) {sd_is_name : SpP (TT K)} {sdI_Part_3 : SpO (TT K)} {k_is_name : Nat} (D_is_name : DefP P w K mg base (L2.CX P w) k_is_name "is_name" ["value"] (spP (TT K) efT sd_is_name)) (h_is_name : k_is_name ≤ k) {k_Part_init : Nat} (h_Part_init : k_Part_init ≤ k) (DI_Part_3 : FnR P w K mg base (L2.CX P w) k_Part_init (He.ma K (He.ga K "Part") "__init__") (spO (TT K) efT sdI_Part_3)) (h3 : 3 ≤ k) : ∀ (cdv : Value) (A : Around) (outer : List Env) (s : Shared) (H : Hp) (E : XK), Room k (A.deeper (envOfC "Use.__init__" (defScope (sM i_Use j_Use___init__)) s.heap.objs.size f cdv)) → ∀ (B : Ba) (pt : Addr) (xd : Xd (TT K)), B.as0 = [some pt] → XP (cxR P w K mg base N_Use_init "Use.__init__" (defScope (sM i_Use j_Use___init__)) f cdv A outer s H E) (T := TT K) efT B xd → PDSs B (cxR P w K mg base N_Use_init "Use.__init__" (defScope (sM i_Use j_Use___init__)) f cdv A outer s H E) (T := TT K) (defBody (sM i_Use j_Use___init__)) (t_Use_init K pt sd_is_name sdI_Part_3 xd) := fun cdv A outer s H E hr B pt xd hB XX => (pds_cons (pds_if (pdt_not (pdt_tru (pd_def D_is_name (hr.mono h_is_name) XX (pda_cons (pd_var 1) pda_nil)))) (pds_one (pds_raise F.E_BadName rfl (by decide) (hr.mono h3) XX rfl (pda_cons (pd_var 1) pda_nil))) pds_nil) (pds_cons (pds_expr (pd_off rfl F.g_Part F.o_Part.rd F.o_Part.at_ DI_Part_3 (hr.mono h_Part_init) F.o_Part.kp XX (pda_cons (pd_var 0) (pda_cons (pd_joined (PDJ.cons pd_str (PDJ.cons (pd_fmt (pd_var 1)) PDJ.nil))) (pda_cons (pd_tup (pda_cons (pd_var 1) pda_nil)) pda_nil))))) (pds_cons (pds_fld (pd_var 0) (pd_frz (pd_disp (PDP.cons (pd_fld F.at_ (pd_var 0)) (pd_ptr hB (pd_var 0)) PDP.nil)))) (pds_one (pds_fld (pd_var 0) (pd_var 1))))))
abbrev N_Row_init : List Str := ["self", "part", "n", "k"]
theorem sc_Row_init : FnScope N_Row_init ["self", "part", "n"] (defScope (sM i_Row j_Row___init__)) := ⟨rfl, rfl, rfl, by decide +kernel, rfl, by decide +kernel, by decide +kernel⟩
def t_Row_init (K : PySem.W.Frag) (sd_is_part : SpP (TT K)) (sd_is_whole : SpP (TT K)) (sdI_Group_5 : SpO (TT K)) (xd : Xd (TT K)) : TDS (TT K) := (dSeq (dIf (dNot (dTru (dCallP sd_is_part xd (dCons (dVar (TT K) 1) dNil)))) (dRaise xd efT "BadParts" (dCons (dC (TT K) (.int 0)) dNil)) dNx) (dSeq (dIf (dNot (dTru (dCallP sd_is_whole xd (dCons (dVar (TT K) 2) (dCons (dC (TT K) (.int 1)) (dCons (dC (TT K) (.int 64)) dNil)))))) (dRaise xd efT "BadTimes" (dCons (dVar (TT K) 2) dNil)) dNx) (dSeq (dDrop (dCallO sdI_Group_5 xd (dCons (dVar (TT K) 0) (dCons (dJoined [(dFmt (dVar (TT K) 2)), (dC (TT K) (.str "*")), (dFmt (dFld atT (dVar (TT K) 1) "text"))]) (dCons (dTup (dCons (dVar (TT K) 1) (dCons (dVar (TT K) 2) dNil))) (dCons (dCall (r1 (fTuple (T := TT K))) (dCons (dLc (dIt1 (dVar (TT K) 2) (fRng (T := TT K))) (dName 3) dYes (dTup (dCons (dCall (r1 (fStr (T := TT K))) (dCons (dVar (TT K) 3) dNil)) (dCons (dVar (TT K) 1) dNil))) [3]) dNil)) (dCons (dOp rMul (dVar (TT K) 2) (dFld atT (dVar (TT K) 1) "weight")) dNil))))))) (dSeq (dFldSet (dVar (TT K) 0) (dVar (TT K) 1) "part") (dFldSet (dVar (TT K) 0) (dVar (TT K) 2) "n")))))
theorem der_Row_init {k : Nat} (F : Fc P w K mg base) {sd_is_part : SpP (TT K)} {sd_is_whole : SpP (TT K)} {sdI_Group_5 : SpO (TT K)} {k_is_part : Nat} (D_is_part : DefP P w K mg base (L2.CX P w) k_is_part "is_part" ["value"] (spP (TT K) efT sd_is_part)) (h_is_part : k_is_part ≤ k) {k_is_whole : Nat} (D_is_whole : DefP P w K mg base (L2.CX P w) k_is_whole "is_whole" ["value", "least", "most"] (spP (TT K) efT sd_is_whole)) (h_is_whole : k_is_whole ≤ k) {k_Group_init : Nat} (h_Group_init : k_Group_init ≤ k) (DI_Group_5 : FnR P w K mg base (L2.CX P w) k_Group_init (He.ma K (He.ga K "Part") "__init__") (spO (TT K) efT sdI_Group_5)) (h3 : 3 ≤ k) : Der P w K mg base N_Row_init "Row.__init__" (defScope (sM i_Row j_Row___init__)) f k efT (defBody (sM i_Row j_Row___init__)) (t_Row_init K sd_is_part sd_is_whole sdI_Group_5) := fun cdv A outer s H E hr B xd XX => (pds_cons (pds_if (pdt_not (pdt_tru (pd_def D_is_part (hr.mono h_is_part) XX (pda_cons (pd_var 1) pda_nil)))) (pds_one (pds_raise F.E_BadParts rfl (by decide) (hr.mono h3) XX rfl (pda_cons pd_int pda_nil))) pds_nil) (pds_cons (pds_if (pdt_not (pdt_tru (pd_def D_is_whole (hr.mono h_is_whole) XX (pda_cons (pd_var 2) (pda_cons pd_int (pda_cons (pd_cval (v := .int 64) (by rfl) F.g_Row F.k_Row_MOST.crd ⟨F.k_Row_MOST.at_.choose_spec, ⟨_, rfl⟩⟩ (fun _ => .int _)) pda_nil)))))) (pds_one (pds_raise F.E_BadTimes rfl (by decide) (hr.mono h3) XX rfl (pda_cons (pd_var 2) pda_nil))) pds_nil) (pds_cons (pds_expr (pd_off rfl F.g_Group F.o_Group.rd F.o_Group.at_ DI_Group_5 (hr.mono h_Group_init) F.o_Group.kp XX (pda_cons (pd_var 0) (pda_cons (pd_joined (PDJ.cons (pd_fmt (pd_var 2)) (PDJ.cons pd_str (PDJ.cons (pd_fmt (pd_fld F.at_ (pd_var 1))) PDJ.nil)))) (pda_cons (pd_tup (pda_cons (pd_var 1) (pda_cons (pd_var 2) pda_nil))) (pda_cons (pd_callTy cd_tuple F.t_tuple (pda_cons (pd_lc (own := [("k", 3)]) rfl sc_Row_init.nd (pdi_range1 F.t_range (pd_var 2)) (blkOk_by (N := N_Row_init) (sc := (defScope (sM i_Row j_Row___init__))) (by decide +kernel)) (fun _ _ _ _ _ _ => (pdg_name 3 sc_Row_init.nd)) (fun _ _ _ _ _ _ => pdts_nil) (fun _ _ _ _ _ _ => (pd_tup (pda_cons (pd_callTy cd_str F.t_str (pda_cons (pd_var 3) pda_nil)) (pda_cons (pd_var 1) pda_nil))))) pda_nil)) (pda_cons (pd_op od_mulA (pd_var 2) (pd_fld F.at_ (pd_var 1))) pda_nil))))))) (pds_cons (pds_fld (pd_var 0) (pd_var 1)) (pds_one (pds_fld (pd_var 0) (pd_var 2)))))))
abbrev N_Record_init : List Str := ["self", "fields", "pairs", "written", "weight", "name", "part"]
theorem sc_Record_init : FnScope N_Record_init ["self", "fields"] (defScope (sM i_Record j_Record___init__)) := ⟨rfl, rfl, rfl, by decide +kernel, rfl, by decide +kernel, by decide +kernel⟩
def t_Record_init (K : PySem.W.Frag) (sd_checked_pairs : SpP (TT K)) (sdI_Group_5 : SpO (TT K)) (xd : Xd (TT K)) : TDS (TT K) := (dSeq (dSet 2 (dCallP sd_checked_pairs xd (dCons (dVar (TT K) 1) (dCons (dC (TT K) (.int 8)) dNil)))) (dSeq (dSet 3 (dJoin (dC (TT K) (.str " ")) (dLc (dItT (dVar (TT K) 2)) (dGTup 2 (dGCons (dName 5) (dGCons (dName 6) dGNil))) dYes (dJoined [(dFmt (dVar (TT K) 5)), (dC (TT K) (.str ":")), (dFmt (dFld atT (dVar (TT K) 6) "text"))]) [5, 6]))) (dSeq (dSet 4 (dCall (r1 (fSum (T := TT K))) (dCons (dLc (dItT (dVar (TT K) 2)) (dGTup 2 (dGCons (dName 5) (dGCons (dName 6) dGNil))) dYes (dOp rAdd (dFld atT (dVar (TT K) 6) "weight") (dC (TT K) (.int 1))) [5, 6]) dNil))) (dSeq (dDrop (dCallO sdI_Group_5 xd (dCons (dVar (TT K) 0) (dCons (dJoin (dC (TT K) (.str "")) (dLst (dCons (dC (TT K) (.str "{")) (dCons (dVar (TT K) 3) (dCons (dC (TT K) (.str "}")) dNil))))) (dCons (dVar (TT K) 2) (dCons (dVar (TT K) 2) (dCons (dVar (TT K) 4) dNil))))))) (dFldSet (dVar (TT K) 0) (dVar (TT K) 2) "fields")))))
theorem der_Record_init {k : Nat} (F : Fc P w K mg base) {sd_checked_pairs : SpP (TT K)} {sdI_Group_5 : SpO (TT K)} {k_checked_pairs : Nat} (D_checked_pairs : DefP P w K mg base (L2.CX P w) k_checked_pairs "checked_pairs" ["pairs", "most"] (spP (TT K) efT sd_checked_pairs)) (h_checked_pairs : k_checked_pairs ≤ k) {k_Group_init : Nat} (h_Group_init : k_Group_init ≤ k) (DI_Group_5 : FnR P w K mg base (L2.CX P w) k_Group_init (He.ma K (He.ga K "Part") "__init__") (spO (TT K) efT sdI_Group_5)) : Der P w K mg base N_Record_init "Record.__init__" (defScope (sM i_Record j_Record___init__)) f k efT (defBody (sM i_Record j_Record___init__)) (t_Record_init K sd_checked_pairs sdI_Group_5) := fun cdv A outer s H E hr B xd XX => (pds_cons (pds_set 2 sc_Record_init.nd (pd_def D_checked_pairs (hr.mono h_checked_pairs) XX (pda_cons (pd_var 1) (pda_cons (pd_cval (v := .int 8) (by rfl) F.g_Record F.k_Record_MOST.crd ⟨F.k_Record_MOST.at_.choose_spec, ⟨_, rfl⟩⟩ (fun _ => .int _)) pda_nil)))) (pds_cons (pds_set 3 sc_Record_init.nd (pd_join pd_str (pd_lc (own := [("name", 5), ("part", 6)]) rfl sc_Record_init.nd (pdi_tup (pd_var 2)) (blkOk_by (N := N_Record_init) (sc := (defScope (sM i_Record j_Record___init__))) (by decide +kernel)) (fun _ _ _ _ _ _ => (pdg_tup rfl (pdgs_cons (pdg_name 5 sc_Record_init.nd) (pdgs_cons (pdg_name 6 sc_Record_init.nd) pdgs_nil)))) (fun _ _ _ _ _ _ => pdts_nil) (fun _ _ _ _ _ _ => (pd_joined (PDJ.cons (pd_fmt (pd_var 5)) (PDJ.cons pd_str (PDJ.cons (pd_fmt (pd_fld F.at_ (pd_var 6))) PDJ.nil)))))))) (pds_cons (pds_set 4 sc_Record_init.nd (pd_callB (cd_sum rfl) F.t_sum (pda_cons (pd_lc (own := [("name", 5), ("part", 6)]) rfl sc_Record_init.nd (pdi_tup (pd_var 2)) (blkOk_by (N := N_Record_init) (sc := (defScope (sM i_Record j_Record___init__))) (by decide +kernel)) (fun _ _ _ _ _ _ => (pdg_tup rfl (pdgs_cons (pdg_name 5 sc_Record_init.nd) (pdgs_cons (pdg_name 6 sc_Record_init.nd) pdgs_nil)))) (fun _ _ _ _ _ _ => pdts_nil) (fun _ _ _ _ _ _ => (pd_op od_add (pd_fld F.at_ (pd_var 6)) pd_int))) pda_nil))) (pds_cons (pds_expr (pd_off rfl F.g_Group F.o_Group.rd F.o_Group.at_ DI_Group_5 (hr.mono h_Group_init) F.o_Group.kp XX (pda_cons (pd_var 0) (pda_cons (pd_join pd_str (pd_lst (pda_cons pd_str (pda_cons (pd_var 3) (pda_cons pd_str pda_nil))))) (pda_cons (pd_var 2) (pda_cons (pd_var 2) (pda_cons (pd_var 4) pda_nil))))))) (pds_one (pds_fld (pd_var 0) (pd_var 2)))))))
abbrev N_Overlay_init : List Str := ["self", "members", "pairs", "written", "weight", "name", "part"]
theorem sc_Overlay_init : FnScope N_Overlay_init ["self", "members"] (defScope (sM i_Overlay j_Overlay___init__)) := ⟨rfl, rfl, rfl, by decide +kernel, rfl, by decide +kernel, by decide +kernel⟩
def t_Overlay_init (K : PySem.W.Frag) (sd_checked_pairs : SpP (TT K)) (sdI_Group_5 : SpO (TT K)) (xd : Xd (TT K)) : TDS (TT K) := (dSeq (dSet 2 (dCallP sd_checked_pairs xd (dCons (dVar (TT K) 1) (dCons (dC (TT K) (.int 4)) dNil)))) (dSeq (dSet 3 (dJoin (dC (TT K) (.str "|")) (dLc (dItT (dVar (TT K) 2)) (dGTup 2 (dGCons (dName 5) (dGCons (dName 6) dGNil))) dYes (dJoined [(dFmt (dVar (TT K) 5)), (dC (TT K) (.str ":")), (dFmt (dFld atT (dVar (TT K) 6) "text"))]) [5, 6]))) (dSeq (dSet 4 (dOp rAdd (dCall (r1 (fMax (T := TT K))) (dCons (dLc (dItT (dVar (TT K) 2)) (dGTup 2 (dGCons (dName 5) (dGCons (dName 6) dGNil))) dYes (dCall (r1 (fInt (T := TT K))) (dCons (dFld atT (dVar (TT K) 6) "weight") dNil)) [5, 6]) dNil)) (dC (TT K) (.int 1)))) (dSeq (dDrop (dCallO sdI_Group_5 xd (dCons (dVar (TT K) 0) (dCons (dJoined [(dC (TT K) (.str "(")), (dFmt (dVar (TT K) 3)), (dC (TT K) (.str ")"))]) (dCons (dVar (TT K) 2) (dCons (dVar (TT K) 2) (dCons (dVar (TT K) 4) dNil))))))) (dFldSet (dVar (TT K) 0) (dVar (TT K) 2) "members")))))
theorem der_Overlay_init {k : Nat} (F : Fc P w K mg base) {sd_checked_pairs : SpP (TT K)} {sdI_Group_5 : SpO (TT K)} {k_checked_pairs : Nat} (D_checked_pairs : DefP P w K mg base (L2.CX P w) k_checked_pairs "checked_pairs" ["pairs", "most"] (spP (TT K) efT sd_checked_pairs)) (h_checked_pairs : k_checked_pairs ≤ k) {k_Group_init : Nat} (h_Group_init : k_Group_init ≤ k) (DI_Group_5 : FnR P w K mg base (L2.CX P w) k_Group_init (He.ma K (He.ga K "Part") "__init__") (spO (TT K) efT sdI_Group_5)) : Der P w K mg base N_Overlay_init "Overlay.__init__" (defScope (sM i_Overlay j_Overlay___init__)) f k efT (defBody (sM i_Overlay j_Overlay___init__)) (t_Overlay_init K sd_checked_pairs sdI_Group_5) := fun cdv A outer s H E hr B xd XX => (pds_cons (pds_set 2 sc_Overlay_init.nd (pd_def D_checked_pairs (hr.mono h_checked_pairs) XX (pda_cons (pd_var 1) (pda_cons (pd_cval (v := .int 4) (by rfl) F.g_Overlay F.k_Overlay_MOST.crd ⟨F.k_Overlay_MOST.at_.choose_spec, ⟨_, rfl⟩⟩ (fun _ => .int _)) pda_nil)))) (pds_cons (pds_set 3 sc_Overlay_init.nd (pd_join pd_str (pd_lc (own := [("name", 5), ("part", 6)]) rfl sc_Overlay_init.nd (pdi_tup (pd_var 2)) (blkOk_by (N := N_Overlay_init) (sc := (defScope (sM i_Overlay j_Overlay___init__))) (by decide +kernel)) (fun _ _ _ _ _ _ => (pdg_tup rfl (pdgs_cons (pdg_name 5 sc_Overlay_init.nd) (pdgs_cons (pdg_name 6 sc_Overlay_init.nd) pdgs_nil)))) (fun _ _ _ _ _ _ => pdts_nil) (fun _ _ _ _ _ _ => (pd_joined (PDJ.cons (pd_fmt (pd_var 5)) (PDJ.cons pd_str (PDJ.cons (pd_fmt (pd_fld F.at_ (pd_var 6))) PDJ.nil)))))))) (pds_cons (pds_set 4 sc_Overlay_init.nd (pd_op od_add (pd_callB (cd_max rfl (un1 hr)) F.t_max (pda_cons (pd_lc (own := [("name", 5), ("part", 6)]) rfl sc_Overlay_init.nd (pdi_tup (pd_var 2)) (blkOk_by (N := N_Overlay_init) (sc := (defScope (sM i_Overlay j_Overlay___init__))) (by decide +kernel)) (fun _ _ _ _ _ _ => (pdg_tup rfl (pdgs_cons (pdg_name 5 sc_Overlay_init.nd) (pdgs_cons (pdg_name 6 sc_Overlay_init.nd) pdgs_nil)))) (fun _ _ _ _ _ _ => pdts_nil) (fun _ _ _ _ _ _ => (pd_callTy cd_int F.t_int (pda_cons (pd_fld F.at_ (pd_var 6)) pda_nil)))) pda_nil)) pd_int)) (pds_cons (pds_expr (pd_off rfl F.g_Group F.o_Group.rd F.o_Group.at_ DI_Group_5 (hr.mono h_Group_init) F.o_Group.kp XX (pda_cons (pd_var 0) (pda_cons (pd_joined (PDJ.cons pd_str (PDJ.cons (pd_fmt (pd_var 3)) (PDJ.cons pd_str PDJ.nil)))) (pda_cons (pd_var 2) (pda_cons (pd_var 2) (pda_cons (pd_var 4) pda_nil))))))) (pds_one (pds_fld (pd_var 0) (pd_var 2)))))))
abbrev N_Kind_str : List Str := ["self"]
theorem sc_Kind_str : FnScope N_Kind_str ["self"] (defScope (sM i_Kind j_Kind___str__)) := ⟨rfl, rfl, rfl, by decide +kernel, rfl, by decide +kernel, by decide +kernel⟩
def t_Kind_str (K : PySem.W.Frag)  (xd : Xd (TT K)) : TDS (TT K) := (dRet (dCall (r1 (fStr (T := TT K))) (dCons (dFld atT (dVar (TT K) 0) "text") dNil)))
theorem der_Kind_str {k : Nat} (F : Fc P w K mg base)   : Der P w K mg base N_Kind_str "Kind.__str__" (defScope (sM i_Kind j_Kind___str__)) f k efT (defBody (sM i_Kind j_Kind___str__)) (t_Kind_str K ) := fun cdv A outer s H E hr B xd XX => (pds_one (pds_ret (pd_callTy cd_str F.t_str (pda_cons (pd_fld F.at_ (pd_var 0)) pda_nil))))
abbrev N_Byte_str : List Str := ["self"]
theorem sc_Byte_str : FnScope N_Byte_str ["self"] (defScope (sM i_Byte j_Byte___str__)) := ⟨rfl, rfl, rfl, by decide +kernel, rfl, by decide +kernel, by decide +kernel⟩
def t_Byte_str (K : PySem.W.Frag)  (xd : Xd (TT K)) : TDS (TT K) := (dRet (dCall (r1 (fStr (T := TT K))) (dCons (dFld atT (dVar (TT K) 0) "text") dNil)))
theorem der_Byte_str {k : Nat} (F : Fc P w K mg base)   : Der P w K mg base N_Byte_str "Byte.__str__" (defScope (sM i_Byte j_Byte___str__)) f k efT (defBody (sM i_Byte j_Byte___str__)) (t_Byte_str K ) := fun cdv A outer s H E hr B xd XX => (pds_one (pds_ret (pd_callTy cd_str F.t_str (pda_cons (pd_fld F.at_ (pd_var 0)) pda_nil))))
abbrev N_Use_str : List Str := ["self"]
theorem sc_Use_str : FnScope N_Use_str ["self"] (defScope (sM i_Use j_Use___str__)) := ⟨rfl, rfl, rfl, by decide +kernel, rfl, by decide +kernel, by decide +kernel⟩
def t_Use_str (K : PySem.W.Frag)  (xd : Xd (TT K)) : TDS (TT K) := (dRet (dCall (r1 (fStr (T := TT K))) (dCons (dFld atT (dVar (TT K) 0) "text") dNil)))
theorem der_Use_str {k : Nat} (F : Fc P w K mg base)   : Der P w K mg base N_Use_str "Use.__str__" (defScope (sM i_Use j_Use___str__)) f k efT (defBody (sM i_Use j_Use___str__)) (t_Use_str K ) := fun cdv A outer s H E hr B xd XX => (pds_one (pds_ret (pd_callTy cd_str F.t_str (pda_cons (pd_fld F.at_ (pd_var 0)) pda_nil))))
abbrev N_Row_str : List Str := ["self"]
theorem sc_Row_str : FnScope N_Row_str ["self"] (defScope (sM i_Row j_Row___str__)) := ⟨rfl, rfl, rfl, by decide +kernel, rfl, by decide +kernel, by decide +kernel⟩
def t_Row_str (K : PySem.W.Frag)  (xd : Xd (TT K)) : TDS (TT K) := (dRet (dCall (r1 (fStr (T := TT K))) (dCons (dFld atT (dVar (TT K) 0) "text") dNil)))
theorem der_Row_str {k : Nat} (F : Fc P w K mg base)   : Der P w K mg base N_Row_str "Row.__str__" (defScope (sM i_Row j_Row___str__)) f k efT (defBody (sM i_Row j_Row___str__)) (t_Row_str K ) := fun cdv A outer s H E hr B xd XX => (pds_one (pds_ret (pd_callTy cd_str F.t_str (pda_cons (pd_fld F.at_ (pd_var 0)) pda_nil))))
abbrev N_Record_str : List Str := ["self"]
theorem sc_Record_str : FnScope N_Record_str ["self"] (defScope (sM i_Record j_Record___str__)) := ⟨rfl, rfl, rfl, by decide +kernel, rfl, by decide +kernel, by decide +kernel⟩
def t_Record_str (K : PySem.W.Frag)  (xd : Xd (TT K)) : TDS (TT K) := (dRet (dCall (r1 (fStr (T := TT K))) (dCons (dFld atT (dVar (TT K) 0) "text") dNil)))
theorem der_Record_str {k : Nat} (F : Fc P w K mg base)   : Der P w K mg base N_Record_str "Record.__str__" (defScope (sM i_Record j_Record___str__)) f k efT (defBody (sM i_Record j_Record___str__)) (t_Record_str K ) := fun cdv A outer s H E hr B xd XX => (pds_one (pds_ret (pd_callTy cd_str F.t_str (pda_cons (pd_fld F.at_ (pd_var 0)) pda_nil))))
abbrev N_Overlay_str : List Str := ["self"]
theorem sc_Overlay_str : FnScope N_Overlay_str ["self"] (defScope (sM i_Overlay j_Overlay___str__)) := ⟨rfl, rfl, rfl, by decide +kernel, rfl, by decide +kernel, by decide +kernel⟩
def t_Overlay_str (K : PySem.W.Frag)  (xd : Xd (TT K)) : TDS (TT K) := (dRet (dCall (r1 (fStr (T := TT K))) (dCons (dFld atT (dVar (TT K) 0) "text") dNil)))
theorem der_Overlay_str {k : Nat} (F : Fc P w K mg base)   : Der P w K mg base N_Overlay_str "Overlay.__str__" (defScope (sM i_Overlay j_Overlay___str__)) f k efT (defBody (sM i_Overlay j_Overlay___str__)) (t_Overlay_str K ) := fun cdv A outer s H E hr B xd XX => (pds_one (pds_ret (pd_callTy cd_str F.t_str (pda_cons (pd_fld F.at_ (pd_var 0)) pda_nil))))
end
end H1
set_option Elab.async false
set_option linter.all false
set_option maxRecDepth 100000
set_option maxHeartbeats 1000000
/-! Parts: bounds of their texts and ends, pairs of names and parts, what is exchanged. -/
namespace Dl
open PySem PySem.Spec PyProof.Rows L2 Ev
/-! ### texts -/
theorem emp_len : Str.empty.length = 0 := rfl
theorem emp_app (s : Str) : Str.empty ++ s = s := by
  show (⟨#[] ++ s.cps⟩ : Str) = s
  simp
theorem str_assoc (a b c : Str) : a ++ b ++ c = a ++ (b ++ c) := by
  show (⟨a.cps ++ b.cps ++ c.cps⟩ : Str) = ⟨a.cps ++ (b.cps ++ c.cps)⟩
  rw [Array.append_assoc]
theorem joinL_len (S : List Nat) : ∀ ps : List (List Nat), (TL.joinL S ps).length ≤ (ps.map (·.length)).sum + ps.length * S.length
  | [] => by simp [TL.joinL]
  | [p] => by simp [TL.joinL]
  | p :: q :: r => by
    have ih := joinL_len S (q :: r)
    simp only [TL.joinL, List.length_append, List.map_cons, List.sum_cons, List.length_cons] at ih ⊢
    have : (r.length + 1 + 1) * S.length = (r.length + 1) * S.length + S.length := Nat.succ_mul _ _
    omega
theorem join_len (y : Str) (parts : List Str) : (Txt.join y parts).length ≤ (parts.map (·.length)).sum + parts.length * y.length := by
  rw [TL.join_eq]
  have h := joinL_len (TL.tl y) (parts.map TL.tl)
  rw [← TL.tl_join] at h
  rw [List.map_map, List.length_map] at h
  exact h
theorem join3 (a b c : Str) : Txt.join "" [a, b, c] = a ++ (b ++ c) := by
  rw [TL.join_eq, ← str_assoc]
  apply TL.ext_tl
  rw [TL.tl_join, TL.tl_append, TL.tl_append]
  have e : TL.tl ("" : Str) = [] := rfl
  rw [e]
  simp [TL.joinL]
theorem nm_len {s : Str} (h : nmS s = true) : 1 ≤ s.length ∧ s.length ≤ 8 := by
  simp only [nmS, Bool.and_eq_true, decide_eq_true_eq] at h
  exact ⟨h.2.1, h.2.2.1⟩
theorem num_len {n : Nat} (h : n < 10 ^ 6) : (intS n).length ≤ 7 :=
  Nat.le_trans (toString_length_le (by omega) (by decide) (show (n : Int) < 10 ^ 6 by omega)) (by decide)
theorem log_small {i : Int} (h0 : 0 ≤ i) (h1 : i < 10 ^ 6) : i.natAbs.log2 < 1920 := by
  have h : i.natAbs < 2 ^ 20 := by omega
  by_cases z : i.natAbs = 0
  · rw [z]; decide
  · have := (Nat.log2_lt z).mpr h
    omega
def Bd : Nat → Nat
  | 0 => 9
  | d + 1 => 8 * (Bd d + 10) + 2
theorem Bd_mono : ∀ {a b : Nat}, a ≤ b → Bd a ≤ Bd b := by
  intro a b h
  induction h with
  | refl => exact Nat.le_refl _
  | step _ ih => exact Nat.le_trans ih (by show _ ≤ 8 * (Bd _ + 10) + 2; omega)
theorem Bd5 : Bd 5 ≤ 1000000 := by decide +kernel
theorem nine_Bd (d : Nat) : 9 ≤ Bd d := Nat.le_trans (by decide) (Bd_mono (Nat.zero_le d))
theorem Pts.txs_len : ∀ ps : Pts, ps.txs.length = ps.len
  | .nil => rfl
  | .cons _ _ r => congrArg Nat.succ r.txs_len
theorem wf_row {p : Pt} {n : Nat} (h : (Pt.row p n).wf = true) : p.wf = true ∧ 1 ≤ n ∧ n ≤ 64 ∧ p.dep + 1 ≤ 4 := by
  simpa [Pt.wf, and_assoc] using h
theorem wf_grp {ov : Bool} {ps : Pts} (h : (Pt.grp ov ps).wf = true) : ps.wf = true ∧ 1 ≤ ps.len ∧ (ps.len ≤ if ov then 4 else 8) ∧ ps.nms.Nodup ∧ ps.dep ≤ 4 := by
  simpa [Pt.wf, and_assoc] using h
theorem wf_kind {s : Str} {t : Nat} (h : (Pt.kind s t).wf = true) : nmS s = true ∧ 1 ≤ t ∧ t ≤ 8 := by
  simpa [Pt.wf, and_assoc] using h
theorem wf_cons {s : Str} {p : Pt} {r : Pts} (h : (Pts.cons s p r).wf = true) : nmS s = true ∧ p.wf = true ∧ r.wf = true := by
  simpa [Pts.wf, and_assoc] using h
theorem wf_grp8 {ov : Bool} {ps : Pts} (h : (Pt.grp ov ps).wf = true) : ps.len ≤ 8 := by
  have := (wf_grp h).2.2.1
  cases ov
  · exact this
  · exact Nat.le_trans this (by decide)
theorem Pt.dep4 {p : Pt} (h : p.wf = true) : p.dep ≤ 4 := by
  cases p with
  | byte => exact Nat.zero_le _
  | kind s t => exact Nat.zero_le _
  | use s => exact Nat.zero_le _
  | row p n => exact (wf_row h).2.2.2
  | grp ov ps => exact (wf_grp h).2.2.2.2
mutual
theorem Pt.tx_len : ∀ (p : Pt), p.wf = true → ∀ d, p.dep ≤ d → p.tx.length ≤ Bd d
  | .byte, _, d, _ => Nat.le_trans (show ("byte" : Str).length ≤ 9 by decide +kernel) (nine_Bd d)
  | .kind s t, h, d, _ => Nat.le_trans (nm_len (wf_kind h).1).2 (Nat.le_trans (by decide) (nine_Bd d))
  | .use s, h, d, _ => by
    show ("@" ++ s).length ≤ _
    rw [str_len_app]
    have := (nm_len (s := s) h).2
    have e : ("@" : Str).length = 1 := by decide +kernel
    have := nine_Bd d
    omega
  | .row p n, h, d, hd => by
    obtain ⟨h1, h2, h3, h4⟩ := wf_row h
    have hd : p.dep + 1 ≤ d := hd
    obtain ⟨e, rfl⟩ : ∃ e, d = e + 1 := ⟨d - 1, by omega⟩
    have ih := p.tx_len h1 e (by omega)
    have := num_len (n := n) (by omega)
    show (intS n ++ ("*" ++ p.tx)).length ≤ 8 * (Bd e + 10) + 2
    rw [str_len_app, str_len_app, show ("*" : Str).length = 1 by decide +kernel]
    omega
  | .grp ov ps, h, d, hd => by
    obtain ⟨h1, h2, h3, _, _⟩ := wf_grp h
    have h8 := wf_grp8 h
    have hd : ps.dep ≤ d := hd
    cases d with
    | zero =>
      cases ps with
      | nil => exact absurd h2 (by decide)
      | cons s p r => have : max (p.dep + 1) r.dep ≤ 0 := hd; omega
    | succ e =>
    have ih := ps.txs_sum h1 e hd
    have hl := ps.txs_len
    have m : ps.len * (Bd e + 9) ≤ 8 * (Bd e + 9) := Nat.mul_le_mul_right _ h8
    cases ov with
    | false =>
      have j := join_len " " ps.txs
      rw [hl, show (" " : Str).length = 1 by decide +kernel] at j
      show ("{" ++ (Txt.join " " ps.txs ++ "}")).length ≤ 8 * (Bd e + 10) + 2
      rw [str_len_app, str_len_app, show ("{" : Str).length = 1 by decide +kernel, show ("}" : Str).length = 1 by decide +kernel]
      omega
    | true =>
      have j := join_len "|" ps.txs
      rw [hl, show ("|" : Str).length = 1 by decide +kernel] at j
      show ("(" ++ (Txt.join "|" ps.txs ++ ")")).length ≤ 8 * (Bd e + 10) + 2
      rw [str_len_app, str_len_app, show ("(" : Str).length = 1 by decide +kernel, show (")" : Str).length = 1 by decide +kernel]
      omega
theorem Pts.txs_sum : ∀ (ps : Pts), ps.wf = true → ∀ e, ps.dep ≤ e + 1 → (ps.txs.map (·.length)).sum ≤ ps.len * (Bd e + 9)
  | .nil, _, e, _ => by simp [Pts.txs]
  | .cons s p r, h, e, hd => by
    obtain ⟨h1, h2, h3⟩ := wf_cons h
    have hd : max (p.dep + 1) r.dep ≤ e + 1 := hd
    have i1 := p.tx_len h2 e (by omega)
    have i2 := r.txs_sum h3 e (by omega)
    show (s ++ (":" ++ p.tx)).length + (r.txs.map (·.length)).sum ≤ (r.len + 1) * (Bd e + 9)
    have := (nm_len h1).2
    rw [str_len_app, str_len_app, show (":" : Str).length = 1 by decide +kernel, Nat.succ_mul]
    omega
end
theorem tx_short {p : Pt} (h : p.wf = true) : p.tx.length ≤ 100000 := Nat.le_trans (p.tx_len h 4 (Pt.dep4 h)) (by decide +kernel)
/-! ### pairs -/
abbrev Pr : Type := Str × Pt
def pairsD (l : List Pr) : List (D PO) := l.map fun q => .tup [.str q.1, pD q.2]
def Pts.list : Pts → List Pr
  | .nil => []
  | .cons s p r => (s, p) :: r.list
def Pts.of : List Pr → Pts
  | [] => .nil
  | (s, p) :: r => .cons s p (Pts.of r)
theorem Pts.of_list : ∀ ps : Pts, Pts.of ps.list = ps
  | .nil => rfl
  | .cons s p r => by rw [Pts.list, Pts.of, r.of_list]
theorem Pts.list_of : ∀ l : List Pr, (Pts.of l).list = l
  | [] => rfl
  | (s, p) :: r => by rw [Pts.of, Pts.list, Pts.list_of r]
theorem Pts.pairs_eq : ∀ ps : Pts, ps.pairs = pairsD ps.list
  | .nil => rfl
  | .cons s p r => congrArg (_ :: ·) r.pairs_eq
theorem Pts.len_eq : ∀ ps : Pts, ps.len = ps.list.length
  | .nil => rfl
  | .cons _ _ r => congrArg Nat.succ r.len_eq
theorem Pts.nms_eq : ∀ ps : Pts, ps.nms = ps.list.map (·.1)
  | .nil => rfl
  | .cons _ _ r => congrArg (_ :: ·) r.nms_eq
theorem Pts.txs_eq : ∀ ps : Pts, ps.txs = ps.list.map fun q : Pr => (q.1 ++ ((":" : Str) ++ q.2.tx) : Str)
  | .nil => rfl
  | .cons _ _ r => congrArg (_ :: ·) r.txs_eq
theorem Pts.wf_eq : ∀ ps : Pts, ps.wf = ps.list.all fun q => nmS q.1 && q.2.wf
  | .nil => rfl
  | .cons s p r => by
    show (nmS s && (p.wf && r.wf)) = ((nmS s && p.wf) && _)
    rw [r.wf_eq, Bool.and_assoc]
/-- the greatest depth and one -/
def depL : List Pr → Nat
  | [] => 0
  | q :: r => max (q.2.dep + 1) (depL r)
theorem Pts.dep_eq : ∀ ps : Pts, ps.dep = depL ps.list
  | .nil => rfl
  | .cons s p r => by
    show max (p.dep + 1) r.dep = max (p.dep + 1) (depL r.list)
    rw [r.dep_eq]
theorem Pts.wtS_eq : ∀ ps : Pts, (ps.wtS : Int) = (ps.list.map fun q => (q.2.wt : Int) + 1).sum
  | .nil => rfl
  | .cons s p r => by
    show (((p.wt + 1) + r.wtS : Nat) : Int) = ((p.wt : Int) + 1) + (r.list.map _).sum
    rw [← r.wtS_eq]
    omega
theorem foldl_max : ∀ (l : List Int) (a : Int), l.foldl max a = max a (l.foldl max a)
  | [], a => by simp
  | b :: l, a => by
    show l.foldl max (max a b) = max a (l.foldl max (max a b))
    rw [foldl_max l (max a b)]
    omega
theorem foldl_max2 : ∀ (l : List Int) (a b : Int), l.foldl max (max a b) = max a (l.foldl max b)
  | [], a, b => rfl
  | c :: l, a, b => by
    show l.foldl max (max (max a b) c) = max a (l.foldl max (max b c))
    rw [Int.max_assoc, foldl_max2 l a (max b c)]
theorem Pts.wtM_eq : ∀ (ps : Pts) (a : Nat), (ps.list.map fun q => (q.2.wt : Int)).foldl max (a : Int) = ((max a ps.wtM : Nat) : Int)
  | .nil, a => by
    show (a : Int) = ((max a 0 : Nat) : Int)
    rw [Nat.max_zero]
  | .cons s p r, a => by
    show (r.list.map _).foldl max (max (a : Int) (p.wt : Int)) = ((max a (max p.wt r.wtM) : Nat) : Int)
    rw [show max (a : Int) (p.wt : Int) = ((max a p.wt : Nat) : Int) by omega, r.wtM_eq (max a p.wt)]
    omega
theorem maxI_dep : ∀ l : List Pr, maxI 0 (l.map fun q => (q.2.dep : Int) + 1) = (depL l : Int) := by
  have go : ∀ (l : List Pr) (a : Nat), (l.map fun q => (q.2.dep : Int) + 1).foldl max (a : Int) = ((max a (depL l) : Nat) : Int) := by
    intro l
    induction l with
    | nil => intro a; show (a : Int) = ((max a 0 : Nat) : Int); rw [Nat.max_zero]
    | cons q r ih =>
      intro a
      show (r.map _).foldl max (max (a : Int) ((q.2.dep : Int) + 1)) = ((max a (max (q.2.dep + 1) (depL r)) : Nat) : Int)
      rw [show max (a : Int) ((q.2.dep : Int) + 1) = ((max a (q.2.dep + 1) : Nat) : Int) by omega, ih]
      omega
  intro l
  cases l with
  | nil => rfl
  | cons q r =>
    show (r.map _).foldl max ((q.2.dep : Int) + 1) = ((max (q.2.dep + 1) (depL r) : Nat) : Int)
    rw [show ((q.2.dep : Int) + 1) = ((q.2.dep + 1 : Nat) : Int) by omega, go]
theorem depL_le : ∀ {l : List Pr} {d : Nat}, (∀ q ∈ l, q.2.dep ≤ d) → depL l ≤ d + 1
  | [], d, _ => Nat.zero_le _
  | q :: r, d, h => by
    have h1 := h q List.mem_cons_self
    have h2 := depL_le fun q hq => h q (List.mem_cons_of_mem _ hq)
    show max _ _ ≤ _
    omega
theorem dep_mem : ∀ {l : List Pr} {q : Pr}, q ∈ l → q.2.dep + 1 ≤ depL l
  | a :: r, q, h => by
    show _ ≤ max _ _
    rcases List.mem_cons.mp h with rfl | h
    · omega
    · have := dep_mem h; omega
/-- the pairs of a row -/
def rowL (p : Pt) (n : Nat) : List Pr := (List.range n).map fun k : Nat => (intS (k : Int), p)
theorem rowIn_eq (p : Pt) (n : Nat) : rowIn p n = pairsD (rowL p n) := by
  unfold rowIn pairsD rowL
  rw [List.map_map]
  rfl
theorem depL_row (p : Pt) {n : Nat} (h : 1 ≤ n) : depL (rowL p n) = p.dep + 1 := by
  have a : depL (rowL p n) ≤ p.dep + 1 := depL_le fun q hq => by
    obtain ⟨k, _, rfl⟩ := List.mem_map.mp hq
    exact Nat.le_refl _
  have b := dep_mem (l := rowL p n) (q := (intS (0 : Int), p)) (List.mem_map.mpr ⟨0, List.mem_range.mpr h, rfl⟩)
  have b : p.dep + 1 ≤ _ := b
  omega
/-- what stands inside, as pairs -/
def Pt.ins : Pt → List Pr
  | .row p n => rowL p n
  | .grp _ ps => ps.list
  | _ => []
theorem Pt.inside_eq (p : Pt) : p.inside = pairsD p.ins := by
  cases p with
  | row p n => exact rowIn_eq p n
  | grp ov ps => exact ps.pairs_eq
  | _ => rfl
theorem ins_wf {p : Pt} (h : p.wf = true) : ∀ q ∈ p.ins, q.2.wf = true := by
  cases p with
  | row p n =>
    intro q hq
    obtain ⟨k, _, rfl⟩ := List.mem_map.mp hq
    exact (wf_row h).1
  | grp ov ps =>
    intro q hq
    have := (wf_grp h).1
    rw [Pts.wf_eq, List.all_eq_true] at this
    have := this q hq
    rw [Bool.and_eq_true] at this
    exact this.2
  | _ => intro q hq; cases hq
/-! ### ends -/
def endsL (l : List Pr) (acc : List (Key × Pt)) : List (Key × Pt) := l.foldl (fun acc q => mergeD acc q.2.ends) acc
theorem Pts.ends_eq : ∀ (ps : Pts) (acc : List (Key × Pt)), ps.ends acc = endsL ps.list acc
  | .nil, _ => rfl
  | .cons s p r, acc => r.ends_eq _
theorem row_ends (p : Pt) (n : Nat) : (Pt.row p n).ends = endsL (rowL p n) [] := by
  show (List.replicate n p.ends).foldl mergeD [] = _
  unfold endsL rowL
  rw [List.foldl_map]
  have : ∀ (l : List Nat) (acc : List (Key × Pt)), (List.replicate l.length p.ends).foldl mergeD acc = l.foldl (fun acc _ => mergeD acc p.ends) acc := by
    intro l
    induction l with
    | nil => intro acc; rfl
    | cons a l ih => intro acc; exact ih _
  have := this (List.range n) []
  rw [List.length_range] at this
  exact this
theorem Pt.ends_ins (p : Pt) (h : p.ins ≠ []) : p.ends = endsL p.ins [] := by
  cases p with
  | row p n => exact row_ends p n
  | grp ov ps => exact ps.ends_eq []
  | _ => exact absurd rfl h
theorem endsL_len {B : Nat} : ∀ {l : List Pr} {acc : List (Key × Pt)}, (∀ q ∈ l, q.2.ends.length ≤ B) → (endsL l acc).length ≤ acc.length + l.length * B
  | [], acc, _ => Nat.le_add_right _ _
  | q :: r, acc, h => by
    have h1 := h q List.mem_cons_self
    have h2 := endsL_len (l := r) (acc := mergeD acc q.2.ends) fun q hq => h q (List.mem_cons_of_mem _ hq)
    have h3 := mergeD_len q.2.ends acc
    have e : (r.length + 1) * B = r.length * B + B := Nat.succ_mul _ _
    show (endsL r (mergeD acc q.2.ends)).length ≤ acc.length + (r.length + 1) * B
    omega
theorem rowL_len (p : Pt) (n : Nat) : (rowL p n).length = n := by unfold rowL; rw [List.length_map, List.length_range]
theorem ins_len {p : Pt} (h : p.wf = true) : p.ins.length ≤ 64 := by
  cases p with
  | row p n => rw [show (Pt.row p n).ins = rowL p n from rfl, rowL_len]; exact (wf_row h).2.2.1
  | grp ov ps => rw [show (Pt.grp ov ps).ins = ps.list from rfl, ← ps.len_eq]; exact Nat.le_trans (wf_grp8 h) (by decide)
  | _ => exact Nat.zero_le _
theorem sizeOf_ins {p : Pt} {q : Pr} (h : q ∈ p.ins) : q.2.dep < p.dep := by
  cases p with
  | row p n =>
    obtain ⟨k, _, rfl⟩ := List.mem_map.mp h
    exact Nat.lt_succ_self _
  | grp ov ps =>
    have := dep_mem (l := ps.list) h
    show _ < ps.dep
    rw [ps.dep_eq]
    exact this
  | _ => cases h
theorem ends_len : ∀ (d : Nat) (p : Pt), p.wf = true → p.dep ≤ d → p.ends.length ≤ 64 ^ d := by
  intro d
  induction d with
  | zero =>
    intro p h hd
    cases p with
    | byte => exact Nat.zero_le _
    | kind s t => exact Nat.le_refl 1
    | use s => exact Nat.le_refl 1
    | row p n => exact absurd hd (Nat.not_succ_le_zero _)
    | grp ov ps =>
      obtain ⟨_, h2, _⟩ := wf_grp h
      cases ps with
      | nil => exact absurd h2 (by decide)
      | cons s p r => have : max (p.dep + 1) r.dep ≤ 0 := hd; omega
  | succ d ih =>
    intro p h hd
    by_cases z : p.ins = []
    · have : p.ends.length ≤ 1 := by
        cases p with
        | byte => exact Nat.zero_le _
        | kind s t => exact Nat.le_refl 1
        | use s => exact Nat.le_refl 1
        | row p n =>
          have e : rowL p n = [] := z
          rw [row_ends, e]; exact Nat.zero_le _
        | grp ov ps =>
          have e : ps.list = [] := z
          show (ps.ends []).length ≤ 1
          rw [ps.ends_eq, e]; exact Nat.zero_le _
      exact Nat.le_trans this (Nat.one_le_pow _ _ (by decide))
    · rw [p.ends_ins z]
      have := endsL_len (B := 64 ^ d) (l := p.ins) (acc := []) fun q hq => ih q.2 (ins_wf h q hq) (by have := sizeOf_ins hq; omega)
      have l := ins_len h
      have m : p.ins.length * 64 ^ d ≤ 64 * 64 ^ d := Nat.mul_le_mul_right _ l
      have e : 64 ^ (d + 1) = 64 ^ d * 64 := Nat.pow_succ _ _
      have : (endsL p.ins []).length ≤ 0 + p.ins.length * 64 ^ d := this
      omega
/-! ### == -/
mutual
def eqPt : Pt → Pt → Bool
  | .byte, .byte => true
  | .kind s t, .kind s' t' => (s == s') && (t == t')
  | .use s, .use s' => s == s'
  | .row p n, .row p' n' => eqPt p p' && (n == n')
  | .grp ov ps, .grp ov' ps' => (ov == ov') && eqPs ps ps'
  | _, _ => false
def eqPs : Pts → Pts → Bool
  | .nil, .nil => true
  | .cons s p r, .cons s' p' r' => (s == s') && (eqPt p p' && eqPs r r')
  | _, _ => false
end
mutual
theorem eqPt_refl : ∀ p : Pt, eqPt p p = true
  | .byte => rfl
  | .kind s t => by simp [eqPt]
  | .use s => by simp [eqPt]
  | .row p n => by simp [eqPt, eqPt_refl p]
  | .grp ov ps => by simp [eqPt, eqPs_refl ps]
theorem eqPs_refl : ∀ p : Pts, eqPs p p = true
  | .nil => rfl
  | .cons s p r => by simp [eqPs, eqPt_refl p, eqPs_refl r]
end
mutual
theorem eqPt_eq : ∀ p q : Pt, eqPt p q = true → p = q
  | .byte, .byte, _ => rfl
  | .kind s t, .kind s' t', h => by
    simp [eqPt] at h
    rw [h.1, h.2]
  | .use s, .use s', h => by
    simp [eqPt] at h
    rw [h]
  | .row p n, .row p' n', h => by
    simp [eqPt] at h
    rw [eqPt_eq p p' h.1, h.2]
  | .grp ov ps, .grp ov' ps', h => by
    simp [eqPt] at h
    rw [h.1, eqPs_eq ps ps' h.2]
  | .byte, .kind _ _, h => by cases h
  | .byte, .use _, h => by cases h
  | .byte, .row _ _, h => by cases h
  | .byte, .grp _ _, h => by cases h
  | .kind _ _, .byte, h => by cases h
  | .kind _ _, .use _, h => by cases h
  | .kind _ _, .row _ _, h => by cases h
  | .kind _ _, .grp _ _, h => by cases h
  | .use _, .byte, h => by cases h
  | .use _, .kind _ _, h => by cases h
  | .use _, .row _ _, h => by cases h
  | .use _, .grp _ _, h => by cases h
  | .row _ _, .byte, h => by cases h
  | .row _ _, .kind _ _, h => by cases h
  | .row _ _, .use _, h => by cases h
  | .row _ _, .grp _ _, h => by cases h
  | .grp _ _, .byte, h => by cases h
  | .grp _ _, .kind _ _, h => by cases h
  | .grp _ _, .use _, h => by cases h
  | .grp _ _, .row _ _, h => by cases h
theorem eqPs_eq : ∀ p q : Pts, eqPs p q = true → p = q
  | .nil, .nil, _ => rfl
  | .cons s p r, .cons s' p' r', h => by
    simp [eqPs] at h
    rw [h.1, eqPt_eq p p' h.2.1, eqPs_eq r r' h.2.2]
  | .nil, .cons _ _ _, h => by cases h
  | .cons _ _ _, .nil, h => by cases h
end
end Dl
set_option Elab.async false
set_option linter.all false
set_option maxRecDepth 100000
set_option maxHeartbeats 2000000
/-! The parts' __init__. -/
namespace H1
open PySem PySem.Spec PyProof.Rows L2 Ev Dl
theorem valD_map {α β : Type} (f : α → β) : ∀ (l : List (Key × α)) (k : Key) (v : α), putD (l.map fun e => (e.1, f e.2)) k (f v) = (putD l k v).map fun e => (e.1, f e.2) := by
  intro l k v
  unfold putD
  have e : ((l.map fun e => (e.1, f e.2)).any fun kv => decide (kv.1 = k)) = l.any fun kv => decide (kv.1 = k) := by
    rw [List.any_map]; rfl
  rw [e]
  by_cases h : (l.any fun kv => decide (kv.1 = k)) = true
  · rw [if_pos h, if_pos h, List.map_map, List.map_map]
    refine List.map_congr_left fun kv _ => ?_
    show (if kv.1 = k then (kv.1, f v) else (kv.1, f kv.2)) = _
    by_cases z : kv.1 = k
    · rw [if_pos z]; show _ = ((if kv.1 = k then (kv.1, v) else kv).1, f (if kv.1 = k then (kv.1, v) else kv).2); rw [if_pos z]
    · rw [if_neg z]; show _ = ((if kv.1 = k then (kv.1, v) else kv).1, f (if kv.1 = k then (kv.1, v) else kv).2); rw [if_neg z]
  · rw [if_neg h, if_neg h, List.map_append]; rfl
theorem endsD_merge : ∀ (more acc : List (Key × Pt)), mergeD (endsD acc) (endsD more) = endsD (mergeD acc more)
  | [], acc => rfl
  | e :: more, acc => by
    show mergeD (putD (endsD acc) e.1 (pD e.2)) (endsD more) = endsD (mergeD (putD acc e.1 e.2) more)
    have := valD_map (fun p : Pt => pD p) acc e.1 e.2
    rw [show putD (endsD acc) e.1 (pD e.2) = endsD (putD acc e.1 e.2) from this, endsD_merge more]
theorem endsD_len (l : List (Key × Pt)) : (endsD l).length = l.length := List.length_map _
def baseF (tx : Str) (tr ins : List (D PO)) (es : List (Key × D PO)) (wt dp : Int) : List (Str × D PO) :=
  [("text", .str tx), ("traits", .tup tr), ("inside", .tup ins), ("ends", .dic es), ("weight", .int wt), ("depth", .int dp)]
section
variable {K : PySem.W.Frag}
def sd_Part_init : SpO (TT K) := fun c ds q x => match ds with
  | [.str tx, .tup tr, .tup ins, .int wt] => ∃ (C : Str) (ps : List Pr), c = .ins C [] ∧ ins = pairsD ps ∧ (∀ r ∈ ps, r.2.wf = true) ∧ ps.length ≤ 64 ∧ (∀ f ∈ base6, ClF K C f) ∧
    if depL ps ≤ 4 then q .non (.ins C (baseF tx tr (pairsD ps) (endsD (endsL ps [])) wt (depL ps))) else x "TooLarge" [.str "depth", .int 4]
  | _ => False
theorem pi_loop {x : Xd (TT K)} {e : En (TT K)} {C : Str} {s1 s2 s3 s4 s5 : Option (Sl PO)} {B : Nat} : ∀ (l : List Pr) (acc : List (Key × Pt)) (s7 s8 : Option (Sl PO)), (∀ r ∈ l, r.2.ends.length ≤ B) → acc.length + l.length * B ≤ sizeLine →
    (∀ s7 s8, e.nx [some (.own 0), s1, s2, s3, s4, s5, some (.own 1), s7, s8] [.ins C [], .dic (endsD (endsL l acc))]) →
    forD (dGTup 2 (dGCons (dName 7) (dGCons (dName 8) dGNil))) (lb_Part_init_1 K x) (pairsD l) e [some (.own 0), s1, s2, s3, s4, s5, some (.own 1), s7, s8] [.ins C [], .dic (endsD acc)]
  | [], acc, s7, s8, _, _, h => h _ _
  | r :: l, acc, s7, s8, hb, hl, h => by
    have h1 := hb r List.mem_cons_self
    have e1 : (l.length + 1) * B = l.length * B + B := Nat.succ_mul _ _
    have hl : acc.length + (l.length + 1) * B ≤ sizeLine := hl
    have h3 := mergeD_len r.2.ends acc
    refine ⟨rfl, ?_, ?_⟩
    · show (endsD acc).length + (endsD r.2.ends).length ≤ sizeLine
      rw [endsD_len, endsD_len]
      omega
    · show forD _ _ (pairsD l) e _ [.ins C [], .dic (mergeD (endsD acc) (endsD r.2.ends))]
      rw [endsD_merge]
      exact pi_loop l _ _ _ (fun q hq => hb q (List.mem_cons_of_mem _ hq)) (by omega) h
def depD : D PO → D PO
  | .tup [_, .obj (.base p)] => .int ((p.dep : Int) + 1)
  | d => d
theorem hs_Part_init (c : Cell PO) (ds : List (D PO)) (q : D PO → Cell PO → Prop) (x : Xd (TT K)) (h : sd_Part_init (K := K) c ds q x) : t_Part_init K x (enO q) (startG N_Part_init (.own 0 :: ds.map .dat)) [c] := by
  match ds, h with
  | [.str tx, .tup tr, .tup ins, .int wt], ⟨C, ps, ec, hi, hw, hl, hc, hh⟩ =>
    subst ec hi
    refine ⟨?_, lcD_map (T := TT K) depD ?_ ?_⟩
    · show (pairsD ps).length ≤ sizeLine
      unfold pairsD
      rw [List.length_map, sizeLine_eq]; omega
    · intro d hd R N r
      obtain ⟨q, _, rfl⟩ := List.mem_map.mp hd
      exact ⟨rfl, r⟩
    · refine onInts_mk (bs := ps.map fun q => (q.2.dep : Int) + 1) ?_ ?_
      · show (pairsD ps).map depD = _
        unfold pairsD
        rw [List.map_map, List.map_map]; rfl
      · dsimp only
        rw [maxI_dep]
        refine Br.of (fun h1 => ?_) (fun h1 => ?_)
        · have h1 := of_decide_eq_true h1
          rw [if_neg (by omega)] at hh
          exact ⟨rfl, hh⟩
        · have h1 := of_decide_eq_false h1
          have h1 : depL ps ≤ 4 := by omega
          rw [if_pos h1] at hh
          refine pi_loop (B := 64 ^ 3) ps [] none none (fun r hr => ends_len 3 r.2 (hw r hr) ?_) ?_ ?_
          · have := dep_mem hr; omega
          · show 0 + ps.length * 64 ^ 3 ≤ sizeLine
            have : ps.length * 64 ^ 3 ≤ 64 * 64 ^ 3 := Nat.mul_le_mul_right _ hl
            rw [sizeLine_eq]
            omega
          · intro s7 s8
            refine ⟨hc "text" (by decide), (by show 0 < 1000; decide), hc "traits" (by decide), (by show 1 < 1000; decide), hc "inside" (by decide), (by show 2 < 1000; decide), hc "ends" (by decide), (by show 3 < 1000; decide), hc "weight" (by decide), (by show 4 < 1000; decide), hc "depth" (by decide), (by show 5 < 1000; decide), hh⟩
/-! ### kinds, bytes, uses -/
def kindOf (a b : D PO) : Pt := match a, b with
  | .str s, .int t => .kind s t.toNat
  | _, _ => .byte
def sdC_Kind : SpN (TT K) := fun ds q x => match ds with
  | [a, b] => askD a = true ∧ askD b = true ∧ if nameD a = true then (if wholeD b 1 8 = true then q (.base (kindOf a b)) else x "BadTimes" [b]) else x "BadName" [a]
  | _ => False
theorem name_D {d : D PO} (h : nameD d = true) : ∃ s, d = .str s ∧ nmS s = true := by
  cases d with
  | str s => exact ⟨s, rfl, h⟩
  | _ => cases h
theorem whole_D {d : D PO} {lo hi : Int} (h : wholeD d lo hi = true) (h0 : 0 ≤ lo) : ∃ n : Nat, d = .int n ∧ lo ≤ n ∧ n ≤ hi := by
  cases d with
  | int i =>
    have h : (decide (lo ≤ i) && decide (i ≤ hi)) = true := h
    rw [Bool.and_eq_true, decide_eq_true_eq, decide_eq_true_eq] at h
    exact ⟨i.toNat, by rw [Int.toNat_of_nonneg (by omega)], by omega, by omega⟩
  | _ => cases h
abbrev mkQ (C : Str) (a : Addr) (q : PO → Prop) : En (TT K) := enO fun d c => d = .non ∧ onIns C c fun fs => ∃ o, (∃ p : Pt, o = .base p ∧ p.cn = C ∧ p.wf = true ∧ fs = p.flds (p.endsA a)) ∧ q o
theorem hs_Kind_init (hc : ∀ f ∈ base6 ++ (["name", "times"] : List Str), ClF K "Kind" f) (a : Addr) (ds : List (D PO)) (q : PO → Prop) (x : Xd (TT K)) (h : sdC_Kind (K := K) ds q x) :
    t_Kind_init K a sd_is_name sd_is_whole sd_Part_init x (mkQ "Kind" a q) (startG N_Kind_init (.own 0 :: ds.map .dat)) [.ins "Kind" []] := by
  match ds, h with
  | [d, e], ⟨hd, he, hh⟩ =>
    refine ⟨hd, Br.of (fun h1 => ?_) (fun h1 => ?_)⟩
    · have h1 : nameD d = false := by simpa using h1
      rw [if_neg (by rw [h1]; exact Bool.false_ne_true)] at hh
      exact ⟨rfl, hh⟩
    · have h1 : nameD d = true := by simpa using h1
      rw [if_pos h1] at hh
      refine ⟨he, Br.of (fun h2 => ?_) (fun h2 => ?_)⟩
      · have h2 : wholeD e 1 8 = false := by simpa using h2
        rw [if_neg (by rw [h2]; exact Bool.false_ne_true)] at hh
        exact ⟨rfl, hh⟩
      · have h2 : wholeD e 1 8 = true := by simpa using h2
        rw [if_pos h2] at hh
        obtain ⟨s, rfl, hs⟩ := name_D h1
        obtain ⟨n, rfl, n1, n2⟩ := whole_D h2 (by decide)
        have hl := nm_len hs
        have hn := num_len (n := n) (by omega)
        have b6 : ∀ f ∈ base6, ClF K "Kind" f := fun f hf => hc f (List.mem_append_left _ hf)
        have small : ∀ z : Str, z.length ≤ 100 → z.length ≤ sizeLine := fun z hz => by rw [sizeLine_eq]; omega
        have l1 : (" " : Str).length = 1 := by decide +kernel
        have hn : (toString (n : Int) : Str).length ≤ 7 := hn
        refine ⟨(by show 2 ≤ sizeLine; decide), (by show 0 ≤ sizeLine; decide), (fun z => nomatch z), ⟨"Kind", [], rfl, rfl, (fun r hr => nomatch hr), Nat.zero_le _, b6, ?_⟩⟩
        refine (if_pos (Nat.zero_le 4)).mpr ?_
        refine ⟨(fun z => nomatch z), small _ (by omega), small _ (by rw [emp_app]; omega), small _ (by rw [emp_app, str_len_app]; omega), log_small (by omega) (by omega), small _ (by omega),
          small _ (by rw [emp_app, str_len_app, str_len_app]; omega), small _ (by rw [emp_app, str_len_app, str_len_app]; omega), rfl, ⟨_, rfl, fun z => nomatch z⟩, rfl, (by show 1 ≤ 15; decide), b6 "ends" (by decide), (by show 6 < 1000; decide),
          hc "name" (by decide), (by show 6 < 1000; decide), hc "times" (by decide), (by show 7 < 1000; decide), rfl, rfl, .base (.kind s n), ⟨.kind s n, rfl, rfl, ?_, ?_⟩, hh⟩
        · simp [Pt.wf, hs]; omega
        · show _ = (Pt.kind s n).flds [(.inr (s ++ (" " ++ intS n)), .ptr a)]
          have key : Str.empty ++ s ++ " " ++ (toString (n : Int) : Str) = s ++ (" " ++ intS n) := by rw [emp_app, str_assoc]; rfl
          rw [← key]
          rfl
def sdC_Byte : SpN (TT K) := fun ds q _ => match ds with
  | [] => q (.base .byte)
  | _ => False
abbrev dfl_Part_2 : List (D PO) := [.tup [], .tup [], .int 1]
abbrev dfl_Part_3 : List (D PO) := [.tup [], .int 1]
def sd_Part_init2 : SpO (TT K) := fun c ds => sd_Part_init c (ds ++ dfl_Part_2)
def sd_Part_init3 : SpO (TT K) := fun c ds => sd_Part_init c (ds ++ dfl_Part_3)
theorem hs_Byte_init (hc : ∀ f ∈ base6, ClF K "Byte" f) (a : Addr) (ds : List (D PO)) (q : PO → Prop) (x : Xd (TT K)) (h : sdC_Byte (K := K) ds q x) :
    t_Byte_init K sd_Part_init2 x (mkQ "Byte" a q) (startG N_Byte_init (.own 0 :: ds.map .dat)) [.ins "Byte" []] := by
  match ds, h with
  | [], hh =>
    refine ⟨(fun z => nomatch z), ⟨"Byte", [], rfl, rfl, (fun r hr => nomatch hr), Nat.zero_le _, hc, ?_⟩⟩
    refine (if_pos (Nat.zero_le 4)).mpr ?_
    exact ⟨(fun z => nomatch z), rfl, rfl, .base .byte, ⟨.byte, rfl, rfl, rfl, rfl⟩, hh⟩
def sdC_Use : SpN (TT K) := fun ds q x => match ds with
  | [a] => askD a = true ∧ if nameD a = true then (match a with
    | .str s => q (.base (.use s))
    | _ => False) else x "BadName" [a]
  | _ => False
theorem hs_Use_init (hc : ∀ f ∈ base6 ++ (["name"] : List Str), ClF K "Use" f) (a : Addr) (ds : List (D PO)) (q : PO → Prop) (x : Xd (TT K)) (h : sdC_Use (K := K) ds q x) :
    t_Use_init K a sd_is_name sd_Part_init3 x (mkQ "Use" a q) (startG N_Use_init (.own 0 :: ds.map .dat)) [.ins "Use" []] := by
  match ds, h with
  | [d], ⟨hd, hh⟩ =>
    refine ⟨hd, Br.of (fun h1 => ?_) (fun h1 => ?_)⟩
    · have h1 : nameD d = false := by simpa using h1
      rw [if_neg (by rw [h1]; exact Bool.false_ne_true)] at hh
      exact ⟨rfl, hh⟩
    · have h1 : nameD d = true := by simpa using h1
      rw [if_pos h1] at hh
      obtain ⟨s, rfl, hs⟩ := name_D h1
      have hl := nm_len hs
      have b6 : ∀ f ∈ base6, ClF K "Use" f := fun f hf => hc f (List.mem_append_left _ hf)
      have small : ∀ z : Str, z.length ≤ 100 → z.length ≤ sizeLine := fun z hz => by rw [sizeLine_eq]; omega
      have l1 : ("@" : Str).length = 1 := by decide +kernel
      refine ⟨small _ (by rw [emp_app]; omega), small _ (by omega), small _ (by rw [emp_app, str_len_app]; omega), small _ (by rw [emp_app, str_len_app]; omega), (by show 1 ≤ sizeLine; decide), (fun z => nomatch z), ⟨"Use", [], rfl, rfl, (fun r hr => nomatch hr), Nat.zero_le _, b6, ?_⟩⟩
      refine (if_pos (Nat.zero_le 4)).mpr ?_
      refine ⟨(fun z => nomatch z), b6 "text" (by decide), ⟨rfl, ⟨_, rfl, fun z => nomatch z⟩, rfl, (by show 1 ≤ 15; decide), b6 "ends" (by decide), (by show 6 < 1000; decide),
          hc "name" (by decide), (by show 6 < 1000; decide), rfl, rfl, .base (.use s), ⟨.use s, rfl, rfl, hs, ?_⟩, hh⟩⟩
      show _ = (Pt.use s).flds [(.inr ("@" ++ s), .ptr a)]
      have key : Str.empty ++ "@" ++ s = "@" ++ s := by rw [emp_app]
      have e : (Pt.use s).tx = Str.empty ++ "@" ++ s := key.symm
      unfold Pt.flds
      rw [e, ← key]
      rfl
/-! ### rows -/
def sdC_Row : SpN (TT K) := fun ds q x => match ds with
  | [a, b] => askD a = true ∧ askD b = true ∧ if isPartD a = true then (if wholeD b 1 64 = true then (match a, b with
      | .obj (.base p), .int n => p.wf = true ∧ if p.dep + 1 ≤ 4 then q (.base (.row p n.toNat)) else x "TooLarge" [.str "depth", .int 4]
      | _, _ => False) else x "BadTimes" [b]) else x "BadParts" [.int 0]
  | _ => False
theorem part_D {d : D PO} (h : isPartD d = true) : ∃ p, d = pD p := by
  cases d with
  | obj o => cases o with
    | base p => exact ⟨p, rfl⟩
    | _ => cases h
  | _ => cases h
def rowF (p : Pt) : D PO → D PO
  | .int k => .tup [.str (intS k), pD p]
  | d => d
theorem row_map (p : Pt) (n : Nat) : (rangeD (O := PO) 0 n).map (rowF p) = pairsD (rowL p n) := by
  unfold rangeD rowL pairsD
  rw [List.map_map, List.map_map, show ((n : Int) - 0).toNat = n by omega]
  refine List.map_congr_left fun k _ => ?_
  show D.tup [.str (intS (0 + (k : Int))), pD p] = _
  rw [Int.zero_add]
  rfl
theorem hs_Row_init (hc : ∀ f ∈ base6 ++ (["part", "n"] : List Str), ClF K "Row" f) (a : Addr) (ds : List (D PO)) (q : PO → Prop) (x : Xd (TT K)) (h : sdC_Row (K := K) ds q x) :
    t_Row_init K sd_is_part sd_is_whole sd_Part_init x (mkQ "Row" a q) (startG N_Row_init (.own 0 :: ds.map .dat)) [.ins "Row" []] := by
  match ds, h with
  | [d, e], ⟨hd, he, hh⟩ =>
    refine ⟨hd, Br.of (fun h1 => ?_) (fun h1 => ?_)⟩
    · have h1 : isPartD d = false := by simpa using h1
      rw [if_neg (by rw [h1]; exact Bool.false_ne_true)] at hh
      exact ⟨rfl, hh⟩
    · have h1 : isPartD d = true := by simpa using h1
      rw [if_pos h1] at hh
      refine ⟨he, Br.of (fun h2 => ?_) (fun h2 => ?_)⟩
      · have h2 : wholeD e 1 64 = false := by simpa using h2
        rw [if_neg (by rw [h2]; exact Bool.false_ne_true)] at hh
        exact ⟨rfl, hh⟩
      · have h2 : wholeD e 1 64 = true := by simpa using h2
        rw [if_pos h2] at hh
        obtain ⟨p, rfl⟩ := part_D h1
        obtain ⟨n, rfl, n1, n2⟩ := whole_D h2 (by decide)
        have hh : p.wf = true ∧ if p.dep + 1 ≤ 4 then q (.base (.row p n)) else x "TooLarge" [.str "depth", .int 4] := hh
        obtain ⟨hw, hh⟩ := hh
        have hn := num_len (n := n) (by omega)
        have ht := tx_short hw
        have b6 : ∀ f ∈ base6, ClF K "Row" f := fun f hf => hc f (List.mem_append_left _ hf)
        have small : ∀ z : Str, z.length ≤ 1000000 → z.length ≤ sizeLine := fun z hz => by rw [sizeLine_eq]; omega
        have l1 : ("*" : Str).length = 1 := by decide +kernel
        have hn : (toString (n : Int) : Str).length ≤ 7 := hn
        refine ⟨log_small (by omega) (by omega), small _ (by omega), small _ (by rw [emp_app]; omega), small _ (by rw [emp_app, str_len_app]; omega), small _ (by omega), small _ (by rw [emp_app, str_len_app, str_len_app]; omega), small _ (by rw [emp_app, str_len_app, str_len_app]; omega),
          (by show 2 ≤ sizeLine; decide), ⟨by omega, by omega⟩, ?_, lcD_map (T := TT K) (rowF p) ?_ ?_⟩
        · show (rangeD (O := PO) 0 n).length ≤ sizeLine
          unfold rangeD
          rw [List.length_map, List.length_range, sizeLine_eq]; omega
        · intro d hd R N r
          obtain ⟨k, hk, rfl⟩ := List.mem_map.mp hd
          have hk := List.mem_range.mp hk
          have hk : k < n := by omega
          have := num_len (n := k) (by omega)
          have e0 : (0 : Int) + (k : Int) = ((k : Nat) : Int) := Int.zero_add _
          refine ⟨log_small (by omega) (by omega), small _ ?_, (by show 2 ≤ sizeLine; decide), r⟩
          rw [e0]
          exact Nat.le_trans this (by decide)
        · dsimp only
          rw [List.nil_append, row_map]
          have hr := depL_row p (n := n) (by omega)
          refine ⟨.inl ⟨by omega, by omega⟩, (fun z => nomatch z), ⟨"Row", rowL p n, rfl, rfl, (fun r hr => ?_), ?_, b6, ?_⟩⟩
          · obtain ⟨k, _, rfl⟩ := List.mem_map.mp hr
            exact hw
          · rw [rowL_len]; omega
          · rw [hr]
            by_cases h4 : p.dep + 1 ≤ 4
            · rw [if_pos h4] at hh
              refine (if_pos h4).mpr ?_
              refine ⟨(fun z => nomatch z), hc "part" (by decide), (by show 6 < 1000; decide), hc "n" (by decide), (by show 7 < 1000; decide), rfl, rfl, .base (.row p n), ⟨.row p n, rfl, rfl, ?_, ?_⟩, hh⟩
              · simp [Pt.wf, hw]; omega
              · have key : Str.empty ++ (toString (n : Int) : Str) ++ "*" ++ p.tx = (Pt.row p n).tx := by rw [emp_app, str_assoc]; rfl
                have ew : ((n : Int) * (p.wt : Int)) = ((Pt.row p n).wt : Int) := by show _ = ((n * p.wt : Nat) : Int); rw [Int.natCast_mul]
                show _ = (Pt.row p n).flds (endsD (Pt.row p n).ends)
                unfold Pt.flds
                rw [← key, ← ew, row_ends, Pt.inside_eq]
                rfl
            · rw [if_neg h4] at hh
              exact (if_neg h4).mpr hh
end
end H1
set_option Elab.async false
set_option linter.all false
set_option maxRecDepth 100000
set_option maxHeartbeats 2000000
/-! Records and overlays made. -/
namespace H1
open PySem PySem.Spec PyProof.Rows L2 Ev Dl
theorem pairsD_ask (l : List Pr) : ∀ y ∈ pairsD l, askI y := fun y hy => by
  obtain ⟨r, _, rfl⟩ := List.mem_map.mp hy
  exact ⟨rfl, fun a b e => by cases e; exact ⟨rfl, rfl⟩⟩
theorem firstBad_pairs : ∀ (l : List Pr) (i : Nat) (seen : List Str), (∀ r ∈ l, nmS r.1 = true) → seen.Nodup → (firstBadD i seen (pairsD l) = none ↔ (seen ++ l.map (·.1)).Nodup)
  | [], i, seen, _, h => by
    show none = none ↔ _
    simp [h]
  | r :: l, i, seen, hn, h => by
    have h1 := hn r List.mem_cons_self
    have pd : pairD (.tup [.str r.1, pD r.2]) = true := by show (nmS r.1 && true) = true; rw [h1]; rfl
    show (if pairD (.tup [.str r.1, pD r.2]) = true then (if r.1 ∈ seen then some i else firstBadD (i + 1) (seen ++ [r.1]) (pairsD l)) else some i) = none ↔ _
    rw [if_pos pd]
    by_cases m : r.1 ∈ seen
    · rw [if_pos m]
      refine ⟨(fun z => nomatch z), fun z => ?_⟩
      rw [List.map_cons, List.nodup_append] at z
      exact absurd rfl (z.2.2 r.1 m r.1 List.mem_cons_self)
    · rw [if_neg m]
      have nd : (seen ++ [r.1]).Nodup := List.nodup_append.mpr ⟨h, by simp, fun a ha b hb z => by rw [List.mem_singleton] at hb; subst hb; subst z; exact m ha⟩
      rw [firstBad_pairs l (i + 1) (seen ++ [r.1]) (fun q hq => hn q (List.mem_cons_of_mem _ hq)) nd, List.map_cons, List.append_assoc]
      rfl
section
variable {K : PySem.W.Frag}
def sdC_Grp (ov : Bool) : SpN (TT K) := fun ds q x => match ds with
  | [d] => askD d = true ∧ match itemsOf d with
    | some xs => if 1 ≤ xs.length ∧ (xs.length : Int) ≤ (if ov then 4 else 8) then (∀ y ∈ xs, askI y) ∧ (match firstBadD 0 [] xs with
        | some i => x "BadParts" [.int i]
        | none => ∃ ps : Pts, xs = ps.pairs ∧ ps.wf = true ∧ if ps.dep ≤ 4 then q (.base (.grp ov ps)) else x "TooLarge" [.str "depth", .int 4]) else x "BadParts" [.non]
    | none => x "BadParts" [.non]
  | _ => False
abbrev sdC_Record : SpN (TT K) := sdC_Grp false
abbrev sdC_Overlay : SpN (TT K) := sdC_Grp true
def txF : D PO → D PO
  | .tup [.str s, .obj (.base p)] => .str (Str.empty ++ s ++ ":" ++ p.tx)
  | d => d
def wtF : D PO → D PO
  | .tup [_, .obj (.base p)] => .int ((p.wt : Int) + 1)
  | d => d
def wmF : D PO → D PO
  | .tup [_, .obj (.base p)] => .int (p.wt : Int)
  | d => d
theorem tx_map (ps : Pts) : ps.pairs.map txF = ps.txs.map .str := by
  rw [ps.pairs_eq, ps.txs_eq]
  unfold pairsD
  rw [List.map_map, List.map_map]
  refine List.map_congr_left fun r _ => ?_
  show D.str (Str.empty ++ r.1 ++ ":" ++ r.2.tx) = .str (r.1 ++ (":" ++ r.2.tx))
  rw [emp_app, str_assoc]
theorem wt_map (ps : Pts) : ps.pairs.map wtF = (ps.list.map fun q => (q.2.wt : Int) + 1).map .int := by
  rw [ps.pairs_eq]
  unfold pairsD
  rw [List.map_map, List.map_map]
  rfl
theorem wm_map (ps : Pts) : ps.pairs.map wmF = (ps.list.map fun q => (q.2.wt : Int)).map .int := by
  rw [ps.pairs_eq]
  unfold pairsD
  rw [List.map_map, List.map_map]
  rfl
/-- what is asked of a list of pairs, told of the checked ones -/
theorem grp_go {ov : Bool} {d : D PO} {q : PO → Prop} {x : Xd (TT K)} {k : D PO → Prop} {m : Int} (hm : m = if ov then 4 else 8) (h : sdC_Grp (K := K) ov [d] q x)
    (hk : ∀ ps : Pts, ps.wf = true → 1 ≤ ps.len → (ps.len ≤ if ov then 4 else 8) → ps.nms.Nodup → (if ps.dep ≤ 4 then q (.base (.grp ov ps)) else x "TooLarge" [.str "depth", .int 4]) → k (.tup ps.pairs)) : sd_checked_pairs [d, .int m] k x := by
  obtain ⟨ha, h⟩ := h
  subst hm
  refine ⟨ha, by cases ov <;> decide, ?_⟩
  cases e : itemsOf d with
  | none => rw [e] at h; exact h
  | some xs =>
    rw [e] at h
    dsimp only at h ⊢
    by_cases c : 1 ≤ xs.length ∧ (xs.length : Int) ≤ (if ov then 4 else 8)
    · rw [if_pos c] at h
      rw [if_pos c]
      refine ⟨h.1, ?_⟩
      have h2 := h.2
      cases e2 : firstBadD 0 [] xs with
      | some i => rw [e2] at h2; exact h2
      | none =>
        rw [e2] at h2
        obtain ⟨ps, rfl, hw, hq⟩ := h2
        have hl : ps.pairs.length = ps.len := by rw [ps.pairs_eq, ps.len_eq]; exact List.length_map _
        have hn : ∀ r ∈ ps.list, nmS r.1 = true := fun r hr => by
          rw [Pts.wf_eq, List.all_eq_true] at hw
          have := hw r hr
          rw [Bool.and_eq_true] at this
          exact this.1
        refine hk ps hw (by rw [← hl]; exact c.1) ?_ ?_ hq
        · have := c.2
          rw [hl] at this
          cases ov
          · have : (ps.len : Int) ≤ 8 := this
            show ps.len ≤ 8
            omega
          · have : (ps.len : Int) ≤ 4 := this
            show ps.len ≤ 4
            omega
        · rw [ps.pairs_eq] at e2
          have := (firstBad_pairs ps.list 0 [] hn (by simp)).mp e2
          rw [ps.nms_eq]
          exact this
    · rw [if_neg c] at h
      rw [if_neg c]
      exact h
theorem mem_pairs {ps : Pts} {d : D PO} (h : d ∈ ps.pairs) : ∃ r ∈ ps.list, d = .tup [.str r.1, pD r.2] := by
  rw [ps.pairs_eq] at h
  obtain ⟨r, hr, rfl⟩ := List.mem_map.mp h
  exact ⟨r, hr, rfl⟩
theorem wf_list {ps : Pts} (h : ps.wf = true) : ∀ r ∈ ps.list, nmS r.1 = true ∧ r.2.wf = true := fun r hr => by
  rw [Pts.wf_eq, List.all_eq_true] at h
  have := h r hr
  rw [Bool.and_eq_true] at this
  exact this
theorem txs_tot {ps : Pts} (h : ps.wf = true) (h8 : ps.len ≤ 8) : (ps.txs.map (·.length)).sum ≤ 800000 := by
  have d5 : ps.dep ≤ 5 := by rw [ps.dep_eq]; exact depL_le fun r hr => Pt.dep4 (wf_list h r hr).2
  have := ps.txs_sum h 4 d5
  have m : ps.len * (Bd 4 + 9) ≤ 8 * (Bd 4 + 9) := Nat.mul_le_mul_right _ h8
  have : 8 * (Bd 4 + 9) ≤ 800000 := by decide +kernel
  omega
theorem small_ {z : Str} (h : z.length ≤ 1000000) : z.length ≤ sizeLine := by rw [sizeLine_eq]; omega
theorem item_small {r : Pr} (h : nmS r.1 = true ∧ r.2.wf = true) : r.1.length ≤ sizeLine ∧ (Str.empty ++ r.1).length ≤ sizeLine ∧ (Str.empty ++ r.1 ++ ":").length ≤ sizeLine ∧ r.2.tx.length ≤ sizeLine ∧ (Str.empty ++ r.1 ++ ":" ++ r.2.tx).length ≤ sizeLine := by
  have h1 := (nm_len h.1).2
  have h2 := tx_short h.2
  have l1 : (":" : Str).length = 1 := by decide +kernel
  refine ⟨small_ (by omega), small_ ?_, small_ ?_, small_ (by omega), small_ ?_⟩
  · rw [emp_app]; omega
  · rw [emp_app, str_len_app]; omega
  · rw [emp_app, str_len_app, str_len_app]; omega
theorem pairs_len (ps : Pts) : ps.pairs.length = ps.len := by rw [ps.pairs_eq, ps.len_eq]; exact List.length_map _
theorem seqCall {K : PySem.W.Frag} {T : Th K} {sd : SpP T} {xd : Xd T} {u : TDS T} {E : En T} {g : Dl.G T} {cs : Cs T} {a b : D T.O} (ha : g[1]? = some (some (.dat a))) (h : sd [a, b] (fun e => u E (g.set 2 (some (.dat e))) cs) xd) :
    dSeq (dSet 2 (dCallP sd xd (dCons (dVar T 1) (dCons (dC T b) dNil)))) u E g cs := by
  show dVar T 1 g cs _
  unfold dVar
  rw [ha]
  exact h
theorem hs_Record_init (hc : ∀ f ∈ base6 ++ (["fields"] : List Str), ClF K "Record" f) (a : Addr) (ds : List (D PO)) (q : PO → Prop) (x : Xd (TT K)) (h : sdC_Record (K := K) ds q x) :
    t_Record_init K sd_checked_pairs sd_Part_init x (mkQ "Record" a q) (startG N_Record_init (.own 0 :: ds.map .dat)) [.ins "Record" []] := by
  match ds, h with
  | [d], hh =>
    refine seqCall rfl (grp_go (m := 8) rfl hh fun ps hw h1 h8 hnd hq => ?_)
    have h8 : ps.len ≤ 8 := h8
    have b6 : ∀ f ∈ base6, ClF K "Record" f := fun f hf => hc f (List.mem_append_left _ hf)
    have len := pairs_len ps
    have tot := txs_tot hw h8
    have jl := join_len " " ps.txs
    have l1 : (" " : Str).length = 1 := by decide +kernel
    have l2 : ("{" : Str).length = 1 := by decide +kernel
    have l3 : ("}" : Str).length = 1 := by decide +kernel
    have l0 : ("" : Str).length = 0 := by decide +kernel
    have tl := ps.txs_len
    rw [l1, tl] at jl
    refine ⟨by show ps.pairs.length ≤ sizeLine; rw [len, sizeLine_eq]; omega, lcD_map (T := TT K) txF (fun d hd R N r => ?_) (onStrs_mk (bs := ps.txs) (tx_map ps) ⟨?_, small_ (by omega), ?_⟩)⟩
    · obtain ⟨r0, hr, rfl⟩ := mem_pairs hd
      obtain ⟨i1, i2, i3, i4, i5⟩ := item_small (wf_list hw r0 hr)
      exact ⟨rfl, i1, i2, i3, i4, i5, i5, r⟩
    · rw [l1, tl]; omega
    · refine ⟨by show ps.pairs.length ≤ sizeLine; rw [len, sizeLine_eq]; omega, lcD_map (T := TT K) wtF (fun d hd R N r => ?_) (onInts_mk (wt_map ps) ?_)⟩
      · obtain ⟨r0, hr, rfl⟩ := mem_pairs hd
        exact ⟨rfl, r⟩
      · dsimp only
        rw [← ps.wtS_eq]
        have j3 := join3 "{" (Txt.join " " ps.txs) "}"
        have w3 : ("{" ++ (Txt.join " " ps.txs ++ "}") : Str).length ≤ 1000000 := by rw [str_len_app, str_len_app, l2, l3]; omega
        refine ⟨(by show 3 ≤ sizeLine; decide), ?_, ?_, (fun z => nomatch z), ⟨"Record", ps.list, rfl, ps.pairs_eq, (fun r hr => (wf_list hw r hr).2), ?_, b6, ?_⟩⟩
        · show ("{" : Str).length + ((Txt.join " " ps.txs).length + (("}" : Str).length + 0)) + 3 * ("" : Str).length ≤ 16777216
          rw [l0, l2, l3]; omega
        · exact small_ (by rw [j3]; exact w3)
        · rw [← ps.len_eq]; omega
        · rw [← ps.dep_eq]
          by_cases h4 : ps.dep ≤ 4
          · rw [if_pos h4] at hq
            refine (if_pos h4).mpr ?_
            refine ⟨(fun z => nomatch z), hc "fields" (by decide), (by show 6 < 1000; decide), rfl, rfl, .base (.grp false ps), ⟨.grp false ps, rfl, rfl, ?_, ?_⟩, hq⟩
            · simp [Pt.wf, hw, hnd]; omega
            · show _ = (Pt.grp false ps).flds (endsD (Pt.grp false ps).ends)
              have ee : (Pt.grp false ps).ends = endsL ps.list [] := ps.ends_eq []
              have et : (Pt.grp false ps).tx = Txt.join "" ["{", Txt.join " " ps.txs, "}"] := j3.symm
              unfold Pt.flds
              rw [et, ee]
              show _ = (("text" : Str), D.str _) :: (("traits" : Str), .tup ps.pairs) :: (("inside" : Str), .tup ps.pairs) :: _ :: _ :: _ :: [(("fields" : Str), D.tup ps.pairs)]
              rw [ps.pairs_eq]
              rfl
          · rw [if_neg h4] at hq
            exact (if_neg h4).mpr hq
theorem hs_Overlay_init (hc : ∀ f ∈ base6 ++ (["members"] : List Str), ClF K "Overlay" f) (a : Addr) (ds : List (D PO)) (q : PO → Prop) (x : Xd (TT K)) (h : sdC_Overlay (K := K) ds q x) :
    t_Overlay_init K sd_checked_pairs sd_Part_init x (mkQ "Overlay" a q) (startG N_Overlay_init (.own 0 :: ds.map .dat)) [.ins "Overlay" []] := by
  match ds, h with
  | [d], hh =>
    refine seqCall rfl (grp_go (m := 4) rfl hh fun ps hw h1 h4 hnd hq => ?_)
    have h4 : ps.len ≤ 4 := h4
    have h8 : ps.len ≤ 8 := by omega
    have b6 : ∀ f ∈ base6, ClF K "Overlay" f := fun f hf => hc f (List.mem_append_left _ hf)
    have len := pairs_len ps
    have tot := txs_tot hw h8
    have jl := join_len "|" ps.txs
    have l1 : ("|" : Str).length = 1 := by decide +kernel
    have l2 : ("(" : Str).length = 1 := by decide +kernel
    have l3 : (")" : Str).length = 1 := by decide +kernel
    have tl := ps.txs_len
    rw [l1, tl] at jl
    refine ⟨by show ps.pairs.length ≤ sizeLine; rw [len, sizeLine_eq]; omega, lcD_map (T := TT K) txF (fun d hd R N r => ?_) (onStrs_mk (bs := ps.txs) (tx_map ps) ⟨?_, small_ (by omega), ?_⟩)⟩
    · obtain ⟨r0, hr, rfl⟩ := mem_pairs hd
      obtain ⟨i1, i2, i3, i4, i5⟩ := item_small (wf_list hw r0 hr)
      exact ⟨rfl, i1, i2, i3, i4, i5, i5, r⟩
    · rw [l1, tl]; omega
    · obtain ⟨mn, mr, em, ew⟩ : ∃ (n : Int) (r : List Int), (ps.list.map fun q => (q.2.wt : Int)) = n :: r ∧ r.foldl max n = ((ps.wtM : Nat) : Int) := by
        cases ps with
        | nil => exact absurd h1 (by decide)
        | cons s0 p0 ps0 => exact ⟨_, _, rfl, ps0.wtM_eq p0.wt⟩
      refine ⟨by show ps.pairs.length ≤ sizeLine; rw [len, sizeLine_eq]; omega, lcD_map (T := TT K) wmF (fun d hd R N r => ?_) (onInts_mk (bs := mn :: mr) (by rw [List.nil_append, wm_map, em]) ?_)⟩
      · obtain ⟨r0, hr, rfl⟩ := mem_pairs hd
        exact ⟨rfl, r⟩
      · dsimp only
        rw [ew]
        have w3 : ("(" ++ (Txt.join "|" ps.txs ++ ")") : Str).length ≤ 1000000 := by rw [str_len_app, str_len_app, l2, l3]; omega
        have j3 : Str.empty ++ "(" ++ Txt.join "|" ps.txs ++ ")" = "(" ++ (Txt.join "|" ps.txs ++ ")") := by rw [emp_app, str_assoc]
        refine ⟨small_ (by rw [emp_app, l2]; decide), small_ (by omega), small_ (by rw [emp_app, str_len_app, l2]; omega), small_ (by rw [j3]; exact w3), small_ (by rw [j3]; exact w3), (fun z => nomatch z), ⟨"Overlay", ps.list, rfl, ps.pairs_eq, (fun r hr => (wf_list hw r hr).2), ?_, b6, ?_⟩⟩
        · rw [← ps.len_eq]; omega
        · rw [← ps.dep_eq]
          by_cases h4' : ps.dep ≤ 4
          · rw [if_pos h4'] at hq
            refine (if_pos h4').mpr ?_
            refine ⟨(fun z => nomatch z), hc "members" (by decide), (by show 6 < 1000; decide), rfl, rfl, .base (.grp true ps), ⟨.grp true ps, rfl, rfl, ?_, ?_⟩, hq⟩
            · simp [Pt.wf, hw, hnd]; omega
            · show _ = (Pt.grp true ps).flds (endsD (Pt.grp true ps).ends)
              have ee : (Pt.grp true ps).ends = endsL ps.list [] := ps.ends_eq []
              have et : (Pt.grp true ps).tx = Str.empty ++ "(" ++ Txt.join "|" ps.txs ++ ")" := j3.symm
              unfold Pt.flds
              rw [et, ee]
              show _ = (("text" : Str), D.str _) :: (("traits" : Str), .tup ps.pairs) :: (("inside" : Str), .tup ps.pairs) :: _ :: _ :: _ :: [(("members" : Str), D.tup ps.pairs)]
              rw [ps.pairs_eq]
              rfl
          · rw [if_neg h4'] at hq
            exact (if_neg h4').mpr hq
end
end H1
set_option Elab.async false
set_option linter.all false
set_option maxRecDepth 100000
set_option maxHeartbeats 2000000
/-! Parts put; what is got; texts; ==. -/
namespace H1
open PySem PySem.Spec PyProof.Rows L2 Ev Dl
theorem of_len (l : List Pr) : (Pts.of l).len = l.length := by rw [Pts.len_eq, Pts.list_of]
theorem of_nms (l : List Pr) : (Pts.of l).nms = l.map (·.1) := by rw [Pts.nms_eq, Pts.list_of]
theorem of_dep (l : List Pr) : (Pts.of l).dep = depL l := by rw [Pts.dep_eq, Pts.list_of]
theorem of_pairs (l : List Pr) : (Pts.of l).pairs = pairsD l := by rw [Pts.pairs_eq, Pts.list_of]
theorem of_wf (l : List Pr) : (Pts.of l).wf = l.all fun q => nmS q.1 && q.2.wf := by rw [Pts.wf_eq, Pts.list_of]
section
variable {K : PySem.W.Frag}
theorem mk_grp {ov : Bool} {ps : Pts} {q : PO → Prop} {x : Xd (TT K)} {d : D PO} (hw : ps.wf = true) (h1 : 1 ≤ ps.len) (h2 : ps.len ≤ if ov then 4 else 8) (nd : ps.nms.Nodup) (hd : itemsOf d = some ps.pairs) (ha : askD d = true)
    (h : if ps.dep ≤ 4 then q (.base (.grp ov ps)) else x "TooLarge" [.str "depth", .int 4]) : sdC_Grp (K := K) ov [d] q x := by
  refine ⟨ha, ?_⟩
  rw [hd]
  show if 1 ≤ ps.pairs.length ∧ (ps.pairs.length : Int) ≤ (if ov then 4 else 8) then (∀ y ∈ ps.pairs, askI y) ∧ _ else _
  rw [if_pos ⟨by rw [pairs_len]; exact h1, by rw [pairs_len]; cases ov <;> simp at h2 ⊢ <;> omega⟩]
  refine ⟨by rw [ps.pairs_eq]; exact pairsD_ask _, ?_⟩
  have e : firstBadD 0 [] ps.pairs = none := by
    rw [ps.pairs_eq]
    exact (firstBad_pairs ps.list 0 [] (fun r hr => (wf_list hw r hr).1) (by simp)).mpr (by rw [List.nil_append, ← ps.nms_eq]; exact nd)
  rw [e]
  exact ⟨ps, rfl, hw, h⟩
end
end H1
set_option Elab.async false
set_option linter.all false
set_option maxRecDepth 100000
set_option maxHeartbeats 2000000
/-! What is got, put, written, compared. -/
namespace H1
open PySem PySem.Spec PyProof.Rows L2 Ev Dl
section
variable {K : PySem.W.Frag}
/-! ### parts by paths -/
/-! ### texts -/
def sdM_str : SpP (TT K) := fun ds q _ => match ds with
  | [.obj (.base p)] => q (.str p.tx)
  | _ => False
theorem hs_Kind_str (ds : List (D PO)) (q : D PO → Prop) (x : Xd (TT K)) (h : sdM_str (K := K) ds q x) : t_Kind_str K x (enP q) (startG N_Kind_str (ds.map .dat)) [] := by
  match ds, h with
  | [.obj (.base p)], h => exact h
theorem hs_Byte_str (ds : List (D PO)) (q : D PO → Prop) (x : Xd (TT K)) (h : sdM_str (K := K) ds q x) : t_Byte_str K x (enP q) (startG N_Byte_str (ds.map .dat)) [] := by
  match ds, h with
  | [.obj (.base p)], h => exact h
theorem hs_Use_str (ds : List (D PO)) (q : D PO → Prop) (x : Xd (TT K)) (h : sdM_str (K := K) ds q x) : t_Use_str K x (enP q) (startG N_Use_str (ds.map .dat)) [] := by
  match ds, h with
  | [.obj (.base p)], h => exact h
theorem hs_Row_str (ds : List (D PO)) (q : D PO → Prop) (x : Xd (TT K)) (h : sdM_str (K := K) ds q x) : t_Row_str K x (enP q) (startG N_Row_str (ds.map .dat)) [] := by
  match ds, h with
  | [.obj (.base p)], h => exact h
theorem hs_Record_str (ds : List (D PO)) (q : D PO → Prop) (x : Xd (TT K)) (h : sdM_str (K := K) ds q x) : t_Record_str K x (enP q) (startG N_Record_str (ds.map .dat)) [] := by
  match ds, h with
  | [.obj (.base p)], h => exact h
theorem hs_Overlay_str (ds : List (D PO)) (q : D PO → Prop) (x : Xd (TT K)) (h : sdM_str (K := K) ds q x) : t_Overlay_str K x (enP q) (startG N_Overlay_str (ds.map .dat)) [] := by
  match ds, h with
  | [.obj (.base p)], h => exact h
/-! ### == -/
/-- the comparison of parts less deep than d -/
def oeD (d : Nat) : PO → PO → Option Bool
  | .base a, .base b => if a.dep < d then some (eqPt a b) else none
  | _, _ => none
theorem eqP_dep {d : Nat} {a b : Pt} (h : a.dep < d) : oeD d (.base a) (.base b) = some (eqPt a b) := if_pos h
abbrev T0 : Th K := TT K
theorem eqsl_pairs (d : Nat) : ∀ ps qs : Pts, ps.dep ≤ d → EqSL (T := TT K) (oeD d) 1 ps.pairs qs.pairs (eqPs ps qs)
  | .nil, .nil, _ => .nil
  | .nil, .cons _ _ _, _ => .nilL
  | .cons _ _ _, .nil, _ => .nilR
  | .cons s p r, .cons s' p' r', h => by
    have h : max (p.dep + 1) r.dep ≤ d := h
    have e1 : eqPs (.cons s p r) (.cons s' p' r') = ((s == s') && (eqPt p p' && eqPs r r')) := by rw [eqPs]
    rw [e1]
    have one : EqS (T := TT K) (oeD d) 1 (.tup [.str s, pD p]) (.tup [.str s', pD p']) ((s == s') && eqPt p p') := by
      refine .tup ?_
      have fs : EqS (T := TT K) (oeD d) 0 (.str s) (.str s') (s == s') := .flat rfl rfl
      have fp : EqS (T := TT K) (oeD d) 0 (pD p) (pD p') (eqPt p p') := .obj (eqP_dep (by omega))
      cases hs : s == s' with
      | false => rw [hs] at fs; exact .no fs
      | true =>
        rw [hs] at fs
        refine .yes fs ?_
        rw [Bool.true_and]
        cases hp : eqPt p p' with
        | false => rw [hp] at fp; exact .no fp
        | true => rw [hp] at fp; exact .yes fp .nil
    rw [← Bool.and_assoc]
    cases hb : (s == s') && eqPt p p' with
    | false => rw [hb] at one; exact .no one
    | true => rw [hb] at one; rw [Bool.true_and]; exact .yes one (eqsl_pairs d r r' (by omega))
theorem eqsl_two (d : Nat) {x y x' y' : D PO} {a b : Bool} (h1 : EqS (T := TT K) (oeD d) 1 x x' a) (h2 : EqS (T := TT K) (oeD d) 1 y y' b) : EqSL (T := TT K) (oeD d) 1 [x, y] [x', y'] (a && b) := by
  cases a with
  | false => exact .no h1
  | true =>
    refine .yes h1 ?_
    cases b with
    | false => exact .no h2
    | true => exact .yes h2 .nil
theorem int_nat (a b : Nat) : eqFD (O := PO) (.int a) (.int b) = (a == b) := by
  show ((a : Int) == (b : Int)) = (a == b)
  by_cases h : a = b
  · subst h; rw [beq_self_eq_true, beq_self_eq_true]
  · have : ¬ (a : Int) = (b : Int) := by omega
    rw [beq_false_of_ne h, beq_false_of_ne this]
def tagP : Pt → Nat
  | .byte => 0
  | .kind _ _ => 1
  | .use _ => 2
  | .row _ _ => 3
  | .grp false _ => 4
  | .grp true _ => 5
def nmT (i : Nat) : Str := (["Byte", "Kind", "Use", "Row", "Record", "Overlay"] : List Str).getD i ""
theorem cn_tag (p : Pt) : p.cn = nmT (tagP p) ∧ tagP p < 6 := by
  cases p with
  | byte => exact ⟨rfl, (by show 0 < 6; decide)⟩
  | kind s t => exact ⟨rfl, (by show 1 < 6; decide)⟩
  | use s => exact ⟨rfl, (by show 2 < 6; decide)⟩
  | row p n => exact ⟨rfl, (by show 3 < 6; decide)⟩
  | grp ov ps =>
    cases ov
    · exact ⟨rfl, (by show 4 < 6; decide)⟩
    · exact ⟨rfl, (by show 5 < 6; decide)⟩
theorem nmT_inj : ∀ i < 6, ∀ j < 6, nmT i = nmT j → i = j := by decide
theorem tag_of {p q : Pt} (h : p.cn = q.cn) : tagP p = tagP q := nmT_inj _ (cn_tag p).2 _ (cn_tag q).2 (by rw [← (cn_tag p).1, ← (cn_tag q).1, h])
/-- traits of parts of one class -/
theorem eqsl_traits (d : Nat) (p q : Pt) (hc : p.cn = q.cn) (h : p.dep < d + 1) : EqSL (T := TT K) (oeD d) 1 p.traits q.traits (eqPt p q) := by
  have ht := tag_of hc
  cases p with
  | byte =>
    cases q with
    | byte => exact .nil
    | grp ov ps => cases ov <;> simp [tagP] at ht
    | _ => simp [tagP] at ht
  | kind s t =>
    cases q with
    | kind s' t' =>
      rw [show eqPt (.kind s t) (.kind s' t') = ((s == s') && (t == t')) by rw [eqPt]]
      have h2 : EqS (T := TT K) (oeD d) 1 (.int t) (.int t') (t == t') := by rw [← int_nat]; exact .flat rfl rfl
      exact eqsl_two d (.flat rfl rfl) h2
    | grp ov ps => cases ov <;> simp [tagP] at ht
    | _ => simp [tagP] at ht
  | use s =>
    cases q with
    | use s' =>
      rw [show eqPt (.use s) (.use s') = (s == s') by rw [eqPt]]
      have h1 : EqS (T := TT K) (oeD d) 1 (.str s) (.str s') (s == s') := .flat rfl rfl
      show EqSL (T := TT K) (oeD d) 1 [.str s] [.str s'] _
      cases e : s == s' with
      | false => rw [e] at h1; exact .no h1
      | true => rw [e] at h1; exact .yes h1 .nil
    | grp ov ps => cases ov <;> simp [tagP] at ht
    | _ => simp [tagP] at ht
  | row p n =>
    cases q with
    | row p' n' =>
      rw [show eqPt (.row p n) (.row p' n') = (eqPt p p' && (n == n')) by rw [eqPt]]
      have h : p.dep + 1 < d + 1 := h
      have h2 : EqS (T := TT K) (oeD d) 1 (.int n) (.int n') (n == n') := by rw [← int_nat]; exact .flat rfl rfl
      exact eqsl_two d (.obj (eqP_dep (by omega))) h2
    | grp ov ps => cases ov <;> simp [tagP] at ht
    | _ => simp [tagP] at ht
  | grp ov ps =>
    cases q with
    | grp ov' qs =>
      have eo : ov = ov' := by cases ov <;> cases ov' <;> first | rfl | (simp [tagP] at ht)
      subst eo
      have h : ps.dep < d + 1 := h
      rw [show eqPt (.grp ov ps) (.grp ov qs) = eqPs ps qs by rw [eqPt]; simp]
      exact eqsl_pairs d ps qs (by omega)
    | _ => cases ov <;> simp [tagP] at ht
theorem eqPt_cn {p q : Pt} (h : p.cn ≠ q.cn) : eqPt p q = false := by
  cases e : eqPt p q with
  | false => rfl
  | true => exact absurd (congrArg Pt.cn (eqPt_eq p q e)) h
def eqW (d : Nat) (p : Pt) (o : D PO) (q : D PO → Prop) : Prop := match o with
  | .obj (.base p') => p.dep < d ∧ q (.bl (eqPt p p'))
  | o => askD o = true ∧ isPartD o = false ∧ q (.bl false)
def sdM_eq (d : Nat) : SpP (TT K) := fun ds q _ => match ds with
  | [.obj (.base p), o] => eqW d p o q
  | _ => False
theorem hs_Part_eq (d : Nat) (ds : List (D PO)) (q : D PO → Prop) (x : Xd (TT K)) (h : sdM_eq (K := K) (d + 1) ds q x) : t_Part_eq K (oeD d) x (enP q) (startG N_Part_eq (ds.map .dat)) [] := by
  match ds, h with
  | [.obj (.base p), o], h =>
    cases o with
    | obj o =>
      cases o with
      | base p' =>
        obtain ⟨hd, hh⟩ := h
        have main : dAndV (dOp rEqA (dClsN cnT okC (dVar (TT K) 0)) (dClsN cnT okC (dVar (TT K) 1))) (dOp (rEqT (T := TT K) (oeD d) 1) (dFld atT (dVar (TT K) 0) "traits") (dFld atT (dVar (TT K) 1) "traits")) (startG N_Part_eq [.dat (pD p), .dat (pD p')]) [] (fun s cs1 => match s with
            | .dat d => q d
            | .own _ => False) := by
          refine ⟨rfl, rfl, ?_⟩
          refine Br.of (fun h1 => ?_) (fun h1 => ?_)
          · have h1 : (p.cn == p'.cn) = true := h1
            exact ⟨_, ⟨_, _, rfl, rfl, eqsl_traits d p p' (eq_of_beq h1) hd⟩, hh⟩
          · have h1 : (p.cn == p'.cn) = false := h1
            rw [eqPt_cn (fun z => by rw [z, beq_self_eq_true] at h1; cases h1)] at hh
            exact hh
        cases p' with
        | grp ov ps => cases ov <;> exact main
        | _ => exact main
      | _ => exact absurd h.1 Bool.false_ne_true
    | ty n => exact absurd h.1 Bool.false_ne_true
    | cls n => exact absurd h.1 Bool.false_ne_true
    | ptr n => exact absurd h.1 Bool.false_ne_true
    | _ => exact h.2.2
end
end H1
set_option Elab.async false
set_option linter.all false
set_option maxRecDepth 100000
set_option maxHeartbeats 2000000
/-! The program's defs keep their promises. -/
namespace H1
open PySem PySem.Spec PyProof.Rows L2 Ev Dl
abbrev dv_Byte_0 : List V := []
abbrev dfl_Byte_0 : List (D PO) := []
theorem dflr_Byte_0 {K : PySem.W.Frag} (h : Hp) : RepL (TT K) h dv_Byte_0 dfl_Byte_0 := .nil
abbrev dv_Kind_1 : List V := [.int 1]
abbrev dfl_Kind_1 : List (D PO) := [.int 1]
theorem dflr_Kind_1 {K : PySem.W.Frag} (h : Hp) : RepL (TT K) h dv_Kind_1 dfl_Kind_1 := .cons (.int 1) .nil
abbrev dv_Kind_2 : List V := []
abbrev dfl_Kind_2 : List (D PO) := []
theorem dflr_Kind_2 {K : PySem.W.Frag} (h : Hp) : RepL (TT K) h dv_Kind_2 dfl_Kind_2 := .nil
abbrev dv_Use_1 : List V := []
abbrev dfl_Use_1 : List (D PO) := []
theorem dflr_Use_1 {K : PySem.W.Frag} (h : Hp) : RepL (TT K) h dv_Use_1 dfl_Use_1 := .nil
abbrev dv_Row_2 : List V := []
abbrev dfl_Row_2 : List (D PO) := []
theorem dflr_Row_2 {K : PySem.W.Frag} (h : Hp) : RepL (TT K) h dv_Row_2 dfl_Row_2 := .nil
abbrev dv_Record_1 : List V := []
abbrev dfl_Record_1 : List (D PO) := []
theorem dflr_Record_1 {K : PySem.W.Frag} (h : Hp) : RepL (TT K) h dv_Record_1 dfl_Record_1 := .nil
abbrev dv_Overlay_1 : List V := []
abbrev dfl_Overlay_1 : List (D PO) := []
theorem dflr_Overlay_1 {K : PySem.W.Frag} (h : Hp) : RepL (TT K) h dv_Overlay_1 dfl_Overlay_1 := .nil
section
variable {P : Program} {w : World} {K : PySem.W.Frag} {mg : Str → Option Value} {base : Heap}
theorem FnOk.none {CX : CXT} {k : Nat} {f : Addr} {fd : FuncData} {ps : List Str} {sp : Sp} (h : ∀ vs H Q E, ¬ sp vs H Q E) : FnOk P w K mg base CX k f fd ps sp :=
  ⟨fun vs H Q E z => absurd z (h vs H Q E), fun A outer s H args us vs Q E _ _ _ _ z => absurd z (h vs H Q E)⟩
theorem fnR_of {CX : CXT} {k : Nat} {f : Addr} {fd : FuncData} {ps : List Str} {sp : Sp} (F : FnOk P w K mg base CX k f fd ps sp) (b : Binds K fd ps []) : FnR P w K mg base CX k f sp :=
  FnR.imp (F.raw b .nil) fun vs H Q E h => by rw [List.append_nil]; exact h
theorem D_is_number (F : Fc P w K mg base) : DefP P w K mg base (L2.CX P w) 1 "is_number" ["value"] (spP (TT K) efT sd_is_number) := by
  obtain ⟨fd, FD⟩ := F.F_is_number
  exact ⟨_, fd, F.g_is_number, FD.kp, okP FD sc_is_number (der_is_number (k := 0) F) (fun ds q x h => by match ds, h with | [_], _ => rfl) hs_is_number, FunD.bindsN FD fun _ _ _ _ _ _ us hl => match us, hl with | [_], _ => rfl⟩
theorem D_is_whole (F : Fc P w K mg base) : DefP P w K mg base (L2.CX P w) 2 "is_whole" ["value", "least", "most"] (spP (TT K) efT sd_is_whole) := by
  obtain ⟨fd, FD⟩ := F.F_is_whole
  exact ⟨_, fd, F.g_is_whole, FD.kp, okP FD sc_is_whole (der_is_whole (k := 1) F (D_is_number F) (Nat.le_refl _)) (fun ds q x h => by match ds, h with | [_, .int _, .int _], _ => rfl) hs_is_whole, FunD.bindsN FD fun _ _ _ _ _ _ us hl => match us, hl with | [_, _, _], _ => rfl⟩
theorem D_is_name (F : Fc P w K mg base) : DefP P w K mg base (L2.CX P w) 1 "is_name" ["value"] (spP (TT K) efT sd_is_name) := by
  obtain ⟨fd, FD⟩ := F.F_is_name
  exact ⟨_, fd, F.g_is_name, FD.kp, okP FD sc_is_name (der_is_name (k := 0) F) (fun ds q x h => by match ds, h with | [_], _ => rfl) hs_is_name, FunD.bindsN FD fun _ _ _ _ _ _ us hl => match us, hl with | [_], _ => rfl⟩
theorem D_is_part (F : Fc P w K mg base) : DefP P w K mg base (L2.CX P w) 1 "is_part" ["value"] (spP (TT K) efT sd_is_part) := by
  obtain ⟨fd, FD⟩ := F.F_is_part
  exact ⟨_, fd, F.g_is_part, FD.kp, okP FD sc_is_part (der_is_part (k := 0) F) (fun ds q x h => by match ds, h with | [_], _ => rfl) hs_is_part, FunD.bindsN FD fun _ _ _ _ _ _ us hl => match us, hl with | [_], _ => rfl⟩
theorem D_is_pair (F : Fc P w K mg base) : DefP P w K mg base (L2.CX P w) 2 "is_pair" ["value"] (spP (TT K) efT sd_is_pair) := by
  obtain ⟨fd, FD⟩ := F.F_is_pair
  exact ⟨_, fd, F.g_is_pair, FD.kp, okP FD sc_is_pair (der_is_pair (k := 1) F (D_is_name F) (Nat.le_refl _) (D_is_part F) (Nat.le_refl _)) (fun ds q x h => by match ds, h with | [_], _ => rfl) hs_is_pair, FunD.bindsN FD fun _ _ _ _ _ _ us hl => match us, hl with | [_], _ => rfl⟩
theorem D_checked_pairs (F : Fc P w K mg base) : DefP P w K mg base (L2.CX P w) 4 "checked_pairs" ["pairs", "most"] (spP (TT K) efT sd_checked_pairs) := by
  obtain ⟨fd, FD⟩ := F.F_checked_pairs
  exact ⟨_, fd, F.g_checked_pairs, FD.kp, okP FD sc_checked_pairs (der_checked_pairs (k := 3) F (D_is_pair F) (by decide) (Nat.le_refl _)) (fun ds q x h => by match ds, h with | [_, .int _], _ => rfl) hs_checked_pairs, FunD.bindsN FD fun _ _ _ _ _ _ us hl => match us, hl with | [_, _], _ => rfl⟩
theorem D_stepped (F : Fc P w K mg base) : DefP P w K mg base (L2.CX P w) 1 "stepped" ["part", "step"] (spP (TT K) efT sd_stepped) := by
  obtain ⟨fd, FD⟩ := F.F_stepped
  exact ⟨_, fd, F.g_stepped, FD.kp, okP FD sc_stepped (der_stepped (k := 0) F) (fun ds q x h => by match ds, h with | [.obj (.base _), .str _], _ => rfl) hs_stepped, FunD.bindsN FD fun _ _ _ _ _ _ us hl => match us, hl with | [_, _], _ => rfl⟩
theorem D_led (F : Fc P w K mg base) : DefP P w K mg base (L2.CX P w) 2 "led" ["part", "path", "rows"] (spP (TT K) efT sd_led) := by
  obtain ⟨fd, FD⟩ := F.F_led
  exact ⟨_, fd, F.g_led, FD.kp, okP FD sc_led (der_led (k := 1) F (D_stepped F) (Nat.le_refl _)) (fun ds q x h => by match ds, h with | [.obj (.base _), _, .bl _], _ => rfl) hs_led, FunD.bindsN FD fun _ _ _ _ _ _ us hl => match us, hl with | [_, _, _], _ => rfl⟩
theorem O_Part_init (F : Fc P w K mg base) {fd : FuncData} (FD : FnM K "Part" "__init__" i_Part j_Part___init__ [.str "", .ref (He.dflAt ("Part", some "__init__") 1 K), .ref (He.dflAt ("Part", some "__init__") 2 K), .int 1] (He.ma K (He.ga K "Part") "__init__") fd) :
    FnOk P w K mg base (L2.CX P w) 4 (He.ma K (He.ga K "Part") "__init__") fd ["self", "text", "traits", "inside", "weight"] (spO (TT K) efT sd_Part_init) :=
  okO FD sc_Part_init (der_Part_init (k := 3) F (Nat.le_refl _)) (fun c ds q x h => by match ds, h with | [.str _, .tup _, .tup _, .int _], _ => rfl) hs_Part_init
theorem rep_nil (F : Fc P w K mg base) (h : Hp) : RepL (TT K) h [.ref (He.dflAt ("Part", some "__init__") 1 K), .ref (He.dflAt ("Part", some "__init__") 2 K), .int 1] dfl_Part_2 :=
  .cons (.tup (nilT_ok F.c_nil1 h) .nil) (.cons (.tup (nilT_ok F.c_nil2 h) .nil) (.cons (.int 1) .nil))
theorem R_Part_init5 (F : Fc P w K mg base) : FnR P w K mg base (L2.CX P w) 4 (He.ma K (He.ga K "Part") "__init__") (spO (TT K) efT sd_Part_init) := by
  obtain ⟨fd, FD⟩ := F.F_Part_init
  obtain ⟨ds, v, b⟩ := FunD.binds1 FD (ps := ["self", "text", "traits", "inside", "weight"]) 5 4 (by simp) (by rfl) (fun T kV doc pm an cdv ct us its h1 h2 => match us, h1, its, h2 with | [_, _, _, _, _], _, [_, _, _, _], _ => ⟨_, rfl, rfl⟩)
  exact FnR.imp ((O_Part_init F FD).raw b v) fun vs H Q E h => by rw [show List.drop 4 _ = ([] : List V) from rfl, List.append_nil]; exact h
theorem R_Part_init3 (F : Fc P w K mg base) : FnR P w K mg base (L2.CX P w) 4 (He.ma K (He.ga K "Part") "__init__") (spO (TT K) efT sd_Part_init3) := by
  obtain ⟨fd, FD⟩ := F.F_Part_init
  obtain ⟨ds, v, b⟩ := FunD.binds1 FD (ps := ["self", "text", "traits", "inside", "weight"]) 3 2 (by simp) (by rfl) (fun T kV doc pm an cdv ct us its h1 h2 => match us, h1, its, h2 with | [_, _, _], _, [_, _, _, _], _ => ⟨_, rfl, rfl⟩)
  exact FnR.imp ((O_Part_init F FD).raw b v) fun vs H Q E h => spO_dfl (sd := sd_Part_init (K := K)) (dfl := dfl_Part_3) (fun h => .cons (.tup (nilT_ok F.c_nil2 h) .nil) (.cons (.int 1) .nil)) (show spO (TT K) efT (fun c ds => sd_Part_init c (ds ++ dfl_Part_3)) vs H Q E from h)
theorem R_Part_init2 (F : Fc P w K mg base) : FnR P w K mg base (L2.CX P w) 4 (He.ma K (He.ga K "Part") "__init__") (spO (TT K) efT sd_Part_init2) := by
  obtain ⟨fd, FD⟩ := F.F_Part_init
  obtain ⟨ds, v, b⟩ := FunD.binds1 FD (ps := ["self", "text", "traits", "inside", "weight"]) 2 1 (by simp) (by rfl) (fun T kV doc pm an cdv ct us its h1 h2 => match us, h1, its, h2 with | [_, _], _, [_, _, _, _], _ => ⟨_, rfl, rfl⟩)
  exact FnR.imp ((O_Part_init F FD).raw b v) fun vs H Q E h => spO_dfl (sd := sd_Part_init (K := K)) (dfl := dfl_Part_2) (fun h => rep_nil F h) (show spO (TT K) efT (fun c ds => sd_Part_init c (ds ++ dfl_Part_2)) vs H Q E from h)
theorem Fh.clF (F : Fc P w K mg base) {C : Str} {fs : List Str} (h : (C, fs) ∈ tbP) : ∀ f ∈ fs, ClF K C f := fun f hf => ⟨F.cls.cls _ h, F.cls.noat _ h f hf⟩
theorem O_Kind (F : Fc P w K mg base) {fd : FuncData} (FD : FnM K "Kind" "__init__" i_Kind j_Kind___init__ [.int 1] (He.ma K (He.ga K "Kind") "__init__") fd) :
    FnOk P w K mg base (L2.CX P w) 5 (He.ma K (He.ga K "Kind") "__init__") fd ["self", "name", "times"] (spN (TT K) efT "Kind" sdC_Kind) :=
  okNA (mkP "Kind") FD sc_Kind_init (der_Kind_init (k := 4) F (D_is_name F) (by decide) (D_is_whole F) (by decide) (Nat.le_refl _) (R_Part_init5 F) (by decide)) (fun ds q x h => by match ds, h with | [_, _], _ => rfl) (hs_Kind_init (F.clF (List.mem_of_getElem? (i := 1) rfl)))
theorem C_Kind (F : Fc P w K mg base) : DefC P w K mg base (L2.CX P w) 5 "Kind" ["self", "name", "times"] (spN (TT K) efT "Kind" sdC_Kind) dv_Kind_2 := by
  obtain ⟨fd, FD⟩ := F.F_Kind_init
  obtain ⟨ds, v, b⟩ := FunD.binds1 FD (ps := ["self", "name", "times"]) 3 1 (by simp) (by rfl) (fun T kV doc pm an cdv ct us its h1 h2 => match us, h1, its, h2 with | [_, _, _], _, [_], _ => ⟨_, rfl, rfl⟩)
  exact ⟨fd, ds, F.g_Kind, F.mk_Kind, O_Kind F FD, b, v⟩
theorem C_Kind1 (F : Fc P w K mg base) : DefC P w K mg base (L2.CX P w) 5 "Kind" ["self", "name", "times"] (spN (TT K) efT "Kind" sdC_Kind) dv_Kind_1 := by
  obtain ⟨fd, FD⟩ := F.F_Kind_init
  obtain ⟨ds, v, b⟩ := FunD.binds1 FD (ps := ["self", "name", "times"]) 2 0 (by simp) (by rfl) (fun T kV doc pm an cdv ct us its h1 h2 => match us, h1, its, h2 with | [_, _], _, [_], _ => ⟨_, rfl, rfl⟩)
  exact ⟨fd, ds, F.g_Kind, F.mk_Kind, O_Kind F FD, b, v⟩
theorem O_Use (F : Fc P w K mg base) {fd : FuncData} (FD : FnM K "Use" "__init__" i_Use j_Use___init__ [] (He.ma K (He.ga K "Use") "__init__") fd) :
    FnOk P w K mg base (L2.CX P w) 5 (He.ma K (He.ga K "Use") "__init__") fd ["self", "name"] (spN (TT K) efT "Use" sdC_Use) :=
  okNA (mkP "Use") FD sc_Use_init (der_Use_init (k := 4) F (D_is_name F) (by decide) (Nat.le_refl _) (R_Part_init3 F) (by decide)) (fun ds q x h => by match ds, h with | [_], _ => rfl) (hs_Use_init (F.clF (List.mem_of_getElem? (i := 2) rfl)))
theorem C_Use (F : Fc P w K mg base) : DefC P w K mg base (L2.CX P w) 5 "Use" ["self", "name"] (spN (TT K) efT "Use" sdC_Use) dv_Use_1 := by
  obtain ⟨fd, FD⟩ := F.F_Use_init
  exact ⟨fd, [], F.g_Use, F.mk_Use, O_Use F FD, FunD.bindsN FD fun _ _ _ _ _ _ us hl => match us, hl with | [_, _], _ => rfl, .nil⟩
theorem O_Byte (F : Fc P w K mg base) {fd : FuncData} (FD : FnM K "Byte" "__init__" i_Byte j_Byte___init__ [] (He.ma K (He.ga K "Byte") "__init__") fd) :
    FnOk P w K mg base (L2.CX P w) 5 (He.ma K (He.ga K "Byte") "__init__") fd ["self"] (spN (TT K) efT "Byte" sdC_Byte) :=
  okN (mkP "Byte") FD sc_Byte_init (der_Byte_init (k := 4) F (Nat.le_refl _) (R_Part_init2 F)) (fun ds q x h => by match ds, h with | [], _ => rfl) (hs_Byte_init (F.clF (List.mem_of_getElem? (i := 0) rfl)))
theorem C_Byte (F : Fc P w K mg base) : DefC P w K mg base (L2.CX P w) 5 "Byte" ["self"] (spN (TT K) efT "Byte" sdC_Byte) dv_Byte_0 := by
  obtain ⟨fd, FD⟩ := F.F_Byte_init
  exact ⟨fd, [], F.g_Byte, F.mk_Byte, O_Byte F FD, FunD.bindsN FD fun _ _ _ _ _ _ us hl => match us, hl with | [_], _ => rfl, .nil⟩
theorem O_Row (F : Fc P w K mg base) {fd : FuncData} (FD : FnM K "Row" "__init__" i_Row j_Row___init__ [] (He.ma K (He.ga K "Row") "__init__") fd) :
    FnOk P w K mg base (L2.CX P w) 5 (He.ma K (He.ga K "Row") "__init__") fd ["self", "part", "n"] (spN (TT K) efT "Row" sdC_Row) :=
  okN (mkP "Row") FD sc_Row_init (der_Row_init (k := 4) F (D_is_part F) (by decide) (D_is_whole F) (by decide) (Nat.le_refl _) (R_Part_init5 F) (by decide)) (fun ds q x h => by match ds, h with | [_, _], _ => rfl) (hs_Row_init (F.clF (List.mem_of_getElem? (i := 3) rfl)))
theorem C_Row (F : Fc P w K mg base) : DefC P w K mg base (L2.CX P w) 5 "Row" ["self", "part", "n"] (spN (TT K) efT "Row" sdC_Row) dv_Row_2 := by
  obtain ⟨fd, FD⟩ := F.F_Row_init
  exact ⟨fd, [], F.g_Row, F.mk_Row, O_Row F FD, FunD.bindsN FD fun _ _ _ _ _ _ us hl => match us, hl with | [_, _, _], _ => rfl, .nil⟩
theorem O_Record (F : Fc P w K mg base) {fd : FuncData} (FD : FnM K "Record" "__init__" i_Record j_Record___init__ [] (He.ma K (He.ga K "Record") "__init__") fd) :
    FnOk P w K mg base (L2.CX P w) 5 (He.ma K (He.ga K "Record") "__init__") fd ["self", "fields"] (spN (TT K) efT "Record" sdC_Record) :=
  okN (mkP "Record") FD sc_Record_init (der_Record_init (k := 4) F (D_checked_pairs F) (by decide) (Nat.le_refl _) (R_Part_init5 F)) (fun ds q x h => by match ds, h with | [_], _ => rfl) (hs_Record_init (F.clF (List.mem_of_getElem? (i := 4) rfl)))
theorem C_Record (F : Fc P w K mg base) : DefC P w K mg base (L2.CX P w) 5 "Record" ["self", "fields"] (spN (TT K) efT "Record" sdC_Record) dv_Record_1 := by
  obtain ⟨fd, FD⟩ := F.F_Record_init
  exact ⟨fd, [], F.g_Record, F.mk_Record, O_Record F FD, FunD.bindsN FD fun _ _ _ _ _ _ us hl => match us, hl with | [_, _], _ => rfl, .nil⟩
theorem O_Overlay (F : Fc P w K mg base) {fd : FuncData} (FD : FnM K "Overlay" "__init__" i_Overlay j_Overlay___init__ [] (He.ma K (He.ga K "Overlay") "__init__") fd) :
    FnOk P w K mg base (L2.CX P w) 5 (He.ma K (He.ga K "Overlay") "__init__") fd ["self", "members"] (spN (TT K) efT "Overlay" sdC_Overlay) :=
  okN (mkP "Overlay") FD sc_Overlay_init (der_Overlay_init (k := 4) F (D_checked_pairs F) (by decide) (Nat.le_refl _) (R_Part_init5 F)) (fun ds q x h => by match ds, h with | [_], _ => rfl) (hs_Overlay_init (F.clF (List.mem_of_getElem? (i := 5) rfl)))
theorem C_Overlay (F : Fc P w K mg base) : DefC P w K mg base (L2.CX P w) 5 "Overlay" ["self", "members"] (spN (TT K) efT "Overlay" sdC_Overlay) dv_Overlay_1 := by
  obtain ⟨fd, FD⟩ := F.F_Overlay_init
  exact ⟨fd, [], F.g_Overlay, F.mk_Overlay, O_Overlay F FD, FunD.bindsN FD fun _ _ _ _ _ _ us hl => match us, hl with | [_, _], _ => rfl, .nil⟩
theorem R_Kind_str (F : Fc P w K mg base) : FnR P w K mg base (L2.CX P w) 1 (He.ma K (He.ga K "Kind") "__str__") (spP (TT K) efT sdM_str) := by
  obtain ⟨fd, FD⟩ := F.F_Kind_str
  exact fnR_of (okP FD sc_Kind_str (der_Kind_str (k := 0) F) (fun ds q x h => by match ds, h with | [.obj (.base _)], _ => rfl) hs_Kind_str) (FunD.bindsN FD fun _ _ _ _ _ _ us hl => match us, hl with | [_], _ => rfl)
theorem R_Byte_str (F : Fc P w K mg base) : FnR P w K mg base (L2.CX P w) 1 (He.ma K (He.ga K "Byte") "__str__") (spP (TT K) efT sdM_str) := by
  obtain ⟨fd, FD⟩ := F.F_Byte_str
  exact fnR_of (okP FD sc_Byte_str (der_Byte_str (k := 0) F) (fun ds q x h => by match ds, h with | [.obj (.base _)], _ => rfl) hs_Byte_str) (FunD.bindsN FD fun _ _ _ _ _ _ us hl => match us, hl with | [_], _ => rfl)
theorem R_Use_str (F : Fc P w K mg base) : FnR P w K mg base (L2.CX P w) 1 (He.ma K (He.ga K "Use") "__str__") (spP (TT K) efT sdM_str) := by
  obtain ⟨fd, FD⟩ := F.F_Use_str
  exact fnR_of (okP FD sc_Use_str (der_Use_str (k := 0) F) (fun ds q x h => by match ds, h with | [.obj (.base _)], _ => rfl) hs_Use_str) (FunD.bindsN FD fun _ _ _ _ _ _ us hl => match us, hl with | [_], _ => rfl)
theorem R_Row_str (F : Fc P w K mg base) : FnR P w K mg base (L2.CX P w) 1 (He.ma K (He.ga K "Row") "__str__") (spP (TT K) efT sdM_str) := by
  obtain ⟨fd, FD⟩ := F.F_Row_str
  exact fnR_of (okP FD sc_Row_str (der_Row_str (k := 0) F) (fun ds q x h => by match ds, h with | [.obj (.base _)], _ => rfl) hs_Row_str) (FunD.bindsN FD fun _ _ _ _ _ _ us hl => match us, hl with | [_], _ => rfl)
theorem R_Record_str (F : Fc P w K mg base) : FnR P w K mg base (L2.CX P w) 1 (He.ma K (He.ga K "Record") "__str__") (spP (TT K) efT sdM_str) := by
  obtain ⟨fd, FD⟩ := F.F_Record_str
  exact fnR_of (okP FD sc_Record_str (der_Record_str (k := 0) F) (fun ds q x h => by match ds, h with | [.obj (.base _)], _ => rfl) hs_Record_str) (FunD.bindsN FD fun _ _ _ _ _ _ us hl => match us, hl with | [_], _ => rfl)
theorem R_Overlay_str (F : Fc P w K mg base) : FnR P w K mg base (L2.CX P w) 1 (He.ma K (He.ga K "Overlay") "__str__") (spP (TT K) efT sdM_str) := by
  obtain ⟨fd, FD⟩ := F.F_Overlay_str
  exact fnR_of (okP FD sc_Overlay_str (der_Overlay_str (k := 0) F) (fun ds q x h => by match ds, h with | [.obj (.base _)], _ => rfl) hs_Overlay_str) (FunD.bindsN FD fun _ _ _ _ _ _ us hl => match us, hl with | [_], _ => rfl)
def soT : PO → Option (D PO)
  | .base p => some (.str p.tx)
  | _ => none
theorem Fh.one_str (F : Fc P w K mg base) (p : Pt) : SpF K p.cn "__str__" (He.ma K (He.ga K p.cn) "__str__") ∧ FnR P w K mg base (L2.CX P w) 1 (He.ma K (He.ga K p.cn) "__str__") (spP (TT K) efT sdM_str) := by
  cases p with
  | byte => exact ⟨F.sp_Byte_str, R_Byte_str F⟩
  | kind s t => exact ⟨F.sp_Kind_str, R_Kind_str F⟩
  | use s => exact ⟨F.sp_Use_str, R_Use_str F⟩
  | row p n => exact ⟨F.sp_Row_str, R_Row_str F⟩
  | grp ov ps =>
    cases ov
    · exact ⟨F.sp_Record_str, R_Record_str F⟩
    · exact ⟨F.sp_Overlay_str, R_Overlay_str F⟩
theorem OS (F : Fc P w K mg base) : OneO P w K mg base (TT K) 1 "__str__" (fun _ => True) soT := ⟨fun h a o d r e => by
  cases o with
  | mk C fs => cases e
  | err C ds => cases e
  | base p =>
    cases e
    obtain ⟨hw, dx, vs, e1, _⟩ := part_at r
    obtain ⟨s1, s2⟩ := F.one_str p
    refine ⟨_, _, dx, vs, _, e1, s1.at_, s1.fn, FnR.cx0 s2, fun Z H Q eh lv k => ?_⟩
    subst eh
    exact ⟨Z, [pD p], fun d => d = .str p.tx, noX _, lv, .cons (.obj r) .nil, rfl, fun d hd v H' S rp => k v H' S (hd ▸ rp), fun y ds hy => hy.elim⟩⟩
def sdM_len : SpP (TT K) := fun ds q _ => match ds with
  | [.obj (.base p)] => q (.int p.ins.length)
  | _ => False
theorem hs_Group_len (ds : List (D PO)) (q : D PO → Prop) (x : Xd (TT K)) (h : sdM_len (K := K) ds q x) : t_Group_len K x (enP q) (startG N_Group_len (ds.map .dat)) [] := by
  match ds, h with
  | [.obj (.base p)], h =>
    show q (.int (p.inside.length : Nat))
    rw [p.inside_eq]
    unfold pairsD
    rw [List.length_map]
    exact h
theorem R_Group_len (F : Fc P w K mg base) : FnR P w K mg base (L2.CX P w) 1 (He.ma K (He.ga K "Group") "__len__") (spP (TT K) efT sdM_len) := by
  obtain ⟨fd, FD⟩ := F.F_Group_len
  exact fnR_of (okP FD sc_Group_len (der_Group_len (k := 0) F) (fun ds q x h => by match ds, h with | [.obj (.base _)], _ => rfl) hs_Group_len) (FunD.bindsN FD fun _ _ _ _ _ _ us hl => match us, hl with | [_], _ => rfl)
def lenT : PO → Option (D PO)
  | .base (.row p n) => some (.int (Pt.row p n).ins.length)
  | .base (.grp ov ps) => some (.int (Pt.grp ov ps).ins.length)
  | _ => none
theorem Fh.one_len (F : Fc P w K mg base) {p : Pt} {d : D PO} (h : lenT (.base p) = some d) : d = .int p.ins.length ∧ SpF K p.cn "__len__" (He.ma K (He.ga K "Group") "__len__") := by
  cases p with
  | row p n => cases h; exact ⟨rfl, F.sp_Row_len⟩
  | grp ov ps =>
    cases h
    refine ⟨rfl, ?_⟩
    cases ov
    · exact F.sp_Record_len
    · exact F.sp_Overlay_len
  | _ => cases h
theorem OL (F : Fc P w K mg base) : OneO P w K mg base (TT K) 1 "__len__" (fun _ => True) lenT := ⟨fun h a o d r e => by
  cases o with
  | mk C fs => cases e
  | err C ds => cases e
  | base p =>
    obtain ⟨e0, s1⟩ := F.one_len e
    subst e0
    obtain ⟨hw, dx, vs, e1, _⟩ := part_at r
    refine ⟨_, _, dx, vs, _, e1, s1.at_, s1.fn, FnR.cx0 (R_Group_len F), fun Z H Q eh lv k => ?_⟩
    subst eh
    exact ⟨Z, [pD p], fun d => d = .int p.ins.length, noX _, lv, .cons (.obj r) .nil, rfl, fun d hd v H' S rp => k v H' S (hd ▸ rp), fun y ds hy => hy.elim⟩⟩
end
end H1
set_option Elab.async false
set_option linter.all false
set_option maxRecDepth 100000
set_option maxHeartbeats 2000000
/-! == of parts. -/
namespace H1
open PySem PySem.Spec PyProof.Rows L2 Ev Dl
def moreT : Nat → List Str
  | 1 => ["name", "times"]
  | 2 => ["name"]
  | 3 => ["part", "n"]
  | 4 => ["fields"]
  | 5 => ["members"]
  | _ => []
theorem flds_names (p : Pt) (e : List (Key × D PO)) : (p.flds e).map (·.1) = base6 ++ moreT (tagP p) := by
  cases p with
  | grp ov ps => cases ov <;> rfl
  | _ => rfl
theorem moreT_inj : ∀ i < 6, ∀ j < 6, moreT i = moreT j → i = j := by decide
theorem names_tag {p q : Pt} {e e' : List (Key × D PO)} (h : (p.flds e).map (·.1) = (q.flds e').map (·.1)) : p.cn = q.cn := by
  rw [flds_names, flds_names] at h
  have h := List.append_cancel_left h
  have hp := cn_tag p
  have hq := cn_tag q
  rw [hp.1, hq.1, moreT_inj _ hp.2 _ hq.2 h]
section
variable {K : PySem.W.Frag}
/-- what stands at one address is one part -/
theorem det_part : ∀ (d : Nat) (h : Hp), SqFun K h → ∀ a o o', (TT K).RO h a o → (TT K).RO h a o' → oeD d o o' = none ∨ oeD d o o' = some true := by
  intro d
  induction d with
  | zero =>
    intro h fn a o o' r r'
    cases o with
    | base p => cases o' with
      | base p' => exact .inl (show (if p.dep < 0 then some (eqPt p p') else none) = none from if_neg (Nat.not_lt_zero _))
      | _ => exact .inl rfl
    | _ => exact .inl rfl
  | succ d ih =>
    intro h fn a o o' r r'
    cases o with
    | base p => cases o' with
      | base p' =>
        by_cases hd : p.dep < d + 1
        · refine .inr ?_
          rw [eqP_dep hd]
          obtain ⟨_, dx, vs, e1, f1⟩ := part_at r
          obtain ⟨_, dx', vs', e2, f2⟩ := part_at r'
          have ev : vs = vs' := by rw [e1] at e2; injection e2 with e2; injection e2
          subst ev
          have hc : p.cn = p'.cn := names_tag ((RepF.names f1).symm.trans (RepF.names f2))
          have l1 : (p.flds (p.endsA a)).lookup ("traits" : Str) = some (.tup p.traits) := rfl
          have l2 : (p'.flds (p'.endsA a)).lookup ("traits" : Str) = some (.tup p'.traits) := rfl
          obtain ⟨v, v1, v2⟩ := f1.look l1
          obtain ⟨v', v3, v4⟩ := f2.look l2
          rw [v1] at v3
          cases v3
          exact congrArg some (EqS.refl fn (ih h fn) (n := 2) (.tup (eqsl_traits d p p' hc hd)) v2 v4)
        · exact .inl (if_neg hd)
      | _ => exact .inl rfl
    | _ => exact .inl rfl
def oeW (d : Nat) : PO → D PO → Option Bool
  | .base p, .obj (.base p') => if p.dep < d then some (eqPt p p') else none
  | .base _, o => if askD o = true ∧ isPartD o = false then some false else none
  | _, _ => none
theorem oeW_eqW {d : Nat} {p : Pt} {o : D PO} {b : Bool} {q : D PO → Prop} (h : oeW d (.base p) o = some b) (hq : q (.bl b)) : askD o = true ∧ eqW d p o q := by
  have non : ∀ o : D PO, oeW d (.base p) o = (if askD o = true ∧ isPartD o = false then some false else none) → eqW d p o q = (askD o = true ∧ isPartD o = false ∧ q (.bl false)) → oeW d (.base p) o = some b → askD o = true ∧ eqW d p o q := fun o e1 e2 h => by
    rw [e1] at h
    by_cases c : askD o = true ∧ isPartD o = false
    · rw [if_pos c] at h
      cases h
      rw [e2]
      exact ⟨c.1, c.1, c.2, hq⟩
    · rw [if_neg c] at h; cases h
  cases o with
  | obj o =>
    cases o with
    | base p' =>
      have h : (if p.dep < d then some (eqPt p p') else none) = some b := h
      by_cases c : p.dep < d
      · rw [if_pos c] at h; cases h; exact ⟨rfl, c, hq⟩
      · rw [if_neg c] at h; cases h
    | _ => exact non _ rfl rfl h
  | _ => exact non _ rfl rfl h
end
section
variable {P : Program} {w : World} {K : PySem.W.Frag} {mg : Str → Option Value} {base : Heap}
theorem TRep.toRep {T : Th K} {h H : Hp} {v : V} {d : D T.O} (S : Same h H) (r : TRep T h H v d) : Rep T H v d := by
  cases r with
  | rep r => exact r.mono S
  | lst a b => exact .lst a (b.mono S)
  | dic a b => exact .dic (.inl a) (b.mono S)
theorem ask_kind {x : Str} {o : D PO} (C : ClE K "Part" x allP) (h : askD o = true) : ∃ c, kindT cnT erT o = some c ∧ PySem.W.notFirst K (He.ga K x) (valN K c) = true := by
  have ty : ∀ n ∈ bNames, ∃ c, (some (Sum.inl n) : Option CN) = some c ∧ PySem.W.notFirst K (He.ga K x) (valN K c) = true := fun n hn => ⟨.inl n, rfl, C.ft n hn⟩
  cases o with
  | obj o =>
    cases o with
    | base p => exact ⟨.inr p.cn, rfl, C.nf _ (cn_all p)⟩
    | _ => cases h
  | non => exact ty "NoneType" (by decide)
  | bl b => exact ty "bool" (by decide)
  | int b => exact ty "int" (by decide)
  | str b => exact ty "str" (by decide)
  | tup b => exact ty "tuple" (by decide)
  | lst b => exact ty "list" (by decide)
  | dic b => exact ty "dict" (by decide)
  | ty n => cases h
  | cls n => cases h
  | ptr n => cases h
/-- == by the def's promise -/
theorem eqO_of (F : Fc P w K mg base) {n d : Nat} (R : FnR P w K mg base (L2.CX P w) n (He.ma K (He.ga K "Part") "__eq__") (spP (TT K) efT (sdM_eq d))) : EqO P w K mg base (TT K) n (oeW d) := ⟨fun h H a o y dd b S r ry e => by
  cases o with
  | mk C fs => cases e
  | err C ds => cases e
  | base p =>
    obtain ⟨_, dx, vs, e1, _⟩ := part_at r
    have C := (F.one p).1
    have hq := fun q : D PO → Prop => oeW_eqW (q := q) e
    have ha := (hq (fun _ => True) trivial).1
    obtain ⟨c, k1, k2⟩ := ask_kind C ha
    refine ⟨_, _, dx, vs, _, _, S _ _ e1, F.isi.tyx S ry k1, k2, C.eq, C.ef, C.cm, C.ne, FnR.cx0 R, fun Q k => ?_⟩
    have hn : hid [] H = H := by funext z; exact hid_out (by simp)
    refine ⟨[], [pD p, dd], fun x => x = .bl b, noX _, (fun p hp => nomatch hp), ?_, (hq (fun x => x = .bl b) rfl).2, fun x hx v H' S' rp => ?_, fun y ds hy => hy.elim⟩
    · rw [hn]
      exact .cons (.obj ((TT K).mono S r)) (.cons (TRep.toRep S ry) .nil)
    · subst hx
      cases rp
      exact k H' S'⟩
theorem bnd_eq (F : Fc P w K mg base) : ∃ fd, FnM K "Part" "__eq__" i_Part j_Part___eq__ [] (He.ma K (He.ga K "Part") "__eq__") fd ∧ Binds K fd ["self", "other"] [] := by
  obtain ⟨fd, FD⟩ := F.F_Part_eq
  exact ⟨fd, FD, FunD.bindsN FD fun _ _ _ _ _ _ us hl => match us, hl with | [_, _], _ => rfl⟩
theorem eq_step (F : Fc P w K mg base) (d m : Nat) (hO : ∀ cdv A outer s H E, RcJ (cxR P w K mg base N_Part_eq "Part.__eq__" (defScope (sM i_Part j_Part___eq__)) (He.ma K (He.ga K "Part") "__eq__") cdv A outer s H E) m (DV (TT K) (ObS (oeD d)))) :
    FnR P w K mg base (L2.CX P w) (m + 3) (He.ma K (He.ga K "Part") "__eq__") (spP (TT K) efT (sdM_eq (d + 1))) := by
  obtain ⟨fd, FD, b⟩ := bnd_eq F
  refine fnR_of (okP FD sc_Part_eq (der_Part_eq (k := m + 2) F (oe := oeD d) (k_e := m + 1) (fun cdv A outer s H E => eqJ_deep (hO cdv A outer s H E) (fun h fn => det_part d h fn) 1) (by omega)) (fun ds q x h => ?_) (hs_Part_eq d)) b
  match ds, h with | [.obj (.base _), _], _ => rfl
theorem R_eq (F : Fc P w K mg base) : ∀ d : Nat, FnR P w K mg base (L2.CX P w) (3 * d + 3) (He.ma K (He.ga K "Part") "__eq__") (spP (TT K) efT (sdM_eq (d + 1))) := by
  intro d
  induction d with
  | zero =>
    refine eq_step F 0 0 fun cdv A outer s H E => ?_
    intro A' pins s' σ H' x y u v b sb I rx ry dv
    obtain ⟨h, dx, dy, S, z1, z2, a, c, e1, e2, q⟩ := dv
    exfalso
    cases a with
    | base p => cases c with
      | base p' => have q : (if p.dep < 0 then some (eqPt p p') else none) = some b := q; rw [if_neg (Nat.not_lt_zero _)] at q; cases q
      | _ => cases q
    | _ => cases q
  | succ d ih =>
    refine eq_step F (d + 1) (3 * d + 3) fun cdv A outer s H E => (rcJ_eqO (X := cxR P w K mg base N_Part_eq "Part.__eq__" (defScope (sM i_Part j_Part___eq__)) (He.ma K (He.ga K "Part") "__eq__") cdv A outer s H E) (eqO_of F ih)).imp fun x y H b ⟨h, dx, dy, S, z1, z2, a, c, e1, e2, q⟩ => ?_
    subst e1 e2
    cases z1 with
    | obj z1 =>
      cases a with
      | base p => cases c with
        | base p' => exact ⟨h, _, .base p, pD p', S, rfl, z1, .rep z2, q⟩
        | _ => cases q
      | _ => cases q
/-- == of all parts -/
theorem EQ5 (F : Fc P w K mg base) : EqO P w K mg base (TT K) 15 (oeW 5) := eqO_of F (R_eq F 4)
end
end H1
set_option Elab.async false
set_option linter.all false
set_option maxRecDepth 100000
set_option maxHeartbeats 4000000
/-! != of lists whose items are all equal, told by an own __eq__. -/
namespace GQB
open PySem PySem.SeqAt GQ
open AutoSeq1 (wpAny_loadPart')
open MeetsSeq MeetsSeq2 MeetsSeq3 SeqRoads2
section
variable {prog : Program} {w : World} {A : Around} {R : Result → Shared → Prop} {E : Value → Shared → Prop} {s : Shared}
/-- at turn i the lists stand there, and the items at i are equal -/
def TurnL (prog : Program) (w : World) (A : Around) (R : Result → Shared → Prop) (l b : Addr) (m : Nat) (I : Nat → Shared → Prop) (i : Nat) (s : Shared) : Prop :=
  ∃ (items items2 : Array Value) (n n2 : Nat) (dd dd2 : Option Addr) (sl sl2 : Array (Option Value)), s.heap.get? l = some { cls := .type "list", dict := dd, data := .seq items n, slots := sl } ∧ s.heap.get? b = some { cls := .type "list", dict := dd2, data := .seq items2 n2, slots := sl2 } ∧
    items.size = m ∧ items2.size = m ∧ ∀ (h1 : i < items.size) (h2 : i < items2.size), wpAny (model prog w) A.in1 (eqBool items[i] items2[i]) (fun r s' => r = true ∧ I (i + 1) s') (fun e s' => R (.error e) s') s
theorem loop_neB (l b : Addr) (m : Nat) (I : Nat → Shared → Prop) (look : ∀ i s, I i s → TurnL prog w A R l b m I i s) (fin : ∀ s, I m s → R (.ok (.ret (.bool false))) s) (k : Nat) :
    ∀ (i : Nat) (s : Shared), i ≤ m → m - i = k → I i s → wpAny (model prog w) A.in1 (Builtin.«list.__eq__.loop» ⟨[.ref l, .ref b, rawInt i, rawInt 3], []⟩) (FinOf prog w A R) (fun e s' => R (.error e) s') s := by
  induction k with
  | zero =>
    intro i s hi hk h
    obtain ⟨items, items2, n, n2, dd, dd2, sl, sl2, hl, hb, s1, s2, t⟩ := look i s h
    have him : i = m := by omega
    subst him
    have q := fin s h
    obtain ⟨hp, g, d, tk, os⟩ := s
    wp_walk using wpAny_loadPart' hl, wpAny_loadPart' hb
    have hi1 : items[((i : Nat) : Int).toNat]? = none := by simp; omega
    have hi2 : items2[((i : Nat) : Int).toNat]? = none := by simp; omega
    rw [hi1, hi2]
    wp_walk using wpAny_loadPart' hl, wpAny_loadPart' hb
    show R (.ok (.ret (.bool (items.size != items2.size)))) _
    rw [s1, s2]
    simpa using q
  | succ k ih =>
    intro i s hi hk h
    obtain ⟨items, items2, n, n2, dd, dd2, sl, sl2, hl, hb, s1, s2, t⟩ := look i s h
    have hlt : i < items.size := by omega
    have hlt2 : i < items2.size := by omega
    have t := t hlt hlt2
    obtain ⟨hp, g, d, tk, os⟩ := s
    wp_walk using wpAny_loadPart' hl, wpAny_loadPart' hb
    have hi1 : items[((i : Nat) : Int).toNat]? = some items[i] := by simp [hlt]
    have hi2 : items2[((i : Nat) : Int).toNat]? = some items2[i] := by simp [hlt2]
    have hc : ((i : Int) + 1) = ((i + 1 : Nat) : Int) := by push_cast; rfl
    rw [hi1, hi2]
    refine wpAny_bind (wpAny_mono t (fun r s' q => ?_) fun _ _ x => x)
    obtain ⟨hr, q⟩ := q
    subst hr
    wp_walk
    rw [hc]
    exact ⟨plainId_quiet plain_eq_loop _, codeAny_builtin entry_eq_loop (by
      rw [Around.under_plainId plain_eq_loop _]
      exact ih (i + 1) s' (by omega) (by omega) q)⟩
theorem list_neB (l b : Addr) (m : Nat) (I : Nat → Shared → Prop) (look : ∀ i s, I i s → TurnL prog w A R l b m I i s) (fin : ∀ s, I m s → R (.ok (.ret (.bool false))) s) (h : I 0 s) :
    wpAny (model prog w) A.in1 (Builtin.«list.__ne__» ⟨[.ref l, .ref b], []⟩) (FinOf prog w A R) (fun e s' => R (.error e) s') s := by
  obtain ⟨items, items2, n, n2, dd, dd2, sl, sl2, hl, hb, s1, s2, t⟩ := look 0 s h
  have lo := loop_neB l b m I look fin m 0 s (Nat.zero_le _) (Nat.sub_zero _) h
  obtain ⟨hp, g, d, tk, os⟩ := s
  have f3 := AutoSeq1.sub_list_list
  have hne : ¬ (items.size != items2.size) = true := by simp [s1, s2]
  wp_walk using wpAny_loadPart' hl, wpAny_loadPart' hb
  exact ⟨plainId_quiet plain_eq_loop _, codeAny_builtin entry_eq_loop (by
    rw [Around.under_plainId plain_eq_loop _]
    exact lo)⟩
end
end GQB
namespace L2
open PySem PySem.Spec PyProof.Rows PySem.SeqAt
section
variable {X : Cx} {n m : Nat} {D : EqvB}
def rNeLJ (K : PySem.W.Frag) (D : EqvB) : R2 := fun x y H Q => ∃ (a c : Addr) (xs ys : List V), x = .ref a ∧ y = .ref c ∧ SqL K H a xs ∧ SqL K H c ys ∧ PrsB D H xs ys true ∧ ∀ H', Ext H H' → Q (.bl false) H'
theorem PrsB.len {D : EqvB} {H : Hp} : ∀ {xs ys : List V}, PrsB D H xs ys true → xs.length = ys.length
  | _, _, .nil => rfl
  | _, _, .yes _ p => congrArg (· + 1) p.len
theorem op_neLJ (hD : MonB D) (h : EqJ X n D) (hr : Room (n + 1) X.A) : OpR X (compareOp .NotEq) (rNeLJ X.K D) := by
  intro pins s σ H x y v u Q I rx ry hq
  obtain ⟨a, c, xs, ys, rfl, rfl, ha, hc, p, q⟩ := hq
  cases rx
  cases ry
  have hL : ∀ {H' : Hp} {s' : Shared} {b : Addr} {zs : List V}, Inv X pins σ H' s' → SqL X.K H' b zs → ∃ its : List Value, Vals zs its ∧ ∃ (nn : Nat) (dd : Option Addr) (sl : Array (Option Value)), s'.heap.get? b = some { cls := .type "list", dict := dd, data := .seq its.toArray nn, slots := sl } := fun {H' s' b zs} I' hb => by
    obtain ⟨its, r, hl, z⟩ := I'.list hb
    obtain ⟨⟨cls, dd, data, sl⟩, ho, hc, n1, hd⟩ := id hl.isList
    simp only at hc hd
    subst hc hd
    exact ⟨its, r, n1, dd, sl, ho⟩
  obtain ⟨its, r, n1, dd, sl, ho⟩ := hL I ha
  obtain ⟨its2, r2, n2, dd2, sl2, ho2⟩ := hL I hc
  show wpAny _ _ (richCompare .NotEq (.ref a) (.ref c)) _ _ _
  refine wpAny_richCompare_same_room (op := .NotEq) ⟨_, ho, rfl⟩ ⟨_, ho2, rfl⟩ F.slot_list_ne (GQ.call_here F.slot_list_ne ⟨_, ho, rfl⟩ F.entry_list_ne (F.args_list_ne_2 _ _) ?_) hr.units0
  refine GQB.list_neB a c xs.length (fun i s' => ∃ H', Inv X pins σ H' s' ∧ Ext H H' ∧ PrsB D H (xs.drop i) (ys.drop i) true) (fun i s' ⟨H1, I1, e1, pi⟩ => ?_) (fun s' ⟨H1, I1, e1, _⟩ => ?_) ⟨H, I, Ext.rfl', p⟩
  · obtain ⟨jts, q1, m1, d1, l1, o1⟩ := hL I1 (ha.ext e1)
    obtain ⟨jts2, q2, m2, d2, l2, o2⟩ := hL I1 (hc.ext e1)
    have z1 : jts.length = xs.length := q1.length.symm
    have z2 : jts2.length = xs.length := q2.length.symm.trans p.len.symm
    refine ⟨jts.toArray, jts2.toArray, m1, m2, d1, d2, l1, l2, o1, o2, by simpa using z1, by simpa using z2, fun h1 h2 => ?_⟩
    have h1' : i < jts.length := by simpa using h1
    have h2' : i < jts2.length := by simpa using h2
    have k1 : i < xs.length := by omega
    have k2 : i < ys.length := by have := p.len; omega
    obtain ⟨u, hu, ru⟩ := q1.get (List.getElem?_eq_getElem k1)
    obtain ⟨v, hv, rv⟩ := q2.get (List.getElem?_eq_getElem k2)
    have g1 : jts.toArray[i] = u := by
      rw [List.getElem?_eq_getElem h1'] at hu
      simpa using Option.some.inj hu
    have g2 : jts2.toArray[i] = v := by
      rw [List.getElem?_eq_getElem h2'] at hv
      simpa using Option.some.inj hv
    rw [g1, g2]
    rw [List.drop_eq_getElem_cons k1, List.drop_eq_getElem_cons k2] at pi
    generalize ex : xs[i] = x at pi ru
    generalize ey : ys[i] = y at pi rv
    generalize exs : xs.drop (i + 1) = xs' at pi
    generalize eys : ys.drop (i + 1) = ys' at pi
    cases pi with
    | yes d p' =>
      refine wpAny_mono (h X.A.in1 pins s' σ H1 _ _ u v true (Sub.in1 ⟨hr, rfl⟩) I1 ru rv (hD _ _ _ _ _ e1 d)) (fun r s2 q => ?_) fun _ _ x => x
      obtain ⟨hr', H2, I2, e2⟩ := q
      exact ⟨hr', H2, I2, e1.trans e2, by subst exs eys; exact p'⟩
  · exact ⟨(fun x => nomatch x), .bl false, H1, I1, rfl, q H1 e1⟩
end
end L2
set_option Elab.async false
set_option linter.all false
set_option maxRecDepth 100000
set_option maxHeartbeats 1000000
/-! != of equal lists with own objects in them. -/
namespace Dl
open PySem PySem.Spec PyProof.Rows L2 Ev
section
variable {X : Cx} {T : Th X.K} {m : Nat} {oe : T.O → T.O → Option Bool}
/-- != of lists of such things that are equal -/
def rNeLT {K : PySem.W.Frag} {T : Th K} (oe : T.O → T.O → Option Bool) (n : Nat) : ROp T := fun dx dy k => ∃ xs ys, dx = .lst xs ∧ dy = .lst ys ∧ EqSL oe n xs ys true ∧ k (.bl false)
theorem od_neLT {n : Nat} (h : EqJ X m (DV T (EqS oe n))) (hr : Room (m + 1) X.A) : OpD T (compareOp .NotEq) (rNeLT oe n) := OpR.imp (op_neLJ monB_DV h hr) fun x y H Q ⟨Z, dx, dy, q, l, rx, ry, ⟨xs, ys, e1, e2, e3, hb⟩, k⟩ => by
  subst e1 e2
  obtain ⟨a, vs, rfl, ha, r1⟩ := TRep.of_lst hid_sub rx
  obtain ⟨c, us, rfl, hc, r2⟩ := TRep.of_lst hid_sub ry
  exact ⟨a, c, vs, us, rfl, rfl, .inl (.inl ha), .inl (.inl hc), prs_of hid_sub e3 r1 r2, fun H' S => k _ hb _ _ S (.bl _)⟩
/-- != of such things, else by what they are worth -/
def rNeLX {K : PySem.W.Frag} {T : Th K} (oe : T.O → T.O → Option Bool) (n : Nat) : ROp T := rNeLT oe n
theorem two_nil {x y : V} {H : Hp} {Z : List Addr} {xs : List (D T.O)} (rx : TRep T (hid Z H) H x (.lst xs)) (ry : TRep T (hid Z H) H y (.lst [])) : TwoL X.K x y H xs.isEmpty := by
  obtain ⟨a, vs, rfl, ha, r1⟩ := TRep.of_lst hid_sub rx
  obtain ⟨c, us, rfl, hc, r2⟩ := TRep.of_lst hid_sub ry
  cases r2
  refine ⟨a, c, vs, [], rfl, rfl, .inl (.inl ha), .inl (.inl hc), ?_⟩
  cases r1 with
  | nil => exact .inl ⟨rfl, (fun v hv => nomatch hv), rfl⟩
  | cons q1 q2 => exact .inr ⟨by simp, rfl⟩
/-- xs == [], whatever the items are -/
def rEqZ {K : PySem.W.Frag} {T : Th K} : ROp T := fun dx dy k => match dx, dy with
  | .lst xs, .lst [] => k (.bl xs.isEmpty)
  | _, _ => False
def rNeZ {K : PySem.W.Frag} {T : Th K} : ROp T := fun dx dy k => match dx, dy with
  | .lst xs, .lst [] => k (.bl (!xs.isEmpty))
  | _, _ => False
theorem od_eqZ (hu : X.A.units + 64 < cLine) : OpD T (compareOp .Eq) rEqZ := OpR.imp (op_eqL (by omega)) fun x y H Q ⟨Z, dx, dy, q, l, rx, ry, h, k⟩ => by
  match dx, dy, rx, ry, h with
  | .lst xs, .lst [], rx, ry, h => exact ⟨_, two_nil rx ry, k _ h _ _ (same_refl _) (.bl _)⟩
theorem od_neZ (hu : X.A.units + 64 < cLine) : OpD T (compareOp .NotEq) rNeZ := OpR.imp (op_neL (by omega)) fun x y H Q ⟨Z, dx, dy, q, l, rx, ry, h, k⟩ => by
  match dx, dy, rx, ry, h with
  | .lst xs, .lst [], rx, ry, h => exact ⟨_, two_nil rx ry, k _ h _ _ (same_refl _) (.bl _)⟩
end
end Dl
set_option Elab.async false
set_option linter.all false
set_option maxRecDepth 100000
set_option maxHeartbeats 2000000
/-! A set whose members are keys of one kind (texts, ..), told by the list of its keys. -/
namespace TxS
open PySem PySem.Spec PyProof.Rows L2
section
variable {P : Program} {w : World} {κ : Type} [DecidableEq κ] (kd : KeyKind P w κ)
/-- the entry e is the key k -/
structure Ent (e : Int × Value) (k : κ) : Prop where
  is : kd.is k e.2 = true
  hash : e.1 = kd.hash k
  sc : e.2.scannable = true
theorem paired_perm {α β : Type} {F : α → β → Prop} {l l' : List α} (p : l'.Perm l) : ∀ {m : List β}, Paired F l m → ∃ m', m'.Perm m ∧ Paired F l' m' := by
  induction p with
  | nil => exact fun q => ⟨_, .refl _, q⟩
  | cons x _ ih =>
    intro m q
    cases q with
    | cons a b => obtain ⟨m', h1, h2⟩ := ih b; exact ⟨_ :: m', h1.cons _, .cons a h2⟩
  | swap x y l =>
    intro m q
    cases q with
    | cons a b => cases b with
      | cons c d => exact ⟨_, .swap _ _ _, .cons c (.cons a d)⟩
  | trans p1 p2 ih1 ih2 =>
    intro m q
    obtain ⟨m2, h1, h2⟩ := ih2 q
    obtain ⟨m1, h3, h4⟩ := ih1 h2
    exact ⟨m1, h3.trans h1, h4⟩
theorem paired_len {α β : Type} {F : α → β → Prop} : ∀ {l : List α} {m : List β}, Paired F l m → l.length = m.length
  | _, _, .nil => rfl
  | _, _, .cons _ b => congrArg (· + 1) (paired_len b)
theorem paired_mem {α β : Type} {F : α → β → Prop} : ∀ {l : List α} {m : List β} {x : α}, Paired F l m → x ∈ l → ∃ y ∈ m, F x y
  | _, _, _, .cons a b, h => by
    rcases List.mem_cons.mp h with rfl | h
    · exact ⟨_, List.mem_cons_self, a⟩
    · obtain ⟨y, h1, h2⟩ := paired_mem b h
      exact ⟨y, List.mem_cons_of_mem _ h1, h2⟩
theorem paired_mem' {α β : Type} {F : α → β → Prop} : ∀ {l : List α} {m : List β} {y : β}, Paired F l m → y ∈ m → ∃ x ∈ l, F x y
  | _, _, _, .cons a b, h => by
    rcases List.mem_cons.mp h with rfl | h
    · exact ⟨_, List.mem_cons_self, a⟩
    · obtain ⟨y, h1, h2⟩ := paired_mem' b h
      exact ⟨y, List.mem_cons_of_mem _ h1, h2⟩
/-- what the table needs to be walked -/
structure TabW (w : World) (t : SetTable) (n : Nat) : Prop where
  fits : t.fits n = true
  ris : Ris t.place.toList
  led : w.params.followText "set-order" = true ∨ t.led = true
/-- the set at a holds just the keys ks -/
def SetG (h : Heap) (a : Addr) (ks : List κ) : Prop :=
  ∃ (o : Obj) (es : Array (Int × Value)) (ep : Nat) (t : SetTable) (ms : List κ), h.get? a = some o ∧ o.ExactSet ∧ o.data = .set es ep t ∧ Paired (Ent kd) es.toList ms ∧ ms.Perm ks ∧ ks.Nodup ∧ es.size < scanBound ∧ TabW w t es.size
variable {kd}
theorem Ent.elems {l : List (Int × Value)} {ms : List κ} (q : Paired (Ent kd) l ms) : ElemsOf kd l := fun e he => by
  obtain ⟨k, _, r⟩ := paired_mem q he
  exact ⟨⟨k, r.is, r.hash⟩, r.sc⟩
theorem Ent.find {l : List (Int × Value)} {ms : List κ} (q : Paired (Ent kd) l ms) (k : κ) : k ∈ ms ↔ ∃ e ∈ l, kd.is k e.2 = true := by
  constructor
  · intro h
    obtain ⟨e, he, r⟩ := paired_mem' q h
    exact ⟨e, he, r.is⟩
  · rintro ⟨e, he, r⟩
    obtain ⟨k', hk', r'⟩ := paired_mem q he
    rw [kd.inj _ _ _ r r'.is]
    exact hk'
theorem SetG.size {h : Heap} {a : Addr} {ks : List κ} (R : SetG kd h a ks) : ks.length < scanBound := by
  obtain ⟨o, es, ep, t, ms, _, _, _, q, p, _, b, _⟩ := R
  rw [← p.length_eq, ← paired_len q, Array.length_toList]
  exact b
theorem SetG.keep {h h' : Heap} {a : Addr} {ks : List κ} (R : SetG kd h a ks) (k : ∀ o, h.get? a = some o → h'.get? a = some o) : SetG kd h' a ks := by
  obtain ⟨o, es, ep, t, ms, ho, r⟩ := R
  exact ⟨o, es, ep, t, ms, k o ho, r⟩
theorem SetG.setOf {h : Heap} {a : Addr} {ks : List κ} (R : SetG kd h a ks) : h.SetOf kd a (fun k => decide (k ∈ ks)) ks.length := by
  obtain ⟨o, es, ep, t, ms, ho, hx, hd, q, p, nd, b, T⟩ := R
  refine ⟨o, es, ep, t, ho, hx, hd, Ent.elems q, fun k => ?_, b, T.fits, ?_⟩
  · rw [decide_eq_true_eq, ← p.mem_iff]
    exact Ent.find q k
  · rw [← p.length_eq, ← paired_len q, Array.length_toList]
theorem setG_fresh {h : Heap} : SetG kd (h.push { cls := .type "set", dict := none, data := .set #[] 0 (.fresh 0 0 (!w.params.followText "set-order")) }) h.objs.size [] := by
  refine ⟨_, #[], 0, _, [], Heap.get?_push_size _ rfl, ⟨rfl, rfl, rfl⟩, rfl, .nil, .refl _, .nil, by decide, ⟨by rfl, List.Pairwise.nil, ?_⟩⟩
  show _ ∨ (!w.params.followText "set-order") = true
  cases w.params.followText "set-order" with
  | true => exact .inl rfl
  | false => exact .inr rfl
section
variable {A : Around} {E : Value → Shared → Prop} {s : Shared} {a : Addr}
/-- what lies behind a put: the new entries, the table perhaps laid anew -/
theorem put_tail {gw : Bool → Sem Unit} (hg : ∀ (b : Bool) (s1 : Shared) (Z : Unit → Shared → Prop), Z () s1 → wpAny (model P w) A (gw b) Z E s1) {o : Obj} {es : Array (Int × Value)} {ep : Nat} {t : SetTable} (ho : s.heap.get? a = some o) (hx : o.ExactSet) (hd : o.data = .set es ep t)
    {fs : Array (Int × Value)} {u : SetTable} {ms ks : List κ} (q : Paired (Ent kd) fs.toList ms) (p : ms.Perm ks) (nd : ks.Nodup) (b : fs.size < scanBound) (T : TabW w u fs.size) {dm : Bool} {R : Option Bool → Shared → Prop}
    (hR : ∀ h', Heap.SameBut a s.heap h' → SetG kd h' a ks → R (some true) { s with heap := h' }) :
    wpAny (model P w) A (do
        storeSet a fs u
        if (!dm && u.tooFull) = true then do
            gw (relayAll u fs (SetTable.grown fs.size)).2.2
            storeSet a (relayAll u fs (SetTable.grown fs.size)).1 (relayAll u fs (SetTable.grown fs.size)).2.1
            pure (some true)
          else pure (some true)) R E s := by
  have o1 := store_at (es' := fs) (t' := u) ho hd
  have b1 := Heap.SameBut.update s.heap a (Obj.putSet fs u)
  refine wpAny_bind (wpAny_storeSet_of ho hd ?_ (fits_of_scanBound b))
  by_cases c : (!dm && u.tooFull) = true
  · rw [if_pos c]
    have z1 := relayAll_perm u fs (SetTable.grown fs.size)
    have z2 := relayAll_fits u fs (SetTable.grown fs.size)
    have z3 := relayAll_ris u fs (SetTable.grown fs.size)
    have z4 := relayAll_led u fs (SetTable.grown fs.size)
    generalize relayAll u fs (SetTable.grown fs.size) = z at z1 z2 z3 z4 ⊢
    obtain ⟨gs, v, gv⟩ := z
    dsimp only at z1 z2 z3 z4 ⊢
    obtain ⟨m2, p2, q2⟩ := paired_perm z1 q
    have lz : gs.size = fs.size := by rw [← Array.length_toList, z1.length_eq, Array.length_toList]
    refine wpAny_bind (hg _ _ _ (wpAny_bind (wpAny_storeSet_of o1 rfl (wpAny_pure (hR _ (b1.trans (Heap.SameBut.update _ a _)) ?_)) (fits_of_scanBound (lz ▸ b)))))
    exact ⟨_, gs, _, v, m2, store_at (es' := gs) (t' := v) o1 rfl, hx, rfl, q2, p2.trans p, nd, lz ▸ b, ⟨z2, z3, T.led.imp id fun y => z4.trans y⟩⟩
  · rw [if_neg c]
    exact wpAny_pure (hR _ b1 ⟨_, fs, _, u, ms, o1, hx, rfl, q, p, nd, b, T⟩)
/-- a key added -/
theorem putG {ks : List κ} {k : κ} {v : Value} {Q : Bool → Shared → Prop} (R : SetG kd s.heap a ks) (hk : kd.is k v = true) (hv : v.scannable = true) (room : ks.length + 1 < scanBound)
    (hQ : ∀ h', Heap.SameBut a s.heap h' → SetG kd h' a (if k ∈ ks then ks else k :: ks) → Q (!decide (k ∈ ks)) { s with heap := h' }) : wpAny (model P w) A (setAddHashed a v (kd.hash k)) Q E s := by
  obtain ⟨o, es, ep, t, ms, ho, hx, hd, q, p, nd, b, T⟩ := id R
  have el := Ent.elems q
  unfold setAddHashed setAddHashedIn
  refine wpAny_holding (wpAny_bind (wpAny_setState_of ho hd T.fits ?_))
  dsimp only
  rw [byScan_of hv b el]
  simp only [↓reduceIte]
  unfold setAddByScan
  refine wpAny_bind (wpAny_bind (wpAny_rule (wpAny_bind (wpAny_setScan_of hk ho hd T.fits el ?_))))
  cases fi : es.toList.findIdx? (fun e => kd.is k e.2) with
  | some j =>
    obtain ⟨hj, pj, _⟩ := List.findIdx?_eq_some_iff_getElem.mp fi
    have kin : k ∈ ks := p.mem_iff.mp ((Ent.find q k).mpr ⟨_, List.getElem_mem hj, pj⟩)
    have z := hQ s.heap (.refl a s.heap)
    rw [if_pos kin, decide_eq_true kin] at z
    exact wpAny_pure (wpAny_pure (z R))
  | none =>
    have kn : k ∉ ks := fun h => by
      obtain ⟨e, he, r⟩ := (Ent.find q k).mp (p.mem_iff.mpr h)
      have := List.findIdx?_eq_none_iff.mp fi e he
      rw [r] at this
      cases this
    have z1 := layNew_perm t es (kd.hash k) v
    have z2 := layNew_fits t es (kd.hash k) v
    have z3 := layNew_ris t es (kd.hash k) v T.ris
    have z4 := layNew_led t es (kd.hash k) v
    dsimp only
    generalize layNew t es (kd.hash k) v = z at z1 z2 z3 z4 ⊢
    obtain ⟨fs, u, dm, gv⟩ := z
    dsimp only at z1 z2 z3 z4 ⊢
    rw [Array.toList_push] at z1
    have c1 : fs.toList.Perm ((kd.hash k, v) :: es.toList) := z1.trans (List.perm_append_singleton _ _)
    obtain ⟨m2, p2, q2⟩ := paired_perm c1 (.cons (⟨hk, rfl, hv⟩ : Ent kd (kd.hash k, v) k) q)
    have p3 : m2.Perm (k :: ks) := p2.trans (p.cons k)
    have nd3 : (k :: ks).Nodup := List.nodup_cons.mpr ⟨kn, nd⟩
    have lf : fs.size = ks.length + 1 := by rw [← Array.length_toList, paired_len q2, p3.length_eq, List.length_cons]
    have T1 : TabW w u fs.size := ⟨z2, z3, T.led.imp id fun y => z4.trans y⟩
    have fin : ∀ h', Heap.SameBut a s.heap h' → SetG kd h' a (k :: ks) → Q true { s with heap := h' } := fun h' sb r => by
      have z := hQ h' sb
      rw [if_neg kn, decide_eq_false kn] at z
      exact z r
    have gw : ∀ (b : Bool) (s1 : Shared) (Z : Unit → Shared → Prop), Z () s1 → wpAny (model P w) A (match b with | true => rule "set.scan.the-table-gave-way" | false => pure ()) Z E s1 := fun b s1 Z h => by
      cases b with
      | true => exact wpAny_rule h
      | false => exact wpAny_pure h
    refine wpAny_bind ?_
    first
      | refine gw _ _ _ ?_
      | skip
    split
    · refine wpAny_bind ?_
      rw [hashByValue_scannable 8 hv]
      refine wpAny_pure ?_
      refine put_tail gw ho hx hd q2 p3 nd3 (lf ▸ room) ?_ fun h' sb r => wpAny_pure (fin h' sb r)
      first
        | exact T1
        | (split
           · exact T1
           · exact ⟨SetTable.fits_plain_off T1.fits, T1.ris, T1.led⟩)
    · refine wpAny_bind (wpAny_pure ?_)
      simp only [↓reduceIte]
      exact put_tail gw ho hx hd q2 p3 nd3 (lf ▸ room) T1 fun h' sb r => wpAny_pure (fin h' sb r)
end
end
end TxS
set_option Elab.async false
set_option linter.all false
set_option maxRecDepth 100000
set_option maxHeartbeats 6400000
/-! set(xs), xs a list of keys of one kind. -/
namespace TxS
open PySem PySem.Spec PyProof.Rows L2
/-- the keys met, each once, the last new one first -/
def met {κ : Type} [DecidableEq κ] : List κ → List κ → List κ
  | ks, [] => ks
  | ks, k :: r => met (if k ∈ ks then ks else k :: ks) r
theorem met_snoc {κ : Type} [DecidableEq κ] : ∀ (r ks : List κ) (k : κ), met ks (r ++ [k]) = if k ∈ met ks r then met ks r else k :: met ks r
  | [], _, _ => rfl
  | x :: r, ks, k => met_snoc r _ k
theorem met_len {κ : Type} [DecidableEq κ] : ∀ (r ks : List κ), (met ks r).length ≤ ks.length + r.length
  | [], ks => Nat.le_refl _
  | x :: r, ks => by
    have h := met_len r (if x ∈ ks then ks else x :: ks)
    have z : (if x ∈ ks then ks else x :: ks).length ≤ ks.length + 1 := by
      by_cases c : x ∈ ks
      · rw [if_pos c]; omega
      · rw [if_neg c, List.length_cons]; omega
    rw [List.length_cons]
    exact Nat.le_trans h (by omega)
theorem met_mem {κ : Type} [DecidableEq κ] {x : κ} : ∀ (r ks : List κ), x ∈ met ks r ↔ x ∈ ks ∨ x ∈ r
  | [], ks => by show x ∈ ks ↔ _; simp
  | y :: r, ks => by
    show x ∈ met (if y ∈ ks then ks else y :: ks) r ↔ _
    rw [met_mem r, List.mem_cons]
    by_cases c : y ∈ ks
    · rw [if_pos c]
      exact ⟨fun h => h.imp id .inr, fun h => h.elim .inl fun h => h.elim (fun e => .inl (e ▸ c)) .inr⟩
    · rw [if_neg c, List.mem_cons]
      exact ⟨fun h => h.elim (fun h => h.elim (fun e => .inr (.inl e)) .inl) fun h => .inr (.inr h), fun h => h.elim (fun h => .inl (.inr h)) fun h => h.elim (fun e => .inl (.inl e)) .inr⟩
theorem met_nodup {κ : Type} [DecidableEq κ] : ∀ (r ks : List κ), ks.Nodup → (met ks r).Nodup
  | [], _, h => h
  | y :: r, ks, h => by
    refine met_nodup r _ ?_
    by_cases c : y ∈ ks
    · rw [if_pos c]; exact h
    · rw [if_neg c]; exact List.nodup_cons.mpr ⟨c, h⟩
section
variable {P : Program} {w : World} {κ : Type} [DecidableEq κ] {kd : KeyKind P w κ} {A : Around} {R : Result → Shared → Prop} {it S : Addr} {fp wr : List Addr} {G : Array GenState → Array GenState → Prop} {Pv : Nat → Value → Prop} {St : Nat → Shared → Prop}
/-- the loop that takes the keys in -/
theorem upd_loop (xs : List κ) (W : WalksS P w A.in1 it fp wr G xs.length Pv St) (hS : S ∉ fp) (hv : ∀ i v, Pv i v → ∃ k, xs[i]? = some k ∧ kd.is k v = true ∧ v.scannable = true) (hb : xs.length + 1 < scanBound) :
    ∀ (m i : Nat) (s : Shared), xs.length - i = m → i ≤ xs.length → St i s → SetG kd s.heap S (met [] (xs.take i)) →
      (∀ z, Moved (S :: wr) G s z → SetG kd z.heap S (met [] xs) → R (.ok (.ret .none)) z) → codeAny (model P w) A (.builtin "set.update.loop" ⟨[.ref S, .ref it], []⟩) R s := by
  have hw : S ∉ wr := fun h => hS (W.sub _ h)
  have sb : ∀ b ∈ wr, b ∈ S :: wr := fun b h => .tail _ h
  intro m
  induction m with
  | zero =>
    intro i s hm hi st g hR
    obtain rfl : i = xs.length := by omega
    rw [List.take_length] at g
    refine codeAny_builtin F.entry_set_update_loop ?_
    rw [Around.under_plainId F.plain_set_update_loop _]
    refine wpAny_bind (m := pyNext (.ref it)) (W.done s _ _ st fun z mv => wpAny_pure (hR z (mv.mono sb) (g.keep fun o e => mv.heap S o hw e)))
  | succ m ih =>
    intro i s hm hi st g hR
    have lt : i < xs.length := by omega
    refine codeAny_builtin F.entry_set_update_loop ?_
    rw [Around.under_plainId F.plain_set_update_loop _]
    refine wpAny_bind (m := pyNext (.ref it)) (W.item i s _ _ lt st fun v z pv st1 mv => ?_)
    obtain ⟨k, ek, hk, sc⟩ := hv i v pv
    have g1 : SetG kd z.heap S (met [] (xs.take i)) := g.keep fun o e => mv.heap S o hw e
    have lm : (met [] (xs.take i)).length ≤ i := Nat.le_trans (met_len _ _) (by rw [List.length_take]; simp; omega)
    have et : xs.take (i + 1) = xs.take i ++ [k] := by rw [List.take_succ, ek]; rfl
    refine wpAny_bind (m := holding [v] (setAdd S v)) (wpAny_holding ?_)
    unfold setAdd
    refine wpAny_holding (wpAny_bind (kd.pyHash (k := k) hk ?_))
    refine putG (s := { z with toks := z.toks + 1 }) g1 hk sc (by omega) fun h' same g2 => ?_
    have ne : ∀ b ∈ fp, b ≠ S := fun b hb e => hS (e ▸ hb)
    refine wpAny_pure ⟨plainId_quiet F.plain_set_update_loop _, ih (i + 1) _ (by omega) lt (W.frame _ z _ _ st1 (Nat.le_succ _) fun b hb o e => (same.2 b (ne b hb)).trans e) ?_ fun y mv2 g3 => ?_⟩
    · rw [et, met_snoc]
      exact g2
    · refine hR y (Moved.trans W.gtrans ((mv.mono sb).then_heap (Nat.le_succ _) fun b o hb e => ?_) mv2) g3
      exact (same.2 b fun e => hb (e ▸ List.mem_cons_self)).trans e
end
end TxS
set_option Elab.async false
set_option linter.all false
set_option maxRecDepth 100000
set_option maxHeartbeats 6400000
/-! The call of set with a list of keys; what sorted makes of such a set of texts. -/
namespace TxS
open PySem PySem.Spec PyProof.Rows L2
/-- a new set's object -/
abbrev o0 (w : World) : Obj := { cls := .type "set", dict := none, data := .set #[] 0 (.fresh 0 0 (!w.params.followText "set-order")) }
section
variable {P : Program} {w : World} {κ : Type} [DecidableEq κ] {kd : KeyKind P w κ} {A : Around} {E : Value → Shared → Prop} {s : Shared}
theorem call_setG {l : Addr} {vs : Array Value} (xs : List κ) {Q : Value → Shared → Prop} (hh : A.handled = none) (hl : s.heap.IsList l vs) (hi : Paired (fun v k => kd.is k v = true ∧ v.scannable = true) vs.toList xs) (hb : xs.length + 1 < scanBound)
    (h : ∀ (h' : Heap) (tk : Nat), SetG kd h' s.heap.objs.size (met [] xs) → (∀ b o, s.heap.get? b = some o → h'.get? b = some o) → Q (.ref s.heap.objs.size) { s with heap := h', toks := tk }) :
    wpAny (model P w) A (call (.type "set") [.ref l]) Q E s := by
  have len : vs.size = xs.length := by rw [← Array.length_toList]; exact paired_len hi
  obtain ⟨_, _, mro⟩ := F.called_set.mro
  have made := F.called_set.made
  have sub := F.called_set.sub
  have nt := F.called_set.notType
  have cc := F.called_set.canCreate
  have tc := F.typeCall_set_1 (.ref l)
  refine wpAny_call (codeAny_of_tree (show wpAny _ _ (callAny (.type "set") _) _ _ _ from wpAny_pure ⟨Code.quiet_builtin _ (by decide +kernel), codeAny_builtin F.entry_type_call ?_⟩))
  rw [Around.under_plain (weight_type_call_type "set" [.ref l] []) rfl]
  repeat (any_goals (first | assumption | wp_step))
  refine codeAny_mono (code_set_led1 (.ref l) (E := E) (Q₁ := fun u z => u = .ref s.heap.objs.size ∧ z = { s with heap := s.heap.push (o0 w) }) ⟨rfl, rfl⟩) fun r z hr => ?_
  cases r with
  | error e => exact hr
  | ok fl =>
    cases fl with
    | ret u =>
      obtain ⟨rfl, rfl⟩ := hr
      have at0 : (s.heap.push (o0 w)).get? s.heap.objs.size = some (o0 w) := Heap.get?_push_size _ rfl
      have ty0 : Shared.TypeIs { s with heap := s.heap.push (o0 w) } (.ref s.heap.objs.size) "set" := ⟨_, at0, rfl⟩
      have look := F.called_set.init.lookup
      have bnd := F.called_set.init.bind (.ref s.heap.objs.size)
      repeat (any_goals (first | assumption | wp_step))
      refine codeAny_mono (codeAny_call_builtin (R := wants (fun r z => r = .none ∧ ∃ h' tk, z = { s with heap := h', toks := tk } ∧ SetG kd h' s.heap.objs.size (met [] xs) ∧ ∀ b o, s.heap.get? b = some o → h'.get? b = some o) E) F.called_set.init.plain F.entry_set_init (check_set_init_1 ty0 ?_)) fun r2 z2 h2 => ?_
      · have hlS : l < s.heap.objs.size := let ⟨_, e, _⟩ := hl; Heap.lt_size e
        have li : (s.heap.push (o0 w)).IsList l vs := hl.push _
        obtain ⟨⟨c1, c2, c3, c4⟩, lo, lc, ln, ld⟩ := id li
        simp only at lc ld
        subst lc ld
        have t1 := F.sub_list_set
        have t2 := F.sub_list_frozenset
        have t3 : (Value.type "list" == Value.type "dict") = false := by decide
        unfold Builtin.«set.__init__» noKeywords Builtin.Frozenset.updateFrom
        generalize pe : pyIter = PE
        wp_walk
        subst pe
        refine wpAny_pyIter_list li (wpAny_bind (wpAny_runValue ?_))
        have zz : (s.heap.push (o0 w)).objs.size = s.heap.objs.size + 1 := Heap.size_push ..
        have n1 : l ≠ (s.heap.push (o0 w)).objs.size := by rw [zz]; exact Nat.ne_of_lt (Nat.lt_succ_of_lt hlS)
        have n2 : s.heap.objs.size ∉ [(s.heap.push (o0 w)).objs.size, l] := fun m => by
          rcases List.mem_cons.mp m with e | m
          · rw [zz] at e; exact Nat.ne_of_lt (Nat.lt_succ_self _) e
          · exact Nat.ne_of_gt hlS (List.mem_singleton.mp m)
        have hh3 : A.in1.in1.in1.handled = none := hh
        have W := (Walks.list (prog := P) (w := w) hh3 (s.heap.push (o0 w)).objs.size l n1 vs).toS
        rw [len] at W
        refine upd_loop (kd := kd) xs W n2 (fun i v hv => ?_) hb xs.length 0 _ rfl (Nat.zero_le _) ⟨⟨_, Heap.get?_push_size _ rfl, rfl, rfl⟩, li.push _⟩ ((setG_fresh (kd := kd)).keep fun o e => Heap.get?_push_of_some _ e) fun z mv g => ?_
        · rw [← Array.getElem?_toList] at hv
          have : ∀ {a : List Value} {b : List κ} {i : Nat} {v : Value}, Paired (fun v k => kd.is k v = true ∧ v.scannable = true) a b → a[i]? = some v → ∃ k, b[i]? = some k ∧ kd.is k v = true ∧ v.scannable = true := by
            intro a b i v p
            induction p generalizing i with
            | nil => intro e; simp at e
            | cons x y ih =>
              cases i with
              | zero => intro e; simp at e; subst e; exact ⟨_, rfl, x⟩
              | succ i => intro e; exact ih (by simpa using e)
          exact this hi hv
        · obtain ⟨zh, zg, zd, zt, zo⟩ := z
          have e1 : zg = s.gens := mv.gens
          have e2 : zd = s.drawn := mv.drawn
          have e3 : zo = s.os := mv.os
          subst e1 e2 e3
          refine wpAny_pure (wpAny_pure ⟨rfl, zh, zt, rfl, g, fun b o e => ?_⟩)
          have lb : b < s.heap.objs.size := Heap.lt_size e
          refine mv.heap b o (fun m => ?_) (Heap.get?_push_of_some _ (Heap.get?_push_of_some _ e))
          rcases List.mem_cons.mp m with e | m
          · exact Nat.ne_of_lt lb e
          · have e2 := List.mem_singleton.mp m
            rw [zz] at e2
            exact Nat.ne_of_lt (Nat.lt_succ_of_lt lb) e2
      · cases r2 with
        | error e => exact h2
        | ok fl2 =>
          cases fl2 with
          | ret r =>
            obtain ⟨rfl, h', tk, rfl, g, k⟩ := h2
            repeat (any_goals (first | assumption | wp_step))
            exact h _ _ g k
          | _ => exact h2.elim
    | _ => exact hr.elim
end
end TxS
set_option Elab.async false
set_option linter.all false
set_option maxRecDepth 100000
set_option maxHeartbeats 3200000
/-! sorted(a set of texts); both as calls. -/
namespace TxS
open PySem PySem.Spec PyProof.Rows L2
section
variable {P : Program} {w : World} {A : Around} {E : Value → Shared → Prop} {s : Shared} {a : Addr}
theorem ent_txt {l : List (Int × Value)} {ms : List Str} (q : Paired (Ent (PySem.strKind P w)) l ms) : StrsAre (l.map (·.2)) ms := by
  induction q with
  | nil => exact .nil
  | cons x _ ih =>
    obtain ⟨t, e⟩ := Value.isStrOf_shape x.is
    rw [List.map_cons, e]
    exact .cons _ t ih
theorem strs_perm {vs us : List Value} (p : vs.Perm us) : ∀ {ms : List Str}, StrsAre us ms → ∃ ns : List Str, ns.Perm ms ∧ StrsAre vs ns := by
  induction p with
  | nil => exact fun q => ⟨_, .refl _, q⟩
  | cons x _ ih =>
    intro m q
    cases q with
    | cons y t q => obtain ⟨n, h1, h2⟩ := ih q; exact ⟨_, h1.cons _, .cons y t h2⟩
  | swap x y l =>
    intro m q
    cases q with
    | cons y t q => cases q with
      | cons z u q => exact ⟨_, .swap _ _ _, .cons z u (.cons y t q)⟩
  | trans _ _ h1 h2 =>
    intro m q
    obtain ⟨n, p1, q1⟩ := h2 q
    obtain ⟨n2, p2, q2⟩ := h1 q1
    exact ⟨n2, p2.trans p1, q2⟩
theorem sorted_setTx {ks : List Str} {Q : Value → Shared → Prop} (R : SetG (PySem.strKind P w) s.heap a ks) (hh : A.handled = none)
    (hQ : ∀ (z : Shared) (p : Addr) (out : Array Value) (c : Nat) (ys : List Str), (∀ b o, s.heap.get? b = some o → z.heap.get? b = some o) → z.gens = s.gens → z.os = s.os → s.heap.objs.size ≤ p → z.heap.get? p = some (seqObj "list" out c) → StrsAre out.toList ys → ys.Perm ks → sortedS ys = true → Q (.ref p) z) :
    wpAny (model P w) A (call (.builtin "sorted") [.ref a]) Q E s := by
  have few := R.size
  obtain ⟨o, es, ep, t, ms, ho, hx, hd, q, pm, nd, b, T⟩ := R
  refine Calls.call_function_entry kind_sorted plain_sorted entry_sorted (args_sorted1 _) ?_
  unfold Builtin.«sorted»
  refine wpAny_bind (m := checkCount "sorted" 1 1 _) (wpAny_pure (wpAny_bind (collect_set (A := A.in1) hh ⟨o, ho, hx.1, hd⟩ T.fits b T.ris T.led fun z vs k1 hz g1 o1 pv => ?_)))
  obtain ⟨ns, p2, sv⟩ := strs_perm pv (ent_txt q)
  have lv : vs.length ≤ sizeLine := by
    rw [pv.length_eq, List.length_map, Array.length_toList]
    exact fits_of_scanBound b
  have l4 : vs.length < scanBound := by
    rw [pv.length_eq, List.length_map, Array.length_toList]
    exact b
  refine wpAny_bind (wpAny_newList ?_ (Nat.le_trans (Nat.le_of_lt l4) (by decide)))
  have at1 : (z.heap.push (seqObj "list" vs.toArray 0)).get? z.heap.objs.size = some (seqObj "list" vs.toArray 0) := Heap.get?_push_size _ rfl
  refine wpAny_bind (wpAny_holding (wpAny_call_entry slot_list_sort ⟨_, at1, rfl⟩ entry_list_sort (list_sort_treeKAny strKind_oneLt at1 sv.keysOf (fun x y r e => keyKind_strs (by rw [← e]; exact sv)) lv fun st hp hs => ?_) (args_list_sort _)))
  obtain ⟨ys, y1, y2, y3⟩ := sorted_out_str sv hp hs
  obtain ⟨c, hc⟩ := sortedHeap_at (vs := vs) (out := (arrOf st).map (·.2)) at1
  refine ⟨_, rfl, wpAny_pure ⟨_, rfl, hQ _ z.heap.objs.size _ c ys (fun b u e => ?_) g1 o1 hz hc y1 (y2.trans (p2.trans pm)) y3⟩⟩
  have e1 := k1 b u e
  have lt := Heap.lt_size e1
  refine Eq.trans (sortedHeap_old (Nat.ne_of_lt lt) ?_) (Heap.get?_push_of_some _ e1)
  rw [size_push']
  exact Nat.lt_succ_of_lt lt
end
/-- the set of texts at a -/
def SetTxO (P : Program) (w : World) (a : Addr) (ks : List Str) : HO := .ext fun h => SetG (PySem.strKind P w) h a ks
theorem setTxO_ok {P : Program} {w : World} {H : Hp} {h : Heap} {a : Addr} {ks : List Str} (R : SetG (PySem.strKind P w) h a ks) : ObjOk P w H h a (SetTxO P w a ks) := by
  have ⟨o, _, _, _, _, ho, _⟩ := R
  exact ⟨R, ⟨o, ho⟩, fun h1 h2 p k => SetG.keep p k⟩
def rSetTx (K : PySem.W.Frag) (P : Program) (w : World) : List V → Hp → VK → Prop := fun xs H Q => ∃ (l : Addr) (ss : List Str), xs = [V.ref l] ∧ SqL K H l (ss.map V.str) ∧ ss.length + 1 < scanBound ∧ ∀ p, H p = none → Q (.ref p) (upd H p (SetTxO P w p (met [] ss)))
def rSortTx (P : Program) (w : World) : List V → Hp → VK → Prop := fun xs H Q => ∃ (a : Addr) (ks : List Str), xs = [V.ref a] ∧ H a = some (SetTxO P w a ks) ∧ ∀ (ys : List Str) (p : Addr), ys.Perm ks → sortedS ys = true → H p = none → Q (.ref p) (upd H p (.lst (ys.map V.str)))
section
variable {X : Cx}
theorem vals_ent : ∀ {ss : List Str} {us : List Value}, Vals (ss.map V.str) us → Paired (fun v k => (PySem.strKind X.prog X.w).is k v = true ∧ v.scannable = true) us ss
  | [], _, .nil => .nil
  | s :: ss, _, .cons r t => by
    obtain ⟨tk, rfl⟩ := r
    exact .cons ⟨strKind_is _ _ _ _, rfl⟩ (vals_ent t)
theorem cr_setTx (hc : X.calm = true) : CallR X (.type "set") (rSetTx X.K X.prog X.w) := by
  intro pins s σ H xs us Q I r h
  obtain ⟨l, ss, rfl, hl, hb, q⟩ := h
  rw [Vals.ref1 r]
  obtain ⟨its, rv, pl, hz⟩ := I.list hl
  refine call_setG (kd := PySem.strKind X.prog X.w) ss (I.ok.hd hc) pl.isList (vals_ent rv) hb fun h' tk g k => ?_
  exact ⟨.ref s.heap.objs.size, upd H s.heap.objs.size (SetTxO X.prog X.w s.heap.objs.size (met [] ss)), I.laid (t' := tk) k (Nat.le_refl _) (setTxO_ok g), rfl, q _ (I.hok.fresh (Nat.le_refl _))⟩
theorem cr_sortTx (hc : X.calm = true) : CallR X (.builtin "sorted") (rSortTx X.prog X.w) := by
  intro pins s σ H xs us Q I r h
  obtain ⟨a, ks, rfl, ha, q⟩ := h
  rw [Vals.ref1 r]
  have R : SetG (PySem.strKind X.prog X.w) s.heap a ks := (I.hok a _ ha).1
  have few := R.size
  refine sorted_setTx R (I.ok.hd hc) fun z p out c ys k g o hp hg hi pm so => ?_
  have len : (ys.map V.str).length ≤ sizeLine := by
    rw [List.length_map, pm.length_eq]
    exact Nat.le_trans (Nat.le_of_lt few) (by decide)
  have hn : H p = none := I.hok.fresh hp
  obtain ⟨zh, zg, zd, zt, zo⟩ := z
  subst o
  have J : Inv X pins σ (upd H p (.lst (ys.map V.str))) { s with heap := zh, gens := zg, drawn := zd, toks := zt } :=
    I.call (ch := []) (Un.laid k hp hn) (I.hok.laid k hp ⟨len, out.toList, c, vals_of_strs hi, hg⟩) (by rw [show zg = s.gens from g]; exact I.bare) (fun _ z => nomatch z)
  exact ⟨.ref p, _, J, rfl, q ys p pm so hn⟩
end
end TxS
set_option Elab.async false
set_option linter.all false
set_option maxRecDepth 100000
set_option maxHeartbeats 1000000
/-! A slice as an own list; an own list passed to a class and kept: what is made has no list in it. -/
namespace Dl
open PySem PySem.Spec PyProof.Rows L2 Ev
section
variable {K : PySem.W.Frag}
theorem hid1 {H : Hp} {c a : Addr} {u w : HO} (e : H c = some w) (n : u ≠ w) (h : H a = some u) : hid [c] H a = some u := by
  rw [hid_out]
  · exact h
  · intro z
    rw [List.mem_singleton] at z
    subst z
    rw [h] at e
    exact n (Option.some.inj e)
theorem rd1 {H : Hp} {c a : Addr} {u w : HO} (e : H c = some w) (n : u ≠ w) (n' : ∀ o, HO.frz o u ≠ w) (h : Rd H a u) : Rd (hid [c] H) a u := by
  rcases h with h | ⟨o, h⟩
  · exact .inl (hid1 e n h)
  · exact .inr ⟨o, hid1 e (n' o) h⟩
theorem rdK1 {H : Hp} {c a : Addr} {ws : List V} {kvs : List (Key × V)} (e : H c = some (.lst ws)) (h : Rd H a (.dK kvs)) : Rd (hid [c] H) a (.dK kvs) := rd1 e (fun z => nomatch z) (fun _ z => nomatch z) h
theorem sqT1 {H : Hp} {c a : Addr} {ws xs : List V} (e : H c = some (.lst ws)) (h : SqT K H a xs) : SqT K (hid [c] H) a xs := by
  rcases h with h | h
  · exact .inl (rd1 e (fun z => nomatch z) (fun _ z => nomatch z) h)
  · exact .inr h
end
mutual
def nlD {O : Type} (ok : O → Bool) : D O → Bool
  | .lst _ => false
  | .tup xs => nlL ok xs
  | .dic kvs => nlK ok kvs
  | .obj o => ok o
  | _ => true
def nlL {O : Type} (ok : O → Bool) : List (D O) → Bool
  | [] => true
  | x :: xs => nlD ok x && nlL ok xs
def nlK {O : Type} (ok : O → Bool) : List (Key × D O) → Bool
  | [] => true
  | x :: xs => nlD ok x.2 && nlK ok xs
end
section
variable {O : Type} {ok : O → Bool}
theorem nl_tup {xs : List (D O)} (h : nlD ok (.tup xs) = true) : nlL ok xs = true := by rw [nlD] at h; exact h
theorem nl_dic {xs : List (Key × D O)} (h : nlD ok (.dic xs) = true) : nlK ok xs = true := by rw [nlD] at h; exact h
theorem nl_lst {xs : List (D O)} (h : nlD ok (.lst xs) = true) : False := by rw [nlD] at h; cases h
theorem nl_obj {o : O} (h : nlD ok (.obj o) = true) : ok o = true := by rw [nlD] at h; exact h
theorem nl_cons {x : D O} {xs : List (D O)} (h : nlL ok (x :: xs) = true) : nlD ok x = true ∧ nlL ok xs = true := by rw [nlL, Bool.and_eq_true] at h; exact h
theorem nlk_cons {x : Key × D O} {xs : List (Key × D O)} (h : nlK ok (x :: xs) = true) : nlD ok x.2 = true ∧ nlK ok xs = true := by rw [nlK, Bool.and_eq_true] at h; exact h
variable {K : PySem.W.Frag}
theorem Rep.unl {R : RelO K O} {H : Hp} {c : Addr} {ws : List V} (e : H c = some (.lst ws)) (ih : ∀ a o, ok o = true → R.1 H a o → R.1 (hid [c] H) a o) {v : V} {d : D O} (r : Rep (thR R) H v d) : nlD ok d = true → Rep (thR R) (hid [c] H) v d :=
  Rep.rec (motive_1 := fun v d _ => nlD ok d = true → Rep (thR R) (hid [c] H) v d) (motive_2 := fun vs ds _ => nlL ok ds = true → RepL (thR R) (hid [c] H) vs ds) (motive_3 := fun vs ds _ => nlK ok ds = true → RepK (thR R) (hid [c] H) vs ds)
    (fun _ => .non) (fun b _ => .bl b) (fun i _ => .int i) (fun s z _ => .str s z) (fun n _ => .ty n) (fun x _ => .cls x) (fun a _ => .ptr a)
    (fun a _ ih n => .tup (sqT1 e a) (ih (nl_tup n))) (fun _ _ _ n => (nl_lst n).elim) (fun a _ ih n => .dic (rdK1 e a) (ih (nl_dic n)))
    (fun a n => .obj (ih _ _ (nl_obj n) a)) (fun _ => .nil) (fun _ _ i1 i2 n => .cons (i1 (nl_cons n).1) (i2 (nl_cons n).2)) (fun _ => .nil) (fun _ _ i1 i2 n => .cons (i1 (nlk_cons n).1) (i2 (nlk_cons n).2)) r
end
/-! ### objects without lists -/
/-! ### objects without lists -/
def isB : PO → Bool
  | .base _ => true
  | _ => false
theorem noLs_all : ∀ {l : List (D PO)}, (∀ x ∈ l, nlD isB x = true) → nlL isB l = true
  | [], _ => by rw [nlL]
  | x :: xs, h => by
    rw [nlL, h x List.mem_cons_self, noLs_all fun y hy => h y (List.mem_cons_of_mem _ hy)]; rfl
theorem noLk_all : ∀ {l : List (Key × D PO)}, (∀ x ∈ l, nlD isB x.2 = true) → nlK isB l = true
  | [], _ => by rw [nlK]
  | x :: xs, h => by
    rw [nlK, h x List.mem_cons_self, noLk_all fun y hy => h y (List.mem_cons_of_mem _ hy)]; rfl
theorem noL_pD (p : Pt) : nlD isB (pD p) = true := by simp [nlD, isB]
theorem noL_pairs : ∀ ps : Pts, nlL isB ps.pairs = true
  | .nil => by rw [Pts.pairs, nlL]
  | .cons s p r => by
    rw [Pts.pairs, nlL, noL_pairs r]
    simp [nlD, nlL, isB]
theorem noL_two {s : Str} {p : Pt} : nlD isB (.tup [.str s, pD p]) = true := by
  simp [nlD, nlL, isB]
theorem noL_rowIn (p : Pt) (n : Nat) : nlL isB (rowIn p n) = true := noLs_all fun x hx => by
  obtain ⟨k, _, rfl⟩ := List.mem_map.mp hx
  exact noL_two
theorem noL_str {s : Str} : nlD isB (.str s) = true := by simp [nlD]
theorem noL_int {s : Int} : nlD isB (.int s) = true := by simp [nlD]
theorem noLs1 {x : D PO} (h : nlD isB x = true) : nlL isB [x] = true := by rw [nlL, h, nlL]; rfl
theorem noLs2 {x y : D PO} (h : nlD isB x = true) (h' : nlD isB y = true) : nlL isB [x, y] = true := by rw [nlL, h, noLs1 h']; rfl
theorem noL_flds (a : Addr) (p : Pt) : ∀ f ∈ p.flds (p.endsA a), nlD isB f.2 = true := by
  have he : nlK isB (p.endsA a) = true := by
    have he' : nlK isB (endsD p.ends) = true := noLk_all fun x hx => by
      obtain ⟨k, _, rfl⟩ := List.mem_map.mp hx
      exact noL_pD _
    cases p with
    | kind s t => show nlK isB [(_, D.ptr a)] = true; simp [nlK, nlD]
    | use s => show nlK isB [(_, D.ptr a)] = true; simp [nlK, nlD]
    | byte => exact he'
    | row p n => exact he'
    | grp ov ps => exact he'
  have ht : nlL isB p.traits = true := by
    cases p with
    | byte => show nlL isB [] = true; rw [nlL]
    | kind s t => exact noLs2 noL_str noL_int
    | use s => exact noLs1 noL_str
    | row p n => exact noLs2 (noL_pD p) noL_int
    | grp ov ps => exact noL_pairs ps
  have hi : nlL isB p.inside = true := by
    cases p with
    | row p n => exact noL_rowIn p n
    | grp ov ps => exact noL_pairs ps
    | _ => show nlL isB [] = true; rw [nlL]
  have hm : ∀ f ∈ p.more, nlD isB f.2 = true := by
    cases p with
    | byte => exact fun f hf => nomatch hf
    | kind s t =>
      intro f hf
      rcases List.mem_cons.mp hf with rfl | hf
      · exact noL_str
      · rw [List.mem_singleton] at hf; subst hf; exact noL_int
    | use s => intro f hf; rw [Pt.more, List.mem_singleton] at hf; subst hf; exact noL_str
    | row p n =>
      intro f hf
      rcases List.mem_cons.mp hf with rfl | hf
      · exact noL_pD p
      · rw [List.mem_singleton] at hf; subst hf; exact noL_int
    | grp ov ps =>
      cases ov <;>
      · intro f hf; rw [Pt.more, List.mem_singleton] at hf; subst hf; show nlD isB (.tup ps.pairs) = true; rw [nlD]; exact noL_pairs ps
  intro f hf
  unfold Pt.flds at hf
  rcases List.mem_cons.mp hf with rfl | hf
  · exact noL_str
  rcases List.mem_cons.mp hf with rfl | hf
  · show nlD isB (.tup _) = true; rw [nlD]; exact ht
  rcases List.mem_cons.mp hf with rfl | hf
  · show nlD isB (.tup _) = true; rw [nlD]; exact hi
  rcases List.mem_cons.mp hf with rfl | hf
  · show nlD isB (.dic _) = true; rw [nlD]; exact he
  rcases List.mem_cons.mp hf with rfl | hf
  · exact noL_int
  rcases List.mem_cons.mp hf with rfl | hf
  · exact noL_int
  exact hm f hf
section
variable {K : PySem.W.Frag}
theorem paired_and {α β : Type} {F : α → β → Prop} {P : β → Prop} : ∀ {l : List α} {m : List β}, Paired F l m → (∀ y ∈ m, P y) → Paired (fun x y => F x y ∧ P y) l m
  | _, _, .nil, _ => .nil
  | _, _, .cons a b, h => .cons ⟨a, h _ List.mem_cons_self⟩ (paired_and b fun y hy => h y (List.mem_cons_of_mem _ hy))
theorem part_unl {es : List Str} {H : Hp} {c : Addr} {ws : List V} (e : H c = some (.lst ws)) : ∀ (n : Nat) (a : Addr) (p : Pt), (RSs K efP (shU [] es shP) n).1 H a (.base p) → (RSs K efP (shU [] es shP) n).1 (hid [c] H) a (.base p)
  | 0, a, p, h => h.elim
  | n + 1, a, p, h => by
    have h : ShAt (thR (RSs K efP (shU [] es shP) n)) efP H a (shP a p) := h
    show ShAt (thR (RSs K efP (shU [] es shP) n)) efP (hid [c] H) a (shP a p)
    unfold shP at h ⊢
    cases hw : p.wf with
    | false => rw [hw] at h; exact h.elim
    | true =>
      rw [hw] at h
      obtain ⟨dx, vs, e1, q⟩ := h
      exact ⟨dx, vs, hid1 e (fun z => nomatch z) e1, Paired.mapP (paired_and q (noL_flds a p)) fun x y z => ⟨z.1.1, Rep.unl (ok := isB) e (fun a o ho r => by
        cases o with
        | base p => exact part_unl e n a p r
        | _ => cases ho) z.1.2 z.2⟩⟩
theorem part_unl' {es : List Str} {H : Hp} {c a : Addr} {p : Pt} {ws : List V} (e : H c = some (.lst ws)) (h : (TP es K).RO H a (.base p)) : (TP es K).RO (hid [c] H) a (.base p) := by
  obtain ⟨n, h⟩ := h
  exact ⟨n, part_unl e n a p h⟩
end
section
variable {X : Cx} {T : Th X.K} {B : Ba} {ef : Str → List Str} {e : Expr} {pos p p0 : Pos} {k : Nat} {x y : Str} {ps : List Str}
/-- such objects stay what they are when a list is hidden -/
def UnL {K : PySem.W.Frag} (T : Th K) (ok : T.O → Prop) : Prop := ∀ (H : Hp) (c a : Addr) (o : T.O) (ws : List V), ok o → H c = some (.lst ws) → T.RO H a o → T.RO (hid [c] H) a o
def dNewV {K : PySem.W.Frag} {T : Th K} (ok : T.O → Prop) (sd : SpN T) (dfl : List (D T.O)) (i : Nat) : TDE T := fun g cs Q => match g[i]? with
  | some (some (.own j)) => (match cs[j]? with
    | some (.lst ds) => sd (.lst ds :: dfl) (fun o => ok o ∧ Q (.dat (.obj o)) cs) (noX T)
    | _ => False)
  | _ => False
theorem pd_newV {ok : T.O → Prop} {sd : SpN T} {dvs : List V} {dfl : List (D T.O)} {xd : Xd T} (i : Nat) (U : UnL T ok) (D : DefC X.prog X.w X.K X.mg X.base (L2.CX X.prog X.w) k x ps (spN T ef x sd) dvs) (hd : ∀ h, RepL T h dvs dfl) (hr : Room (k + 1) X.A) (hx : XP X ef B xd)
    (hN : X.N[i]? = some y := by rfl) (hv : Vis X.env.scope y := by first | exact Or.inl rfl | exact Or.inr (Or.inl rfl) | exact Or.inr (Or.inr rfl)) (hyd : (y == ("__debug__" : Str)) = false := by decide) (hyc : (y == ("__classdict__" : Str)) = false := by decide) (hg : Gl X x := by rfl) (hdb : (x == ("__debug__" : Str)) = false := by decide)
    (he : starEach [.Name y p0] X.env = (false, eval (.Name y p0) X.env) :: starEach [] X.env := by rfl) (hpl : (backTo pos (starEach [] X.env)).any (·.1) = false := by rfl) : PD B X (.Call (.Name x p) [.Name y p0] [] pos) (dNewV ok sd dfl i) :=
  PE.imp (Ev.pe_new D hr hg hx.ps (pda_cons (B := B) (pd_var i hN hv hyd hyc) pda_nil) hdb he hpl) fun σ H Q ⟨g, as, cs, q, st, h, k⟩ => by
    unfold dNewV at h
    cases eg : g[i]? with
    | none => rw [eg] at h; exact h.elim
    | some sg =>
      rw [eg] at h
      match sg, h with
      | some (.own j), h =>
        dsimp only at h
        cases ec : cs[j]? with
        | none => rw [ec] at h; exact h.elim
        | some cl =>
          rw [ec] at h
          match cl, h with
          | .lst ds, h =>
            refine ⟨g, as, cs, fun ss cs1 => ss = [.own j] ∧ cs1 = cs, st, (by unfold dCons dNil dVar; dsimp only; rw [eg]; exact ⟨rfl, rfl⟩), fun ss cs1 h1 vs as1 H1 x1 r1 => fun a dx ha hdx ne => ?_⟩
            obtain ⟨rfl, rfl⟩ := h1
            obtain ⟨o, eo, co⟩ := Paired.ix x1.c.cells ec
            match o, eo, co with
            | some c, eo, ⟨ws, hc, rw'⟩ =>
              match vs, r1 with
              | [v], .cons r1 .nil =>
                obtain ⟨hj, hp⟩ := r1
                have hp := hp c eo
                subst hp
                have cm : c ∈ ow as1 := mem_ow.mpr (List.mem_of_getElem? eo)
                have na : a ∉ B.Z ++ ow as1 := fun z => (x1.c.live a z).ne ha
                have S : Same H1 (upd (upd H1 dx (.own a)) a (.ins (He.ga X.K x) dx [])) := fun b o e => by
                  rw [upd_ne (ne_of_none e ha), upd_ne (ne_of_none e hdx)]; exact e
                have ca : c ≠ a := ne_of_none hc ha
                let Z0 : List Addr := (B.Z ++ ow as1).filter fun z => z != c
                have z0 : ∀ z, z ∈ Z0 ↔ z ∈ B.Z ++ ow as1 ∧ z ≠ c := fun z => by
                  show z ∈ List.filter _ _ ↔ _
                  rw [List.mem_filter]
                  simp
                refine ⟨Z0, a, dx, [.ref c] ++ dvs, .lst ds :: dfl, _, noX T, rfl, upd_same, by rw [upd_ne ne, upd_same], ne, fun z => na ((z0 a).mp z).1, fun z hz => (Live.same x1.c.live S) z ((z0 z).mp hz).1,
                  .cons (.lst (vs := ws) ?_ (rw'.mono ?_)) (hd _), h, fun o ho H' S' r => ⟨rfl, ?_⟩, fun y es hy => hy.elim⟩
                · rw [hid_out]
                  · exact S _ _ hc
                  · intro z
                    rcases List.mem_cons.mp z with z | z
                    · exact ca z
                    · exact ((z0 c).mp z).2 rfl
                · exact hid_same S fun b z => (List.mem_cons.mp z).elim (fun z => .inr (by rw [z]; exact ha)) fun z => .inl ((z0 b).mp z).1
                · have hc' : hid Z0 H' c = some (.lst ws) := by
                    rw [hid_out fun z => ((z0 c).mp z).2 rfl]
                    exact S' c _ ca (S _ _ hc)
                  have q := U _ c a o ws ho.1 hc' r
                  have eh : hid [c] (hid Z0 H') = hid (B.Z ++ ow as1) H' := by
                    funext z
                    by_cases e1 : z = c
                    · subst e1
                      rw [hid_in (List.mem_singleton.mpr rfl), hid_in (List.mem_append_right _ cm)]
                    · rw [hid_out (fun w => e1 (List.mem_singleton.mp w))]
                      by_cases e2 : z ∈ B.Z ++ ow as1
                      · rw [hid_in e2, hid_in ((z0 z).mpr ⟨e2, e1⟩)]
                      · rw [hid_out e2, hid_out fun w => e2 ((z0 z).mp w).1]
                  rw [eh] at q
                  exact k _ _ ho.2 _ as1 H' (x1.trans (Ex.grow x1.c fun b o e => S' b o (ne_of_none e ha) (S _ _ e))) (.obj q)
/-- a slice of a list, as an own list -/
def dSlO {K : PySem.W.Frag} {T : Th K} (te : TDE T) (tl th : TDO T) : TDE T := fun g cs Q => te g cs fun s cs1 => tl g cs1 fun lo cs2 => th g cs2 fun hi cs3 => on1 cs3 s fun d => match d with
  | .lst xs => Q (.own cs3.length) (cs3 ++ [.lst (cutD xs lo hi)])
  | _ => False
theorem pd_sliceO {p2 : Pos} {lo hi : Option Expr} {te : TDE T} {tl th : TDO T} (he : PD B X e te) (hl : PDO B X lo tl) (hu : PDO B X hi th) : PD B X (.Subscript e (.Slice lo hi none p2) pos) (dSlO te tl th) :=
  PE.imp (pe_slice sl_list he hl hu) fun σ H Q ⟨g, as, cs, q, st, h, k⟩ => ⟨g, as, cs, _, st, h, fun s cs1 h1 v as1 H1 x1 r1 => ⟨g, as1, cs1, _, st.step x1, h1, fun lo cs2 h2 as2 H2 x2 => ⟨g, as2, cs2, _, (st.step x1).step x2, h2, fun hi cs3 h3 as3 H3 x3 => by
    obtain ⟨d, e1, h3⟩ := on1_of h3
    cases d with
    | lst xs =>
      obtain ⟨a, vs, ev, e2, e3⟩ := TRep.of_lst hid_sub (slot_view x3.c ((r1.mono x2.same x2.lk).mono x3.same x3.lk) e1)
      exact ⟨a, vs, ev, SqL.of e2, fun p hp => k _ _ h3 _ _ _ (x1.trans (x2.trans (x3.trans (Ex.own x3.c hp ⟨_, upd_same, e3.cut lo hi⟩)))) (by rw [← x3.c.len]; exact own_slot)⟩
    | _ => exact h3.elim⟩⟩⟩
end
end Dl
set_option Elab.async false
set_option linter.all false
set_option maxRecDepth 100000
set_option maxHeartbeats 1000000
/-! sorted(set(e)): what is met of a list of texts, each once, in order. -/
namespace Dl
open PySem PySem.Spec PyProof.Rows L2 Ev TxS
section
variable {X : Cx} {T : Th X.K} {B : Ba} {e : Expr} {p p2 pos pos2 : Pos}
def fSetS {K : PySem.W.Frag} {T : Th K} : D T.O → (D T.O → Prop) → Prop := fun d k => match d with
  | .lst ds => match strsL ds with
    | some ss => ss.length + 1 < scanBound ∧ ∀ ys : List Str, ys.Perm (met [] ss) → sortedS ys = true → k (.lst (ys.map .str))
    | none => False
  | _ => False
def dSortSet {K : PySem.W.Frag} {T : Th K} (te : TDE T) : TDE T := fun g cs Q => te g cs fun s cs1 => on1 cs1 s fun d => fSetS d fun d' => Q (.dat d') cs1
theorem pd_sortSet {te : TDE T} (hc : X.calm = true) (hm : X.mg "sorted" = none) (hms : X.mg "set" = none) (he : PD B X e te) (hg : Gl X "sorted" := by rfl) (hgs : Gl X "set" := by rfl)
    (e1 : starEach [e] X.env = (false, eval e X.env) :: starEach [] X.env := by rfl) (e2 : (backTo pos2 (starEach [] X.env)).any (·.1) = false := by rfl)
    (e3 : starEach [.Call (.Name "set" p2) [e] [] pos2] X.env = (false, eval (.Call (.Name "set" p2) [e] [] pos2) X.env) :: starEach [] X.env := by rfl) (e4 : (backTo pos (starEach [] X.env)).any (·.1) = false := by rfl) :
    PD B X (.Call (.Name "sorted" p) [.Call (.Name "set" p2) [e] [] pos2] [] pos) (dSortSet te) :=
  PE.imp (pe_callB (cr_sortTx hc) hg hm (by decide +kernel) (pa_cons (pe_callTy (cr_setTx hc) hgs hms (by decide +kernel) (pa_cons he pa_nil e1) (by decide) (by decide) e1 e2) pa_nil e3) (by decide) (by decide) e3 e4) fun σ H Q ⟨g, as, cs, q, st, h, k⟩ => ⟨g, as, cs, _, st, h, fun s cs1 h1 v as1 H1 x1 r1 => by
    obtain ⟨d, e1, h3⟩ := on1_of h1
    obtain ⟨ds, rfl⟩ : ∃ ds, d = .lst ds := by cases d <;> first | exact ⟨_, rfl⟩ | exact h3.elim
    dsimp only [fSetS] at h3
    cases e : strsL ds with
    | none => rw [e] at h3; exact h3.elim
    | some ss =>
      rw [e] at h3
      obtain ⟨hr1, hr2⟩ := h3
      have l := live_of x1.c
      obtain ⟨a, vs, rfl, h4, h5⟩ := (slot_view x1.c r1 e1).of_lst hid_sub
      obtain ⟨e5, e6⟩ := strsL_ok h5 e
      subst e5 e6
      refine ⟨a, ss, rfl, SqL.of h4, hr1, fun b hb => ⟨b, met [] ss, rfl, upd_same, fun ys c hp hs hn => ?_⟩⟩
      have S := upd_sub (o := SetTxO X.prog X.w b (met [] ss)) hb
      have S2 := upd_sub (o := .lst (ys.map V.str)) hn
      refine k _ _ (hr2 ys hp hs) _ as1 _ (ext_grow (g := g) (σ := σ) (cs := cs) x1 fun _ _ z => S2 _ _ (S _ _ z)) ?_
      refine new_lst (l.same S) hn (repl_strs fun y hy => strs_len h5 y ?_)
      exact ((met_mem ss []).mp (hp.mem_iff.mp hy)).resolve_left (fun z => nomatch z)⟩
end
end Dl
set_option Elab.async false
set_option linter.all false
set_option maxRecDepth 100000
set_option maxHeartbeats 1000000
/-! [str(x) for x in a.f], a.f a dict whose keys are texts: the texts, as they stand. -/
namespace Dl
open PySem PySem.Spec PyProof.Rows L2 Ev TxS
def tStrV (j : Nat) : TE := fun σ H Q => ∃ z : Str, σ[j]? = some (some (.str z)) ∧ Q (.str z) H
theorem pe_strV {X : Cx} {j : Nat} {y : Str} {p p2 pos : Pos} (hm : X.mg "str" = none) (hv : PE X (.Name y p2) (tVar j)) (hg : Gl X "str" := by rfl)
    (e1 : starEach [.Name y p2] X.env = (false, eval (.Name y p2) X.env) :: starEach [] X.env := by rfl) (e2 : (backTo pos (starEach [] X.env)).any (·.1) = false := by rfl) :
    PE X (.Call (.Name "str" p) [.Name y p2] [] pos) (tStrV j) :=
  PE.imp (pe_callTy SkE.call_str_str hg hm (by decide +kernel) (pa_cons hv pa_nil e1) (by decide) (by decide) e1 e2) fun σ H Q ⟨z, h, q⟩ => ⟨_, h, z, rfl, q⟩
theorem fldU_mono {K : PySem.W.Frag} {i : Nat} {f : Str} {σ : L2.St} {H : Hp} {Q Q' : VK} (h : tFldU K (tVar i) f σ H Q) (k : ∀ v H', Q v H' → Q' v H') : tFldU K (tVar i) f σ H Q' := by
  obtain ⟨v, e, h⟩ := h
  refine ⟨v, e, ?_⟩
  rcases h with ⟨a, C, dx, fs, v, e0, e1, e2, e3, e4, q⟩ | ⟨a, C, dd, fs, v, e0, e1, e2, e3, e3', e4, q⟩
  · exact .inl ⟨a, C, dx, fs, v, e0, e1, e2, e3, e4, k _ _ q⟩
  · exact .inr ⟨a, C, dd, fs, v, e0, e1, e2, e3, e3', e4, k _ _ q⟩
theorem wipe_set {σ : L2.St} {j : Nat} {o : Option V} (hj : j < σ.length) : wipe ((wipe σ [j]).set j o) [j] = wipe σ [j] := by
  refine List.ext_getElem? fun i => ?_
  by_cases h : i = j
  · subst h
    rw [wipe_in List.mem_cons_self (by rw [List.length_set, wipe_length]; exact hj), wipe_in List.mem_cons_self hj]
  · have hn : i ∉ [j] := by simpa using h
    rw [wipe_out hn, List.getElem?_set_ne (Ne.symm h)]
theorem keys_read {K : PySem.W.Frag} {d : Addr} {od : Obj} {kvs : List (Key × V)} {ss : List Str} {σ : L2.St} {H : Hp} {Q : VK} {i j : Nat} {f : Str} (hj : j < σ.length) (hk : kvs.map Prod.fst = ss.map Sum.inr) (hz : ss.length ≤ sizeLine)
    (hd : H d = some (.frz od (.dK kvs))) (ht : tFldU K (tVar i) f σ H fun v H' => v = .ref d ∧ H' = H)
    (q : ∀ D, H D = none → Q (.ref D) (upd H D (.lst (ss.map V.str)))) : tLc (iKeys (tFldU K (tVar i) f)) (gName j) tYes (tStrV j) [j] σ H Q := by
  have len : kvs.length = ss.length := by
    have := congrArg List.length hk
    simpa using this
  unfold tLc iKeys
  refine fldU_mono ht fun v H1 ⟨ev, eH⟩ => ?_
  subst ev eH
  refine ⟨d, od, rfl, .inl ⟨kvs, hd, fun D hD => ?_⟩⟩
  have nd : d ≠ D := ne_of_none hd hD
  refine lc_it walk_keys (fun i H2 => H2 = upd H1 D (.lst ((ss.take i).map V.str))) rfl ?_ ?_ ?_
  · rintro i H2 _ rfl
    rw [upd_ne nd]; exact hd
  · rintro i x H2 H3 hi rfl ⟨rfl, k, v, e1, rfl⟩
    have hi' : i < ss.length := len ▸ hi
    have ek : k = .inr ss[i] := by
      have h1 : (kvs.map Prod.fst)[i]? = some k := by rw [List.getElem?_map, e1]; rfl
      rw [hk, List.getElem?_map, List.getElem?_eq_getElem hi'] at h1
      exact (Option.some.inj h1).symm
    subst ek
    refine ⟨wipe_set hj, ?_⟩
    dsimp only [tYes]
    rw [if_pos rfl]
    refine ⟨ss[i], ?_, _, upd_same, ?_, ?_⟩
    · rw [List.getElem?_set_self (by rw [wipe_length]; exact hj)]; rfl
    · rw [List.length_map, List.length_take]
      exact Nat.lt_of_lt_of_le (Nat.lt_of_le_of_lt (Nat.min_le_left _ _) hi') hz
    · funext a
      by_cases h : a = D
      · subst h
        rw [upd_same, upd_same]
        congr 2
        rw [List.take_succ_eq_append_getElem hi', List.map_append]; rfl
      · rw [upd_ne h, upd_ne h, upd_ne h]
  · rintro H2 rfl
    rw [len, List.take_length]
    exact q D hD
theorem upd_back {H : Hp} {d D : Addr} {u x y : HO} (h : H d = some u) (n : d ≠ D) : upd (upd (upd H d x) D y) d u = upd H D y := by
  funext a
  by_cases e : a = d
  · subst e; rw [upd_same, upd_ne n, h]
  · rw [upd_ne e]
    by_cases e2 : a = D
    · subst e2; rw [upd_same, upd_same]
    · rw [upd_ne e2, upd_ne e2, upd_ne e]
theorem PE.or2 {X : Cx} {e : Expr} {t : TE} (h : PE X e t) : PE X e (fun σ H Q => t σ H Q ∨ tLockE t σ H Q) :=
  ⟨fun pins s σ H Q I q => q.elim (h.run pins s σ H Q I) ((pe_lock h).run pins s σ H Q I)⟩
/-- the texts that are a dict's keys -/
def dKeysL {K : PySem.W.Frag} {T : Th K} (attr : T.O → Str → Option (D T.O)) (i : Nat) (f : Str) (j : Nat) : TDE T := fun g cs Q => ∃ (o : T.O) (kds : List (Key × D T.O)) (ss : List Str), g[i]? = some (some (.dat (.obj o))) ∧ attr o f = some (.dic kds) ∧ kds.map Prod.fst = ss.map Sum.inr ∧
  j < g.length ∧ ss.length ≤ sizeLine ∧ (∀ s ∈ ss, s.length ≤ sizeLine) ∧ Q (.dat (.lst (ss.map .str))) cs
theorem pd_keysL {X : Cx} {T : Th X.K} {B : Ba} {attr : T.O → Str → Option (D T.O)} {i j : Nat} {x y f : Str} {elt : Expr} {scope : Scope} {p5 p6 p4 pos : Pos} (A : AttrT T attr) (hc : X.calm = true) (hN : X.N.Nodup) (hx : PE X (.Name x p5) (tVar i)) (ok : BlkOk X.N X.env.scope scope [(y, j)])
    (hg : ∀ (s : Shared) (H : Hp) (C : Addr) (cl : List (Str × Addr)) (fp : List Addr), PG (X.blk s H scope (compEnvC scope cl C X.env) fp) (.Name y p4) (gName j))
    (he : ∀ (s : Shared) (H : Hp) (C : Addr) (cl : List (Str × Addr)) (fp : List Addr), PE (X.blk s H scope (compEnvC scope cl C X.env) fp) elt (tStrV j))
    (ht : ∀ (s : Shared) (H : Hp) (C : Addr) (cl : List (Str × Addr)) (fp : List Addr), PTs (X.blk s H scope (compEnvC scope cl C X.env) fp) [] tYes)
    (hb : attributeBase (.Name x p5) f X.env (eval (.Name x p5) X.env) = eval (.Name x p5) X.env := by rfl) (hs : ∀ v, foldedSetIterable (.Attribute (.Name x p5) f p6) X.env v = pure v := by intro _; rfl) :
    PD B X (.ListComp elt [⟨.Name y p4, .Attribute (.Name x p5) f p6, [], 0⟩] scope pos) (dKeysL attr i f j) :=
  PE.imp (PE.or2 (pe_lc (own := [(y, j)]) hc hN (pi_keys (pe_fldU hx hb)) ok hg ht he hs)) fun σ H Q ⟨g, as, cs, q, st, ⟨o, kds, ss, e1, e2, e3, e4, e5, e6, hq⟩, k⟩ => by
    obtain ⟨v, ev, rv⟩ := st.e.at_ i _ e1
    have l := live_of st.c
    cases rv with
    | @obj a _ r =>
      have fa := A.ok _ _ _ _ _ r e2
      have fin : ∀ D, H D = none → Q (.ref D) (upd H D (.lst (ss.map V.str))) := fun D hD =>
        k _ _ hq _ as _ (Ex.grow st.c (upd_sub hD)) (new_lst l hD (repl_strs e6))
      have hj : j < σ.length := by rw [← st.e.len]; exact e4
      -- the dict
      have main : ∀ d kvs, Rd H d (.dK kvs) → RepK T (hz B as H) kvs kds → (∀ H1 : Hp, (∀ b u, H b = some u → b ≠ d → H1 b = some u) → tFldU X.K (tVar i) f σ H1 fun v H' => v = .ref d ∧ H' = H1) →
          tLc (iKeys (tFldU X.K (tVar i) f)) (gName j) tYes (tStrV j) [j] σ H Q ∨ tLockE (tLc (iKeys (tFldU X.K (tVar i) f)) (gName j) tYes (tStrV j) [j]) σ H Q := by
        intro d kvs rd rk hf
        have hk : kvs.map Prod.fst = ss.map Sum.inr := rk.keys.trans e3
        rcases rd with rd | ⟨od, rd⟩
        · refine .inr ⟨d, .dK kvs, rd, trivial, fun od => keys_read hj hk e5 upd_same (hf _ fun b u hb n => by rw [upd_ne n]; exact hb) fun D hD => ?_⟩
          have nd : d ≠ D := fun z => by subst z; rw [upd_same] at hD; cases hD
          have hD' : H D = none := by rw [upd_ne (Ne.symm nd)] at hD; exact hD
          refine ⟨by rw [upd_ne nd]; exact upd_same, ?_⟩
          rw [upd_back rd nd]
          exact fin D hD'
        · refine .inl (keys_read hj hk e5 rd (hf H fun b u hb _ => hb) fin)
      rcases fa with ⟨C, dx, fs, v, f1, f2, f3, f4, f5⟩ | ⟨C, dd, fs, v, f1, f2, f3, f3', f4, f5⟩
      · cases f5 with
        | @dic d kvs _ rd rk =>
          have rd' : Rd H d (.dK kvs) := same_rd hid_sub rd
          refine main d kvs rd' rk fun H1 hH => ⟨_, ev, .inl ⟨a, C, dx, fs, _, rfl, hH _ _ (hid_some f1).2 ?_, f2, f3, f4, rfl, rfl⟩⟩
          intro z
          subst z
          have z1 := (hid_some f1).2
          rcases rd' with z2 | ⟨o2, z2⟩ <;> rw [z1] at z2 <;> cases z2
      · cases f5 with
        | @dic d kvs _ rd rk =>
          have rd' : Rd H d (.dK kvs) := same_rd hid_sub rd
          refine main d kvs rd' rk fun H1 hH => ⟨_, ev, .inr ⟨a, C, dd, fs, _, rfl, f1, f2, hH _ _ (hid_some f3).2 ?_, hH _ _ (hid_some f3').2 ?_, f4, rfl, rfl⟩⟩
          · intro z
            subst z
            have z1 := (hid_some f3).2
            rcases rd' with z2 | ⟨o2, z2⟩ <;> rw [z1] at z2 <;> cases z2
          · intro z
            subst z
            have z1 := (hid_some f3').2
            rcases rd' with z2 | ⟨o2, z2⟩ <;> rw [z1] at z2 <;> cases z2
end Dl
set_option Elab.async false
set_option linter.all false
set_option maxRecDepth 100000
set_option maxHeartbeats 1000000
/-! What a lambda does, closed upwards; the def that hears. -/
namespace Dl
open PySem PySem.Spec PyProof.Rows L2 Ev LamX
section
variable {K : PySem.W.Frag} {T : Th K} {ef : Str → List Str}
def monoA (act : ActD T) : ActD T := fun q x => ∃ q0 x0, act q0 x0 ∧ (∀ d, q0 d → q d) ∧ ∀ y ds, x0 y ds → x y ds
theorem LamOk.mono {Z : List Addr} {H1 : Hp} {tl : XK → Hp → VK → Prop} {act : ActD T} (h : LamOk T ef Z H1 tl act) : LamOk T ef Z H1 tl (monoA act) := fun H Q E q x S ⟨q0, x0, h0, hq0, hx0⟩ hq hx =>
  h H Q E q0 x0 S h0 (fun d hd => hq d (hq0 d hd)) fun y ds hy => hx y ds (hx0 y ds hy)
end
section
variable {X : Cx} {T : Th X.K} {ef : Str → List Str} {N : List Str} {x a : Str} {sg : Scope} {g : Addr} {cdg : Value} {bg : List Stmt} {q : Str}
theorem gives_mono {F : ActD T → (D T.O → Prop) → Prop} {t : Addr → ActD T → TDS T}
    (der : ∀ (B : Ba) (f c' : Addr) (s : Shared) (H : Hp) (tl : XK → Hp → VK → Prop) (act : ActD T), B.as0 = [] → Live B.Z B.H0 → B.H0 c' = some (CodeO c' q) → LamOk T ef B.Z B.H0 tl act → ActR (cxH X N x sg g cdg s H) a f c' q tl →
      PDSs B (cxH X N x sg g cdg s H).nox (T := T) bg (t f act))
    (hs : ∀ f act k, F act k → t f (monoA act) (enP k) (startG N [.dat (.ptr f)]) []) : GivesTo X N x sg g cdg bg a q (TTD T ef F) :=
  gives_of (F := F) (t := fun f act => t f (monoA act)) (fun B f c' s H tl act h1 h2 h3 h4 h5 => der B f c' s H tl (monoA act) h1 h2 h3 h4.mono h5) hs
/-- h(lambda: bd) by trees -/
theorem pd_hear {B : Ba} {F : ActD T → (D T.O → Prop) → Prop} {td : Xd T → TDE T} {m j n : Nat} {tl : List (Addr × Str)} {t0 : Addr × Str} {c : Addr} {pg : Arguments} {dV kV doc pm cdv ct oc : Value} {an od : Option Addr} {osl : Array (Option Value)}
    {ar : Arguments} {bd : Expr} {sc : Scope} {p p0 pos : Pos} (hg : Gl X x) (hm : X.mg x = some (.ref g)) (hk : PySem.W.keepIn X.K (.ref g) = true)
    (lk : X.K.lookup g = some ⟨oc, od, .func (PySem.W.fnOf x x pg bg sg dV kV doc pm an cdv ct), osl⟩) (hcg : PySem.W.codeIn X.K cdv x = true) (hb : L2.Binds X.K (PySem.W.fnOf x x pg bg sg dV kV doc pm an cdv ct) [a] []) (Sg : FnScope N [a] sg) (hN : N[0]? = some a) (hv : Vis sg a)
    (gives : GivesTo X N x sg g cdv bg a (X.env.qual ++ "<lambda>") (TTD T ef F)) (tb : TabB X.base X.mg c t0.1) (cd : X.env.code = .ref c) (hq : t0.2 = X.env.qual ++ "<lambda>") (ta : TbAt B m tl) (ht : tl[j]? = some t0)
    (room : Room (n + 2) X.A) (L : LamS X.env.scope sc) (dd : defaultsOf ar X.env = ([], []))
    (bind : ∀ (q : Str) (cl : List (Str × Addr)) (pm cv ctv : Value), bindArgs (PySem.W.kla_fn "<lambda>" q ar bd sc cl pm cv ctv) ⟨[], []⟩ = pure [])
    (inner : ∀ (A : Around) (outer : List Env) (s : Shared) (H : Hp) (E : XK) (f d : Addr), Room n (lamCx X A outer s H E sc f d).A → ∀ (B : Ba) (xd : Xd T), XP (lamCx X A outer s H E sc f d) (T := T) ef B xd → PD B (lamCx X A outer s H E sc f d) (T := T) bd (td xd))
    (hx : (x == ("__debug__" : Str)) = false := by decide) (ha : (a == ("__debug__" : Str)) = false := by decide) (hac : (a == ("__classdict__" : Str)) = false := by decide) :
    PD B X (T := T) (.Call (.Name x p) [.Lambda ar bd sc p0] [] pos) (dHeard (m + j) t0.2 F td) := by
  obtain ⟨P, q0⟩ := t0
  have hq : q0 = X.env.qual ++ "<lambda>" := hq
  subst hq
  exact PE.imp (pe_lamS (n := n) hg hm hk lk hcg hb Sg hN hv gives tb cd room L dd bind (t := tLamD ef td) (fun A outer s H E f d r => pe_lamBody (X := lamCx X A outer s H E sc f d) (T := T) rfl rfl rfl rfl (inner A outer s H E f d r)) hx ha hac) fun σ H Q h => lam_read ta ht h
end
end Dl
set_option Elab.async false
set_option linter.all false
set_option maxRecDepth 100000
set_option maxHeartbeats 1000000
/-! A def of the module called by keywords alone. -/
namespace Ev
open PySem PySem.Spec PyProof.Rows L2
structure DefPK (P : Program) (w : World) (K : PySem.W.Frag) (mg : Str → Option Value) (base : Heap) (CX : CXT) (k : Nat) (x : Str) (ps ks : List Str) (sp : Sp) (gV : List V → List V → List V) : Prop where
  ex : ∃ (f : Addr) (fd : FuncData) (g : List Value → List Value → List Value), mg x = some (.ref f) ∧ PySem.W.keepIn K (.ref f) = true ∧ FnOk P w K mg base CX k f fd ps sp ∧ KBn K fd ps 0 ks g gV
def tCallK0 (n : Nat) (sp : Sp) (gV : List V → List V → List V) (E : XK) (tk : TA) : TE := fun σ H Q => tk σ H fun zs H2 => zs.length = n ∧ sp (gV [] zs) H2 Q E
section
variable {X : Cx} {CX : CXT} {k : Nat} {x : Str} {ps ks : List Str} {sp : Sp} {E : XK} {kws : List Keyword} {tk : TA} {p pos : Pos} {gV : List V → List V → List V}
theorem pe_defK0 (D : DefPK X.prog X.w X.K X.mg X.base CX k x ps ks sp gV) (hr : Room k X.A) (hg : Gl X x) (hx : Passes CX X E) (hkw : PK X kws tk)
    (hall : (backToKw pos (keywordEach kws X.env)).all (·.1.isSome) = true := by rfl) (hks : (backToKw pos (keywordEach kws X.env)).filterMap (·.1) = ks := by rfl) (hdb : (x == ("__debug__" : Str)) = false := by decide)
    (hpl : ((backTo pos (starEach [] X.env)).any (·.1) || (backToKw pos (keywordEach kws X.env)).any (·.1.isNone)) = false := by rfl) :
    PE X (.Call (.Name x p) [] kws pos) (tCallK0 ks.length sp gV E tk) := by
  obtain ⟨f, fd, g, hm, hk, F, hb⟩ := D.ex
  refine ⟨fun pins s σ H Q I h => ?_⟩
  refine wpAny_Call_Name_kw (ld_glob I hg hm ?_ hdb)
  refine PySem.W.callWith_KW0 (first := []) (h₀ := X.base) I.ok.mod.kin hk hall ?_ hpl
  refine thn (hkw.run pos pins s σ H _ I h) fun ws s2 ⟨zs, H2, I2, rz, l2, q2⟩ => ⟨I2.kIn, ?_⟩
  rw [hks]
  exact run_fnN F hr hb hx I2 .nil rz rfl l2 q2
end
end Ev
namespace Dl
open PySem PySem.Spec PyProof.Rows L2 Ev
section
variable {X : Cx} {T : Th X.K} {B : Ba} {ef : Str → List Str} {xd : Xd T} {pos p : Pos} {k : Nat} {x : Str} {ps ks : List Str} {kws : List Keyword}
def dCallK {K : PySem.W.Frag} {T : Th K} (sd : SpP T) (xd : Xd T) (n : Nat) (ord : List (D T.O) → List (D T.O)) (t : TDA T) : TDE T := fun g cs Q => t g cs fun ss cs1 => onDats ss fun ds => ds.length = n ∧ sd (ord ds) (fun d => Q (.dat d) cs1) xd
theorem pd_defK {sd : SpP T} {t : TDA T} {oV : List V → List V} {ord : List (D T.O) → List (D T.O)} (ho' : ∀ {h zs ds}, RepL T h zs ds → RepL T h (oV zs) (ord ds))
    (Dk : DefPK X.prog X.w X.K X.mg X.base (L2.CX X.prog X.w) k x ps ks (spP T ef sd) (fun vs zs => vs ++ oV zs)) (hr : Room k X.A) (hx : XP X ef B xd) (hk : PDK B X kws t) (hg : Gl X x := by rfl)
    (hall : (backToKw pos (keywordEach kws X.env)).all (·.1.isSome) = true := by rfl) (hks : (backToKw pos (keywordEach kws X.env)).filterMap (·.1) = ks := by rfl) (hdb : (x == ("__debug__" : Str)) = false := by decide)
    (hpl : ((backTo pos (starEach [] X.env)).any (·.1) || (backToKw pos (keywordEach kws X.env)).any (·.1.isNone)) = false := by rfl) : PD B X (.Call (.Name x p) [] kws pos) (dCallK sd xd ks.length ord t) :=
  PE.imp (Ev.pe_defK0 Dk hr hg hx.ps hk hall hks hdb hpl) fun σ H Q ⟨g, as, cs, q, st, h, k⟩ => by
    refine ⟨g, as, cs, _, st, h, fun ss cs1 h1 vs as1 H1 x1 r1 => ?_⟩
    obtain ⟨ds, e1, hl, h1⟩ := onDats_of h1
    have rl := datL_rep r1 e1
    refine ⟨rl.len.trans hl, B.Z ++ ow as1, ord ds, _, xd, x1.c.live, ho' rl, h1, fun d hd v H' S r => k _ _ hd v as1 H' (x1.trans (Ex.grow x1.c S)) r, fun y es hy cls dx H' S ex => ?_⟩
    exact ⟨y, es, hy, kept_of (st.step x1) fun a o _ e => S a o e, ex.sub fun a z => List.mem_append_left _ z⟩
end
end Dl
set_option Elab.async false
set_option linter.all false
set_option maxRecDepth 100000
set_option maxHeartbeats 1000000
/-! A dict's comprehension; the keys of a dict in a variable. -/
namespace Dl
open PySem PySem.Spec PyProof.Rows L2 Ev TxS
section
variable {X : Cx} {T : Th X.K} {B : Ba} {e a b c o i : Expr} {es : List Expr} {pos : Pos}
def dcD {K : PySem.W.Frag} {T : Th K} (dg : TDG T) (dt : TDT T) (dk dv : TDE T) (g0 : G T) : List (D T.O) → List (Key × D T.O) → Cs T → (List (Key × D T.O) → Cs T → Prop) → Prop
  | [], acc, cs, Q => Q acc cs
  | d :: ds, acc, cs, Q => dg (.dat d) g0 fun g1 => dt g1 cs fun b cs1 => Br b (dk g1 cs1 fun s cs2 => onDat s fun kd => dv g1 cs2 fun u cs3 => onDat u fun vd => ∃ k, keyD kd = some k ∧ dcD dg dt dk dv g0 ds (putD acc k vd) cs3 Q) (dcD dg dt dk dv g0 ds acc cs1 Q)
def dDc {K : PySem.W.Frag} {T : Th K} (src : TDI T) (dg : TDG T) (dt : TDT T) (dk dv : TDE T) (vs : List Nat) : TDE T := fun g cs Q => src g cs fun ds cs1 => ds.length ≤ sizeLine ∧ dcD dg dt dk dv (wipeG g vs) ds [] cs1 fun out cs2 => Q (.dat (.dic out)) cs2
/-- a dict's loop over a walk -/
theorem dc_it {J : It} {n : Nat} {G : Hp → Prop} {Y : Nat → Hp → V → Hp → Prop} (w : Walk J n G Y) {g : TG} {tt : TT} {tk tv : TE} {vs : List Nat} {σ : L2.St} {H1 : Hp} {D : Addr} {Qd : Hp → Prop} (Pv : Nat → Hp → Prop) (h0 : Pv 0 (upd H1 D (.dK []))) (hG : ∀ i H, i ≤ n → Pv i H → G H)
    (hs : ∀ i x H H', i < n → Pv i H → Y i H x H' → g x (L2.wipe σ vs) H' fun σ2 H2 => L2.wipe σ2 vs = L2.wipe σ vs ∧ tt σ2 H2 fun b H3 =>
      if b = true then tk σ2 H3 fun y H4 => tv σ2 H4 fun z H5 => ∃ kvs k, y = kV k ∧ H5 D = some (.dK kvs) ∧ kvs.length < sizeLine ∧ Pv (i + 1) (upd H5 D (.dK (putK kvs k z))) else Pv (i + 1) H3) (hd : ∀ H, Pv n H → Qd H) :
    ∃ W : Nat → Nat → Hp → Prop, (∃ m, W 0 m (upd H1 D (.dK []))) ∧ ∀ i m H, W i m H →
      (J.stop i H ∧ Qd H) ∨ (J.go i H ∧ ∃ Nx : Hp → Prop, (∀ H', Nx H' → ∃ m', m' < m ∧ W (i + 1) m' H') ∧ ∀ x H', J.yld i H x H' → g x (L2.wipe σ vs) H' fun σ2 H2 => L2.wipe σ2 vs = L2.wipe σ vs ∧ tt σ2 H2 fun b H3 =>
        if b = true then tk σ2 H3 fun y H4 => tv σ2 H4 fun z H5 => ∃ kvs k, y = kV k ∧ H5 D = some (.dK kvs) ∧ kvs.length < sizeLine ∧ Nx (upd H5 D (.dK (putK kvs k z))) else Nx H3) := by
  refine ⟨fun i m H => m = n - i ∧ i ≤ n ∧ Pv i H, ⟨n, by simp, Nat.zero_le _, h0⟩, ?_⟩
  rintro i m H ⟨rfl, hi, p⟩
  have q := hG i H hi p
  by_cases hlt : i < n
  · refine .inr ⟨w.goes i H hlt q, Pv (i + 1), fun H' p' => ⟨n - (i + 1), by omega, rfl, hlt, p'⟩, fun x H' y => hs i x H H' hlt p (w.yields i H x H' hlt q y)⟩
  · have e : i = n := by omega
    subst e
    exact .inl ⟨w.stops H q, hd H p⟩
theorem dc_read {L : List Nat} {src : TDI T} {dg : TDG T} {dt : TDT T} {dk dv : TDE T} {sl : List Nat} {σ : L2.St} {H : Hp} {Q : VK} (hL : ∀ i ∈ L, i ∈ sl) (h : lE B (dDc src dg dt dk dv sl) σ H Q) :
    tDc (lI B src) (fun v σ H Q => ∃ B : Ba, lG B L dg v σ H Q) (fun σ H Q => ∃ B : Ba, lT B dt σ H Q) (fun σ H Q => ∃ B : Ba, lE B dk σ H Q) (fun σ H Q => ∃ B : Ba, lE B dv σ H Q) sl σ H Q := by
  obtain ⟨g, as, cs, q, st, h, k⟩ := h
  refine ⟨g, as, cs, _, st, h, fun ds cs1 h1 as1 H1 J x1 it => fun D hD => ?_⟩
  obtain ⟨hl, h1⟩ := h1
  obtain ⟨G, Y, w, hG, hY⟩ := it.ex
  have s1 := st.step x1
  obtain ⟨c1, eh⟩ := s1.c.hide (u := .dK []) hD
  have nD : D ∉ B.Z ++ ow as1 := fun z => (s1.c.live D z).ne hD
  have nD1 : D ∉ ow as1 := fun z => nD (List.mem_append_right _ z)
  let g0 := wipeG g sl
  -- the block's state: D's list apart
  have kpB : ∀ {as' : As} {H' : Hp} {acc : List (Key × V)}, Kp ⟨D :: B.Z, as1, upd H1 D (.dK acc)⟩ as' H' → Kp (B.at as1 H1) as' H' := fun {as' H' acc} kp => by
    refine ⟨kp.lk, fun a o e1 e2 => ?_, fun p e1 e2 => ?_⟩
    · have z : a ≠ D := ne_of_none e2 hD
      exact kp.kept a o e1 (by rw [show (Ba.mk (D :: B.Z) as1 (upd H1 D (.dK acc))).H0 a = H1 a from upd_ne z]; exact e2)
    · have := kp.fresh p e1 e2
      by_cases z : p = D
      · subst z; exact hD
      · rw [show (Ba.mk (D :: B.Z) as1 (upd H1 D (.dK acc))).H0 p = H1 p from upd_ne z] at this; exact this
  have later : ∀ {as' : As} {H' : Hp} {vs : List (Key × V)}, Kp ⟨D :: B.Z, as1, upd H1 D (.dK vs)⟩ as' H' → Same (hz B as1 H1) (hid (D :: B.Z ++ ow as') H') := fun {as' H' vs} kp => by
    have := kp_same kp
    rw [show hid (D :: B.Z ++ ow as1) (upd H1 D (.dK vs)) = hz B as1 H1 from (s1.c.hide (u := .dK vs) hD).2] at this
    exact this
  refine dc_it (g := fun v σ H Q => ∃ B : Ba, lG B L dg v σ H Q) (tt := fun σ H Q => ∃ B : Ba, lT B dt σ H Q) (tk := fun σ H Q => ∃ B : Ba, lE B dk σ H Q) (tv := fun σ H Q => ∃ B : Ba, lE B dv σ H Q) w
    (fun i H => ∃ as cs vs acc, Stt T ⟨D :: B.Z, as1, upd H1 D (.dK vs)⟩ g0 as cs (L2.wipe σ sl) H ∧ H D = some (.dK vs) ∧ RepK T (hid (D :: B.Z ++ ow as) H) vs acc ∧ acc.length ≤ i ∧ dcD dg dt dk dv g0 (ds.drop i) acc cs fun out cs2 => q (.dat (.dic out)) cs2)
    ⟨as1, cs1, [], [], ⟨c1, ?_, ⟨Lk.refl _, fun _ _ _ e => e, fun _ x y => absurd x y⟩⟩, upd_same, .nil, Nat.zero_le _, h1⟩ (fun i H _ ⟨as, cs, vs, acc, s2, _⟩ => hG _ H (later s2.k)) ?_ ?_
  · rw [show hid ((Ba.mk (D :: B.Z) as1 (upd H1 D (.dK []))).Z ++ ow as1) (upd H1 D (.dK [])) = hz B as1 H1 from eh]
    exact s1.e.wipe _
  · rintro i x H2 H3 hi ⟨as2, cs2, vs, acc, s2, eD, rl, la, f⟩ y
    obtain ⟨S, d, ed, r3⟩ := hY i x _ H2 H3 hi (later s2.k) s2.c.live y
    rw [List.drop_eq_getElem_cons hi] at f
    have ed' : ds[i] = d := by rw [List.getElem?_eq_getElem hi] at ed; exact Option.some.inj ed
    rw [ed'] at f
    have s3 := s2.grow S
    have rl3 := rl.mono (hid_step (Z := D :: B.Z ++ ow as2) S)
    refine ⟨_, g0, as2, cs2, .dat d, _, s3, r3, f, fun g3 h3 σ3 s4 w4 => ⟨w4.wipe hL, ?_⟩⟩
    refine ⟨_, g3, as2, cs2, _, s4, h3, fun b cs5 h5 as5 H5 x5 => ?_⟩
    have s5 := s4.step x5
    have e5 : H5 D = some (.dK vs) := (x5.zk D List.mem_cons_self).trans (S _ _ eD)
    have rl5 := rl3.mono x5.same
    cases b with
    | false => exact iteF ⟨as5, cs5, vs, acc, s3.step x5, e5, rl5, Nat.le_succ_of_le la, h5⟩
    | true =>
      refine iteT ⟨_, g3, as5, cs5, _, s5, h5, fun s6 cs6 h6 v6 as6 H6 x6 r6 => ?_⟩
      obtain ⟨kd, es, h7⟩ := onDat_of h6
      subst es
      have s6' := s5.step x6
      refine ⟨_, g3, as6, cs6, _, s6', h7, fun s7 cs7 h8 v7 as7 H7 x7 r7 => ?_⟩
      obtain ⟨vd, es, key, ek, h9⟩ := onDat_of h8
      subst es
      have e7 : H7 D = some (.dK vs) := (x7.zk D List.mem_cons_self).trans ((x6.zk D List.mem_cons_self).trans e5)
      have rl7 := (rl5.mono x6.same).mono x7.same
      refine ⟨vs, key, keyD_ok (H := H6) (.rep (show Rep T _ v6 kd from r6)) ek, e7, by rw [rl7.len]; omega, as7, cs7, putK vs key v7, putD acc key vd, ?_, upd_same, ?_, ?_, h9⟩
      · have := (((s3.step x5).step x6).step x7).poke (u := .dK (putK vs key v7)) (by rw [upd_same]; exact fun z => by cases z) nD1
        rw [upd_upd] at this
        exact this
      · rw [show hid (D :: B.Z ++ ow as7) (upd H7 D (.dK (putK vs key v7))) = hid (D :: B.Z ++ ow as7) H7 from hid_upd (by simp)]
        exact rl7.put r7
      · exact Nat.le_trans (putD_len _ _ _) (by omega)
  · rintro H2 ⟨as2, cs2, vs, acc, s2, eD, rl, la, f⟩
    rw [List.drop_length] at f
    have nD2 : D ∉ B.Z ++ ow as2 := fun z => by
      rcases List.mem_append.mp z with z | z
      · exact nD (List.mem_append_left _ z)
      · exact s2.c.apart D z List.mem_cons_self
    exact k _ _ f (.ref D) as2 H2 (x1.trans (Ex.ofKp x1.c s2.c.less (kpB s2.k))) (.dic (.inl ((hid_out nD2).trans eD)) (rl.mono (hid_same (same_refl _) fun a h => .inl (List.mem_cons_of_mem _ h))))
theorem pd_dc {kx vx tg iter : Expr} {ifs : List Expr} {scope : Scope} {own : List (Str × Nat)} {L : List Nat} {src : TDI T} {dg : TDG T} {dt : TDT T} {dk dv : TDE T} (hc : X.calm = true) (hN : X.N.Nodup) (hi : PDI B X tg iter src) (ok : BlkOk X.N X.env.scope scope own)
    (hg : ∀ (B : Ba) (s : Shared) (H : Hp) (C : Addr) (cl : List (Str × Addr)) (fp : List Addr), PDG B (X.blk s H scope (compEnvC scope cl C X.env) fp) (T := T) L tg dg)
    (ht : ∀ (B : Ba) (s : Shared) (H : Hp) (C : Addr) (cl : List (Str × Addr)) (fp : List Addr), PDTs B (X.blk s H scope (compEnvC scope cl C X.env) fp) (T := T) ifs dt)
    (hk : ∀ (B : Ba) (s : Shared) (H : Hp) (C : Addr) (cl : List (Str × Addr)) (fp : List Addr), PD B (X.blk s H scope (compEnvC scope cl C X.env) fp) (T := T) kx dk)
    (he : ∀ (B : Ba) (s : Shared) (H : Hp) (C : Addr) (cl : List (Str × Addr)) (fp : List Addr), PD B (X.blk s H scope (compEnvC scope cl C X.env) fp) (T := T) vx dv) (hL : ∀ i ∈ L, i ∈ own.map (·.2) := by decide) (hs : ∀ x, foldedSetIterable iter X.env x = pure x := by intro _; rfl) :
    PD B X (.DictComp kx vx [⟨tg, iter, ifs, 0⟩] scope pos) (dDc src dg dt dk dv (own.map (·.2))) :=
  PE.imp (pe_dc hc hN hi ok (fun s H C cl fp => PG.ex (t := fun B => lG B L dg) fun B => hg B s H C cl fp) (fun s H C cl fp => PTs.ex (t := fun B => lT B dt) fun B => ht B s H C cl fp) (fun s H C cl fp => PE.ex (t := fun B => lE B dk) fun B => hk B s H C cl fp) (fun s H C cl fp => PE.ex (t := fun B => lE B dv) fun B => he B s H C cl fp) hs)
    fun _ _ _ h => dc_read hL h
end
theorem keys_readV {d : Addr} {od : Obj} {kvs : List (Key × V)} {ss : List Str} {σ : L2.St} {H : Hp} {Q : VK} {i j : Nat} (hj : j < σ.length) (hk : kvs.map Prod.fst = ss.map Sum.inr) (hz : ss.length ≤ sizeLine)
    (hd : H d = some (.frz od (.dK kvs))) (ht : σ[i]? = some (some (.ref d)))
    (q : ∀ D, H D = none → Q (.ref D) (upd H D (.lst (ss.map V.str)))) : tLc (iKeys (tVar i)) (gName j) tYes (tStrV j) [j] σ H Q := by
  have len : kvs.length = ss.length := by
    have := congrArg List.length hk
    simpa using this
  unfold tLc iKeys
  refine ⟨_, ht, d, od, rfl, .inl ⟨kvs, hd, fun D hD => ?_⟩⟩
  have nd : d ≠ D := ne_of_none hd hD
  refine lc_it walk_keys (fun i H2 => H2 = upd H D (.lst ((ss.take i).map V.str))) rfl ?_ ?_ ?_
  · rintro i H2 _ rfl
    rw [upd_ne nd]; exact hd
  · rintro i x H2 H3 hi rfl ⟨rfl, k, v, e1, rfl⟩
    have hi' : i < ss.length := len ▸ hi
    have ek : k = .inr ss[i] := by
      have h1 : (kvs.map Prod.fst)[i]? = some k := by rw [List.getElem?_map, e1]; rfl
      rw [hk, List.getElem?_map, List.getElem?_eq_getElem hi'] at h1
      exact (Option.some.inj h1).symm
    subst ek
    refine ⟨wipe_set hj, ?_⟩
    dsimp only [tYes]
    rw [if_pos rfl]
    refine ⟨ss[i], ?_, _, upd_same, ?_, ?_⟩
    · rw [List.getElem?_set_self (by rw [wipe_length]; exact hj)]; rfl
    · rw [List.length_map, List.length_take]
      exact Nat.lt_of_lt_of_le (Nat.lt_of_le_of_lt (Nat.min_le_left _ _) hi') hz
    · funext a
      by_cases h : a = D
      · subst h
        rw [upd_same, upd_same]
        congr 2
        rw [List.take_succ_eq_append_getElem hi', List.map_append]; rfl
      · rw [upd_ne h, upd_ne h, upd_ne h]
  · rintro H2 rfl
    rw [len, List.take_length]
    exact q D hD
/-- the texts that are a dict's keys, the dict in a variable -/
def dKeysV {K : PySem.W.Frag} {T : Th K} (i : Nat) (j : Nat) : TDE T := fun g cs Q => ∃ (kds : List (Key × D T.O)) (ss : List Str), g[i]? = some (some (.dat (.dic kds))) ∧ kds.map Prod.fst = ss.map Sum.inr ∧
  j < g.length ∧ ss.length ≤ sizeLine ∧ (∀ s ∈ ss, s.length ≤ sizeLine) ∧ Q (.dat (.lst (ss.map .str))) cs
theorem pd_keysV {X : Cx} {T : Th X.K} {B : Ba} {i j : Nat} {x y : Str} {elt : Expr} {scope : Scope} {p5 p4 pos : Pos} (hc : X.calm = true) (hN : X.N.Nodup) (hx : PE X (.Name x p5) (tVar i)) (ok : BlkOk X.N X.env.scope scope [(y, j)])
    (hg : ∀ (s : Shared) (H : Hp) (C : Addr) (cl : List (Str × Addr)) (fp : List Addr), PG (X.blk s H scope (compEnvC scope cl C X.env) fp) (.Name y p4) (gName j))
    (he : ∀ (s : Shared) (H : Hp) (C : Addr) (cl : List (Str × Addr)) (fp : List Addr), PE (X.blk s H scope (compEnvC scope cl C X.env) fp) elt (tStrV j))
    (ht : ∀ (s : Shared) (H : Hp) (C : Addr) (cl : List (Str × Addr)) (fp : List Addr), PTs (X.blk s H scope (compEnvC scope cl C X.env) fp) [] tYes)
    (hs : ∀ v, foldedSetIterable (.Name x p5) X.env v = pure v := by intro _; rfl) :
    PD B X (.ListComp elt [⟨.Name y p4, .Name x p5, [], 0⟩] scope pos) (dKeysV (T := T) i j) :=
  PE.imp (PE.or2 (pe_lc (own := [(y, j)]) hc hN (pi_keys hx) ok hg ht he hs)) fun σ H Q ⟨g, as, cs, q, st, ⟨kds, ss, e1, e3, e4, e5, e6, hq⟩, k⟩ => by
    obtain ⟨v, ev, rv⟩ := st.e.at_ i _ e1
    have l := live_of st.c
    have fin : ∀ D, H D = none → Q (.ref D) (upd H D (.lst (ss.map V.str))) := fun D hD =>
      k _ _ hq _ as _ (Ex.grow st.c (upd_sub hD)) (new_lst l hD (repl_strs e6))
    have hj : j < σ.length := by rw [← st.e.len]; exact e4
    cases (show Rep T _ v (.dic kds) from rv)
    rename_i d kvs rd rk
    have hk : kvs.map Prod.fst = ss.map Sum.inr := rk.keys.trans e3
    rcases (same_rd hid_sub rd : Rd H d (.dK kvs)) with rd | ⟨od, rd⟩
    · refine .inr ⟨d, .dK kvs, rd, trivial, fun od => keys_readV hj hk e5 upd_same ev fun D hD => ?_⟩
      have nd : d ≠ D := fun z => by subst z; rw [upd_same] at hD; cases hD
      have hD' : H D = none := by rw [upd_ne (Ne.symm nd)] at hD; exact hD
      refine ⟨by rw [upd_ne nd]; exact upd_same, ?_⟩
      rw [upd_back rd nd]
      exact fin D hD'
    · exact .inl (keys_readV hj hk e5 rd ev fin)
end Dl
set_option Elab.async false
set_option linter.all false
set_option maxRecDepth 100000
set_option maxHeartbeats 1000000
/-! xs.count(b) of truths; repr of data with dicts. -/
namespace Dl
open PySem PySem.Spec PyProof.Rows L2 Ev LamX
def eqkB (k : Bool) (v : Value) : Bool := match v with
  | .bool n => n == k
  | _ => false
def rCntB (K : PySem.W.Frag) : V → List V → Hp → VK → Prop := fun x xs H Q => ∃ (p : Addr) (ns : List Bool) (k : Bool), x = .ref p ∧ xs = [.bl k] ∧ SqL K H p (ns.map V.bl) ∧ Q (.int (ns.count k : Nat)) H
theorem bools_of : ∀ {ns : List Bool} {us : List Value}, Vals (ns.map V.bl) us → us = ns.map Value.bool
  | [], _, .nil => rfl
  | n :: ns, _, .cons (b := b) r t => by
    cases (show b = Value.bool n from r)
    rw [bools_of t]; rfl
theorem mt_lcountB {X : Cx} : MtR X "list.count" (rCntB X.K) := by
  intro pins s σ H x xs v us Q I rx rxs h
  obtain ⟨p, ns, k, rfl, rfl, hs, q⟩ := h
  cases rx
  obtain ⟨u, rfl, ru⟩ := rxs.one
  cases (show u = Value.bool k from ru)
  obtain ⟨its, rv, ⟨⟨cls, dd, data, sl⟩, n, ho, hc, hdn, hd⟩, hlen⟩ := I.list hs
  simp only at hc hd
  subst hc hd
  have hi := bools_of rv
  subst hi
  refine call_meets PySem.F.slot_list_count ⟨_, ho, rfl⟩ PySem.F.entry_list_count (PySem.F.args_list_count_2 _ _)
    (SeqAt.list_countAt p (ns.map Value.bool).toArray n dd sl (.bool k) (eqkB k)) ⟨ho, fun y hy => ?_, ?_⟩
  · obtain ⟨b, _, rfl⟩ := List.mem_map.mp (show y ∈ ns.map Value.bool by simpa using hy)
    exact SeqAt.EqAt.bool_bool b k
  · have ec : (ns.map Value.bool).toArray.toList.countP (eqkB k) = ns.count k := by
      show (ns.map Value.bool).countP (eqkB k) = ns.count k
      rw [List.countP_map]; rfl
    refine ⟨.int (ns.count k : Nat), H, I.tok _, ⟨s.toks, ?_⟩, q⟩
    show Value.int (((ns.map Value.bool).toArray.toList.countP (eqkB k) : Nat) : Int) s.toks = Value.int ((ns.count k : Nat) : Int) s.toks
    rw [ec]
section
variable {X : Cx} {T : Th X.K} {B : Ba} {o e : Expr} {apos cpos : Pos} {to te : TDE T}
/-- xs.count(b), xs a list of truths -/
def dCount {K : PySem.W.Frag} {T : Th K} (to te : TDE T) : TDE T := fun g cs Q => to g cs fun s cs1 => match s with
  | .dat (.lst ds) => te g cs1 fun u cs2 => match u with
    | .dat (.bl b) => ∃ bs, blsL ds = some bs ∧ Q (.dat (.int (bs.count b : Nat))) cs2
    | _ => False
  | _ => False
theorem pd_count (ho : PD B X o to) (he : PD B X e te) (hbase : attributeBase o "count" X.env (eval o X.env) = eval o X.env := by rfl)
    (hfew : ((backTo cpos (starEach [e] X.env)).all (fun x => !x.1) && (backToKw cpos (keywordEach [] X.env)).all (fun x => x.1.isSome)
      && decide ([e].length + ([] : List Keyword).length + (if ([] : List Keyword).isEmpty then 0 else 1) < 30)) = true := by rfl)
    (hline : (apos.endLine == cpos.line) = true := by rfl) (hs : starEach [e] X.env = (false, eval e X.env) :: starEach [] X.env := by rfl) (hplain : (backTo cpos (starEach [] X.env)).any (·.1) = false := by rfl) :
    PD B X (.Call (.Attribute o "count" apos) [e] [] cpos) (dCount to te) :=
  PE.imp (pe_bm PySem.F.plainAttrs_list PySem.F.slot_list_count PySem.F.type_list_count mt_lcountB ho (pa_cons he pa_nil hs) hbase hfew hline hs hplain) fun σ H Q ⟨g, as, cs, q, st, h, k⟩ => ⟨g, as, cs, _, st, h, fun s cs1 h1 v as1 H1 x1 r1 => by
    match s, h1 with
    | .dat (.lst ds), h1 =>
      cases (show Rep T _ v (.lst ds) from r1)
      rename_i a vs e1 e2
      refine ⟨.inl ⟨rfl, vs, SqL.of (hid_some e1).2⟩, g, as1, cs1, _, st.step x1, h1, fun u cs2 h2 w as2 H2 x2 r2 => ?_⟩
      match u, h2 with
      | .dat (.bl b), ⟨bs, eb, h3⟩ =>
        cases (show Rep T _ w (.bl b) from r2)
        refine ⟨a, bs, b, rfl, rfl, ?_, k _ _ h3 (.int _) as2 H2 (x1.trans x2) (.int _)⟩
        have := blsL_ok e2 eb
        rw [← this]
        exact SqL.of (hid_some (x2.same _ _ e1)).2⟩
end
/-! ### repr of data with dicts -/
mutual
def toPyX {O : Type} : D O → Option PyData
  | .non => some .none
  | .bl b => some (.bool b)
  | .int i => some (.int i)
  | .str s => some (.str s)
  | .tup xs => (toPyXL xs).map .tuple
  | .lst xs => (toPyXL xs).map .list
  | .dic kds => (toPyXK kds).map fun ds => .dict ((kds.map fun p => Ev.keyD p.1).zip ds)
  | _ => none
def toPyXL {O : Type} : List (D O) → Option (List PyData)
  | [] => some []
  | x :: xs => (toPyX x).bind fun a => (toPyXL xs).map (a :: ·)
def toPyXK {O : Type} : List (Key × D O) → Option (List PyData)
  | [] => some []
  | x :: xs => (toPyX x.2).bind fun a => (toPyXK xs).map (a :: ·)
end
mutual
theorem drx_of {K : PySem.W.Frag} {T : Th K} {H : Hp} : ∀ {v : V} {d : D T.O} {p : PyData}, Rep T H v d → toPyX d = some p → Dr K H v p
  | _, _, _, .non, e => by cases e; exact .non
  | _, _, _, .bl b, e => by cases e; exact .bl b
  | _, _, _, .int i, e => by cases e; exact .int i
  | _, _, _, .str s z, e => by cases e; exact .str s
  | _, _, _, .ty n, e => by cases e
  | _, _, _, .cls n, e => by cases e
  | _, _, _, .ptr n, e => by cases e
  | _, _, _, .obj a, e => by cases e
  | _, .dic kds, _, @Rep.dic _ _ _ _ kvs _ a b, e => by
    have e : (toPyXK kds).map (fun ds => PyData.dict ((kds.map fun p => Ev.keyD p.1).zip ds)) = some _ := e
    cases q : toPyXK kds with
    | none => rw [q] at e; cases e
    | some ps =>
      rw [q] at e; cases e
      have ek : (kds.map fun p => Ev.keyD p.1) = kvs.map fun p => Ev.keyD p.1 := by
        have := congrArg (List.map Ev.keyD) b.keys
        rw [List.map_map, List.map_map] at this
        exact this.symm
      rw [ek]
      exact .dct a (drxK_of b q)
  | _, .tup ds, _, .tup a b, e => by
    have e : (toPyXL ds).map PyData.tuple = some _ := e
    cases q : toPyXL ds with
    | none => rw [q] at e; cases e
    | some ps => rw [q] at e; cases e; exact .tup a (drxL_of b q)
  | _, .lst ds, _, .lst a b, e => by
    have e : (toPyXL ds).map PyData.list = some _ := e
    cases q : toPyXL ds with
    | none => rw [q] at e; cases e
    | some ps => rw [q] at e; cases e; exact .lst (SqL.of a) (drxL_of b q)
theorem drxL_of {K : PySem.W.Frag} {T : Th K} {H : Hp} : ∀ {vs : List V} {ds : List (D T.O)} {ps : List PyData}, RepL T H vs ds → toPyXL ds = some ps → DrAll K H vs ps
  | _, _, _, .nil, e => by cases e; exact .nil
  | _, d :: ds, _, .cons a b, e => by
    have e : ((toPyX d).bind fun a => (toPyXL ds).map (a :: ·)) = some _ := e
    cases q : toPyX d with
    | none => rw [q] at e; cases e
    | some p =>
      rw [q] at e
      have e : (toPyXL ds).map (p :: ·) = some _ := e
      cases q2 : toPyXL ds with
      | none => rw [q2] at e; cases e
      | some ps => rw [q2] at e; cases e; exact .cons (drx_of a q) (drxL_of b q2)
theorem drxK_of {K : PySem.W.Frag} {T : Th K} {H : Hp} : ∀ {vs : List (Key × V)} {ds : List (Key × D T.O)} {ps : List PyData}, RepK T H vs ds → toPyXK ds = some ps → DrAll K H (vs.map (·.2)) ps
  | _, _, _, .nil, e => by cases e; exact .nil
  | _, d :: ds, _, .cons a b, e => by
    have e : ((toPyX d.2).bind fun a => (toPyXK ds).map (a :: ·)) = some _ := e
    cases q : toPyX d.2 with
    | none => rw [q] at e; cases e
    | some p =>
      rw [q] at e
      have e : (toPyXK ds).map (p :: ·) = some _ := e
      cases q2 : toPyXK ds with
      | none => rw [q2] at e; cases e
      | some ps => rw [q2] at e; cases e; exact .cons (drx_of a q) (drxK_of b q2)
end
theorem TRep.drx {K : PySem.W.Frag} {T : Th K} {h H : Hp} (S : Same h H) {v : V} {d : D T.O} {p : PyData} (r : TRep T h H v d) (e : toPyX d = some p) : Dr K H v p := by
  cases r with
  | rep r => exact drx_of (r.mono S) e
  | @dic a kvs kds h1 h2 =>
    have e : (toPyXK kds).map (fun ds => PyData.dict ((kds.map fun p => Ev.keyD p.1).zip ds)) = some _ := e
    cases q : toPyXK kds with
    | none => rw [q] at e; cases e
    | some ps =>
      rw [q] at e; cases e
      have ek : (kds.map fun p => Ev.keyD p.1) = kvs.map fun p => Ev.keyD p.1 := by
        have := congrArg (List.map Ev.keyD) h2.keys
        rw [List.map_map, List.map_map] at this
        exact this.symm
      rw [ek]
      exact .dct (.inl h1) (drxK_of (h2.mono S) q)
  | @lst a vs ds h1 h2 =>
    have e : (toPyXL ds).map PyData.list = some _ := e
    cases q : toPyXL ds with
    | none => rw [q] at e; cases e
    | some ps => rw [q] at e; cases e; exact .lst (SqL.of h1) (drxL_of (h2.mono S) q)
section
variable {X : Cx} {T : Th X.K}
def fReprX {K : PySem.W.Frag} {T : Th K} : D T.O → (D T.O → Prop) → Prop := fun d k => ∃ p, toPyX d = some p ∧ p.showable = true ∧ p.shown.length ≤ sizeLine ∧ p.depth ≤ 20 ∧ k (.str p.shown)
theorem cd_reprX (hg : X.A.guards = some []) (hu : X.A.units + 64 < cLine) (hs : SysK X.K) : CallD T (.builtin "repr") (r1 fReprX) := CallR.imp (call_repr hg hu hs) fun xs H Q ⟨Z, ds, q, l, rl, hr, k⟩ => by
  obtain ⟨d, rfl, hr⟩ := r1_of hr
  obtain ⟨v, rfl, rv⟩ := trepl1 rl
  obtain ⟨p, e, h1, h2, h3, hk⟩ := hr
  exact ⟨v, p, rfl, rv.drx hid_sub e, h1, h2, h3, k _ hk _ _ (same_refl _) (.str _ h2)⟩
end
end Dl
set_option Elab.async false
set_option linter.all false
set_option maxRecDepth 100000
set_option maxHeartbeats 1000000
/-! str of data; text.upper(). -/
namespace Dl
open PySem PySem.Spec PyProof.Rows L2 Ev
theorem call_strR {X : Cx} (hg : X.A.guards = some []) (hu : X.A.units + 64 < cLine) (hs : SysK X.K) : CallR X (.type "str") (fun xs H Q => ∃ (v : V) (d : PyData), xs = [v] ∧ Dr X.K H v d ∧ (∀ i, d ≠ .int i) ∧ (∀ z, d ≠ .str z) ∧ d.showable = true ∧ d.shown.length ≤ sizeLine ∧ d.depth ≤ 20 ∧ Q (.str d.shown) H) := by
  intro pins s σ H xs us Q I r h
  obtain ⟨v, d, rfl, hd, n1, n2, hsh, hz, hdp, q⟩ := h
  cases r with
  | cons r1 rr =>
    cases rr
    cases hd with
    | non =>
      cases r1
      exact PySem.P.str_of_none ⟨.str _, H, I.tok _, ⟨_, rfl⟩, q⟩
    | bl b =>
      cases r1
      refine PySem.P.str_of_bool ⟨.str _, H, I.tok _, ⟨_, rfl⟩, ?_⟩
      simpa only [PyData.shown] using q
    | int i => exact absurd rfl (n1 i)
    | str x => exact absurd rfl (n2 x)
    | lst h1 h2 =>
      cases r1
      obtain ⟨as, rd, hn⟩ := Dr.reads I hs (.lst h1 h2) rfl
      exact str_of_reads rd hsh (fun _ => hn) hg (by omega) (fun _ _ e => e) (fun h' u tk hk => ⟨.str _, H, I.kept (t' := tk) hk, ⟨u, rfl⟩, q⟩) hz
    | tup h1 h2 =>
      cases r1
      obtain ⟨as, rd, hn⟩ := Dr.reads I hs (.tup h1 h2) rfl
      exact str_of_reads rd hsh (fun _ => hn) hg (by omega) (fun _ _ e => e) (fun h' u tk hk => ⟨.str _, H, I.kept (t' := tk) hk, ⟨u, rfl⟩, q⟩) hz
    | dct h1 h2 =>
      cases r1
      obtain ⟨as, rd, hn⟩ := Dr.reads I hs (.dct h1 h2) rfl
      exact str_of_reads rd hsh (fun _ => hn) hg (by omega) (fun _ _ e => e) (fun h' u tk hk => ⟨.str _, H, I.kept (t' := tk) hk, ⟨u, rfl⟩, q⟩) hz
section
variable {X : Cx} {T : Th X.K} {B : Ba} {o : Expr} {to : TDE T} {pos : Pos}
def fStrD {K : PySem.W.Frag} {T : Th K} : D T.O → (D T.O → Prop) → Prop := fun d k => match d with
  | .int i => i.natAbs.log2 < 1920 ∧ (toString i : Str).length ≤ sizeLine ∧ k (.str (toString i))
  | .str s => k (.str s)
  | d => ∃ p, toPyX d = some p ∧ (∀ i, p ≠ .int i) ∧ (∀ z, p ≠ .str z) ∧ p.showable = true ∧ p.shown.length ≤ sizeLine ∧ p.depth ≤ 20 ∧ k (.str p.shown)
theorem cd_strD (hg : X.A.guards = some []) (hu : X.A.units + 64 < cLine) (hs : SysK X.K) : CallD T (.type "str") (r1 fStrD) := by
  have rp : CallD T (.type "str") (r1 fun d k => ∃ p, toPyX d = some p ∧ (∀ i, p ≠ .int i) ∧ (∀ z, p ≠ .str z) ∧ p.showable = true ∧ p.shown.length ≤ sizeLine ∧ p.depth ≤ 20 ∧ k (.str p.shown)) := CallR.imp (call_strR hg hu hs) fun xs H Q ⟨Z, ds, q, l, rl, hr, k⟩ => by
    obtain ⟨d, rfl, hr⟩ := r1_of hr
    obtain ⟨v, rfl, rv⟩ := trepl1 rl
    obtain ⟨p, e, n1, n2, h1, h2, h3, hk⟩ := hr
    exact ⟨v, p, rfl, rv.drx hid_sub e, n1, n2, h1, h2, h3, k _ hk _ _ (same_refl _) (.str _ h2)⟩
  exact CallD.imp (cd_str.or rp) fun ds k h => by
    obtain ⟨d, rfl, h⟩ := r1_of h
    cases d <;> first
      | exact .inl h
      | exact .inr h
/-! ### text <= text -/
def rLeS {K : PySem.W.Frag} {T : Th K} : ROp T := fun dx dy k => match dx, dy with
  | .str i, .str j => k (.bl (!decide (j.cps.toList < i.cps.toList)))
  | _, _ => False
theorem od_leS : OpD T (compareOp .LtE) rLeS := OpR.imp op_le_str fun x y H Q ⟨Z, dx, dy, q, l, rx, ry, hr, k⟩ => by
  cases dx <;> try exact hr.elim
  cases dy <;> try exact hr.elim
  exact ⟨_, _, rx.of_str.1, ry.of_str.1, k _ hr _ _ (same_refl _) (.bl _)⟩
/-! ### text.upper() -/
def dUpper {K : PySem.W.Frag} {T : Th K} (to : TDE T) : TDE T := fun g cs Q => to g cs fun s cs1 => onStr s fun a => a.length ≤ 1000000 ∧ (Txt.upper a).length ≤ sizeLine ∧ Q (.dat (.str (Txt.upper a))) cs1
theorem pd_upper {apos : Pos} (ho : PD B X o to) (hbase : attributeBase o "upper" X.env (eval o X.env) = eval o X.env := by rfl) (hline : (apos.endLine == pos.line) = true := by rfl) :
    PD B X (.Call (.Attribute o "upper" apos) [] [] pos) (dUpper to) :=
  PE.imp (pe_upper ho hbase hline) fun σ H Q ⟨g, as, cs, q, st, h, k⟩ => ⟨g, as, cs, _, st, h, fun s cs1 h1 v as1 H1 x1 r1 => by
    obtain ⟨a, es, h2, h3, h4⟩ := onStr_of h1
    subst es
    cases r1
    exact ⟨⟨a, rfl⟩, a, rfl, rfl, by omega, k _ _ h4 _ _ _ x1 (.str _ h3)⟩⟩
end
end Dl
set_option Elab.async false
set_option linter.all false
set_option maxRecDepth 100000
set_option maxHeartbeats 2000000
/-! Readings of the program's defs. -/
namespace H1
open PySem PySem.Spec PyProof.Rows L2 Ev Dl LamX
abbrev retE : List Stmt → Expr
  | .Return (some e) _ :: _ => e
  | _ => .Name "" ⟨0, 0, 0, 0⟩
section
variable {P : Program} {w : World} {K : PySem.W.Frag} {mg : Str → Option Value} {base : Heap} {f : Addr}
abbrev N__law_pen : List Str := ["_law_script"]
theorem sc__law_pen : FnScope N__law_pen ["_law_script"] (defScope (top i__law_pen)) := ⟨rfl, rfl, rfl, by decide +kernel, rfl, by decide +kernel, by decide +kernel⟩
def t__law_pen (K : PySem.W.Frag)  (xd : Xd (TT K)) : TDE (TT K) := (dLstO (dCons (dCall (r1 (fList (T := TT K))) (dCons (dSl (dVar (TT K) 0) dNoP (dSoP (dC (TT K) (.int 63)))) dNil)) (dCons (dC (TT K) (.int 0)) (dCons (dC (TT K) (.int 0)) dNil))))
theorem der__law_pen {k : Nat} (F : Fc P w K mg base)   : DerE P w K mg base N__law_pen "_law_pen" (defScope (top i__law_pen)) f k efT (retE (defBody (top i__law_pen))) (t__law_pen K ) := fun cdv A outer s H E hr B xd XX => (pd_lstO (pda_cons (pd_callTy cd_list F.t_list (pda_cons (pd_slice (pd_var 0) pdo_none (pdo_some pd_int)) pda_nil)) (pda_cons pd_int (pda_cons pd_int pda_nil))))
abbrev N__law_draw : List Str := ["_law_pen_here", "_law_many", "_law_digit", "_law_at", "_law_cell", "_law_great", "_law_mixed"]
theorem sc__law_draw : FnScope N__law_draw ["_law_pen_here", "_law_many"] (defScope (top i__law_draw)) := ⟨rfl, rfl, rfl, by decide +kernel, rfl, by decide +kernel, by decide +kernel⟩
def t__law_draw (K : PySem.W.Frag)  (xd : Xd (TT K)) : TDS (TT K) := (dSeq (dIf (dTest (dOp rGt (dOp rIxD (dVar (TT K) 0) (dC (TT K) (.int 2))) (dC (TT K) (.int 0)))) (dSeq (dSet 2 (dOp rMod (dCall (r1 (fInt (T := TT K))) (dCons (dOp rIxD (dVar (TT K) 0) (dC (TT K) (.int 2))) dNil)) (dVar (TT K) 1))) (dSeq (dSetIx (dVar (TT K) 0) (dC (TT K) (.int 2)) (dOp rFdiv (dCall (r1 (fInt (T := TT K))) (dCons (dOp rIxD (dVar (TT K) 0) (dC (TT K) (.int 2))) dNil)) (dVar (TT K) 1))) (dRet (dVar (TT K) 2)))) dNx) (dSeq (dSet 3 (dOp rIxD (dVar (TT K) 0) (dC (TT K) (.int 1)))) (dSeq (dSetIx (dVar (TT K) 0) (dC (TT K) (.int 1)) (dOp rAdd (dVar (TT K) 3) (dC (TT K) (.int 1)))) (dSeq (dSet 4 (dOp rAdd (dOp rMul (dC (TT K) (.int 71057)) (dVar (TT K) 3)) (dC (TT K) (.int 619)))) (dSeq (dIf (dTest (dOp rNeA (dOp rIxD (dVar (TT K) 0) (dC (TT K) (.int 0))) (dLst dNil))) (dSet 4 (dOp rIxD (dOp rIxD (dVar (TT K) 0) (dC (TT K) (.int 0))) (dOp rMod (dCall (r1 (fInt (T := TT K))) (dCons (dVar (TT K) 3) dNil)) (dCall (r1 (fLen (T := TT K))) (dCons (dOp rIxD (dVar (TT K) 0) (dC (TT K) (.int 0))) dNil))))) dNx) (dSeq (dIf (dAnd (dTest (dOp rLt (dVar (TT K) 3) (dCall (r1 (fLen (T := TT K))) (dCons (dOp rIxD (dVar (TT K) 0) (dC (TT K) (.int 0))) dNil)))) (dTest (dOp rGe (dCall (r1 (fAbs (T := TT K))) (dCons (dVar (TT K) 4) dNil)) (dOp rPow (dC (TT K) (.int 10)) (dC (TT K) (.int 18)))))) (dSeq (dSet 5 (dOp rAdd (dOp rMul (dC (TT K) (.int 2)) (dOp rSub (dCall (r1 (fAbs (T := TT K))) (dCons (dVar (TT K) 4) dNil)) (dOp rPow (dC (TT K) (.int 10)) (dC (TT K) (.int 18))))) (dCall (r1 (fInt (T := TT K))) (dCons (dOp rLt (dVar (TT K) 4) (dC (TT K) (.int 0))) dNil)))) (dSeq (dSetIx (dVar (TT K) 0) (dC (TT K) (.int 2)) (dOp rFdiv (dCall (r1 (fInt (T := TT K))) (dCons (dVar (TT K) 5) dNil)) (dVar (TT K) 1))) (dRet (dOp rMod (dCall (r1 (fInt (T := TT K))) (dCons (dVar (TT K) 5) dNil)) (dVar (TT K) 1))))) dNx) (dSeq (dSet 6 (dOp rMod (dCall (r1 (fInt (T := TT K))) (dCons (dOp rPow (dOp rAdd (dOp rAdd (dOp rMod (dCall (r1 (fInt (T := TT K))) (dCons (dVar (TT K) 4) dNil)) (dC (TT K) (.int 2147483563))) (dOp rMul (dC (TT K) (.int 64051)) (dVar (TT K) 3))) (dC (TT K) (.int 209))) (dC (TT K) (.int 5))) dNil)) (dC (TT K) (.int 2147483629)))) (dSeq (dSet 6 (dOp rMod (dCall (r1 (fInt (T := TT K))) (dCons (dOp rPow (dOp rAdd (dOp rAdd (dOp rMul (dVar (TT K) 6) (dOp rAdd (dOp rMul (dC (TT K) (.int 2)) (dVar (TT K) 3)) (dC (TT K) (.int 455)))) (dOp rMul (dOp rMul (dC (TT K) (.int 58053)) (dVar (TT K) 3)) (dVar (TT K) 3))) (dC (TT K) (.int 35))) (dC (TT K) (.int 3))) dNil)) (dC (TT K) (.int 2147483587)))) (dRet (dOp rMod (dCall (r1 (fInt (T := TT K))) (dCons (dOp rFdiv (dVar (TT K) 6) (dC (TT K) (.int 32))) dNil)) (dVar (TT K) 1)))))))))))
theorem der__law_draw {k : Nat} (F : Fc P w K mg base)   : Der P w K mg base N__law_draw "_law_draw" (defScope (top i__law_draw)) f k efT (defBody (top i__law_draw)) (t__law_draw K ) := fun cdv A outer s H E hr B xd XX => (pds_cons (pds_if (pdt_cmp od_gt (pd_ix (pd_var 0) pd_int) pd_int) (pds_cons (pds_set 2 sc__law_draw.nd (pd_op od_mod (pd_callTy cd_int F.t_int (pda_cons (pd_ix (pd_var 0) pd_int) pda_nil)) (pd_var 1))) (pds_cons (pds_setIx (pd_var 0) pd_int (pd_op od_fdiv (pd_callTy cd_int F.t_int (pda_cons (pd_ix (pd_var 0) pd_int) pda_nil)) (pd_var 1))) (pds_one (pds_ret (pd_var 2))))) pds_nil) (pds_cons (pds_set 3 sc__law_draw.nd (pd_ix (pd_var 0) pd_int)) (pds_cons (pds_setIx (pd_var 0) pd_int (pd_op od_add (pd_var 3) pd_int)) (pds_cons (pds_set 4 sc__law_draw.nd (pd_op od_add (pd_op od_mulA pd_int (pd_var 3)) pd_int)) (pds_cons (pds_if (pdt_cmp (od_neA hr.units) (pd_ix (pd_var 0) pd_int) (pd_lst pda_nil)) (pds_one (pds_set 4 sc__law_draw.nd (pd_ix (pd_ix (pd_var 0) pd_int) (pd_op od_mod (pd_callTy cd_int F.t_int (pda_cons (pd_var 3) pda_nil)) (pd_callB cd_len F.t_len (pda_cons (pd_ix (pd_var 0) pd_int) pda_nil)))))) pds_nil) (pds_cons (pds_if (pdt_w (pdw_and (pdt_cmp od_ltA (pd_var 3) (pd_callB cd_len F.t_len (pda_cons (pd_ix (pd_var 0) pd_int) pda_nil))) (pdw_and1 (pdt_cmp od_ge (pd_callB cd_abs F.t_abs (pda_cons (pd_var 4) pda_nil)) (pd_op od_pow pd_int pd_int))))) (pds_cons (pds_set 5 sc__law_draw.nd (pd_op od_add (pd_op od_mulA pd_int (pd_op od_sub (pd_callB cd_abs F.t_abs (pda_cons (pd_var 4) pda_nil)) (pd_op od_pow pd_int pd_int))) (pd_callTy cd_int F.t_int (pda_cons (pd_cmp od_ltA (pd_var 4) pd_int) pda_nil)))) (pds_cons (pds_setIx (pd_var 0) pd_int (pd_op od_fdiv (pd_callTy cd_int F.t_int (pda_cons (pd_var 5) pda_nil)) (pd_var 1))) (pds_one (pds_ret (pd_op od_mod (pd_callTy cd_int F.t_int (pda_cons (pd_var 5) pda_nil)) (pd_var 1)))))) pds_nil) (pds_cons (pds_set 6 sc__law_draw.nd (pd_op od_mod (pd_callTy cd_int F.t_int (pda_cons (pd_op od_pow (pd_op od_add (pd_op od_add (pd_op od_mod (pd_callTy cd_int F.t_int (pda_cons (pd_var 4) pda_nil)) pd_int) (pd_op od_mulA pd_int (pd_var 3))) pd_int) pd_int) pda_nil)) pd_int)) (pds_cons (pds_set 6 sc__law_draw.nd (pd_op od_mod (pd_callTy cd_int F.t_int (pda_cons (pd_op od_pow (pd_op od_add (pd_op od_add (pd_op od_mulA (pd_var 6) (pd_op od_add (pd_op od_mulA pd_int (pd_var 3)) pd_int)) (pd_op od_mulA (pd_op od_mulA pd_int (pd_var 3)) (pd_var 3))) pd_int) pd_int) pda_nil)) pd_int)) (pds_one (pds_ret (pd_op od_mod (pd_callTy cd_int F.t_int (pda_cons (pd_op od_fdiv (pd_var 6) pd_int) pda_nil)) (pd_var 1))))))))))))
abbrev N__law_pick : List Str := ["_law_pen_here", "_law_some"]
theorem sc__law_pick : FnScope N__law_pick ["_law_pen_here", "_law_some"] (defScope (top i__law_pick)) := ⟨rfl, rfl, rfl, by decide +kernel, rfl, by decide +kernel, by decide +kernel⟩
def t__law_pick (K : PySem.W.Frag) (sd__law_draw : SpO (TT K)) (xd : Xd (TT K)) : TDS (TT K) := (dRet (dOp rIxD (dVar (TT K) 1) (dCallO sd__law_draw xd (dCons (dVar (TT K) 0) (dCons (dCall (r1 (fLen (T := TT K))) (dCons (dVar (TT K) 1) dNil)) dNil)))))
theorem der__law_pick {k : Nat} (F : Fc P w K mg base) {sd__law_draw : SpO (TT K)} {k__law_draw : Nat} (D__law_draw : DefP P w K mg base (L2.CX P w) k__law_draw "_law_draw" ["_law_pen_here", "_law_many"] (spO (TT K) efT sd__law_draw)) (h__law_draw : k__law_draw ≤ k) : Der P w K mg base N__law_pick "_law_pick" (defScope (top i__law_pick)) f k efT (defBody (top i__law_pick)) (t__law_pick K sd__law_draw) := fun cdv A outer s H E hr B xd XX => (pds_one (pds_ret (pd_ix (pd_var 1) (pd_defO D__law_draw (hr.mono h__law_draw) XX (pda_cons (pd_var 0) (pda_cons (pd_callB cd_len F.t_len (pda_cons (pd_var 1) pda_nil)) pda_nil))))))
abbrev N__law_word : List Str := ["_law_pen_here", "_law_letters", "_law_word_here", "_law_barred", "_law_near", "_law_some", "_law_k"]
theorem sc__law_word : FnScope N__law_word ["_law_pen_here"] (defScope (top i__law_word)) := ⟨rfl, rfl, rfl, by decide +kernel, rfl, by decide +kernel, by decide +kernel⟩
def t__law_word (K : PySem.W.Frag) (sd__law_draw : SpO (TT K)) (sd__law_pick : SpO (TT K)) (xd : Xd (TT K)) : TDS (TT K) := (dSeq (dSet 1 (dC (TT K) (.str "abcdefghijklmnopqrstuvwxyz"))) (dSeq (dSet 2 (dJoin (dC (TT K) (.str "")) (dLc (dIt1 (dOp rAdd (dC (TT K) (.int 1)) (dCallO sd__law_draw xd (dCons (dVar (TT K) 0) (dCons (dC (TT K) (.int 9)) dNil)))) (fRng (T := TT K))) (dName 6) dYes (dCallO sd__law_pick (noX (TT K)) (dCons (dVar (TT K) 0) (dCons (dVar (TT K) 1) dNil))) [6]))) (dSeq (dSet 3 (dLst (dCons (dC (TT K) (.str "byte")) (dCons (dC (TT K) (.str "size")) (dCons (dC (TT K) (.str "align")) (dCons (dC (TT K) (.str "place")) (dCons (dC (TT K) (.str "end")) (dCons (dC (TT K) (.str "packed")) (dCons (dC (TT K) (.str "and")) (dCons (dC (TT K) (.str "or")) (dCons (dC (TT K) (.str "not")) (dCons (dC (TT K) (.str "yes")) (dCons (dC (TT K) (.str "no")) (dCons (dC (TT K) (.str "for")) (dCons (dC (TT K) (.str "nogap")) dNil))))))))))))))) (dSeq (dSet 4 (dCallO sd__law_pick xd (dCons (dVar (TT K) 0) (dCons (dOp rAdd (dVar (TT K) 3) (dLst (dCons (dC (TT K) (.str "notail")) (dCons (dC (TT K) (.str "leaf")) dNil)))) dNil)))) (dSeq (dSet 5 (dLst (dCons (dVar (TT K) 2) (dCons (dVar (TT K) 2) (dCons (dVar (TT K) 2) (dCons (dSl (dVar (TT K) 2) dNoP (dSoP (dC (TT K) (.int 8)))) (dCons (dVar (TT K) 4) (dCons (dOp rAdd (dVar (TT K) 4) (dC (TT K) (.str "s"))) (dCons (dSl (dVar (TT K) 4) (dSoP (dC (TT K) (.int 1))) dNoP) (dCons (dOp rAdd (dVar (TT K) 2) (dC (TT K) (.str "1"))) (dCons (dUpper (dVar (TT K) 2)) (dCons (dOp rAdd (dVar (TT K) 2) (dC (TT K) (.str " "))) (dCons (dOp rAdd (dC (TT K) (.str "_")) (dVar (TT K) 2)) dNil))))))))))))) (dRet (dCallO sd__law_pick xd (dCons (dVar (TT K) 0) (dCons (dOp rAdd (dVar (TT K) 5) (dLst (dCons (dC (TT K) (.str "")) (dCons (dC (TT K) (.str " ")) (dCons (dC (TT K) .non) (dCons (dC (TT K) (.bl true)) (dCons (dC (TT K) (.int 7)) (dCons (dTup (dCons (dVar (TT K) 2) dNil)) (dCons (dLst (dCons (dVar (TT K) 2) dNil)) (dCons (dFrz (dDicO (TT K))) (dCons (dC (TT K) (.str "a.b")) (dCons (dC (TT K) (.str "leafs")) dNil)))))))))))) dNil)))))))))
theorem der__law_word {k : Nat} (F : Fc P w K mg base) {sd__law_draw : SpO (TT K)} {sd__law_pick : SpO (TT K)} {k__law_draw : Nat} (D__law_draw : DefP P w K mg base (L2.CX P w) k__law_draw "_law_draw" ["_law_pen_here", "_law_many"] (spO (TT K) efT sd__law_draw)) (h__law_draw : k__law_draw ≤ k) {k__law_pick : Nat} (D__law_pick : DefP P w K mg base (L2.CX P w) k__law_pick "_law_pick" ["_law_pen_here", "_law_some"] (spO (TT K) efT sd__law_pick)) (h__law_pick : k__law_pick ≤ k) : Der P w K mg base N__law_word "_law_word" (defScope (top i__law_word)) f k efT (defBody (top i__law_word)) (t__law_word K sd__law_draw sd__law_pick) := fun cdv A outer s H E hr B xd XX => (pds_cons (pds_set 1 sc__law_word.nd pd_str) (pds_cons (pds_set 2 sc__law_word.nd (pd_join pd_str (pd_lc (own := [("_law_k", 6)]) rfl sc__law_word.nd (pdi_range1 F.t_range (pd_op od_add pd_int (pd_defO D__law_draw (hr.mono h__law_draw) XX (pda_cons (pd_var 0) (pda_cons pd_int pda_nil))))) (blkOk_by (N := N__law_word) (sc := (defScope (top i__law_word))) (by decide +kernel)) (fun _ _ _ _ _ _ => (pdg_name 6 sc__law_word.nd)) (fun _ _ _ _ _ _ => pdts_nil) (fun _ _ _ _ _ _ => (pd_defO D__law_pick (hr.mono h__law_pick) (XP.no _ _) (pda_cons (pd_var 0) (pda_cons (pd_var 1) pda_nil))))))) (pds_cons (pds_set 3 sc__law_word.nd (pd_lst (pda_cons pd_str (pda_cons pd_str (pda_cons pd_str (pda_cons pd_str (pda_cons pd_str (pda_cons pd_str (pda_cons pd_str (pda_cons pd_str (pda_cons pd_str (pda_cons pd_str (pda_cons pd_str (pda_cons pd_str (pda_cons pd_str pda_nil))))))))))))))) (pds_cons (pds_set 4 sc__law_word.nd (pd_defO D__law_pick (hr.mono h__law_pick) XX (pda_cons (pd_var 0) (pda_cons (pd_op od_add (pd_var 3) (pd_lst (pda_cons pd_str (pda_cons pd_str pda_nil)))) pda_nil)))) (pds_cons (pds_set 5 sc__law_word.nd (pd_lst (pda_cons (pd_var 2) (pda_cons (pd_var 2) (pda_cons (pd_var 2) (pda_cons (pd_slice (pd_var 2) pdo_none (pdo_some pd_int)) (pda_cons (pd_var 4) (pda_cons (pd_op od_add (pd_var 4) pd_str) (pda_cons (pd_slice (pd_var 4) (pdo_some pd_int) pdo_none) (pda_cons (pd_op od_add (pd_var 2) pd_str) (pda_cons (pd_upper (pd_var 2)) (pda_cons (pd_op od_add (pd_var 2) pd_str) (pda_cons (pd_op od_add pd_str (pd_var 2)) pda_nil))))))))))))) (pds_one (pds_ret (pd_defO D__law_pick (hr.mono h__law_pick) XX (pda_cons (pd_var 0) (pda_cons (pd_op od_add (pd_var 5) (pd_lst (pda_cons pd_str (pda_cons pd_str (pda_cons pd_non (pda_cons pd_bl (pda_cons pd_int (pda_cons (pd_tup (pda_cons (pd_var 2) pda_nil)) (pda_cons (pd_lst (pda_cons (pd_var 2) pda_nil)) (pda_cons (pd_frz pd_dicO) (pda_cons pd_str (pda_cons pd_str pda_nil)))))))))))) pda_nil))))))))))
abbrev N__law_is_name : List Str := ["_law_thing", "_law_barred", "_law_sign"]
theorem sc__law_is_name : FnScope N__law_is_name ["_law_thing"] (defScope (top i__law_is_name)) := ⟨rfl, rfl, rfl, by decide +kernel, rfl, by decide +kernel, by decide +kernel⟩
def t__law_is_name (K : PySem.W.Frag)  (xd : Xd (TT K)) : TDS (TT K) := (dSeq (dIf (dOr (dNot (dTru (dCall (rIsi1 cnT ownT subT) (dCons (dVar (TT K) 0) (dCons (dC (TT K) (.ty "str")) dNil))))) (dOr (dTest (dOp rEqA (dVar (TT K) 0) (dC (TT K) (.str "")))) (dTest (dOp rGt (dCall (r1 (fLen (T := TT K))) (dCons (dVar (TT K) 0) dNil)) (dC (TT K) (.int 8)))))) (dRet (dC (TT K) (.bl false))) dNx) (dSeq (dIf (dTest (dOp (rNeZ (T := TT K)) (dLc (dItS (dVar (TT K) 0)) (dName 2) (dNot (dTest (dChain rLeS rLeS (dC (TT K) (.str "a")) (dVar (TT K) 2) (dC (TT K) (.str "z"))))) (dVar (TT K) 2) [2]) (dLst dNil))) (dRet (dC (TT K) (.bl false))) dNx) (dSeq (dSet 1 (dC (TT K) (.str "byte size align place end packed and or not yes no for nogap notail leaf"))) (dRet (dOp rNotInA (dVar (TT K) 0) (dSplit (dVar (TT K) 1) (dC (TT K) (.str " "))))))))
theorem der__law_is_name {k : Nat} (F : Fc P w K mg base)   : Der P w K mg base N__law_is_name "_law_is_name" (defScope (top i__law_is_name)) f k efT (defBody (top i__law_is_name)) (t__law_is_name K ) := fun cdv A outer s H E hr B xd XX => (pds_cons (pds_if (pdt_w (pdw_or (pdt_not (pdt_tru (pd_callB (cd_isi F.isi) F.t_isinstance (pda_cons (pd_var 0) (pda_cons (pd_ty (by rfl) F.t_str (by decide +kernel)) pda_nil))))) (pdw_or (pdt_cmp (od_eqA hr.units) (pd_var 0) pd_str) (pdw_or1 (pdt_cmp od_gt (pd_callB cd_len F.t_len (pda_cons (pd_var 0) pda_nil)) pd_int))))) (pds_one (pds_ret pd_bl)) pds_nil) (pds_cons (pds_if (pdt_cmp (od_neZ hr.units) (pd_lc (own := [("_law_sign", 2)]) rfl sc__law_is_name.nd (pdi_str (pd_var 0)) (blkOk_by (N := N__law_is_name) (sc := (defScope (top i__law_is_name))) (by decide +kernel)) (fun _ _ _ _ _ _ => (pdg_name 2 sc__law_is_name.nd)) (fun _ _ _ _ _ _ => (pdts_one (pdt_not (pdt_chain od_leS od_leS pd_str (pd_var 2) pd_str)))) (fun _ _ _ _ _ _ => (pd_var 2))) (pd_lst pda_nil)) (pds_one (pds_ret pd_bl)) pds_nil) (pds_cons (pds_set 1 sc__law_is_name.nd pd_str) (pds_one (pds_ret (pd_cmp od_notInL (pd_var 0) (pd_split (pd_var 1) pd_str)))))))
abbrev N__law_heard : List Str := ["_law_deed", "_law_caught", "_law_found", "error"]
theorem sc__law_heard : FnScope N__law_heard ["_law_deed"] (defScope (top i__law_heard)) := ⟨rfl, rfl, rfl, by decide +kernel, rfl, by decide +kernel, by decide +kernel⟩
def t__law_heard (K : PySem.W.Frag) (f : Addr) (act : ActD (TT K)) : TDS (TT K) := (dSeq (dAsg (dTup (dCons (dC (TT K) .non) (dCons (dC (TT K) .non) dNil))) (dGTup 2 (dGCons (dName 1) (dGCons (dName 2) dGNil)))) (dSeq (dTryK 4 1 okE .err (fun xt => (dSet 2 (dAct f act xt)))) (dSeq (dIf (dTest (dOp rIsN (dVar (TT K) 1) (dC (TT K) .non))) (dRet (dLst (dCons (dCall (r1 (fStrX (T := TT K) soT)) (dCons (dVar (TT K) 2) dNil)) (dCons (dFld atT (dVar (TT K) 2) "depth") dNil)))) dNx) (dSeq (dIf (dTru (dCall (rIsi1 cnT ownT subT) (dCons (dVar (TT K) 1) (dCons (dC (TT K) (.cls "BadName")) dNil)))) (dRet (dTup (dCons (dC (TT K) (.str "name")) (dCons (dFld atT (dVar (TT K) 1) "name") dNil)))) dNx) (dSeq (dIf (dTru (dCall (rIsi1 cnT ownT subT) (dCons (dVar (TT K) 1) (dCons (dC (TT K) (.cls "BadTimes")) dNil)))) (dRet (dTup (dCons (dC (TT K) (.str "times")) (dCons (dFld atT (dVar (TT K) 1) "value") dNil)))) dNx) (dRet (dTup (dCons (dC (TT K) (.str "other")) dNil))))))))
theorem der__law_heard {X : Cx} {g : Addr} {cdg : Value} {q : Str} (hr : Room 4 X.A) (F : Fc X.prog X.w X.K X.mg X.base) (B : Ba) (f c' : Addr) (s : Shared) (H : Hp) (tl : XK → Hp → VK → Prop) (act : ActD (TT X.K)) (hB : B.as0 = []) (hlv : Live B.Z B.H0) (hc : B.H0 c' = some (CodeO c' q)) (hl : LamOk (TT X.K) efT B.Z B.H0 tl act) (R : ActR (cxH X N__law_heard "_law_heard" (defScope (top i__law_heard)) g cdg s H) "_law_deed" f c' q tl) : PDSs B (cxH X N__law_heard "_law_heard" (defScope (top i__law_heard)) g cdg s H).nox (T := TT X.K) (defBody (top i__law_heard)) (t__law_heard X.K f act) := (pds_cons (pds_asg (pd_tup (pda_cons pd_non (pda_cons pd_non pda_nil))) (pdg_tup rfl (pdgs_cons (pdg_name 1 sc__law_heard.nd) (pdgs_cons (pdg_name 2 sc__law_heard.nd) pdgs_nil)))) (pds_cons (pds_tryK rfl rfl rfl sc__law_heard.nd (i := 3) rfl rfl ⟨rfl, by decide, .inl F.g_PadError⟩ hB hlv F.erO F.xmE (by decide) (show 1 < 4 by decide) (fun pn xe xt XT po => (pds_one (pds_set 2 sc__law_heard.nd (pd_act R hB hc hl XT)))) (fun a oe pn => pss_one (ps_set (i := 1) sc__law_heard.nd rfl (Or.inl rfl) (pv 3)))) (pds_cons (pds_if (pdt_cmp od_isN (pd_var 1) pd_non) (pds_one (pds_ret (pd_lst (pda_cons (pd_callTy (cd_strX (OS F) (Room.deeper hr _)) F.t_str (pda_cons (pd_var 2) pda_nil)) (pda_cons (pd_fld F.at_ (pd_var 2)) pda_nil))))) pds_nil) (pds_cons (pds_if (pdt_tru (pd_callB (cd_isi F.isi) F.t_isinstance (pda_cons (pd_var 1) (pda_cons (pd_glob (v := .ref (He.ga X.K "BadName")) (by rfl) F.g_BadName rfl (fun _ => .cls _)) pda_nil)))) (pds_one (pds_ret (pd_tup (pda_cons pd_str (pda_cons (pd_fld F.at_ (pd_var 1)) pda_nil))))) pds_nil) (pds_cons (pds_if (pdt_tru (pd_callB (cd_isi F.isi) F.t_isinstance (pda_cons (pd_var 1) (pda_cons (pd_glob (v := .ref (He.ga X.K "BadTimes")) (by rfl) F.g_BadTimes rfl (fun _ => .cls _)) pda_nil)))) (pds_one (pds_ret (pd_tup (pda_cons pd_str (pda_cons (pd_fld F.at_ (pd_var 1)) pda_nil))))) pds_nil) (pds_one (pds_ret (pd_tup (pda_cons pd_str pda_nil)))))))))
end
end H1
set_option Elab.async false
set_option linter.all false
set_option maxRecDepth 100000
set_option maxHeartbeats 1000000
/-! What is heard of a deed. -/
namespace H1
open PySem PySem.Spec PyProof.Rows L2 Ev Dl LamX
abbrev q__law_right : Str := (envOfC "_law_right" (defScope (top i__law_right)) 0 0 .none).qual ++ "<lambda>"
abbrev TLof (K : PySem.W.Frag) (l : List ((Str × Option Str) × Str)) : List (Addr × Str) := l.map fun t => ((He.cT K t.1).2, t.2)
abbrev ordV_Kind_0 : List V → List V := List.reverse
abbrev ord_Kind_0 : List (D PO) → List (D PO) := List.reverse
theorem ordR_Kind_0 {K : PySem.W.Frag} {h : Hp} {zs : List V} {ds : List (D PO)} (r : RepL (TT K) h zs ds) : RepL (TT K) h (ordV_Kind_0 zs) (ord_Kind_0 ds) := RepL.rev r
abbrev ordV_Use_1 : List V → List V := List.reverse
abbrev ord_Use_1 : List (D PO) → List (D PO) := List.reverse
theorem ordR_Use_1 {K : PySem.W.Frag} {h : Hp} {zs : List V} {ds : List (D PO)} (r : RepL (TT K) h zs ds) : RepL (TT K) h (ordV_Use_1 zs) (ord_Use_1 ds) := RepL.rev r
/-- what is told of an error -/
def toldE (y : Str) (ds : List (D PO)) (k : D PO → Prop) : Prop :=
  if y = "BadName" then (match ds with
    | [a] => k (.tup [.str "name", a])
    | _ => False)
  else if y = "BadTimes" then (match ds with
    | [a] => k (.tup [.str "times", a])
    | _ => False)
  else False
/-- what is told of a part -/
def toldP (d : D PO) (k : D PO → Prop) : Prop := match d with
  | .obj (.base p) => ∃ z, soT (.base p) = some (.str z) ∧ k (.lst [.str z, .int p.dep])
  | _ => False
def F_law_heard {K : PySem.W.Frag} (act : ActD (TT K)) (k : D PO → Prop) : Prop := ∃ q x, act q x ∧ (∀ d, q d → toldP d k) ∧ ∀ y ds, x y ds → toldE y ds k
theorem hs__law_heard {K : PySem.W.Frag} (f : Addr) (act : ActD (TT K)) (k : D PO → Prop) (h : F_law_heard (K := K) act k) : t__law_heard K f (monoA act) (enP k) (startG N__law_heard [.dat (.ptr f)]) [] := by
  obtain ⟨q, x, ha, hq, hx⟩ := h
  refine ⟨by show 2 ≤ sizeLine; decide, rfl, rfl, rfl, q, x, ha, fun d hd => ?_, fun y ds hy => ?_⟩
  · have hk := hq d hd
    cases d with
    | obj o => cases o with
      | base p =>
        obtain ⟨z, h1, h2⟩ := hk
        exact ⟨z, h1, by show 2 ≤ sizeLine; decide, h2⟩
      | mk C fs => exact hk.elim
      | err C ds => exact hk.elim
    | _ => exact hk.elim
  · have hk := hx y ds hy
    unfold toldE at hk
    by_cases e2 : y = "BadName"
    · rw [if_pos e2] at hk
      subst e2
      match ds, hk with
      | [a], hk => exact ⟨rfl, by show 2 ≤ sizeLine; decide, hk⟩
    · rw [if_neg e2] at hk
      by_cases e3 : y = "BadTimes"
      · rw [if_pos e3] at hk
        subst e3
        match ds, hk with
        | [a], hk => exact ⟨rfl, by show 2 ≤ sizeLine; decide, hk⟩
      · rw [if_neg e3] at hk
        exact hk.elim
theorem pd_law_heard {X : Cx} {B : Ba} {td : Xd (TT X.K) → TDE (TT X.K)} {m j n : Nat} {tl : List (Addr × Str)} {t0 : Addr × Str} {c : Addr} {ar : Arguments} {bd : Expr} {sc : Scope} {p p0 pos : Pos} (F : Fc X.prog X.w X.K X.mg X.base) (ta : TbAt B m tl) (tb : TabB X.base X.mg c t0.1) (room : Room (n + 2) X.A) (L : LamS X.env.scope sc)
    (inner : ∀ (A : Around) (outer : List Env) (s : Shared) (H : Hp) (E : XK) (f d : Addr), Room n (lamCx X A outer s H E sc f d).A → ∀ (B : Ba) (xd : Xd (TT X.K)), XP (lamCx X A outer s H E sc f d) (T := TT X.K) efT B xd → PD B (lamCx X A outer s H E sc f d) (T := TT X.K) bd (td xd))
    (h1 : 2 ≤ n := by omega)
    (cd : X.env.code = .ref c := by rfl) (hq : t0.2 = X.env.qual ++ "<lambda>" := by rfl) (ht : tl[j]? = some t0 := by rfl) (hg : Gl X "_law_heard" := by rfl) (dd : defaultsOf ar X.env = ([], []) := by rfl)
    (bind : ∀ (q : Str) (cl : List (Str × Addr)) (pm cv ctv : Value), bindArgs (PySem.W.kla_fn "<lambda>" q ar bd sc cl pm cv ctv) ⟨[], []⟩ = pure [] := by intro _ _ _ _ _; rfl) :
    PD B X (T := TT X.K) (.Call (.Name "_law_heard" p) [.Lambda ar bd sc p0] [] pos) (dHeard (m + j) t0.2 (F_law_heard (K := X.K)) td) := by
  obtain ⟨fd, FH⟩ := F.F__law_heard
  have hb := FunD.bindsN FH (ps := ["_law_deed"]) fun _ _ _ _ _ _ us hl => match us, hl with | [_], _ => rfl
  obtain ⟨oc, od, dV, kV, doc, pm, an, cdv, ct, osl, rfl, lk, hcd, hD, hK⟩ := FH.ex
  exact pd_hear hg F.g__law_heard FH.kp lk hcd hb sc__law_heard rfl (by first | exact .inl rfl | exact .inr (.inl rfl))
    (gives_mono (t := t__law_heard X.K) (fun B f c' s H tl act h1 h2 h3 h4 h5 => der__law_heard (room.mono (by omega)) F B f c' s H tl act h1 h2 h3 h4 h5) hs__law_heard) tb cd hq ta ht room L dd bind inner
end H1
set_option Elab.async false
set_option linter.all false
set_option maxRecDepth 100000
set_option maxHeartbeats 1000000
/-! a, b = x, y with plain local names. -/
namespace Dl
open PySem PySem.Spec PyProof.Rows L2 Ev
section
variable {X : Cx} {T : Th X.K} {B : Ba} {pos : Pos}
def dPar {K : PySem.W.Frag} {T : Th K} (i j : Nat) (ta : TDA T) : TDS T := fun E g cs => ta g cs fun ss cs1 => match ss with
  | [s, u] => E.nx ((g.set i (some s)).set j (some u)) cs1
  | _ => False
theorem pds_par (i j : Nat) {x y : Str} {a b : Expr} {ta : TDA T} {px py pt pt2 : Pos} {kt k2 : Nat} (hc : X.calm = true) (hN : X.N.Nodup) (ha : PDA B X [a, b] ta) (hi : X.N[i]? = some x := by rfl) (hj : X.N[j]? = some y := by rfl) (hij : i ≠ j := by decide)
    (hx : X.env.scope.names.lookup x = some .local := by rfl) (hy : X.env.scope.names.lookup y = some .local := by rfl)
    (hw : swappedStores [.Tuple [.Name x px, .Name y py] kt pt] (.Tuple [a, b] k2 pt2) X.env = pure (some [x, y]) := by rfl)
    (hs : swapsWithSole [.Tuple [.Name x px, .Name y py] kt pt] (.Tuple [a, b] k2 pt2) pos.line X.env = pure false := by rfl) :
    PDS B X (.Assign [.Tuple [.Name x px, .Name y py] kt pt] (.Tuple [a, b] k2 pt2) pos) (dPar i j ta) :=
  PS.imp (ps_par hc hN hi hj hij hx hy ha hw hs) fun E σ H ⟨g, as, cs, e, s, h, o⟩ => ⟨g, as, cs, _, s, h, fun ss cs1 h1 vs as1 H1 x1 r1 => by
    match ss, h1, r1 with
    | [s1, u1], h1, .cons r1 (.cons r2 .nil) => exact ⟨_, _, rfl, o.nx _ cs1 h1 as1 _ H1 (((s.step x1).set i r1).set j r2)⟩⟩
end
end Dl
set_option Elab.async false
set_option linter.all false
set_option maxRecDepth 100000
set_option maxHeartbeats 2000000
/-! Readings of the program's defs. -/
namespace H1
open PySem PySem.Spec PyProof.Rows L2 Ev Dl LamX
section
variable {P : Program} {w : World} {K : PySem.W.Frag} {mg : Str → Option Value} {base : Heap} {f : Addr}
abbrev N__law_right : List Str := ["_law_pen_here", "_law_word_here", "_law_many", "_law_is_times", "_law_due", "_law_heard_here"]
theorem sc__law_right : FnScope N__law_right ["_law_pen_here"] (defScope (top i__law_right)) := ⟨rfl, rfl, rfl, by decide +kernel, rfl, by decide +kernel, by decide +kernel⟩
def t__law_right (K : PySem.W.Frag) (sd__law_word : SpO (TT K)) (sd__law_pick : SpO (TT K)) (sd__law_draw : SpO (TT K)) (sd__law_is_name : SpP (TT K)) (sdC_Kind : SpN (TT K)) (sdC_Use : SpN (TT K)) (xd : Xd (TT K)) : TDS (TT K) := (dSeq (dSet 1 (dCallO sd__law_word xd (dCons (dVar (TT K) 0) dNil))) (dSeq (dSet 2 (dCallO sd__law_pick xd (dCons (dVar (TT K) 0) (dCons (dLst (dCons (dC (TT K) (.int 1)) (dCons (dC (TT K) (.int 2)) (dCons (dC (TT K) (.int 8)) (dCons (dOp rAdd (dC (TT K) (.int 1)) (dCallO sd__law_draw xd (dCons (dVar (TT K) 0) (dCons (dC (TT K) (.int 8)) dNil)))) (dCons (dC (TT K) (.int 0)) (dCons (dC (TT K) (.int 9)) (dCons (dNeg (dC (TT K) (.int 1))) (dCons (dC (TT K) (.bl true)) (dCons (dC (TT K) .non) (dCons (dC (TT K) (.str "1")) (dCons (dTup (dCons (dC (TT K) (.int 1)) dNil)) (dCons (dOp rPow (dC (TT K) (.int 10)) (dC (TT K) (.int 40))) dNil))))))))))))) dNil)))) (dSeq (dSet 3 (dAndV (dCall (rIsi1 cnT ownT subT) (dCons (dVar (TT K) 2) (dCons (dC (TT K) (.ty "int")) dNil))) (dAndV (dNotV (dCall (rIsi1 cnT ownT subT) (dCons (dVar (TT K) 2) (dCons (dC (TT K) (.ty "bool")) dNil)))) (dChain rLe rLe (dC (TT K) (.int 1)) (dVar (TT K) 2) (dC (TT K) (.int 8)))))) (dSeq (dSet 4 (dOp rAdd (dOp rAdd (dOp rMul (dLst (dCons (dIfE (dTru (dVar (TT K) 3)) (dLst (dCons (dVar (TT K) 1) (dCons (dC (TT K) (.int 0)) dNil))) (dTup (dCons (dC (TT K) (.str "times")) (dCons (dVar (TT K) 2) dNil)))) dNil)) (dC (TT K) (.int 2))) (dLst (dCons (dLst (dCons (dVar (TT K) 1) (dCons (dC (TT K) (.int 0)) dNil))) dNil))) (dOp rMul (dLst (dCons (dLst (dCons (dOp rAdd (dC (TT K) (.str "@")) (dCall (r1 (fStrD (T := TT K))) (dCons (dVar (TT K) 1) dNil))) (dCons (dC (TT K) (.int 0)) dNil))) dNil)) (dC (TT K) (.int 2))))) (dSeq (dIf (dNot (dTru (dCallP sd__law_is_name xd (dCons (dVar (TT K) 1) dNil)))) (dSet 4 (dOp rMul (dLst (dCons (dTup (dCons (dC (TT K) (.str "name")) (dCons (dVar (TT K) 1) dNil))) dNil)) (dC (TT K) (.int 5)))) dNx) (dSeq (dSet 5 (dLstO (dCons (dHeard 1 q__law_right F_law_heard (fun xl => (dNew sdC_Kind xl dfl_Kind_2 (dCons (dVar (TT K) 1) (dCons (dVar (TT K) 2) dNil))))) dNil))) (dSeq (dDrop (dApp (dVar (TT K) 5) (dHeard 1 q__law_right F_law_heard (fun xl => (dNewK sdC_Kind xl 2 ord_Kind_0 (dCons (dVar (TT K) 2) (dCons (dVar (TT K) 1) dNil))))))) (dSeq (dDrop (dApp (dVar (TT K) 5) (dHeard 1 q__law_right F_law_heard (fun xl => (dNew sdC_Kind xl dfl_Kind_1 (dCons (dVar (TT K) 1) dNil)))))) (dSeq (dDrop (dApp (dVar (TT K) 5) (dHeard 1 q__law_right F_law_heard (fun xl => (dNew sdC_Use xl dfl_Use_1 (dCons (dVar (TT K) 1) dNil)))))) (dSeq (dDrop (dApp (dVar (TT K) 5) (dHeard 1 q__law_right F_law_heard (fun xl => (dNewK sdC_Use xl 1 ord_Use_1 (dCons (dVar (TT K) 1) dNil)))))) (dRet (dOp rEqA (dCall (r1 (fReprX (T := TT K))) (dCons (dVar (TT K) 5) dNil)) (dCall (r1 (fReprX (T := TT K))) (dCons (dVar (TT K) 4) dNil))))))))))))))
theorem der__law_right {k : Nat} (F : Fc P w K mg base) {sd__law_word : SpO (TT K)} {sd__law_pick : SpO (TT K)} {sd__law_draw : SpO (TT K)} {sd__law_is_name : SpP (TT K)} {sdC_Kind : SpN (TT K)} {sdC_Use : SpN (TT K)} {k__law_word : Nat} (D__law_word : DefP P w K mg base (L2.CX P w) k__law_word "_law_word" ["_law_pen_here"] (spO (TT K) efT sd__law_word)) (h__law_word : k__law_word ≤ k) {k__law_pick : Nat} (D__law_pick : DefP P w K mg base (L2.CX P w) k__law_pick "_law_pick" ["_law_pen_here", "_law_some"] (spO (TT K) efT sd__law_pick)) (h__law_pick : k__law_pick ≤ k) {k__law_draw : Nat} (D__law_draw : DefP P w K mg base (L2.CX P w) k__law_draw "_law_draw" ["_law_pen_here", "_law_many"] (spO (TT K) efT sd__law_draw)) (h__law_draw : k__law_draw ≤ k) {k__law_is_name : Nat} (D__law_is_name : DefP P w K mg base (L2.CX P w) k__law_is_name "_law_is_name" ["_law_thing"] (spP (TT K) efT sd__law_is_name)) (h__law_is_name : k__law_is_name ≤ k) {k_Kind : Nat} (h_Kind : k_Kind + 1 ≤ k) (DC_Kind_2 : DefC P w K mg base (L2.CX P w) k_Kind "Kind" ["self", "name", "times"] (spN (TT K) efT "Kind" sdC_Kind) dv_Kind_2) (DC_Kind_1 : DefC P w K mg base (L2.CX P w) k_Kind "Kind" ["self", "name", "times"] (spN (TT K) efT "Kind" sdC_Kind) dv_Kind_1) {k_Use : Nat} (h_Use : k_Use + 1 ≤ k) (DC_Use_1 : DefC P w K mg base (L2.CX P w) k_Use "Use" ["self", "name"] (spN (TT K) efT "Use" sdC_Use) dv_Use_1) (DCK_Kind_0 : DefK P w K mg base (L2.CX P w) k_Kind "Kind" ["self", "name", "times"] ["times", "name"] (spN (TT K) efT "Kind" sdC_Kind) (fun vs zs => vs ++ ordV_Kind_0 zs)) (DCK_Use_1 : DefK P w K mg base (L2.CX P w) k_Use "Use" ["self", "name"] ["name"] (spN (TT K) efT "Use" sdC_Use) (fun vs zs => vs ++ ordV_Use_1 zs)) {kl : Nat} (h_kl : kl + 2 ≤ k) (h_kl2 : 2 ≤ kl) (hl_Kind : k_Kind + 1 ≤ kl) (hl_Use : k_Use + 1 ≤ kl) (TB0 : TabB base mg (He.cT K p__law_right).1 (He.cT K p__law_right).2) : DerW P w K mg base N__law_right "_law_right" (defScope (top i__law_right)) p__law_right k 1 (TLof K [(p__law_right, q__law_right)]) efT (defBody (top i__law_right)) (t__law_right K sd__law_word sd__law_pick sd__law_draw sd__law_is_name sdC_Kind sdC_Use) := fun A outer s H E hgd hr B xd tbA XX => (pds_cons (pds_set 1 sc__law_right.nd (pd_defO D__law_word (hr.mono h__law_word) XX (pda_cons (pd_var 0) pda_nil))) (pds_cons (pds_set 2 sc__law_right.nd (pd_defO D__law_pick (hr.mono h__law_pick) XX (pda_cons (pd_var 0) (pda_cons (pd_lst (pda_cons pd_int (pda_cons pd_int (pda_cons pd_int (pda_cons (pd_op od_add pd_int (pd_defO D__law_draw (hr.mono h__law_draw) XX (pda_cons (pd_var 0) (pda_cons pd_int pda_nil)))) (pda_cons pd_int (pda_cons pd_int (pda_cons (pd_neg pd_int) (pda_cons pd_bl (pda_cons pd_non (pda_cons pd_str (pda_cons (pd_tup (pda_cons pd_int pda_nil)) (pda_cons (pd_op od_pow pd_int pd_int) pda_nil))))))))))))) pda_nil)))) (pds_cons (pds_set 3 sc__law_right.nd (pd_and (pd_callB (cd_isi F.isi) F.t_isinstance (pda_cons (pd_var 2) (pda_cons (pd_ty (by rfl) F.t_int (by decide +kernel)) pda_nil))) (pd_and (pd_not (pd_callB (cd_isi F.isi) F.t_isinstance (pda_cons (pd_var 2) (pda_cons (pd_ty (by rfl) F.t_bool (by decide +kernel)) pda_nil)))) (pd_one (pd_chain od_le od_le pd_int (pd_var 2) pd_int))))) (pds_cons (pds_set 4 sc__law_right.nd (pd_op od_add (pd_op od_add (pd_op od_mulA (pd_lst (pda_cons (pd_ifE (pdt_tru (pd_var 3)) (pd_lst (pda_cons (pd_var 1) (pda_cons pd_int pda_nil))) (pd_tup (pda_cons pd_str (pda_cons (pd_var 2) pda_nil)))) pda_nil)) pd_int) (pd_lst (pda_cons (pd_lst (pda_cons (pd_var 1) (pda_cons pd_int pda_nil))) pda_nil))) (pd_op od_mulA (pd_lst (pda_cons (pd_lst (pda_cons (pd_op od_add pd_str (pd_callTy (cd_strD hgd hr.units F.sys) F.t_str (pda_cons (pd_var 1) pda_nil))) (pda_cons pd_int pda_nil))) pda_nil)) pd_int))) (pds_cons (pds_if (pdt_not (pdt_tru (pd_def D__law_is_name (hr.mono h__law_is_name) XX (pda_cons (pd_var 1) pda_nil)))) (pds_one (pds_set 4 sc__law_right.nd (pd_op od_mulA (pd_lst (pda_cons (pd_tup (pda_cons pd_str (pda_cons (pd_var 1) pda_nil))) pda_nil)) pd_int))) pds_nil) (pds_cons (pds_set 5 sc__law_right.nd (pd_lstO (pda_cons (pd_law_heard (X := cxR P w K mg base N__law_right "_law_right" (defScope (top i__law_right)) (He.fAd K p__law_right) (.ref (He.codeOf K p__law_right)) A outer s H E) (n := kl) (m := 1) (j := 0) (t0 := ((He.cT K p__law_right).2, q__law_right)) F tbA TB0 (hr.mono h_kl) (lamS_by (sc := (defScope (top i__law_right))) (by decide +kernel)) (fun A' outer' s' H' E' f' d' rl B' xl XL => (pd_new DC_Kind_2 dflr_Kind_2 (rl.mono hl_Kind) XL (pda_cons (pd_var 1) (pda_cons (pd_var 2) pda_nil))))) pda_nil))) (pds_cons (pds_expr (pd_append (pd_var 5) (pd_law_heard (X := cxR P w K mg base N__law_right "_law_right" (defScope (top i__law_right)) (He.fAd K p__law_right) (.ref (He.codeOf K p__law_right)) A outer s H E) (n := kl) (m := 1) (j := 0) (t0 := ((He.cT K p__law_right).2, q__law_right)) F tbA TB0 (hr.mono h_kl) (lamS_by (sc := (defScope (top i__law_right))) (by decide +kernel)) (fun A' outer' s' H' E' f' d' rl B' xl XL => (pd_newK ordR_Kind_0 DCK_Kind_0 (rl.mono hl_Kind) XL (pdk_cons (pd_var 2) (pdk_cons (pd_var 1) pdk_nil))))))) (pds_cons (pds_expr (pd_append (pd_var 5) (pd_law_heard (X := cxR P w K mg base N__law_right "_law_right" (defScope (top i__law_right)) (He.fAd K p__law_right) (.ref (He.codeOf K p__law_right)) A outer s H E) (n := kl) (m := 1) (j := 0) (t0 := ((He.cT K p__law_right).2, q__law_right)) F tbA TB0 (hr.mono h_kl) (lamS_by (sc := (defScope (top i__law_right))) (by decide +kernel)) (fun A' outer' s' H' E' f' d' rl B' xl XL => (pd_new DC_Kind_1 dflr_Kind_1 (rl.mono hl_Kind) XL (pda_cons (pd_var 1) pda_nil)))))) (pds_cons (pds_expr (pd_append (pd_var 5) (pd_law_heard (X := cxR P w K mg base N__law_right "_law_right" (defScope (top i__law_right)) (He.fAd K p__law_right) (.ref (He.codeOf K p__law_right)) A outer s H E) (n := kl) (m := 1) (j := 0) (t0 := ((He.cT K p__law_right).2, q__law_right)) F tbA TB0 (hr.mono h_kl) (lamS_by (sc := (defScope (top i__law_right))) (by decide +kernel)) (fun A' outer' s' H' E' f' d' rl B' xl XL => (pd_new DC_Use_1 dflr_Use_1 (rl.mono hl_Use) XL (pda_cons (pd_var 1) pda_nil)))))) (pds_cons (pds_expr (pd_append (pd_var 5) (pd_law_heard (X := cxR P w K mg base N__law_right "_law_right" (defScope (top i__law_right)) (He.fAd K p__law_right) (.ref (He.codeOf K p__law_right)) A outer s H E) (n := kl) (m := 1) (j := 0) (t0 := ((He.cT K p__law_right).2, q__law_right)) F tbA TB0 (hr.mono h_kl) (lamS_by (sc := (defScope (top i__law_right))) (by decide +kernel)) (fun A' outer' s' H' E' f' d' rl B' xl XL => (pd_newK ordR_Use_1 DCK_Use_1 (rl.mono hl_Use) XL (pdk_cons (pd_var 1) pdk_nil)))))) (pds_one (pds_ret (pd_cmp (od_eqA hr.units) (pd_callB (cd_reprX hgd hr.units F.sys) F.t_repr (pda_cons (pd_var 5) pda_nil)) (pd_callB (cd_reprX hgd hr.units F.sys) F.t_repr (pda_cons (pd_var 4) pda_nil)))))))))))))))
abbrev N__law_equal_right : List Str := ["_law_pen_here", "_law_words", "_law_one", "_law_other", "_law_first", "_law_second", "_law_kind", "_law_near", "_law_is_due", "_law_marks", "_law_odd", "_law_thing"]
theorem sc__law_equal_right : FnScope N__law_equal_right ["_law_pen_here"] (defScope (top i__law_equal_right)) := ⟨rfl, rfl, rfl, by decide +kernel, rfl, by decide +kernel, by decide +kernel⟩
def t__law_equal_right (K : PySem.W.Frag) (sd__law_pick : SpO (TT K)) (sd__law_draw : SpO (TT K)) (sdC_Kind : SpN (TT K)) (sdC_Use : SpN (TT K)) (sdC_Byte : SpN (TT K)) (oeP : PO → D PO → Option Bool) (xd : Xd (TT K)) : TDS (TT K) := (dSeq (dSet 1 (dLst (dCons (dC (TT K) (.str "a")) (dCons (dC (TT K) (.str "b")) (dCons (dC (TT K) (.str "ab")) (dCons (dC (TT K) (.str "zzzzzzzz")) dNil)))))) (dSeq (dAsg (dTup (dCons (dCallO sd__law_pick xd (dCons (dVar (TT K) 0) (dCons (dVar (TT K) 1) dNil))) (dCons (dCallO sd__law_pick xd (dCons (dVar (TT K) 0) (dCons (dVar (TT K) 1) dNil))) dNil))) (dGTup 2 (dGCons (dName 2) (dGCons (dName 3) dGNil)))) (dSeq (dPar 4 5 (dCons (dOp rAdd (dC (TT K) (.int 1)) (dCallO sd__law_draw xd (dCons (dVar (TT K) 0) (dCons (dC (TT K) (.int 3)) dNil)))) (dCons (dOp rAdd (dC (TT K) (.int 1)) (dCallO sd__law_draw xd (dCons (dVar (TT K) 0) (dCons (dC (TT K) (.int 3)) dNil)))) dNil))) (dSeq (dAsg (dTup (dCons (dNew sdC_Kind xd dfl_Kind_2 (dCons (dVar (TT K) 2) (dCons (dVar (TT K) 4) dNil))) (dCons (dNew sdC_Kind xd dfl_Kind_2 (dCons (dVar (TT K) 3) (dCons (dVar (TT K) 5) dNil))) dNil))) (dGTup 2 (dGCons (dName 6) (dGCons (dName 7) dGNil)))) (dSeq (dIf (dTest (dOp rNeA (dLst (dCons (dFld atT (dVar (TT K) 6) "name") (dCons (dFld atT (dVar (TT K) 6) "times") (dCons (dFld atT (dNew sdC_Kind xd dfl_Kind_1 (dCons (dVar (TT K) 2) dNil)) "times") (dCons (dFld atT (dNew sdC_Use xd dfl_Use_1 (dCons (dVar (TT K) 2) dNil)) "name") dNil))))) (dLst (dCons (dVar (TT K) 2) (dCons (dVar (TT K) 4) (dCons (dC (TT K) (.int 1)) (dCons (dVar (TT K) 2) dNil))))))) (dRet (dC (TT K) (.bl false))) dNx) (dSeq (dSet 8 (dAndV (dOp rEqA (dVar (TT K) 2) (dVar (TT K) 3)) (dOp rEqA (dVar (TT K) 4) (dVar (TT K) 5)))) (dSeq (dSet 9 (dLst (dCons (dOp (rEqX (T := TT K) oeP) (dVar (TT K) 6) (dVar (TT K) 7)) (dCons (dOp (rNeX (T := TT K) oeP) (dVar (TT K) 6) (dVar (TT K) 7)) (dCons (dOp (rEqX (T := TT K) oeP) (dNew sdC_Use xd dfl_Use_1 (dCons (dVar (TT K) 2) dNil)) (dNew sdC_Use xd dfl_Use_1 (dCons (dVar (TT K) 3) dNil))) (dCons (dOp (rEqX (T := TT K) oeP) (dNew sdC_Byte xd dfl_Byte_0 dNil) (dNew sdC_Byte xd dfl_Byte_0 dNil)) (dCons (dOp (rNeX (T := TT K) oeP) (dNew sdC_Byte xd dfl_Byte_0 dNil) (dNew sdC_Byte xd dfl_Byte_0 dNil)) dNil))))))) (dSeq (dIf (dTest (dOp rNeA (dCall (r1 (fReprX (T := TT K))) (dCons (dVar (TT K) 9) dNil)) (dCall (r1 (fReprX (T := TT K))) (dCons (dLst (dCons (dVar (TT K) 8) (dCons (dNotV (dVar (TT K) 8)) (dCons (dOp rEqA (dVar (TT K) 2) (dVar (TT K) 3)) (dCons (dC (TT K) (.bl true)) (dCons (dC (TT K) (.bl false)) dNil)))))) dNil)))) (dRet (dC (TT K) (.bl false))) dNx) (dSeq (dSet 10 (dLst (dCons (dVar (TT K) 2) (dCons (dTup (dCons (dVar (TT K) 2) (dCons (dVar (TT K) 4) dNil))) (dCons (dC (TT K) .non) (dCons (dC (TT K) (.int 1)) (dCons (dC (TT K) (.str "byte")) (dCons (dNew sdC_Use xd dfl_Use_1 (dCons (dVar (TT K) 2) dNil)) (dCons (dNew sdC_Byte xd dfl_Byte_0 dNil) dNil))))))))) (dSeq (dIf (dTest (dOp (rNeZ (T := TT K)) (dLc (dItL (dVar (TT K) 10)) (dName 11) (dTest (dOp (rEqX (T := TT K) oeP) (dVar (TT K) 6) (dVar (TT K) 11))) (dVar (TT K) 11) [11]) (dLst dNil))) (dRet (dC (TT K) (.bl false))) dNx) (dSeq (dSet 10 (dLst (dCons (dVar (TT K) 2) (dCons (dVar (TT K) 6) (dCons (dNew sdC_Byte xd dfl_Byte_0 dNil) (dCons (dOp rAdd (dC (TT K) (.str "@")) (dVar (TT K) 2)) dNil)))))) (dRet (dAndV (dOp (rEqZ (T := TT K)) (dLc (dItL (dVar (TT K) 10)) (dName 11) (dTest (dOp (rEqX (T := TT K) oeP) (dNew sdC_Use (noX (TT K)) dfl_Use_1 (dCons (dVar (TT K) 2) dNil)) (dVar (TT K) 11))) (dVar (TT K) 11) [11]) (dLst dNil)) (dOp rEqA (dFld atT (dNew sdC_Byte xd dfl_Byte_0 dNil) "depth") (dC (TT K) (.int 0))))))))))))))))
theorem der__law_equal_right {k : Nat} (F : Fc P w K mg base) {sd__law_pick : SpO (TT K)} {sd__law_draw : SpO (TT K)} {sdC_Kind : SpN (TT K)} {sdC_Use : SpN (TT K)} {sdC_Byte : SpN (TT K)} {oeP : PO → D PO → Option Bool} {k__law_pick : Nat} (D__law_pick : DefP P w K mg base (L2.CX P w) k__law_pick "_law_pick" ["_law_pen_here", "_law_some"] (spO (TT K) efT sd__law_pick)) (h__law_pick : k__law_pick ≤ k) {k__law_draw : Nat} (D__law_draw : DefP P w K mg base (L2.CX P w) k__law_draw "_law_draw" ["_law_pen_here", "_law_many"] (spO (TT K) efT sd__law_draw)) (h__law_draw : k__law_draw ≤ k) {k_Kind : Nat} (h_Kind : k_Kind + 1 ≤ k) (DC_Kind_2 : DefC P w K mg base (L2.CX P w) k_Kind "Kind" ["self", "name", "times"] (spN (TT K) efT "Kind" sdC_Kind) dv_Kind_2) {k_Use : Nat} (h_Use : k_Use + 1 ≤ k) (DC_Use_1 : DefC P w K mg base (L2.CX P w) k_Use "Use" ["self", "name"] (spN (TT K) efT "Use" sdC_Use) dv_Use_1) (DC_Kind_1 : DefC P w K mg base (L2.CX P w) k_Kind "Kind" ["self", "name", "times"] (spN (TT K) efT "Kind" sdC_Kind) dv_Kind_1) {k_Byte : Nat} (h_Byte : k_Byte + 1 ≤ k) (DC_Byte_0 : DefC P w K mg base (L2.CX P w) k_Byte "Byte" ["self"] (spN (TT K) efT "Byte" sdC_Byte) dv_Byte_0) {k_eq : Nat} (EQ : EqO P w K mg base (TT K) k_eq oeP) (h_eq : k_eq ≤ k) (h_ne : k_eq + 1 ≤ k) : DerG P w K mg base N__law_equal_right "_law_equal_right" (defScope (top i__law_equal_right)) f k efT (defBody (top i__law_equal_right)) (t__law_equal_right K sd__law_pick sd__law_draw sdC_Kind sdC_Use sdC_Byte oeP) := fun cdv A outer s H E hgd hr B xd XX => (pds_cons (pds_set 1 sc__law_equal_right.nd (pd_lst (pda_cons pd_str (pda_cons pd_str (pda_cons pd_str (pda_cons pd_str pda_nil)))))) (pds_cons (pds_asg (pd_tup (pda_cons (pd_defO D__law_pick (hr.mono h__law_pick) XX (pda_cons (pd_var 0) (pda_cons (pd_var 1) pda_nil))) (pda_cons (pd_defO D__law_pick (hr.mono h__law_pick) XX (pda_cons (pd_var 0) (pda_cons (pd_var 1) pda_nil))) pda_nil))) (pdg_tup rfl (pdgs_cons (pdg_name 2 sc__law_equal_right.nd) (pdgs_cons (pdg_name 3 sc__law_equal_right.nd) pdgs_nil)))) (pds_cons (pds_par 4 5 rfl sc__law_equal_right.nd (pda_cons (pd_op od_add pd_int (pd_defO D__law_draw (hr.mono h__law_draw) XX (pda_cons (pd_var 0) (pda_cons pd_int pda_nil)))) (pda_cons (pd_op od_add pd_int (pd_defO D__law_draw (hr.mono h__law_draw) XX (pda_cons (pd_var 0) (pda_cons pd_int pda_nil)))) pda_nil))) (pds_cons (pds_asg (pd_tup (pda_cons (pd_new DC_Kind_2 dflr_Kind_2 (hr.mono h_Kind) XX (pda_cons (pd_var 2) (pda_cons (pd_var 4) pda_nil))) (pda_cons (pd_new DC_Kind_2 dflr_Kind_2 (hr.mono h_Kind) XX (pda_cons (pd_var 3) (pda_cons (pd_var 5) pda_nil))) pda_nil))) (pdg_tup rfl (pdgs_cons (pdg_name 6 sc__law_equal_right.nd) (pdgs_cons (pdg_name 7 sc__law_equal_right.nd) pdgs_nil)))) (pds_cons (pds_if (pdt_cmp (od_neA hr.units) (pd_lst (pda_cons (pd_fld F.at_ (pd_var 6)) (pda_cons (pd_fld F.at_ (pd_var 6)) (pda_cons (pd_fld F.at_ (pd_new DC_Kind_1 dflr_Kind_1 (hr.mono h_Kind) XX (pda_cons (pd_var 2) pda_nil))) (pda_cons (pd_fld F.at_ (pd_new DC_Use_1 dflr_Use_1 (hr.mono h_Use) XX (pda_cons (pd_var 2) pda_nil))) pda_nil))))) (pd_lst (pda_cons (pd_var 2) (pda_cons (pd_var 4) (pda_cons pd_int (pda_cons (pd_var 2) pda_nil)))))) (pds_one (pds_ret pd_bl)) pds_nil) (pds_cons (pds_set 8 sc__law_equal_right.nd (pd_and (pd_cmp (od_eqA hr.units) (pd_var 2) (pd_var 3)) (pd_one (pd_cmp (od_eqA hr.units) (pd_var 4) (pd_var 5))))) (pds_cons (pds_set 9 sc__law_equal_right.nd (pd_lst (pda_cons (pd_cmp (od_eqX EQ (hr.mono h_eq) hr.units) (pd_var 6) (pd_var 7)) (pda_cons (pd_cmp (od_neX EQ (hr.mono h_ne) hr.units) (pd_var 6) (pd_var 7)) (pda_cons (pd_cmp (od_eqX EQ (hr.mono h_eq) hr.units) (pd_new DC_Use_1 dflr_Use_1 (hr.mono h_Use) XX (pda_cons (pd_var 2) pda_nil)) (pd_new DC_Use_1 dflr_Use_1 (hr.mono h_Use) XX (pda_cons (pd_var 3) pda_nil))) (pda_cons (pd_cmp (od_eqX EQ (hr.mono h_eq) hr.units) (pd_newN DC_Byte_0 dflr_Byte_0 (hr.mono h_Byte) XX) (pd_newN DC_Byte_0 dflr_Byte_0 (hr.mono h_Byte) XX)) (pda_cons (pd_cmp (od_neX EQ (hr.mono h_ne) hr.units) (pd_newN DC_Byte_0 dflr_Byte_0 (hr.mono h_Byte) XX) (pd_newN DC_Byte_0 dflr_Byte_0 (hr.mono h_Byte) XX)) pda_nil))))))) (pds_cons (pds_if (pdt_cmp (od_neA hr.units) (pd_callB (cd_reprX hgd hr.units F.sys) F.t_repr (pda_cons (pd_var 9) pda_nil)) (pd_callB (cd_reprX hgd hr.units F.sys) F.t_repr (pda_cons (pd_lst (pda_cons (pd_var 8) (pda_cons (pd_not (pd_var 8)) (pda_cons (pd_cmp (od_eqA hr.units) (pd_var 2) (pd_var 3)) (pda_cons pd_bl (pda_cons pd_bl pda_nil)))))) pda_nil))) (pds_one (pds_ret pd_bl)) pds_nil) (pds_cons (pds_set 10 sc__law_equal_right.nd (pd_lst (pda_cons (pd_var 2) (pda_cons (pd_tup (pda_cons (pd_var 2) (pda_cons (pd_var 4) pda_nil))) (pda_cons pd_non (pda_cons pd_int (pda_cons pd_str (pda_cons (pd_new DC_Use_1 dflr_Use_1 (hr.mono h_Use) XX (pda_cons (pd_var 2) pda_nil)) (pda_cons (pd_newN DC_Byte_0 dflr_Byte_0 (hr.mono h_Byte) XX) pda_nil))))))))) (pds_cons (pds_if (pdt_cmp (od_neZ hr.units) (pd_lc (own := [("_law_thing", 11)]) rfl sc__law_equal_right.nd (pdi_list (pd_var 10)) (blkOk_by (N := N__law_equal_right) (sc := (defScope (top i__law_equal_right))) (by decide +kernel)) (fun _ _ _ _ _ _ => (pdg_name 11 sc__law_equal_right.nd)) (fun _ _ _ _ _ _ => (pdts_one (pdt_cmp (od_eqX EQ (hr.mono h_eq) hr.units) (pd_var 6) (pd_var 11)))) (fun _ _ _ _ _ _ => (pd_var 11))) (pd_lst pda_nil)) (pds_one (pds_ret pd_bl)) pds_nil) (pds_cons (pds_set 10 sc__law_equal_right.nd (pd_lst (pda_cons (pd_var 2) (pda_cons (pd_var 6) (pda_cons (pd_newN DC_Byte_0 dflr_Byte_0 (hr.mono h_Byte) XX) (pda_cons (pd_op od_add pd_str (pd_var 2)) pda_nil)))))) (pds_one (pds_ret (pd_and (pd_cmp (od_eqZ hr.units) (pd_lc (own := [("_law_thing", 11)]) rfl sc__law_equal_right.nd (pdi_list (pd_var 10)) (blkOk_by (N := N__law_equal_right) (sc := (defScope (top i__law_equal_right))) (by decide +kernel)) (fun _ _ _ _ _ _ => (pdg_name 11 sc__law_equal_right.nd)) (fun _ _ _ _ _ _ => (pdts_one (pdt_cmp (od_eqX EQ (hr.mono h_eq) hr.units) (pd_new DC_Use_1 dflr_Use_1 (hr.mono h_Use) (XP.no _ _) (pda_cons (pd_var 2) pda_nil)) (pd_var 11)))) (fun _ _ _ _ _ _ => (pd_var 11))) (pd_lst pda_nil)) (pd_one (pd_cmp (od_eqA hr.units) (pd_fld F.at_ (pd_newN DC_Byte_0 dflr_Byte_0 (hr.mono h_Byte) XX)) pd_int))))))))))))))))
abbrev N_law : List Str := ["_law_script", "_law_pen_here", "_law_turn"]
theorem sc_law : FnScope N_law ["_law_script"] (defScope (top i_law)) := ⟨rfl, rfl, rfl, by decide +kernel, rfl, by decide +kernel, by decide +kernel⟩
def lb_law_1 (K : PySem.W.Frag) (sd__law_pen : SpNw (TT K)) (sd__law_right : SpW (TT K)) (sd__law_equal_right : SpO (TT K)) (sdC_Byte : SpN (TT K)) (soP : PO → Option (D PO)) (xd : Xd (TT K)) : TDS (TT K) := (dIf (dOr (dNot (dTru (dCallW 0 [q__law_right] 1 sd__law_right xd (dCons (dVar (TT K) 1) dNil)))) (dNot (dTru (dCallO sd__law_equal_right xd (dCons (dVar (TT K) 1) dNil))))) (dRet (dC (TT K) (.bl false))) dNx)
def t_law (K : PySem.W.Frag) (sd__law_pen : SpNw (TT K)) (sd__law_right : SpW (TT K)) (sd__law_equal_right : SpO (TT K)) (sdC_Byte : SpN (TT K)) (soP : PO → Option (D PO)) (xd : Xd (TT K)) : TDS (TT K) := (dSeq (dSet 1 (dCallNw sd__law_pen xd (dCons (dVar (TT K) 0) dNil))) (dSeq (dFor (dIt1 (dC (TT K) (.int 10)) (fRng (T := TT K))) (dName 2) (lb_law_1 K sd__law_pen sd__law_right sd__law_equal_right sdC_Byte soP xd)) (dRet (dOp rEqA (dCall (r1 (fStrX (T := TT K) soP)) (dCons (dNew sdC_Byte xd dfl_Byte_0 dNil) dNil)) (dC (TT K) (.str "byte"))))))
theorem der_law {k : Nat} (F : Fc P w K mg base) {sd__law_pen : SpNw (TT K)} {sd__law_right : SpW (TT K)} {sd__law_equal_right : SpO (TT K)} {sdC_Byte : SpN (TT K)} {soP : PO → Option (D PO)} {k__law_pen : Nat} (D__law_pen : DefP P w K mg base (L2.CX P w) k__law_pen "_law_pen" ["_law_script"] (spNw (TT K) efT sd__law_pen)) (h__law_pen : k__law_pen ≤ k) {k__law_right : Nat} (D__law_right : DefG P w K mg base (L2.CX P w) k__law_right "_law_right" (spW (TT K) efT (TLof K [(p__law_right, q__law_right)]) sd__law_right)) (hn__law_right : ∀ cs ds q x, sd__law_right cs ds q x → cs.length = 1) (h__law_right : k__law_right ≤ k) {k__law_equal_right : Nat} (D__law_equal_right : DefG P w K mg base (L2.CX P w) k__law_equal_right "_law_equal_right" (spO (TT K) efT sd__law_equal_right)) (h__law_equal_right : k__law_equal_right ≤ k) {k_Byte : Nat} (h_Byte : k_Byte + 1 ≤ k) (DC_Byte_0 : DefC P w K mg base (L2.CX P w) k_Byte "Byte" ["self"] (spN (TT K) efT "Byte" sdC_Byte) dv_Byte_0) {k_str : Nat} {okS : PO → Prop} (SO : OneO P w K mg base (TT K) k_str "__str__" okS soP) (h_str : k_str + 2 ≤ k) (TB0 : TabB base mg (He.cT K p__law_right).1 (He.cT K p__law_right).2) : DerW P w K mg base N_law "law" (defScope (top i_law)) p_law k 0 (TLof K [(p__law_right, q__law_right)]) efT (defBody (top i_law)) (t_law K sd__law_pen sd__law_right sd__law_equal_right sdC_Byte soP) := fun A outer s H E hgd hr B xd tbA XX => (pds_cons (pds_set 1 sc_law.nd (pd_defNw D__law_pen (hr.mono h__law_pen) XX (pda_cons (pd_var 0) pda_nil))) (pds_cons (pds_for (passes_of rfl) rfl (pdi_range1 F.t_range pd_int) (fun _ => (pdg_name 2 sc_law.nd)) (fun B1 l1 => (pds_one (pds_if (pdt_w (pdw_or (pdt_not (pdt_tru (pd_defW (tl := TLof K [(p__law_right, q__law_right)]) D__law_right hn__law_right (TbAt.le l1 tbA) hgd (hr.mono h__law_right) (XX.le l1) (pda_cons (pd_var 1) pda_nil)))) (pdw_or1 (pdt_not (pdt_tru (pd_defOG D__law_equal_right hgd (hr.mono h__law_equal_right) (XX.le l1) (pda_cons (pd_var 1) pda_nil))))))) (pds_one (pds_ret pd_bl)) pds_nil)))) (pds_one (pds_ret (pd_cmp (od_eqA hr.units) (pd_callTy (cd_strX SO (hr.mono h_str)) F.t_str (pda_cons (pd_newN DC_Byte_0 dflr_Byte_0 (hr.mono h_Byte) XX) pda_nil)) pd_str)))))
end
end H1
set_option Elab.async false
set_option linter.all false
set_option maxRecDepth 100000
set_option maxHeartbeats 2000000
/-! The pen: what is drawn, what is picked. -/
namespace H1
open PySem PySem.Spec PyProof.Rows L2 Ev Dl
theorem fmod_in {a m : Int} (h : 0 < m) : 0 ≤ a % m ∧ a % m < m := ⟨Int.emod_nonneg _ (by omega), Int.emod_lt_of_pos _ h⟩
theorem small5b {x t A B : Int} (h0 : 0 ≤ x) (h1 : x < 2147483648) (t0 : 0 ≤ t) (t1 : t ≤ 100000) (a0 : 0 ≤ A) (a1 : A ≤ 1000000) (b0 : 0 ≤ B) (b1 : B ≤ 1000000) : (x + A * t + B).natAbs < 2 ^ 64 := by
  have h2 : A * t ≤ 1000000 * 100000 := Int.mul_le_mul a1 t1 t0 (by omega)
  have h3 : 0 ≤ A * t := Int.mul_nonneg a0 t0
  omega
theorem small3b {x t A B D : Int} (h0 : 0 ≤ x) (h1 : x < 2147483648) (t0 : 0 ≤ t) (t1 : t ≤ 100000) (a0 : 0 ≤ A) (a1 : A ≤ 1000000) (b0 : 0 ≤ B) (b1 : B ≤ 1000000) (d0 : 0 ≤ D) (d1 : D ≤ 1000000) :
    (x * (2 * t + A) + B * t * t + D).natAbs < 2 ^ 64 := by
  have h2 : x * (2 * t + A) ≤ 2147483648 * 1200000 := Int.mul_le_mul (by omega) (by omega) (by omega) (by omega)
  have h3 : 0 ≤ x * (2 * t + A) := Int.mul_nonneg h0 (by omega)
  have h4 : B * t ≤ 1000000 * 100000 := Int.mul_le_mul b1 t1 t0 (by omega)
  have h5 : 0 ≤ B * t := Int.mul_nonneg b0 t0
  have h6 : B * t * t ≤ 100000000000 * 100000 := Int.mul_le_mul (by omega) t1 t0 (by omega)
  have h7 : 0 ≤ B * t * t := Int.mul_nonneg h5 t0
  omega
theorem in64b {B t : Int} (b0 : 0 ≤ B) (b1 : B ≤ 1000000) (t0 : 0 ≤ t) (t1 : t ≤ 100000) : -(2 ^ 64) < B * t ∧ B * t < 2 ^ 64 := by
  have h2 : B * t ≤ 1000000 * 100000 := Int.mul_le_mul b1 t1 t0 (by omega)
  have h3 : 0 ≤ B * t := Int.mul_nonneg b0 t0
  omega
theorem atI_in {α : Type} {xs : List α} {i : Int} (h0 : 0 ≤ i) (h1 : i < xs.length) : ∃ x, L2.atI xs i = some x ∧ x ∈ xs := by
  obtain ⟨j, rfl⟩ := Int.eq_ofNat_of_zero_le h0
  have hj : j < xs.length := by omega
  exact ⟨xs[j], atI_nat (List.getElem?_eq_getElem hj), List.getElem_mem hj⟩
/-- the pen's cell, drawn from at most n times -/
def PenN (n : Nat) (c : Cell PO) : Prop := ∃ (xs : List Int) (t l : Int), c = .lst [.lst (xs.map .int), .int t, .int l] ∧ xs.length ≤ 63 ∧ 0 ≤ t ∧ t ≤ n
theorem PenN.mono {n m : Nat} {c : Cell PO} (h : n ≤ m) : PenN n c → PenN m c
  | ⟨xs, t, l, e, h1, h2, h3⟩ => ⟨xs, t, l, e, h1, h2, by omega⟩
theorem PenN.ng {n : Nat} {c : Cell PO} : PenN n c → c ≠ .gone
  | ⟨_, _, _, e, _⟩ => by rw [e]; exact fun z => nomatch z
theorem toPy_ints : ∀ xs : List Int, toPyL (xs.map (D.int (O := PO))) = some (xs.map PyData.int)
  | [] => rfl
  | x :: xs => by
    show (toPy (D.int (O := PO) x)).bind (fun a => (toPyL (xs.map D.int)).map (a :: ·)) = _
    rw [toPy_ints xs]
    rfl
theorem shaped_ints (xs : List Int) : SeqAt.shaped (.list (xs.map PyData.int)) = true := by
  induction xs with
  | nil => rfl
  | cons x xs ih =>
    simp [SeqAt.shaped, PyData.canLay0, PyData.canLayAll0, PyData.depth, PyData.depthAll] at ih ⊢
    exact ih
section
variable {K : PySem.W.Frag}
def sd__law_draw : SpO (TT K) := fun c ds q _ => match ds with
  | [.int m] => ∃ n : Nat, PenN n c ∧ n ≤ 90000 ∧ 0 < m ∧ m < 1073741824 ∧ ∀ z c', 0 ≤ z → z < m → PenN (n + 1) c' → q (.int z) c'
  | _ => False
theorem ne_nil {xs : List Int} {k : D PO → Prop} (h : ∀ b, (xs = [] → b = false) → k (.bl b)) : rNeA (T := TT K) (.lst (xs.map .int)) (.lst []) k := by
  refine ⟨.list (xs.map PyData.int), .list [], ?_, rfl, shaped_ints xs, rfl, h _ fun e => ?_⟩
  · show (toPyL (xs.map D.int)).map PyData.list = _
    rw [toPy_ints]
    rfl
  · subst e
    rfl
theorem ix_in {xs : List Int} {i : Int} {k : D PO → Prop} (h0 : 0 ≤ i) (h1 : i < (xs.map (D.int (O := PO))).length) (h : ∀ x : Int, k (.int x)) : rIxD (T := TT K) (.lst (xs.map .int)) (.int i) k := by
  obtain ⟨y, e, hy⟩ := atI_in (xs := xs.map (D.int (O := PO))) h0 h1
  obtain ⟨x, _, rfl⟩ := List.mem_map.mp hy
  unfold Dl.rIxD
  dsimp only
  rw [e]
  exact h x
theorem hs__law_draw (c : Cell PO) (ds : List (D PO)) (q : D PO → Cell PO → Prop) (x : Xd (TT K)) (h : sd__law_draw (K := K) c ds q x) : t__law_draw K x (enO q) (startG N__law_draw (.own 0 :: ds.map .dat)) [c] := by
  match ds, h with
  | [.int m], ⟨n, ⟨xs, t, l, ec, hl, t0, t1⟩, hn, m0, m1, hq⟩ =>
    subst ec
    have t9 : t ≤ 100000 := by omega
    have w2 : ∀ z, PenN (n + 1) (.lst [.lst (xs.map .int), .int (t + 1), .int z]) := fun z => ⟨xs, t + 1, z, rfl, hl, by omega, by omega⟩
    refine Br.of (fun _ => ?_) (fun _ => ?_)
    · exact ⟨m0, ⟨m0, m1⟩, hq _ _ (fmod_in m0).1 (fmod_in m0).2 ⟨xs, t, _, rfl, hl, t0, by omega⟩⟩
    · have tail : ∀ cell : Int, (∀ cs, cs = [Cell.lst [.lst (xs.map .int), .int (t + 1), .int l]] → dSeq (dIf (dAnd (dTest (dOp rLt (dVar (TT K) 3) (dCall (r1 (fLen (T := TT K))) (dCons (dOp rIxD (dVar (TT K) 0) (dC (TT K) (.int 0))) dNil)))) (dTest (dOp rGe (dCall (r1 (fAbs (T := TT K))) (dCons (dVar (TT K) 4) dNil)) (dOp rPow (dC (TT K) (.int 10)) (dC (TT K) (.int 18)))))) (dSeq (dSet 5 (dOp rAdd (dOp rMul (dC (TT K) (.int 2)) (dOp rSub (dCall (r1 (fAbs (T := TT K))) (dCons (dVar (TT K) 4) dNil)) (dOp rPow (dC (TT K) (.int 10)) (dC (TT K) (.int 18))))) (dCall (r1 (fInt (T := TT K))) (dCons (dOp rLt (dVar (TT K) 4) (dC (TT K) (.int 0))) dNil)))) (dSeq (dSetIx (dVar (TT K) 0) (dC (TT K) (.int 2)) (dOp rFdiv (dCall (r1 (fInt (T := TT K))) (dCons (dVar (TT K) 5) dNil)) (dVar (TT K) 1))) (dRet (dOp rMod (dCall (r1 (fInt (T := TT K))) (dCons (dVar (TT K) 5) dNil)) (dVar (TT K) 1))))) dNx) (dSeq (dSet 6 (dOp rMod (dCall (r1 (fInt (T := TT K))) (dCons (dOp rPow (dOp rAdd (dOp rAdd (dOp rMod (dCall (r1 (fInt (T := TT K))) (dCons (dVar (TT K) 4) dNil)) (dC (TT K) (.int 2147483563))) (dOp rMul (dC (TT K) (.int 64051)) (dVar (TT K) 3))) (dC (TT K) (.int 209))) (dC (TT K) (.int 5))) dNil)) (dC (TT K) (.int 2147483629)))) (dSeq (dSet 6 (dOp rMod (dCall (r1 (fInt (T := TT K))) (dCons (dOp rPow (dOp rAdd (dOp rAdd (dOp rMul (dVar (TT K) 6) (dOp rAdd (dOp rMul (dC (TT K) (.int 2)) (dVar (TT K) 3)) (dC (TT K) (.int 455)))) (dOp rMul (dOp rMul (dC (TT K) (.int 58053)) (dVar (TT K) 3)) (dVar (TT K) 3))) (dC (TT K) (.int 35))) (dC (TT K) (.int 3))) dNil)) (dC (TT K) (.int 2147483587)))) (dRet (dOp rMod (dCall (r1 (fInt (T := TT K))) (dCons (dOp rFdiv (dVar (TT K) 6) (dC (TT K) (.int 32))) dNil)) (dVar (TT K) 1)))))
          (enO q) [some (.own 0), some (.dat (.int m)), none, some (.dat (.int t)), some (.dat (.int cell)), none, none] cs) := fun cell cs ecs => by
        subst ecs
        have mix : dSeq (dSet 6 (dOp rMod (dCall (r1 (fInt (T := TT K))) (dCons (dOp rPow (dOp rAdd (dOp rAdd (dOp rMod (dCall (r1 (fInt (T := TT K))) (dCons (dVar (TT K) 4) dNil)) (dC (TT K) (.int 2147483563))) (dOp rMul (dC (TT K) (.int 64051)) (dVar (TT K) 3))) (dC (TT K) (.int 209))) (dC (TT K) (.int 5))) dNil)) (dC (TT K) (.int 2147483629)))) (dSeq (dSet 6 (dOp rMod (dCall (r1 (fInt (T := TT K))) (dCons (dOp rPow (dOp rAdd (dOp rAdd (dOp rMul (dVar (TT K) 6) (dOp rAdd (dOp rMul (dC (TT K) (.int 2)) (dVar (TT K) 3)) (dC (TT K) (.int 455)))) (dOp rMul (dOp rMul (dC (TT K) (.int 58053)) (dVar (TT K) 3)) (dVar (TT K) 3))) (dC (TT K) (.int 35))) (dC (TT K) (.int 3))) dNil)) (dC (TT K) (.int 2147483587)))) (dRet (dOp rMod (dCall (r1 (fInt (T := TT K))) (dCons (dOp rFdiv (dVar (TT K) 6) (dC (TT K) (.int 32))) dNil)) (dVar (TT K) 1))))
            (enO q) [some (.own 0), some (.dat (.int m)), none, some (.dat (.int t)), some (.dat (.int cell)), none, none] [Cell.lst [.lst (xs.map .int), .int (t + 1), .int l]] := by
          refine ⟨(by show (0 : Int) < 2147483563; decide), .inl ⟨by decide, by decide⟩, ⟨by decide, by decide, small5b (fmod_in (by decide)).1 (Int.lt_of_lt_of_le (fmod_in (by decide)).2 (by decide)) t0 t9 (by decide) (by decide) (by decide) (by decide)⟩, (by show (0 : Int) < 2147483629; decide), ?_⟩
          refine ⟨.inl ⟨by decide, by decide⟩, .inl ⟨Int.lt_of_lt_of_le (by decide) (fmod_in (by decide)).1, Int.lt_trans (fmod_in (by decide)).2 (by decide)⟩, .inl ⟨by decide, by decide⟩, .inl (in64b (by decide) (by decide) t0 t9),
            ⟨by decide, by decide, small3b (fmod_in (by decide)).1 (Int.lt_of_lt_of_le (fmod_in (by decide)).2 (by decide)) t0 t9 (by decide) (by decide) (by decide) (by decide) (by decide) (by decide)⟩, (by show (0 : Int) < 2147483587; decide), ?_⟩
          exact ⟨⟨by decide, by decide⟩, m0, hq _ _ (fmod_in m0).1 (fmod_in m0).2 (w2 l)⟩
        refine Br.of (fun _ => ⟨⟨by decide, by decide, by decide⟩, Br.of (fun _ => ?_) (fun _ => mix)⟩) (fun _ => mix)
        exact ⟨⟨by decide, by decide, by decide⟩, .inl ⟨by decide, by decide⟩, ⟨m0, m1⟩, m0, hq _ _ (fmod_in m0).1 (fmod_in m0).2 (w2 _)⟩
      refine ⟨.inl ⟨by decide, by decide⟩, (by show 0 ≤ sizeLine; decide), ?_⟩
      dsimp only [on1, vw]
      refine ne_nil (K := K) (xs := xs) fun b hb => ?_
      refine Br.of (fun h1 => ?_) (fun _ => tail _ _ rfl)
      have n0 : 0 < ((xs.map (D.int (O := PO))).length : Int) := by
        cases xs with
        | nil => have := hb rfl; subst this; cases h1
        | cons _ _ => rw [List.length_map, List.length_cons]; omega
      refine ⟨n0, ?_⟩
      dsimp only [on1, vw]
      exact ix_in (K := K) (fmod_in n0).1 (fmod_in n0).2 fun cell => tail cell _ rfl
end
end H1
set_option Elab.async false
set_option linter.all false
set_option maxRecDepth 100000
set_option maxHeartbeats 1000000
/-! repr of data: that it is told, how long it is; == of data. -/
namespace RpX
open PySem PySem.Spec PyProof.Rows L2 Ev Dl LamX
def CharOk (s : Str) : Prop := ∀ c ∈ s.cps.toList, c < 1114112
theorem CharOk.app {a b : Str} (ha : CharOk a) (hb : CharOk b) : CharOk (a ++ b) := fun c hc => by
  have e : (a ++ b).cps = a.cps ++ b.cps := rfl
  rw [e, Array.toList_append] at hc
  exact (List.mem_append.mp hc).elim (ha c) (hb c)
theorem joinL_mem (S : List Nat) : ∀ (ps : List (List Nat)) (c : Nat), c ∈ TL.joinL S ps → c ∈ S ∨ ∃ p ∈ ps, c ∈ p
  | [], c, h => by simp [TL.joinL] at h
  | [p], c, h => by
    simp [TL.joinL] at h
    exact .inr ⟨p, by simp, h⟩
  | p :: q :: r, c, h => by
    simp only [TL.joinL, List.mem_append] at h
    rcases h with h | h | h
    · exact .inr ⟨p, by simp, h⟩
    · exact .inl h
    · rcases joinL_mem S (q :: r) c h with z | ⟨t, h1, h2⟩
      · exact .inl z
      · exact .inr ⟨t, List.mem_cons_of_mem _ h1, h2⟩
theorem mem_joinL (S : List Nat) : ∀ (ps : List (List Nat)) (p : List Nat) (c : Nat), p ∈ ps → c ∈ p → c ∈ TL.joinL S ps
  | [a], p, c, hp, hc => by
    rw [List.mem_singleton.mp hp] at hc
    simpa [TL.joinL] using hc
  | a :: q :: r, p, c, hp, hc => by
    simp only [TL.joinL, List.mem_append]
    rcases List.mem_cons.mp hp with rfl | hp
    · exact .inl hc
    · exact .inr (.inr (mem_joinL S (q :: r) p c hp hc))
theorem CharOk.join {y : Str} {ps : List Str} (hy : CharOk y) (hp : ∀ p ∈ ps, CharOk p) : CharOk (Txt.join y ps) := fun c hc => by
  rw [TL.join_eq] at hc
  have hc : c ∈ TL.tl (PySem.Str.join y ps) := hc
  rw [TL.tl_join] at hc
  rcases joinL_mem _ _ _ hc with z | ⟨t, h1, h2⟩
  · exact hy c z
  · obtain ⟨p, h3, rfl⟩ := List.mem_map.mp h1
    exact hp p h3 c h2
theorem CharOk.lit (s : String) : CharOk (Str.ofString s) := fun c hc => by
  have hc : c ∈ TL.tl (Str.ofString s) := hc
  rw [TL.tl_ofString] at hc
  obtain ⟨x, _, rfl⟩ := List.mem_map.mp hc
  have := x.valid
  show x.val.toNat < 1114112
  rcases this with h | ⟨_, h⟩ <;> omega
theorem CharOk.name {s : Str} (h : nmS s = true) : CharOk s := fun c hc => by
  unfold nmS at h
  simp only [Bool.and_eq_true, List.all_eq_true, decide_eq_true_eq] at h
  have := h.2.2.2 c hc
  have : ∀ c ∈ lettersS.cps.toList, c < 1114112 := by decide +kernel
  exact this c (h.2.2.2 c hc)
theorem textFrom_le : ∀ (ts : List Str) (k : Nat) (acc : Str), (textFrom k acc ts).length ≤ acc.length + (ts.map fun t => t.length + 2).sum
  | [], _, acc => by simp [textFrom]
  | t :: ts, k, acc => by
    have ih := textFrom_le ts (k + 1) (acc ++ (if k > 0 then ", " else "" : String) ++ t)
    have e : (acc ++ ((if k > 0 then ", " else "" : String) : Str) ++ t).length ≤ acc.length + (t.length + 2) := by
      rw [strLen_append, strLen_append]
      have e1 : ((", " : String) : Str).length = 2 := rfl
      have e5 : (("" : String) : Str).length = 0 := rfl
      by_cases h : k > 0
      · rw [if_pos h, e1]; omega
      · rw [if_neg h, e5]; omega
    simp only [textFrom, List.map_cons, List.sum_cons]
    omega
theorem join_le (y : Str) : ∀ ts : List Str, (Str.join y ts).length ≤ (ts.map fun t => t.length + y.length).sum
  | [] => by
    rw [Str.join]
    exact Nat.zero_le _
  | [t] => by
    rw [Str.join]
    simp
  | t :: u :: ts => by
    have ih := join_le y (u :: ts)
    rw [Str.join.eq_3 _ _ _ (by simp)]
    rw [strLen_append, strLen_append, List.map_cons, List.sum_cons]
    omega
def ElB (B : Nat) (d : PyData) : Prop := d.showable = true ∧ d.shown.length ≤ B ∧ d.canLay0 = true
theorem ElB.mono {B C : Nat} {d : PyData} (h : ElB B d) (l : B ≤ C) : ElB C d := ⟨h.1, Nat.le_trans h.2.1 l, h.2.2⟩
theorem all_elB {B n : Nat} : ∀ {ds : List PyData}, (∀ d ∈ ds, ElB B d ∧ d.depth ≤ n) → PyData.showableAll ds = true ∧ ((PyData.shownAll ds).map fun t => t.length + 2).sum ≤ (B + 2) * ds.length ∧ PyData.depthAll ds ≤ n ∧ PyData.canLayAll0 ds = true
  | [], _ => ⟨rfl, by simp [PyData.shownAll], by simp [PyData.depthAll], rfl⟩
  | d :: ds, h => by
    obtain ⟨a1, a2, a3, a4⟩ := all_elB fun x hx => h x (List.mem_cons_of_mem _ hx)
    obtain ⟨⟨b1, b2, b3⟩, b4⟩ := h d (by simp)
    refine ⟨by simp [PyData.showableAll, a1, b1], ?_, ?_, ?_⟩
    · simp only [PyData.shownAll, List.map_cons, List.sum_cons, List.length_cons]
      rw [Nat.mul_succ]
      omega
    · simp only [PyData.depthAll]
      omega
    · rw [PyData.canLayAll0, b3, a4]; rfl
theorem el_list {ds : List PyData} {B n : Nat} (h : ∀ d ∈ ds, ElB B d ∧ d.depth ≤ n) (hn : n + 1 ≤ 15) : ElB ((B + 2) * ds.length + 2) (.list ds) ∧ (PyData.list ds).depth ≤ n + 1 := by
  obtain ⟨a1, a2, a3, a4⟩ := all_elB h
  refine ⟨⟨by simp only [PyData.showable]; exact a1, ?_, by rw [PyData.canLay0]; exact a4⟩, by simp only [PyData.depth]; omega⟩
  have e2 : (("[" : String) : Str).length = 1 := rfl
  have e3 : (("]" : String) : Str).length = 1 := rfl
  have z := textFrom_le (PyData.shownAll ds) 0 "["
  rw [e2] at z
  simp only [PyData.shown, listText, strLen_append, e3]
  omega
theorem el_tup {ds : List PyData} {B n : Nat} (h : ∀ d ∈ ds, ElB B d ∧ d.depth ≤ n) (hn : n + 1 ≤ 15) : ElB ((B + 2) * ds.length + 3) (.tuple ds) ∧ (PyData.tuple ds).depth ≤ n + 1 := by
  obtain ⟨a1, a2, a3, a4⟩ := all_elB h
  refine ⟨⟨by simp only [PyData.showable]; exact a1, ?_, by rw [PyData.canLay0]; exact a4⟩, by simp only [PyData.depth]; omega⟩
  have e2 : (("(" : String) : Str).length = 1 := rfl
  have e3 : ((",)" : String) : Str).length = 2 := rfl
  have e4 : ((")" : String) : Str).length = 1 := rfl
  have e5 : ((", " : String) : Str).length = 2 := rfl
  have z := join_le ((", " : String) : Str) (PyData.shownAll ds)
  rw [e5] at z
  simp only [PyData.shown, tupleText, strLen_append]
  rw [e2]
  by_cases c : ((PyData.shownAll ds).length == 1) = true
  · rw [if_pos c, e3]; omega
  · rw [if_neg c, e4]; omega
theorem el_str {s : Str} (h : CharOk s) {n : Nat} (hl : s.length ≤ n) : ElB (10 * n + 2) (.str s) ∧ (PyData.str s).depth ≤ 0 := by
  refine ⟨⟨rfl, ?_, by rw [PyData.canLay0]; unfold PyData.strOk; rw [Array.all_eq_true']; intro c hc; exact decide_eq_true (h c (by simpa using hc))⟩, by simp [PyData.depth]⟩
  show (reprText s).length ≤ _
  exact Nat.le_trans (PySem.StrLaws.reprText_len s fun c hc => Nat.lt_trans (h c hc) (by decide)) (by omega)
theorem el_int {i : Int} (h0 : 0 ≤ i) (h : i.natAbs < 10 ^ 15) : ElB 40 (.int i) ∧ (PyData.int i).depth ≤ 0 := by
  have h2 : i.natAbs.log2 < 1920 := by
    by_cases z : i.natAbs = 0
    · rw [z]; decide
    · exact Nat.lt_trans ((Nat.log2_lt z).mpr (Nat.lt_of_lt_of_le h (by decide : 10 ^ 15 ≤ 2 ^ 60))) (by decide)
  refine ⟨⟨by simpa [PyData.showable] using h2, ?_, rfl⟩, by simp [PyData.depth]⟩
  show (toString i : Str).length ≤ 40
  exact Nat.le_trans (toString_length_le (k := 15) (by omega) (by decide) (by omega)) (by decide)
/-- a datum that repr tells -/
def Rp {O : Type} (B n : Nat) (d : D O) : Prop := ∃ p, toPy d = some p ∧ ElB B p ∧ p.depth ≤ n
theorem toPyL_of {O : Type} {B n : Nat} : ∀ {ds : List (D O)}, (∀ d ∈ ds, Rp B n d) → ∃ ps, toPyL ds = some ps ∧ ps.length = ds.length ∧ ∀ p ∈ ps, ElB B p ∧ p.depth ≤ n
  | [], _ => ⟨[], rfl, rfl, fun _ h => nomatch h⟩
  | d :: ds, h => by
    obtain ⟨ps, e1, e2, e3⟩ := toPyL_of fun x hx => h x (List.mem_cons_of_mem _ hx)
    obtain ⟨p, f1, f2, f3⟩ := h d List.mem_cons_self
    refine ⟨p :: ps, ?_, by rw [List.length_cons, List.length_cons, e2], fun q hq => ?_⟩
    · show ((toPy d).bind fun a => (toPyL ds).map (a :: ·)) = _
      rw [f1, e1]; rfl
    · rcases List.mem_cons.mp hq with rfl | hq
      · exact ⟨f2, f3⟩
      · exact e3 q hq
variable {O : Type}
theorem Rp.mono {B C n m : Nat} {d : D O} (h : Rp B n d) (l : B ≤ C) (k : n ≤ m) : Rp C m d := by
  obtain ⟨p, a, b, c⟩ := h
  exact ⟨p, a, b.mono l, Nat.le_trans c k⟩
theorem Rp.lst {B n : Nat} {ds : List (D O)} (h : ∀ d ∈ ds, Rp B n d) (hn : n + 1 ≤ 15) : Rp ((B + 2) * ds.length + 2) (n + 1) (D.lst ds) := by
  obtain ⟨ps, e1, e2, e3⟩ := toPyL_of h
  have z := el_list e3 hn
  rw [e2] at z
  exact ⟨.list ps, by show (toPyL ds).map PyData.list = _; rw [e1]; rfl, z.1, z.2⟩
theorem Rp.tup {B n : Nat} {ds : List (D O)} (h : ∀ d ∈ ds, Rp B n d) (hn : n + 1 ≤ 15) : Rp ((B + 2) * ds.length + 3) (n + 1) (D.tup ds) := by
  obtain ⟨ps, e1, e2, e3⟩ := toPyL_of h
  have z := el_tup e3 hn
  rw [e2] at z
  exact ⟨.tuple ps, by show (toPyL ds).map PyData.tuple = _; rw [e1]; rfl, z.1, z.2⟩
theorem Rp.str {s : Str} (h : CharOk s) {n : Nat} (hl : s.length ≤ n) : Rp (10 * n + 2) 0 (D.str s : D O) := ⟨.str s, rfl, (el_str h hl).1, (el_str h hl).2⟩
theorem Rp.int {i : Int} (h0 : 0 ≤ i) (h : i.natAbs < 10 ^ 15) : Rp 40 0 (D.int i : D O) := ⟨.int i, rfl, (el_int h0 h).1, (el_int h0 h).2⟩
/-- what repr tells of it -/
def shD (d : D O) : Str := ((toPy d).map PyData.shown).getD ""
theorem Rp.repr {K : PySem.W.Frag} {T : Th K} {B n : Nat} {d : D T.O} {k : D T.O → Prop} (h : Rp B n d) (l : B ≤ sizeLine) (hn : n ≤ 20) (hk : k (.str (shD d))) : fRepr (T := T) d k := by
  obtain ⟨p, e, ⟨h1, h2, h3⟩, h4⟩ := h
  refine ⟨p, e, h1, Nat.le_trans h2 l, by omega, ?_⟩
  unfold shD at hk
  rw [e] at hk
  exact hk
theorem Rp.ex {B n : Nat} {d : D O} (h : Rp B n d) (l : B ≤ sizeLine) (hn : n ≤ 20) {C : PyData → Prop} (hk : ∀ p, toPy d = some p → C p) : ∃ p, toPy d = some p ∧ p.showable = true ∧ p.shown.length ≤ sizeLine ∧ p.depth ≤ 20 ∧ C p := by
  obtain ⟨p, e, ⟨h1, h2, h3⟩, h4⟩ := h
  exact ⟨p, e, h1, Nat.le_trans h2 l, by omega, hk p e⟩
theorem var_step {K : PySem.W.Frag} {T : Th K} {i : Nat} {s : Sl T.O} {g : Dl.G T} {cs : Cs T} {Q : Sl T.O → Cs T → Prop} (h : g[i]? = some (some s)) (hq : Q s cs) : dVar T i g cs Q := by
  unfold dVar
  rw [h]
  exact hq
/-! ### == of data -/
theorem Rp.shaped {B n : Nat} {d : D O} (h : Rp B n d) (hn : n ≤ 64) : ∃ p, toPy d = some p ∧ SeqAt.shaped p = true := by
  obtain ⟨p, e, ⟨_, _, h3⟩, h4⟩ := h
  refine ⟨p, e, ?_⟩
  unfold SeqAt.shaped
  rw [h3, decide_eq_true (by omega)]; rfl
theorem ne_same {K : PySem.W.Frag} {T : Th K} {d : D T.O} {B n : Nat} {k : D T.O → Prop} (f : flatE d d = none) (e : Rp B n d) (hn : n ≤ 64) (h : k (.bl false)) : rNeA (T := T) d d k := by
  obtain ⟨p, e, sh⟩ := e.shaped hn
  unfold Dl.rNeA
  rw [f]
  refine ⟨p, p, e, e, sh, sh, ?_⟩
  rw [SeqAt.eqv_refl p (SeqAt.canLay_of_shaped sh)]
  exact h
theorem eq_same {K : PySem.W.Frag} {T : Th K} {d : D T.O} {B n : Nat} {k : D T.O → Prop} (f : flatE d d = none) (e : Rp B n d) (hn : n ≤ 64) (h : k (.bl true)) : rEqA (T := T) d d k := by
  obtain ⟨p, e, sh⟩ := e.shaped hn
  unfold Dl.rEqA
  rw [f]
  refine ⟨p, p, e, e, sh, sh, ?_⟩
  rw [SeqAt.eqv_refl p (SeqAt.canLay_of_shaped sh)]
  exact h
theorem strsL_str : ∀ ss : List Str, strsL (O := O) (ss.map .str) = some ss
  | [] => rfl
  | s :: r => by
    rw [List.map_cons]
    unfold strsL
    rw [strsL_str r]; rfl
end RpX
set_option Elab.async false
set_option linter.all false
set_option maxRecDepth 100000
set_option maxHeartbeats 2000000
/-! What is picked. -/
namespace H1
open PySem PySem.Spec PyProof.Rows L2 Ev Dl RpX
abbrev cd (s : Str) : List Nat := s.cps.toList
/-- a comprehension that changes cells -/
theorem lcD_rel {K : PySem.W.Frag} {T : Th K} {dg : TDG T} {de : TDE T} {g0 : Dl.G T} {Q : List (D T.O) → Cs T → Prop} (I : List (D T.O) → List (D T.O) → Cs T → Prop)
    (hs : ∀ d ds acc cs, I (d :: ds) acc cs → ∀ R : D T.O → Cs T → Prop, (∀ d' cs', I ds (acc ++ [d']) cs' → R d' cs') → dg (.dat d) g0 fun g1 => de g1 cs fun s cs2 => onDat s fun d' => R d' cs2)
    (hn : ∀ acc cs, I [] acc cs → Q acc cs) : ∀ (ds acc : List (D T.O)) (cs : Cs T), I ds acc cs → lcD dg dYes de g0 ds acc cs Q
  | [], acc, cs, i => hn acc cs i
  | d :: ds, acc, cs, i => hs d ds acc cs i _ fun d' cs' i' => lcD_rel I hs hn ds (acc ++ [d']) cs' i'
theorem cut_map {α β : Type} (f : α → β) (l : List α) (lo hi : Option Int) : Dl.cutD (l.map f) lo hi = (Dl.cutD l lo hi).map f := by
  unfold Dl.cutD
  rw [List.length_map, List.map_take, List.map_drop]
theorem cut_mem {α : Type} {l : List α} {lo hi : Option Int} {x : α} (h : x ∈ Dl.cutD l lo hi) : x ∈ l := List.mem_of_mem_drop (List.mem_of_mem_take h)
theorem cut_len {α : Type} (l : List α) (lo hi : Option Int) : (Dl.cutD l lo hi).length ≤ l.length := by
  unfold Dl.cutD
  rw [List.length_take, List.length_drop]
  omega
theorem cut_nat {α : Type} (l : List α) (a b : Nat) : Dl.cutD l (some (a : Int)) (some (b : Int)) = (l.take b).drop a := by
  unfold Dl.cutD
  rw [HT.sIx_nat, HT.sIx_nat]
  by_cases h : a ≤ l.length
  · rw [Nat.min_eq_left h, List.drop_take]
    by_cases h2 : b ≤ l.length
    · rw [Nat.min_eq_left h2]
    · rw [Nat.min_eq_right (by omega), List.take_of_length_le (by rw [List.length_drop]; omega), List.take_of_length_le (by rw [List.length_drop]; omega)]
  · rw [Nat.min_eq_right (by omega : l.length ≤ a)]
    simp
    omega
section
variable {K : PySem.W.Frag}
def sd__law_pick : SpO (TT K) := fun c ds q _ => match ds with
  | [.lst ys] => ∃ n : Nat, PenN n c ∧ n ≤ 90000 ∧ 1 ≤ ys.length ∧ ys.length ≤ 100000 ∧ ∀ d ∈ ys, ∀ c', PenN (n + 1) c' → q d c'
  | [.str s] => ∃ n : Nat, PenN n c ∧ n ≤ 90000 ∧ 1 ≤ s.length ∧ s.length ≤ 100000 ∧ ∀ z ∈ cd s, ∀ c', PenN (n + 1) c' → q (.str ⟨#[z]⟩) c'
  | _ => False
theorem onC_pen {n : Nat} {c : Cell PO} {k : Cell PO → Prop} (hp : PenN n c) (h : k c) : onC (T := TT K) [c] k := by
  obtain ⟨xs, t, l, rfl, _⟩ := hp
  exact h
theorem hs__law_pick (c : Cell PO) (ds : List (D PO)) (q : D PO → Cell PO → Prop) (x : Xd (TT K)) (h : sd__law_pick (K := K) c ds q x) : t__law_pick K sd__law_draw x (enO q) (startG N__law_pick (.own 0 :: ds.map .dat)) [c] := by
  match ds, h with
  | [.lst ys], ⟨n, hp, hn, h1, h2, hq⟩ =>
    refine ⟨hp.ng, n, hp, hn, by omega, by omega, fun z c' z0 z1 hp' => ⟨hp'.ng, ?_⟩⟩
    dsimp only [on1, vw]
    obtain ⟨d, e, hd⟩ := atI_in (xs := ys) z0 z1
    unfold Dl.rIxD
    dsimp only
    rw [e]
    exact onC_pen (K := K) hp' (hq d hd c' hp')
  | [.str s], ⟨n, hp, hn, h1, h2, hq⟩ =>
    have ln : (cd s).length = s.length := by rw [Array.length_toList]; rfl
    refine ⟨hp.ng, n, hp, hn, by omega, by omega, fun z c' z0 z1 hp' => ⟨hp'.ng, ?_⟩⟩
    dsimp only [on1, vw]
    obtain ⟨d, e, hd⟩ := atI_in (xs := cd s) z0 (by rw [ln]; exact z1)
    unfold Dl.rIxD
    dsimp only
    rw [e]
    exact onC_pen (K := K) hp' (hq d hd c' hp')
def sd__law_pen : SpNw (TT K) := fun ds q _ => match ds with
  | [.lst ys] => ∃ xs : List Int, ys = xs.map .int ∧ ∀ c, PenN 0 c → q c
  | _ => False
theorem hs__law_pen (ds : List (D PO)) (q : Cell PO → Prop) (x : Xd (TT K)) (h : sd__law_pen (K := K) ds q x) : t__law_pen K x (startG N__law_pen (ds.map .dat)) [] (onOwn q) := by
  match ds, h with
  | [.lst ys], ⟨xs, e, hq⟩ =>
    subst e
    refine ⟨(by show 3 ≤ sizeLine; decide), (fun z => nomatch z), hq _ ⟨Dl.cutD xs none (some 63), 0, 0, ?_, ?_, by omega, by omega⟩⟩
    · rw [← cut_map]
    · unfold Dl.cutD
      rw [List.length_take, HT.sIx_none, show (63 : Int) = ((63 : Nat) : Int) from rfl, HT.sIx_nat]
      omega
/-! ### texts drawn one after another -/
theorem lc_strs {n b m : Nat} {P : Str → Prop} {dg : TDG (TT K)} {de : TDE (TT K)} {g0 : G (TT K)} {Q : List (D PO) → Cs (TT K) → Prop} {c : Cell PO} {r : Cs (TT K)} (hp : PenN n c)
    (hs : ∀ (i : Int) (k : Nat) (c1 : Cell PO), PenN k c1 → k ≤ n + b * m → ∀ R : D PO → Cs (TT K) → Prop, (∀ s c', P s → PenN (k + b) c' → R (.str s) (c' :: r)) → dg (.dat (.int i)) g0 fun g1 => de g1 (c1 :: r) fun s cs2 => onDat s fun d' => R d' cs2)
    (hq : ∀ (ss : List Str) (c' : Cell PO), (∀ s ∈ ss, P s) → ss.length = m → PenN (n + b * m) c' → Q (ss.map .str) (c' :: r)) : lcD (T := TT K) dg dYes de g0 (rangeD 0 (m : Int)) [] (c :: r) Q := by
  have hr : rangeD (O := PO) 0 (m : Int) = (List.range m).map fun i : Nat => D.int (0 + (i : Int)) := by unfold rangeD; rw [show ((m : Int) - 0).toNat = m by omega]
  rw [hr]
  refine lcD_rel (T := TT K) (fun ds acc cs => ∃ (rest : List Nat) (ss : List Str) (c3 : Cell PO), ds = rest.map (fun i : Nat => D.int (0 + (i : Int))) ∧ acc = ss.map .str ∧ (∀ s ∈ ss, P s) ∧ ss.length + rest.length = m ∧ cs = c3 :: r ∧ PenN (n + b * ss.length) c3) ?_ ?_ _ _ _
    ⟨List.range m, [], c, rfl, rfl, (fun s hs => nomatch hs), by rw [List.length_range]; exact Nat.zero_add _, rfl, hp⟩
  · rintro d ds acc cs ⟨rest, ss, c3, e1, rfl, hP, hl, rfl, hp3⟩ R hR
    cases rest with
    | nil => cases e1
    | cons i rest =>
      rw [List.map_cons] at e1
      injection e1 with e1 e2
      subst e1 e2
      rw [List.length_cons] at hl
      refine hs _ _ c3 hp3 (by have := Nat.mul_le_mul_left b (show ss.length ≤ m by omega); omega) R fun s c' hs' hp' => ?_
      refine hR _ _ ⟨rest, ss ++ [s], c', rfl, by rw [List.map_append]; rfl, fun s' z => ?_, by rw [List.length_append, List.length_singleton]; omega, rfl, ?_⟩
      · rcases List.mem_append.mp z with z | z
        · exact hP s' z
        · rw [List.mem_singleton.mp z]; exact hs'
      · rw [List.length_append, List.length_singleton, Nat.mul_add, Nat.mul_one]
        exact hp'.mono (by omega)
  · rintro acc cs ⟨rest, ss, c3, e1, rfl, hP, hl, rfl, hp3⟩
    have : rest = [] := List.map_eq_nil_iff.mp e1.symm
    subst this
    have hl : ss.length = m := hl
    exact hq ss c3 hP hl (hl ▸ hp3)
/-! ### words -/
theorem joinL_nil : ∀ ps : List (List Nat), TL.joinL [] ps = ps.flatten
  | [] => rfl
  | [p] => by show p = [p].flatten; simp
  | p :: q :: r => by show p ++ ([] ++ TL.joinL [] (q :: r)) = _; rw [joinL_nil (q :: r)]; rfl
def LetP (s : Str) : Prop := ∃ z ∈ lettersS.cps.toList, s = ⟨#[z]⟩
theorem join_word {ss : List Str} (h : ∀ s ∈ ss, LetP s) : (Txt.join "" ss).length = ss.length ∧ ∀ z ∈ cd (Txt.join "" ss), z ∈ lettersS.cps.toList := by
  have e : cd (Txt.join "" ss) = (ss.map cd).flatten := by
    rw [TL.join_eq]
    exact (TL.tl_join "" ss).trans (joinL_nil _)
  have l1 : ∀ l : List Str, (∀ s ∈ l, LetP s) → ((l.map cd).flatten).length = l.length := fun l => by
    induction l with
    | nil => intro _; rfl
    | cons a r ih =>
      intro h
      obtain ⟨z, _, e⟩ := h a List.mem_cons_self
      rw [List.map_cons, List.flatten_cons, List.length_append, ih fun s hs => h s (List.mem_cons_of_mem _ hs), e, List.length_cons]
      show 1 + r.length = r.length + 1
      omega
  constructor
  · rw [← l1 ss h, ← e, Array.length_toList]; rfl
  · intro z hz
    rw [e] at hz
    obtain ⟨l, hl, hz⟩ := List.mem_flatten.mp hz
    obtain ⟨s, hs, rfl⟩ := List.mem_map.mp hl
    obtain ⟨y, hy, rfl⟩ := h s hs
    have : z = y := by simpa using hz
    rw [this]; exact hy
end
end H1
set_option Elab.async false
set_option linter.all false
set_option maxRecDepth 100000
set_option maxHeartbeats 1000000
/-! The law's own test of a name. -/
namespace H1
open PySem PySem.Spec PyProof.Rows L2 Ev Dl RpX
theorem cd_len' (s : Str) : (cd s).length = s.length := by rw [Array.length_toList]; rfl
def abc (c : Nat) : Bool := decide (97 ≤ c) && decide (c ≤ 122)
theorem abc_let (c : Nat) : abc c = decide (c ∈ lettersS.cps.toList) := by
  have e : lettersS.cps.toList = List.range' 97 26 := by decide +kernel
  rw [e]
  unfold abc
  by_cases h : 97 ≤ c ∧ c ≤ 122
  · rw [decide_eq_true h.1, decide_eq_true h.2, decide_eq_true (List.mem_range'_1.mpr ⟨h.1, by omega⟩)]
    rfl
  · rw [decide_eq_false (p := c ∈ _) fun z => h ⟨(List.mem_range'_1.mp z).1, by have := (List.mem_range'_1.mp z).2; omega⟩]
    by_cases h1 : 97 ≤ c
    · rw [decide_eq_false (p := c ≤ 122) fun z => h ⟨h1, z⟩, Bool.and_false]
    · rw [decide_eq_false h1, Bool.false_and]
theorem lt_one (a b : Nat) : ([a] < [b]) ↔ a < b := by
  constructor
  · intro h
    cases h with
    | rel h => exact h
    | cons h => cases h
  · exact .rel
theorem sgn_test (c : Nat) : (!decide ((⟨#[c]⟩ : Str).cps.toList < ("a" : Str).cps.toList) && !decide (("z" : Str).cps.toList < (⟨#[c]⟩ : Str).cps.toList)) = abc c := by
  have ea : ("a" : Str).cps.toList = [97] := by decide +kernel
  have ez : ("z" : Str).cps.toList = [122] := by decide +kernel
  rw [ea, ez]
  show (!decide ([c] < [97]) && !decide ([122] < [c])) = abc c
  unfold abc
  have h1 : decide ([c] < [97]) = decide (c < 97) := decide_eq_decide.mpr (lt_one c 97)
  have h2 : decide ([122] < [c]) = decide (122 < c) := decide_eq_decide.mpr (lt_one 122 c)
  rw [h1, h2]
  by_cases a : 97 ≤ c <;> by_cases b : c ≤ 122
  · rw [decide_eq_true a, decide_eq_true b, decide_eq_false (by omega), decide_eq_false (by omega)]; rfl
  · rw [decide_eq_true a, decide_eq_false b, decide_eq_false (by omega), decide_eq_true (by omega)]; rfl
  · rw [decide_eq_false a, decide_eq_true b, decide_eq_true (by omega), decide_eq_false (by omega)]; rfl
  · rw [decide_eq_false a, decide_eq_false b, decide_eq_true (by omega), decide_eq_true (by omega)]; rfl
section
variable {K : PySem.W.Frag}
def sd__law_is_name : SpP (TT K) := fun ds q _ => match ds with
  | [d] => askD d = true ∧ (∀ z, d = .str z → z.length ≤ 1000) ∧ q (.bl (nameD d))
  | _ => False
theorem barred_split : Txt.split "byte size align place end packed and or not yes no for nogap notail leaf" " " = barredS := by decide +kernel
theorem lc_sgn {a0 a1 a2 : Option (Sl PO)} {Q : List (D PO) → Cs (TT K) → Prop} : ∀ (l : List Nat) (acc : List (D PO)), (∀ r : List (D PO), (r = [] ↔ l.all abc = true) → Q (acc ++ r) []) →
    lcD (T := TT K) (dName 2) (dNot (dTest (dChain rLeS rLeS (dC (TT K) (.str "a")) (dVar (TT K) 2) (dC (TT K) (.str "z"))))) (dVar (TT K) 2) [a0, a1, a2] (l.map fun c => D.str ⟨#[c]⟩) acc [] Q
  | [], acc, h => by
    have := h [] ⟨fun _ => rfl, fun _ => rfl⟩
    rw [List.append_nil] at this
    exact this
  | c :: l, acc, h => by
    rw [List.map_cons]
    have st := sgn_test c
    have drop : abc c = true → lcD (T := TT K) (dName 2) (dNot (dTest (dChain rLeS rLeS (dC (TT K) (.str "a")) (dVar (TT K) 2) (dC (TT K) (.str "z"))))) (dVar (TT K) 2) [a0, a1, a2] (l.map fun c => D.str ⟨#[c]⟩) acc [] Q := fun e =>
      lc_sgn l acc fun r hr => h r (by rw [List.all_cons, e, Bool.true_and]; exact hr)
    have keep : abc c = false → lcD (T := TT K) (dName 2) (dNot (dTest (dChain rLeS rLeS (dC (TT K) (.str "a")) (dVar (TT K) 2) (dC (TT K) (.str "z"))))) (dVar (TT K) 2) [a0, a1, a2] (l.map fun c => D.str ⟨#[c]⟩) (acc ++ [.str ⟨#[c]⟩]) [] Q := fun e =>
      lc_sgn l _ fun r hr => by
        have := h (D.str ⟨#[c]⟩ :: r) ⟨(fun z => nomatch z), (fun z => by rw [List.all_cons, e] at z; cases z)⟩
        rw [List.append_assoc]
        exact this
    refine Br.of (fun h1 => ?_) (fun h1 => ?_)
    · have h1 : (!decide ((⟨#[c]⟩ : Str).cps.toList < ("a" : Str).cps.toList)) = true := h1
      rw [h1, Bool.true_and] at st
      refine Br.of (fun h2 => keep ?_) (fun h2 => drop ?_)
      · have h2 : (!(!decide (("z" : Str).cps.toList < (⟨#[c]⟩ : Str).cps.toList))) = true := h2
        rw [st] at h2
        exact by simpa using h2
      · have h2 : (!(!decide (("z" : Str).cps.toList < (⟨#[c]⟩ : Str).cps.toList))) = false := h2
        rw [st] at h2
        exact by simpa using h2
    · have h1 : (!decide ((⟨#[c]⟩ : Str).cps.toList < ("a" : Str).cps.toList)) = false := h1
      rw [h1, Bool.false_and] at st
      exact keep st.symm
theorem hs__law_is_name (ds : List (D PO)) (q : D PO → Prop) (x : Xd (TT K)) (h : sd__law_is_name (K := K) ds q x) : t__law_is_name K x (enP q) (startG N__law_is_name (ds.map .dat)) [] := by
  match ds, h with
  | [d], ⟨ha, hl, hq⟩ =>
    have no : nameD d = false → q (.bl false) := fun e => by rw [e] at hq; exact hq
    cases d with
    | str s =>
      have ls := hl s rfl
      refine Br.of (fun h1 => no ?_) (fun h1 => Br.of (fun h2 => no ?_) (fun h2 => ?_))
      · have h1 : (s == ("" : Str)) = true := h1
        rw [eq_of_beq h1]
        decide +kernel
      · have h2 : (8 : Int) < (s.length : Int) := of_decide_eq_true h2
        show nmS s = false
        unfold nmS
        rw [decide_eq_false (p := s.length ≤ 8) (by omega), Bool.false_and, Bool.and_false, Bool.and_false]
      · have h1 : (s == ("" : Str)) = false := h1
        have h2 : ¬ (8 : Int) < (s.length : Int) := of_decide_eq_false h2
        have ln : (cd s).length = s.length := cd_len' s
        have n1 : 1 ≤ s.length := by
          cases e : s.length with
          | zero =>
            have : s = "" := by
              have e2 : s.cps.toList = [] := List.eq_nil_of_length_eq_zero (by rw [ln, e])
              obtain ⟨a⟩ := s
              have e3 : a = #[] := Array.toList_inj.mp e2
              rw [e3]; rfl
            rw [this] at h1
            exact absurd h1 (by decide +kernel)
          | succ n => omega
        refine ⟨by show (signsD s).length ≤ sizeLine; unfold signsD; rw [List.length_map, ln, sizeLine_eq]; omega, ?_⟩
        refine lc_sgn (K := K) (cd s) [] fun r hr => ?_
        rw [List.nil_append]
        have al : (cd s).all abc = s.cps.toList.all fun c => decide (c ∈ lettersS.cps.toList) := congrArg (List.all (cd s)) (funext abc_let)
        have fin : nmS s = (!decide (s ∈ barredS) && (cd s).all abc) := by
          unfold nmS
          rw [decide_eq_true n1, decide_eq_true (show s.length ≤ 8 by omega), Bool.true_and, Bool.true_and, al]
        refine ⟨Nat.zero_le _, ?_⟩
        refine Br.of (fun h3 => no ?_) (fun h3 => ?_)
        · show nmS s = false
          cases r with
          | nil => cases h3
          | cons a r =>
            have : (cd s).all abc = false := by
              cases e : (cd s).all abc with
              | false => rfl
              | true => exact absurd (hr.mpr e) (by simp)
            rw [fin, this, Bool.and_false]
        · have e : r = [] := by
            cases r with
            | nil => rfl
            | cons a r => cases h3
          have al2 := hr.mp e
          have hq : q (.bl (nmS s)) := hq
          rw [fin, al2, Bool.and_true] at hq
          refine ⟨by decide +kernel, by decide +kernel, by rw [barred_split]; decide +kernel, ?_⟩
          show _ ∧ _
          rw [barred_split]
          refine And.intro rfl (And.intro (Dl.flat_strs barredS) ?_)
          rw [inD_strs]
          exact hq
    | obj o =>
      cases o with
      | base p => cases p with
        | grp ov ps => cases ov <;> exact hq
        | _ => exact hq
      | _ => cases ha
    | ty n => cases ha
    | cls n => cases ha
    | ptr n => cases ha
    | _ => exact hq
end
end H1
set_option Elab.async false
set_option linter.all false
set_option maxRecDepth 100000
set_option maxHeartbeats 1000000
/-! What is drawn for a name. -/
namespace H1
open PySem PySem.Spec PyProof.Rows L2 Ev Dl RpX
/-- what is asked for its text -/
def ShOk (d : D PO) : Prop := ∃ p, toPyX d = some p ∧ p.showable = true ∧ p.shown.length ≤ 100000 ∧ p.depth ≤ 20
def ElX (B : Nat) (d : PyData) : Prop := d.showable = true ∧ d.shown.length ≤ B
theorem ElX.mono {B C : Nat} {d : PyData} (h : ElX B d) (l : B ≤ C) : ElX C d := ⟨h.1, Nat.le_trans h.2 l⟩
theorem all_elX {B n : Nat} : ∀ {ds : List PyData}, (∀ d ∈ ds, ElX B d ∧ d.depth ≤ n) → PyData.showableAll ds = true ∧ ((PyData.shownAll ds).map fun t => t.length + 2).sum ≤ (B + 2) * ds.length ∧ PyData.depthAll ds ≤ n
  | [], _ => ⟨rfl, by simp [PyData.shownAll], by simp [PyData.depthAll]⟩
  | d :: ds, h => by
    obtain ⟨a1, a2, a3⟩ := all_elX fun x hx => h x (List.mem_cons_of_mem _ hx)
    obtain ⟨⟨b1, b2⟩, b4⟩ := h d (by simp)
    refine ⟨by simp [PyData.showableAll, a1, b1], ?_, ?_⟩
    · simp only [PyData.shownAll, List.map_cons, List.sum_cons, List.length_cons]
      rw [Nat.mul_succ]
      omega
    · simp only [PyData.depthAll]
      omega
theorem elX_list {ds : List PyData} {B n : Nat} (h : ∀ d ∈ ds, ElX B d ∧ d.depth ≤ n) : ElX ((B + 2) * ds.length + 2) (.list ds) ∧ (PyData.list ds).depth ≤ n + 1 := by
  obtain ⟨a1, a2, a3⟩ := all_elX h
  refine ⟨⟨by simp only [PyData.showable]; exact a1, ?_⟩, by simp only [PyData.depth]; omega⟩
  have e2 : (("[" : String) : Str).length = 1 := rfl
  have e3 : (("]" : String) : Str).length = 1 := rfl
  have z := textFrom_le (PyData.shownAll ds) 0 "["
  rw [e2] at z
  simp only [PyData.shown, listText, strLen_append, e3]
  omega
theorem elX_tup {ds : List PyData} {B n : Nat} (h : ∀ d ∈ ds, ElX B d ∧ d.depth ≤ n) : ElX ((B + 2) * ds.length + 3) (.tuple ds) ∧ (PyData.tuple ds).depth ≤ n + 1 := by
  obtain ⟨a1, a2, a3⟩ := all_elX h
  refine ⟨⟨by simp only [PyData.showable]; exact a1, ?_⟩, by simp only [PyData.depth]; omega⟩
  have e2 : (("(" : String) : Str).length = 1 := rfl
  have e3 : ((",)" : String) : Str).length = 2 := rfl
  have e4 : ((")" : String) : Str).length = 1 := rfl
  have e5 : ((", " : String) : Str).length = 2 := rfl
  have z := join_le ((", " : String) : Str) (PyData.shownAll ds)
  rw [e5] at z
  simp only [PyData.shown, tupleText, strLen_append]
  rw [e2]
  by_cases c : ((PyData.shownAll ds).length == 1) = true
  · rw [if_pos c, e3]; omega
  · rw [if_neg c, e4]; omega
/-- a datum that repr tells, dicts too -/
def RX (B n : Nat) (d : D PO) : Prop := ∃ p, toPyX d = some p ∧ ElX B p ∧ p.depth ≤ n
theorem toPyXL_of {B n : Nat} : ∀ {ds : List (D PO)}, (∀ d ∈ ds, RX B n d) → ∃ ps, toPyXL ds = some ps ∧ ps.length = ds.length ∧ ∀ p ∈ ps, ElX B p ∧ p.depth ≤ n
  | [], _ => ⟨[], rfl, rfl, fun _ h => nomatch h⟩
  | d :: ds, h => by
    obtain ⟨ps, e1, e2, e3⟩ := toPyXL_of fun x hx => h x (List.mem_cons_of_mem _ hx)
    obtain ⟨p, f1, f2, f3⟩ := h d List.mem_cons_self
    refine ⟨p :: ps, ?_, by rw [List.length_cons, List.length_cons, e2], fun q hq => ?_⟩
    · show ((toPyX d).bind fun a => (toPyXL ds).map (a :: ·)) = _
      rw [f1, e1]; rfl
    · rcases List.mem_cons.mp hq with rfl | hq
      · exact ⟨f2, f3⟩
      · exact e3 q hq
theorem RX.mono {B C n m : Nat} {d : D PO} (h : RX B n d) (l : B ≤ C) (k : n ≤ m) : RX C m d := by
  obtain ⟨p, a, b, c⟩ := h
  exact ⟨p, a, b.mono l, Nat.le_trans c k⟩
theorem RX.lst {B n : Nat} {ds : List (D PO)} (h : ∀ d ∈ ds, RX B n d) (hn : n + 1 ≤ 15) : RX ((B + 2) * ds.length + 2) (n + 1) (D.lst ds) := by
  obtain ⟨ps, e1, e2, e3⟩ := toPyXL_of h
  have z := elX_list e3
  rw [e2] at z
  exact ⟨.list ps, by show (toPyXL ds).map PyData.list = _; rw [e1]; rfl, z.1, z.2⟩
theorem RX.tup {B n : Nat} {ds : List (D PO)} (h : ∀ d ∈ ds, RX B n d) (hn : n + 1 ≤ 15) : RX ((B + 2) * ds.length + 3) (n + 1) (D.tup ds) := by
  obtain ⟨ps, e1, e2, e3⟩ := toPyXL_of h
  have z := elX_tup e3
  rw [e2] at z
  exact ⟨.tuple ps, by show (toPyXL ds).map PyData.tuple = _; rw [e1]; rfl, z.1, z.2⟩
theorem RX.str {s : Str} (h : CharOk s) {n : Nat} (hl : s.length ≤ n) : RX (10 * n + 2) 0 (D.str s) := ⟨.str s, rfl, ⟨(el_str h hl).1.1, (el_str h hl).1.2.1⟩, (el_str h hl).2⟩
theorem RX.sh {B n : Nat} {d : D PO} (h : RX B n d) (l : B ≤ 100000) (k : n ≤ 20) : ShOk d := by
  obtain ⟨p, h1, h2, h3⟩ := h
  exact ⟨p, h1, h2.1, Nat.le_trans h2.2 l, Nat.le_trans h3 k⟩

structure TxP (s : Str) : Prop where
  ok : CharOk s
  len : s.length ≤ 40
theorem str_app_len (a b : Str) : (a ++ b).length = a.length + b.length := by
  show (a.cps ++ b.cps).size = a.cps.size + b.cps.size
  rw [Array.size_append]
theorem TxP.app {a b : Str} (ha : TxP a) (hb : TxP b) (h : a.length + b.length ≤ 40) : TxP (a ++ b) := ⟨ha.ok.app hb.ok, by rw [str_app_len]; exact h⟩
theorem TxP.cut {a : Str} (ha : TxP a) (lo hi : Option Int) : TxP (cutS a lo hi) := by
  refine ⟨fun c hc => ha.ok c ?_, Nat.le_trans (cutS_length a lo hi) ha.len⟩
  have hc2 : c ∈ (a.cps.toList.drop (HT.sIx a.length 0 lo)).take (HT.sIx a.length a.length hi - HT.sIx a.length 0 lo) := by simpa [cutS] using hc
  exact List.mem_of_mem_drop (List.mem_of_mem_take hc2)
theorem lets_lt : ∀ c ∈ lettersS.cps.toList, c < 1114112 := by decide +kernel
theorem lets_up : ∀ c ∈ lettersS.cps.toList, ∀ d ∈ Unicode.upperOf c, d < 1114112 := by decide +kernel
theorem placed_mem {x : Str} {f : Nat → Nat → List Nat} {d : Nat} (h : d ∈ (placed x f).toList) : ∃ i c, c ∈ x.cps.toList ∧ d ∈ f i c := by
  unfold placed at h
  have h2 : d ∈ (x.cps.mapIdx fun i c => (f i c).toArray).flatten := Array.mem_toList_iff.mp h
  obtain ⟨ys, hy, hd⟩ := Array.mem_flatten.mp h2
  obtain ⟨i, hi, e⟩ := Array.mem_mapIdx.mp hy
  refine ⟨i, x.cps[i], Array.mem_toList_iff.mpr (Array.getElem_mem hi), ?_⟩
  rw [← e] at hd
  simpa using hd
def Lets (s : Str) : Prop := ∀ c ∈ s.cps.toList, c ∈ lettersS.cps.toList
theorem TxP.upper {s : Str} (h : Lets s) (hl : s.length ≤ 13) : TxP (Txt.upper s) := by
  refine ⟨fun d hd => ?_, Nat.le_trans (PyProof.Rows.len_upper s) (by omega)⟩
  obtain ⟨i, c, hc, hd2⟩ := placed_mem hd
  exact lets_up c (h c hc) d hd2
theorem TxP.lets {s : Str} (h : Lets s) (hl : s.length ≤ 40) : TxP s := ⟨fun c hc => lets_lt c (h c hc), hl⟩
theorem TxP.lit {s : Str} (h : (s.length ≤ 40 ∧ ∀ c ∈ s.cps.toList, c < 1114112)) : TxP s := ⟨h.2, h.1⟩
/-- what may be asked for a name -/
structure WdOk (d : D PO) : Prop where
  ask : askD d = true
  len : ∀ z, d = .str z → z.length ≤ 40 ∧ CharOk z
  rx : RX 1000 2 d
  st : ∃ z : Str, z.length ≤ 1000 ∧ (∀ s, d = .str s → z = s) ∧ ∀ {K : PySem.W.Frag} (k : D PO → Prop), k (.str z) → fStrD (T := TT K) d k
theorem WdOk.str {s : Str} (h : TxP s) : WdOk (.str s) := ⟨rfl, fun z e => by cases e; exact ⟨h.len, h.ok⟩, (RX.str h.ok h.len).mono (by decide) (by decide), s, Nat.le_trans h.len (by decide), fun z e => by cases e; rfl, fun k hk => hk⟩
theorem WdOk.data {d : D PO} (ha : askD d = true) (hs : ∀ z, d ≠ .str z) (hr : RX 1000 2 d) (hi : ∀ i, d ≠ .int i) (hf : ∀ {K : PySem.W.Frag} (k : D PO → Prop), (∃ p, toPyX d = some p ∧ (∀ i, p ≠ .int i) ∧ (∀ z, p ≠ .str z) ∧ p.showable = true ∧ p.shown.length ≤ sizeLine ∧ p.depth ≤ 20 ∧ k (.str p.shown)) → fStrD (T := TT K) d k) (hn : ∀ p, toPyX d = some p → (∀ i, p ≠ .int i) ∧ (∀ z, p ≠ .str z)) : WdOk d := by
  refine ⟨ha, fun z e => absurd e (hs z), hr, ?_⟩
  obtain ⟨p, e, h1, h2⟩ := hr
  exact ⟨p.shown, h1.2, fun z e => absurd e (hs z), fun k hk => hf k ⟨p, e, (hn p e).1, (hn p e).2, h1.1, Nat.le_trans h1.2 (by rw [sizeLine_eq]; omega), by omega, hk⟩⟩
section
variable {K : PySem.W.Frag}
def sd__law_word : SpO (TT K) := fun c ds q _ => match ds with
  | [] => ∃ n : Nat, PenN n c ∧ n ≤ 80000 ∧ ∀ d c', WdOk d → PenN (n + 12) c' → q d c'
  | _ => False
def barW : List Str := ["byte", "size", "align", "place", "end", "packed", "and", "or", "not", "yes", "no", "for", "nogap", "notail", "leaf"]
theorem barW_ok : ∀ s ∈ barW, s.length ≤ 10 ∧ (s.length ≤ 40 ∧ ∀ c ∈ s.cps.toList, c < 1114112) := by decide +kernel
theorem hs__law_word (c : Cell PO) (ds : List (D PO)) (q : D PO → Cell PO → Prop) (x : Xd (TT K)) (h : sd__law_word (K := K) c ds q x) : t__law_word K sd__law_draw sd__law_pick x (enO q) (startG N__law_word (.own 0 :: ds.map .dat)) [c] := by
  match ds, h with
  | [], ⟨n, hp, hn, hq⟩ =>
    refine ⟨hp.ng, n, hp, by omega, by decide, by decide, fun z c1 z0 z1 hp1 => ⟨hp1.ng, ?_⟩⟩
    obtain ⟨u, rfl⟩ := Int.eq_ofNat_of_zero_le z0
    have z1 : (u : Int) < 9 := z1
    have em : (1 : Int) + (u : Int) = ((1 + u : Nat) : Int) := by omega
    refine ⟨⟨by show -(2 ^ 62) ≤ (1 : Int) + (u : Int); omega, by show (1 : Int) + (u : Int) < 2 ^ 62; omega⟩, ?_⟩
    show _ ∧ _
    rw [em]
    refine ⟨by unfold rangeD; rw [List.length_map, List.length_range, sizeLine_eq]; omega, lc_strs (b := 1) (m := 1 + u) (P := LetP) hp1 (fun i k c2 hp2 hk R hR => ?_) fun ss c2 hP hl hp2 => ?_⟩
    · exact ⟨hp2.ng, k, hp2, by omega, by show 1 ≤ 26; decide, by show 26 ≤ 100000; decide, fun z hz c3 hp3 => ⟨hp3.ng, hR _ c3 ⟨z, hz, rfl⟩ hp3⟩⟩
    · dsimp only [on1, vw]
      refine onStrs_mk (bs := ss) rfl ?_
      obtain ⟨jl, jc⟩ := join_word hP
      have sl : ∀ l : List Str, (∀ s ∈ l, LetP s) → (l.map (·.length)).sum = l.length := fun l => by
        induction l with
        | nil => intro _; rfl
        | cons a r ih =>
          intro h
          obtain ⟨z, _, e⟩ := h a List.mem_cons_self
          rw [List.map_cons, List.sum_cons, ih fun s hs => h s (List.mem_cons_of_mem _ hs), e, List.length_cons]
          show 1 + r.length = r.length + 1
          omega
      have e0 : ("" : Str).length = 0 := by decide +kernel
      generalize ef : Txt.join "" ss = w at jl jc
      refine ⟨by rw [sl ss hP, e0]; omega, by rw [sizeLine_eq]; omega, ?_⟩
      have wl : w.length ≤ 9 := by omega
      have tw : TxP w := .lets jc (by omega)
      refine ⟨by show 13 ≤ sizeLine; decide, by show 2 ≤ sizeLine; decide, by show 13 + 2 ≤ sizeLine; decide, hp2.ng, _, hp2, by omega, by show 1 ≤ 15; decide, by show 15 ≤ 100000; decide, fun d hd c3 hp3 => ⟨hp3.ng, ?_⟩⟩
      obtain ⟨nr, hnr, ed⟩ : ∃ w ∈ barW, d = .str w := List.mem_map.mp (show d ∈ barW.map D.str from hd) |>.imp fun w h => ⟨h.1, h.2.symm⟩
      subst ed
      obtain ⟨nl, nt⟩ := barW_ok nr hnr
      have tn : TxP nr := .lit nt
      have ts : ∀ s : Str, (s = "s" ∨ s = "1" ∨ s = " " ∨ s = "_") → TxP s ∧ s.length = 1 := fun s h => by rcases h with rfl | rfl | rfl | rfl <;> exact ⟨.lit (by decide +kernel), by decide +kernel⟩
      have l1 : ∀ s : Str, (s = "s" ∨ s = "1" ∨ s = " " ∨ s = "_") → s.length = 1 := fun s h => (ts s h).2
      have tu : TxP (Txt.upper w) := .upper jc (by omega)
      have k1 := l1 "s" (.inl rfl)
      have k2 := l1 "1" (.inr (.inl rfl))
      have k3 := l1 " " (.inr (.inr (.inl rfl)))
      have k4 := l1 "_" (.inr (.inr (.inr rfl)))
      have lu := tu.len
      refine ⟨by rw [sizeLine_eq]; omega, by rw [sizeLine_eq]; omega, by omega, by rw [sizeLine_eq]; omega, by rw [sizeLine_eq]; omega, by rw [sizeLine_eq]; omega, by show 11 ≤ sizeLine; decide, ?_⟩
      refine ⟨by show 1 ≤ sizeLine; decide, by show 1 ≤ sizeLine; decide, by show 10 ≤ sizeLine; decide, by show 11 + 10 ≤ sizeLine; decide, hp3.ng, _, hp3, by omega, by show 1 ≤ 21; decide, by show 21 ≤ 100000; decide, fun d hd c4 hp4 => ⟨hp4.ng, ?_⟩⟩
      have hd : d ∈ [D.str w, .str w, .str w, .str (cutS w none (some 8)), .str nr, .str (nr ++ "s"), .str (cutS nr (some 1) none), .str (w ++ "1"), .str (Txt.upper w), .str (w ++ " "), .str ("_" ++ w), .str "", .str " ", .non, .bl true, .int 7, .tup [.str w], .lst [.str w], .dic [], .str "a.b", .str "leafs"] := hd
      have fin : WdOk d → onC (T := TT K) [c4, .gone] (q d) := fun h => by
        have := hq d c4 h (hp4.mono (by omega))
        obtain ⟨xs, t, y, rfl, _⟩ := hp4
        exact this
      refine fin ?_
      simp only [List.mem_cons, List.not_mem_nil, or_false] at hd
      rcases hd with rfl | rfl | rfl | rfl | rfl | rfl | rfl | rfl | rfl | rfl | rfl | rfl | rfl | rfl | rfl | rfl | rfl | rfl | rfl | rfl | rfl
      · exact .str tw
      · exact .str tw
      · exact .str tw
      · exact .str (tw.cut _ _)
      · exact .str tn
      · exact .str (tn.app (ts _ (.inl rfl)).1 (by omega))
      · exact .str (tn.cut _ _)
      · exact .str (tw.app (ts _ (.inr (.inl rfl))).1 (by omega))
      · exact .str tu
      · exact .str (tw.app (ts _ (.inr (.inr (.inl rfl)))).1 (by omega))
      · exact .str ((ts _ (.inr (.inr (.inr rfl)))).1.app tw (by omega))
      · exact .str (.lit (by decide +kernel))
      · exact .str (.lit (by decide +kernel))
      · exact .data rfl (fun z e => nomatch e) ⟨_, rfl, ⟨by decide +kernel, by decide +kernel⟩, by decide +kernel⟩ (fun i e => nomatch e) (fun k h => h) (fun p e => by cases e; exact ⟨(fun i e => nomatch e), (fun z e => nomatch e)⟩)
      · exact .data rfl (fun z e => nomatch e) ⟨_, rfl, ⟨by decide +kernel, by decide +kernel⟩, by decide +kernel⟩ (fun i e => nomatch e) (fun k h => h) (fun p e => by cases e; exact ⟨(fun i e => nomatch e), (fun z e => nomatch e)⟩)
      · exact ⟨rfl, (fun z e => nomatch e), ⟨_, rfl, ⟨by decide +kernel, by decide +kernel⟩, by decide +kernel⟩, toString (7 : Int), by decide +kernel, (fun s e => nomatch e), fun k hk => ⟨by decide +kernel, by decide +kernel, hk⟩⟩
      · have rw1 : RX 402 0 (D.str (O := PO) w) := RX.str tw.ok tw.len
        have rt : RX 1000 2 (D.tup (O := PO) [.str w]) := (RX.tup (B := 402) (n := 0) (ds := [.str w]) (fun d hd => by rw [List.mem_singleton.mp hd]; exact rw1) (by decide)).mono (by show 404 * 1 + 3 ≤ 1000; decide) (by decide)
        exact .data rfl (fun z e => nomatch e) rt (fun i e => nomatch e) (fun k h => h) (fun p e => by cases e; exact ⟨(fun i e => nomatch e), (fun z e => nomatch e)⟩)
      · have rw1 : RX 402 0 (D.str (O := PO) w) := RX.str tw.ok tw.len
        have rt : RX 1000 2 (D.lst (O := PO) [.str w]) := (RX.lst (B := 402) (n := 0) (ds := [.str w]) (fun d hd => by rw [List.mem_singleton.mp hd]; exact rw1) (by decide)).mono (by show 404 * 1 + 2 ≤ 1000; decide) (by decide)
        exact .data rfl (fun z e => nomatch e) rt (fun i e => nomatch e) (fun k h => h) (fun p e => by cases e; exact ⟨(fun i e => nomatch e), (fun z e => nomatch e)⟩)
      · exact .data rfl (fun z e => nomatch e) ⟨_, rfl, ⟨by decide +kernel, by decide +kernel⟩, by decide +kernel⟩ (fun i e => nomatch e) (fun k h => h) (fun p e => by cases e; exact ⟨(fun i e => nomatch e), (fun z e => nomatch e)⟩)
      · exact .str (.lit (by decide +kernel))
      · exact .str (.lit (by decide +kernel))
end
end H1
set_option Elab.async false
set_option linter.all false
set_option maxRecDepth 100000
set_option maxHeartbeats 1000000
/-! What is made of a name, and what is refused. -/
namespace H1
open PySem PySem.Spec PyProof.Rows L2 Ev Dl RpX LamX
structure MnOk (d : D PO) : Prop where
  ask : askD d = true
  rx : RX 1000 2 d
section
variable {K : PySem.W.Frag}
def nmB (d : D PO) : D PO := .tup [.str "name", d]
def tmB (d : D PO) : D PO := .tup [.str "times", d]
def okB (s : Str) : D PO := .lst [.str s, .int 0]
theorem told_name {d : D PO} {k : D PO → Prop} (h : k (nmB d)) : ∀ (y : Str) (ds : List (D PO)), (y = "BadName" ∧ ds = [d]) → toldE y ds k := fun y ds ⟨e1, e2⟩ => by
  subst e1 e2
  unfold toldE
  rw [if_pos rfl]
  exact h
theorem told_times {d : D PO} {k : D PO → Prop} (h : k (tmB d)) : ∀ (y : Str) (ds : List (D PO)), (y = "BadTimes" ∧ ds = [d]) → toldE y ds k := fun y ds ⟨e1, e2⟩ => by
  subst e1 e2
  unfold toldE
  rw [if_neg (by decide +kernel), if_pos rfl]
  exact h
def tl_right (K : PySem.W.Frag) (sd__law_word : SpO (TT K)) (sd__law_pick : SpO (TT K)) (sd__law_draw : SpO (TT K)) (sd__law_is_name : SpP (TT K)) (sdC_Kind : SpN (TT K)) (sdC_Use : SpN (TT K)) (xd : Xd (TT K)) : TDS (TT K) := (dSeq (dSet 5 (dLstO (dCons (dHeard 1 q__law_right F_law_heard (fun xl => (dNew sdC_Kind xl dfl_Kind_2 (dCons (dVar (TT K) 1) (dCons (dVar (TT K) 2) dNil))))) dNil))) (dSeq (dDrop (dApp (dVar (TT K) 5) (dHeard 1 q__law_right F_law_heard (fun xl => (dNewK sdC_Kind xl 2 ord_Kind_0 (dCons (dVar (TT K) 2) (dCons (dVar (TT K) 1) dNil))))))) (dSeq (dDrop (dApp (dVar (TT K) 5) (dHeard 1 q__law_right F_law_heard (fun xl => (dNew sdC_Kind xl dfl_Kind_1 (dCons (dVar (TT K) 1) dNil)))))) (dSeq (dDrop (dApp (dVar (TT K) 5) (dHeard 1 q__law_right F_law_heard (fun xl => (dNew sdC_Use xl dfl_Use_1 (dCons (dVar (TT K) 1) dNil)))))) (dSeq (dDrop (dApp (dVar (TT K) 5) (dHeard 1 q__law_right F_law_heard (fun xl => (dNewK sdC_Use xl 1 ord_Use_1 (dCons (dVar (TT K) 1) dNil)))))) (dRet (dOp rEqA (dCall (r1 (fReprX (T := TT K))) (dCons (dVar (TT K) 5) dNil)) (dCall (r1 (fReprX (T := TT K))) (dCons (dVar (TT K) 4) dNil)))))))))
abbrev tR (K : PySem.W.Frag) : Xd (TT K) → TDS (TT K) := tl_right K sd__law_word sd__law_pick sd__law_draw sd__law_is_name sdC_Kind sdC_Use
abbrev qR : Str := q__law_right
/-- a refused name -/
theorem right_no {c : Cell PO} {n : Nat} {d m : D PO} {x : Xd (TT K)} {q : D PO → List (Cell PO) → Prop} {s3 : Option (Sl PO)} (hd : WdOk d) (hm : MnOk m) (hn : nameD d = false) (hp : PenN n c) (hq : q (.bl true) [c]) :
    tR K x (enW 1 [qR] q) [some (.own 0), some (.dat d), some (.dat m), s3, some (.dat (.lst [nmB d, nmB d, nmB d, nmB d, nmB d])), none] [c, .tab qR] := by
  have ne : ¬ (nameD d = true) := by rw [hn]; exact Bool.false_ne_true
  refine ⟨rfl, fun _ => False, fun (y : Str) ds => y = "BadName" ∧ ds = [d], ⟨hd.ask, hm.ask, ?_⟩, fun d hd => hd.elim, fun y ds he => told_name ?_ y ds he⟩
  · rw [if_neg ne]
    exact ⟨rfl, rfl⟩
  refine ⟨by show 1 ≤ sizeLine; decide, ?_⟩
  refine ⟨rfl, fun _ => False, fun (y : Str) ds => y = "BadName" ∧ ds = [d], ⟨rfl, hd.ask, hm.ask, ?_⟩, fun d hd => hd.elim, fun y ds he => told_name ?_ y ds he⟩
  · show (if nameD d = true then _ else _)
    rw [if_neg ne]
    exact ⟨rfl, rfl⟩
  refine ⟨by show 1 < sizeLine; decide, ?_⟩
  refine ⟨rfl, fun _ => False, fun (y : Str) ds => y = "BadName" ∧ ds = [d], ⟨hd.ask, rfl, ?_⟩, fun d hd => hd.elim, fun y ds he => told_name ?_ y ds he⟩
  · rw [if_neg ne]
    exact ⟨rfl, rfl⟩
  refine ⟨by show 2 < sizeLine; decide, ?_⟩
  refine ⟨rfl, fun _ => False, fun (y : Str) ds => y = "BadName" ∧ ds = [d], ⟨hd.ask, ?_⟩, fun d hd => hd.elim, fun y ds he => told_name ?_ y ds he⟩
  · rw [if_neg ne]
    exact ⟨rfl, rfl⟩
  refine ⟨by show 3 < sizeLine; decide, ?_⟩
  refine ⟨rfl, fun _ => False, fun (y : Str) ds => y = "BadName" ∧ ds = [d], ⟨rfl, hd.ask, ?_⟩, fun d hd => hd.elim, fun y ds he => told_name ?_ y ds he⟩
  · show (if nameD d = true then _ else _)
    rw [if_neg ne]
    exact ⟨rfl, rfl⟩
  refine ⟨by show 4 < sizeLine; decide, ?_⟩
  have rn : RX 2300 3 (nmB d) := (RX.tup (B := 1000) (n := 2) (ds := [.str "name", d]) (fun e he => by
    simp only [List.mem_cons, List.not_mem_nil, or_false] at he
    rcases he with rfl | rfl
    · exact ⟨_, rfl, ⟨by decide +kernel, by decide +kernel⟩, by decide +kernel⟩
    · exact hd.rx) (by decide)).mono (by show 1002 * 2 + 3 ≤ 2300; decide) (by decide)
  obtain ⟨z, w1, w2, w3, w4⟩ : ShOk (D.lst [nmB d, nmB d, nmB d, nmB d, nmB d]) := (RX.lst (B := 2300) (n := 3) (ds := [nmB d, nmB d, nmB d, nmB d, nmB d]) (fun e he => by
    simp only [List.mem_cons, List.not_mem_nil, or_false] at he
    rcases he with rfl | rfl | rfl | rfl | rfl <;> exact rn) (by decide)).sh (by show 2302 * 5 + 2 ≤ 100000; decide) (by decide)
  have w3 : z.shown.length ≤ sizeLine := Nat.le_trans w3 (by rw [sizeLine_eq]; omega)
  refine ⟨z, w1, w2, w3, w4, ?_⟩
  refine ⟨z, w1, w2, w3, w4, ?_⟩
  rw [show true = (z.shown == z.shown) from (beq_self_eq_true _).symm] at hq
  obtain ⟨xs, t, y, rfl, _⟩ := hp
  exact ⟨rfl, hq⟩
/-- a good name -/
theorem right_ok {c : Cell PO} {n : Nat} {s : Str} {m a : D PO} {x : Xd (TT K)} {q : D PO → List (Cell PO) → Prop} {s3 : Option (Sl PO)} (hn : nmS s = true) (hm : MnOk m) (ha : a = if wholeD m 1 8 = true then okB s else tmB m) (hp : PenN n c) (hq : q (.bl true) [c]) :
    tR K x (enW 1 [qR] q) [some (.own 0), some (.dat (.str s)), some (.dat m), s3, some (.dat (.lst [a, a, okB s, okB ("@" ++ s), okB ("@" ++ s)])), none] [c, .tab qR] := by
  have nd : nameD (D.str (O := PO) s) = true := hn
  have sl := (nm_len hn).2
  have one : ∀ {k : D PO → Prop}, k a → F_law_heard (K := K) (fun q x => sdC_Kind (K := K) [.str s, m] (fun o => q (.obj o)) x) k := fun {k} hk => by
    by_cases w : wholeD m 1 8 = true
    · rw [if_pos w] at ha
      obtain ⟨t, em, t1, t2⟩ := whole_D w (by decide)
      refine ⟨fun d => d = .obj (.base (.kind s t)), fun _ _ => False, ⟨rfl, hm.ask, ?_⟩, fun d e => ?_, fun y ds h => h.elim⟩
      · rw [if_pos nd, if_pos w, em]
        rfl
      · subst e
        refine ⟨s, ?_, ?_⟩
        · exact rfl
        · rw [ha] at hk
          exact hk
    · rw [if_neg w] at ha
      refine ⟨fun _ => False, fun (y : Str) ds => y = "BadTimes" ∧ ds = [m], ⟨rfl, hm.ask, ?_⟩, fun d e => e.elim, told_times (by rw [ha] at hk; exact hk)⟩
      rw [if_pos nd, if_neg w]
      exact ⟨rfl, rfl⟩
  have usl : ("@" ++ s : Str).length ≤ 100 := by rw [str_app_len]; have : ("@" : Str).length = 1 := by decide +kernel
                                                 omega
  have two : ∀ {k : D PO → Prop}, k (okB s) → F_law_heard (K := K) (fun q x => sdC_Kind (K := K) [.str s, .int 1] (fun o => q (.obj o)) x) k := fun {k} hk => by
    refine ⟨fun d => d = .obj (.base (.kind s 1)), fun _ _ => False, ⟨rfl, rfl, ?_⟩, fun d e => ?_, fun y ds h => h.elim⟩
    · rw [if_pos nd, if_pos (show wholeD (D.int (O := PO) 1) 1 8 = true by decide +kernel)]
      rfl
    · subst e
      exact ⟨s, rfl, hk⟩
  have thr : ∀ {k : D PO → Prop}, k (okB ("@" ++ s)) → F_law_heard (K := K) (fun q x => sdC_Use (K := K) [.str s] (fun o => q (.obj o)) x) k := fun {k} hk => by
    refine ⟨fun d => d = .obj (.base (.use s)), fun _ _ => False, ⟨rfl, ?_⟩, fun d e => ?_, fun y ds h => h.elim⟩
    · rw [if_pos nd]
    · subst e
      exact ⟨"@" ++ s, rfl, hk⟩
  refine ⟨rfl, one ?_⟩
  refine ⟨by show 1 ≤ sizeLine; decide, ?_⟩
  have oneK : ∀ {k : D PO → Prop}, k a → F_law_heard (K := K) (fun q x => 2 = 2 ∧ sdC_Kind (K := K) [.str s, m] (fun o => q (.obj o)) x) k := fun {k} hk => by
    obtain ⟨q, x, f1, f2, f3⟩ := one hk
    exact ⟨q, x, ⟨rfl, f1⟩, f2, f3⟩
  have thrK : ∀ {k : D PO → Prop}, k (okB ("@" ++ s)) → F_law_heard (K := K) (fun q x => 1 = 1 ∧ sdC_Use (K := K) [.str s] (fun o => q (.obj o)) x) k := fun {k} hk => by
    obtain ⟨q, x, f1, f2, f3⟩ := thr hk
    exact ⟨q, x, ⟨rfl, f1⟩, f2, f3⟩
  refine ⟨rfl, oneK ?_⟩
  refine ⟨by show 1 < sizeLine; decide, ?_⟩
  refine ⟨rfl, two ?_⟩
  refine ⟨by show 2 < sizeLine; decide, ?_⟩
  refine ⟨rfl, thr ?_⟩
  refine ⟨by show 3 < sizeLine; decide, ?_⟩
  refine ⟨rfl, thrK ?_⟩
  refine ⟨by show 4 < sizeLine; decide, ?_⟩
  have ro : ∀ s : Str, s.length ≤ 100 → CharOk s → RX 2300 3 (okB s) := fun s hl hc => (RX.lst (B := 1002) (n := 2) (ds := [.str s, .int 0]) (fun e he => by
    simp only [List.mem_cons, List.not_mem_nil, or_false] at he
    rcases he with rfl | rfl
    · exact (RX.str hc hl).mono (by decide) (by decide)
    · exact ⟨_, rfl, ⟨by decide +kernel, by decide +kernel⟩, by decide +kernel⟩) (by decide)).mono (by show 1004 * 2 + 2 ≤ 2300; decide) (by decide)
  have r1 := ro s (by omega) (CharOk.name hn)
  have r2 := ro ("@" ++ s) usl ((CharOk.lit "@").app (CharOk.name hn))
  have ra : RX 2300 3 a := by
    rw [ha]
    by_cases w : wholeD m 1 8 = true
    · rw [if_pos w]; exact r1
    · rw [if_neg w]
      exact (RX.tup (B := 1000) (n := 2) (ds := [.str "times", m]) (fun e he => by
        simp only [List.mem_cons, List.not_mem_nil, or_false] at he
        rcases he with rfl | rfl
        · exact ⟨_, rfl, ⟨by decide +kernel, by decide +kernel⟩, by decide +kernel⟩
        · exact hm.rx) (by decide)).mono (by show 1002 * 2 + 3 ≤ 2300; decide) (by decide)
  obtain ⟨z, w1, w2, w3, w4⟩ : ShOk (D.lst [a, a, okB s, okB ("@" ++ s), okB ("@" ++ s)]) := (RX.lst (B := 2300) (n := 3) (ds := [a, a, okB s, okB ("@" ++ s), okB ("@" ++ s)]) (fun e he => by
    simp only [List.mem_cons, List.not_mem_nil, or_false] at he
    rcases he with rfl | rfl | rfl | rfl | rfl
    · exact ra
    · exact ra
    · exact r1
    · exact r2
    · exact r2) (by decide)).sh (by show 2302 * 5 + 2 ≤ 100000; decide) (by decide)
  have w3 : z.shown.length ≤ sizeLine := Nat.le_trans w3 (by rw [sizeLine_eq]; omega)
  refine ⟨z, w1, w2, w3, w4, ?_⟩
  refine ⟨z, w1, w2, w3, w4, ?_⟩
  rw [show true = (z.shown == z.shown) from (beq_self_eq_true _).symm] at hq
  obtain ⟨xs, t, y, rfl, _⟩ := hp
  exact ⟨rfl, hq⟩
end
end H1
set_option Elab.async false
set_option linter.all false
set_option maxRecDepth 100000
set_option maxHeartbeats 1000000
/-! Names right and wrong: the whole. -/
namespace H1
open PySem PySem.Spec PyProof.Rows L2 Ev Dl RpX LamX
section
variable {K : PySem.W.Frag}
def tl_due (K : PySem.W.Frag) (sd__law_word : SpO (TT K)) (sd__law_pick : SpO (TT K)) (sd__law_draw : SpO (TT K)) (sd__law_is_name : SpP (TT K)) (sdC_Kind : SpN (TT K)) (sdC_Use : SpN (TT K)) (xd : Xd (TT K)) : TDS (TT K) := (dSeq (dSet 4 (dOp rAdd (dOp rAdd (dOp rMul (dLst (dCons (dIfE (dTru (dVar (TT K) 3)) (dLst (dCons (dVar (TT K) 1) (dCons (dC (TT K) (.int 0)) dNil))) (dTup (dCons (dC (TT K) (.str "times")) (dCons (dVar (TT K) 2) dNil)))) dNil)) (dC (TT K) (.int 2))) (dLst (dCons (dLst (dCons (dVar (TT K) 1) (dCons (dC (TT K) (.int 0)) dNil))) dNil))) (dOp rMul (dLst (dCons (dLst (dCons (dOp rAdd (dC (TT K) (.str "@")) (dCall (r1 (fStrD (T := TT K))) (dCons (dVar (TT K) 1) dNil))) (dCons (dC (TT K) (.int 0)) dNil))) dNil)) (dC (TT K) (.int 2))))) (dSeq (dIf (dNot (dTru (dCallP sd__law_is_name xd (dCons (dVar (TT K) 1) dNil)))) (dSet 4 (dOp rMul (dLst (dCons (dTup (dCons (dC (TT K) (.str "name")) (dCons (dVar (TT K) 1) dNil))) dNil)) (dC (TT K) (.int 5)))) dNx) (dSeq (dSet 5 (dLstO (dCons (dHeard 1 q__law_right F_law_heard (fun xl => (dNew sdC_Kind xl dfl_Kind_2 (dCons (dVar (TT K) 1) (dCons (dVar (TT K) 2) dNil))))) dNil))) (dSeq (dDrop (dApp (dVar (TT K) 5) (dHeard 1 q__law_right F_law_heard (fun xl => (dNewK sdC_Kind xl 2 ord_Kind_0 (dCons (dVar (TT K) 2) (dCons (dVar (TT K) 1) dNil))))))) (dSeq (dDrop (dApp (dVar (TT K) 5) (dHeard 1 q__law_right F_law_heard (fun xl => (dNew sdC_Kind xl dfl_Kind_1 (dCons (dVar (TT K) 1) dNil)))))) (dSeq (dDrop (dApp (dVar (TT K) 5) (dHeard 1 q__law_right F_law_heard (fun xl => (dNew sdC_Use xl dfl_Use_1 (dCons (dVar (TT K) 1) dNil)))))) (dSeq (dDrop (dApp (dVar (TT K) 5) (dHeard 1 q__law_right F_law_heard (fun xl => (dNewK sdC_Use xl 1 ord_Use_1 (dCons (dVar (TT K) 1) dNil)))))) (dRet (dOp rEqA (dCall (r1 (fReprX (T := TT K))) (dCons (dVar (TT K) 5) dNil)) (dCall (r1 (fReprX (T := TT K))) (dCons (dVar (TT K) 4) dNil)))))))))))
abbrev tD (K : PySem.W.Frag) : Xd (TT K) → TDS (TT K) := tl_due K sd__law_word sd__law_pick sd__law_draw sd__law_is_name sdC_Kind sdC_Use
abbrev tT (K : PySem.W.Frag) : TDS (TT K) := (dSet 3 (dAndV (dCall (rIsi1 cnT ownT subT) (dCons (dVar (TT K) 2) (dCons (dC (TT K) (.ty "int")) dNil))) (dAndV (dNotV (dCall (rIsi1 cnT ownT subT) (dCons (dVar (TT K) 2) (dCons (dC (TT K) (.ty "bool")) dNil)))) (dChain rLe rLe (dC (TT K) (.int 1)) (dVar (TT K) 2) (dC (TT K) (.int 8))))))
theorem times_step {m d : D PO} {E : En (TT K)} {s0 : Option (Sl PO)} {cs : Cs (TT K)} (hm : askD m = true) (h : E.nx [s0, some (.dat d), some (.dat m), some (.dat (.bl (wholeD m 1 8))), none, none] cs) : tT K E [s0, some (.dat d), some (.dat m), none, none, none] cs := by
  cases m with
  | int i =>
    have h : E.nx [s0, some (.dat d), some (.dat (.int i)), some (.dat (.bl (decide ((1 : Int) ≤ i) && decide (i ≤ 8)))), none, none] cs := h
    refine Br.of (fun h1 => ?_) (fun h1 => ?_)
    · have h1 : decide ((1 : Int) ≤ i) = true := h1
      rw [h1, Bool.true_and] at h; exact h
    · have h1 : decide ((1 : Int) ≤ i) = false := h1
      rw [h1, Bool.false_and] at h; exact h
  | obj o =>
    cases o with
    | base p => cases p with
      | grp ov ps => cases ov <;> exact h
      | _ => exact h
    | _ => cases hm
  | ty n => cases hm
  | cls n => cases hm
  | ptr n => cases hm
  | _ => exact h
theorem str_at {g : G (TT K)} {cs : Cs (TT K)} {Q : Sl PO → Cs (TT K) → Prop} {d : D PO} {z : Str} (hg : g[1]? = some (some (.dat d))) (zf : ∀ {K : PySem.W.Frag} (k : D PO → Prop), k (.str z) → fStrD (T := TT K) d k) (h : Q (.dat (.str z)) cs) : dCall (r1 (fStrD (T := TT K))) (dCons (dVar (TT K) 1) dNil) g cs Q := by
  refine var_step hg ?_
  exact zf (fun d' => Q (.dat d') cs) h
theorem view_str {cs : Cs (TT K)} {d : D PO} {z : Str} {k : D PO → Prop} (zf : ∀ {K : PySem.W.Frag} (k : D PO → Prop), k (.str z) → fStrD (T := TT K) d k) (h : k (.str z)) : onViews (T := TT K) cs [Sl.dat d] fun ds => r1 (fStrD (T := TT K)) ds k := zf (K := K) k h
theorem ats {g : G (TT K)} {cs : Cs (TT K)} {Q : Sl PO → Cs (TT K) → Prop} {d : D PO} {z : Str} (hg : g[1]? = some (some (.dat d))) (zl : z.length ≤ 1000) (zf : ∀ {K : PySem.W.Frag} (k : D PO → Prop), k (.str z) → fStrD (T := TT K) d k) (h : Q (.dat (.lst [okB ("@" ++ z), okB ("@" ++ z)])) cs) :
    dOp rMul (dLst (dCons (dLst (dCons (dOp rAdd (dC (TT K) (.str "@")) (dCall (r1 (fStrD (T := TT K))) (dCons (dVar (TT K) 1) dNil))) (dCons (dC (TT K) (.int 0)) dNil))) dNil)) (dC (TT K) (.int 2)) g cs Q := by
  have e1 : ("@" : Str).length = 1 := by decide +kernel
  dsimp only [dOp, dLst, dCons, dC, dCall]
  refine var_step hg ?_
  dsimp only [dNil]
  refine view_str zf ?_
  exact ⟨by rw [e1, sizeLine_eq]; omega, by show 2 ≤ sizeLine; decide, by show 1 ≤ sizeLine; decide, ⟨by decide, by decide, by show 1 * 2 ≤ sizeLine; decide⟩, h⟩
theorem due_step {c : Cell PO} {n : Nat} {d m : D PO} {x : Xd (TT K)} {q : D PO → List (Cell PO) → Prop} (hd : WdOk d) (hm : MnOk m) (hp : PenN n c) (hq : q (.bl true) [c]) :
    tD K x (enW 1 [qR] q) [some (.own 0), some (.dat d), some (.dat m), some (.dat (.bl (wholeD m 1 8))), none, none] [c, .tab qR] := by
  obtain ⟨z, zl, zs, zf⟩ := hd.st
  have e1 : ("@" : Str).length = 1 := by decide +kernel
  have z1 : 1 ≤ sizeLine := by decide
  have z2 : 2 ≤ sizeLine := by decide
  have fin : ∀ (s3 : Option (Sl PO)) (a : D PO), (a = if wholeD m 1 8 = true then .lst [d, .int 0] else tmB m) →
      (dSeq (dIf (dNot (dTru (dCallP (sd__law_is_name (K := K)) x (dCons (dVar (TT K) 1) dNil)))) (dSet 4 (dOp rMul (dLst (dCons (dTup (dCons (dC (TT K) (.str "name")) (dCons (dVar (TT K) 1) dNil))) dNil)) (dC (TT K) (.int 5)))) dNx) (tR K x)) (enW 1 [qR] q) [some (.own 0), some (.dat d), some (.dat m), s3, some (.dat (.lst [a, a, .lst [d, .int 0], okB ("@" ++ z), okB ("@" ++ z)])), none] [c, .tab qR] := fun s3 a ha => by
    refine ⟨hd.ask, fun z e => Nat.le_trans (hd.len z e).1 (by decide), ?_⟩
    refine Br.of (fun h1 => ?_) (fun h1 => ?_)
    · have h1 : (!nameD d) = true := h1
      exact ⟨z2, z1, ⟨by decide, by decide, by show 1 * 5 ≤ sizeLine; decide⟩, right_no (x := x) hd hm (by simpa using h1) hp hq⟩
    · have h1 : (!nameD d) = false := h1
      obtain ⟨s, rfl, hs⟩ := name_D (by simpa using h1)
      rw [zs s rfl]
      exact right_ok (x := x) hs hm ha hp hq
  cases hb : wholeD m 1 8
  · rw [hb] at fin
    refine ⟨z2, z1, ⟨by decide, by decide, by show 1 * 2 ≤ sizeLine; decide⟩, z2, z1, by show 2 + 1 ≤ sizeLine; decide, ?_⟩
    refine ats rfl zl zf ?_
    exact ⟨by show 3 + 2 ≤ sizeLine; decide, fin _ _ rfl⟩
  · rw [hb] at fin
    refine ⟨z2, z1, ⟨by decide, by decide, by show 1 * 2 ≤ sizeLine; decide⟩, z2, z1, by show 2 + 1 ≤ sizeLine; decide, ?_⟩
    refine ats rfl zl zf ?_
    exact ⟨by show 3 + 2 ≤ sizeLine; decide, fin _ _ rfl⟩
def sd__law_right : SpW (TT K) := fun cs ds q _ => match cs, ds with
  | [c], [] => ∃ n : Nat, PenN n c ∧ n ≤ 70000 ∧ ∀ c', PenN (n + 14) c' → q (.bl true) [c']
  | _, _ => False
theorem hs__law_right (cs : List (Cell PO)) (ds : List (D PO)) (q : D PO → List (Cell PO) → Prop) (x : Xd (TT K)) (h : sd__law_right (K := K) cs ds q x) :
    t__law_right K sd__law_word sd__law_pick sd__law_draw sd__law_is_name sdC_Kind sdC_Use x (enW 1 [qR] q) (startG N__law_right (ownSl 1 ++ ds.map .dat)) (cs ++ [.tab qR]) := by
  match cs, ds, h with
  | [c], [], ⟨n, hp, hn, hq⟩ =>
    refine ⟨hp.ng, n, hp, by omega, fun d c1 hd hp1 => ⟨hp1.ng, hp1.ng, n + 12, hp1, by omega, by decide, by decide, fun z c2 z0 z1 hp2 => ⟨hp2.ng, ?_⟩⟩⟩
    have z1 : z < 8 := z1
    refine ⟨by show 1 ≤ sizeLine; decide, ⟨by decide, by decide, by decide⟩, by show 12 ≤ sizeLine; decide, hp2.ng, n + 12 + 1, hp2, by omega, by show 1 ≤ 12; decide, by show 12 ≤ 100000; decide, fun m hm c3 hp3 => ⟨hp3.ng, ?_⟩⟩
    have hm : m ∈ [D.int 1, .int 2, .int 8, .int (1 + z), .int 0, .int 9, .int (-1), .bl true, .non, .str "1", .tup [.int 1], .int (10 ^ 40)] := hm
    have mo : MnOk m := by
      simp only [List.mem_cons, List.not_mem_nil, or_false] at hm
      rcases hm with rfl | rfl | rfl | rfl | rfl | rfl | rfl | rfl | rfl | rfl | rfl | rfl
      case inr.inr.inr.inl =>
        exact ⟨rfl, .int (1 + z), rfl, ElX.mono ⟨(el_int (i := 1 + z) (by omega) (by omega)).1.1, (el_int (i := 1 + z) (by omega) (by omega)).1.2.1⟩ (by decide), Nat.le_trans (el_int (i := 1 + z) (by omega) (by omega)).2 (by decide)⟩
      all_goals exact ⟨rfl, _, rfl, ⟨by decide +kernel, by decide +kernel⟩, by decide +kernel⟩
    exact times_step mo.ask (due_step (x := x) hd mo hp3 (hq c3 hp3))
end
end H1
set_option Elab.async false
set_option linter.all false
set_option maxRecDepth 100000
set_option maxHeartbeats 1000000
/-! What is equal. -/
namespace H1
open PySem PySem.Spec PyProof.Rows L2 Ev Dl RpX LamX
section
variable {K : PySem.W.Frag}
def tl_eq (K : PySem.W.Frag) (sd__law_pick : SpO (TT K)) (sd__law_draw : SpO (TT K)) (sdC_Kind : SpN (TT K)) (sdC_Use : SpN (TT K)) (sdC_Byte : SpN (TT K)) (oeP : PO → D PO → Option Bool) (xd : Xd (TT K)) : TDS (TT K) := (dSeq (dIf (dTest (dOp rNeA (dLst (dCons (dFld atT (dVar (TT K) 6) "name") (dCons (dFld atT (dVar (TT K) 6) "times") (dCons (dFld atT (dNew sdC_Kind xd dfl_Kind_1 (dCons (dVar (TT K) 2) dNil)) "times") (dCons (dFld atT (dNew sdC_Use xd dfl_Use_1 (dCons (dVar (TT K) 2) dNil)) "name") dNil))))) (dLst (dCons (dVar (TT K) 2) (dCons (dVar (TT K) 4) (dCons (dC (TT K) (.int 1)) (dCons (dVar (TT K) 2) dNil))))))) (dRet (dC (TT K) (.bl false))) dNx) (dSeq (dSet 8 (dAndV (dOp rEqA (dVar (TT K) 2) (dVar (TT K) 3)) (dOp rEqA (dVar (TT K) 4) (dVar (TT K) 5)))) (dSeq (dSet 9 (dLst (dCons (dOp (rEqX (T := TT K) oeP) (dVar (TT K) 6) (dVar (TT K) 7)) (dCons (dOp (rNeX (T := TT K) oeP) (dVar (TT K) 6) (dVar (TT K) 7)) (dCons (dOp (rEqX (T := TT K) oeP) (dNew sdC_Use xd dfl_Use_1 (dCons (dVar (TT K) 2) dNil)) (dNew sdC_Use xd dfl_Use_1 (dCons (dVar (TT K) 3) dNil))) (dCons (dOp (rEqX (T := TT K) oeP) (dNew sdC_Byte xd dfl_Byte_0 dNil) (dNew sdC_Byte xd dfl_Byte_0 dNil)) (dCons (dOp (rNeX (T := TT K) oeP) (dNew sdC_Byte xd dfl_Byte_0 dNil) (dNew sdC_Byte xd dfl_Byte_0 dNil)) dNil))))))) (dSeq (dIf (dTest (dOp rNeA (dCall (r1 (fReprX (T := TT K))) (dCons (dVar (TT K) 9) dNil)) (dCall (r1 (fReprX (T := TT K))) (dCons (dLst (dCons (dVar (TT K) 8) (dCons (dNotV (dVar (TT K) 8)) (dCons (dOp rEqA (dVar (TT K) 2) (dVar (TT K) 3)) (dCons (dC (TT K) (.bl true)) (dCons (dC (TT K) (.bl false)) dNil)))))) dNil)))) (dRet (dC (TT K) (.bl false))) dNx) (dSeq (dSet 10 (dLst (dCons (dVar (TT K) 2) (dCons (dTup (dCons (dVar (TT K) 2) (dCons (dVar (TT K) 4) dNil))) (dCons (dC (TT K) .non) (dCons (dC (TT K) (.int 1)) (dCons (dC (TT K) (.str "byte")) (dCons (dNew sdC_Use xd dfl_Use_1 (dCons (dVar (TT K) 2) dNil)) (dCons (dNew sdC_Byte xd dfl_Byte_0 dNil) dNil))))))))) (dSeq (dIf (dTest (dOp (rNeZ (T := TT K)) (dLc (dItL (dVar (TT K) 10)) (dName 11) (dTest (dOp (rEqX (T := TT K) oeP) (dVar (TT K) 6) (dVar (TT K) 11))) (dVar (TT K) 11) [11]) (dLst dNil))) (dRet (dC (TT K) (.bl false))) dNx) (dSeq (dSet 10 (dLst (dCons (dVar (TT K) 2) (dCons (dVar (TT K) 6) (dCons (dNew sdC_Byte xd dfl_Byte_0 dNil) (dCons (dOp rAdd (dC (TT K) (.str "@")) (dVar (TT K) 2)) dNil)))))) (dRet (dAndV (dOp (rEqZ (T := TT K)) (dLc (dItL (dVar (TT K) 10)) (dName 11) (dTest (dOp (rEqX (T := TT K) oeP) (dNew sdC_Use (noX (TT K)) dfl_Use_1 (dCons (dVar (TT K) 2) dNil)) (dVar (TT K) 11))) (dVar (TT K) 11) [11]) (dLst dNil)) (dOp rEqA (dFld atT (dNew sdC_Byte xd dfl_Byte_0 dNil) "depth") (dC (TT K) (.int 0))))))))))))
def tl_eq8 (K : PySem.W.Frag) (sd__law_pick : SpO (TT K)) (sd__law_draw : SpO (TT K)) (sdC_Kind : SpN (TT K)) (sdC_Use : SpN (TT K)) (sdC_Byte : SpN (TT K)) (oeP : PO → D PO → Option Bool) (xd : Xd (TT K)) : TDS (TT K) := (dSeq (dSet 8 (dAndV (dOp rEqA (dVar (TT K) 2) (dVar (TT K) 3)) (dOp rEqA (dVar (TT K) 4) (dVar (TT K) 5)))) (dSeq (dSet 9 (dLst (dCons (dOp (rEqX (T := TT K) oeP) (dVar (TT K) 6) (dVar (TT K) 7)) (dCons (dOp (rNeX (T := TT K) oeP) (dVar (TT K) 6) (dVar (TT K) 7)) (dCons (dOp (rEqX (T := TT K) oeP) (dNew sdC_Use xd dfl_Use_1 (dCons (dVar (TT K) 2) dNil)) (dNew sdC_Use xd dfl_Use_1 (dCons (dVar (TT K) 3) dNil))) (dCons (dOp (rEqX (T := TT K) oeP) (dNew sdC_Byte xd dfl_Byte_0 dNil) (dNew sdC_Byte xd dfl_Byte_0 dNil)) (dCons (dOp (rNeX (T := TT K) oeP) (dNew sdC_Byte xd dfl_Byte_0 dNil) (dNew sdC_Byte xd dfl_Byte_0 dNil)) dNil))))))) (dSeq (dIf (dTest (dOp rNeA (dCall (r1 (fReprX (T := TT K))) (dCons (dVar (TT K) 9) dNil)) (dCall (r1 (fReprX (T := TT K))) (dCons (dLst (dCons (dVar (TT K) 8) (dCons (dNotV (dVar (TT K) 8)) (dCons (dOp rEqA (dVar (TT K) 2) (dVar (TT K) 3)) (dCons (dC (TT K) (.bl true)) (dCons (dC (TT K) (.bl false)) dNil)))))) dNil)))) (dRet (dC (TT K) (.bl false))) dNx) (dSeq (dSet 10 (dLst (dCons (dVar (TT K) 2) (dCons (dTup (dCons (dVar (TT K) 2) (dCons (dVar (TT K) 4) dNil))) (dCons (dC (TT K) .non) (dCons (dC (TT K) (.int 1)) (dCons (dC (TT K) (.str "byte")) (dCons (dNew sdC_Use xd dfl_Use_1 (dCons (dVar (TT K) 2) dNil)) (dCons (dNew sdC_Byte xd dfl_Byte_0 dNil) dNil))))))))) (dSeq (dIf (dTest (dOp (rNeZ (T := TT K)) (dLc (dItL (dVar (TT K) 10)) (dName 11) (dTest (dOp (rEqX (T := TT K) oeP) (dVar (TT K) 6) (dVar (TT K) 11))) (dVar (TT K) 11) [11]) (dLst dNil))) (dRet (dC (TT K) (.bl false))) dNx) (dSeq (dSet 10 (dLst (dCons (dVar (TT K) 2) (dCons (dVar (TT K) 6) (dCons (dNew sdC_Byte xd dfl_Byte_0 dNil) (dCons (dOp rAdd (dC (TT K) (.str "@")) (dVar (TT K) 2)) dNil)))))) (dRet (dAndV (dOp (rEqZ (T := TT K)) (dLc (dItL (dVar (TT K) 10)) (dName 11) (dTest (dOp (rEqX (T := TT K) oeP) (dNew sdC_Use (noX (TT K)) dfl_Use_1 (dCons (dVar (TT K) 2) dNil)) (dVar (TT K) 11))) (dVar (TT K) 11) [11]) (dLst dNil)) (dOp rEqA (dFld atT (dNew sdC_Byte xd dfl_Byte_0 dNil) "depth") (dC (TT K) (.int 0)))))))))))
def tl_eq10 (K : PySem.W.Frag) (sd__law_pick : SpO (TT K)) (sd__law_draw : SpO (TT K)) (sdC_Kind : SpN (TT K)) (sdC_Use : SpN (TT K)) (sdC_Byte : SpN (TT K)) (oeP : PO → D PO → Option Bool) (xd : Xd (TT K)) : TDS (TT K) := (dSeq (dSet 10 (dLst (dCons (dVar (TT K) 2) (dCons (dTup (dCons (dVar (TT K) 2) (dCons (dVar (TT K) 4) dNil))) (dCons (dC (TT K) .non) (dCons (dC (TT K) (.int 1)) (dCons (dC (TT K) (.str "byte")) (dCons (dNew sdC_Use xd dfl_Use_1 (dCons (dVar (TT K) 2) dNil)) (dCons (dNew sdC_Byte xd dfl_Byte_0 dNil) dNil))))))))) (dSeq (dIf (dTest (dOp (rNeZ (T := TT K)) (dLc (dItL (dVar (TT K) 10)) (dName 11) (dTest (dOp (rEqX (T := TT K) oeP) (dVar (TT K) 6) (dVar (TT K) 11))) (dVar (TT K) 11) [11]) (dLst dNil))) (dRet (dC (TT K) (.bl false))) dNx) (dSeq (dSet 10 (dLst (dCons (dVar (TT K) 2) (dCons (dVar (TT K) 6) (dCons (dNew sdC_Byte xd dfl_Byte_0 dNil) (dCons (dOp rAdd (dC (TT K) (.str "@")) (dVar (TT K) 2)) dNil)))))) (dRet (dAndV (dOp (rEqZ (T := TT K)) (dLc (dItL (dVar (TT K) 10)) (dName 11) (dTest (dOp (rEqX (T := TT K) oeP) (dNew sdC_Use (noX (TT K)) dfl_Use_1 (dCons (dVar (TT K) 2) dNil)) (dVar (TT K) 11))) (dVar (TT K) 11) [11]) (dLst dNil)) (dOp rEqA (dFld atT (dNew sdC_Byte xd dfl_Byte_0 dNil) "depth") (dC (TT K) (.int 0))))))))
abbrev tE1 (K : PySem.W.Frag) : Xd (TT K) → TDS (TT K) := tl_eq K sd__law_pick sd__law_draw sdC_Kind sdC_Use sdC_Byte (oeW 5)
abbrev tE8 (K : PySem.W.Frag) : Xd (TT K) → TDS (TT K) := tl_eq8 K sd__law_pick sd__law_draw sdC_Kind sdC_Use sdC_Byte (oeW 5)
abbrev tE10 (K : PySem.W.Frag) : Xd (TT K) → TDS (TT K) := tl_eq10 K sd__law_pick sd__law_draw sdC_Kind sdC_Use sdC_Byte (oeW 5)
abbrev kd (s : Str) (i : Int) : D PO := .obj (.base (.kind s i.toNat))
structure Nm (s : Str) : Prop where
  ok : nmS s = true
structure Tm (i : Int) : Prop where
  lo : 1 ≤ i
  hi : i ≤ 8
theorem Nm.d {s : Str} (h : Nm s) : nameD (D.str (O := PO) s) = true := h.ok
theorem Tm.w {i : Int} (h : Tm i) : wholeD (D.int (O := PO) i) 1 8 = true := by
  show (decide ((1 : Int) ≤ i) && decide (i ≤ 8)) = true
  rw [decide_eq_true h.lo, decide_eq_true h.hi]; rfl
theorem w1 : wholeD (D.int (O := PO) 1) 1 8 = true := by decide +kernel
theorem eq10 {c : Cell PO} {n : Nat} {s s' : Str} {i j : Int} {x : Xd (TT K)} {q : D PO → Cell PO → Prop} {s1 s7 s8 s9 s11 : Option (Sl PO)} (hs : Nm s) (hi : Tm i) (hp : PenN n c) (hq : q (.bl true) c) :
    tE10 K x (enO q) [some (.own 0), s1, some (.dat (.str s)), some (.dat (.str s')), some (.dat (.int i)), some (.dat (.int j)), some (.dat (kd s i)), s7, s8, s9, none, s11] [c] := by
  refine ⟨by show 2 ≤ sizeLine; decide, rfl, ?_⟩
  rw [if_pos hs.d]
  refine ⟨by show 7 ≤ sizeLine; decide, by show 7 ≤ sizeLine; decide, ?_⟩
  refine ⟨false, rfl, false, rfl, false, rfl, false, rfl, false, rfl, false, rfl, false, rfl, ?_⟩
  have e1 : ("@" : Str).length = 1 := by decide +kernel
  have sl := (nm_len hs.ok).2
  refine ⟨Nat.zero_le _, by rw [e1, sizeLine_eq]; omega, by show 4 ≤ sizeLine; decide, by show 4 ≤ sizeLine; decide, rfl, ?_⟩
  rw [if_pos hs.d]
  refine ⟨false, rfl, rfl, ?_⟩
  rw [if_pos hs.d]
  refine ⟨false, rfl, rfl, ?_⟩
  rw [if_pos hs.d]
  refine ⟨false, rfl, rfl, ?_⟩
  rw [if_pos hs.d]
  refine ⟨false, rfl, Nat.zero_le _, ?_⟩
  obtain ⟨xs, t, y, rfl, _⟩ := hp
  exact hq
theorem eq8 {c : Cell PO} {n : Nat} {s s' : Str} {i j : Int} {x : Xd (TT K)} {q : D PO → Cell PO → Prop} {s1 : Option (Sl PO)} (hs : Nm s) (hs' : Nm s') (hi : Tm i) (hj : Tm j) (hp : PenN n c) (hq : q (.bl true) c) :
    tE8 K x (enO q) [some (.own 0), s1, some (.dat (.str s)), some (.dat (.str s')), some (.dat (.int i)), some (.dat (.int j)), some (.dat (kd s i)), some (.dat (kd s' j)), none, none, none, none] [c] := by
  have hb : ∀ b : Bool, RX 10 0 (D.bl (O := PO) b) := fun b => ⟨.bool b, rfl, ⟨rfl, by cases b <;> decide +kernel⟩, by cases b <;> decide +kernel⟩
  have ij : (i.toNat == j.toNat) = (i == j) := by
    have := hi.lo; have := hj.lo
    by_cases e : i = j
    · subst e; rw [beq_self_eq_true, beq_self_eq_true]
    · rw [beq_false_of_ne e, beq_false_of_ne (by omega)]
  have rest : ∀ due : Bool, due = ((s == s') && (i.toNat == j.toNat)) → (dSeq (dSet 9 (dLst (dCons (dOp (rEqX (T := TT K) (oeW 5)) (dVar (TT K) 6) (dVar (TT K) 7)) (dCons (dOp (rNeX (T := TT K) (oeW 5)) (dVar (TT K) 6) (dVar (TT K) 7)) (dCons (dOp (rEqX (T := TT K) (oeW 5)) (dNew (sdC_Use (K := K)) x dfl_Use_1 (dCons (dVar (TT K) 2) dNil)) (dNew sdC_Use x dfl_Use_1 (dCons (dVar (TT K) 3) dNil))) (dCons (dOp (rEqX (T := TT K) (oeW 5)) (dNew sdC_Byte x dfl_Byte_0 dNil) (dNew sdC_Byte x dfl_Byte_0 dNil)) (dCons (dOp (rNeX (T := TT K) (oeW 5)) (dNew sdC_Byte x dfl_Byte_0 dNil) (dNew sdC_Byte x dfl_Byte_0 dNil)) dNil))))))) (dSeq (dIf (dTest (dOp rNeA (dCall (r1 (fReprX (T := TT K))) (dCons (dVar (TT K) 9) dNil)) (dCall (r1 (fReprX (T := TT K))) (dCons (dLst (dCons (dVar (TT K) 8) (dCons (dNotV (dVar (TT K) 8)) (dCons (dOp rEqA (dVar (TT K) 2) (dVar (TT K) 3)) (dCons (dC (TT K) (.bl true)) (dCons (dC (TT K) (.bl false)) dNil)))))) dNil)))) (dRet (dC (TT K) (.bl false))) dNx) (tE10 K x))) (enO q) [some (.own 0), s1, some (.dat (.str s)), some (.dat (.str s')), some (.dat (.int i)), some (.dat (.int j)), some (.dat (kd s i)), some (.dat (kd s' j)), some (.dat (.bl due)), none, none, none] [c] := fun due hdue => by
    refine ⟨_, rfl, _, rfl, rfl, ?_⟩
    rw [if_pos hs.d]
    refine ⟨rfl, ?_⟩
    rw [if_pos hs'.d]
    refine ⟨_, rfl, _, rfl, _, rfl, by show 5 ≤ sizeLine; decide, ?_⟩
    subst hdue
    obtain ⟨z, w1, w2, w3, w4⟩ : ShOk (D.lst [.bl ((s == s') && (i.toNat == j.toNat)), .bl (!((s == s') && (i.toNat == j.toNat))), .bl (s == s'), .bl true, .bl false]) := (RX.lst (B := 10) (n := 0) (ds := [.bl ((s == s') && (i.toNat == j.toNat)), .bl (!((s == s') && (i.toNat == j.toNat))), .bl (s == s'), .bl true, .bl false]) (fun e he => by
      simp only [List.mem_cons, List.not_mem_nil, or_false] at he
      rcases he with rfl | rfl | rfl | rfl | rfl <;> exact hb _) (by decide)).sh (by show 12 * 5 + 2 ≤ 100000; decide) (by decide)
    have w3 : z.shown.length ≤ sizeLine := Nat.le_trans w3 (by rw [sizeLine_eq]; omega)
    refine ⟨z, w1, w2, w3, w4, by show 5 ≤ sizeLine; decide, z, w1, w2, w3, w4, ?_⟩
    refine Br.of (fun h1 => absurd (show (!(z.shown == z.shown)) = true from h1) (by rw [beq_self_eq_true]; simp)) (fun _ => ?_)
    exact eq10 (x := x) hs hi hp hq
  refine Br.of (fun h1 => ?_) (fun h1 => ?_)
  · have h1 : (s == s') = true := h1
    exact rest (i == j) (by rw [h1, Bool.true_and, ij])
  · have h1 : (s == s') = false := h1
    exact rest false (by rw [h1, Bool.false_and])
end
end H1
set_option Elab.async false
set_option linter.all false
set_option maxRecDepth 100000
set_option maxHeartbeats 1000000
/-! What is equal: the whole. -/
namespace H1
open PySem PySem.Spec PyProof.Rows L2 Ev Dl RpX LamX
section
variable {K : PySem.W.Frag}
theorem toNat_int {i : Int} (h : Tm i) : ((i.toNat : Nat) : Int) = i := by have := h.lo; omega
theorem eq1 {c : Cell PO} {n : Nat} {s s' : Str} {i j : Int} {x : Xd (TT K)} {q : D PO → Cell PO → Prop} {s1 : Option (Sl PO)} (hs : Nm s) (hs' : Nm s') (hi : Tm i) (hj : Tm j) (hp : PenN n c) (hq : q (.bl true) c) :
    tE1 K x (enO q) [some (.own 0), s1, some (.dat (.str s)), some (.dat (.str s')), some (.dat (.int i)), some (.dat (.int j)), some (.dat (kd s i)), some (.dat (kd s' j)), none, none, none, none] [c] := by
  have rp : Rp 1000 1 (D.lst (O := PO) [.str s, .int i, .int 1, .str s]) := (Rp.lst (B := 100) (n := 0) (ds := [.str s, .int i, .int 1, .str s]) (fun e he => by
    have r1 : Rp 100 0 (D.str (O := PO) s) := (Rp.str (CharOk.name hs.ok) (n := 8) (nm_len hs.ok).2).mono (by decide) (Nat.le_refl _)
    have r2 : ∀ i : Int, Tm i → Rp 100 0 (D.int (O := PO) i) := fun i h => (Rp.int (by have := h.lo; omega) (by have := h.hi; have := h.lo; omega)).mono (by decide) (Nat.le_refl _)
    simp only [List.mem_cons, List.not_mem_nil, or_false] at he
    rcases he with rfl | rfl | rfl | rfl
    · exact r1
    · exact r2 _ hi
    · exact r2 _ ⟨by decide, by decide⟩
    · exact r1) (by decide)).mono (by show 102 * 4 + 2 ≤ 1000; decide) (by decide)
  refine ⟨rfl, rfl, ?_⟩
  rw [if_pos hs.d, if_pos w1]
  refine ⟨rfl, ?_⟩
  rw [if_pos hs.d]
  refine ⟨by show 4 ≤ sizeLine; decide, by show 4 ≤ sizeLine; decide, ?_⟩
  obtain ⟨p, e, sh⟩ := rp.shaped (by decide)
  have e2 : toPy (D.lst (O := PO) [.str s, .int ((i.toNat : Nat) : Int), .int 1, .str s]) = some p := by rw [toNat_int hi]; exact e
  refine ⟨p, p, e2, e, sh, sh, ?_⟩
  refine Br.of (fun h1 => absurd (show (!PyData.eqv p p) = true from h1) (by rw [SeqAt.eqv_refl p (SeqAt.canLay_of_shaped sh)]; simp)) (fun _ => ?_)
  exact eq8 (x := x) hs hs' hi hj hp hq
def sd__law_equal_right : SpO (TT K) := fun c ds q _ => match ds with
  | [] => ∃ n : Nat, PenN n c ∧ n ≤ 70000 ∧ ∀ c', PenN (n + 4) c' → q (.bl true) c'
  | _ => False
theorem hs__law_equal_right (c : Cell PO) (ds : List (D PO)) (q : D PO → Cell PO → Prop) (x : Xd (TT K)) (h : sd__law_equal_right (K := K) c ds q x) : t__law_equal_right K sd__law_pick sd__law_draw sdC_Kind sdC_Use sdC_Byte (oeW 5) x (enO q) (startG N__law_equal_right (.own 0 :: ds.map .dat)) [c] := by
  match ds, h with
  | [], ⟨n, hp, hn, hq⟩ =>
    have nm : ∀ d : D PO, d ∈ [D.str "a", .str "b", .str "ab", .str "zzzzzzzz"] → ∃ s, d = .str s ∧ Nm s := fun d hd => by
      simp only [List.mem_cons, List.not_mem_nil, or_false] at hd
      rcases hd with rfl | rfl | rfl | rfl <;> exact ⟨_, rfl, ⟨by decide +kernel⟩⟩
    refine ⟨by show 4 ≤ sizeLine; decide, hp.ng, n, hp, by omega, by show 1 ≤ 4; decide, by show 4 ≤ 100000; decide, fun d hd c1 hp1 => ⟨hp1.ng, hp1.ng, n + 1, hp1, by omega, by show 1 ≤ 4; decide, by show 4 ≤ 100000; decide, fun e he c2 hp2 => ⟨hp2.ng, ?_⟩⟩⟩
    obtain ⟨s, rfl, hs⟩ := nm d hd
    obtain ⟨s', rfl, hs'⟩ := nm e he
    refine ⟨by show 2 ≤ sizeLine; decide, rfl, hp2.ng, n + 2, hp2, by omega, by decide, by decide, fun y c3 y0 y1 hp3 => ⟨hp3.ng, hp3.ng, n + 3, hp3, by omega, by decide, by decide, fun z c4 z0 z1 hp4 => ⟨hp4.ng, ?_⟩⟩⟩
    have y1 : y < 3 := y1
    have z1 : z < 3 := z1
    have ty : Tm (1 + y) := ⟨by omega, by omega⟩
    have tz : Tm (1 + z) := ⟨by omega, by omega⟩
    refine ⟨rfl, rfl, ?_⟩
    show (if nameD (D.str (O := PO) s) = true then _ else _)
    rw [if_pos hs.d]
    show (if wholeD (D.int (O := PO) (1 + y)) 1 8 = true then _ else _)
    rw [if_pos ty.w]
    refine ⟨rfl, rfl, ?_⟩
    show (if nameD (D.str (O := PO) s') = true then _ else _)
    rw [if_pos hs'.d]
    show (if wholeD (D.int (O := PO) (1 + z)) 1 8 = true then _ else _)
    rw [if_pos tz.w]
    refine ⟨by show 2 ≤ sizeLine; decide, rfl, ?_⟩
    exact eq1 (x := x) hs hs' ty tz hp4 (hq c4 hp4)
end
end H1
set_option Elab.async false
set_option linter.all false
set_option maxRecDepth 100000
set_option maxHeartbeats 1000000
/-! The law's body. -/
namespace H1
open PySem PySem.Spec PyProof.Rows L2 Ev Dl RpX LamX
def tl_law (K : PySem.W.Frag) (sd__law_pen : SpNw (TT K)) (sd__law_right : SpW (TT K)) (sd__law_equal_right : SpO (TT K)) (sdC_Byte : SpN (TT K)) (soP : PO → Option (D PO)) (xd : Xd (TT K)) : TDS (TT K) := (dSeq (dFor (dIt1 (dC (TT K) (.int 10)) (fRng (T := TT K))) (dName 2) (lb_law_1 K sd__law_pen sd__law_right sd__law_equal_right sdC_Byte soP xd)) (dRet (dOp rEqA (dCall (r1 (fStrX (T := TT K) soP)) (dCons (dNew sdC_Byte xd dfl_Byte_0 dNil) dNil)) (dC (TT K) (.str "byte")))))
section
variable {K : PySem.W.Frag}
abbrev tL (K : PySem.W.Frag) : Xd (TT K) → TDS (TT K) := tl_law K sd__law_pen sd__law_right sd__law_equal_right sdC_Byte soT
abbrev lb1 (K : PySem.W.Frag) : Xd (TT K) → TDS (TT K) := lb_law_1 K sd__law_pen sd__law_right sd__law_equal_right sdC_Byte soT
theorem law_turn {n : Nat} {c : Cell PO} {x : Xd (TT K)} {E : En (TT K)} {s0 s2 : Option (Sl PO)} (hp : PenN n c) (hn : n ≤ 40000)
    (hE : ∀ (c' : Cell PO), PenN (n + 20) c' → E.nx [s0, some (.own 1), s2] [.tab qR, c']) :
    lb1 K x E [s0, some (.own 1), s2] [.tab qR, c] := by
  refine ⟨⟨rfl, trivial⟩, .inr (by decide), hp.ng, n, hp, by omega, fun c2 hp2 => ?_⟩
  refine ⟨hp2.ng, n + 14, hp2, by omega, fun c3 hp3 => ⟨hp3.ng, ?_⟩⟩
  exact hE c3 (hp3.mono (by omega))
theorem hs_law_tail {q : D PO → List (Cell PO) → Prop} {x : Xd (TT K)} {s0 : Option (Sl PO)} {c0 : Cell PO} (hp0 : PenN 0 c0) (hq : q (.bl true) []) :
    tL K x (enW 0 [qR] q) [s0, some (.own 1), none] [.tab qR, c0] := by
  refine ⟨⟨by decide, by decide⟩, ?_⟩
  have el : (rangeD (O := PO) 0 10).length = 10 := rfl
  refine forD_inv (T := TT K) (fun ds g cs => ∃ s2 c n, g = [s0, some (.own 1), s2] ∧ cs = [.tab qR, c] ∧ PenN n c ∧ n + ds.length * 20 ≤ 200) ?_ ?_ _ _ _ ⟨_, c0, 0, rfl, rfl, hp0, by rw [el]; decide⟩
  · rintro d ds g cs ⟨s2, c, n, rfl, rfl, hn, hl⟩ nx hnx
    have hl : n + (ds.length + 1) * 20 ≤ 200 := hl
    rw [Nat.succ_mul] at hl
    refine law_turn (K := K) hn (by omega) fun c' hp' => ?_
    exact hnx _ _ ⟨_, c', n + 20, rfl, rfl, hp', by omega⟩
  · rintro g cs ⟨s2, c, n, rfl, rfl, hn, hl⟩
    have e : (("byte" : Str) == ("byte" : Str)) = true := beq_self_eq_true _
    rw [← e] at hq
    exact ⟨_, rfl, rfl, hq⟩
end
end H1
set_option Elab.async false
set_option linter.all false
set_option maxRecDepth 100000
set_option maxHeartbeats 1000000
/-! A law's beginning: its script, its pen. -/
namespace Dl
open PySem PySem.Spec PyProof.Rows L2 Ev LamX
/-- what the law's pen is made of -/
def spScr (K : PySem.W.Frag) : Sp := fun vs H Q _ => ∃ (a : Addr) (ns : List Int), vs = [.ref a] ∧ SqL K H a (ns.map V.int) ∧ ns.length ≤ 63 ∧
  ∀ (p c : Addr) (ms : List Int) (H' : Hp), H p = none → H c = none → c ≠ p → Same H H' → H' p = some (.lst [.ref c, .int 0, .int 0]) → H' c = some (.lst (ms.map V.int)) → ms.length ≤ 63 → Q (.ref p) H'
/-- a law: True -/
def spLawS (K : PySem.W.Frag) (tl : List (Addr × Str)) : Sp := fun vs H Q _ => ∃ (a : Addr) (ns : List Int), vs = [.ref a] ∧ SqL K H a (ns.map V.int) ∧ ns.length ≤ 63 ∧ (tl.map (·.1)).Nodup ∧ (∀ p ∈ tl, TabS H p.1 p.2) ∧ ∀ H', Q (.bl true) H'
abbrev penC0 {O : Type} (ms : List Int) : Cell O := .lst [.lst (ms.map .int), .int 0, .int 0]
theorem repl_ints {K : PySem.W.Frag} {T : Th K} {h : Hp} : ∀ ms : List Int, RepL T h (ms.map V.int) (ms.map D.int)
  | [] => .nil
  | m :: ms => .cons (.int m) (repl_ints ms)
section
variable {P : Program} {w : World} {K : PySem.W.Frag} {mg : Str → Option Value} {base : Heap} {x qual : Str} {p : Str × Option Str} {params : Arguments} {body : List Stmt} {scope : Scope} {fd : FuncData} {N : List Str} {T : Th K} {ef : Str → List Str} {k : Nat}
theorem okLawG {tl : List (Addr × Str)} {t : TDS T} (F : FunD K x qual params body scope [] [] (He.fAd K p) fd) (S : FnScope N ["_law_script"] scope) (hb : Bnd x qual params body scope ["_law_script"])
    (hbody : ∀ (A : Around) (outer : List Env) (s : Shared) (H : Hp) (E : XK), A.guards = some [] → Room k (A.deeper (envOfC qual scope s.heap.objs.size (He.fAd K p) (.ref (He.codeOf K p)))) → ∀ B : Ba, TbAt B 0 tl →
      XP (cxR P w K mg base N qual scope (He.fAd K p) (.ref (He.codeOf K p)) A outer s H E) (T := T) ef B (noX T) →
      ∃ E0 : XK, PSs (cxR P w K mg base N qual scope (He.fAd K p) (.ref (He.codeOf K p)) A outer s H E) body (fun En σ H1 => tAsg (tCall (spScr K) [] E0 (tCons (tVar 0) tNil)) (gName 1) { En with nx := lS B t En } σ H1))
    (hs : ∀ (a : Addr) (ms : List Int), ms.length ≤ 63 → t (enW 0 (tl.map (·.2)) fun d _ => d = .bl true) ((startG N [.dat (.ptr a)]).set 1 (some (.own tl.length))) (tabC T tl ++ [penC0 ms])) :
    FnG P w K mg base (L2.CX P w) (k + 1) (He.fAd K p) (spLawS K tl) := by
  refine okGc F S hb (fun vs H Q E ⟨a, ns, e, _⟩ => by rw [e]; rfl) fun A outer s H vs Q E hg hr h => ?_
  obtain ⟨a, ns, rfl, hS, hl, nd, ht, hq⟩ := h
  let X : Cx := cxR P w K mg base N qual scope (He.fAd K p) (.ref (He.codeOf K p)) A outer s H E
  let B : Ba := ⟨[], (tl.map (·.1)).map some, H⟩
  have eo : ow B.as0 = tl.map (·.1) := ow_some _
  have tb : TbAt B 0 tl := by
    refine ⟨by show 0 + tl.length ≤ ((tl.map (·.1)).map some).length; simp, fun j t e p e' => ?_⟩
    have e' : ((tl.map (·.1)).map some)[0 + j]? = some (some p) := e'
    rw [Nat.zero_add, List.getElem?_map, List.getElem?_map, e] at e'
    cases e'
    rfl
  obtain ⟨E0, hp⟩ := hbody A outer s H E hg hr B tb (XP.no _ B)
  refine ⟨_, hp, ?_⟩
  refine ⟨.ref a, rfl, a, ns, rfl, hS, hl, fun p c ms H' hp hc ncp S' e1 e2 hl' => ?_⟩
  have lv : Live (tl.map (·.1)) H := fun b hb => by
    obtain ⟨q, hq', rfl⟩ := List.mem_map.mp hb
    obtain ⟨ps, h1, _⟩ := ht q hq'
    rw [h1]; trivial
  have lvo : Live ([] ++ ow B.as0) H := by rw [List.nil_append, eo]; exact lv
  have st0 : StC T B.Z B.as0 (tabC T tl) H := by
    refine ⟨by rw [eo]; exact nd, (fun p _ h => nomatch h), lvo, ?_⟩
    refine Paired.of_get (by show ((tl.map (·.1)).map some).length = (tabC T tl).length; simp) fun i o c e3 e4 => ?_
    have e3 : ((tl.map (·.1)).map some)[i]? = some o := e3
    rw [List.getElem?_map, List.getElem?_map] at e3
    rw [List.getElem?_map] at e4
    cases e5 : tl[i]? with
    | none => rw [e5] at e3; cases e3
    | some q =>
      rw [e5] at e3 e4
      cases e3
      cases e4
      exact cell_tab (X := X) (T := T) lvo (ht q (List.mem_of_getElem? e5))
  have env0 : EnvAt T B.as0 (hid (B.Z ++ ow B.as0) H) (startG N [.dat (.ptr a)]) (L2.start N [.ref a]) := env_start (.cons (.ptr a) .nil)
  have stt0 : Stt T B (startG N [.dat (.ptr a)]) B.as0 (tabC T tl) (L2.start N [.ref a]) H := ⟨st0, env0, ⟨Lk.refl _, fun _ _ _ e => e, fun _ x y => absurd x y⟩⟩
  have ce : CellAt T (hid (p :: (B.Z ++ ow B.as0)) H') H' (some p) (penC0 ms) := by
    refine ⟨_, e1, .cons (.lst ?_ (repl_ints ms)) (.cons (.int 0) (.cons (.int 0) .nil))⟩
    rw [hid_out]
    · exact e2
    · intro z
      rcases List.mem_cons.mp z with z | z
      · exact ncp z
      · exact (lvo c z).ne hc
  have ex := Ex.own2 (X := X) (T := T) (B := B) (as := B.as0) (cs := tabC T tl) (c := penC0 ms) st0 hp S' ce
  have stt1 := stt0.step ex
  refine ⟨(startG N [.dat (.ptr a)]).set 1 (some (.own tl.length)), _, _, _, ⟨stt1.c, stt1.e.set 1 ?_, stt1.k⟩, hs a ms hl', ⟨fun g cs h as' σ' H' st => ?_, fun d cs h v as' H' fi => ?_, fun _ _ h => h.elim, fun _ _ h => h.elim⟩⟩
  · have := own_slot (T := T) (as := B.as0) (h := hid (B.Z ++ ow (B.as0 ++ [some p])) H') (p := p)
    rw [show B.as0.length = tl.length by show ((tl.map (·.1)).map some).length = _; simp] at this
    exact this
  · obtain ⟨cs0, rest, _, _, _, hk⟩ := onW_of h
    cases hk
  · obtain ⟨cs0, rest, _, _, _, hk⟩ := onW_of h
    subst hk
    have r := fi.r
    cases r
    exact hq _
end
end Dl
set_option Elab.async false
set_option linter.all false
set_option maxRecDepth 100000
set_option maxHeartbeats 4000000
/-! The law's defs keep their promises; the law. -/
namespace H1
open PySem PySem.Spec PyProof.Rows L2 Ev Dl LamX
abbrev p_law : He.Defn := ("law", none)
abbrev bodyTail : List Stmt → List Stmt
  | _ :: r => r
  | [] => []
section
variable {P : Program} {w : World} {K : PySem.W.Frag} {mg : Str → Option Value} {base : Heap}
theorem D__law_pen (F : Fc P w K mg base) : DefP P w K mg base (L2.CX P w) 1 "_law_pen" ["_law_script"] (spScr K) := by
  obtain ⟨fd, FD⟩ := F.F__law_pen
  refine ⟨_, fd, F.g__law_pen, FD.kp, FD.ok (k := 0) sc__law_pen (fun vs H Q E ⟨a, ns, e, _⟩ => by rw [e]; rfl) (fun cdv A outer s H vs Q E hr h => ?_), FunD.bindsN FD fun _ _ _ _ _ _ us hl => match us, hl with | [_], _ => rfl⟩
  obtain ⟨a, ns, rfl, hS, hl, q⟩ := h
  refine ⟨_, (pss_one (ps_ret (pe_lst (pa_cons (pe_callTy call_list_of (by rfl) F.t_list (by decide +kernel) (pa_cons (pe_slice sl_list (pv 0) po_none (po_some pe_int)) pa_nil))
      (pa_cons pe_int (pa_cons pe_int pa_nil)))))), ?_⟩
  refine ⟨_, rfl, 63, rfl, a, _, rfl, hS, fun r hr1 => ?_⟩
  refine ⟨r, _, rfl, .inl (SqL.of upd_same), fun c hc => ?_⟩
  refine ⟨(by show 3 ≤ sizeLine; decide), fun p hp => ?_⟩
  have cr : c ≠ r := fun z => by rw [z, upd_same] at hc; cases hc
  have pc : p ≠ c := fun z => by rw [z, upd_same] at hp; cases hp
  have hp2 := hp
  rw [upd_ne pc] at hp
  have pr : p ≠ r := fun z => by rw [z, upd_same] at hp; cases hp
  rw [upd_ne pr] at hp
  have hc2 := hc
  rw [upd_ne cr] at hc2
  refine q p c (Dl.cutD ns none (some 63)) _ hp hc2 (Ne.symm pc) (fun b o e => ?_) upd_same ?_ ?_
  · rw [upd_ne (ne_of_none e hp), upd_ne (ne_of_none e hc2), upd_ne (ne_of_none e hr1)]
    exact e
  · rw [upd_ne (Ne.symm pc), upd_same]
    unfold L2.cutV Dl.cutD
    rw [List.length_map, List.map_take, List.map_drop]
  · exact Nat.le_trans (cut_len _ _ _) hl
theorem D__law_draw (F : Fc P w K mg base) : DefP P w K mg base (L2.CX P w) 1 "_law_draw" ["_law_pen_here", "_law_many"] (spO (TT K) efT sd__law_draw) := by
  obtain ⟨fd, FD⟩ := F.F__law_draw
  exact ⟨_, fd, F.g__law_draw, FD.kp, okO FD sc__law_draw (der__law_draw (k := 0) F) (fun c ds q x h => by match ds, h with | [.int _], _ => rfl) hs__law_draw, FunD.bindsN FD fun _ _ _ _ _ _ us hl => match us, hl with | [_, _], _ => rfl⟩
theorem D__law_pick (F : Fc P w K mg base) : DefP P w K mg base (L2.CX P w) 2 "_law_pick" ["_law_pen_here", "_law_some"] (spO (TT K) efT sd__law_pick) := by
  obtain ⟨fd, FD⟩ := F.F__law_pick
  exact ⟨_, fd, F.g__law_pick, FD.kp, okO FD sc__law_pick (der__law_pick (k := 1) F (D__law_draw F) (Nat.le_refl _)) (fun c ds q x h => by match ds, h with | [.lst _], _ => rfl | [.str _], _ => rfl) hs__law_pick, FunD.bindsN FD fun _ _ _ _ _ _ us hl => match us, hl with | [_, _], _ => rfl⟩
theorem D__law_word (F : Fc P w K mg base) : DefP P w K mg base (L2.CX P w) 3 "_law_word" ["_law_pen_here"] (spO (TT K) efT sd__law_word) := by
  obtain ⟨fd, FD⟩ := F.F__law_word
  exact ⟨_, fd, F.g__law_word, FD.kp, okO FD sc__law_word (der__law_word (k := 2) F (D__law_draw F) (by decide) (D__law_pick F) (by decide)) (fun c ds q x h => by match ds, h with | [], _ => rfl) hs__law_word, FunD.bindsN FD fun _ _ _ _ _ _ us hl => match us, hl with | [_], _ => rfl⟩
theorem D__law_is_name (F : Fc P w K mg base) : DefP P w K mg base (L2.CX P w) 1 "_law_is_name" ["_law_thing"] (spP (TT K) efT sd__law_is_name) := by
  obtain ⟨fd, FD⟩ := F.F__law_is_name
  exact ⟨_, fd, F.g__law_is_name, FD.kp, Dl.okP FD sc__law_is_name (der__law_is_name (k := 0) F) (fun ds q x h => by match ds, h with | [_], _ => rfl) hs__law_is_name, FunD.bindsN FD fun _ _ _ _ _ _ us hl => match us, hl with | [_], _ => rfl⟩
theorem CK_Kind (F : Fc P w K mg base) : DefK P w K mg base (L2.CX P w) 5 "Kind" ["self", "name", "times"] ["times", "name"] (spN (TT K) efT "Kind" sdC_Kind) (fun vs zs => vs ++ List.reverse zs) := by
  obtain ⟨fd, FD⟩ := F.F_Kind_init
  obtain ⟨its, b⟩ := FunD.kbindsD FD (ps := ["self", "name", "times"]) 1 ["times", "name"] (fun us _ ws => us ++ ws.reverse) (by simp) (fun r1 _ r2 => r1.append r2.reverse)
    (fun T kV doc pm an cdv ct us its ws l1 l2 l3 => match us, l1, its, l2, ws, l3 with
      | [_], _, [_], _, [_, _], _ => ⟨_, rfl, rfl⟩)
  exact ⟨fd, _, F.g_Kind, F.mk_Kind, O_Kind F FD, b⟩
theorem CK_Use (F : Fc P w K mg base) : DefK P w K mg base (L2.CX P w) 5 "Use" ["self", "name"] ["name"] (spN (TT K) efT "Use" sdC_Use) (fun vs zs => vs ++ List.reverse zs) := by
  obtain ⟨fd, FD⟩ := F.F_Use_init
  refine ⟨fd, fun us ws => us ++ ws.reverse, F.g_Use, F.mk_Use, O_Use F FD, ?_⟩
  obtain ⟨oc, od, dV, kV, doc, pm, an, cdv, ct, osl, rfl, lk, hcd, hD, hK⟩ := FD.ex
  refine ⟨fun s us ws X l1 l2 => ?_, fun r1 r2 => r1.append r2.reverse⟩
  rcases hD with ⟨_, rfl⟩ | ⟨e, _⟩
  · match us, l1, ws, l2 with
    | [_], _, [_], _ => exact BindsTo.of_eq rfl
  · exact absurd rfl e
theorem G__law_right (F : Fc P w K mg base) (TB0 : TabB base mg (He.cT K p__law_right).1 (He.cT K p__law_right).2) : DefG P w K mg base (L2.CX P w) 14 "_law_right" (spW (TT K) efT (TLof K [(p__law_right, q__law_right)]) sd__law_right) := by
  obtain ⟨fd, FD⟩ := F.F__law_right
  have D := der__law_right (k := 13) F (D__law_word F) (by decide) (D__law_pick F) (by decide) (D__law_draw F) (by decide) (D__law_is_name F) (by decide) (by decide) (C_Kind F) (C_Kind1 F) (by decide) (C_Use F) (CK_Kind F) (CK_Use F) (kl := 6) (by decide) (by decide) (by decide) (by decide) TB0
  refine ⟨_, F.g__law_right, FD.kp, okWG FD sc__law_right (fun _ _ _ _ _ _ us hl => match us, hl with | [_], _ => rfl) D (fun cs ds q x h => ?_) (fun cs ds q x h => ?_) hs__law_right⟩
  · match cs, ds, h with
    | [_], [], _ => rfl
  · match cs, ds, h with
    | [_], [], _ => rfl
theorem G__law_equal_right (F : Fc P w K mg base) : DefG P w K mg base (L2.CX P w) 17 "_law_equal_right" (spO (TT K) efT sd__law_equal_right) := by
  obtain ⟨fd, FD⟩ := F.F__law_equal_right
  have D := der__law_equal_right (k := 16) (f := He.fAd K ("_law_equal_right", none)) F (D__law_pick F) (by decide) (D__law_draw F) (by decide) (by decide) (C_Kind F) (by decide) (C_Use F) (C_Kind1 F) (by decide) (C_Byte F) (EQ5 F) (by decide) (by decide)
  exact ⟨_, F.g__law_equal_right, FD.kp, okOG FD sc__law_equal_right (fun _ _ _ _ _ _ us hl => match us, hl with | [_], _ => rfl) D (fun c ds q x h => by match ds, h with | [], _ => rfl) hs__law_equal_right⟩
theorem der_law_tail {k : Nat} (F : Fc P w K mg base) {sd__law_pen : SpNw (TT K)} {sd__law_right : SpW (TT K)} {sd__law_equal_right : SpO (TT K)} {sdC_Byte : SpN (TT K)} {soP : PO → Option (D PO)} {k__law_right : Nat} (D__law_right : DefG P w K mg base (L2.CX P w) k__law_right "_law_right" (spW (TT K) efT (TLof K [(p__law_right, q__law_right)]) sd__law_right)) (hn__law_right : ∀ cs ds q x, sd__law_right cs ds q x → cs.length = 1) (h__law_right : k__law_right ≤ k) {k__law_equal_right : Nat} (D__law_equal_right : DefG P w K mg base (L2.CX P w) k__law_equal_right "_law_equal_right" (spO (TT K) efT sd__law_equal_right)) (h__law_equal_right : k__law_equal_right ≤ k) {k_Byte : Nat} (h_Byte : k_Byte + 1 ≤ k) (DC_Byte_0 : DefC P w K mg base (L2.CX P w) k_Byte "Byte" ["self"] (spN (TT K) efT "Byte" sdC_Byte) dv_Byte_0) {k_str : Nat} {okS : PO → Prop} (SO : OneO P w K mg base (TT K) k_str "__str__" okS soP) (h_str : k_str + 2 ≤ k) (TB0 : TabB base mg (He.cT K p__law_right).1 (He.cT K p__law_right).2) : ∀ (A : Around) (outer : List Env) (s : Shared) (H : Hp) (E : XK), A.guards = some [] → Room k (A.deeper (envOfC "law" (defScope (top i_law)) s.heap.objs.size (He.fAd K p_law) (.ref (He.codeOf K p_law)))) →
    ∀ (B : Ba) (xd : Xd (TT K)), TbAt B 0 (TLof K [(p__law_right, q__law_right)]) → XP (cxR P w K mg base N_law "law" (defScope (top i_law)) (He.fAd K p_law) (.ref (He.codeOf K p_law)) A outer s H E) (T := TT K) efT B xd → PDSs B (cxR P w K mg base N_law "law" (defScope (top i_law)) (He.fAd K p_law) (.ref (He.codeOf K p_law)) A outer s H E) (T := TT K) (bodyTail (defBody (top i_law))) (tl_law K sd__law_pen sd__law_right sd__law_equal_right sdC_Byte soP xd) := fun A outer s H E hgd hr B xd tbA XX => (pds_cons (pds_for (passes_of rfl) rfl (pdi_range1 F.t_range pd_int) (fun _ => (pdg_name 2 sc_law.nd)) (fun B1 l1 => (pds_one (pds_if (pdt_w (pdw_or (pdt_not (pdt_tru (pd_defW (tl := TLof K [(p__law_right, q__law_right)]) D__law_right hn__law_right (TbAt.le l1 tbA) hgd (hr.mono h__law_right) (XX.le l1) (pda_cons (pd_var 1) pda_nil)))) (pdw_or1 (pdt_not (pdt_tru (pd_defOG D__law_equal_right hgd (hr.mono h__law_equal_right) (XX.le l1) (pda_cons (pd_var 1) pda_nil))))))) (pds_one (pds_ret pd_bl)) pds_nil)))) (pds_one (pds_ret (pd_cmp (od_eqA hr.units) (pd_callTy (cd_strX SO (hr.mono h_str)) F.t_str (pda_cons (pd_newN DC_Byte_0 dflr_Byte_0 (hr.mono h_Byte) XX) pda_nil)) pd_str))))
theorem law_ok (F : Fc P w K mg base) (TB0 : TabB base mg (He.cT K p__law_right).1 (He.cT K p__law_right).2) : FnG P w K mg base (L2.CX P w) 18 (He.fAd K p_law) (spLawS K (TLof K [(p__law_right, q__law_right)])) := by
  obtain ⟨fd, FD⟩ := F.F_law
  refine okLawG (T := TT K) (ef := efT) (N := N_law) (k := 17) (t := tL K (noX (TT K))) FD sc_law ?_ (fun A outer s H E hg hr B tb XX => ?_) (fun a ms hl => hs_law_tail ⟨ms, 0, 0, rfl, hl, by omega, by omega⟩ rfl)
  · exact fun _ _ _ _ _ _ us hl => match us, hl with | [_], _ => rfl
  exact ⟨_, pss_cons (ps_set (i := 1) sc_law.nd rfl (Or.inl rfl) (pe_def (D__law_pen F) (hr.mono (by decide)) (by rfl) XX.ps (pa_cons (pv 0) pa_nil)))
    (der_law_tail F (G__law_right F TB0) (fun cs ds q x h => by match cs, ds, h with | [_], [], _ => rfl) (by decide) (G__law_equal_right F) (Nat.le_refl _) (by decide) (C_Byte F) (OS F) (by decide) TB0 A outer s H E hg hr B (noX _) tb XX)⟩
/-- the law's own promise, no error told -/
def spEnd (K : PySem.W.Frag) : Sp := fun vs H Q _ => spLawS K (TLof K [(p__law_right, q__law_right)]) vs H Q fun _ _ _ => False
theorem FnG.cx0 {k : Nat} {f : Addr} {sp : Sp} (F : FnG P w K mg base (L2.CX P w) k f sp) : FnG P w K mg base CX0 k f (fun vs H Q _ => sp vs H Q fun _ _ _ => False) :=
  fun A outer s H us vs Q E hg hr e0 r h => codeAny_mono (F A outer s H us vs Q _ hg hr e0 r h) fun z s' q => by
    cases z with
    | ok fl => cases fl <;> exact q
    | error e => obtain ⟨_, _, _, _, _, _, _, _, _, _, _, _, q⟩ := q; exact q
end
end H1
open PySem PySem.W PySem.Calls PyProof.Rows
set_option maxRecDepth 100000 in
set_option maxHeartbeats 0 in
theorem PySem.Challenge.cw_anypads_k01_kinds_bytes_and_uses_made_holds : PySem.Challenge.rw_anypads_k01_kinds_bytes_and_uses_made.Holds := by
  w_on; o_law
  refine HandSHeadRun.head_any (r := H1.R) (q := view H1.R.prog [41]) (H := H1.hk) (ob := H1.ob) (M := 20000) (loose := H1.loose) (d := HandSHeadRun.topDef H1.R.prog 41) (kwd := []) H1.ob_eq
    (by kernel_rfl) (fun s => by kernel_rfl) H1.run (by kernel_rfl) (by kernel_rfl) (by kernel_rfl) (by rfl) (by first | assumption | decide +kernel) (by decide +kernel) ⟨rfl, rfl, rfl, rfl, rfl, by decide +kernel⟩ ?hw ?hc
  case hw => w_witness2
  case hc =>
    refine Ev.walk_ofT (l := PySem.Challenge.rw_anypads_k01_kinds_bytes_and_uses_made) (n := 63) (k := 18) (CX := L2.CX0) rfl (by decide) (by kernel_rfl) ⟨rfl, by decide, by decide⟩ ?F (fun _ _ _ _ z => z)
    intro w mg fa h Y G hmg0
    obtain ⟨K, KX, c⟩ := Y
    have hmg : mg ("law" : PySem.Str) = some (.ref fa) := by
      have e : (HandSHeadRun.topDef H1.R.prog 41).name = ("law" : PySem.Str) := by kernel_rfl
      rw [← e]
      exact hmg0
    have i1 : He.cT K H1.p__law_right ∈ H1.tf.map (He.cT K) := List.mem_map.mpr ⟨_, List.mem_cons_self .., rfl⟩
    refine ⟨K, H1.tf.map (He.cT K), H1.spEnd K, KX, c.tabs KX, fun H a ns hl _ hT hS => ⟨a, ns, rfl, hS, hl, by simp, fun p hp => ?_, fun _ => rfl⟩, fun base _ _ TB => ?_⟩
    · rw [List.mem_singleton.mp hp]
      exact LamX.TabS.nil (hT _ i1)
    · have F := H1.fh_of (P := (PySem.Challenge.rw_anypads_k01_kinds_bytes_and_uses_made).prog) (w := w) KX G c.d c.more base
      have e := hmg.symm.trans F.g_law
      cases e
      exact H1.FnG.cx0 (H1.law_ok F (TB _ i1))

