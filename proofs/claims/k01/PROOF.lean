import PyProof.Rows.All
import Wide.All
import OpenK.AllK
import Wide.FinOn
import HandS.Base
import HandS.Call
import HandS.List
import HandS.Exc
import HandS.ExcInit
import KE.KExcIs
import KE.KExcMake
import HandS.Words
import HandS.IsInst
import HandS.ForMost
import HandS.DeepEq
import KE.OsRunLaw
import PySem.Challenge.RW_freeworldrules_k01_errors_made
set_option Elab.async false
set_option linter.all false
set_option maxRecDepth 100000
set_option maxHeartbeats 4000000
namespace PySem
namespace KwX
open PySem.W PySem.Calls PyProof.Rows PySem.HandSPX
section
variable {M : Model} {A : Around} {E : Value → Shared → Prop} {h : Heap} {g : Array GenState} {d : Drawn} {t : Nat} {os : OsState}
variable {nm q : Str} {C N : Addr} {bs bm bmB : List Value} {hdct : Bool} {sn : List Str} {sub : List Value} {ab : Bool} {col : Option Bool} {dd : Option Addr} {k0 k1 k2 k3 k5 : Option Value} {B newId initId : String}
/-- the maker's look at its arguments lets every keyword by -/
theorem look_new (F : ExcBaseFacts B newId initId bmB) (hT : ∀ X : String, bm.contains (.type X) = bmB.contains (.type X)) {us : List Value} {kw : List (Str × Value)} {Q : Unit → Shared → Prop}
    (ho : h.get? C = some (excClassObj nm q C N bs bm hdct sn sub ab col dd k0 k1 k2 k3 k5 newId)) (z : Q () ⟨h, g, d, t, os⟩) :
    wpAny M A (checkBuiltinCall newId ⟨.ref C :: us, kw⟩) Q E ⟨h, g, d, t, os⟩ := by
  have hB : (Value.ref C :: bm).contains (.type B) = true := by
    rw [List.contains_cons, hT, F.hasB]; exact Bool.or_true _
  have hS := F.noStar
  simp only [checkBuiltinCall, F.newRow, F.newSplit, F.newKind]
  repeat first
    | refine wpAny_loadPart_at ho ?_
    | (refine wpAny_isSubtype_exc ho ?_; rw [hB])
    | refine wpAny_staticBase_exc ho ?_
    | refine wpAny_madeBy_exc ho ?_
    | simp only [bne_self_eq_false, Bool.false_eq_true, if_false]
    | wp_step
  exact z
end
section
variable {prog : Program} {w : World} {A : Around} {E : Value → Shared → Prop} {R : Result → Shared → Prop} {h : Heap} {g : Array GenState} {d : Drawn} {t : Nat} {os : OsState}
variable {nm q : Str} {C N : Addr} {bs bm bmB : List Value} {hdct : Bool} {sn : List Str} {sub : List Value} {ab : Bool} {col : Option Bool} {dd : Option Addr} {k0 k1 k2 k3 k5 : Option Value} {B newId initId : String}
/-- the maker itself -/
theorem new_kw (F : ExcBaseFacts B newId initId bmB) (hT : ∀ X : String, bm.contains (.type X) = bmB.contains (.type X)) {us : List Value} {kw : List (Str × Value)}
    (ho : h.get? C = some (excClassObj nm q C N bs bm hdct sn sub ab col dd k0 k1 k2 k3 k5 newId)) (hl : us.length ≤ sizeLine)
    (z : R (.ok (.ret (.ref (h.objs.size + 1)))) ⟨(h.push (kdv_tup us)).push (excO C h.objs.size), g, d, t, os⟩) :
    codeAny (model prog w) A (.builtin newId ⟨.ref C :: us, kw⟩) R ⟨h, g, d, t, os⟩ := by
  have e1 := F.ends
  have hB : (Value.ref C :: bm).contains (.type B) = true := by
    rw [List.contains_cons, hT, F.hasB]; exact Bool.or_true _
  have hA : (Value.ref C :: bm).contains (.type "AttributeError") = false := by
    rw [List.contains_cons, hT, F.noAttr]; rfl
  have hN : (Value.ref C :: bm).contains (.type "NameError") = false := by
    rw [List.contains_cons, hT, F.noName]; rfl
  refine codeAny_builtinAt F.entry ?_
  unfold Builtin.«BaseException.__new__»
  refine wpAt_bind ?_
  show wpAt _ _ _ (stack >>= _) _ _ _
  refine wpAt_bind (wpAt_stack fun p below => wpAt_of_wpAny ?_)
  wp_walk
  refine wpAt_of_wpAny ?_
  rw [F.owner]
  repeat first
    | with_reducible refine wpAny_madeHere_exc F.canon ho ?_
    | with_reducible refine wpAny_loadPart_at ho ?_
    | (with_reducible refine wpAny_isSubtype_exc ho ?_; first | rw [hB] | rw [hA] | rw [hN])
    | wp_step
  show R _ _
  rw [Heap.size_push]
  exact z
/-- the class called, its own __init__ behind -/
theorem type_kw (F : ExcBaseFacts B newId initId bmB) (hT : ∀ X : String, bm.contains (.type X) = bmB.contains (.type X)) {us : List Value} {kw : List (Str × Value)} {fI : Addr} {Q : Fin → Shared → Prop}
    (ho : h.get? C = some (excClassObj nm q C N bs bm hdct sn sub ab col dd k0 k1 k2 k3 k5 newId))
    (hi : W.Looks (model prog w) h (typeLookup (.ref C) "__init__") (some (.ref fI))) (hb : ∀ self, W.Looks (model prog w) h (bindSpecial (.ref fI) self) (.ref fI, [self])) (hl : us.length ≤ sizeLine)
    (z : codeAny (model prog w) A (.call (.ref fI) ⟨.ref (h.objs.size + 1) :: us, kw⟩)
      (fun r s' => match r with
        | .ok (.ret v) => v = .none ∧ Q (.done (.ret (.ref (h.objs.size + 1)))) s'
        | .ok _ => False
        | .error e => E e s')
      ⟨(h.push (kdv_tup us)).push (excO C h.objs.size), g, d, t, os⟩) :
    wpAny (model prog w) A (Builtin.«type.__call__» ⟨.ref C :: us, kw⟩) Q E ⟨h, g, d, t, os⟩ := by
  repeat first
    | with_reducible refine wpAny_loadPart_at ho ?_
    | with_reducible refine wpAny_madeBy_exc ho ?_
    | wp_step
  refine codeAny_call_builtin_code (Code.quiet_builtin _ F.quiet) (look_new F hT ho ?_)
  refine new_kw F hT ho hl ?_
  show wpAny _ _ _ _ _ _
  have kk : ∀ b o, h.get? b = some o → ((h.push (kdv_tup us)).push (excO C h.objs.size)).get? b = some o := fun b o e =>
    Heap.get?_push_of_some _ (Heap.get?_push_of_some _ e)
  have ho₁ := kk _ _ ho
  have hx : ((h.push (kdv_tup us)).push (excO C h.objs.size)).get? (h.objs.size + 1) = some (excO C h.objs.size) := by heap_get
  have hC : (Value.ref C :: bm).contains (.ref C) = true := by simp
  have i1 := hi.keeps kk
  have b1 := (hb (.ref (h.objs.size + 1))).keeps kk
  unfold isInstance
  repeat first
    | with_reducible refine wpAny_loadPart_at hx ?_
    | (with_reducible refine wpAny_isSubtype_exc ho₁ ?_; rw [hC])
    | wp_step
  show wpAny _ _ (typeLookup (.ref C) _) _ _ _
  refine i1.at ?_
  refine wpAny_holding (wpAny_bind (b1.at ?_))
  refine wpAny_bind (wpAny_call (codeAny_mono z fun r s' y => ?_))
  rcases r with e | fl
  · exact y
  · cases fl <;> first | exact y.elim | skip
    obtain ⟨rfl, y'⟩ := y
    first
      | exact wpAny_pure (wpAny_pure y')
      | (wp_walk; exact y')
theorem call_kw (F : ExcBaseFacts B newId initId bmB) (hT : ∀ X : String, bm.contains (.type X) = bmB.contains (.type X)) {us : List Value} {kw : List (Str × Value)} {fI : Addr}
    (ho : h.get? C = some (excClassObj nm q C N bs bm hdct sn sub ab col dd k0 k1 k2 k3 k5 newId))
    (hi : W.Looks (model prog w) h (typeLookup (.ref C) "__init__") (some (.ref fI))) (hb : ∀ self, W.Looks (model prog w) h (bindSpecial (.ref fI) self) (.ref fI, [self])) (hl : us.length ≤ sizeLine)
    (z : codeAny (model prog w) (A.under (.builtin "type.__call__" ⟨.ref C :: us, kw⟩)) (.call (.ref fI) ⟨.ref (h.objs.size + 1) :: us, kw⟩) (W.InitBack (h.objs.size + 1) R)
      ⟨(h.push (kdv_tup us)).push (excO C h.objs.size), g, d, t, os⟩) :
    codeAny (model prog w) A (.call (.ref C) ⟨us, kw⟩) R ⟨h, g, d, t, os⟩ := by
  have f1 := tc_lookup
  have f2 := tc_bind (.ref C)
  have hTy : (⟨h, g, d, t, os⟩ : Shared).TypeIs (.ref C) "type" := ⟨_, ho, rfl⟩
  refine codeAny_of_tree ?_
  show wpAny _ _ (callAny (.ref C) _) _ _ _
  repeat (any_goals first
    | assumption
    | with_reducible refine wpAny_loadPart_at ho ?_
    | wp_step)
  refine ⟨rfl, ?_⟩
  refine codeAny_call_builtin_at (Code.quiet_builtin _ (by decide +kernel)) entry_typeCall (wpAny_check_type_call_sub ho (type_kw F hT ho hi hb hl ?_))
  refine codeAny_mono z fun r s' y => ?_
  rcases r with e | (v | _ | _ | _) <;> exact y
end
end KwX
end PySem
set_option Elab.async false
set_option linter.all false
set_option maxRecDepth 100000
set_option maxHeartbeats 4000000
/-! Errors of one's own as values: made by place and by name, their fields read, isinstance asked of them. -/
namespace K1
open PySem PySem.Spec PyProof.Rows L2
/-- what the written part says of an error class at C -/
structure ExT (K : PySem.W.Frag) (C : Addr) : Prop where
  ox : OexC K C
  ga : PySem.W.findIn K (.ref C) "__getattribute__" = some (some (.builtin "BaseException.__getattribute__"))
  gg : PySem.W.findIn K (.ref C) "__getattr__" = some none
  ca : PySem.W.findIn K (.ref C) "__class__" = some (some (.builtin "object.__class__"))
  sg : PySem.W.specialIn K (.builtin "object.__class__") "__get__" = some (some (.builtin "getset_descriptor.__get__"))
  tk : PySem.W.takesIn K (.builtin "object.__class__") = some true
  mo : PySem.W.mroIn K C (.type "object") = some true
  hd : PySem.W.hasDictIn K C = true
section
variable {X : Cx} {pins : List (Addr × Obj)} {σ : L2.St} {H : Hp} {s : Shared} {a C dx : Addr}
/-- such an object as the library's rules want it -/
theorem inst_of (hok : HOk X.prog X.w H s.heap) {dd : Option Addr} (e : H a = some (exo a C dd)) (hd : ∀ d, dd = some d → ∃ o, s.heap.get? d = some o) :
    ∃ (ox : Obj) (od : Option Obj), PySem.W.InstAt s.heap a ox C od ∧ ∀ d o, dd = some d → s.heap.get? d = some o → od = some o := by
  obtain ⟨t1, he⟩ := exo_at hok e
  cases dd with
  | none => exact ⟨_, none, ⟨he, rfl, rfl, trivial⟩, fun d o q => nomatch q⟩
  | some d =>
    obtain ⟨o, ho⟩ := hd d rfl
    refine ⟨_, some o, ⟨he, rfl, rfl, ho⟩, fun d' o' q z => ?_⟩
    cases q
    rw [ho] at z
    exact z
end
/-- the error at a, of the class C, one field f with the value v, its dict at d -/
structure Er (H : Hp) (a C d : Addr) (f : Str) (v : V) : Prop where
  ob : H a = some (exo a C (some d))
  dc : H d = some (exd d [(f, v)])
/-- an error without fields -/
def Er0 (H : Hp) (a C : Addr) : Prop := H a = some (exo a C none)
/-- either -/
inductive ErV (H : Hp) (C : Addr) : V → Prop where
  | one {a d : Addr} {f : Str} {v : V} (e : Er H a C d f v) : ErV H C (.ref a)
  | bare {a : Addr} (e : Er0 H a C) : ErV H C (.ref a)
theorem Er.mono {H H' : Hp} {a C d : Addr} {f : Str} {v : V} (s : Same H H') (e : Er H a C d f v) : Er H' a C d f v := ⟨s _ _ e.ob, s _ _ e.dc⟩
theorem ErV.mono {H H' : Hp} {C : Addr} {x : V} (s : Same H H') (e : ErV H C x) : ErV H' C x := by
  cases e with
  | one e => exact .one (e.mono s)
  | bare e => exact .bare (s _ _ e)
/-- the class x asked of -/
def rIsX (K : PySem.W.Frag) (C : Addr) : List V → Hp → VK → Prop := fun xs H Q => ∃ (x c : V) (u : Value) (b : Bool), xs = [x, c] ∧ ClsV c u ∧ ErV H C x ∧ PySem.W.kitOne K (.ref C) u = some b ∧ Q (.bl b) H
section
variable {X : Cx}
theorem call_isX {C : Addr} (T : ExT X.K C) : CallR X (.builtin "isinstance") (rIsX X.K C) := by
  intro pins s σ H xs us Q I r h
  obtain ⟨x, c, u, b, rfl, k, ex, e, q⟩ := h
  obtain ⟨u1, u2, rfl, r1, r2⟩ := vals2 r
  have e2 := k.eq r2
  subst e2
  have go : ∀ {a : Addr} {dd : Option Addr}, x = .ref a → H a = some (exo a C dd) → (∀ d, dd = some d → ∃ o, s.heap.get? d = some o) → wpAny (model X.prog X.w) X.A (call (.builtin "isinstance") [u1, u2]) (EP X pins σ Q) X.xe s := fun {a dd} ea eh hd => by
    subst ea
    cases (show u1 = Value.ref a from r1)
    obtain ⟨ox, od, J, _⟩ := inst_of (X := X) I.hok eh hd
    obtain ⟨cd, hc, _⟩ := PySem.W.any_some T.hd
    exact PySem.W.kia_one (PySem.W.kitx_exc (by rw [hc]; rfl) T.ga T.gg T.ox.exC T.ca T.sg T.tk T.mo) I.kIn J e (fun z => nomatch z) fun tk => (⟨.bl b, H, I.tok tk, rfl, q⟩ : EP X pins σ Q _ _)
  cases ex with
  | @one a d f v e1 =>
    refine go rfl e1.ob fun d' q' => ?_
    cases q'
    obtain ⟨mA, ⟨o, es, ep, ho, _⟩, _⟩ := exd_at I.hok e1.dc
    exact ⟨o, ho⟩
  | bare e1 => exact go rfl e1 fun d q' => nomatch q'
/-- e.f -/
def tXg (K : PySem.W.Frag) (f : Str) (te : TE) : TE := fun σ H Q => te σ H fun x H1 => ∃ (a C d : Addr) (v : V), x = .ref a ∧ ExT K C ∧ PySem.W.findIn K (.ref C) f = some none ∧ Er H1 a C d f v ∧ Q v H1
theorem pe_xg {e : Expr} {te : TE} {f : Str} {pos : Pos} (he : PE X e te) (hb : attributeBase e f X.env (eval e X.env) = eval e X.env := by rfl) : PE X (.Attribute e f pos) (tXg X.K f te) := by
  refine ⟨fun pins s σ H Q I h => ?_⟩
  refine attr_of hb (thn (he.run pins s σ H _ I h) fun u s1 hh => ?_)
  obtain ⟨x, H1, I1, rx, a, C, d, v, ex, T, no, er, q⟩ := hh
  subst ex
  obtain rfl : u = Value.ref a := rx
  obtain ⟨mA, hns, rel⟩ := exd_at I1.hok er.dc
  obtain ⟨o, ho, hl⟩ := lookIn_ns hns
  obtain ⟨ox, od, J, same⟩ := inst_of (X := X) I1.hok er.ob (fun d' q' => by cases q'; exact ⟨o, ho⟩)
  have eo := same d o rfl ho
  subst eo
  have l : List.lookup f [(f, v)] = some v := by simp [List.lookup]
  obtain ⟨w, hw, rw'⟩ := RelO.some_of (v := v) (o := mA f) (by rw [← l]; exact rel f)
  exact HandSPX.exc_get I1.kIn J T.ga T.gg T.ox.exC (PySem.W.findObj_own T.hd no rfl (by rw [hl, hw])) (handed_of rw') ⟨v, H1, I1.tok _, rw', q⟩
end
section
variable {X : Cx} {k : Nat} {fI C : Addr} {fd : FuncData} {ps ks : List Str} {sp : Sp} {x : Str} {p pos : Pos} {e : Expr} {es : List Expr} {kws : List Keyword} {t tk : TA}
/-- a new error of the class at C, from the values vs of its parameters -/
def mkE (C : Addr) (sp : Sp) (vs : List V) (H : Hp) (Q : VK) : Prop := ∀ a, H a = none → sp (.ref a :: vs) (upd H a (exo a C none)) (fun v H2 => v = .non ∧ Q (.ref a) H2) (fun _ _ _ => False)
theorem run_ex {pins : List (Addr × Obj)} {σ : L2.St} {H : Hp} {s : Shared} {Q : VK} {us ws : List Value} {zs : List V} {kw : List (Str × Value)} (T : ExT X.K C) (iC : PySem.W.findIn X.K (.ref C) "__init__" = some (some (.ref fI)))
    (tI : PySem.W.typeIn X.K (.ref fI) = some (.type "function")) (FN : FnOk X.prog X.w X.K X.mg X.base CX0 k fI fd ps sp) (hr : Room (k + 1) X.A) (I : Inv X pins σ H s)
    (hb : ∀ (s' : Shared) (self : Value), BindsTo s' fd ⟨self :: us, kw⟩ (ps.zip (self :: ws))) (r : Vals zs ws) (hl : us.length ≤ 1000) (h : mkE C sp zs H Q) : wpAny (model X.prog X.w) X.A (call (.ref C) us kw) (EP X pins σ Q) X.xe s := by
  obtain ⟨nm, q, N, bs, bm, sn, sub, ab, col, dd, k0, k1, k2, k3, k5, hC, hbm⟩ := T.ox.cls
  obtain ⟨hp, g, dr, tk, os⟩ := s
  have hsz : hp.objs.size ≤ hp.objs.size + 1 := Nat.le_succ _
  have hn : H (hp.objs.size + 1) = none := I.hok.fresh hsz
  have hq := h (hp.objs.size + 1) hn
  have kk : ∀ b o, hp.get? b = some o → ((hp.push (PySem.W.kdv_tup us)).push (PySem.HandSPX.excO C hp.objs.size)).get? b = some o := fun b o e =>
    Heap.get?_push_of_some _ (Heap.get?_push_of_some _ e)
  have hget : ((hp.push (PySem.W.kdv_tup us)).push (PySem.HandSPX.excO C hp.objs.size)).get? (hp.objs.size + 1) = some (PySem.HandSPX.excO C hp.objs.size) := by heap_get
  have I2 : Inv X pins σ (upd H (hp.objs.size + 1) (exo (hp.objs.size + 1) C none)) ⟨(hp.push (PySem.W.kdv_tup us)).push (PySem.HandSPX.excO C hp.objs.size), g, dr, tk, os⟩ :=
    I.laid (t' := tk) (a := hp.objs.size + 1) (o := exo (hp.objs.size + 1) C none) (h' := (hp.push (PySem.W.kdv_tup us)).push (PySem.HandSPX.excO C hp.objs.size)) kk hsz (exo_ok hget)
  have r2 : Vals (V.ref (hp.objs.size + 1) :: zs) (Value.ref (hp.objs.size + 1) :: ws) := .cons rfl r
  have hus : us.length ≤ sizeLine := by rw [sizeLine_eq]; omega
  refine wpAny_call (PySem.KwX.call_kw F.excBase_ValueError (fun Y => PySem.HandSPX.refsVE_contains Y bm hbm) (I.kIn _ _ hC) (PySem.W.looks_findIn I.kIn iC) (fun self => PySem.W.bind_fn I.kIn self tI) hus
    (codeAny_mono (FN.run _ X.stack _ _ ⟨Value.ref (hp.objs.size + 1) :: us, kw⟩ (Value.ref (hp.objs.size + 1) :: ws) _ _ (fun _ _ _ => False) (hr.make C us kw) (I2.env0.make C us kw) (hb _ _) r2 hq) fun rr s' hq' => ?_))
  cases rr with
  | error er => exact pass0 pins σ _ _ er s' I2 hq'
  | ok fl =>
    cases fl with
    | ret u =>
      obtain ⟨v, H', I3, rv, ev, q3⟩ := I2.after hq'
      subst ev
      exact ⟨rv, ⟨V.ref (hp.objs.size + 1), H', I3, rfl, q3⟩⟩
    | next => exact False.elim hq'
    | brk => exact False.elim hq'
    | cont => exact False.elim hq'
/-- C(e) -/
def tMkP (C : Addr) (sp : Sp) (t : TA) : TE := fun σ H Q => t σ H fun vs H1 => vs.length = 1 ∧ mkE C sp vs H1 Q
theorem pe_exP (T : ExT X.K C) (iC : PySem.W.findIn X.K (.ref C) "__init__" = some (some (.ref fI))) (tI : PySem.W.typeIn X.K (.ref fI) = some (.type "function")) (FN : FnOk X.prog X.w X.K X.mg X.base CX0 k fI fd ps sp)
    (hr : Room (k + 1) X.A) (hg : Gl X x) (hm : X.mg x = some (.ref C)) (hb : ∀ (s' : Shared) (self u : Value), BindsTo s' fd ⟨[self, u], []⟩ (ps.zip [self, u])) (ha : PA X (e :: es) t)
    (hdb : (x == ("__debug__" : Str)) = false := by decide) (he : starEach (e :: es) X.env = (false, eval e X.env) :: starEach es X.env := by rfl) (hpl : (backTo pos (starEach es X.env)).any (·.1) = false := by rfl) :
    PE X (.Call (.Name x p) (e :: es) [] pos) (tMkP C sp t) := by
  refine ⟨fun pins s σ H Q I h => ?_⟩
  refine wpAny_Call_Name_kw (ld_glob I hg hm ?_ hdb)
  refine PySem.W.callWith_K (h₀ := X.base) I.ok.mod.kin T.ox.kC (thn (ha.run pos pins s σ H _ I h) fun us s1 ⟨vs, H1, I1, r1, l1, q1⟩ => ⟨I1.kIn, ?_⟩) he hpl
  show wpAny _ _ (call (.ref C) us) _ _ _
  have l2 := r1.length
  match vs, us, l1, l2, r1, q1 with
  | [v], [u], _, _, r1, q1 => exact run_ex (kw := []) T iC tI FN hr I1 (fun s' self => hb s' self u) r1 (by show 1 ≤ 1000; decide) q1
/-- C(f = e) -/
def tMkK (C : Addr) (sp : Sp) (tk : TA) : TE := fun σ H Q => tk σ H fun vs H1 => vs.length = 1 ∧ mkE C sp vs H1 Q
theorem pe_exK {f : Str} (T : ExT X.K C) (iC : PySem.W.findIn X.K (.ref C) "__init__" = some (some (.ref fI))) (tI : PySem.W.typeIn X.K (.ref fI) = some (.type "function")) (FN : FnOk X.prog X.w X.K X.mg X.base CX0 k fI fd ps sp)
    (hr : Room (k + 1) X.A) (hg : Gl X x) (hm : X.mg x = some (.ref C)) (hb : ∀ (s' : Shared) (self u : Value), BindsTo s' fd ⟨[self], [(f, u)]⟩ (ps.zip [self, u])) (hkw : PK X kws tk)
    (hall : (backToKw pos (keywordEach kws X.env)).all (·.1.isSome) = true := by rfl) (hks : (backToKw pos (keywordEach kws X.env)).filterMap (·.1) = [f] := by rfl) (hdb : (x == ("__debug__" : Str)) = false := by decide)
    (hpl : ((backTo pos (starEach [] X.env)).any (·.1) || (backToKw pos (keywordEach kws X.env)).any (·.1.isNone)) = false := by rfl) :
    PE X (.Call (.Name x p) [] kws pos) (tMkK C sp tk) := by
  refine ⟨fun pins s σ H Q I h => ?_⟩
  refine wpAny_Call_Name_kw (ld_glob I hg hm ?_ hdb)
  refine PySem.W.callWith_KW0 (h₀ := X.base) I.ok.mod.kin T.ox.kC hall ?_ hpl
  refine thn (hkw.run pos pins s σ H _ I h) fun us s2 ⟨vs, H2, I2, r1, l1, q1⟩ => ⟨I2.kIn, ?_⟩
  rw [hks]
  have l2 := r1.length
  match vs, us, l1, l2, r1, q1 with
  | [v], [u], _, _, r1, q1 => exact run_ex (us := []) (kw := [(f, u)]) T iC tI FN hr I2 (fun s' self => hb s' self u) r1 (Nat.zero_le _) q1
end
end K1
set_option Elab.async false
set_option linter.all false
set_option maxRecDepth 100000
set_option maxHeartbeats 4000000
/-! The drawing of the law: a cell of the script, a pool, a draw. -/
namespace K1
open PySem L2
def topS (i : Nat) : Stmt := PySem.Challenge.pw_freeworldrules_k01_errors_made.main.body.getD i (.Pass ⟨0, 0, 0, 0⟩)
abbrev sCell : Stmt := topS 36
abbrev sPool : Stmt := topS 37
abbrev sTake : Stmt := topS 38
abbrev sAny : Stmt := topS 39
def spCell (K : PySem.W.Frag) : Sp := fun vs H Q _ => ∃ (a : Addr) (ns : List Int) (k : Nat), vs = [.ref a, .int k] ∧ SqL K H a (ns.map V.int) ∧ ∀ z, Q (.int z) H
def poolV (a b c : Int) : List V := [.int a, .int b, .int c]
/-- what stands in a pool after c draws at most -/
structure PoolIs (H : Hp) (p : Addr) (n : Nat) : Prop where
  ex : ∃ a b c : Int, H p = some (.lst (poolV a b c)) ∧ 0 ≤ a ∧ 0 ≤ b ∧ b < 1000000007 ∧ 0 ≤ c ∧ c ≤ n
def spPool : Sp := fun vs H Q _ => ∃ g : Int, vs = [.int g] ∧ ∀ p a b, H p = none → 0 ≤ a → 0 ≤ b → b < 1000000007 → Q (.ref p) (upd H p (.lst (poolV a b 0)))
/-- only the pool at p is another -/
def But (p : Addr) (H H' : Hp) : Prop := ∀ b o, b ≠ p → H b = some o → H' b = some o
def spTake : Sp := fun vs H Q _ => ∃ (p : Addr) (m : Int) (n : Nat), vs = [.ref p, .int m] ∧ 0 < m ∧ m < 1000000 ∧ n ≤ 1000000 ∧ PoolIs H p n ∧
  ∀ r a b c, 0 ≤ r → r < m → 0 ≤ a → 0 ≤ b → b < 1000000007 → 0 ≤ c → c ≤ ((n + 1 : Nat) : Int) → Q (.int r) (upd H p (.lst (poolV a b c)))
structure Bl (mg : Str → Option Value) : Prop where
  len : mg "len" = none
  int : mg "int" = none
section
variable {P : Program} {w : World} {K : PySem.W.Frag} {mg : Str → Option Value} {base : Heap}
theorem scCell : FnScope ["_law_script", "_law_k"] ["_law_script", "_law_k"] (defScope sCell) := ⟨rfl, rfl, rfl, by decide +kernel, rfl, by decide +kernel, by decide +kernel⟩
theorem ok_cell {f : Addr} {fd : FuncData} (F : Fun K "_law_cell" "_law_cell" sCell f fd) (T : Bl mg) : FnOk P w K mg base CX0 1 f fd ["_law_script", "_law_k"] (spCell K) := by
  refine F.ok scCell (fun vs H Q E h => ?_) (fun cdv A outer s H vs Q E hr h => ?_)
  · obtain ⟨a, ns, k, rfl, _⟩ := h
    rfl
  · obtain ⟨a, ns, k, rfl, hS, q⟩ := h
    refine ⟨_, pss_cons (ps_if (pt_cmpR op_lt (pv 1) (pe_callB call_len_seq (by rfl) T.len PySem.boot_len (pa_cons (pv 0) pa_nil)) (nomark _))
      (pss_one (ps_ret (pe_ix ix_list (pv 0) (pv 1) (fun _ _ => rfl)))) pss_nil) (pss_one (ps_ret pe_int)), ?_⟩
    refine ⟨_, rfl, _, rfl, a, _, rfl, .inl hS, _, _, rfl, rfl, _, rfl, ?_⟩
    by_cases c : (k : Int) < ((ns.map V.int).length : Int)
    · rw [decide_eq_true c]
      refine iteT ?_
      have hk : k < ns.length := by rw [List.length_map] at c; omega
      exact ⟨_, rfl, _, rfl, a, _, _, .int ns[k], rfl, rfl, hS, atI_nat (by simp [hk]), q _⟩
    · rw [decide_eq_false c]
      exact iteF (q 0)
theorem scPool : FnScope ["_law_grain", "_law_folded"] ["_law_grain"] (defScope sPool) := ⟨rfl, rfl, rfl, by decide +kernel, rfl, by decide +kernel, by decide +kernel⟩
theorem ok_pool {f : Addr} {fd : FuncData} (F : Fun K "_law_pool" "_law_pool" sPool f fd) (T : Bl mg) : FnOk P w K mg base CX0 1 f fd ["_law_grain"] spPool := by
  refine F.ok scPool (fun vs H Q E h => ?_) (fun cdv A outer s H vs Q E hr h => ?_)
  · obtain ⟨g, rfl, _⟩ := h
    rfl
  · obtain ⟨g, rfl, q⟩ := h
    refine ⟨_, pss_cons (ps_set (i := 1) scPool.nd rfl (.inl rfl) (pe_op op_mul pe_int (pv 0)))
      (pss_cons (ps_if (pt_cmpR op_lt (pv 0) pe_int (nomark _)) (pss_one (ps_set (i := 1) scPool.nd rfl (.inl rfl) (pe_op op_sub (pe_op op_sub pe_int (pe_op op_mul pe_int (pv 0))) pe_int))) pss_nil)
      (pss_cons (ps_if (pt_cmpR op_ge (pv 1) (pe_op op_pow pe_int pe_int) (nomark _))
        (pss_one (ps_ret (pe_lst (pa_cons (pv 1) (pa_cons (pe_op op_mod (pe_callTy call_int1 (by rfl) T.int (by decide +kernel) (pa_cons (pv 1) pa_nil)) pe_int) (pa_cons pe_int pa_nil)))))) pss_nil)
      (pss_one (ps_ret (pe_lst (pa_cons pe_int (pa_cons (pe_op op_mod (pe_callTy call_int1 (by rfl) T.int (by decide +kernel) (pa_cons (pv 1) pa_nil)) pe_int) (pa_cons pe_int pa_nil)))))))), ?_⟩
    have fin : ∀ f : Int, 0 ≤ f → ∀ p, H p = none → Q (.ref p) (upd H p (.lst [.int f, .int (f % 1000000007), .int 0])) := fun f hf p hp =>
      q p f (f % 1000000007) hp hf (Int.emod_nonneg _ (by decide)) (Int.emod_lt_of_pos _ (by decide))
    have fin0 : ∀ f : Int, ∀ p, H p = none → Q (.ref p) (upd H p (.lst [.int 0, .int (f % 1000000007), .int 0])) := fun f p hp =>
      q p 0 (f % 1000000007) hp (by decide) (Int.emod_nonneg _ (by decide)) (Int.emod_lt_of_pos _ (by decide))
    refine ⟨_, rfl, _, _, rfl, rfl, .inl ⟨by decide, by decide⟩, ?_⟩
    refine ⟨_, rfl, _, _, rfl, rfl, _, rfl, ?_⟩
    by_cases c0 : g < 0
    · rw [decide_eq_true c0]
      refine iteT ?_
      refine ⟨_, rfl, _, _, rfl, rfl, .inl ⟨by decide, by decide⟩, _, _, rfl, rfl, _, _, rfl, rfl, ?_⟩
      refine ⟨_, rfl, _, _, rfl, rfl, ⟨by decide, by decide, by decide⟩, _, _, rfl, rfl, _, rfl, ?_⟩
      refine ite2 (fun _ => ?_) (fun _ => ?_)
      · exact ⟨_, rfl, _, rfl, .inl ⟨_, rfl, _, _, rfl, rfl, (by show (0 : Int) < 1000000007; decide), (by show 3 ≤ sizeLine; decide), fin _ (by omega)⟩⟩
      · exact ⟨_, rfl, .inl ⟨_, rfl, _, _, rfl, rfl, (by show (0 : Int) < 1000000007; decide), (by show 3 ≤ sizeLine; decide), fin0 _⟩⟩
    · rw [decide_eq_false c0]
      refine iteF ?_
      refine ⟨_, rfl, _, _, rfl, rfl, ⟨by decide, by decide, by decide⟩, _, _, rfl, rfl, _, rfl, ?_⟩
      refine ite2 (fun _ => ?_) (fun _ => ?_)
      · exact ⟨_, rfl, _, rfl, .inl ⟨_, rfl, _, _, rfl, rfl, (by show (0 : Int) < 1000000007; decide), (by show 3 ≤ sizeLine; decide), fin _ (by omega)⟩⟩
      · exact ⟨_, rfl, .inl ⟨_, rfl, _, _, rfl, rfl, (by show (0 : Int) < 1000000007; decide), (by show 3 ≤ sizeLine; decide), fin0 _⟩⟩
theorem scTake : FnScope ["_law_pool_here", "_law_many", "_law_draw", "_law_mixed"] ["_law_pool_here", "_law_many"] (defScope sTake) := ⟨rfl, rfl, rfl, by decide +kernel, rfl, by decide +kernel, by decide +kernel⟩
theorem ok_take {f : Addr} {fd : FuncData} (F : Fun K "_law_take" "_law_take" sTake f fd) (T : Bl mg) : FnOk P w K mg base CX0 1 f fd ["_law_pool_here", "_law_many"] spTake := by
  refine F.ok scTake (fun vs H Q E h => ?_) (fun cdv A outer s H vs Q E hr h => ?_)
  · obtain ⟨p, m, n, rfl, _⟩ := h
    rfl
  · obtain ⟨p, m, n, rfl, m0, m1, hn, ⟨a, b, c, hp, a0, b0, b1, c0, c1⟩, q⟩ := h
    refine ⟨_, pss_cons (ps_if (pt_cmpR op_gt (pe_ix ix_list (pv 0) pe_int (fun _ _ => rfl)) pe_int (nomark _))
        (pss_cons (ps_set (i := 2) scTake.nd rfl (.inl rfl) (pe_op op_mod (pe_callTy call_int1 (by rfl) T.int (by decide +kernel) (pa_cons (pe_ix ix_list (pv 0) pe_int (fun _ _ => rfl)) pa_nil)) (pv 1)))
        (pss_cons (ps_asg (pe_op op_fdiv (pe_ix ix_list (pv 0) pe_int (fun _ _ => rfl)) (pv 1)) (pg_sub (pv 0) pe_int set_list))
        (pss_one (ps_ret (pv 2))))) pss_nil)
      (pss_cons (ps_asg (pe_op op_add (pe_ix ix_list (pv 0) pe_int (fun _ _ => rfl)) pe_int) (pg_sub (pv 0) pe_int set_list))
      (pss_cons (ps_set (i := 3) scTake.nd rfl (.inl rfl) (pe_op op_mod (pe_callTy call_int1 (by rfl) T.int (by decide +kernel) (pa_cons
          (pe_op op_pow (pe_op op_add (pe_op op_add (pe_ix ix_list (pv 0) pe_int (fun _ _ => rfl)) (pe_op op_mul pe_int (pe_ix ix_list (pv 0) pe_int (fun _ _ => rfl)))) pe_int) pe_int) pa_nil)) pe_int))
      (pss_one (ps_ret (pe_op op_mod (pe_op op_mod (pe_callTy call_int1 (by rfl) T.int (by decide +kernel) (pa_cons
          (pe_op op_mul (pe_op op_add (pv 3) (pe_ix ix_list (pv 0) pe_int (fun _ _ => rfl))) pe_int) pa_nil)) pe_int) (pv 1)))))), ?_⟩
    have g0 : ∀ {x y z : Int} {H : Hp}, H p = some (.lst (poolV x y z)) → SqL K H p (poolV x y z) := fun h => SqL.of h
    refine ⟨_, rfl, p, _, 0, _, rfl, rfl, g0 hp, atI_nat (j := 0) rfl, _, _, rfl, rfl, _, rfl, ?_⟩
    by_cases ca : 0 < a
    · rw [decide_eq_true ca]
      refine iteT ?_
      refine ⟨_, rfl, p, _, 0, _, rfl, rfl, g0 hp, atI_nat (j := 0) rfl, .inl ⟨_, rfl, _, rfl, _, _, rfl, rfl, m0, ?_⟩⟩
      refine ⟨_, rfl, p, _, 0, _, rfl, rfl, g0 hp, atI_nat (j := 0) rfl, _, rfl, _, _, rfl, rfl, ⟨m0, by omega⟩, ?_⟩
      refine ⟨_, rfl, p, _, 0, 0, rfl, rfl, hp, rfl, _, rfl, ?_⟩
      exact q (a % m) (a / m) b c (Int.emod_nonneg _ (by omega)) (Int.emod_lt_of_pos _ m0) (Int.ediv_nonneg a0 (by omega)) b0 b1 c0 (by omega)
    · rw [decide_eq_false ca]
      refine iteF ?_
      refine ⟨_, rfl, p, _, 2, _, rfl, rfl, g0 hp, atI_nat (j := 2) rfl, _, _, rfl, rfl, ?_⟩
      refine ⟨_, rfl, p, _, 2, 2, rfl, rfl, hp, rfl, ?_⟩
      have h1 : (upd H p (.lst (poolV a b (c + 1)))) p = some (.lst (poolV a b (c + 1))) := upd_same
      refine ⟨_, rfl, p, _, 1, _, rfl, rfl, g0 h1, atI_nat (j := 1) rfl, _, rfl, p, _, 2, _, rfl, rfl, g0 h1, atI_nat (j := 2) rfl, _, _, rfl, rfl, .inl ⟨by decide, by decide⟩, _, _, rfl, rfl, _, _, rfl, rfl, _, _, rfl, rfl, ⟨by decide, by decide, ?_⟩, .inl ⟨_, rfl, _, _, rfl, rfl, (by show (0 : Int) < 2147483647; decide), ?_⟩⟩
      · show (b + 7919 * (c + 1) + 104729).natAbs < 2 ^ 64
        omega
      · refine ⟨_, rfl, _, rfl, p, _, 2, _, rfl, rfl, g0 h1, atI_nat (j := 2) rfl, _, _, rfl, rfl, _, _, rfl, rfl, .inr ⟨by decide, by decide⟩, .inl ⟨_, rfl, _, _, rfl, rfl, (by show (0 : Int) < 2147483629; decide), _, rfl, _, _, rfl, rfl, m0, ?_⟩⟩
        exact q _ a b (c + 1) (Int.emod_nonneg _ (by omega)) (Int.emod_lt_of_pos _ m0) a0 b0 b1 (by omega) (by omega)
end
end K1
set_option Elab.async false
set_option linter.all false
set_option maxRecDepth 100000
set_option maxHeartbeats 4000000
namespace K1
open PySem L2
abbrev sSame : Stmt := topS 45
/-- any object of the law's twelve -/
inductive Smp (H : Hp) : V → Prop where
  | non : Smp H .non
  | bl (b : Bool) : Smp H (.bl b)
  | int (i : Int) : Smp H (.int i)
  | str (x : Str) : Smp H (.str x)
  | tup (a : Addr) (e : H a = some (.tup [.str "a", .int 1])) : Smp H (.ref a)
  | lst (a b : Addr) (e : H a = some (.lst [.str "b", .ref b])) (e' : H b = some (.lst [.int 2])) : Smp H (.ref a)
  | dct (a b : Addr) (e : H a = some (.dK [(.inr "a", .ref b)])) (e' : H b = some (.lst [])) : Smp H (.ref a)
theorem Smp.mono {H H' : Hp} {v : V} (s : Same H H') (h : Smp H v) : Smp H' v := by
  cases h with
  | non => exact .non
  | bl b => exact .bl b
  | int i => exact .int i
  | str x => exact .str x
  | tup a e => exact .tup a (s _ _ e)
  | lst a b e e' => exact .lst a b (s _ _ e) (s _ _ e')
  | dct a b e e' => exact .dct a b (s _ _ e) (s _ _ e')
theorem lay {H : Hp} {a : Addr} {o : HO} (n : H a = none) : ∃ H', Same H H' ∧ H' a = some o ∧ upd H a o = H' :=
  ⟨_, fun b u e => by rw [upd_ne (ne_of_none e n)]; exact e, upd_same, rfl⟩
theorem pool_ne {H : Hp} {p a : Addr} {n : Nat} {o : HO} (h : PoolIs H p n) (e : H a = some o) (d : ∀ x y z, o ≠ .lst (poolV x y z)) : a ≠ p := by
  obtain ⟨x, y, z, hp, _⟩ := h
  exact ne_of e hp (d x y z)
theorem Smp.but {H H' : Hp} {v : V} {p : Addr} {n : Nat} (hp : PoolIs H p n) (s : But p H H') (h : Smp H v) : Smp H' v := by
  cases h with
  | non => exact .non
  | bl b => exact .bl b
  | int i => exact .int i
  | str x => exact .str x
  | tup a e => exact .tup a (s _ _ (pool_ne hp e fun x y z q => by cases q) e)
  | lst a b e e' => exact .lst a b (s _ _ (pool_ne hp e fun x y z q => by cases q) e) (s _ _ (pool_ne hp e' fun x y z q => by cases q) e')
  | dct a b e e' => exact .dct a b (s _ _ (pool_ne hp e fun x y z q => by cases q) e) (s _ _ (pool_ne hp e' fun x y z q => by cases q) e')
def spAny : Sp := fun vs H Q _ => ∃ (p : Addr) (n : Nat), vs = [.ref p] ∧ n ≤ 1000000 ∧ PoolIs H p n ∧ ∀ v H', Smp H' v → But p H H' → PoolIs H' p (n + 1) → Q v H'
def spSame : Sp := fun vs H Q _ => ∃ v, vs = [v, v] ∧ Smp H v ∧ Q (.bl true) H
theorem Smp.kind {K : PySem.W.Frag} {H : Hp} {v : V} (h : Smp H v) : ∃ t b, TyX K H v (.type t) ∧ PySem.W.kitOne K (.type t) (.type "bool") = some b := by
  cases h with
  | non => exact ⟨"NoneType", false, .base .non, kit_ty (by decide +kernel)⟩
  | bl b => exact ⟨"bool", true, .base (.bl b), kit_ty (by decide +kernel)⟩
  | int i => exact ⟨"int", false, .base (.int i), kit_ty (by decide +kernel)⟩
  | str x => exact ⟨"str", false, .base (.str x), kit_ty (by decide +kernel)⟩
  | tup a e => exact ⟨"tuple", false, .base (.tup e), kit_ty (by decide +kernel)⟩
  | lst a b e e' => exact ⟨"list", false, .base (.lst e), kit_ty (by decide +kernel)⟩
  | dct a b e e' => exact ⟨"dict", false, .base (.dK e), kit_ty (by decide +kernel)⟩
/-- == of a sample and itself, by one of three rules -/
theorem Smp.eqs {K : PySem.W.Frag} {H : Hp} {v : V} {Q : VK} (h : Smp H v) (q : Q (.bl true) H) : rEq v v H Q ∨ (rEqV K v v H Q ∨ rEqD K v v H Q) := by
  cases h with
  | non => exact .inl ⟨rfl, q⟩
  | bl b =>
    refine .inl ⟨rfl, ?_⟩
    rw [decide_eq_true rfl]
    exact q
  | int i =>
    refine .inl ⟨rfl, ?_⟩
    rw [decide_eq_true rfl]
    exact q
  | str x =>
    refine .inl ⟨rfl, ?_⟩
    rw [decide_eq_true rfl]
    exact q
  | tup a e => exact .inr (.inr ⟨.tuple [.str "a", .int 1], .tuple [.str "a", .int 1], .tup (SqT.of e) (.cons (.str _) (.cons (.int _) .nil)), .tup (SqT.of e) (.cons (.str _) (.cons (.int _) .nil)), (by decide +kernel), (by decide +kernel), by
      rw [show PyData.eqv (.tuple [.str "a", .int 1]) (.tuple [.str "a", .int 1]) = true by decide +kernel]
      exact q⟩)
  | lst a b e e' => exact .inr (.inl ⟨1, by decide, .inl ⟨a, a, _, _, rfl, rfl, SqL.of e, SqL.of e, .cons (.inl ⟨rfl, rfl⟩) (.cons (.inr (.inl ⟨b, rfl, rfl⟩)) .nil)⟩, q⟩)
  | dct a b e e' =>
    refine .inr (.inl ⟨1, by decide, .inr ⟨a, a, _, _, rfl, rfl, e, e, rfl, fun p hp => ?_⟩, q⟩)
    obtain rfl : p = (.inr "a", .ref b) := by simpa using hp
    exact ⟨.ref b, rfl, .inr (.inl ⟨b, rfl, rfl⟩)⟩
structure Bl2 (mg : Str → Option Value) : Prop where
  isi : mg "isinstance" = none
  bool : mg "bool" = none
section
variable {P : Program} {w : World} {K : PySem.W.Frag} {mg : Str → Option Value} {base : Heap}
theorem scSame : FnScope ["_law_one", "_law_other"] ["_law_one", "_law_other"] (defScope sSame) := ⟨rfl, rfl, rfl, by decide +kernel, rfl, by decide +kernel, by decide +kernel⟩
theorem ok_same {f : Addr} {fd : FuncData} (F : Fun K "_law_same" "_law_same" sSame f fd) (T : Bl2 mg) : FnOk P w K mg base CX0 1 f fd ["_law_one", "_law_other"] spSame := by
  refine F.ok scSame (fun vs H Q E h => ?_) (fun cdv A outer s H vs Q E hr h => ?_)
  · obtain ⟨v, rfl, _⟩ := h
    rfl
  · obtain ⟨v, rfl, hv, q⟩ := h
    refine ⟨_, pss_one (ps_ret (pe_and (pe_cmpR (op_eq.or ((op_eqV hr.units).or (op_eqD hr.units))) (pv 0) (pv 1) (nomark _)) (pe_one (pe_cmpR op_eq
      (pe_callB call_isi (by rfl) T.isi (by decide +kernel) (pa_cons (pv 0) (pa_cons (pe_bltn (v := .ty "bool") (by rfl) T.bool (by decide +kernel) rfl) pa_nil)))
      (pe_callB call_isi (by rfl) T.isi (by decide +kernel) (pa_cons (pv 1) (pa_cons (pe_bltn (v := .ty "bool") (by rfl) T.bool (by decide +kernel) rfl) pa_nil))) (nomark _))))), ?_⟩
    refine ⟨_, rfl, _, rfl, hv.eqs ⟨true, rfl, iteT ?_⟩⟩
    obtain ⟨t, b, ty, kt⟩ := hv.kind (K := K)
    refine ⟨_, rfl, _, _, _, _, b, rfl, .ty "bool", ty, kt, _, rfl, _, _, _, _, b, rfl, .ty "bool", ty, kt, rfl, ?_⟩
    rw [decide_eq_true rfl]
    exact q
theorem scAny : FnScope ["_law_pool_here"] ["_law_pool_here"] (defScope sAny) := ⟨rfl, rfl, rfl, by decide +kernel, rfl, by decide +kernel, by decide +kernel⟩
theorem ok_any {f fT : Addr} {fd fdT : FuncData} (F : Fun K "_law_any" "_law_any" sAny f fd) (G : FnOk P w K mg base CX0 1 fT fdT ["_law_pool_here", "_law_many"] spTake) (mT : mg "_law_take" = some (.ref fT))
    (kT : PySem.W.keepIn K (.ref fT) = true) (bT : Binds K fdT ["_law_pool_here", "_law_many"] []) : FnOk P w K mg base CX0 2 f fd ["_law_pool_here"] spAny := by
  refine F.ok scAny (fun vs H Q E h => ?_) (fun cdv A outer s H vs Q E hr h => ?_)
  · obtain ⟨p, n, rfl, _⟩ := h
    rfl
  · obtain ⟨p, n, rfl, hn, hp, q⟩ := h
    refine ⟨_, pss_one (ps_ret (pe_ix ix_list (pe_lst (pa_cons pe_non (pa_cons pe_bl (pa_cons pe_bl (pa_cons pe_int (pa_cons (pe_un un_neg pe_int) (pa_cons (pe_op op_pow pe_int pe_int) (pa_cons pe_str (pa_cons pe_str
      (pa_cons (pe_tup (pa_cons pe_str (pa_cons pe_int pa_nil))) (pa_cons (pe_lst (pa_cons pe_str (pa_cons (pe_lst (pa_cons pe_int pa_nil)) pa_nil)))
      (pa_cons (pe_disp (pps_cons pe_str (pe_lst pa_nil) pps_nil) (by rfl) (by rfl) (fun z => by cases z) (by decide)) (pa_cons pe_int pa_nil)))))))))))))
      (pe_call G hr rfl mT kT bT .nil pass0 (pa_cons (pv 0) (pa_cons pe_int pa_nil))) (fun _ _ => rfl))), ?_⟩
    refine ⟨_, rfl, _, _, rfl, rfl, ⟨by decide, by decide, by decide⟩, ?_⟩
    refine ⟨by show 2 ≤ sizeLine; decide, fun t nt => ?_⟩
    obtain ⟨H1, s1, h1, e1⟩ := lay (o := .tup [.str "a", .int 1]) nt
    rw [e1]
    refine ⟨by show 1 ≤ sizeLine; decide, fun l2 n2 => ?_⟩
    obtain ⟨H2, s2, h2, e2⟩ := lay (o := .lst [.int 2]) n2
    rw [e2]
    refine ⟨by show 2 ≤ sizeLine; decide, fun l1 n1 => ?_⟩
    obtain ⟨H3, s3, h3, e3⟩ := lay (o := .lst [.str "b", .ref l2]) n1
    rw [e3]
    intro d nd
    obtain ⟨H4, s4, h4, e4⟩ := lay (o := .dK []) nd
    rw [e4]
    refine ⟨by show 0 ≤ sizeLine; decide, fun l3 n3 => ?_⟩
    obtain ⟨H5, s5, h5, e5⟩ := lay (o := .lst []) n3
    rw [e5]
    refine ⟨s5 _ _ h4, [(.inr "a", .ref l3)], rfl, (by show 1 ≤ 15; decide), ?_⟩
    obtain ⟨H6, s6, h6, e6⟩ : ∃ H6, (∀ b o, b ≠ d → H5 b = some o → H6 b = some o) ∧ H6 d = some (.dK [(.inr "a", .ref l3)]) ∧ upd H5 d (.dK (mergeK [] [(.inr "a", .ref l3)])) = H6 :=
      ⟨_, fun b o z e => by rw [upd_ne z]; exact e, upd_same, rfl⟩
    rw [e6]
    have n5 : ∀ b o, H3 b = some o → H6 b = some o := fun b o e => s6 b o (ne_of_none e nd) (s5 _ _ (s4 _ _ e))
    have h5' : H6 l3 = some (.lst []) := s6 _ _ (ne_of_none h4 n3).symm h5
    refine ⟨by show 12 ≤ sizeLine; decide, fun L nL => ?_⟩
    obtain ⟨H7, s7, h7, e7⟩ := lay (o := .lst [.non, .bl true, .bl false, .int 0, .int (-7), .int (10 ^ 30), .str "", .str "a", .ref t, .ref l1, .ref d, .int 1]) nL
    show (tCall spTake [] E0 (tCons (tVar 0) (tCons (tC (.int 12)) tNil))) _ (upd H6 L (.lst [.non, .bl true, .bl false, .int 0, .int (-7), .int (10 ^ 30), .str "", .str "a", .ref t, .ref l1, .ref d, .int 1])) _
    rw [e7]
    have all : Same H H7 := fun b o e => s7 _ _ (n5 _ _ (s3 _ _ (s2 _ _ (s1 _ _ e))))
    obtain ⟨a', b', c', hp', pa⟩ := id hp
    have hp7 : PoolIs H7 p n := ⟨a', b', c', all _ _ hp', pa⟩
    refine ⟨_, rfl, p, 12, n, rfl, by decide, by decide, hn, hp7, fun r a b c r0 r1 a0 b0 b1 c0 c1 => ?_⟩
    have bt : But p H7 (upd H7 p (.lst (poolV a b c))) := fun b o z e => by rw [upd_ne z]; exact e
    have np : PoolIs (upd H7 p (.lst (poolV a b c))) p (n + 1) := ⟨a, b, c, upd_same, a0, b0, b1, c0, c1⟩
    generalize upd H7 p (.lst (poolV a b c)) = H8 at bt np
    have bt' : But p H H8 := fun b o z e => bt b o z (all b o e)
    have L8 : H8 L = some _ := bt _ _ (pool_ne hp7 h7 fun x y z q => by cases q) h7
    obtain ⟨j, rfl⟩ : ∃ j : Nat, r = j := ⟨r.toNat, by omega⟩
    have hj : j < 12 := by omega
    have k7 : ∀ {b : Addr} {o : HO}, H6 b = some o → (∀ x y z, o ≠ .lst (poolV x y z)) → H8 b = some o := fun e d => bt _ _ (pool_ne hp7 (s7 _ _ e) d) (s7 _ _ e)
    have it : ∃ v, ([.non, .bl true, .bl false, .int 0, .int (-7), .int (10 ^ 30), .str "", .str "a", .ref t, .ref l1, .ref d, .int 1] : List V)[j]? = some v ∧ Smp H8 v := by
      match j, hj with
      | 0, _ => exact ⟨_, rfl, .non⟩
      | 1, _ => exact ⟨_, rfl, .bl _⟩
      | 2, _ => exact ⟨_, rfl, .bl _⟩
      | 3, _ => exact ⟨_, rfl, .int _⟩
      | 4, _ => exact ⟨_, rfl, .int _⟩
      | 5, _ => exact ⟨_, rfl, .int _⟩
      | 6, _ => exact ⟨_, rfl, .str _⟩
      | 7, _ => exact ⟨_, rfl, .str _⟩
      | 8, _ => exact ⟨_, rfl, .tup t (k7 (n5 _ _ (s3 _ _ (s2 _ _ h1))) fun x y z q => by cases q)⟩
      | 9, _ => exact ⟨_, rfl, .lst l1 l2 (k7 (n5 _ _ h3) fun x y z q => by cases q) (k7 (n5 _ _ (s3 _ _ h2)) fun x y z q => by cases q)⟩
      | 10, _ => exact ⟨_, rfl, .dct d l3 (k7 h6 fun x y z q => by cases q) (k7 h5' fun x y z q => by cases q)⟩
      | 11, _ => exact ⟨_, rfl, .int _⟩
    obtain ⟨v, hv, sv⟩ := it
    exact ⟨L, _, _, v, rfl, rfl, SqL.of L8, atI_nat hv, q v H8 sv bt' np⟩
end
end K1
set_option Elab.async false
set_option linter.all false
set_option maxRecDepth 100000
set_option maxHeartbeats 4000000
/-! The lists of errors: made by place, made by name, what they keep, what kinds they are. -/
namespace K1
open PySem PySem.Spec L2
theorem pe_weak {X : Cx} {e : Expr} {t t' : TE} (h : PE X e t) (w : ∀ σ H Q, t' σ H Q → t σ H Q) : PE X e t' := ⟨fun pins s σ H Q I q => h.run pins s σ H Q I (w σ H Q q)⟩
def spInit (C : Addr) (f : Str) : Sp := fun vs H Q _ => ∃ (a : Addr) (y : V), vs = [.ref a, y] ∧ H a = some (exo a C none) ∧ ∀ d, H d = none → d ≠ a → Q .non (upd (upd H d (exd d [(f, y)])) a (exo a C (some d)))
/-- an error class with one field, as the walk wants it -/
structure Cl (P : Program) (w : World) (K : PySem.W.Frag) (mg : Str → Option Value) (base : Heap) (n : Str) (c : Addr × Str) : Prop where
  gC : mg n = some (.ref c.1)
  T : ExT K c.1
  no : PySem.W.findIn K (.ref c.1) c.2 = some none
  ini : ∃ (fI : Addr) (fd : FuncData), PySem.W.findIn K (.ref c.1) "__init__" = some (some (.ref fI)) ∧ PySem.W.typeIn K (.ref fI) = some (.type "function") ∧ FnOk P w K mg base CX0 1 fI fd ["self", c.2] (spInit c.1 c.2) ∧
    (∀ (s : Shared) (self u : Value), BindsTo s fd ⟨[self, u], []⟩ ((["self", c.2] : List Str).zip [self, u])) ∧ (∀ (s : Shared) (self u : Value), BindsTo s fd ⟨[self], [(c.2, u)]⟩ ((["self", c.2] : List Str).zip [self, u]))
/-- the error x of the class and field c, with the value v -/
def IsEr (H : Hp) (v : V) (c : Addr × Str) (x : V) : Prop := ∃ a d, x = .ref a ∧ Er H a c.1 d c.2 v
def Ers (H : Hp) (v : V) : List (Addr × Str) → List V → Prop := Paired (IsEr H v)
theorem IsEr.mono {H H' : Hp} {v x : V} {c : Addr × Str} (s : Same H H') (h : IsEr H v c x) : IsEr H' v c x := let ⟨a, d, e, r⟩ := h; ⟨a, d, e, r.mono s⟩
theorem Ers.mono {H H' : Hp} {v : V} {l : List (Addr × Str)} {xs : List V} (s : Same H H') (h : Ers H v l xs) : Ers H' v l xs := Paired.mapP h fun _ _ r => r.mono s
theorem Ers.app {H : Hp} {v : V} : ∀ {l l' : List (Addr × Str)} {xs ys : List V}, Ers H v l xs → Ers H v l' ys → Ers H v (l ++ l') (xs ++ ys)
  | _, _, _, _, .nil, s => s
  | _, _, _, _, .cons r t, s => .cons r (Ers.app t s)
/-- a new error of the class c, its field the value in slot i -/
def tNew (i : Nat) (c : Addr × Str) : TE := fun σ H Q => ∃ v, σ[i]? = some (some v) ∧ ∀ x H', Same H H' → IsEr H' v c x → Q x H'
theorem new_of {c : Addr × Str} {v : V} {H : Hp} {Q : VK} (q : ∀ x H', Same H H' → IsEr H' v c x → Q x H') : mkE c.1 (spInit c.1 c.2) [v] H Q := fun a ha => ⟨a, v, rfl, upd_same, fun d hd ne => ⟨rfl, q (.ref a) _ (fun b o e => by
    have h1 : b ≠ a := ne_of_none e ha
    have h2 : b ≠ d := fun z => by
      rw [z] at e
      have hd' : H d = none := by
        have := hd
        rw [upd_ne ne] at this
        exact this
      rw [hd'] at e
      cases e
    rw [upd_ne h1, upd_ne h2, upd_ne h1]
    exact e) ⟨a, d, rfl, ⟨upd_same, by rw [upd_ne ne]; exact upd_same⟩⟩⟩⟩
section
variable {X : Cx} {n : Str} {c : Addr × Str} {e : Expr} {p pos kpos : Pos} {i : Nat} {kws : List Keyword}
theorem pe_newP (cl : Cl X.prog X.w X.K X.mg X.base n c) (hr : Room 2 X.A) (hg : Gl X n) (he' : PE X e (tVar i)) (hdb : (n == ("__debug__" : Str)) = false := by decide)
    (he : starEach [e] X.env = (false, eval e X.env) :: starEach [] X.env := by rfl) (hpl : (backTo pos (starEach [] X.env)).any (·.1) = false := by rfl) : PE X (.Call (.Name n p) [e] [] pos) (tNew i c) := by
  obtain ⟨fI, fd, iC, tI, F, b1, b2⟩ := cl.ini
  refine pe_weak (pe_exP cl.T iC tI F hr hg cl.gC b1 (pa_cons he' pa_nil he) hdb he hpl) fun σ H Q h => ?_
  obtain ⟨v, hv, q⟩ := h
  exact ⟨v, hv, rfl, new_of q⟩
theorem pe_newK (cl : Cl X.prog X.w X.K X.mg X.base n c) (hr : Room 2 X.A) (hg : Gl X n) (hk : PK X kws (tCons (tVar i) tNil))
    (hall : (backToKw pos (keywordEach kws X.env)).all (·.1.isSome) = true := by rfl) (hks : (backToKw pos (keywordEach kws X.env)).filterMap (·.1) = [c.2] := by rfl) (hdb : (n == ("__debug__" : Str)) = false := by decide)
    (hpl : ((backTo pos (starEach [] X.env)).any (·.1) || (backToKw pos (keywordEach kws X.env)).any (·.1.isNone)) = false := by rfl) : PE X (.Call (.Name n p) [] kws pos) (tNew i c) := by
  obtain ⟨fI, fd, iC, tI, F, b1, b2⟩ := cl.ini
  refine pe_weak (pe_exK cl.T iC tI F hr hg cl.gC b2 hk hall hks hdb hpl) fun σ H Q h => ?_
  obtain ⟨v, hv, q⟩ := h
  exact ⟨v, hv, rfl, new_of q⟩
end
/-- several new errors in a row -/
def tNews (i : Nat) : List (Addr × Str) → TA
  | [] => tNil
  | c :: r => tCons (tNew i c) (tNews i r)
theorem news_ok {i : Nat} {v : V} {σ : L2.St} (hv : σ[i]? = some (some v)) : ∀ (l : List (Addr × Str)) (H : Hp) (Q : List V → Hp → Prop), (∀ xs H', Same H H' → Ers H' v l xs → Q xs H') → tNews i l σ H Q
  | [], H, Q, q => q [] H (Same.refl H) .nil
  | c :: r, H, Q, q => ⟨v, hv, fun x H1 s1 e1 => news_ok hv r H1 _ fun xs H2 s2 e2 => q (x :: xs) H2 (s1.trans s2) (.cons (e1.mono s2) e2)⟩
theorem Paired.len {α β : Type} {R : α → β → Prop} : ∀ {l : List α} {m : List β}, Paired R l m → l.length = m.length
  | _, _, .nil => rfl
  | _, _, .cons _ t => congrArg Nat.succ (Paired.len t)
/-- found = [..] -/
theorem first_ok {v : V} {o : Option V} (l : List (Addr × Str)) (hl : l.length ≤ 100) {H : Hp} {D : Ends} (q : ∀ a xs H', Same H H' → H' a = some (.lst xs) → Ers H' v l xs → D.nx [some v, some (.ref a)] H') :
    tAsg (tLst (tNews 0 l)) (gName 1) D [some v, o] H := by
  refine news_ok rfl l H _ fun xs H1 s1 e1 => ⟨?_, fun p hp => ?_⟩
  · rw [← Paired.len e1, sizeLine_eq]; omega
  · obtain ⟨H2, s2, h2, e2⟩ := lay (o := .lst xs) hp
    rw [e2]
    exact q p xs H2 (s1.trans s2) h2 (e1.mono s2)
/-- found = found + [..] -/
theorem more_ok {v : V} {a : Addr} {xs0 : List V} (l0 l : List (Addr × Str)) (hl : l.length ≤ 100) (hl0 : l0.length ≤ 100) {H : Hp} {D : Ends} (ha : H a = some (.lst xs0)) (h0 : Ers H v l0 xs0)
    (q : ∀ b xs H', Same H H' → H' b = some (.lst xs) → Ers H' v (l0 ++ l) xs → D.nx [some v, some (.ref b)] H') :
    tAsg (tOp rCat (tVar 1) (tLst (tNews 0 l))) (gName 1) D [some v, some (.ref a)] H := by
  refine ⟨_, rfl, news_ok rfl l H _ fun xs H1 s1 e1 => ⟨?_, fun p hp => ?_⟩⟩
  · rw [← Paired.len e1, sizeLine_eq]; omega
  · obtain ⟨H2, s2, h2, e2⟩ := lay (o := .lst xs) hp
    rw [e2]
    refine ⟨a, p, xs0, xs, rfl, rfl, s2 _ _ (s1 _ _ ha), h2, ?_, fun b hb => ?_⟩
    · rw [← Paired.len e1, ← Paired.len h0, sizeLine_eq]; omega
    · obtain ⟨H3, s3, h3, e3⟩ := lay (o := .lst (xs0 ++ xs)) hb
      rw [e3]
      have s03 := (s1.trans s2).trans s3
      exact q b _ H3 s03 h3 (Ers.app (h0.mono s03) (e1.mono (s2.trans s3)))
def spMade (l : List (Addr × Str)) : Sp := fun vs H Q _ => ∃ v, vs = [v] ∧ ∀ b xs H', Same H H' → H' b = some (.lst xs) → Ers H' v l xs → Q (.ref b) H'
end K1
set_option Elab.async false
set_option linter.all false
set_option maxRecDepth 100000
set_option maxHeartbeats 8000000
namespace K1
open PySem PySem.Spec L2
abbrev sByP : Stmt := topS 40
abbrev sByN : Stmt := topS 41
/-- the classes with a field: place among all, name, field -/
def tab : List (Nat × Str × Str) := [(0, "BadLetter", "key"), (1, "BadFixed", "index"), (2, "BadCommuting", "index"), (3, "BadFact", "index"), (4, "BadTerm", "path"), (5, "NoPart", "path"), (6, "BadPermit", "index"), (8, "NoRow", "row"), (9, "BadBits", "index"), (10, "BadRelation", "relation"), (11, "BadPlayer", "key"), (12, "Clash", "name"), (13, "BadRow", "index"), (14, "BadTold", "told"), (15, "NoSuch", "number"), (17, "BadName", "name"), (18, "Taken", "name"), (19, "Broken", "bits"), (20, "NoRule", "name"), (21, "BadNumber", "number"), (22, "Held", "name"), (23, "NotHeld", "name"), (25, "BadText", "place"), (26, "BadEvent", "event"), (27, "BadMark", "index"), (28, "BadFunction", "index"), (29, "NoFunction", "name"), (31, "BadRows", "index"), (32, "BadWeave", "index")]
def ctab (cs : Nat → Addr) : List (Addr × Str) := tab.map fun t => (cs t.1, t.2.2)
structure Cls29 (P : Program) (w : World) (K : PySem.W.Frag) (mg : Str → Option Value) (base : Heap) (cs : Nat → Addr) : Prop where
  at_ : ∀ t ∈ tab, Cl P w K mg base t.2.1 (cs t.1, t.2.2)
section
variable {P : Program} {w : World} {K : PySem.W.Frag} {mg : Str → Option Value} {base : Heap} {cs : Nat → Addr}
theorem Cls29.get (Z : Cls29 P w K mg base cs) (j : Nat) {t : Nat × Str × Str} (h : tab[j]? = some t) : Cl P w K mg base t.2.1 (cs t.1, t.2.2) := Z.at_ t (List.mem_of_getElem? h)
theorem scByP : FnScope ["_law_x", "_law_found"] ["_law_x"] (defScope sByP) := ⟨rfl, rfl, rfl, by decide +kernel, rfl, by decide +kernel, by decide +kernel⟩
theorem ok_ByP {f : Addr} {fd : FuncData} (F : Fun K "_law_by_place" "_law_by_place" sByP f fd) (Z : Cls29 P w K mg base cs) : FnOk P w K mg base CX0 3 f fd ["_law_x"] (spMade (ctab cs)) := by
  refine F.ok scByP (fun vs H Q E h => ?_) (fun cdv A outer s H vs Q E hr h => ?_)
  · obtain ⟨v, rfl, _⟩ := h
    rfl
  · obtain ⟨v, rfl, q⟩ := h
    refine ⟨_, pss_cons (ps_set (i := 1) scByP.nd rfl (.inl rfl) (pe_lst (pa_cons (pe_newP (i := 0) (Z.get 0 rfl) hr rfl (pv 0)) (pa_cons (pe_newP (i := 0) (Z.get 1 rfl) hr rfl (pv 0)) (pa_cons (pe_newP (i := 0) (Z.get 2 rfl) hr rfl (pv 0)) (pa_cons (pe_newP (i := 0) (Z.get 3 rfl) hr rfl (pv 0)) (pa_cons (pe_newP (i := 0) (Z.get 4 rfl) hr rfl (pv 0)) (pa_cons (pe_newP (i := 0) (Z.get 5 rfl) hr rfl (pv 0)) (pa_cons (pe_newP (i := 0) (Z.get 6 rfl) hr rfl (pv 0)) pa_nil))))))))) (
      pss_cons (ps_set (i := 1) scByP.nd rfl (.inl rfl) (pe_op op_cat (pv 1) (pe_lst (pa_cons (pe_newP (i := 0) (Z.get 7 rfl) hr rfl (pv 0)) (pa_cons (pe_newP (i := 0) (Z.get 8 rfl) hr rfl (pv 0)) (pa_cons (pe_newP (i := 0) (Z.get 9 rfl) hr rfl (pv 0)) (pa_cons (pe_newP (i := 0) (Z.get 10 rfl) hr rfl (pv 0)) (pa_cons (pe_newP (i := 0) (Z.get 11 rfl) hr rfl (pv 0)) (pa_cons (pe_newP (i := 0) (Z.get 12 rfl) hr rfl (pv 0)) (pa_cons (pe_newP (i := 0) (Z.get 13 rfl) hr rfl (pv 0)) pa_nil)))))))))) (
      pss_cons (ps_set (i := 1) scByP.nd rfl (.inl rfl) (pe_op op_cat (pv 1) (pe_lst (pa_cons (pe_newP (i := 0) (Z.get 14 rfl) hr rfl (pv 0)) (pa_cons (pe_newP (i := 0) (Z.get 15 rfl) hr rfl (pv 0)) (pa_cons (pe_newP (i := 0) (Z.get 16 rfl) hr rfl (pv 0)) (pa_cons (pe_newP (i := 0) (Z.get 17 rfl) hr rfl (pv 0)) (pa_cons (pe_newP (i := 0) (Z.get 18 rfl) hr rfl (pv 0)) (pa_cons (pe_newP (i := 0) (Z.get 19 rfl) hr rfl (pv 0)) (pa_cons (pe_newP (i := 0) (Z.get 20 rfl) hr rfl (pv 0)) pa_nil)))))))))) (
      pss_cons (ps_set (i := 1) scByP.nd rfl (.inl rfl) (pe_op op_cat (pv 1) (pe_lst (pa_cons (pe_newP (i := 0) (Z.get 21 rfl) hr rfl (pv 0)) (pa_cons (pe_newP (i := 0) (Z.get 22 rfl) hr rfl (pv 0)) (pa_cons (pe_newP (i := 0) (Z.get 23 rfl) hr rfl (pv 0)) (pa_cons (pe_newP (i := 0) (Z.get 24 rfl) hr rfl (pv 0)) (pa_cons (pe_newP (i := 0) (Z.get 25 rfl) hr rfl (pv 0)) (pa_cons (pe_newP (i := 0) (Z.get 26 rfl) hr rfl (pv 0)) pa_nil))))))))) (
      pss_cons (ps_set (i := 1) scByP.nd rfl (.inl rfl) (pe_op op_cat (pv 1) (pe_lst (pa_cons (pe_newP (i := 0) (Z.get 27 rfl) hr rfl (pv 0)) (pa_cons (pe_newP (i := 0) (Z.get 28 rfl) hr rfl (pv 0)) pa_nil))))) (pss_one (ps_ret (pv 1))))))), ?_⟩
    refine first_ok ([(cs 0, "key"), (cs 1, "index"), (cs 2, "index"), (cs 3, "index"), (cs 4, "path"), (cs 5, "path"), (cs 6, "index")] : List (Addr × Str)) (by show (7 : Nat) ≤ 100; decide) fun a1 x1 H1 s1 h1 e1 => ?_
    refine more_ok (([(cs 0, "key"), (cs 1, "index"), (cs 2, "index"), (cs 3, "index"), (cs 4, "path"), (cs 5, "path"), (cs 6, "index")] : List (Addr × Str))) ([(cs 8, "row"), (cs 9, "index"), (cs 10, "relation"), (cs 11, "key"), (cs 12, "name"), (cs 13, "index"), (cs 14, "told")] : List (Addr × Str)) (by show (7 : Nat) ≤ 100; decide) (by show (7 : Nat) ≤ 100; decide) h1 e1 fun a2 x2 H2 s2 h2 e2 => ?_
    refine more_ok (([(cs 0, "key"), (cs 1, "index"), (cs 2, "index"), (cs 3, "index"), (cs 4, "path"), (cs 5, "path"), (cs 6, "index")] : List (Addr × Str)) ++ ([(cs 8, "row"), (cs 9, "index"), (cs 10, "relation"), (cs 11, "key"), (cs 12, "name"), (cs 13, "index"), (cs 14, "told")] : List (Addr × Str))) ([(cs 15, "number"), (cs 17, "name"), (cs 18, "name"), (cs 19, "bits"), (cs 20, "name"), (cs 21, "number"), (cs 22, "name")] : List (Addr × Str)) (by show (7 : Nat) ≤ 100; decide) (by show (14 : Nat) ≤ 100; decide) h2 e2 fun a3 x3 H3 s3 h3 e3 => ?_
    refine more_ok (([(cs 0, "key"), (cs 1, "index"), (cs 2, "index"), (cs 3, "index"), (cs 4, "path"), (cs 5, "path"), (cs 6, "index")] : List (Addr × Str)) ++ ([(cs 8, "row"), (cs 9, "index"), (cs 10, "relation"), (cs 11, "key"), (cs 12, "name"), (cs 13, "index"), (cs 14, "told")] : List (Addr × Str)) ++ ([(cs 15, "number"), (cs 17, "name"), (cs 18, "name"), (cs 19, "bits"), (cs 20, "name"), (cs 21, "number"), (cs 22, "name")] : List (Addr × Str))) ([(cs 23, "name"), (cs 25, "place"), (cs 26, "event"), (cs 27, "index"), (cs 28, "index"), (cs 29, "name")] : List (Addr × Str)) (by show (6 : Nat) ≤ 100; decide) (by show (21 : Nat) ≤ 100; decide) h3 e3 fun a4 x4 H4 s4 h4 e4 => ?_
    refine more_ok (([(cs 0, "key"), (cs 1, "index"), (cs 2, "index"), (cs 3, "index"), (cs 4, "path"), (cs 5, "path"), (cs 6, "index")] : List (Addr × Str)) ++ ([(cs 8, "row"), (cs 9, "index"), (cs 10, "relation"), (cs 11, "key"), (cs 12, "name"), (cs 13, "index"), (cs 14, "told")] : List (Addr × Str)) ++ ([(cs 15, "number"), (cs 17, "name"), (cs 18, "name"), (cs 19, "bits"), (cs 20, "name"), (cs 21, "number"), (cs 22, "name")] : List (Addr × Str)) ++ ([(cs 23, "name"), (cs 25, "place"), (cs 26, "event"), (cs 27, "index"), (cs 28, "index"), (cs 29, "name")] : List (Addr × Str))) ([(cs 31, "index"), (cs 32, "index")] : List (Addr × Str)) (by show (2 : Nat) ≤ 100; decide) (by show (27 : Nat) ≤ 100; decide) h4 e4 fun a5 x5 H5 s5 h5 e5 => ?_
    exact ⟨_, rfl, q a5 x5 H5 ((((s1.trans s2).trans s3).trans s4).trans s5) h5 e5⟩
theorem scByN : FnScope ["_law_x", "_law_found"] ["_law_x"] (defScope sByN) := ⟨rfl, rfl, rfl, by decide +kernel, rfl, by decide +kernel, by decide +kernel⟩
theorem ok_ByN {f : Addr} {fd : FuncData} (F : Fun K "_law_by_name" "_law_by_name" sByN f fd) (Z : Cls29 P w K mg base cs) : FnOk P w K mg base CX0 3 f fd ["_law_x"] (spMade (ctab cs)) := by
  refine F.ok scByN (fun vs H Q E h => ?_) (fun cdv A outer s H vs Q E hr h => ?_)
  · obtain ⟨v, rfl, _⟩ := h
    rfl
  · obtain ⟨v, rfl, q⟩ := h
    refine ⟨_, pss_cons (ps_set (i := 1) scByN.nd rfl (.inl rfl) (pe_lst (pa_cons (pe_newK (i := 0) (Z.get 0 rfl) hr rfl (pk_cons (pv 0) pk_nil)) (pa_cons (pe_newK (i := 0) (Z.get 1 rfl) hr rfl (pk_cons (pv 0) pk_nil)) (pa_cons (pe_newK (i := 0) (Z.get 2 rfl) hr rfl (pk_cons (pv 0) pk_nil)) (pa_cons (pe_newK (i := 0) (Z.get 3 rfl) hr rfl (pk_cons (pv 0) pk_nil)) pa_nil)))))) (
      pss_cons (ps_set (i := 1) scByN.nd rfl (.inl rfl) (pe_op op_cat (pv 1) (pe_lst (pa_cons (pe_newK (i := 0) (Z.get 4 rfl) hr rfl (pk_cons (pv 0) pk_nil)) (pa_cons (pe_newK (i := 0) (Z.get 5 rfl) hr rfl (pk_cons (pv 0) pk_nil)) (pa_cons (pe_newK (i := 0) (Z.get 6 rfl) hr rfl (pk_cons (pv 0) pk_nil)) (pa_cons (pe_newK (i := 0) (Z.get 7 rfl) hr rfl (pk_cons (pv 0) pk_nil)) (pa_cons (pe_newK (i := 0) (Z.get 8 rfl) hr rfl (pk_cons (pv 0) pk_nil)) pa_nil)))))))) (
      pss_cons (ps_set (i := 1) scByN.nd rfl (.inl rfl) (pe_op op_cat (pv 1) (pe_lst (pa_cons (pe_newK (i := 0) (Z.get 9 rfl) hr rfl (pk_cons (pv 0) pk_nil)) (pa_cons (pe_newK (i := 0) (Z.get 10 rfl) hr rfl (pk_cons (pv 0) pk_nil)) (pa_cons (pe_newK (i := 0) (Z.get 11 rfl) hr rfl (pk_cons (pv 0) pk_nil)) (pa_cons (pe_newK (i := 0) (Z.get 12 rfl) hr rfl (pk_cons (pv 0) pk_nil)) pa_nil))))))) (
      pss_cons (ps_set (i := 1) scByN.nd rfl (.inl rfl) (pe_op op_cat (pv 1) (pe_lst (pa_cons (pe_newK (i := 0) (Z.get 13 rfl) hr rfl (pk_cons (pv 0) pk_nil)) (pa_cons (pe_newK (i := 0) (Z.get 14 rfl) hr rfl (pk_cons (pv 0) pk_nil)) (pa_cons (pe_newK (i := 0) (Z.get 15 rfl) hr rfl (pk_cons (pv 0) pk_nil)) (pa_cons (pe_newK (i := 0) (Z.get 16 rfl) hr rfl (pk_cons (pv 0) pk_nil)) (pa_cons (pe_newK (i := 0) (Z.get 17 rfl) hr rfl (pk_cons (pv 0) pk_nil)) pa_nil)))))))) (
      pss_cons (ps_set (i := 1) scByN.nd rfl (.inl rfl) (pe_op op_cat (pv 1) (pe_lst (pa_cons (pe_newK (i := 0) (Z.get 18 rfl) hr rfl (pk_cons (pv 0) pk_nil)) (pa_cons (pe_newK (i := 0) (Z.get 19 rfl) hr rfl (pk_cons (pv 0) pk_nil)) (pa_cons (pe_newK (i := 0) (Z.get 20 rfl) hr rfl (pk_cons (pv 0) pk_nil)) (pa_cons (pe_newK (i := 0) (Z.get 21 rfl) hr rfl (pk_cons (pv 0) pk_nil)) pa_nil))))))) (
      pss_cons (ps_set (i := 1) scByN.nd rfl (.inl rfl) (pe_op op_cat (pv 1) (pe_lst (pa_cons (pe_newK (i := 0) (Z.get 22 rfl) hr rfl (pk_cons (pv 0) pk_nil)) (pa_cons (pe_newK (i := 0) (Z.get 23 rfl) hr rfl (pk_cons (pv 0) pk_nil)) (pa_cons (pe_newK (i := 0) (Z.get 24 rfl) hr rfl (pk_cons (pv 0) pk_nil)) (pa_cons (pe_newK (i := 0) (Z.get 25 rfl) hr rfl (pk_cons (pv 0) pk_nil)) pa_nil))))))) (
      pss_cons (ps_set (i := 1) scByN.nd rfl (.inl rfl) (pe_op op_cat (pv 1) (pe_lst (pa_cons (pe_newK (i := 0) (Z.get 26 rfl) hr rfl (pk_cons (pv 0) pk_nil)) (pa_cons (pe_newK (i := 0) (Z.get 27 rfl) hr rfl (pk_cons (pv 0) pk_nil)) (pa_cons (pe_newK (i := 0) (Z.get 28 rfl) hr rfl (pk_cons (pv 0) pk_nil)) pa_nil)))))) (pss_one (ps_ret (pv 1))))))))), ?_⟩
    refine first_ok ([(cs 0, "key"), (cs 1, "index"), (cs 2, "index"), (cs 3, "index")] : List (Addr × Str)) (by show (4 : Nat) ≤ 100; decide) fun a1 x1 H1 s1 h1 e1 => ?_
    refine more_ok (([(cs 0, "key"), (cs 1, "index"), (cs 2, "index"), (cs 3, "index")] : List (Addr × Str))) ([(cs 4, "path"), (cs 5, "path"), (cs 6, "index"), (cs 8, "row"), (cs 9, "index")] : List (Addr × Str)) (by show (5 : Nat) ≤ 100; decide) (by show (4 : Nat) ≤ 100; decide) h1 e1 fun a2 x2 H2 s2 h2 e2 => ?_
    refine more_ok (([(cs 0, "key"), (cs 1, "index"), (cs 2, "index"), (cs 3, "index")] : List (Addr × Str)) ++ ([(cs 4, "path"), (cs 5, "path"), (cs 6, "index"), (cs 8, "row"), (cs 9, "index")] : List (Addr × Str))) ([(cs 10, "relation"), (cs 11, "key"), (cs 12, "name"), (cs 13, "index")] : List (Addr × Str)) (by show (4 : Nat) ≤ 100; decide) (by show (9 : Nat) ≤ 100; decide) h2 e2 fun a3 x3 H3 s3 h3 e3 => ?_
    refine more_ok (([(cs 0, "key"), (cs 1, "index"), (cs 2, "index"), (cs 3, "index")] : List (Addr × Str)) ++ ([(cs 4, "path"), (cs 5, "path"), (cs 6, "index"), (cs 8, "row"), (cs 9, "index")] : List (Addr × Str)) ++ ([(cs 10, "relation"), (cs 11, "key"), (cs 12, "name"), (cs 13, "index")] : List (Addr × Str))) ([(cs 14, "told"), (cs 15, "number"), (cs 17, "name"), (cs 18, "name"), (cs 19, "bits")] : List (Addr × Str)) (by show (5 : Nat) ≤ 100; decide) (by show (13 : Nat) ≤ 100; decide) h3 e3 fun a4 x4 H4 s4 h4 e4 => ?_
    refine more_ok (([(cs 0, "key"), (cs 1, "index"), (cs 2, "index"), (cs 3, "index")] : List (Addr × Str)) ++ ([(cs 4, "path"), (cs 5, "path"), (cs 6, "index"), (cs 8, "row"), (cs 9, "index")] : List (Addr × Str)) ++ ([(cs 10, "relation"), (cs 11, "key"), (cs 12, "name"), (cs 13, "index")] : List (Addr × Str)) ++ ([(cs 14, "told"), (cs 15, "number"), (cs 17, "name"), (cs 18, "name"), (cs 19, "bits")] : List (Addr × Str))) ([(cs 20, "name"), (cs 21, "number"), (cs 22, "name"), (cs 23, "name")] : List (Addr × Str)) (by show (4 : Nat) ≤ 100; decide) (by show (18 : Nat) ≤ 100; decide) h4 e4 fun a5 x5 H5 s5 h5 e5 => ?_
    refine more_ok (([(cs 0, "key"), (cs 1, "index"), (cs 2, "index"), (cs 3, "index")] : List (Addr × Str)) ++ ([(cs 4, "path"), (cs 5, "path"), (cs 6, "index"), (cs 8, "row"), (cs 9, "index")] : List (Addr × Str)) ++ ([(cs 10, "relation"), (cs 11, "key"), (cs 12, "name"), (cs 13, "index")] : List (Addr × Str)) ++ ([(cs 14, "told"), (cs 15, "number"), (cs 17, "name"), (cs 18, "name"), (cs 19, "bits")] : List (Addr × Str)) ++ ([(cs 20, "name"), (cs 21, "number"), (cs 22, "name"), (cs 23, "name")] : List (Addr × Str))) ([(cs 25, "place"), (cs 26, "event"), (cs 27, "index"), (cs 28, "index")] : List (Addr × Str)) (by show (4 : Nat) ≤ 100; decide) (by show (22 : Nat) ≤ 100; decide) h5 e5 fun a6 x6 H6 s6 h6 e6 => ?_
    refine more_ok (([(cs 0, "key"), (cs 1, "index"), (cs 2, "index"), (cs 3, "index")] : List (Addr × Str)) ++ ([(cs 4, "path"), (cs 5, "path"), (cs 6, "index"), (cs 8, "row"), (cs 9, "index")] : List (Addr × Str)) ++ ([(cs 10, "relation"), (cs 11, "key"), (cs 12, "name"), (cs 13, "index")] : List (Addr × Str)) ++ ([(cs 14, "told"), (cs 15, "number"), (cs 17, "name"), (cs 18, "name"), (cs 19, "bits")] : List (Addr × Str)) ++ ([(cs 20, "name"), (cs 21, "number"), (cs 22, "name"), (cs 23, "name")] : List (Addr × Str)) ++ ([(cs 25, "place"), (cs 26, "event"), (cs 27, "index"), (cs 28, "index")] : List (Addr × Str))) ([(cs 29, "name"), (cs 31, "index"), (cs 32, "index")] : List (Addr × Str)) (by show (3 : Nat) ≤ 100; decide) (by show (26 : Nat) ≤ 100; decide) h6 e6 fun a7 x7 H7 s7 h7 e7 => ?_
    exact ⟨_, rfl, q a7 x7 H7 ((((((s1.trans s2).trans s3).trans s4).trans s5).trans s6).trans s7) h7 e7⟩
end
end K1
set_option Elab.async false
set_option linter.all false
set_option maxRecDepth 100000
set_option maxHeartbeats 8000000
/-! What the errors keep, what kinds they are. -/
namespace K1
open PySem PySem.Spec L2
abbrev sFields : Stmt := topS 42
abbrev sKinds : Stmt := topS 43
abbrev sOwn : Stmt := topS 44
theorem Paired.at_ {α β : Type} {R : α → β → Prop} : ∀ {l : List α} {m : List β} {j : Nat} {c : α}, Paired R l m → l[j]? = some c → ∃ x, m[j]? = some x ∧ R c x
  | _, _, j, c, .nil, e => by simp at e
  | _, _, 0, c, .cons r _, e => by
    obtain rfl : _ = c := by simpa using e
    exact ⟨_, rfl, r⟩
  | _, _, j + 1, c, .cons _ t, e => Paired.at_ (j := j) t (by simpa using e)
def tFl (K : PySem.W.Frag) : List (Nat × Str) → TA
  | [] => tNil
  | p :: r => tCons (tXg K p.2 (tOp (rIxL K) (tVar 0) (tC (.int (p.1 : Int))))) (tFl K r)
theorem fl_ok {K : PySem.W.Frag} {a : Addr} {v : V} {xs : List V} {l : List (Addr × Str)} {σ : L2.St} {H : Hp} (hσ : σ[0]? = some (some (.ref a))) (ha : H a = some (.lst xs)) (he : Ers H v l xs)
    (hl : ∀ c ∈ l, ExT K c.1 ∧ PySem.W.findIn K (.ref c.1) c.2 = some none) : ∀ (ks : List (Nat × Str)) (Q : List V → Hp → Prop), (∀ p ∈ ks, ∃ c, l[p.1]? = some c ∧ c.2 = p.2) → Q (List.replicate ks.length v) H → tFl K ks σ H Q
  | [], Q, _, q => q
  | p :: r, Q, h, q => by
    obtain ⟨c, hc, ec⟩ := h p List.mem_cons_self
    obtain ⟨x, hx, b, d, ex, er⟩ := Paired.at_ he hc
    subst ex
    obtain ⟨T, no⟩ := hl c (List.mem_of_getElem? hc)
    rw [ec] at er no
    exact ⟨_, hσ, a, xs, _, _, rfl, rfl, SqL.of ha, atI_nat hx, b, c.1, d, v, rfl, T, no, er, fl_ok hσ ha he hl r _ (fun p hp => h p (List.mem_cons_of_mem _ hp)) q⟩
/-- found = [..], of values that the pieces give without a change of the heap -/
theorem firstL_ok {s0 : Option V} {o : Option V} {t : TA} {ys : List V} (hl : ys.length ≤ 100) {H : Hp} {D : Ends} (ht : ∀ Q : List V → Hp → Prop, Q ys H → t [s0, o] H Q) (q : ∀ a H', Same H H' → H' a = some (.lst ys) → D.nx [s0, some (.ref a)] H') :
    tAsg (tLst t) (gName 1) D [s0, o] H := by
  refine ht _ ⟨by rw [sizeLine_eq]; omega, fun p hp => ?_⟩
  obtain ⟨H2, s2, h2, e2⟩ := lay (o := .lst ys) hp
  rw [e2]
  exact q p H2 s2 h2
/-- found = found + [..] likewise -/
theorem moreL_ok {s0 : Option V} {a : Addr} {t : TA} {xs ys : List V} (hx : xs.length ≤ 100) (hl : ys.length ≤ 100) {H : Hp} {D : Ends} (ha : H a = some (.lst xs)) (ht : ∀ Q : List V → Hp → Prop, Q ys H → t [s0, some (.ref a)] H Q)
    (q : ∀ b H', Same H H' → H' b = some (.lst (xs ++ ys)) → D.nx [s0, some (.ref b)] H') :
    tAsg (tOp rCat (tVar 1) (tLst t)) (gName 1) D [s0, some (.ref a)] H := by
  refine ⟨_, rfl, ht _ ⟨by rw [sizeLine_eq]; omega, fun p hp => ?_⟩⟩
  obtain ⟨H2, s2, h2, e2⟩ := lay (o := .lst ys) hp
  rw [e2]
  refine ⟨a, p, xs, ys, rfl, rfl, s2 _ _ ha, h2, by rw [sizeLine_eq]; omega, fun b hb => ?_⟩
  obtain ⟨H3, s3, h3, e3⟩ := lay (o := .lst (xs ++ ys)) hb
  rw [e3]
  exact q b H3 (s2.trans s3) h3
def spFields (l : List (Addr × Str)) : Sp := fun vs H Q _ => ∃ a v xs, vs = [.ref a] ∧ H a = some (.lst xs) ∧ Ers H v l xs ∧ ∀ b H', Same H H' → H' b = some (.lst (List.replicate l.length v)) → Q (.ref b) H'
/-- isinstance of slot 0, class after class -/
def tKi (K : PySem.W.Frag) (C : Addr) : List Addr → TA
  | [] => tNil
  | D :: r => tCons (tCB (rIsX K C) (tCons (tVar 0) (tCons (tC (.ref D)) tNil))) (tKi K C r)
def kinds (C : Addr) (l : List Addr) : List V := l.map fun D => .bl (decide (C = D))
theorem ki_ok {K : PySem.W.Frag} {C : Addr} {x : V} {σ : L2.St} {H : Hp} (hσ : σ[0]? = some (some x)) (he : ErV H C x) : ∀ (l : List Addr) (Q : List V → Hp → Prop), (∀ D ∈ l, PySem.W.kitOne K (.ref C) (.ref D) = some (decide (C = D))) → Q (kinds C l) H → tKi K C l σ H Q
  | [], Q, _, q => q
  | D :: r, Q, h, q => ⟨x, hσ, x, .ref D, .ref D, _, rfl, .own D, he, h D List.mem_cons_self, ki_ok hσ he r _ (fun E hE => h E (List.mem_cons_of_mem _ hE)) q⟩
/-- the class C among the 33 (cs) -/
structure Kit (K : PySem.W.Frag) (cs : Nat → Addr) (C : Addr) : Prop where
  T : ExT K C
  kit : ∀ j, j < 33 → PySem.W.kitOne K (.ref C) (.ref (cs j)) = some (decide (C = cs j))
def csl (cs : Nat → Addr) : List Addr := (List.range 33).map cs
def spKinds (K : PySem.W.Frag) (cs : Nat → Addr) : Sp := fun vs H Q _ => ∃ x C, vs = [x] ∧ ErV H C x ∧ Kit K cs C ∧ ∀ b H', Same H H' → H' b = some (.lst (kinds C (csl cs))) → Q (.ref b) H'
def names33 : List Str := (["BadLetter", "BadFixed", "BadCommuting", "BadFact", "BadTerm", "NoPart", "BadPermit", "UnlikeGrounds", "NoRow", "BadBits", "BadRelation", "BadPlayer", "Clash", "BadRow", "BadTold", "NoSuch"] : List Str) ++ (["UnlikeRows", "BadName", "Taken", "Broken", "NoRule", "BadNumber", "Held", "NotHeld", "NoDeed", "BadText", "BadEvent", "BadMark", "BadFunction", "NoFunction", "UnlikeLibraries", "BadRows", "BadWeave"] : List Str)
structure Nm (mg : Str → Option Value) (cs : Nat → Addr) : Prop where
  at_ : ∀ j n, names33[j]? = some n → mg n = some (.ref (cs j))
  isi : mg "isinstance" = none
def idxB (ks : List (Nat × Str)) : Bool := ks.all fun p => match tab[p.1]? with
  | some t => decide (t.2.2 = p.2)
  | none => false
theorem idx_ok (cs : Nat → Addr) (ks : List (Nat × Str)) (h : idxB ks = true) : ∀ p ∈ ks, ∃ c, (ctab cs)[p.1]? = some c ∧ c.2 = p.2 := fun p hp => by
  have q := List.all_eq_true.mp h p hp
  revert q
  cases e : tab[p.1]? with
  | none => intro q; cases q
  | some t =>
    intro q
    have q' : t.2.2 = p.2 := of_decide_eq_true q
    exact ⟨(cs t.1, t.2.2), by unfold ctab; rw [List.getElem?_map, e]; rfl, q'⟩
theorem kit_in {K : PySem.W.Frag} {cs : Nat → Addr} {C : Addr} (Z : Kit K cs C) (lo m : Nat) (h : lo + m ≤ 33) {D : Addr} (hD : D ∈ (List.range m).map fun j => cs (lo + j)) : PySem.W.kitOne K (.ref C) (.ref D) = some (decide (C = D)) := by
  obtain ⟨j, hj, rfl⟩ := List.mem_map.mp hD
  exact Z.kit _ (by have := List.mem_range.mp hj; omega)
section
variable {P : Program} {w : World} {K : PySem.W.Frag} {mg : Str → Option Value} {base : Heap} {cs : Nat → Addr}
theorem scFields : FnScope ["_law_some", "_law_found"] ["_law_some"] (defScope sFields) := ⟨rfl, rfl, rfl, by decide +kernel, rfl, by decide +kernel, by decide +kernel⟩
theorem ok_fields {f : Addr} {fd : FuncData} (F : Fun K "_law_fields" "_law_fields" sFields f fd) (Z : Cls29 P w K mg base cs) : FnOk P w K mg base CX0 1 f fd ["_law_some"] (spFields (ctab cs)) := by
  refine F.ok scFields (fun vs H Q E h => ?_) (fun cdv A outer s H vs Q E hr h => ?_)
  · obtain ⟨a, v, xs, rfl, _⟩ := h
    rfl
  · obtain ⟨a, v, xs, rfl, ha, he, q⟩ := h
    have hl : ∀ c ∈ ctab cs, ExT K c.1 ∧ PySem.W.findIn K (.ref c.1) c.2 = some none := fun c hc => by
      obtain ⟨t, ht, rfl⟩ := List.mem_map.mp hc
      exact ⟨(Z.at_ t ht).T, (Z.at_ t ht).no⟩
    refine ⟨_, pss_cons (ps_set (i := 1) scFields.nd rfl (.inl rfl) (pe_lst (pa_cons (pe_xg (pe_ix ix_list (pv 0) pe_int (fun _ _ => rfl))) (pa_cons (pe_xg (pe_ix ix_list (pv 0) pe_int (fun _ _ => rfl))) (pa_cons (pe_xg (pe_ix ix_list (pv 0) pe_int (fun _ _ => rfl))) (pa_cons (pe_xg (pe_ix ix_list (pv 0) pe_int (fun _ _ => rfl))) (pa_cons (pe_xg (pe_ix ix_list (pv 0) pe_int (fun _ _ => rfl))) (pa_cons (pe_xg (pe_ix ix_list (pv 0) pe_int (fun _ _ => rfl))) pa_nil)))))))) (
      pss_cons (ps_set (i := 1) scFields.nd rfl (.inl rfl) (pe_op op_cat (pv 1) (pe_lst (pa_cons (pe_xg (pe_ix ix_list (pv 0) pe_int (fun _ _ => rfl))) (pa_cons (pe_xg (pe_ix ix_list (pv 0) pe_int (fun _ _ => rfl))) (pa_cons (pe_xg (pe_ix ix_list (pv 0) pe_int (fun _ _ => rfl))) (pa_cons (pe_xg (pe_ix ix_list (pv 0) pe_int (fun _ _ => rfl))) (pa_cons (pe_xg (pe_ix ix_list (pv 0) pe_int (fun _ _ => rfl))) pa_nil)))))))) (
      pss_cons (ps_set (i := 1) scFields.nd rfl (.inl rfl) (pe_op op_cat (pv 1) (pe_lst (pa_cons (pe_xg (pe_ix ix_list (pv 0) pe_int (fun _ _ => rfl))) (pa_cons (pe_xg (pe_ix ix_list (pv 0) pe_int (fun _ _ => rfl))) (pa_cons (pe_xg (pe_ix ix_list (pv 0) pe_int (fun _ _ => rfl))) (pa_cons (pe_xg (pe_ix ix_list (pv 0) pe_int (fun _ _ => rfl))) (pa_cons (pe_xg (pe_ix ix_list (pv 0) pe_int (fun _ _ => rfl))) pa_nil)))))))) (
      pss_cons (ps_set (i := 1) scFields.nd rfl (.inl rfl) (pe_op op_cat (pv 1) (pe_lst (pa_cons (pe_xg (pe_ix ix_list (pv 0) pe_int (fun _ _ => rfl))) (pa_cons (pe_xg (pe_ix ix_list (pv 0) pe_int (fun _ _ => rfl))) (pa_cons (pe_xg (pe_ix ix_list (pv 0) pe_int (fun _ _ => rfl))) (pa_cons (pe_xg (pe_ix ix_list (pv 0) pe_int (fun _ _ => rfl))) (pa_cons (pe_xg (pe_ix ix_list (pv 0) pe_int (fun _ _ => rfl))) pa_nil)))))))) (
      pss_cons (ps_set (i := 1) scFields.nd rfl (.inl rfl) (pe_op op_cat (pv 1) (pe_lst (pa_cons (pe_xg (pe_ix ix_list (pv 0) pe_int (fun _ _ => rfl))) (pa_cons (pe_xg (pe_ix ix_list (pv 0) pe_int (fun _ _ => rfl))) (pa_cons (pe_xg (pe_ix ix_list (pv 0) pe_int (fun _ _ => rfl))) (pa_cons (pe_xg (pe_ix ix_list (pv 0) pe_int (fun _ _ => rfl))) (pa_cons (pe_xg (pe_ix ix_list (pv 0) pe_int (fun _ _ => rfl))) pa_nil)))))))) (
      pss_cons (ps_set (i := 1) scFields.nd rfl (.inl rfl) (pe_op op_cat (pv 1) (pe_lst (pa_cons (pe_xg (pe_ix ix_list (pv 0) pe_int (fun _ _ => rfl))) (pa_cons (pe_xg (pe_ix ix_list (pv 0) pe_int (fun _ _ => rfl))) (pa_cons (pe_xg (pe_ix ix_list (pv 0) pe_int (fun _ _ => rfl))) pa_nil)))))) (pss_one (ps_ret (pv 1)))))))), ?_⟩
    refine firstL_ok (ys := List.replicate 6 v) (by show (6 : Nat) ≤ 100; decide) (fun Q q => fl_ok (l := ctab cs) (σ := [_, _]) rfl ha he hl ([(0, "key"), (1, "index"), (2, "index"), (3, "index"), (4, "path"), (5, "path")] : List (Nat × Str)) Q (idx_ok cs _ (by decide +kernel)) q) fun a1 H1 s1 h1 => ?_
    have t1 := s1
    refine moreL_ok (xs := List.replicate 6 v) (ys := List.replicate 5 v) (by show (6 : Nat) ≤ 100; decide) (by show (5 : Nat) ≤ 100; decide) h1 (fun Q q => fl_ok (l := ctab cs) (σ := [_, _]) rfl (t1 _ _ ha) (he.mono t1) hl ([(6, "index"), (7, "row"), (8, "index"), (9, "relation"), (10, "key")] : List (Nat × Str)) Q (idx_ok cs _ (by decide +kernel)) q) fun a2 H2 s2 h2 => ?_
    have t2 := t1.trans s2
    refine moreL_ok (xs := List.replicate 11 v) (ys := List.replicate 5 v) (by show (11 : Nat) ≤ 100; decide) (by show (5 : Nat) ≤ 100; decide) h2 (fun Q q => fl_ok (l := ctab cs) (σ := [_, _]) rfl (t2 _ _ ha) (he.mono t2) hl ([(11, "name"), (12, "index"), (13, "told"), (14, "number"), (15, "name")] : List (Nat × Str)) Q (idx_ok cs _ (by decide +kernel)) q) fun a3 H3 s3 h3 => ?_
    have t3 := t2.trans s3
    refine moreL_ok (xs := List.replicate 16 v) (ys := List.replicate 5 v) (by show (16 : Nat) ≤ 100; decide) (by show (5 : Nat) ≤ 100; decide) h3 (fun Q q => fl_ok (l := ctab cs) (σ := [_, _]) rfl (t3 _ _ ha) (he.mono t3) hl ([(16, "name"), (17, "bits"), (18, "name"), (19, "number"), (20, "name")] : List (Nat × Str)) Q (idx_ok cs _ (by decide +kernel)) q) fun a4 H4 s4 h4 => ?_
    have t4 := t3.trans s4
    refine moreL_ok (xs := List.replicate 21 v) (ys := List.replicate 5 v) (by show (21 : Nat) ≤ 100; decide) (by show (5 : Nat) ≤ 100; decide) h4 (fun Q q => fl_ok (l := ctab cs) (σ := [_, _]) rfl (t4 _ _ ha) (he.mono t4) hl ([(21, "name"), (22, "place"), (23, "event"), (24, "index"), (25, "index")] : List (Nat × Str)) Q (idx_ok cs _ (by decide +kernel)) q) fun a5 H5 s5 h5 => ?_
    have t5 := t4.trans s5
    refine moreL_ok (xs := List.replicate 26 v) (ys := List.replicate 3 v) (by show (26 : Nat) ≤ 100; decide) (by show (3 : Nat) ≤ 100; decide) h5 (fun Q q => fl_ok (l := ctab cs) (σ := [_, _]) rfl (t5 _ _ ha) (he.mono t5) hl ([(26, "name"), (27, "index"), (28, "index")] : List (Nat × Str)) Q (idx_ok cs _ (by decide +kernel)) q) fun a6 H6 s6 h6 => ?_
    have t6 := t5.trans s6
    exact ⟨_, rfl, q a6 H6 t6 h6⟩
theorem scKinds : FnScope ["_law_e", "_law_found"] ["_law_e"] (defScope sKinds) := ⟨rfl, rfl, rfl, by decide +kernel, rfl, by decide +kernel, by decide +kernel⟩
theorem ok_kinds {f : Addr} {fd : FuncData} (F : Fun K "_law_kinds" "_law_kinds" sKinds f fd) (N : Nm mg cs) : FnOk P w K mg base CX0 1 f fd ["_law_e"] (spKinds K cs) := by
  refine F.ok scKinds (fun vs H Q E h => ?_) (fun cdv A outer s H vs Q E hr h => ?_)
  · obtain ⟨x, C, rfl, _⟩ := h
    rfl
  · obtain ⟨x, C, rfl, he, Z, q⟩ := h
    refine ⟨_, pss_cons (ps_set (i := 1) scKinds.nd rfl (.inl rfl) (pe_lst (pa_cons (pe_callB (call_isX Z.T) (by rfl) N.isi (by decide +kernel) (pa_cons (pv 0) (pa_cons (pe_glob (v := .ref (cs 0)) rfl (N.at_ 0 _ rfl) rfl) pa_nil))) (pa_cons (pe_callB (call_isX Z.T) (by rfl) N.isi (by decide +kernel) (pa_cons (pv 0) (pa_cons (pe_glob (v := .ref (cs 1)) rfl (N.at_ 1 _ rfl) rfl) pa_nil))) (pa_cons (pe_callB (call_isX Z.T) (by rfl) N.isi (by decide +kernel) (pa_cons (pv 0) (pa_cons (pe_glob (v := .ref (cs 2)) rfl (N.at_ 2 _ rfl) rfl) pa_nil))) pa_nil))))) (
      pss_cons (ps_set (i := 1) scKinds.nd rfl (.inl rfl) (pe_op op_cat (pv 1) (pe_lst (pa_cons (pe_callB (call_isX Z.T) (by rfl) N.isi (by decide +kernel) (pa_cons (pv 0) (pa_cons (pe_glob (v := .ref (cs 3)) rfl (N.at_ 3 _ rfl) rfl) pa_nil))) (pa_cons (pe_callB (call_isX Z.T) (by rfl) N.isi (by decide +kernel) (pa_cons (pv 0) (pa_cons (pe_glob (v := .ref (cs 4)) rfl (N.at_ 4 _ rfl) rfl) pa_nil))) (pa_cons (pe_callB (call_isX Z.T) (by rfl) N.isi (by decide +kernel) (pa_cons (pv 0) (pa_cons (pe_glob (v := .ref (cs 5)) rfl (N.at_ 5 _ rfl) rfl) pa_nil))) pa_nil)))))) (
      pss_cons (ps_set (i := 1) scKinds.nd rfl (.inl rfl) (pe_op op_cat (pv 1) (pe_lst (pa_cons (pe_callB (call_isX Z.T) (by rfl) N.isi (by decide +kernel) (pa_cons (pv 0) (pa_cons (pe_glob (v := .ref (cs 6)) rfl (N.at_ 6 _ rfl) rfl) pa_nil))) (pa_cons (pe_callB (call_isX Z.T) (by rfl) N.isi (by decide +kernel) (pa_cons (pv 0) (pa_cons (pe_glob (v := .ref (cs 7)) rfl (N.at_ 7 _ rfl) rfl) pa_nil))) (pa_cons (pe_callB (call_isX Z.T) (by rfl) N.isi (by decide +kernel) (pa_cons (pv 0) (pa_cons (pe_glob (v := .ref (cs 8)) rfl (N.at_ 8 _ rfl) rfl) pa_nil))) pa_nil)))))) (
      pss_cons (ps_set (i := 1) scKinds.nd rfl (.inl rfl) (pe_op op_cat (pv 1) (pe_lst (pa_cons (pe_callB (call_isX Z.T) (by rfl) N.isi (by decide +kernel) (pa_cons (pv 0) (pa_cons (pe_glob (v := .ref (cs 9)) rfl (N.at_ 9 _ rfl) rfl) pa_nil))) (pa_cons (pe_callB (call_isX Z.T) (by rfl) N.isi (by decide +kernel) (pa_cons (pv 0) (pa_cons (pe_glob (v := .ref (cs 10)) rfl (N.at_ 10 _ rfl) rfl) pa_nil))) (pa_cons (pe_callB (call_isX Z.T) (by rfl) N.isi (by decide +kernel) (pa_cons (pv 0) (pa_cons (pe_glob (v := .ref (cs 11)) rfl (N.at_ 11 _ rfl) rfl) pa_nil))) pa_nil)))))) (
      pss_cons (ps_set (i := 1) scKinds.nd rfl (.inl rfl) (pe_op op_cat (pv 1) (pe_lst (pa_cons (pe_callB (call_isX Z.T) (by rfl) N.isi (by decide +kernel) (pa_cons (pv 0) (pa_cons (pe_glob (v := .ref (cs 12)) rfl (N.at_ 12 _ rfl) rfl) pa_nil))) (pa_cons (pe_callB (call_isX Z.T) (by rfl) N.isi (by decide +kernel) (pa_cons (pv 0) (pa_cons (pe_glob (v := .ref (cs 13)) rfl (N.at_ 13 _ rfl) rfl) pa_nil))) (pa_cons (pe_callB (call_isX Z.T) (by rfl) N.isi (by decide +kernel) (pa_cons (pv 0) (pa_cons (pe_glob (v := .ref (cs 14)) rfl (N.at_ 14 _ rfl) rfl) pa_nil))) pa_nil)))))) (
      pss_cons (ps_set (i := 1) scKinds.nd rfl (.inl rfl) (pe_op op_cat (pv 1) (pe_lst (pa_cons (pe_callB (call_isX Z.T) (by rfl) N.isi (by decide +kernel) (pa_cons (pv 0) (pa_cons (pe_glob (v := .ref (cs 15)) rfl (N.at_ 15 _ rfl) rfl) pa_nil))) (pa_cons (pe_callB (call_isX Z.T) (by rfl) N.isi (by decide +kernel) (pa_cons (pv 0) (pa_cons (pe_glob (v := .ref (cs 16)) rfl (N.at_ 16 _ rfl) rfl) pa_nil))) (pa_cons (pe_callB (call_isX Z.T) (by rfl) N.isi (by decide +kernel) (pa_cons (pv 0) (pa_cons (pe_glob (v := .ref (cs 17)) rfl (N.at_ 17 _ rfl) rfl) pa_nil))) pa_nil)))))) (
      pss_cons (ps_set (i := 1) scKinds.nd rfl (.inl rfl) (pe_op op_cat (pv 1) (pe_lst (pa_cons (pe_callB (call_isX Z.T) (by rfl) N.isi (by decide +kernel) (pa_cons (pv 0) (pa_cons (pe_glob (v := .ref (cs 18)) rfl (N.at_ 18 _ rfl) rfl) pa_nil))) (pa_cons (pe_callB (call_isX Z.T) (by rfl) N.isi (by decide +kernel) (pa_cons (pv 0) (pa_cons (pe_glob (v := .ref (cs 19)) rfl (N.at_ 19 _ rfl) rfl) pa_nil))) (pa_cons (pe_callB (call_isX Z.T) (by rfl) N.isi (by decide +kernel) (pa_cons (pv 0) (pa_cons (pe_glob (v := .ref (cs 20)) rfl (N.at_ 20 _ rfl) rfl) pa_nil))) pa_nil)))))) (
      pss_cons (ps_set (i := 1) scKinds.nd rfl (.inl rfl) (pe_op op_cat (pv 1) (pe_lst (pa_cons (pe_callB (call_isX Z.T) (by rfl) N.isi (by decide +kernel) (pa_cons (pv 0) (pa_cons (pe_glob (v := .ref (cs 21)) rfl (N.at_ 21 _ rfl) rfl) pa_nil))) (pa_cons (pe_callB (call_isX Z.T) (by rfl) N.isi (by decide +kernel) (pa_cons (pv 0) (pa_cons (pe_glob (v := .ref (cs 22)) rfl (N.at_ 22 _ rfl) rfl) pa_nil))) (pa_cons (pe_callB (call_isX Z.T) (by rfl) N.isi (by decide +kernel) (pa_cons (pv 0) (pa_cons (pe_glob (v := .ref (cs 23)) rfl (N.at_ 23 _ rfl) rfl) pa_nil))) pa_nil)))))) (
      pss_cons (ps_set (i := 1) scKinds.nd rfl (.inl rfl) (pe_op op_cat (pv 1) (pe_lst (pa_cons (pe_callB (call_isX Z.T) (by rfl) N.isi (by decide +kernel) (pa_cons (pv 0) (pa_cons (pe_glob (v := .ref (cs 24)) rfl (N.at_ 24 _ rfl) rfl) pa_nil))) (pa_cons (pe_callB (call_isX Z.T) (by rfl) N.isi (by decide +kernel) (pa_cons (pv 0) (pa_cons (pe_glob (v := .ref (cs 25)) rfl (N.at_ 25 _ rfl) rfl) pa_nil))) (pa_cons (pe_callB (call_isX Z.T) (by rfl) N.isi (by decide +kernel) (pa_cons (pv 0) (pa_cons (pe_glob (v := .ref (cs 26)) rfl (N.at_ 26 _ rfl) rfl) pa_nil))) pa_nil)))))) (
      pss_cons (ps_set (i := 1) scKinds.nd rfl (.inl rfl) (pe_op op_cat (pv 1) (pe_lst (pa_cons (pe_callB (call_isX Z.T) (by rfl) N.isi (by decide +kernel) (pa_cons (pv 0) (pa_cons (pe_glob (v := .ref (cs 27)) rfl (N.at_ 27 _ rfl) rfl) pa_nil))) (pa_cons (pe_callB (call_isX Z.T) (by rfl) N.isi (by decide +kernel) (pa_cons (pv 0) (pa_cons (pe_glob (v := .ref (cs 28)) rfl (N.at_ 28 _ rfl) rfl) pa_nil))) (pa_cons (pe_callB (call_isX Z.T) (by rfl) N.isi (by decide +kernel) (pa_cons (pv 0) (pa_cons (pe_glob (v := .ref (cs 29)) rfl (N.at_ 29 _ rfl) rfl) pa_nil))) pa_nil)))))) (
      pss_cons (ps_set (i := 1) scKinds.nd rfl (.inl rfl) (pe_op op_cat (pv 1) (pe_lst (pa_cons (pe_callB (call_isX Z.T) (by rfl) N.isi (by decide +kernel) (pa_cons (pv 0) (pa_cons (pe_glob (v := .ref (cs 30)) rfl (N.at_ 30 _ rfl) rfl) pa_nil))) (pa_cons (pe_callB (call_isX Z.T) (by rfl) N.isi (by decide +kernel) (pa_cons (pv 0) (pa_cons (pe_glob (v := .ref (cs 31)) rfl (N.at_ 31 _ rfl) rfl) pa_nil))) (pa_cons (pe_callB (call_isX Z.T) (by rfl) N.isi (by decide +kernel) (pa_cons (pv 0) (pa_cons (pe_glob (v := .ref (cs 32)) rfl (N.at_ 32 _ rfl) rfl) pa_nil))) pa_nil)))))) (pss_one (ps_ret (pv 1))))))))))))), ?_⟩
    refine firstL_ok (ys := kinds C ((List.range 3).map fun j => cs (0 + j))) (by show (3 : Nat) ≤ 100; decide) (fun Q q => ki_ok (σ := [_, _]) rfl he (((List.range 3).map fun j => cs (0 + j))) Q (fun D hD => kit_in Z 0 3 (by decide) hD) q) fun a1 H1 s1 h1 => ?_
    have t1 := s1
    refine moreL_ok (xs := (kinds C ((List.range 3).map fun j => cs (0 + j)))) (ys := kinds C ((List.range 3).map fun j => cs (3 + j))) (by show (3 : Nat) ≤ 100; decide) (by show (3 : Nat) ≤ 100; decide) h1 (fun Q q => ki_ok (σ := [_, _]) rfl (he.mono t1) (((List.range 3).map fun j => cs (3 + j))) Q (fun D hD => kit_in Z 3 3 (by decide) hD) q) fun a2 H2 s2 h2 => ?_
    have t2 := t1.trans s2
    refine moreL_ok (xs := ((kinds C ((List.range 3).map fun j => cs (0 + j))) ++ kinds C ((List.range 3).map fun j => cs (3 + j)))) (ys := kinds C ((List.range 3).map fun j => cs (6 + j))) (by show (6 : Nat) ≤ 100; decide) (by show (3 : Nat) ≤ 100; decide) h2 (fun Q q => ki_ok (σ := [_, _]) rfl (he.mono t2) (((List.range 3).map fun j => cs (6 + j))) Q (fun D hD => kit_in Z 6 3 (by decide) hD) q) fun a3 H3 s3 h3 => ?_
    have t3 := t2.trans s3
    refine moreL_ok (xs := (((kinds C ((List.range 3).map fun j => cs (0 + j))) ++ kinds C ((List.range 3).map fun j => cs (3 + j))) ++ kinds C ((List.range 3).map fun j => cs (6 + j)))) (ys := kinds C ((List.range 3).map fun j => cs (9 + j))) (by show (9 : Nat) ≤ 100; decide) (by show (3 : Nat) ≤ 100; decide) h3 (fun Q q => ki_ok (σ := [_, _]) rfl (he.mono t3) (((List.range 3).map fun j => cs (9 + j))) Q (fun D hD => kit_in Z 9 3 (by decide) hD) q) fun a4 H4 s4 h4 => ?_
    have t4 := t3.trans s4
    refine moreL_ok (xs := ((((kinds C ((List.range 3).map fun j => cs (0 + j))) ++ kinds C ((List.range 3).map fun j => cs (3 + j))) ++ kinds C ((List.range 3).map fun j => cs (6 + j))) ++ kinds C ((List.range 3).map fun j => cs (9 + j)))) (ys := kinds C ((List.range 3).map fun j => cs (12 + j))) (by show (12 : Nat) ≤ 100; decide) (by show (3 : Nat) ≤ 100; decide) h4 (fun Q q => ki_ok (σ := [_, _]) rfl (he.mono t4) (((List.range 3).map fun j => cs (12 + j))) Q (fun D hD => kit_in Z 12 3 (by decide) hD) q) fun a5 H5 s5 h5 => ?_
    have t5 := t4.trans s5
    refine moreL_ok (xs := (((((kinds C ((List.range 3).map fun j => cs (0 + j))) ++ kinds C ((List.range 3).map fun j => cs (3 + j))) ++ kinds C ((List.range 3).map fun j => cs (6 + j))) ++ kinds C ((List.range 3).map fun j => cs (9 + j))) ++ kinds C ((List.range 3).map fun j => cs (12 + j)))) (ys := kinds C ((List.range 3).map fun j => cs (15 + j))) (by show (15 : Nat) ≤ 100; decide) (by show (3 : Nat) ≤ 100; decide) h5 (fun Q q => ki_ok (σ := [_, _]) rfl (he.mono t5) (((List.range 3).map fun j => cs (15 + j))) Q (fun D hD => kit_in Z 15 3 (by decide) hD) q) fun a6 H6 s6 h6 => ?_
    have t6 := t5.trans s6
    refine moreL_ok (xs := ((((((kinds C ((List.range 3).map fun j => cs (0 + j))) ++ kinds C ((List.range 3).map fun j => cs (3 + j))) ++ kinds C ((List.range 3).map fun j => cs (6 + j))) ++ kinds C ((List.range 3).map fun j => cs (9 + j))) ++ kinds C ((List.range 3).map fun j => cs (12 + j))) ++ kinds C ((List.range 3).map fun j => cs (15 + j)))) (ys := kinds C ((List.range 3).map fun j => cs (18 + j))) (by show (18 : Nat) ≤ 100; decide) (by show (3 : Nat) ≤ 100; decide) h6 (fun Q q => ki_ok (σ := [_, _]) rfl (he.mono t6) (((List.range 3).map fun j => cs (18 + j))) Q (fun D hD => kit_in Z 18 3 (by decide) hD) q) fun a7 H7 s7 h7 => ?_
    have t7 := t6.trans s7
    refine moreL_ok (xs := (((((((kinds C ((List.range 3).map fun j => cs (0 + j))) ++ kinds C ((List.range 3).map fun j => cs (3 + j))) ++ kinds C ((List.range 3).map fun j => cs (6 + j))) ++ kinds C ((List.range 3).map fun j => cs (9 + j))) ++ kinds C ((List.range 3).map fun j => cs (12 + j))) ++ kinds C ((List.range 3).map fun j => cs (15 + j))) ++ kinds C ((List.range 3).map fun j => cs (18 + j)))) (ys := kinds C ((List.range 3).map fun j => cs (21 + j))) (by show (21 : Nat) ≤ 100; decide) (by show (3 : Nat) ≤ 100; decide) h7 (fun Q q => ki_ok (σ := [_, _]) rfl (he.mono t7) (((List.range 3).map fun j => cs (21 + j))) Q (fun D hD => kit_in Z 21 3 (by decide) hD) q) fun a8 H8 s8 h8 => ?_
    have t8 := t7.trans s8
    refine moreL_ok (xs := ((((((((kinds C ((List.range 3).map fun j => cs (0 + j))) ++ kinds C ((List.range 3).map fun j => cs (3 + j))) ++ kinds C ((List.range 3).map fun j => cs (6 + j))) ++ kinds C ((List.range 3).map fun j => cs (9 + j))) ++ kinds C ((List.range 3).map fun j => cs (12 + j))) ++ kinds C ((List.range 3).map fun j => cs (15 + j))) ++ kinds C ((List.range 3).map fun j => cs (18 + j))) ++ kinds C ((List.range 3).map fun j => cs (21 + j)))) (ys := kinds C ((List.range 3).map fun j => cs (24 + j))) (by show (24 : Nat) ≤ 100; decide) (by show (3 : Nat) ≤ 100; decide) h8 (fun Q q => ki_ok (σ := [_, _]) rfl (he.mono t8) (((List.range 3).map fun j => cs (24 + j))) Q (fun D hD => kit_in Z 24 3 (by decide) hD) q) fun a9 H9 s9 h9 => ?_
    have t9 := t8.trans s9
    refine moreL_ok (xs := (((((((((kinds C ((List.range 3).map fun j => cs (0 + j))) ++ kinds C ((List.range 3).map fun j => cs (3 + j))) ++ kinds C ((List.range 3).map fun j => cs (6 + j))) ++ kinds C ((List.range 3).map fun j => cs (9 + j))) ++ kinds C ((List.range 3).map fun j => cs (12 + j))) ++ kinds C ((List.range 3).map fun j => cs (15 + j))) ++ kinds C ((List.range 3).map fun j => cs (18 + j))) ++ kinds C ((List.range 3).map fun j => cs (21 + j))) ++ kinds C ((List.range 3).map fun j => cs (24 + j)))) (ys := kinds C ((List.range 3).map fun j => cs (27 + j))) (by show (27 : Nat) ≤ 100; decide) (by show (3 : Nat) ≤ 100; decide) h9 (fun Q q => ki_ok (σ := [_, _]) rfl (he.mono t9) (((List.range 3).map fun j => cs (27 + j))) Q (fun D hD => kit_in Z 27 3 (by decide) hD) q) fun a10 H10 s10 h10 => ?_
    have t10 := t9.trans s10
    refine moreL_ok (xs := ((((((((((kinds C ((List.range 3).map fun j => cs (0 + j))) ++ kinds C ((List.range 3).map fun j => cs (3 + j))) ++ kinds C ((List.range 3).map fun j => cs (6 + j))) ++ kinds C ((List.range 3).map fun j => cs (9 + j))) ++ kinds C ((List.range 3).map fun j => cs (12 + j))) ++ kinds C ((List.range 3).map fun j => cs (15 + j))) ++ kinds C ((List.range 3).map fun j => cs (18 + j))) ++ kinds C ((List.range 3).map fun j => cs (21 + j))) ++ kinds C ((List.range 3).map fun j => cs (24 + j))) ++ kinds C ((List.range 3).map fun j => cs (27 + j)))) (ys := kinds C ((List.range 3).map fun j => cs (30 + j))) (by show (30 : Nat) ≤ 100; decide) (by show (3 : Nat) ≤ 100; decide) h10 (fun Q q => ki_ok (σ := [_, _]) rfl (he.mono t10) (((List.range 3).map fun j => cs (30 + j))) Q (fun D hD => kit_in Z 30 3 (by decide) hD) q) fun a11 H11 s11 h11 => ?_
    have t11 := t10.trans s11
    exact ⟨_, rfl, q a11 H11 t11 h11⟩
end
end K1
set_option Elab.async false
set_option linter.all false
set_option maxRecDepth 100000
set_option maxHeartbeats 8000000
namespace K1
open PySem PySem.Spec L2
structure Own (K : PySem.W.Frag) (cs : Nat → Addr) (RE : Addr) (i : Nat) : Prop where
  kit : Kit K cs (cs i)
  re : PySem.W.kitOne K (.ref (cs i)) (.ref RE) = some true
  ve : PySem.W.kitOne K (.ref (cs i)) (.type "ValueError") = some true
def spOwn (K : PySem.W.Frag) (cs : Nat → Addr) (RE : Addr) : Sp := fun vs H Q _ => ∃ (x : V) (i : Nat), vs = [x, .int i] ∧ i < 33 ∧ ErV H (cs i) x ∧ Own K cs RE i ∧ (∀ H', Same H H' → Q (.bl true) H')
structure Bl3 (mg : Str → Option Value) (RE : Addr) : Prop where
  re : mg "RuleError" = some (.ref RE)
  ve : mg "ValueError" = none
  range : mg "range" = none
theorem dpb {K : PySem.W.Frag} {H : Hp} : ∀ bs : List Bool, DpAll K H (bs.map V.bl) (bs.map PyData.bool)
  | [] => .nil
  | b :: r => .cons (.bl b) (dpb r)
theorem shp : ∀ i, i < 33 → SeqAt.shaped (.list (((List.range 33).map fun j => decide (i = j)).map PyData.bool)) = true := by decide +kernel
section
variable {P : Program} {w : World} {K : PySem.W.Frag} {mg : Str → Option Value} {base : Heap} {cs : Nat → Addr} {RE : Addr}
theorem scOwn : FnScope ["_law_e", "_law_at", "_law_k"] ["_law_e", "_law_at"] (defScope sOwn) := ⟨rfl, rfl, rfl, by decide +kernel, rfl, by decide +kernel, by decide +kernel⟩
theorem ok_own {f fK : Addr} {fd fdK : FuncData} (F : Fun K "_law_is_own" "_law_is_own" sOwn f fd) (N : Nm mg cs) (B : Bl3 mg RE) (inj : ∀ i j, i < 33 → j < 33 → cs i = cs j → i = j) (G : FnOk P w K mg base CX0 1 fK fdK ["_law_e"] (spKinds K cs))
    (mK : mg "_law_kinds" = some (.ref fK)) (kK : PySem.W.keepIn K (.ref fK) = true) (bK : Binds K fdK ["_law_e"] []) : FnOk P w K mg base CX0 2 f fd ["_law_e", "_law_at"] (spOwn K cs RE) := by
  refine F.ok scOwn (fun vs H Q E h => ?_) (fun cdv A outer s H vs Q E hr h => ?_)
  · obtain ⟨x, i, rfl, _⟩ := h
    rfl
  · obtain ⟨x, i, rfl, hi, he, Z, q⟩ := h
    refine ⟨_, pss_cons (ps_if (PW.pt (pw_or (pt_not (pt_val (pe_callB (call_isX Z.kit.T) (by rfl) N.isi (by decide +kernel) (pa_cons (pv 0) (pa_cons (pe_glob (v := .ref RE) rfl B.re rfl) pa_nil)))))
        (pw_or1 (pt_not (pt_val (pe_callB (call_isX Z.kit.T) (by rfl) N.isi (by decide +kernel) (pa_cons (pv 0) (pa_cons (pe_bltn (v := .ty "ValueError") (by rfl) B.ve (by decide +kernel) rfl) pa_nil)))))))) (pss_one (ps_ret pe_bl)) pss_nil)
      (pss_one (ps_ret (pe_cmpR (op_eqD hr.units) (pe_call G hr rfl mK kK bK .nil pass0 (pa_cons (pv 0) pa_nil))
        (pe_lc (own := [("_law_k", 2)]) (g := gName 2) (tt := tYes) rfl scOwn.nd (pi_range1 rfl B.range (pa_cons pe_int pa_nil)) (blkOk_by (own := [("_law_k", 2)]) (N := ["_law_e", "_law_at", "_law_k"]) (sc := defScope sOwn) (by decide +kernel))
          (fun _ _ _ _ _ => pg_name (i := 2) scOwn.nd rfl (Or.inl rfl)) (fun _ _ _ _ _ => pts_nil) (fun _ _ _ _ _ => pe_cmpR op_eq (pv 2) (pv 1) (nomark _))) (nomark _)))), ?_⟩
    refine ⟨_, rfl, x, .ref RE, .ref RE, true, rfl, .own RE, he, Z.re, true, rfl, iteF ?_⟩
    refine ⟨_, rfl, x, .ty "ValueError", .type "ValueError", true, rfl, .ty "ValueError", he, Z.ve, true, rfl, iteF ?_⟩
    refine ⟨_, rfl, x, cs i, rfl, he, Z.kit, fun b H1 s1 h1 => ?_⟩
    refine ⟨33, rfl, by decide, by decide, fun D hD => lc_range (lo := 0) (n := 33) (fun k H' => Same H1 H' ∧ H' D = some (.lst ((List.range k).map fun j => .bl (decide (i = j))))) ⟨fun c o e => by rw [upd_ne (ne_of_none e hD)]; exact e, upd_same⟩ ?_ ?_⟩
    · rintro k H2 hk ⟨s2, h2⟩
      refine ⟨rfl, _, rfl, _, rfl, rfl, _, h2, ?_, ?_, ?_⟩
      · rw [List.length_map, List.length_range, sizeLine_eq]; omega
      · exact fun c o e => by rw [upd_ne (ne_of_none e hD)]; exact s2 c o e
      · rw [upd_same, List.range_succ, List.map_append]
        have e : decide (V.int (0 + (k : Int)) = V.int (i : Int)) = decide (i = k) := by
          by_cases c : i = k
          · rw [decide_eq_true c, decide_eq_true]
            rw [c]; congr 1; omega
          · rw [decide_eq_false c, decide_eq_false]
            intro z
            injection z with z
            omega
        rw [e]
        rfl
    · rintro H3 ⟨s3, h3⟩
      have hk : kinds (cs i) (csl cs) = ((List.range 33).map fun j => decide (i = j)).map V.bl := by
        unfold kinds csl
        rw [List.map_map, List.map_map]
        refine List.map_congr_left fun j hj => ?_
        have hj' := List.mem_range.mp hj
        show V.bl (decide (cs i = cs j)) = V.bl (decide (i = j))
        by_cases c : i = j
        · rw [decide_eq_true c, decide_eq_true (congrArg cs c)]
        · rw [decide_eq_false c, decide_eq_false fun z => c (inj i j hi hj' z)]
      have h1' := s3 _ _ h1
      rw [hk] at h1'
      have h3' : H3 D = some (.lst (((List.range 33).map fun j => decide (i = j)).map V.bl)) := by
        rw [List.map_map]; exact h3
      refine ⟨.list (((List.range 33).map fun j => decide (i = j)).map PyData.bool), .list (((List.range 33).map fun j => decide (i = j)).map PyData.bool), .lst (SqL.of h1') (dpb _), .lst (SqL.of h3') (dpb _), shp i hi, shp i hi, ?_⟩
      rw [SeqAt.eqv_refl _ (SeqAt.canLay_of_shaped (shp i hi))]
      exact q H3 (s1.trans s3)
end
end K1
set_option Elab.async false
set_option linter.all false
set_option maxRecDepth 100000
set_option maxHeartbeats 8000000
namespace K1
open PySem PySem.Spec L2
abbrev sLaw : Stmt := topS 46
/-- C(), C without an __init__ of its own -/
structure Bare (K : PySem.W.Frag) (mg : Str → Option Value) (n : Str) (C : Addr) : Prop where
  gC : mg n = some (.ref C)
  T : ExT K C
  i : PySem.W.findIn K (.ref C) "__init__" = some (some (.builtin "ValueError.__init__"))
def tBare (C : Addr) : TE := fun _ H Q => ∀ a H', Same H H' → Er0 H' a C → Q (.ref a) H'
section
variable {X : Cx} {n : Str} {C : Addr} {p pos : Pos}
theorem pe_bare (B : Bare X.K X.mg n C) (hg : Gl X n) (hdb : (n == ("__debug__" : Str)) = false := by decide) : PE X (.Call (.Name n p) [] [] pos) (tBare C) := by
  refine ⟨fun pins s σ H Q I h => ?_⟩
  refine wpAny_Call_Name_kw (ld_glob I hg B.gC ?_ hdb)
  refine PySem.W.callWith_K0 I.kIn B.T.ox.kC ?_
  obtain ⟨nm, q, N, bs, bm, sn, sub, ab, col, dd, k0, k1, k2, k3, k5, hC, hbm⟩ := B.T.ox.cls
  obtain ⟨hp, g, dr, tk, os⟩ := s
  refine PySem.W.call_B F.excBase_ValueError (fun Y => PySem.HandSPX.refsVE_contains Y bm hbm) (I.kIn _ _ hC) (PySem.W.looks_findIn I.kIn B.i) (by rw [sizeLine_eq]; decide) fun h' kk e1 e2 => ?_
  have hsz : hp.objs.size ≤ hp.objs.size + 1 := Nat.le_succ _
  have hn : H (hp.objs.size + 1) = none := I.hok.fresh hsz
  obtain ⟨H2, s2, h2, eq2⟩ := lay (o := exo (hp.objs.size + 1) C none) hn
  have I2 := I.laid (t' := tk) (a := hp.objs.size + 1) (o := exo (hp.objs.size + 1) C none) (h' := h') kk hsz (exo_ok e1)
  exact ⟨.ref (hp.objs.size + 1), _, I2, rfl, h _ _ (by rw [eq2]; exact s2) upd_same⟩
end
def spots : List Nat := [0, 1, 2, 3, 4, 5, 6, 8, 9, 10, 11, 12, 13, 14, 15, 17, 18, 19, 20, 21, 22, 23, 25, 26, 27, 28, 29, 31, 32]
structure Bl4 (mg : Str → Option Value) : Prop where
  all : mg "all" = none
def lawN : List Str := ["_law_script", "_law_spots", "_law_k", "_law_pool_here", "_law_x", "_law_y", "_law_one", "_law_two", "_law_at", "_law_bare_ones", "_law_bare", "_law_kept", "_law_e"]
def spLaw (K : PySem.W.Frag) : Sp := fun vs H Q _ => ∃ (a : Addr) (ns : List Int), vs = [.ref a] ∧ SqL K H a (ns.map V.int) ∧ ns.length ≤ 63 ∧ ∀ H', Q (.bl true) H'
/-- all that the law's own def leans on -/
structure Fns (P : Program) (w : World) (K : PySem.W.Frag) (mg : Str → Option Value) (base : Heap) (n : Str) (k : Nat) (ps : List Str) (sp : Sp) : Prop where
  ex : ∃ (f : Addr) (fd : FuncData), FnOk P w K mg base CX0 k f fd ps sp ∧ mg n = some (.ref f) ∧ PySem.W.keepIn K (.ref f) = true ∧ Binds K fd ps []
section
variable {X : Cx} {n : Str} {k j : Nat} {ps : List Str} {sp : Sp} {e : Expr} {es : List Expr} {p pos : Pos} {t : TA}
/-- a call of a def of the text -/
theorem pe_fn (F : Fns X.prog X.w X.K X.mg X.base n k ps sp) (hr : Room j X.A) (hk : k ≤ j) (hg : Gl X n) (ha : PA X (e :: es) t) (hdb : (n == ("__debug__" : Str)) = false := by decide)
    (he : starEach (e :: es) X.env = (false, eval e X.env) :: starEach es X.env := by rfl) (hpl : (backTo pos (starEach es X.env)).any (·.1) = false := by rfl) : PE X (.Call (.Name n p) (e :: es) [] pos) (tCall sp [] E0 t) := by
  obtain ⟨f, fd, G, m, kp, b⟩ := F.ex
  exact pe_call G (hr.mono hk) hg m kp b .nil pass0 ha hdb he hpl
end
structure LawT (P : Program) (w : World) (K : PySem.W.Frag) (mg : Str → Option Value) (base : Heap) (cs : Nat → Addr) (RE : Addr) : Prop where
  cell : Fns P w K mg base "_law_cell" 1 ["_law_script", "_law_k"] (spCell K)
  pool : Fns P w K mg base "_law_pool" 1 ["_law_grain"] spPool
  any : Fns P w K mg base "_law_any" 2 ["_law_pool_here"] spAny
  byP : Fns P w K mg base "_law_by_place" 3 ["_law_x"] (spMade (ctab cs))
  byN : Fns P w K mg base "_law_by_name" 3 ["_law_x"] (spMade (ctab cs))
  fields : Fns P w K mg base "_law_fields" 1 ["_law_some"] (spFields (ctab cs))
  kinds : Fns P w K mg base "_law_kinds" 1 ["_law_e"] (spKinds K cs)
  own : Fns P w K mg base "_law_is_own" 2 ["_law_e", "_law_at"] (spOwn K cs RE)
  same : Fns P w K mg base "_law_same" 1 ["_law_one", "_law_other"] spSame
  b1 : Bl mg
  b3 : Bl3 mg RE
  b4 : Bl4 mg
  nm : Nm mg cs
  ug : Bare K mg "UnlikeGrounds" (cs 7)
  ur : Bare K mg "UnlikeRows" (cs 16)
  nd : Bare K mg "NoDeed" (cs 24)
  ul : Bare K mg "UnlikeLibraries" (cs 30)
  re : Bare K mg "RuleError" RE
  owns : ∀ i, i < 33 → Own K cs RE i
  reK : Kit K cs RE
  reV : PySem.W.kitOne K (.ref RE) (.type "ValueError") = some true
  reN : ∀ j, j < 33 → RE ≠ cs j
def spotsV25 : List V := (spots.take 25).map fun (i : Nat) => V.int (i : Int)
def spotsV4 : List V := (spots.drop 25).map fun (i : Nat) => V.int (i : Int)
/-- x = [..], as the first statement of a body -/
theorem firstL_go {σ : L2.St} {t : TA} {ys : List V} (hl : ys.length ≤ 100) {H : Hp} {D : Ends} (ht : ∀ Q : List V → Hp → Prop, Q ys H → t σ H Q) (q : ∀ a H', Same H H' → H' a = some (.lst ys) → D.nx (σ.set 1 (some (.ref a))) H') :
    tAsg (tLst t) (gName 1) D σ H := by
  refine ht _ ⟨by rw [sizeLine_eq]; omega, fun p hp => ?_⟩
  obtain ⟨H2, s2, h2, e2⟩ := lay (o := .lst ys) hp
  rw [e2]
  exact q p H2 s2 h2
theorem moreL_go {σ : L2.St} {a : Addr} {t : TA} {xs ys : List V} (hx : xs.length ≤ 100) (hl : ys.length ≤ 100) {H : Hp} {D : Ends} (ha : H a = some (.lst xs)) (ht : ∀ Q : List V → Hp → Prop, Q ys H → t σ H Q)
    (q : ∀ b H', Same H H' → H' b = some (.lst (xs ++ ys)) → D.nx (σ.set 1 (some (.ref b))) H') (hσ : σ[1]? = some (some (.ref a)) := by rfl) :
    tAsg (tOp rCat (tVar 1) (tLst t)) (gName 1) D σ H := by
  refine ⟨_, hσ, ht _ ⟨by rw [sizeLine_eq]; omega, fun p hp => ?_⟩⟩
  obtain ⟨H2, s2, h2, e2⟩ := lay (o := .lst ys) hp
  rw [e2]
  refine ⟨a, p, xs, ys, rfl, rfl, s2 _ _ ha, h2, by rw [sizeLine_eq]; omega, fun b hb => ?_⟩
  obtain ⟨H3, s3, h3, e3⟩ := lay (o := .lst (xs ++ ys)) hb
  rw [e3]
  exact q b H3 (s2.trans s3) h3
/-- a pair of an error without fields and its place -/
def BareAt (H : Hp) (cs : Nat → Addr) (x : V) : Prop := ∃ (t : Addr) (e : V) (j : Nat), x = .ref t ∧ H t = some (.tup [e, .int j]) ∧ j < 33 ∧ ErV H (cs j) e
/-- all([same(kept, x) for kept in fields(some)]) -/
theorem allsame_ok {K : PySem.W.Frag} {l : List (Addr × Str)} {x : V} {b : Addr} {xs : List V} {σ : L2.St} {i j : Nat} {H : Hp} {Q : VK} (hb : σ[i]? = some (some (.ref b))) (hj : ∀ u, ((wipe σ [11]).set 11 (some u))[j]? = some (some x))
    (h11 : ∀ u, ((wipe σ [11]).set 11 (some u))[11]? = some (some u)) (hw : ∀ u, wipe ((wipe σ [11]).set 11 (some u)) [11] = wipe σ [11]) (h : H b = some (.lst xs)) (he : Ers H x l xs) (hl : l.length ≤ 100) (hx : Smp H x)
    (q : ∀ H', Same H H' → Q (.bl true) H') :
    tCB (rAll K) (tCons (tLc (iList K (tCall (spFields l) [] E0 (tCons (tVar i) tNil))) (gName 11) tYes (tCall spSame [] E0 (tCons (tVar 11) (tCons (tVar j) tNil))) [11]) tNil) σ H Q := by
  refine ⟨_, hb, b, x, xs, rfl, h, he, fun c H1 s1 h1 => ⟨c, rfl, ⟨_, SqL.of h1⟩, fun D nD => lc_list (K := K) (a := c) (xs := List.replicate l.length x) (fun i H' => Same H1 H' ∧ H' D = some (.lst (List.replicate i (.bl true))))
    ⟨fun b o e => by rw [upd_ne (ne_of_none e nD)]; exact e, upd_same⟩ (fun i H' _ h => SqL.of (h.1 _ _ h1)) ?_ ?_⟩⟩
  · rintro k y H2 hy ⟨s2, h2⟩
    obtain ⟨hk, ey⟩ := List.getElem?_eq_some_iff.mp hy
    rw [List.length_replicate] at hk
    have ey' : y = x := by rw [← ey]; exact List.getElem_replicate _
    subst ey'
    refine ⟨hw y, _, h11 y, _, hj y, y, rfl, (hx.mono s1).mono s2, _, h2, ?_, ?_, ?_⟩
    · rw [List.length_replicate, sizeLine_eq]; omega
    · exact fun b o z => by rw [upd_ne (ne_of_none z nD)]; exact s2 _ _ z
    · rw [upd_same, List.replicate_succ']
  · rintro H2 ⟨s2, h2⟩
    rw [List.length_replicate] at h2
    refine ⟨D, List.replicate l.length true, rfl, ?_, ?_⟩
    · refine SqL.of ?_
      rw [h2, List.map_replicate]
    · have e : (List.replicate l.length true).all id = true := by simp
      rw [e]
      exact q H2 (s1.trans s2)
theorem spot_tab : ∀ j, j < 29 → (tab[j]?.map (·.1)) = spots[j]? := by decide
theorem spot_lt : ∀ i ∈ spots, i < 33 := by decide
theorem spot_len : tab.length = 29 := by decide
theorem spot_at (cs : Nat → Addr) (j : Nat) (hj : j < 29) : ∃ (i : Nat) (c : Addr × Str), (ctab cs)[j]? = some c ∧ (spotsV25 ++ spotsV4)[j]? = some (.int (i : Int)) ∧ i < 33 ∧ c.1 = cs i := by
  have e := spot_tab j hj
  cases ht : tab[j]? with
  | none =>
    have := List.getElem?_eq_none_iff.mp ht
    rw [spot_len] at this
    omega
  | some t =>
    rw [ht] at e
    have es : spots[j]? = some t.1 := e.symm
    refine ⟨t.1, (cs t.1, t.2.2), ?_, ?_, spot_lt _ (List.mem_of_getElem? es), rfl⟩
    · unfold ctab
      rw [List.getElem?_map, ht]
      rfl
    · unfold spotsV25 spotsV4
      rw [← List.map_append, List.take_append_drop, List.getElem?_map, es]
      rfl
theorem none_kind {cs : Nat → Addr} {RE : Addr} (h : ∀ j, j < 33 → RE ≠ cs j) : kinds RE (csl cs) = List.replicate 33 (.bl false) := by
  unfold kinds csl
  rw [List.map_map]
  have e : ∀ j ∈ List.range 33, ((fun D => V.bl (decide (RE = D))) ∘ cs) j = V.bl false := fun j hj => by
    show V.bl (decide (RE = cs j)) = V.bl false
    rw [decide_eq_false (h j (List.mem_range.mp hj))]
  rw [List.map_congr_left e]
  rfl
section
variable {P : Program} {w : World} {K : PySem.W.Frag} {mg : Str → Option Value} {base : Heap} {cs : Nat → Addr} {RE : Addr}
theorem scLaw : FnScope lawN ["_law_script"] (defScope sLaw) := ⟨rfl, rfl, rfl, by decide +kernel, rfl, by decide +kernel, by decide +kernel⟩
theorem ok_law {f : Addr} {fd : FuncData} (F : Fun K "law" "law" sLaw f fd) (T : LawT P w K mg base cs RE) : FnOk P w K mg base CX0 4 f fd ["_law_script"] (spLaw K) := by
  refine F.ok scLaw (fun vs H Q E h => ?_) (fun cdv A outer s H vs Q E hr h => ?_)
  · obtain ⟨a, ns, rfl, _⟩ := h
    rfl
  · obtain ⟨a, ns, rfl, hS, hn, q⟩ := h
    --BODY
    refine ⟨_, pss_cons (ps_set (i := 1) scLaw.nd rfl (.inl rfl) (pe_lst (pa_cons (pe_int) (pa_cons (pe_int) (pa_cons (pe_int) (pa_cons (pe_int) (pa_cons (pe_int) (pa_cons (pe_int) (pa_cons (pe_int) (pa_cons (pe_int) (pa_cons (pe_int) (pa_cons (pe_int) (pa_cons (pe_int) (pa_cons (pe_int) (pa_cons (pe_int) (pa_cons (pe_int) (pa_cons (pe_int) (pa_cons (pe_int) (pa_cons (pe_int) (pa_cons (pe_int) (pa_cons (pe_int) (pa_cons (pe_int) (pa_cons (pe_int) (pa_cons (pe_int) (pa_cons (pe_int) (pa_cons (pe_int) (pa_cons (pe_int) (pa_nil)))))))))))))))))))))))))))) (pss_cons (ps_set (i := 1) scLaw.nd rfl (.inl rfl) (pe_op op_cat (pv 1) (pe_lst (pa_cons (pe_int) (pa_cons (pe_int) (pa_cons (pe_int) (pa_cons (pe_int) (pa_nil)))))))) (pss_cons (ps_for PassesOwn.never rfl (pi_range1 rfl T.b3.range (pa_cons (pe_int) (pa_nil))) (pg_name (i := 2) scLaw.nd rfl (.inl rfl)) (pss_cons (ps_set (i := 3) scLaw.nd rfl (.inl rfl) (pe_fn T.pool hr (by decide) rfl (pa_cons (pe_op op_add (pe_fn T.cell hr (by decide) rfl (pa_cons (pv 0) (pa_cons (pv 2) (pa_nil)))) (pv 2)) (pa_nil)))) (pss_cons (ps_asg (pe_tup (pa_cons (pe_fn T.any hr (by decide) rfl (pa_cons (pv 3) (pa_nil))) (pa_cons (pe_fn T.any hr (by decide) rfl (pa_cons (pv 3) (pa_nil))) (pa_nil)))) (pg_tup rfl (pgs_cons (pg_name (i := 4) scLaw.nd rfl (.inr rfl)) (pgs_cons (pg_name (i := 5) scLaw.nd rfl (.inr rfl)) (pgs_nil))))) (pss_cons (ps_par (i := 6) (j := 7) rfl scLaw.nd rfl rfl (by decide) rfl rfl (pa_cons (pe_fn T.byP hr (by decide) rfl (pa_cons (pv 4) (pa_nil))) (pa_cons (pe_fn T.byN hr (by decide) rfl (pa_cons (pv 5) (pa_nil))) (pa_nil))) (by rfl)) (pss_cons (ps_if (pt_not (pt_val (pe_callB (cr_all rfl) (by rfl) T.b4.all (by decide +kernel) (pa_cons (pe_lc (own := [("_law_kept", 11)]) (g := gName 11) (tt := tYes) rfl scLaw.nd (pi_list (pe_fn T.fields hr (by decide) rfl (pa_cons (pv 6) (pa_nil)))) (blkOk_by (own := [("_law_kept", 11)]) (N := lawN) (sc := defScope sLaw) (by decide +kernel)) (fun _ _ _ _ _ => pg_name (i := 11) scLaw.nd rfl (.inl rfl)) (fun _ _ _ _ _ => pts_nil) (fun _ _ _ _ _ => pe_fn T.same hr (by decide) rfl (pa_cons (pv 11) (pa_cons (pv 4) (pa_nil))))) (pa_nil))))) (pss_one (ps_ret pe_bl)) pss_nil) (pss_cons (ps_if (pt_not (pt_val (pe_callB (cr_all rfl) (by rfl) T.b4.all (by decide +kernel) (pa_cons (pe_lc (own := [("_law_kept", 11)]) (g := gName 11) (tt := tYes) rfl scLaw.nd (pi_list (pe_fn T.fields hr (by decide) rfl (pa_cons (pv 7) (pa_nil)))) (blkOk_by (own := [("_law_kept", 11)]) (N := lawN) (sc := defScope sLaw) (by decide +kernel)) (fun _ _ _ _ _ => pg_name (i := 11) scLaw.nd rfl (.inl rfl)) (fun _ _ _ _ _ => pts_nil) (fun _ _ _ _ _ => pe_fn T.same hr (by decide) rfl (pa_cons (pv 11) (pa_cons (pv 5) (pa_nil))))) (pa_nil))))) (pss_one (ps_ret pe_bl)) pss_nil) (pss_one (ps_for PassesOwn.never rfl (pi_range1 rfl T.b3.range (pa_cons (pe_callB call_len_seq (by rfl) T.b1.len PySem.boot_len (pa_cons (pv 1) (pa_nil))) (pa_nil))) (pg_name (i := 8) scLaw.nd rfl (.inl rfl)) (pss_one (ps_if (PW.pt (pw_or (pt_not (pt_val (pe_fn T.own hr (by decide) rfl (pa_cons (pe_ix ix_list (pv 6) (pv 8) (fun _ _ => rfl)) (pa_cons (pe_ix ix_list (pv 1) (pv 8) (fun _ _ => rfl)) (pa_nil)))))) (pw_or1 (pt_not (pt_val (pe_fn T.own hr (by decide) rfl (pa_cons (pe_ix ix_list (pv 7) (pv 8) (fun _ _ => rfl)) (pa_cons (pe_ix ix_list (pv 1) (pv 8) (fun _ _ => rfl)) (pa_nil))))))))) (pss_one (ps_ret pe_bl)) pss_nil)))))))))) (pss_cons (ps_set (i := 9) scLaw.nd rfl (.inl rfl) (pe_lst (pa_cons (pe_tup (pa_cons (pe_bare T.ug rfl) (pa_cons (pe_int) (pa_nil)))) (pa_cons (pe_tup (pa_cons (pe_bare T.ur rfl) (pa_cons (pe_int) (pa_nil)))) (pa_cons (pe_tup (pa_cons (pe_bare T.nd rfl) (pa_cons (pe_int) (pa_nil)))) (pa_cons (pe_tup (pa_cons (pe_bare T.ul rfl) (pa_cons (pe_int) (pa_nil)))) (pa_nil))))))) (pss_cons (ps_if (pt_not (pt_val (pe_callB (cr_all rfl) (by rfl) T.b4.all (by decide +kernel) (pa_cons (pe_lc (own := [("_law_e", 12), ("_law_at", 8)]) (g := gTup K 2 (gCons (gName 12) (gCons (gName 8) gNil))) (tt := tYes) rfl scLaw.nd (pi_list (pv 9)) (blkOk_by (own := [("_law_e", 12), ("_law_at", 8)]) (N := lawN) (sc := defScope sLaw) (by decide +kernel)) (fun _ _ _ _ _ => pg_tup rfl (pgs_cons (pg_name (i := 12) scLaw.nd rfl (.inl rfl)) (pgs_cons (pg_name (i := 8) scLaw.nd rfl (.inl rfl)) (pgs_nil)))) (fun _ _ _ _ _ => pts_nil) (fun _ _ _ _ _ => pe_fn T.own hr (by decide) rfl (pa_cons (pv 12) (pa_cons (pv 8) (pa_nil))))) (pa_nil))))) (pss_one (ps_ret pe_bl)) pss_nil) (pss_cons (ps_set (i := 10) scLaw.nd rfl (.inl rfl) (pe_bare T.re rfl)) (pss_one (ps_ret (pe_and (pe_callB (call_isX T.reK.T) (by rfl) T.nm.isi (by decide +kernel) (pa_cons (pv 10) (pa_cons (pe_bltn (v := .ty "ValueError") (by rfl) T.b3.ve (by decide +kernel) rfl) (pa_nil)))) (pe_one (pe_cmpR op_notIn_seq pe_bl (pe_fn T.kinds hr (by decide) rfl (pa_cons (pv 10) (pa_nil))) (by rfl))))))))))), ?_⟩
    refine firstL_go (ys := spotsV25) (by decide) (fun Q q => q) fun sp0 H1 s1 h1 => ?_
    refine moreL_go (xs := spotsV25) (ys := spotsV4) (by decide) (by decide) h1 (fun Q q => q) fun sp H2 s2 h2 => ?_
    have hS2 := (s1.trans s2).seq hS
    clear h1 s1
    refine ⟨4, rfl, by decide, by decide, for_range (lo := 0) (n := 4) (fun k σ H' => ∃ o2 o3 o4 o5 o6 o7 o8 o9 o10 o11 o12, σ = [some (.ref a), some (.ref sp), o2, o3, o4, o5, o6, o7, o8, o9, o10, o11, o12] ∧ Same H2 H')
      ⟨none, none, none, none, none, none, none, none, none, none, none, rfl, Same.refl _⟩ ?_ ?_⟩
    · rintro k σ H3 hk ⟨o2, o3, o4, o5, o6, o7, o8, o9, o10, o11, o12, rfl, s3⟩
      have hS3 := s3.seq hS2
      have h3 := s3 _ _ h2
      refine ⟨_, rfl, _, rfl, a, ns, k, (by rw [Int.zero_add]; rfl), hS3, fun z => ⟨_, rfl, _, _, rfl, rfl, _, rfl, fun p A B np a0 b0 b1 => ?_⟩⟩
      obtain ⟨H4, s4, h4, e4⟩ := lay (o := .lst (poolV A B 0)) np
      rw [e4]
      have P4 : PoolIs H4 p 0 := ⟨A, B, 0, h4, a0, b0, b1, Int.le_refl 0, Int.le_refl 0⟩
      refine ⟨_, rfl, p, 0, rfl, by decide, P4, fun x H5 sx bx P5 => ?_⟩
      refine ⟨_, rfl, p, 1, rfl, by decide, P5, fun y H6 sy by_ P6 => ?_⟩
      have s6 : Same H3 H6 := fun b o e => by
        have n := ne_of_none e np
        exact by_ _ _ n (bx _ _ n (s4 _ _ e))
      have sx6 := Smp.but P5 by_ sx
      refine ⟨by show 2 ≤ sizeLine; decide, fun t nt => ?_⟩
      obtain ⟨H7, s7, h7, e7⟩ := lay (o := .tup [x, y]) nt
      rw [e7]
      refine ⟨t, [x, y], rfl, SqT.of h7, rfl, x, [y], rfl, y, [], rfl, rfl, ?_⟩
      have sx7 := sx6.mono s7
      have sy7 := sy.mono s7
      refine ⟨x, rfl, x, rfl, fun b1 xs1 H8 s8 h8 e8 => ?_⟩
      refine ⟨y, rfl, y, rfl, fun b2 xs2 H9 s9 h9 e9 => ?_⟩
      have sx9 := (sx7.mono s8).mono s9
      have sy9 := (sy7.mono s8).mono s9
      refine ⟨.ref b1, .ref b2, rfl, ?_⟩
      have t9 : Same H3 H9 := ((s6.trans s7).trans s8).trans s9
      refine allsame_ok (l := ctab cs) (x := x) (b := b1) (xs := xs1) rfl (fun _ => rfl) (fun _ => rfl) (fun _ => rfl) (s9 _ _ h8) (e8.mono s9) (by unfold ctab; rw [List.length_map]; decide) sx9 fun H10 s10 => ⟨true, rfl, iteF ?_⟩
      refine allsame_ok (l := ctab cs) (x := y) (b := b2) (xs := xs2) rfl (fun _ => rfl) (fun _ => rfl) (fun _ => rfl) (s10 _ _ h9) (e9.mono s10) (by unfold ctab; rw [List.length_map]; decide) (sy9.mono s10) fun H11 s11 => ⟨true, rfl, iteF ?_⟩
      have t11 : Same H3 H11 := (t9.trans s10).trans s11
      have g1 := s11 _ _ (s10 _ _ (s9 _ _ h8))
      have g2 := s11 _ _ (s10 _ _ h9)
      have r1 := ((e8.mono s9).mono s10).mono s11
      have r2 := (e9.mono s10).mono s11
      have g3 := t11 _ _ h3
      refine ⟨_, rfl, sp, _, rfl, .inl (SqL.of g3), 29, rfl, by decide, by decide, for_range (lo := 0) (n := 29) (fun k' σ H' => ∃ o8, σ = [some (.ref a), some (.ref sp), some (.int (0 + (k : Int))), some (.ref p), some x, some y, some (.ref b1), some (.ref b2), o8, o9, o10, o11, o12] ∧ Same H11 H')
        ⟨o8, rfl, Same.refl _⟩ ?_ ?_⟩
      · rintro j σ H12 hj ⟨u8, rfl, s12⟩
        obtain ⟨i, c, hc, hs, hi, ec⟩ := spot_at cs j hj
        obtain ⟨v1, hv1, a1, d1, ev1, er1⟩ := Paired.at_ r1 hc
        obtain ⟨v2, hv2, a2, d2, ev2, er2⟩ := Paired.at_ r2 hc
        have E1 : ErV H12 (cs i) v1 := by
          rw [ev1, ← ec]
          exact .one (er1.mono s12)
        refine ⟨_, rfl, _, rfl, b1, xs1, _, v1, rfl, rfl, SqL.of (s12 _ _ g1), (by rw [Int.zero_add]; exact atI_nat hv1), _, rfl, _, rfl, sp, _, _, .int i, rfl, rfl, SqL.of (s12 _ _ g3), (by rw [Int.zero_add]; exact atI_nat hs), v1, i, rfl, hi, E1, T.owns i hi, fun H13 s13 => ⟨true, rfl, iteF ?_⟩⟩
        have E2 : ErV H13 (cs i) v2 := by
          rw [ev2, ← ec]
          exact .one ((er2.mono s12).mono s13)
        refine ⟨_, rfl, _, rfl, b2, xs2, _, v2, rfl, rfl, SqL.of (s13 _ _ (s12 _ _ g2)), (by rw [Int.zero_add]; exact atI_nat hv2), _, rfl, _, rfl, sp, _, _, .int i, rfl, rfl, SqL.of (s13 _ _ (s12 _ _ g3)), (by rw [Int.zero_add]; exact atI_nat hs), v2, i, rfl, hi, E2, T.owns i hi, fun H14 s14 => ⟨true, rfl, iteF ?_⟩⟩
        exact ⟨_, rfl, (s12.trans s13).trans s14⟩
      · rintro σ H12 ⟨u8, rfl, s12⟩
        exact ⟨_, _, _, _, _, _, _, _, _, _, _, rfl, (s3.trans t11).trans s12⟩
    · rintro σ H3 ⟨o2, o3, o4, o5, o6, o7, o8, o9, o10, o11, o12, rfl, s3⟩
      intro a1 H4 s4 e1
      refine ⟨by show 2 ≤ sizeLine; decide, fun t1 nt1 => ?_⟩
      obtain ⟨H5, s5, h5, q5⟩ := lay (o := .tup [.ref a1, .int 7]) nt1
      rw [q5]
      intro a2 H6 s6 e2
      refine ⟨by show 2 ≤ sizeLine; decide, fun t2 nt2 => ?_⟩
      obtain ⟨H7, s7, h7, q7⟩ := lay (o := .tup [.ref a2, .int 16]) nt2
      rw [q7]
      intro a3 H8 s8 e3
      refine ⟨by show 2 ≤ sizeLine; decide, fun t3 nt3 => ?_⟩
      obtain ⟨H9, s9, h9, q9⟩ := lay (o := .tup [.ref a3, .int 24]) nt3
      rw [q9]
      intro a4 H10 s10 e4
      refine ⟨by show 2 ≤ sizeLine; decide, fun t4 nt4 => ?_⟩
      obtain ⟨H11, s11, h11, q11⟩ := lay (o := .tup [.ref a4, .int 30]) nt4
      rw [q11]
      refine ⟨by show 4 ≤ sizeLine; decide, fun L nL => ?_⟩
      obtain ⟨H12, s12, h12, q12⟩ := lay (o := .lst [.ref t1, .ref t2, .ref t3, .ref t4]) nL
      rw [q12]
      have w1 : BareAt H12 cs (.ref t1) := ⟨t1, .ref a1, 7, rfl, s12 _ _ (s11 _ _ (s10 _ _ (s9 _ _ (s8 _ _ (s7 _ _ (s6 _ _ h5)))))), by decide, (ErV.bare e1).mono (((((((s5.trans s6).trans s7).trans s8).trans s9).trans s10).trans s11).trans s12)⟩
      have w2 : BareAt H12 cs (.ref t2) := ⟨t2, .ref a2, 16, rfl, s12 _ _ (s11 _ _ (s10 _ _ (s9 _ _ (s8 _ _ h7)))), by decide, (ErV.bare e2).mono (((((s7.trans s8).trans s9).trans s10).trans s11).trans s12)⟩
      have w3 : BareAt H12 cs (.ref t3) := ⟨t3, .ref a3, 24, rfl, s12 _ _ (s11 _ _ (s10 _ _ h9)), by decide, (ErV.bare e3).mono (((s9.trans s10).trans s11).trans s12)⟩
      have w4 : BareAt H12 cs (.ref t4) := ⟨t4, .ref a4, 30, rfl, s12 _ _ h11, by decide, (ErV.bare e4).mono (s11.trans s12)⟩
      have ws : ∀ i x, ([.ref t1, .ref t2, .ref t3, .ref t4] : List V)[i]? = some x → BareAt H12 cs x := fun i x e => by
        have hi : i < 4 := (List.getElem?_eq_some_iff.mp e).1
        rcases i with _ | _ | _ | _ | i
        · have z : V.ref t1 = x := Option.some.inj e
          subst z; exact w1
        · have z : V.ref t2 = x := Option.some.inj e
          subst z; exact w2
        · have z : V.ref t3 = x := Option.some.inj e
          subst z; exact w3
        · have z : V.ref t4 = x := Option.some.inj e
          subst z; exact w4
        · omega
      refine ⟨_, rfl, L, rfl, ⟨_, SqL.of h12⟩, fun D nD => lc_list (K := K) (a := L) (xs := [.ref t1, .ref t2, .ref t3, .ref t4]) (fun i H' => Same H12 H' ∧ H' D = some (.lst (List.replicate i (.bl true)))) ⟨fun b o e => by rw [upd_ne (ne_of_none e nD)]; exact e, upd_same⟩ (fun i H' _ h => SqL.of (h.1 _ _ h12)) ?_ ?_⟩
      · rintro i x H13 hx ⟨s13, h13⟩
        obtain ⟨t, e, j, rfl, ht, hj, er⟩ := ws i x hx
        have hi : i < 4 := (List.getElem?_eq_some_iff.mp hx).1
        refine ⟨t, _, rfl, SqT.of (s13 _ _ ht), rfl, e, _, rfl, .int j, [], rfl, rfl, rfl, ?_⟩
        refine ⟨_, rfl, _, rfl, e, j, rfl, hj, er.mono s13, T.owns j hj, fun H14 s14 => ⟨_, s14 _ _ h13, ?_, ?_, ?_⟩⟩
        · rw [List.length_replicate, sizeLine_eq]; omega
        · exact fun b o z => by rw [upd_ne (ne_of_none z nD)]; exact s14 _ _ (s13 _ _ z)
        · rw [upd_same, List.replicate_succ']
      · rintro H13 ⟨s13, h13⟩
        refine ⟨D, List.replicate 4 true, rfl, SqL.of h13, true, rfl, iteF ?_⟩
        intro a5 H14 s14 e5
        refine ⟨_, rfl, .ref a5, .ty "ValueError", .type "ValueError", true, rfl, .ty "ValueError", .bare e5, T.reV, true, rfl, iteT ?_⟩
        refine ⟨_, rfl, .ref a5, RE, rfl, .bare e5, T.reK, fun b H15 s15 h15 => ?_⟩
        refine ⟨b, _, rfl, .inl (SqL.of h15), rfl, ?_, ?_⟩
        · rw [none_kind T.reN]; rfl
        · rw [none_kind T.reN]
          exact q H15
end
end K1
set_option Elab.async false
set_option linter.all false
set_option maxRecDepth 100000
set_option maxHeartbeats 8000000
namespace K1
open PySem PySem.Spec L2
open PySem.W (findIn subIn typeIn keepIn hasDictIn mroIn specialIn takesIn kitOne Frag)
section
variable {P : Program} {w : World} {K : PySem.W.Frag} {mg : Str → Option Value} {base : Heap}

theorem sc_BadLetter : FnScope ["self", "key"] ["self", "key"] (defScope (inClass (topS 2) 0)) := ⟨rfl, rfl, rfl, by decide +kernel, rfl, by decide +kernel, by decide +kernel⟩
theorem cl_BadLetter {C fI : Addr} (m : mg "BadLetter" = some (.ref C)) (T : ExT K C) (no : findIn K (.ref C) "key" = some none) (iC : findIn K (.ref C) "__init__" = some (some (.ref fI))) (tI : typeIn K (.ref fI) = some (.type "function"))
    (F : ∃ fd, Fun K "__init__" "BadLetter.__init__" (inClass (topS 2) 0) fI fd) : Cl P w K mg base "BadLetter" (C, "key") := by
  obtain ⟨fd, F⟩ := F
  refine ⟨m, T, no, fI, fd, iC, tI, ?_, ?_, ?_⟩
  · refine F.ok sc_BadLetter (fun vs H Q E h => ?_) (fun cdv A outer s H vs Q E hr h => ?_)
    · obtain ⟨a, y, rfl, _⟩ := h
      rfl
    · obtain ⟨a, y, rfl, ha, q⟩ := h
      exact ⟨_, pss_one (ps_ost (pv 0) (pv 1)), _, rfl, _, rfl, a, C, rfl, T.ox, no, .inl ⟨ha, q⟩⟩
  · obtain ⟨oc, od, kV, doc, pm, an, cdv, ct, osl, rfl, _⟩ := F.ex
    exact fun s self u => .of_eq rfl
  · obtain ⟨oc, od, kV, doc, pm, an, cdv, ct, osl, rfl, _⟩ := F.ex
    exact fun s self u => .of_eq rfl
theorem sc_BadFixed : FnScope ["self", "index"] ["self", "index"] (defScope (inClass (topS 3) 0)) := ⟨rfl, rfl, rfl, by decide +kernel, rfl, by decide +kernel, by decide +kernel⟩
theorem cl_BadFixed {C fI : Addr} (m : mg "BadFixed" = some (.ref C)) (T : ExT K C) (no : findIn K (.ref C) "index" = some none) (iC : findIn K (.ref C) "__init__" = some (some (.ref fI))) (tI : typeIn K (.ref fI) = some (.type "function"))
    (F : ∃ fd, Fun K "__init__" "BadFixed.__init__" (inClass (topS 3) 0) fI fd) : Cl P w K mg base "BadFixed" (C, "index") := by
  obtain ⟨fd, F⟩ := F
  refine ⟨m, T, no, fI, fd, iC, tI, ?_, ?_, ?_⟩
  · refine F.ok sc_BadFixed (fun vs H Q E h => ?_) (fun cdv A outer s H vs Q E hr h => ?_)
    · obtain ⟨a, y, rfl, _⟩ := h
      rfl
    · obtain ⟨a, y, rfl, ha, q⟩ := h
      exact ⟨_, pss_one (ps_ost (pv 0) (pv 1)), _, rfl, _, rfl, a, C, rfl, T.ox, no, .inl ⟨ha, q⟩⟩
  · obtain ⟨oc, od, kV, doc, pm, an, cdv, ct, osl, rfl, _⟩ := F.ex
    exact fun s self u => .of_eq rfl
  · obtain ⟨oc, od, kV, doc, pm, an, cdv, ct, osl, rfl, _⟩ := F.ex
    exact fun s self u => .of_eq rfl
theorem sc_BadCommuting : FnScope ["self", "index"] ["self", "index"] (defScope (inClass (topS 4) 0)) := ⟨rfl, rfl, rfl, by decide +kernel, rfl, by decide +kernel, by decide +kernel⟩
theorem cl_BadCommuting {C fI : Addr} (m : mg "BadCommuting" = some (.ref C)) (T : ExT K C) (no : findIn K (.ref C) "index" = some none) (iC : findIn K (.ref C) "__init__" = some (some (.ref fI))) (tI : typeIn K (.ref fI) = some (.type "function"))
    (F : ∃ fd, Fun K "__init__" "BadCommuting.__init__" (inClass (topS 4) 0) fI fd) : Cl P w K mg base "BadCommuting" (C, "index") := by
  obtain ⟨fd, F⟩ := F
  refine ⟨m, T, no, fI, fd, iC, tI, ?_, ?_, ?_⟩
  · refine F.ok sc_BadCommuting (fun vs H Q E h => ?_) (fun cdv A outer s H vs Q E hr h => ?_)
    · obtain ⟨a, y, rfl, _⟩ := h
      rfl
    · obtain ⟨a, y, rfl, ha, q⟩ := h
      exact ⟨_, pss_one (ps_ost (pv 0) (pv 1)), _, rfl, _, rfl, a, C, rfl, T.ox, no, .inl ⟨ha, q⟩⟩
  · obtain ⟨oc, od, kV, doc, pm, an, cdv, ct, osl, rfl, _⟩ := F.ex
    exact fun s self u => .of_eq rfl
  · obtain ⟨oc, od, kV, doc, pm, an, cdv, ct, osl, rfl, _⟩ := F.ex
    exact fun s self u => .of_eq rfl
theorem sc_BadFact : FnScope ["self", "index"] ["self", "index"] (defScope (inClass (topS 5) 0)) := ⟨rfl, rfl, rfl, by decide +kernel, rfl, by decide +kernel, by decide +kernel⟩
theorem cl_BadFact {C fI : Addr} (m : mg "BadFact" = some (.ref C)) (T : ExT K C) (no : findIn K (.ref C) "index" = some none) (iC : findIn K (.ref C) "__init__" = some (some (.ref fI))) (tI : typeIn K (.ref fI) = some (.type "function"))
    (F : ∃ fd, Fun K "__init__" "BadFact.__init__" (inClass (topS 5) 0) fI fd) : Cl P w K mg base "BadFact" (C, "index") := by
  obtain ⟨fd, F⟩ := F
  refine ⟨m, T, no, fI, fd, iC, tI, ?_, ?_, ?_⟩
  · refine F.ok sc_BadFact (fun vs H Q E h => ?_) (fun cdv A outer s H vs Q E hr h => ?_)
    · obtain ⟨a, y, rfl, _⟩ := h
      rfl
    · obtain ⟨a, y, rfl, ha, q⟩ := h
      exact ⟨_, pss_one (ps_ost (pv 0) (pv 1)), _, rfl, _, rfl, a, C, rfl, T.ox, no, .inl ⟨ha, q⟩⟩
  · obtain ⟨oc, od, kV, doc, pm, an, cdv, ct, osl, rfl, _⟩ := F.ex
    exact fun s self u => .of_eq rfl
  · obtain ⟨oc, od, kV, doc, pm, an, cdv, ct, osl, rfl, _⟩ := F.ex
    exact fun s self u => .of_eq rfl
theorem sc_BadTerm : FnScope ["self", "path"] ["self", "path"] (defScope (inClass (topS 6) 0)) := ⟨rfl, rfl, rfl, by decide +kernel, rfl, by decide +kernel, by decide +kernel⟩
theorem cl_BadTerm {C fI : Addr} (m : mg "BadTerm" = some (.ref C)) (T : ExT K C) (no : findIn K (.ref C) "path" = some none) (iC : findIn K (.ref C) "__init__" = some (some (.ref fI))) (tI : typeIn K (.ref fI) = some (.type "function"))
    (F : ∃ fd, Fun K "__init__" "BadTerm.__init__" (inClass (topS 6) 0) fI fd) : Cl P w K mg base "BadTerm" (C, "path") := by
  obtain ⟨fd, F⟩ := F
  refine ⟨m, T, no, fI, fd, iC, tI, ?_, ?_, ?_⟩
  · refine F.ok sc_BadTerm (fun vs H Q E h => ?_) (fun cdv A outer s H vs Q E hr h => ?_)
    · obtain ⟨a, y, rfl, _⟩ := h
      rfl
    · obtain ⟨a, y, rfl, ha, q⟩ := h
      exact ⟨_, pss_one (ps_ost (pv 0) (pv 1)), _, rfl, _, rfl, a, C, rfl, T.ox, no, .inl ⟨ha, q⟩⟩
  · obtain ⟨oc, od, kV, doc, pm, an, cdv, ct, osl, rfl, _⟩ := F.ex
    exact fun s self u => .of_eq rfl
  · obtain ⟨oc, od, kV, doc, pm, an, cdv, ct, osl, rfl, _⟩ := F.ex
    exact fun s self u => .of_eq rfl
theorem sc_NoPart : FnScope ["self", "path"] ["self", "path"] (defScope (inClass (topS 7) 0)) := ⟨rfl, rfl, rfl, by decide +kernel, rfl, by decide +kernel, by decide +kernel⟩
theorem cl_NoPart {C fI : Addr} (m : mg "NoPart" = some (.ref C)) (T : ExT K C) (no : findIn K (.ref C) "path" = some none) (iC : findIn K (.ref C) "__init__" = some (some (.ref fI))) (tI : typeIn K (.ref fI) = some (.type "function"))
    (F : ∃ fd, Fun K "__init__" "NoPart.__init__" (inClass (topS 7) 0) fI fd) : Cl P w K mg base "NoPart" (C, "path") := by
  obtain ⟨fd, F⟩ := F
  refine ⟨m, T, no, fI, fd, iC, tI, ?_, ?_, ?_⟩
  · refine F.ok sc_NoPart (fun vs H Q E h => ?_) (fun cdv A outer s H vs Q E hr h => ?_)
    · obtain ⟨a, y, rfl, _⟩ := h
      rfl
    · obtain ⟨a, y, rfl, ha, q⟩ := h
      exact ⟨_, pss_one (ps_ost (pv 0) (pv 1)), _, rfl, _, rfl, a, C, rfl, T.ox, no, .inl ⟨ha, q⟩⟩
  · obtain ⟨oc, od, kV, doc, pm, an, cdv, ct, osl, rfl, _⟩ := F.ex
    exact fun s self u => .of_eq rfl
  · obtain ⟨oc, od, kV, doc, pm, an, cdv, ct, osl, rfl, _⟩ := F.ex
    exact fun s self u => .of_eq rfl
theorem sc_BadPermit : FnScope ["self", "index"] ["self", "index"] (defScope (inClass (topS 8) 0)) := ⟨rfl, rfl, rfl, by decide +kernel, rfl, by decide +kernel, by decide +kernel⟩
theorem cl_BadPermit {C fI : Addr} (m : mg "BadPermit" = some (.ref C)) (T : ExT K C) (no : findIn K (.ref C) "index" = some none) (iC : findIn K (.ref C) "__init__" = some (some (.ref fI))) (tI : typeIn K (.ref fI) = some (.type "function"))
    (F : ∃ fd, Fun K "__init__" "BadPermit.__init__" (inClass (topS 8) 0) fI fd) : Cl P w K mg base "BadPermit" (C, "index") := by
  obtain ⟨fd, F⟩ := F
  refine ⟨m, T, no, fI, fd, iC, tI, ?_, ?_, ?_⟩
  · refine F.ok sc_BadPermit (fun vs H Q E h => ?_) (fun cdv A outer s H vs Q E hr h => ?_)
    · obtain ⟨a, y, rfl, _⟩ := h
      rfl
    · obtain ⟨a, y, rfl, ha, q⟩ := h
      exact ⟨_, pss_one (ps_ost (pv 0) (pv 1)), _, rfl, _, rfl, a, C, rfl, T.ox, no, .inl ⟨ha, q⟩⟩
  · obtain ⟨oc, od, kV, doc, pm, an, cdv, ct, osl, rfl, _⟩ := F.ex
    exact fun s self u => .of_eq rfl
  · obtain ⟨oc, od, kV, doc, pm, an, cdv, ct, osl, rfl, _⟩ := F.ex
    exact fun s self u => .of_eq rfl
theorem sc_NoRow : FnScope ["self", "row"] ["self", "row"] (defScope (inClass (topS 10) 0)) := ⟨rfl, rfl, rfl, by decide +kernel, rfl, by decide +kernel, by decide +kernel⟩
theorem cl_NoRow {C fI : Addr} (m : mg "NoRow" = some (.ref C)) (T : ExT K C) (no : findIn K (.ref C) "row" = some none) (iC : findIn K (.ref C) "__init__" = some (some (.ref fI))) (tI : typeIn K (.ref fI) = some (.type "function"))
    (F : ∃ fd, Fun K "__init__" "NoRow.__init__" (inClass (topS 10) 0) fI fd) : Cl P w K mg base "NoRow" (C, "row") := by
  obtain ⟨fd, F⟩ := F
  refine ⟨m, T, no, fI, fd, iC, tI, ?_, ?_, ?_⟩
  · refine F.ok sc_NoRow (fun vs H Q E h => ?_) (fun cdv A outer s H vs Q E hr h => ?_)
    · obtain ⟨a, y, rfl, _⟩ := h
      rfl
    · obtain ⟨a, y, rfl, ha, q⟩ := h
      exact ⟨_, pss_one (ps_ost (pv 0) (pv 1)), _, rfl, _, rfl, a, C, rfl, T.ox, no, .inl ⟨ha, q⟩⟩
  · obtain ⟨oc, od, kV, doc, pm, an, cdv, ct, osl, rfl, _⟩ := F.ex
    exact fun s self u => .of_eq rfl
  · obtain ⟨oc, od, kV, doc, pm, an, cdv, ct, osl, rfl, _⟩ := F.ex
    exact fun s self u => .of_eq rfl
theorem sc_BadBits : FnScope ["self", "index"] ["self", "index"] (defScope (inClass (topS 11) 0)) := ⟨rfl, rfl, rfl, by decide +kernel, rfl, by decide +kernel, by decide +kernel⟩
theorem cl_BadBits {C fI : Addr} (m : mg "BadBits" = some (.ref C)) (T : ExT K C) (no : findIn K (.ref C) "index" = some none) (iC : findIn K (.ref C) "__init__" = some (some (.ref fI))) (tI : typeIn K (.ref fI) = some (.type "function"))
    (F : ∃ fd, Fun K "__init__" "BadBits.__init__" (inClass (topS 11) 0) fI fd) : Cl P w K mg base "BadBits" (C, "index") := by
  obtain ⟨fd, F⟩ := F
  refine ⟨m, T, no, fI, fd, iC, tI, ?_, ?_, ?_⟩
  · refine F.ok sc_BadBits (fun vs H Q E h => ?_) (fun cdv A outer s H vs Q E hr h => ?_)
    · obtain ⟨a, y, rfl, _⟩ := h
      rfl
    · obtain ⟨a, y, rfl, ha, q⟩ := h
      exact ⟨_, pss_one (ps_ost (pv 0) (pv 1)), _, rfl, _, rfl, a, C, rfl, T.ox, no, .inl ⟨ha, q⟩⟩
  · obtain ⟨oc, od, kV, doc, pm, an, cdv, ct, osl, rfl, _⟩ := F.ex
    exact fun s self u => .of_eq rfl
  · obtain ⟨oc, od, kV, doc, pm, an, cdv, ct, osl, rfl, _⟩ := F.ex
    exact fun s self u => .of_eq rfl
theorem sc_BadRelation : FnScope ["self", "relation"] ["self", "relation"] (defScope (inClass (topS 12) 0)) := ⟨rfl, rfl, rfl, by decide +kernel, rfl, by decide +kernel, by decide +kernel⟩
theorem cl_BadRelation {C fI : Addr} (m : mg "BadRelation" = some (.ref C)) (T : ExT K C) (no : findIn K (.ref C) "relation" = some none) (iC : findIn K (.ref C) "__init__" = some (some (.ref fI))) (tI : typeIn K (.ref fI) = some (.type "function"))
    (F : ∃ fd, Fun K "__init__" "BadRelation.__init__" (inClass (topS 12) 0) fI fd) : Cl P w K mg base "BadRelation" (C, "relation") := by
  obtain ⟨fd, F⟩ := F
  refine ⟨m, T, no, fI, fd, iC, tI, ?_, ?_, ?_⟩
  · refine F.ok sc_BadRelation (fun vs H Q E h => ?_) (fun cdv A outer s H vs Q E hr h => ?_)
    · obtain ⟨a, y, rfl, _⟩ := h
      rfl
    · obtain ⟨a, y, rfl, ha, q⟩ := h
      exact ⟨_, pss_one (ps_ost (pv 0) (pv 1)), _, rfl, _, rfl, a, C, rfl, T.ox, no, .inl ⟨ha, q⟩⟩
  · obtain ⟨oc, od, kV, doc, pm, an, cdv, ct, osl, rfl, _⟩ := F.ex
    exact fun s self u => .of_eq rfl
  · obtain ⟨oc, od, kV, doc, pm, an, cdv, ct, osl, rfl, _⟩ := F.ex
    exact fun s self u => .of_eq rfl
theorem sc_BadPlayer : FnScope ["self", "key"] ["self", "key"] (defScope (inClass (topS 13) 0)) := ⟨rfl, rfl, rfl, by decide +kernel, rfl, by decide +kernel, by decide +kernel⟩
theorem cl_BadPlayer {C fI : Addr} (m : mg "BadPlayer" = some (.ref C)) (T : ExT K C) (no : findIn K (.ref C) "key" = some none) (iC : findIn K (.ref C) "__init__" = some (some (.ref fI))) (tI : typeIn K (.ref fI) = some (.type "function"))
    (F : ∃ fd, Fun K "__init__" "BadPlayer.__init__" (inClass (topS 13) 0) fI fd) : Cl P w K mg base "BadPlayer" (C, "key") := by
  obtain ⟨fd, F⟩ := F
  refine ⟨m, T, no, fI, fd, iC, tI, ?_, ?_, ?_⟩
  · refine F.ok sc_BadPlayer (fun vs H Q E h => ?_) (fun cdv A outer s H vs Q E hr h => ?_)
    · obtain ⟨a, y, rfl, _⟩ := h
      rfl
    · obtain ⟨a, y, rfl, ha, q⟩ := h
      exact ⟨_, pss_one (ps_ost (pv 0) (pv 1)), _, rfl, _, rfl, a, C, rfl, T.ox, no, .inl ⟨ha, q⟩⟩
  · obtain ⟨oc, od, kV, doc, pm, an, cdv, ct, osl, rfl, _⟩ := F.ex
    exact fun s self u => .of_eq rfl
  · obtain ⟨oc, od, kV, doc, pm, an, cdv, ct, osl, rfl, _⟩ := F.ex
    exact fun s self u => .of_eq rfl
theorem sc_Clash : FnScope ["self", "name"] ["self", "name"] (defScope (inClass (topS 14) 0)) := ⟨rfl, rfl, rfl, by decide +kernel, rfl, by decide +kernel, by decide +kernel⟩
theorem cl_Clash {C fI : Addr} (m : mg "Clash" = some (.ref C)) (T : ExT K C) (no : findIn K (.ref C) "name" = some none) (iC : findIn K (.ref C) "__init__" = some (some (.ref fI))) (tI : typeIn K (.ref fI) = some (.type "function"))
    (F : ∃ fd, Fun K "__init__" "Clash.__init__" (inClass (topS 14) 0) fI fd) : Cl P w K mg base "Clash" (C, "name") := by
  obtain ⟨fd, F⟩ := F
  refine ⟨m, T, no, fI, fd, iC, tI, ?_, ?_, ?_⟩
  · refine F.ok sc_Clash (fun vs H Q E h => ?_) (fun cdv A outer s H vs Q E hr h => ?_)
    · obtain ⟨a, y, rfl, _⟩ := h
      rfl
    · obtain ⟨a, y, rfl, ha, q⟩ := h
      exact ⟨_, pss_one (ps_ost (pv 0) (pv 1)), _, rfl, _, rfl, a, C, rfl, T.ox, no, .inl ⟨ha, q⟩⟩
  · obtain ⟨oc, od, kV, doc, pm, an, cdv, ct, osl, rfl, _⟩ := F.ex
    exact fun s self u => .of_eq rfl
  · obtain ⟨oc, od, kV, doc, pm, an, cdv, ct, osl, rfl, _⟩ := F.ex
    exact fun s self u => .of_eq rfl
theorem sc_BadRow : FnScope ["self", "index"] ["self", "index"] (defScope (inClass (topS 15) 0)) := ⟨rfl, rfl, rfl, by decide +kernel, rfl, by decide +kernel, by decide +kernel⟩
theorem cl_BadRow {C fI : Addr} (m : mg "BadRow" = some (.ref C)) (T : ExT K C) (no : findIn K (.ref C) "index" = some none) (iC : findIn K (.ref C) "__init__" = some (some (.ref fI))) (tI : typeIn K (.ref fI) = some (.type "function"))
    (F : ∃ fd, Fun K "__init__" "BadRow.__init__" (inClass (topS 15) 0) fI fd) : Cl P w K mg base "BadRow" (C, "index") := by
  obtain ⟨fd, F⟩ := F
  refine ⟨m, T, no, fI, fd, iC, tI, ?_, ?_, ?_⟩
  · refine F.ok sc_BadRow (fun vs H Q E h => ?_) (fun cdv A outer s H vs Q E hr h => ?_)
    · obtain ⟨a, y, rfl, _⟩ := h
      rfl
    · obtain ⟨a, y, rfl, ha, q⟩ := h
      exact ⟨_, pss_one (ps_ost (pv 0) (pv 1)), _, rfl, _, rfl, a, C, rfl, T.ox, no, .inl ⟨ha, q⟩⟩
  · obtain ⟨oc, od, kV, doc, pm, an, cdv, ct, osl, rfl, _⟩ := F.ex
    exact fun s self u => .of_eq rfl
  · obtain ⟨oc, od, kV, doc, pm, an, cdv, ct, osl, rfl, _⟩ := F.ex
    exact fun s self u => .of_eq rfl
theorem sc_BadTold : FnScope ["self", "told"] ["self", "told"] (defScope (inClass (topS 16) 0)) := ⟨rfl, rfl, rfl, by decide +kernel, rfl, by decide +kernel, by decide +kernel⟩
theorem cl_BadTold {C fI : Addr} (m : mg "BadTold" = some (.ref C)) (T : ExT K C) (no : findIn K (.ref C) "told" = some none) (iC : findIn K (.ref C) "__init__" = some (some (.ref fI))) (tI : typeIn K (.ref fI) = some (.type "function"))
    (F : ∃ fd, Fun K "__init__" "BadTold.__init__" (inClass (topS 16) 0) fI fd) : Cl P w K mg base "BadTold" (C, "told") := by
  obtain ⟨fd, F⟩ := F
  refine ⟨m, T, no, fI, fd, iC, tI, ?_, ?_, ?_⟩
  · refine F.ok sc_BadTold (fun vs H Q E h => ?_) (fun cdv A outer s H vs Q E hr h => ?_)
    · obtain ⟨a, y, rfl, _⟩ := h
      rfl
    · obtain ⟨a, y, rfl, ha, q⟩ := h
      exact ⟨_, pss_one (ps_ost (pv 0) (pv 1)), _, rfl, _, rfl, a, C, rfl, T.ox, no, .inl ⟨ha, q⟩⟩
  · obtain ⟨oc, od, kV, doc, pm, an, cdv, ct, osl, rfl, _⟩ := F.ex
    exact fun s self u => .of_eq rfl
  · obtain ⟨oc, od, kV, doc, pm, an, cdv, ct, osl, rfl, _⟩ := F.ex
    exact fun s self u => .of_eq rfl
theorem sc_NoSuch : FnScope ["self", "number"] ["self", "number"] (defScope (inClass (topS 17) 0)) := ⟨rfl, rfl, rfl, by decide +kernel, rfl, by decide +kernel, by decide +kernel⟩
theorem cl_NoSuch {C fI : Addr} (m : mg "NoSuch" = some (.ref C)) (T : ExT K C) (no : findIn K (.ref C) "number" = some none) (iC : findIn K (.ref C) "__init__" = some (some (.ref fI))) (tI : typeIn K (.ref fI) = some (.type "function"))
    (F : ∃ fd, Fun K "__init__" "NoSuch.__init__" (inClass (topS 17) 0) fI fd) : Cl P w K mg base "NoSuch" (C, "number") := by
  obtain ⟨fd, F⟩ := F
  refine ⟨m, T, no, fI, fd, iC, tI, ?_, ?_, ?_⟩
  · refine F.ok sc_NoSuch (fun vs H Q E h => ?_) (fun cdv A outer s H vs Q E hr h => ?_)
    · obtain ⟨a, y, rfl, _⟩ := h
      rfl
    · obtain ⟨a, y, rfl, ha, q⟩ := h
      exact ⟨_, pss_one (ps_ost (pv 0) (pv 1)), _, rfl, _, rfl, a, C, rfl, T.ox, no, .inl ⟨ha, q⟩⟩
  · obtain ⟨oc, od, kV, doc, pm, an, cdv, ct, osl, rfl, _⟩ := F.ex
    exact fun s self u => .of_eq rfl
  · obtain ⟨oc, od, kV, doc, pm, an, cdv, ct, osl, rfl, _⟩ := F.ex
    exact fun s self u => .of_eq rfl
theorem sc_BadName : FnScope ["self", "name"] ["self", "name"] (defScope (inClass (topS 19) 0)) := ⟨rfl, rfl, rfl, by decide +kernel, rfl, by decide +kernel, by decide +kernel⟩
theorem cl_BadName {C fI : Addr} (m : mg "BadName" = some (.ref C)) (T : ExT K C) (no : findIn K (.ref C) "name" = some none) (iC : findIn K (.ref C) "__init__" = some (some (.ref fI))) (tI : typeIn K (.ref fI) = some (.type "function"))
    (F : ∃ fd, Fun K "__init__" "BadName.__init__" (inClass (topS 19) 0) fI fd) : Cl P w K mg base "BadName" (C, "name") := by
  obtain ⟨fd, F⟩ := F
  refine ⟨m, T, no, fI, fd, iC, tI, ?_, ?_, ?_⟩
  · refine F.ok sc_BadName (fun vs H Q E h => ?_) (fun cdv A outer s H vs Q E hr h => ?_)
    · obtain ⟨a, y, rfl, _⟩ := h
      rfl
    · obtain ⟨a, y, rfl, ha, q⟩ := h
      exact ⟨_, pss_one (ps_ost (pv 0) (pv 1)), _, rfl, _, rfl, a, C, rfl, T.ox, no, .inl ⟨ha, q⟩⟩
  · obtain ⟨oc, od, kV, doc, pm, an, cdv, ct, osl, rfl, _⟩ := F.ex
    exact fun s self u => .of_eq rfl
  · obtain ⟨oc, od, kV, doc, pm, an, cdv, ct, osl, rfl, _⟩ := F.ex
    exact fun s self u => .of_eq rfl
theorem sc_Taken : FnScope ["self", "name"] ["self", "name"] (defScope (inClass (topS 20) 0)) := ⟨rfl, rfl, rfl, by decide +kernel, rfl, by decide +kernel, by decide +kernel⟩
theorem cl_Taken {C fI : Addr} (m : mg "Taken" = some (.ref C)) (T : ExT K C) (no : findIn K (.ref C) "name" = some none) (iC : findIn K (.ref C) "__init__" = some (some (.ref fI))) (tI : typeIn K (.ref fI) = some (.type "function"))
    (F : ∃ fd, Fun K "__init__" "Taken.__init__" (inClass (topS 20) 0) fI fd) : Cl P w K mg base "Taken" (C, "name") := by
  obtain ⟨fd, F⟩ := F
  refine ⟨m, T, no, fI, fd, iC, tI, ?_, ?_, ?_⟩
  · refine F.ok sc_Taken (fun vs H Q E h => ?_) (fun cdv A outer s H vs Q E hr h => ?_)
    · obtain ⟨a, y, rfl, _⟩ := h
      rfl
    · obtain ⟨a, y, rfl, ha, q⟩ := h
      exact ⟨_, pss_one (ps_ost (pv 0) (pv 1)), _, rfl, _, rfl, a, C, rfl, T.ox, no, .inl ⟨ha, q⟩⟩
  · obtain ⟨oc, od, kV, doc, pm, an, cdv, ct, osl, rfl, _⟩ := F.ex
    exact fun s self u => .of_eq rfl
  · obtain ⟨oc, od, kV, doc, pm, an, cdv, ct, osl, rfl, _⟩ := F.ex
    exact fun s self u => .of_eq rfl
theorem sc_Broken : FnScope ["self", "bits"] ["self", "bits"] (defScope (inClass (topS 21) 0)) := ⟨rfl, rfl, rfl, by decide +kernel, rfl, by decide +kernel, by decide +kernel⟩
theorem cl_Broken {C fI : Addr} (m : mg "Broken" = some (.ref C)) (T : ExT K C) (no : findIn K (.ref C) "bits" = some none) (iC : findIn K (.ref C) "__init__" = some (some (.ref fI))) (tI : typeIn K (.ref fI) = some (.type "function"))
    (F : ∃ fd, Fun K "__init__" "Broken.__init__" (inClass (topS 21) 0) fI fd) : Cl P w K mg base "Broken" (C, "bits") := by
  obtain ⟨fd, F⟩ := F
  refine ⟨m, T, no, fI, fd, iC, tI, ?_, ?_, ?_⟩
  · refine F.ok sc_Broken (fun vs H Q E h => ?_) (fun cdv A outer s H vs Q E hr h => ?_)
    · obtain ⟨a, y, rfl, _⟩ := h
      rfl
    · obtain ⟨a, y, rfl, ha, q⟩ := h
      exact ⟨_, pss_one (ps_ost (pv 0) (pv 1)), _, rfl, _, rfl, a, C, rfl, T.ox, no, .inl ⟨ha, q⟩⟩
  · obtain ⟨oc, od, kV, doc, pm, an, cdv, ct, osl, rfl, _⟩ := F.ex
    exact fun s self u => .of_eq rfl
  · obtain ⟨oc, od, kV, doc, pm, an, cdv, ct, osl, rfl, _⟩ := F.ex
    exact fun s self u => .of_eq rfl
theorem sc_NoRule : FnScope ["self", "name"] ["self", "name"] (defScope (inClass (topS 22) 0)) := ⟨rfl, rfl, rfl, by decide +kernel, rfl, by decide +kernel, by decide +kernel⟩
theorem cl_NoRule {C fI : Addr} (m : mg "NoRule" = some (.ref C)) (T : ExT K C) (no : findIn K (.ref C) "name" = some none) (iC : findIn K (.ref C) "__init__" = some (some (.ref fI))) (tI : typeIn K (.ref fI) = some (.type "function"))
    (F : ∃ fd, Fun K "__init__" "NoRule.__init__" (inClass (topS 22) 0) fI fd) : Cl P w K mg base "NoRule" (C, "name") := by
  obtain ⟨fd, F⟩ := F
  refine ⟨m, T, no, fI, fd, iC, tI, ?_, ?_, ?_⟩
  · refine F.ok sc_NoRule (fun vs H Q E h => ?_) (fun cdv A outer s H vs Q E hr h => ?_)
    · obtain ⟨a, y, rfl, _⟩ := h
      rfl
    · obtain ⟨a, y, rfl, ha, q⟩ := h
      exact ⟨_, pss_one (ps_ost (pv 0) (pv 1)), _, rfl, _, rfl, a, C, rfl, T.ox, no, .inl ⟨ha, q⟩⟩
  · obtain ⟨oc, od, kV, doc, pm, an, cdv, ct, osl, rfl, _⟩ := F.ex
    exact fun s self u => .of_eq rfl
  · obtain ⟨oc, od, kV, doc, pm, an, cdv, ct, osl, rfl, _⟩ := F.ex
    exact fun s self u => .of_eq rfl
theorem sc_BadNumber : FnScope ["self", "number"] ["self", "number"] (defScope (inClass (topS 23) 0)) := ⟨rfl, rfl, rfl, by decide +kernel, rfl, by decide +kernel, by decide +kernel⟩
theorem cl_BadNumber {C fI : Addr} (m : mg "BadNumber" = some (.ref C)) (T : ExT K C) (no : findIn K (.ref C) "number" = some none) (iC : findIn K (.ref C) "__init__" = some (some (.ref fI))) (tI : typeIn K (.ref fI) = some (.type "function"))
    (F : ∃ fd, Fun K "__init__" "BadNumber.__init__" (inClass (topS 23) 0) fI fd) : Cl P w K mg base "BadNumber" (C, "number") := by
  obtain ⟨fd, F⟩ := F
  refine ⟨m, T, no, fI, fd, iC, tI, ?_, ?_, ?_⟩
  · refine F.ok sc_BadNumber (fun vs H Q E h => ?_) (fun cdv A outer s H vs Q E hr h => ?_)
    · obtain ⟨a, y, rfl, _⟩ := h
      rfl
    · obtain ⟨a, y, rfl, ha, q⟩ := h
      exact ⟨_, pss_one (ps_ost (pv 0) (pv 1)), _, rfl, _, rfl, a, C, rfl, T.ox, no, .inl ⟨ha, q⟩⟩
  · obtain ⟨oc, od, kV, doc, pm, an, cdv, ct, osl, rfl, _⟩ := F.ex
    exact fun s self u => .of_eq rfl
  · obtain ⟨oc, od, kV, doc, pm, an, cdv, ct, osl, rfl, _⟩ := F.ex
    exact fun s self u => .of_eq rfl
theorem sc_Held : FnScope ["self", "name"] ["self", "name"] (defScope (inClass (topS 24) 0)) := ⟨rfl, rfl, rfl, by decide +kernel, rfl, by decide +kernel, by decide +kernel⟩
theorem cl_Held {C fI : Addr} (m : mg "Held" = some (.ref C)) (T : ExT K C) (no : findIn K (.ref C) "name" = some none) (iC : findIn K (.ref C) "__init__" = some (some (.ref fI))) (tI : typeIn K (.ref fI) = some (.type "function"))
    (F : ∃ fd, Fun K "__init__" "Held.__init__" (inClass (topS 24) 0) fI fd) : Cl P w K mg base "Held" (C, "name") := by
  obtain ⟨fd, F⟩ := F
  refine ⟨m, T, no, fI, fd, iC, tI, ?_, ?_, ?_⟩
  · refine F.ok sc_Held (fun vs H Q E h => ?_) (fun cdv A outer s H vs Q E hr h => ?_)
    · obtain ⟨a, y, rfl, _⟩ := h
      rfl
    · obtain ⟨a, y, rfl, ha, q⟩ := h
      exact ⟨_, pss_one (ps_ost (pv 0) (pv 1)), _, rfl, _, rfl, a, C, rfl, T.ox, no, .inl ⟨ha, q⟩⟩
  · obtain ⟨oc, od, kV, doc, pm, an, cdv, ct, osl, rfl, _⟩ := F.ex
    exact fun s self u => .of_eq rfl
  · obtain ⟨oc, od, kV, doc, pm, an, cdv, ct, osl, rfl, _⟩ := F.ex
    exact fun s self u => .of_eq rfl
theorem sc_NotHeld : FnScope ["self", "name"] ["self", "name"] (defScope (inClass (topS 25) 0)) := ⟨rfl, rfl, rfl, by decide +kernel, rfl, by decide +kernel, by decide +kernel⟩
theorem cl_NotHeld {C fI : Addr} (m : mg "NotHeld" = some (.ref C)) (T : ExT K C) (no : findIn K (.ref C) "name" = some none) (iC : findIn K (.ref C) "__init__" = some (some (.ref fI))) (tI : typeIn K (.ref fI) = some (.type "function"))
    (F : ∃ fd, Fun K "__init__" "NotHeld.__init__" (inClass (topS 25) 0) fI fd) : Cl P w K mg base "NotHeld" (C, "name") := by
  obtain ⟨fd, F⟩ := F
  refine ⟨m, T, no, fI, fd, iC, tI, ?_, ?_, ?_⟩
  · refine F.ok sc_NotHeld (fun vs H Q E h => ?_) (fun cdv A outer s H vs Q E hr h => ?_)
    · obtain ⟨a, y, rfl, _⟩ := h
      rfl
    · obtain ⟨a, y, rfl, ha, q⟩ := h
      exact ⟨_, pss_one (ps_ost (pv 0) (pv 1)), _, rfl, _, rfl, a, C, rfl, T.ox, no, .inl ⟨ha, q⟩⟩
  · obtain ⟨oc, od, kV, doc, pm, an, cdv, ct, osl, rfl, _⟩ := F.ex
    exact fun s self u => .of_eq rfl
  · obtain ⟨oc, od, kV, doc, pm, an, cdv, ct, osl, rfl, _⟩ := F.ex
    exact fun s self u => .of_eq rfl
theorem sc_BadText : FnScope ["self", "place"] ["self", "place"] (defScope (inClass (topS 27) 0)) := ⟨rfl, rfl, rfl, by decide +kernel, rfl, by decide +kernel, by decide +kernel⟩
theorem cl_BadText {C fI : Addr} (m : mg "BadText" = some (.ref C)) (T : ExT K C) (no : findIn K (.ref C) "place" = some none) (iC : findIn K (.ref C) "__init__" = some (some (.ref fI))) (tI : typeIn K (.ref fI) = some (.type "function"))
    (F : ∃ fd, Fun K "__init__" "BadText.__init__" (inClass (topS 27) 0) fI fd) : Cl P w K mg base "BadText" (C, "place") := by
  obtain ⟨fd, F⟩ := F
  refine ⟨m, T, no, fI, fd, iC, tI, ?_, ?_, ?_⟩
  · refine F.ok sc_BadText (fun vs H Q E h => ?_) (fun cdv A outer s H vs Q E hr h => ?_)
    · obtain ⟨a, y, rfl, _⟩ := h
      rfl
    · obtain ⟨a, y, rfl, ha, q⟩ := h
      exact ⟨_, pss_one (ps_ost (pv 0) (pv 1)), _, rfl, _, rfl, a, C, rfl, T.ox, no, .inl ⟨ha, q⟩⟩
  · obtain ⟨oc, od, kV, doc, pm, an, cdv, ct, osl, rfl, _⟩ := F.ex
    exact fun s self u => .of_eq rfl
  · obtain ⟨oc, od, kV, doc, pm, an, cdv, ct, osl, rfl, _⟩ := F.ex
    exact fun s self u => .of_eq rfl
theorem sc_BadEvent : FnScope ["self", "event"] ["self", "event"] (defScope (inClass (topS 28) 0)) := ⟨rfl, rfl, rfl, by decide +kernel, rfl, by decide +kernel, by decide +kernel⟩
theorem cl_BadEvent {C fI : Addr} (m : mg "BadEvent" = some (.ref C)) (T : ExT K C) (no : findIn K (.ref C) "event" = some none) (iC : findIn K (.ref C) "__init__" = some (some (.ref fI))) (tI : typeIn K (.ref fI) = some (.type "function"))
    (F : ∃ fd, Fun K "__init__" "BadEvent.__init__" (inClass (topS 28) 0) fI fd) : Cl P w K mg base "BadEvent" (C, "event") := by
  obtain ⟨fd, F⟩ := F
  refine ⟨m, T, no, fI, fd, iC, tI, ?_, ?_, ?_⟩
  · refine F.ok sc_BadEvent (fun vs H Q E h => ?_) (fun cdv A outer s H vs Q E hr h => ?_)
    · obtain ⟨a, y, rfl, _⟩ := h
      rfl
    · obtain ⟨a, y, rfl, ha, q⟩ := h
      exact ⟨_, pss_one (ps_ost (pv 0) (pv 1)), _, rfl, _, rfl, a, C, rfl, T.ox, no, .inl ⟨ha, q⟩⟩
  · obtain ⟨oc, od, kV, doc, pm, an, cdv, ct, osl, rfl, _⟩ := F.ex
    exact fun s self u => .of_eq rfl
  · obtain ⟨oc, od, kV, doc, pm, an, cdv, ct, osl, rfl, _⟩ := F.ex
    exact fun s self u => .of_eq rfl
theorem sc_BadMark : FnScope ["self", "index"] ["self", "index"] (defScope (inClass (topS 29) 0)) := ⟨rfl, rfl, rfl, by decide +kernel, rfl, by decide +kernel, by decide +kernel⟩
theorem cl_BadMark {C fI : Addr} (m : mg "BadMark" = some (.ref C)) (T : ExT K C) (no : findIn K (.ref C) "index" = some none) (iC : findIn K (.ref C) "__init__" = some (some (.ref fI))) (tI : typeIn K (.ref fI) = some (.type "function"))
    (F : ∃ fd, Fun K "__init__" "BadMark.__init__" (inClass (topS 29) 0) fI fd) : Cl P w K mg base "BadMark" (C, "index") := by
  obtain ⟨fd, F⟩ := F
  refine ⟨m, T, no, fI, fd, iC, tI, ?_, ?_, ?_⟩
  · refine F.ok sc_BadMark (fun vs H Q E h => ?_) (fun cdv A outer s H vs Q E hr h => ?_)
    · obtain ⟨a, y, rfl, _⟩ := h
      rfl
    · obtain ⟨a, y, rfl, ha, q⟩ := h
      exact ⟨_, pss_one (ps_ost (pv 0) (pv 1)), _, rfl, _, rfl, a, C, rfl, T.ox, no, .inl ⟨ha, q⟩⟩
  · obtain ⟨oc, od, kV, doc, pm, an, cdv, ct, osl, rfl, _⟩ := F.ex
    exact fun s self u => .of_eq rfl
  · obtain ⟨oc, od, kV, doc, pm, an, cdv, ct, osl, rfl, _⟩ := F.ex
    exact fun s self u => .of_eq rfl
theorem sc_BadFunction : FnScope ["self", "index"] ["self", "index"] (defScope (inClass (topS 30) 0)) := ⟨rfl, rfl, rfl, by decide +kernel, rfl, by decide +kernel, by decide +kernel⟩
theorem cl_BadFunction {C fI : Addr} (m : mg "BadFunction" = some (.ref C)) (T : ExT K C) (no : findIn K (.ref C) "index" = some none) (iC : findIn K (.ref C) "__init__" = some (some (.ref fI))) (tI : typeIn K (.ref fI) = some (.type "function"))
    (F : ∃ fd, Fun K "__init__" "BadFunction.__init__" (inClass (topS 30) 0) fI fd) : Cl P w K mg base "BadFunction" (C, "index") := by
  obtain ⟨fd, F⟩ := F
  refine ⟨m, T, no, fI, fd, iC, tI, ?_, ?_, ?_⟩
  · refine F.ok sc_BadFunction (fun vs H Q E h => ?_) (fun cdv A outer s H vs Q E hr h => ?_)
    · obtain ⟨a, y, rfl, _⟩ := h
      rfl
    · obtain ⟨a, y, rfl, ha, q⟩ := h
      exact ⟨_, pss_one (ps_ost (pv 0) (pv 1)), _, rfl, _, rfl, a, C, rfl, T.ox, no, .inl ⟨ha, q⟩⟩
  · obtain ⟨oc, od, kV, doc, pm, an, cdv, ct, osl, rfl, _⟩ := F.ex
    exact fun s self u => .of_eq rfl
  · obtain ⟨oc, od, kV, doc, pm, an, cdv, ct, osl, rfl, _⟩ := F.ex
    exact fun s self u => .of_eq rfl
theorem sc_NoFunction : FnScope ["self", "name"] ["self", "name"] (defScope (inClass (topS 31) 0)) := ⟨rfl, rfl, rfl, by decide +kernel, rfl, by decide +kernel, by decide +kernel⟩
theorem cl_NoFunction {C fI : Addr} (m : mg "NoFunction" = some (.ref C)) (T : ExT K C) (no : findIn K (.ref C) "name" = some none) (iC : findIn K (.ref C) "__init__" = some (some (.ref fI))) (tI : typeIn K (.ref fI) = some (.type "function"))
    (F : ∃ fd, Fun K "__init__" "NoFunction.__init__" (inClass (topS 31) 0) fI fd) : Cl P w K mg base "NoFunction" (C, "name") := by
  obtain ⟨fd, F⟩ := F
  refine ⟨m, T, no, fI, fd, iC, tI, ?_, ?_, ?_⟩
  · refine F.ok sc_NoFunction (fun vs H Q E h => ?_) (fun cdv A outer s H vs Q E hr h => ?_)
    · obtain ⟨a, y, rfl, _⟩ := h
      rfl
    · obtain ⟨a, y, rfl, ha, q⟩ := h
      exact ⟨_, pss_one (ps_ost (pv 0) (pv 1)), _, rfl, _, rfl, a, C, rfl, T.ox, no, .inl ⟨ha, q⟩⟩
  · obtain ⟨oc, od, kV, doc, pm, an, cdv, ct, osl, rfl, _⟩ := F.ex
    exact fun s self u => .of_eq rfl
  · obtain ⟨oc, od, kV, doc, pm, an, cdv, ct, osl, rfl, _⟩ := F.ex
    exact fun s self u => .of_eq rfl
theorem sc_BadRows : FnScope ["self", "index"] ["self", "index"] (defScope (inClass (topS 33) 0)) := ⟨rfl, rfl, rfl, by decide +kernel, rfl, by decide +kernel, by decide +kernel⟩
theorem cl_BadRows {C fI : Addr} (m : mg "BadRows" = some (.ref C)) (T : ExT K C) (no : findIn K (.ref C) "index" = some none) (iC : findIn K (.ref C) "__init__" = some (some (.ref fI))) (tI : typeIn K (.ref fI) = some (.type "function"))
    (F : ∃ fd, Fun K "__init__" "BadRows.__init__" (inClass (topS 33) 0) fI fd) : Cl P w K mg base "BadRows" (C, "index") := by
  obtain ⟨fd, F⟩ := F
  refine ⟨m, T, no, fI, fd, iC, tI, ?_, ?_, ?_⟩
  · refine F.ok sc_BadRows (fun vs H Q E h => ?_) (fun cdv A outer s H vs Q E hr h => ?_)
    · obtain ⟨a, y, rfl, _⟩ := h
      rfl
    · obtain ⟨a, y, rfl, ha, q⟩ := h
      exact ⟨_, pss_one (ps_ost (pv 0) (pv 1)), _, rfl, _, rfl, a, C, rfl, T.ox, no, .inl ⟨ha, q⟩⟩
  · obtain ⟨oc, od, kV, doc, pm, an, cdv, ct, osl, rfl, _⟩ := F.ex
    exact fun s self u => .of_eq rfl
  · obtain ⟨oc, od, kV, doc, pm, an, cdv, ct, osl, rfl, _⟩ := F.ex
    exact fun s self u => .of_eq rfl
theorem sc_BadWeave : FnScope ["self", "index"] ["self", "index"] (defScope (inClass (topS 34) 0)) := ⟨rfl, rfl, rfl, by decide +kernel, rfl, by decide +kernel, by decide +kernel⟩
theorem cl_BadWeave {C fI : Addr} (m : mg "BadWeave" = some (.ref C)) (T : ExT K C) (no : findIn K (.ref C) "index" = some none) (iC : findIn K (.ref C) "__init__" = some (some (.ref fI))) (tI : typeIn K (.ref fI) = some (.type "function"))
    (F : ∃ fd, Fun K "__init__" "BadWeave.__init__" (inClass (topS 34) 0) fI fd) : Cl P w K mg base "BadWeave" (C, "index") := by
  obtain ⟨fd, F⟩ := F
  refine ⟨m, T, no, fI, fd, iC, tI, ?_, ?_, ?_⟩
  · refine F.ok sc_BadWeave (fun vs H Q E h => ?_) (fun cdv A outer s H vs Q E hr h => ?_)
    · obtain ⟨a, y, rfl, _⟩ := h
      rfl
    · obtain ⟨a, y, rfl, ha, q⟩ := h
      exact ⟨_, pss_one (ps_ost (pv 0) (pv 1)), _, rfl, _, rfl, a, C, rfl, T.ox, no, .inl ⟨ha, q⟩⟩
  · obtain ⟨oc, od, kV, doc, pm, an, cdv, ct, osl, rfl, _⟩ := F.ex
    exact fun s self u => .of_eq rfl
  · obtain ⟨oc, od, kV, doc, pm, an, cdv, ct, osl, rfl, _⟩ := F.ex
    exact fun s self u => .of_eq rfl
end
end K1
set_option Elab.async false
set_option linter.all false
set_option maxRecDepth 100000
set_option maxHeartbeats 8000000
namespace K1
open PySem PySem.Spec L2
open PySem.W (findIn subIn typeIn keepIn hasDictIn mroIn specialIn takesIn kitOne Frag)
/-- the class object at C is an own error's -/
def clsB (K : Frag) (C : Addr) : Bool := match K.lookup C with
  | some ⟨.type "type", _, .cls cd, sl⟩ => (match cd.mro, sl.toList with
    | .ref D :: bm, [_, _, _, _, some (.builtin m), _] => D == C && m == "ValueError.__new__" && !cd.hasDel && cd.hasDict && PySem.HandSPX.refsVE bm
    | _, _ => false)
  | _ => false
theorem cls_of {K : Frag} {C : Addr} (q : clsB K C = true) : ∃ nm qn N bs bm sn sub ab col dd k0 k1 k2 k3 k5, K.lookup C = some (excClassObj nm qn C N bs bm true sn sub ab col dd k0 k1 k2 k3 k5 "ValueError.__new__") ∧ PySem.HandSPX.refsVE bm = true := by
  unfold clsB at q
  split at q
  · rename_i dd cd sl ho
    split at q
    · rename_i D bm k0 k1 k2 k3 m k5 hm hs
      simp only [Bool.and_eq_true, beq_iff_eq, Bool.not_eq_true'] at q
      obtain ⟨⟨⟨⟨e1, e2⟩, e3⟩, e4⟩, e5⟩ := q
      subst e1 e2
      obtain ⟨nm, bs, mro, ns, qn, hd, sn, sub, ab, col, del⟩ := cd
      dsimp only at hm e3 e4
      subst hm e3 e4
      have hsl : sl = #[k0, k1, k2, k3, some (.builtin "ValueError.__new__"), k5] := by
        obtain ⟨l⟩ := sl
        simp only at hs
        rw [hs]
      subst hsl
      exact ⟨_, _, _, _, _, _, _, _, _, _, _, _, _, _, _, ho, e5⟩
    · cases q
  · cases q
def exB (K : Frag) (C : Addr) : Bool :=
  clsB K C && (findIn K (.ref C) "__setattr__" == some (some (.builtin "object.__setattr__"))) && (subIn K (.ref C) (.type "BaseException") == some true) && (typeIn K (.ref C) == some (.type "type")) && keepIn K (.ref C)
    && (findIn K (.ref C) "__getattribute__" == some (some (.builtin "BaseException.__getattribute__"))) && (findIn K (.ref C) "__getattr__" == some none) && (findIn K (.ref C) "__class__" == some (some (.builtin "object.__class__")))
    && (mroIn K C (.type "object") == some true) && hasDictIn K C
def gsB (K : Frag) : Bool := (specialIn K (.builtin "object.__class__") "__get__" == some (some (.builtin "getset_descriptor.__get__"))) && (takesIn K (.builtin "object.__class__") == some true)
theorem exT_of {K : Frag} {C : Addr} (g : gsB K = true) (q : exB K C = true) : ExT K C := by
  unfold exB at q
  unfold gsB at g
  simp only [Bool.and_eq_true, beq_iff_eq] at q g
  obtain ⟨⟨⟨⟨⟨⟨⟨⟨⟨a1, a2⟩, a3⟩, a4⟩, a5⟩, a6⟩, a7⟩, a8⟩, a9⟩, a10⟩ := q
  exact ⟨⟨cls_of a1, a2, a3, a4, a5⟩, a6, a7, a8, g.1, g.2, a9, a10⟩
def kitB2 (K : Frag) (l : List Addr) : Bool := l.all fun C => l.all fun D => kitOne K (.ref C) (.ref D) == some (decide (C = D))
def ownB (K : Frag) (l : List Addr) (RE : Addr) : Bool := l.all fun C => (kitOne K (.ref C) (.ref RE) == some true) && (kitOne K (.ref C) (.type "ValueError") == some true)
def reB (K : Frag) (l : List Addr) (RE : Addr) : Bool := (l.all fun D => kitOne K (.ref RE) (.ref D) == some (decide (RE = D))) && (kitOne K (.ref RE) (.type "ValueError") == some true) && !l.contains RE
def noB (K : Frag) (l : List Addr) : Bool := tab.all fun t => findIn K (.ref (l.getD t.1 0)) t.2.2 == some none
def bareB (K : Frag) (C : Addr) : Bool := findIn K (.ref C) "__init__" == some (some (.builtin "ValueError.__init__"))
structure Facts (K : Frag) (l : List Addr) (RE : Addr) : Prop where
  len : l.length = 33
  nd : l.Nodup
  gs : gsB K = true
  ex : l.all (exB K) = true
  exR : exB K RE = true
  kit : kitB2 K l = true
  own : ownB K l RE = true
  re : reB K l RE = true
  no : noB K l = true
  b7 : bareB K (l.getD 7 0) = true
  b16 : bareB K (l.getD 16 0) = true
  b24 : bareB K (l.getD 24 0) = true
  b30 : bareB K (l.getD 30 0) = true
  bR : bareB K RE = true
section
variable {K : Frag} {l : List Addr} {RE : Addr} (Z : Facts K l RE)
include Z
theorem Facts.mem {i : Nat} (h : i < 33) : l.getD i 0 ∈ l := by
  have h' : i < l.length := by rw [Z.len]; exact h
  rw [List.getD_eq_getElem?_getD, List.getElem?_eq_getElem h']
  exact List.getElem_mem h'
theorem Facts.T {i : Nat} (h : i < 33) : ExT K (l.getD i 0) := exT_of Z.gs (List.all_eq_true.mp Z.ex _ (Z.mem h))
theorem Facts.inj (i j : Nat) (hi : i < 33) (hj : j < 33) (e : l.getD i 0 = l.getD j 0) : i = j := by
  have hi' : i < l.length := by rw [Z.len]; exact hi
  have hj' : j < l.length := by rw [Z.len]; exact hj
  rw [List.getD_eq_getElem?_getD, List.getElem?_eq_getElem hi', List.getD_eq_getElem?_getD, List.getElem?_eq_getElem hj'] at e
  exact (List.getElem_inj Z.nd).mp e
theorem Facts.kitAt {i : Nat} (h : i < 33) : Kit K (fun j => l.getD j 0) (l.getD i 0) := ⟨Z.T h, fun j hj => beq_iff_eq.mp (List.all_eq_true.mp (List.all_eq_true.mp Z.kit _ (Z.mem h)) _ (Z.mem hj))⟩
theorem Facts.ownAt (i : Nat) (h : i < 33) : Own K (fun j => l.getD j 0) RE i := by
  have q := List.all_eq_true.mp Z.own _ (Z.mem h)
  simp only [Bool.and_eq_true, beq_iff_eq] at q
  exact ⟨Z.kitAt h, q.1, q.2⟩
theorem Facts.rest : Kit K (fun j => l.getD j 0) RE ∧ kitOne K (.ref RE) (.type "ValueError") = some true ∧ ∀ j, j < 33 → RE ≠ l.getD j 0 := by
  have q := Z.re
  unfold reB at q
  simp only [Bool.and_eq_true, beq_iff_eq, Bool.not_eq_true'] at q
  obtain ⟨⟨q1, q2⟩, q3⟩ := q
  refine ⟨⟨exT_of Z.gs Z.exR, fun j hj => beq_iff_eq.mp (List.all_eq_true.mp q1 _ (Z.mem hj))⟩, q2, fun j hj e => ?_⟩
  have m := Z.mem hj
  rw [← e] at m
  have q4 : l.contains RE = true := List.contains_iff_mem.mpr m
  rw [q3] at q4
  cases q4
theorem Facts.noAt (t : Nat × Str × Str) (h : t ∈ tab) : findIn K (.ref (l.getD t.1 0)) t.2.2 = some none := beq_iff_eq.mp (List.all_eq_true.mp Z.no t h)
end

theorem all_mk {P : Program} {w : World} {K : Frag} {h : Heap} {mg : Str → Option Value} {fa RE C0 C1 C2 C3 C4 C5 C6 C7 C8 C9 C10 C11 C12 C13 C14 C15 C16 C17 C18 C19 C20 C21 C22 C23 C24 C25 C26 C27 C28 C29 C30 C31 C32 g0 g1 g2 g3 g4 g5 g6 g7 g8 g9 g10 g11 g12 g13 g14 g15 g16 g17 g18 g19 g20 g21 g22 g23 g24 g25 g26 g27 g28 fCell fPool fTake fAny fByP fByN fFields fKinds fOwn fSame fLaw : Addr} (X : K.In h) (G : h.Ns mainGlobals mg) (hfa : mg "law" = some (.ref fa))
    (aR : PySem.W.nsIn K mainGlobals "RuleError" = some (some (.ref RE)))
    (a0 : PySem.W.nsIn K mainGlobals "BadLetter" = some (some (.ref C0)))
    (a1 : PySem.W.nsIn K mainGlobals "BadFixed" = some (some (.ref C1)))
    (a2 : PySem.W.nsIn K mainGlobals "BadCommuting" = some (some (.ref C2)))
    (a3 : PySem.W.nsIn K mainGlobals "BadFact" = some (some (.ref C3)))
    (a4 : PySem.W.nsIn K mainGlobals "BadTerm" = some (some (.ref C4)))
    (a5 : PySem.W.nsIn K mainGlobals "NoPart" = some (some (.ref C5)))
    (a6 : PySem.W.nsIn K mainGlobals "BadPermit" = some (some (.ref C6)))
    (a7 : PySem.W.nsIn K mainGlobals "UnlikeGrounds" = some (some (.ref C7)))
    (a8 : PySem.W.nsIn K mainGlobals "NoRow" = some (some (.ref C8)))
    (a9 : PySem.W.nsIn K mainGlobals "BadBits" = some (some (.ref C9)))
    (a10 : PySem.W.nsIn K mainGlobals "BadRelation" = some (some (.ref C10)))
    (a11 : PySem.W.nsIn K mainGlobals "BadPlayer" = some (some (.ref C11)))
    (a12 : PySem.W.nsIn K mainGlobals "Clash" = some (some (.ref C12)))
    (a13 : PySem.W.nsIn K mainGlobals "BadRow" = some (some (.ref C13)))
    (a14 : PySem.W.nsIn K mainGlobals "BadTold" = some (some (.ref C14)))
    (a15 : PySem.W.nsIn K mainGlobals "NoSuch" = some (some (.ref C15)))
    (a16 : PySem.W.nsIn K mainGlobals "UnlikeRows" = some (some (.ref C16)))
    (a17 : PySem.W.nsIn K mainGlobals "BadName" = some (some (.ref C17)))
    (a18 : PySem.W.nsIn K mainGlobals "Taken" = some (some (.ref C18)))
    (a19 : PySem.W.nsIn K mainGlobals "Broken" = some (some (.ref C19)))
    (a20 : PySem.W.nsIn K mainGlobals "NoRule" = some (some (.ref C20)))
    (a21 : PySem.W.nsIn K mainGlobals "BadNumber" = some (some (.ref C21)))
    (a22 : PySem.W.nsIn K mainGlobals "Held" = some (some (.ref C22)))
    (a23 : PySem.W.nsIn K mainGlobals "NotHeld" = some (some (.ref C23)))
    (a24 : PySem.W.nsIn K mainGlobals "NoDeed" = some (some (.ref C24)))
    (a25 : PySem.W.nsIn K mainGlobals "BadText" = some (some (.ref C25)))
    (a26 : PySem.W.nsIn K mainGlobals "BadEvent" = some (some (.ref C26)))
    (a27 : PySem.W.nsIn K mainGlobals "BadMark" = some (some (.ref C27)))
    (a28 : PySem.W.nsIn K mainGlobals "BadFunction" = some (some (.ref C28)))
    (a29 : PySem.W.nsIn K mainGlobals "NoFunction" = some (some (.ref C29)))
    (a30 : PySem.W.nsIn K mainGlobals "UnlikeLibraries" = some (some (.ref C30)))
    (a31 : PySem.W.nsIn K mainGlobals "BadRows" = some (some (.ref C31)))
    (a32 : PySem.W.nsIn K mainGlobals "BadWeave" = some (some (.ref C32)))
    (i0 : findIn K (.ref C0) "__init__" = some (some (.ref g0)))
    (t0 : typeIn K (.ref g0) = some (.type "function"))
    (F0 : ∃ fd, Fun K "__init__" "BadLetter.__init__" (inClass (topS 2) 0) g0 fd)
    (i1 : findIn K (.ref C1) "__init__" = some (some (.ref g1)))
    (t1 : typeIn K (.ref g1) = some (.type "function"))
    (F1 : ∃ fd, Fun K "__init__" "BadFixed.__init__" (inClass (topS 3) 0) g1 fd)
    (i2 : findIn K (.ref C2) "__init__" = some (some (.ref g2)))
    (t2 : typeIn K (.ref g2) = some (.type "function"))
    (F2 : ∃ fd, Fun K "__init__" "BadCommuting.__init__" (inClass (topS 4) 0) g2 fd)
    (i3 : findIn K (.ref C3) "__init__" = some (some (.ref g3)))
    (t3 : typeIn K (.ref g3) = some (.type "function"))
    (F3 : ∃ fd, Fun K "__init__" "BadFact.__init__" (inClass (topS 5) 0) g3 fd)
    (i4 : findIn K (.ref C4) "__init__" = some (some (.ref g4)))
    (t4 : typeIn K (.ref g4) = some (.type "function"))
    (F4 : ∃ fd, Fun K "__init__" "BadTerm.__init__" (inClass (topS 6) 0) g4 fd)
    (i5 : findIn K (.ref C5) "__init__" = some (some (.ref g5)))
    (t5 : typeIn K (.ref g5) = some (.type "function"))
    (F5 : ∃ fd, Fun K "__init__" "NoPart.__init__" (inClass (topS 7) 0) g5 fd)
    (i6 : findIn K (.ref C6) "__init__" = some (some (.ref g6)))
    (t6 : typeIn K (.ref g6) = some (.type "function"))
    (F6 : ∃ fd, Fun K "__init__" "BadPermit.__init__" (inClass (topS 8) 0) g6 fd)
    (i7 : findIn K (.ref C8) "__init__" = some (some (.ref g7)))
    (t7 : typeIn K (.ref g7) = some (.type "function"))
    (F7 : ∃ fd, Fun K "__init__" "NoRow.__init__" (inClass (topS 10) 0) g7 fd)
    (i8 : findIn K (.ref C9) "__init__" = some (some (.ref g8)))
    (t8 : typeIn K (.ref g8) = some (.type "function"))
    (F8 : ∃ fd, Fun K "__init__" "BadBits.__init__" (inClass (topS 11) 0) g8 fd)
    (i9 : findIn K (.ref C10) "__init__" = some (some (.ref g9)))
    (t9 : typeIn K (.ref g9) = some (.type "function"))
    (F9 : ∃ fd, Fun K "__init__" "BadRelation.__init__" (inClass (topS 12) 0) g9 fd)
    (i10 : findIn K (.ref C11) "__init__" = some (some (.ref g10)))
    (t10 : typeIn K (.ref g10) = some (.type "function"))
    (F10 : ∃ fd, Fun K "__init__" "BadPlayer.__init__" (inClass (topS 13) 0) g10 fd)
    (i11 : findIn K (.ref C12) "__init__" = some (some (.ref g11)))
    (t11 : typeIn K (.ref g11) = some (.type "function"))
    (F11 : ∃ fd, Fun K "__init__" "Clash.__init__" (inClass (topS 14) 0) g11 fd)
    (i12 : findIn K (.ref C13) "__init__" = some (some (.ref g12)))
    (t12 : typeIn K (.ref g12) = some (.type "function"))
    (F12 : ∃ fd, Fun K "__init__" "BadRow.__init__" (inClass (topS 15) 0) g12 fd)
    (i13 : findIn K (.ref C14) "__init__" = some (some (.ref g13)))
    (t13 : typeIn K (.ref g13) = some (.type "function"))
    (F13 : ∃ fd, Fun K "__init__" "BadTold.__init__" (inClass (topS 16) 0) g13 fd)
    (i14 : findIn K (.ref C15) "__init__" = some (some (.ref g14)))
    (t14 : typeIn K (.ref g14) = some (.type "function"))
    (F14 : ∃ fd, Fun K "__init__" "NoSuch.__init__" (inClass (topS 17) 0) g14 fd)
    (i15 : findIn K (.ref C17) "__init__" = some (some (.ref g15)))
    (t15 : typeIn K (.ref g15) = some (.type "function"))
    (F15 : ∃ fd, Fun K "__init__" "BadName.__init__" (inClass (topS 19) 0) g15 fd)
    (i16 : findIn K (.ref C18) "__init__" = some (some (.ref g16)))
    (t16 : typeIn K (.ref g16) = some (.type "function"))
    (F16 : ∃ fd, Fun K "__init__" "Taken.__init__" (inClass (topS 20) 0) g16 fd)
    (i17 : findIn K (.ref C19) "__init__" = some (some (.ref g17)))
    (t17 : typeIn K (.ref g17) = some (.type "function"))
    (F17 : ∃ fd, Fun K "__init__" "Broken.__init__" (inClass (topS 21) 0) g17 fd)
    (i18 : findIn K (.ref C20) "__init__" = some (some (.ref g18)))
    (t18 : typeIn K (.ref g18) = some (.type "function"))
    (F18 : ∃ fd, Fun K "__init__" "NoRule.__init__" (inClass (topS 22) 0) g18 fd)
    (i19 : findIn K (.ref C21) "__init__" = some (some (.ref g19)))
    (t19 : typeIn K (.ref g19) = some (.type "function"))
    (F19 : ∃ fd, Fun K "__init__" "BadNumber.__init__" (inClass (topS 23) 0) g19 fd)
    (i20 : findIn K (.ref C22) "__init__" = some (some (.ref g20)))
    (t20 : typeIn K (.ref g20) = some (.type "function"))
    (F20 : ∃ fd, Fun K "__init__" "Held.__init__" (inClass (topS 24) 0) g20 fd)
    (i21 : findIn K (.ref C23) "__init__" = some (some (.ref g21)))
    (t21 : typeIn K (.ref g21) = some (.type "function"))
    (F21 : ∃ fd, Fun K "__init__" "NotHeld.__init__" (inClass (topS 25) 0) g21 fd)
    (i22 : findIn K (.ref C25) "__init__" = some (some (.ref g22)))
    (t22 : typeIn K (.ref g22) = some (.type "function"))
    (F22 : ∃ fd, Fun K "__init__" "BadText.__init__" (inClass (topS 27) 0) g22 fd)
    (i23 : findIn K (.ref C26) "__init__" = some (some (.ref g23)))
    (t23 : typeIn K (.ref g23) = some (.type "function"))
    (F23 : ∃ fd, Fun K "__init__" "BadEvent.__init__" (inClass (topS 28) 0) g23 fd)
    (i24 : findIn K (.ref C27) "__init__" = some (some (.ref g24)))
    (t24 : typeIn K (.ref g24) = some (.type "function"))
    (F24 : ∃ fd, Fun K "__init__" "BadMark.__init__" (inClass (topS 29) 0) g24 fd)
    (i25 : findIn K (.ref C28) "__init__" = some (some (.ref g25)))
    (t25 : typeIn K (.ref g25) = some (.type "function"))
    (F25 : ∃ fd, Fun K "__init__" "BadFunction.__init__" (inClass (topS 30) 0) g25 fd)
    (i26 : findIn K (.ref C29) "__init__" = some (some (.ref g26)))
    (t26 : typeIn K (.ref g26) = some (.type "function"))
    (F26 : ∃ fd, Fun K "__init__" "NoFunction.__init__" (inClass (topS 31) 0) g26 fd)
    (i27 : findIn K (.ref C31) "__init__" = some (some (.ref g27)))
    (t27 : typeIn K (.ref g27) = some (.type "function"))
    (F27 : ∃ fd, Fun K "__init__" "BadRows.__init__" (inClass (topS 33) 0) g27 fd)
    (i28 : findIn K (.ref C32) "__init__" = some (some (.ref g28)))
    (t28 : typeIn K (.ref g28) = some (.type "function"))
    (F28 : ∃ fd, Fun K "__init__" "BadWeave.__init__" (inClass (topS 34) 0) g28 fd)
    (dCell : PySem.W.nsIn K mainGlobals "_law_cell" = some (some (.ref fCell)))
    (FCell : ∃ fd, Fun K "_law_cell" "_law_cell" (topS 36) fCell fd)
    (dPool : PySem.W.nsIn K mainGlobals "_law_pool" = some (some (.ref fPool)))
    (FPool : ∃ fd, Fun K "_law_pool" "_law_pool" (topS 37) fPool fd)
    (dTake : PySem.W.nsIn K mainGlobals "_law_take" = some (some (.ref fTake)))
    (FTake : ∃ fd, Fun K "_law_take" "_law_take" (topS 38) fTake fd)
    (dAny : PySem.W.nsIn K mainGlobals "_law_any" = some (some (.ref fAny)))
    (FAny : ∃ fd, Fun K "_law_any" "_law_any" (topS 39) fAny fd)
    (dByP : PySem.W.nsIn K mainGlobals "_law_by_place" = some (some (.ref fByP)))
    (FByP : ∃ fd, Fun K "_law_by_place" "_law_by_place" (topS 40) fByP fd)
    (dByN : PySem.W.nsIn K mainGlobals "_law_by_name" = some (some (.ref fByN)))
    (FByN : ∃ fd, Fun K "_law_by_name" "_law_by_name" (topS 41) fByN fd)
    (dFields : PySem.W.nsIn K mainGlobals "_law_fields" = some (some (.ref fFields)))
    (FFields : ∃ fd, Fun K "_law_fields" "_law_fields" (topS 42) fFields fd)
    (dKinds : PySem.W.nsIn K mainGlobals "_law_kinds" = some (some (.ref fKinds)))
    (FKinds : ∃ fd, Fun K "_law_kinds" "_law_kinds" (topS 43) fKinds fd)
    (dOwn : PySem.W.nsIn K mainGlobals "_law_is_own" = some (some (.ref fOwn)))
    (FOwn : ∃ fd, Fun K "_law_is_own" "_law_is_own" (topS 44) fOwn fd)
    (dSame : PySem.W.nsIn K mainGlobals "_law_same" = some (some (.ref fSame)))
    (FSame : ∃ fd, Fun K "_law_same" "_law_same" (topS 45) fSame fd)
    (dLaw : PySem.W.nsIn K mainGlobals "law" = some (some (.ref fLaw)))
    (FLaw : ∃ (oc : Value) (od : Option Addr) (kV doc pm : Value) (an : Option Addr) (cdv ct : Value) (osl : Array (Option Value)), K.lookup fLaw = some ⟨oc, od, .func (PySem.W.fnOf "law" "law" (defArgs (topS 46)) (defBody (topS 46)) (defScope (topS 46)) .none kV doc pm an cdv ct), osl⟩ ∧ PySem.W.codeIn K cdv "law" = true ∧ PySem.W.keepIn K (.ref fLaw) = true)
    (z_len : PySem.W.nsIn K mainGlobals "len" = some none)
    (z_int : PySem.W.nsIn K mainGlobals "int" = some none)
    (z_isinstance : PySem.W.nsIn K mainGlobals "isinstance" = some none)
    (z_bool : PySem.W.nsIn K mainGlobals "bool" = some none)
    (z_ValueError : PySem.W.nsIn K mainGlobals "ValueError" = some none)
    (z_range : PySem.W.nsIn K mainGlobals "range" = some none)
    (z_all : PySem.W.nsIn K mainGlobals "all" = some none)
    (nd : ([C0, C1, C2, C3, C4, C5, C6, C7, C8, C9, C10, C11, C12, C13, C14, C15, C16, C17, C18, C19, C20, C21, C22, C23, C24, C25, C26, C27, C28, C29, C30, C31, C32] : List Addr).Nodup)
    (x_gs : gsB K = true)
    (x_ex : ([C0, C1, C2, C3, C4, C5, C6, C7, C8, C9, C10, C11, C12, C13, C14, C15, C16, C17, C18, C19, C20, C21, C22, C23, C24, C25, C26, C27, C28, C29, C30, C31, C32] : List Addr).all (exB K) = true)
    (x_exR : exB K RE = true)
    (x_kit : kitB2 K [C0, C1, C2, C3, C4, C5, C6, C7, C8, C9, C10, C11, C12, C13, C14, C15, C16, C17, C18, C19, C20, C21, C22, C23, C24, C25, C26, C27, C28, C29, C30, C31, C32] = true)
    (x_own : ownB K [C0, C1, C2, C3, C4, C5, C6, C7, C8, C9, C10, C11, C12, C13, C14, C15, C16, C17, C18, C19, C20, C21, C22, C23, C24, C25, C26, C27, C28, C29, C30, C31, C32] RE = true)
    (x_re : reB K [C0, C1, C2, C3, C4, C5, C6, C7, C8, C9, C10, C11, C12, C13, C14, C15, C16, C17, C18, C19, C20, C21, C22, C23, C24, C25, C26, C27, C28, C29, C30, C31, C32] RE = true)
    (x_no : noB K [C0, C1, C2, C3, C4, C5, C6, C7, C8, C9, C10, C11, C12, C13, C14, C15, C16, C17, C18, C19, C20, C21, C22, C23, C24, C25, C26, C27, C28, C29, C30, C31, C32] = true)
    (x_b7 : bareB K C7 = true)
    (x_b16 : bareB K C16 = true)
    (x_b24 : bareB K C24 = true)
    (x_b30 : bareB K C30 = true)
    (x_bR : bareB K RE = true)
    : ∃ fd : FuncData, (∀ (s : Shared) (v : Value), BindsTo s fd ⟨[v], []⟩ [("_law_script", v)]) ∧ ∀ base : Heap, K.In base → base.Ns mainGlobals mg → FnOk P w K mg base CX0 4 fa fd ["_law_script"] (spLaw K) := by
  have e := hfa.symm.trans (PySem.W.mg_of X G dLaw)
  cases e
  have Z : Facts K [C0, C1, C2, C3, C4, C5, C6, C7, C8, C9, C10, C11, C12, C13, C14, C15, C16, C17, C18, C19, C20, C21, C22, C23, C24, C25, C26, C27, C28, C29, C30, C31, C32] RE := ⟨rfl, nd, x_gs, x_ex, x_exR, x_kit, x_own, x_re, x_no, x_b7, x_b16, x_b24, x_b30, x_bR⟩
  obtain ⟨r1, r2, r3⟩ := Z.rest
  obtain ⟨oc, od, kV, doc, pm, an, cdv, ct, osl, lL, cL, kL⟩ := FLaw
  obtain ⟨fdCell, FCell⟩ := FCell
  have bCell := FCell.binds (ps := ["_law_script", "_law_k"]) fun _ _ _ _ _ _ us hl => match us, hl with | [_, _], _ => rfl
  obtain ⟨fdPool, FPool⟩ := FPool
  have bPool := FPool.binds (ps := ["_law_grain"]) fun _ _ _ _ _ _ us hl => match us, hl with | [_], _ => rfl
  obtain ⟨fdTake, FTake⟩ := FTake
  have bTake := FTake.binds (ps := ["_law_pool_here", "_law_many"]) fun _ _ _ _ _ _ us hl => match us, hl with | [_, _], _ => rfl
  obtain ⟨fdAny, FAny⟩ := FAny
  have bAny := FAny.binds (ps := ["_law_pool_here"]) fun _ _ _ _ _ _ us hl => match us, hl with | [_], _ => rfl
  obtain ⟨fdByP, FByP⟩ := FByP
  have bByP := FByP.binds (ps := ["_law_x"]) fun _ _ _ _ _ _ us hl => match us, hl with | [_], _ => rfl
  obtain ⟨fdByN, FByN⟩ := FByN
  have bByN := FByN.binds (ps := ["_law_x"]) fun _ _ _ _ _ _ us hl => match us, hl with | [_], _ => rfl
  obtain ⟨fdFields, FFields⟩ := FFields
  have bFields := FFields.binds (ps := ["_law_some"]) fun _ _ _ _ _ _ us hl => match us, hl with | [_], _ => rfl
  obtain ⟨fdKinds, FKinds⟩ := FKinds
  have bKinds := FKinds.binds (ps := ["_law_e"]) fun _ _ _ _ _ _ us hl => match us, hl with | [_], _ => rfl
  obtain ⟨fdOwn, FOwn⟩ := FOwn
  have bOwn := FOwn.binds (ps := ["_law_e", "_law_at"]) fun _ _ _ _ _ _ us hl => match us, hl with | [_, _], _ => rfl
  obtain ⟨fdSame, FSame⟩ := FSame
  have bSame := FSame.binds (ps := ["_law_one", "_law_other"]) fun _ _ _ _ _ _ us hl => match us, hl with | [_, _], _ => rfl
  have b1 : Bl mg := ⟨PySem.W.mg_none_of X G z_len, PySem.W.mg_none_of X G z_int⟩
  have b2 : Bl2 mg := ⟨PySem.W.mg_none_of X G z_isinstance, PySem.W.mg_none_of X G z_bool⟩
  have b3 : Bl3 mg RE := ⟨PySem.W.mg_of X G aR, PySem.W.mg_none_of X G z_ValueError, PySem.W.mg_none_of X G z_range⟩
  have nm : Nm mg (fun j => ([C0, C1, C2, C3, C4, C5, C6, C7, C8, C9, C10, C11, C12, C13, C14, C15, C16, C17, C18, C19, C20, C21, C22, C23, C24, C25, C26, C27, C28, C29, C30, C31, C32] : List Addr).getD j 0) := by
    refine ⟨fun j n hj => ?_, PySem.W.mg_none_of X G z_isinstance⟩
    have hj' : j < 33 := (List.getElem?_eq_some_iff.mp hj).1
    match j, hj', hj with
    | 0, _, hj => obtain rfl := Option.some.inj hj; exact PySem.W.mg_of X G a0
    | 1, _, hj => obtain rfl := Option.some.inj hj; exact PySem.W.mg_of X G a1
    | 2, _, hj => obtain rfl := Option.some.inj hj; exact PySem.W.mg_of X G a2
    | 3, _, hj => obtain rfl := Option.some.inj hj; exact PySem.W.mg_of X G a3
    | 4, _, hj => obtain rfl := Option.some.inj hj; exact PySem.W.mg_of X G a4
    | 5, _, hj => obtain rfl := Option.some.inj hj; exact PySem.W.mg_of X G a5
    | 6, _, hj => obtain rfl := Option.some.inj hj; exact PySem.W.mg_of X G a6
    | 7, _, hj => obtain rfl := Option.some.inj hj; exact PySem.W.mg_of X G a7
    | 8, _, hj => obtain rfl := Option.some.inj hj; exact PySem.W.mg_of X G a8
    | 9, _, hj => obtain rfl := Option.some.inj hj; exact PySem.W.mg_of X G a9
    | 10, _, hj => obtain rfl := Option.some.inj hj; exact PySem.W.mg_of X G a10
    | 11, _, hj => obtain rfl := Option.some.inj hj; exact PySem.W.mg_of X G a11
    | 12, _, hj => obtain rfl := Option.some.inj hj; exact PySem.W.mg_of X G a12
    | 13, _, hj => obtain rfl := Option.some.inj hj; exact PySem.W.mg_of X G a13
    | 14, _, hj => obtain rfl := Option.some.inj hj; exact PySem.W.mg_of X G a14
    | 15, _, hj => obtain rfl := Option.some.inj hj; exact PySem.W.mg_of X G a15
    | 16, _, hj => obtain rfl := Option.some.inj hj; exact PySem.W.mg_of X G a16
    | 17, _, hj => obtain rfl := Option.some.inj hj; exact PySem.W.mg_of X G a17
    | 18, _, hj => obtain rfl := Option.some.inj hj; exact PySem.W.mg_of X G a18
    | 19, _, hj => obtain rfl := Option.some.inj hj; exact PySem.W.mg_of X G a19
    | 20, _, hj => obtain rfl := Option.some.inj hj; exact PySem.W.mg_of X G a20
    | 21, _, hj => obtain rfl := Option.some.inj hj; exact PySem.W.mg_of X G a21
    | 22, _, hj => obtain rfl := Option.some.inj hj; exact PySem.W.mg_of X G a22
    | 23, _, hj => obtain rfl := Option.some.inj hj; exact PySem.W.mg_of X G a23
    | 24, _, hj => obtain rfl := Option.some.inj hj; exact PySem.W.mg_of X G a24
    | 25, _, hj => obtain rfl := Option.some.inj hj; exact PySem.W.mg_of X G a25
    | 26, _, hj => obtain rfl := Option.some.inj hj; exact PySem.W.mg_of X G a26
    | 27, _, hj => obtain rfl := Option.some.inj hj; exact PySem.W.mg_of X G a27
    | 28, _, hj => obtain rfl := Option.some.inj hj; exact PySem.W.mg_of X G a28
    | 29, _, hj => obtain rfl := Option.some.inj hj; exact PySem.W.mg_of X G a29
    | 30, _, hj => obtain rfl := Option.some.inj hj; exact PySem.W.mg_of X G a30
    | 31, _, hj => obtain rfl := Option.some.inj hj; exact PySem.W.mg_of X G a31
    | 32, _, hj => obtain rfl := Option.some.inj hj; exact PySem.W.mg_of X G a32
    | n + 33, h, _ => omega
  have bare : ∀ {n : Str} {C : Addr}, mg n = some (.ref C) → ExT K C → bareB K C = true → Bare K mg n C := fun m t b => ⟨m, t, beq_iff_eq.mp b⟩
  refine ⟨PySem.W.fnOf "law" "law" (defArgs sLaw) (defBody sLaw) (defScope sLaw) .none kV doc pm an cdv ct, fun s v => .of_eq rfl, fun base KB GB => ?_⟩
  have Z29 : Cls29 P w K mg base (fun j => ([C0, C1, C2, C3, C4, C5, C6, C7, C8, C9, C10, C11, C12, C13, C14, C15, C16, C17, C18, C19, C20, C21, C22, C23, C24, C25, C26, C27, C28, C29, C30, C31, C32] : List Addr).getD j 0) := by
    refine ⟨fun t ht => ?_⟩
    have hn := Z.noAt t ht
    revert hn
    simp only [tab, List.mem_cons, List.not_mem_nil, or_false] at ht
    rcases ht with rfl | rfl | rfl | rfl | rfl | rfl | rfl | rfl | rfl | rfl | rfl | rfl | rfl | rfl | rfl | rfl | rfl | rfl | rfl | rfl | rfl | rfl | rfl | rfl | rfl | rfl | rfl | rfl | rfl
    · exact fun hn => cl_BadLetter (PySem.W.mg_of X G a0) (Z.T (i := 0) (by decide)) hn i0 t0 F0
    · exact fun hn => cl_BadFixed (PySem.W.mg_of X G a1) (Z.T (i := 1) (by decide)) hn i1 t1 F1
    · exact fun hn => cl_BadCommuting (PySem.W.mg_of X G a2) (Z.T (i := 2) (by decide)) hn i2 t2 F2
    · exact fun hn => cl_BadFact (PySem.W.mg_of X G a3) (Z.T (i := 3) (by decide)) hn i3 t3 F3
    · exact fun hn => cl_BadTerm (PySem.W.mg_of X G a4) (Z.T (i := 4) (by decide)) hn i4 t4 F4
    · exact fun hn => cl_NoPart (PySem.W.mg_of X G a5) (Z.T (i := 5) (by decide)) hn i5 t5 F5
    · exact fun hn => cl_BadPermit (PySem.W.mg_of X G a6) (Z.T (i := 6) (by decide)) hn i6 t6 F6
    · exact fun hn => cl_NoRow (PySem.W.mg_of X G a8) (Z.T (i := 8) (by decide)) hn i7 t7 F7
    · exact fun hn => cl_BadBits (PySem.W.mg_of X G a9) (Z.T (i := 9) (by decide)) hn i8 t8 F8
    · exact fun hn => cl_BadRelation (PySem.W.mg_of X G a10) (Z.T (i := 10) (by decide)) hn i9 t9 F9
    · exact fun hn => cl_BadPlayer (PySem.W.mg_of X G a11) (Z.T (i := 11) (by decide)) hn i10 t10 F10
    · exact fun hn => cl_Clash (PySem.W.mg_of X G a12) (Z.T (i := 12) (by decide)) hn i11 t11 F11
    · exact fun hn => cl_BadRow (PySem.W.mg_of X G a13) (Z.T (i := 13) (by decide)) hn i12 t12 F12
    · exact fun hn => cl_BadTold (PySem.W.mg_of X G a14) (Z.T (i := 14) (by decide)) hn i13 t13 F13
    · exact fun hn => cl_NoSuch (PySem.W.mg_of X G a15) (Z.T (i := 15) (by decide)) hn i14 t14 F14
    · exact fun hn => cl_BadName (PySem.W.mg_of X G a17) (Z.T (i := 17) (by decide)) hn i15 t15 F15
    · exact fun hn => cl_Taken (PySem.W.mg_of X G a18) (Z.T (i := 18) (by decide)) hn i16 t16 F16
    · exact fun hn => cl_Broken (PySem.W.mg_of X G a19) (Z.T (i := 19) (by decide)) hn i17 t17 F17
    · exact fun hn => cl_NoRule (PySem.W.mg_of X G a20) (Z.T (i := 20) (by decide)) hn i18 t18 F18
    · exact fun hn => cl_BadNumber (PySem.W.mg_of X G a21) (Z.T (i := 21) (by decide)) hn i19 t19 F19
    · exact fun hn => cl_Held (PySem.W.mg_of X G a22) (Z.T (i := 22) (by decide)) hn i20 t20 F20
    · exact fun hn => cl_NotHeld (PySem.W.mg_of X G a23) (Z.T (i := 23) (by decide)) hn i21 t21 F21
    · exact fun hn => cl_BadText (PySem.W.mg_of X G a25) (Z.T (i := 25) (by decide)) hn i22 t22 F22
    · exact fun hn => cl_BadEvent (PySem.W.mg_of X G a26) (Z.T (i := 26) (by decide)) hn i23 t23 F23
    · exact fun hn => cl_BadMark (PySem.W.mg_of X G a27) (Z.T (i := 27) (by decide)) hn i24 t24 F24
    · exact fun hn => cl_BadFunction (PySem.W.mg_of X G a28) (Z.T (i := 28) (by decide)) hn i25 t25 F25
    · exact fun hn => cl_NoFunction (PySem.W.mg_of X G a29) (Z.T (i := 29) (by decide)) hn i26 t26 F26
    · exact fun hn => cl_BadRows (PySem.W.mg_of X G a31) (Z.T (i := 31) (by decide)) hn i27 t27 F27
    · exact fun hn => cl_BadWeave (PySem.W.mg_of X G a32) (Z.T (i := 32) (by decide)) hn i28 t28 F28
  refine ok_law (fun_mk (st := sLaw) lL cL kL) (cs := fun j => ([C0, C1, C2, C3, C4, C5, C6, C7, C8, C9, C10, C11, C12, C13, C14, C15, C16, C17, C18, C19, C20, C21, C22, C23, C24, C25, C26, C27, C28, C29, C30, C31, C32] : List Addr).getD j 0) (RE := RE) {
    cell := ⟨fCell, fdCell, ok_cell FCell b1, PySem.W.mg_of X G dCell, FCell.kp, bCell⟩
    pool := ⟨fPool, fdPool, ok_pool FPool b1, PySem.W.mg_of X G dPool, FPool.kp, bPool⟩
    any := ⟨fAny, fdAny, ok_any FAny (ok_take FTake b1) (PySem.W.mg_of X G dTake) FTake.kp bTake, PySem.W.mg_of X G dAny, FAny.kp, bAny⟩
    byP := ⟨fByP, fdByP, ok_ByP FByP Z29, PySem.W.mg_of X G dByP, FByP.kp, bByP⟩
    byN := ⟨fByN, fdByN, ok_ByN FByN Z29, PySem.W.mg_of X G dByN, FByN.kp, bByN⟩
    fields := ⟨fFields, fdFields, ok_fields FFields Z29, PySem.W.mg_of X G dFields, FFields.kp, bFields⟩
    kinds := ⟨fKinds, fdKinds, ok_kinds FKinds nm, PySem.W.mg_of X G dKinds, FKinds.kp, bKinds⟩
    own := ⟨fOwn, fdOwn, ok_own FOwn nm b3 Z.inj (ok_kinds FKinds nm) (PySem.W.mg_of X G dKinds) FKinds.kp bKinds, PySem.W.mg_of X G dOwn, FOwn.kp, bOwn⟩
    same := ⟨fSame, fdSame, ok_same FSame b2, PySem.W.mg_of X G dSame, FSame.kp, bSame⟩
    b1 := b1
    b3 := b3
    b4 := ⟨PySem.W.mg_none_of X G z_all⟩
    nm := nm
    ug := bare (PySem.W.mg_of X G a7) (Z.T (i := 7) (by decide)) x_b7
    ur := bare (PySem.W.mg_of X G a16) (Z.T (i := 16) (by decide)) x_b16
    nd := bare (PySem.W.mg_of X G a24) (Z.T (i := 24) (by decide)) x_b24
    ul := bare (PySem.W.mg_of X G a30) (Z.T (i := 30) (by decide)) x_b30
    re := bare (PySem.W.mg_of X G aR) (exT_of x_gs x_exR) x_bR
    owns := Z.ownAt
    reK := r1
    reV := r2
    reN := r3 }
theorem walk {l : PySem.W.OpenLaw} {q : Program} {loose : List Str} {XP : (Str → Option Value) → Heap → Prop} {YP : World → Heap → Prop} {d : DefRec} {K : Params → PySem.W.Frag} (hn : l.most = some 63) (hdf : d.params.defaults = [])
    (hY : ∀ (w : World) (h : Heap), YP w h → (K w.params).In h)
    (F : ∀ (w : World) (mg : Str → Option Value) (fa : Addr) (h : Heap), (K w.params).In h → h.Ns mainGlobals mg → mg d.name = some (.ref fa) →
      ∃ fd : FuncData, (∀ (s : Shared) (u : Value), BindsTo s fd ⟨[u], []⟩ [("_law_script", u)]) ∧ ∀ base : Heap, (K w.params).In base → base.Ns mainGlobals mg → FnOk l.prog w (K w.params) mg base CX0 4 fa fd ["_law_script"] (spLaw (K w.params))) :
    PySem.W.WalkO q loose XP YP l.row.toRowW d [] (fun f vs => PySem.call f vs) :=
  L2.walk_of (n := 63) (k := 4) (x := "_law_script") (CX := fun _ => CX0) (sp := fun w => spLaw (K w.params)) hn (by decide) hdf ⟨rfl, by decide, by decide⟩ hY F (fun _ _ a ns hl _ hS => ⟨a, ns, rfl, hS, hl, fun _ => rfl⟩) fun _ _ _ _ _ z => z
end K1
set_option Elab.async false
open PySem PySem.W PyProof.Rows
set_option maxRecDepth 100000 in
set_option maxHeartbeats 0 in
theorem PySem.Challenge.cw_freeworldrules_k01_errors_made_holds : PySem.Challenge.rw_freeworldrules_k01_errors_made.Holds := by
  w_on; o_law; k_headLK; (case hw => w_witness2)
  k_fill
  refine K1.walk (l := PySem.Challenge.rw_freeworldrules_k01_errors_made) rfl rfl (fun w h Y => PySem.W.kIn_of Y) ?F
  case F =>
    intro w mg fa h KX G hmg
    refine' K1.all_mk KX G hmg ?aR ?a0 ?a1 ?a2 ?a3 ?a4 ?a5 ?a6 ?a7 ?a8 ?a9 ?a10 ?a11 ?a12 ?a13 ?a14 ?a15 ?a16 ?a17 ?a18 ?a19 ?a20 ?a21 ?a22 ?a23 ?a24 ?a25 ?a26 ?a27 ?a28 ?a29 ?a30 ?a31 ?a32 ?i0 ?t0 ?F0 ?i1 ?t1 ?F1 ?i2 ?t2 ?F2 ?i3 ?t3 ?F3 ?i4 ?t4 ?F4 ?i5 ?t5 ?F5 ?i6 ?t6 ?F6 ?i7 ?t7 ?F7 ?i8 ?t8 ?F8 ?i9 ?t9 ?F9 ?i10 ?t10 ?F10 ?i11 ?t11 ?F11 ?i12 ?t12 ?F12 ?i13 ?t13 ?F13 ?i14 ?t14 ?F14 ?i15 ?t15 ?F15 ?i16 ?t16 ?F16 ?i17 ?t17 ?F17 ?i18 ?t18 ?F18 ?i19 ?t19 ?F19 ?i20 ?t20 ?F20 ?i21 ?t21 ?F21 ?i22 ?t22 ?F22 ?i23 ?t23 ?F23 ?i24 ?t24 ?F24 ?i25 ?t25 ?F25 ?i26 ?t26 ?F26 ?i27 ?t27 ?F27 ?i28 ?t28 ?F28 ?dCell ?FCell ?dPool ?FPool ?dTake ?FTake ?dAny ?FAny ?dByP ?FByP ?dByN ?FByN ?dFields ?FFields ?dKinds ?FKinds ?dOwn ?FOwn ?dSame ?FSame ?dLaw ?FLaw ?z_len ?z_int ?z_isinstance ?z_bool ?z_ValueError ?z_range ?z_all ?nd ?x_gs ?x_ex ?x_exR ?x_kit ?x_own ?x_re ?x_no ?x_b7 ?x_b16 ?x_b24 ?x_b30 ?x_bR
    (case aR => k_is)
    (case a0 => k_is)
    (case a1 => k_is)
    (case a2 => k_is)
    (case a3 => k_is)
    (case a4 => k_is)
    (case a5 => k_is)
    (case a6 => k_is)
    (case a7 => k_is)
    (case a8 => k_is)
    (case a9 => k_is)
    (case a10 => k_is)
    (case a11 => k_is)
    (case a12 => k_is)
    (case a13 => k_is)
    (case a14 => k_is)
    (case a15 => k_is)
    (case a16 => k_is)
    (case a17 => k_is)
    (case a18 => k_is)
    (case a19 => k_is)
    (case a20 => k_is)
    (case a21 => k_is)
    (case a22 => k_is)
    (case a23 => k_is)
    (case a24 => k_is)
    (case a25 => k_is)
    (case a26 => k_is)
    (case a27 => k_is)
    (case a28 => k_is)
    (case a29 => k_is)
    (case a30 => k_is)
    (case a31 => k_is)
    (case a32 => k_is)
    (case i0 => k_is)
    (case t0 => k_is)
    (case F0 => exact ⟨_, L2.fun_mk (by k_is) (by k_is) (by k_is)⟩)
    (case i1 => k_is)
    (case t1 => k_is)
    (case F1 => exact ⟨_, L2.fun_mk (by k_is) (by k_is) (by k_is)⟩)
    (case i2 => k_is)
    (case t2 => k_is)
    (case F2 => exact ⟨_, L2.fun_mk (by k_is) (by k_is) (by k_is)⟩)
    (case i3 => k_is)
    (case t3 => k_is)
    (case F3 => exact ⟨_, L2.fun_mk (by k_is) (by k_is) (by k_is)⟩)
    (case i4 => k_is)
    (case t4 => k_is)
    (case F4 => exact ⟨_, L2.fun_mk (by k_is) (by k_is) (by k_is)⟩)
    (case i5 => k_is)
    (case t5 => k_is)
    (case F5 => exact ⟨_, L2.fun_mk (by k_is) (by k_is) (by k_is)⟩)
    (case i6 => k_is)
    (case t6 => k_is)
    (case F6 => exact ⟨_, L2.fun_mk (by k_is) (by k_is) (by k_is)⟩)
    (case i7 => k_is)
    (case t7 => k_is)
    (case F7 => exact ⟨_, L2.fun_mk (by k_is) (by k_is) (by k_is)⟩)
    (case i8 => k_is)
    (case t8 => k_is)
    (case F8 => exact ⟨_, L2.fun_mk (by k_is) (by k_is) (by k_is)⟩)
    (case i9 => k_is)
    (case t9 => k_is)
    (case F9 => exact ⟨_, L2.fun_mk (by k_is) (by k_is) (by k_is)⟩)
    (case i10 => k_is)
    (case t10 => k_is)
    (case F10 => exact ⟨_, L2.fun_mk (by k_is) (by k_is) (by k_is)⟩)
    (case i11 => k_is)
    (case t11 => k_is)
    (case F11 => exact ⟨_, L2.fun_mk (by k_is) (by k_is) (by k_is)⟩)
    (case i12 => k_is)
    (case t12 => k_is)
    (case F12 => exact ⟨_, L2.fun_mk (by k_is) (by k_is) (by k_is)⟩)
    (case i13 => k_is)
    (case t13 => k_is)
    (case F13 => exact ⟨_, L2.fun_mk (by k_is) (by k_is) (by k_is)⟩)
    (case i14 => k_is)
    (case t14 => k_is)
    (case F14 => exact ⟨_, L2.fun_mk (by k_is) (by k_is) (by k_is)⟩)
    (case i15 => k_is)
    (case t15 => k_is)
    (case F15 => exact ⟨_, L2.fun_mk (by k_is) (by k_is) (by k_is)⟩)
    (case i16 => k_is)
    (case t16 => k_is)
    (case F16 => exact ⟨_, L2.fun_mk (by k_is) (by k_is) (by k_is)⟩)
    (case i17 => k_is)
    (case t17 => k_is)
    (case F17 => exact ⟨_, L2.fun_mk (by k_is) (by k_is) (by k_is)⟩)
    (case i18 => k_is)
    (case t18 => k_is)
    (case F18 => exact ⟨_, L2.fun_mk (by k_is) (by k_is) (by k_is)⟩)
    (case i19 => k_is)
    (case t19 => k_is)
    (case F19 => exact ⟨_, L2.fun_mk (by k_is) (by k_is) (by k_is)⟩)
    (case i20 => k_is)
    (case t20 => k_is)
    (case F20 => exact ⟨_, L2.fun_mk (by k_is) (by k_is) (by k_is)⟩)
    (case i21 => k_is)
    (case t21 => k_is)
    (case F21 => exact ⟨_, L2.fun_mk (by k_is) (by k_is) (by k_is)⟩)
    (case i22 => k_is)
    (case t22 => k_is)
    (case F22 => exact ⟨_, L2.fun_mk (by k_is) (by k_is) (by k_is)⟩)
    (case i23 => k_is)
    (case t23 => k_is)
    (case F23 => exact ⟨_, L2.fun_mk (by k_is) (by k_is) (by k_is)⟩)
    (case i24 => k_is)
    (case t24 => k_is)
    (case F24 => exact ⟨_, L2.fun_mk (by k_is) (by k_is) (by k_is)⟩)
    (case i25 => k_is)
    (case t25 => k_is)
    (case F25 => exact ⟨_, L2.fun_mk (by k_is) (by k_is) (by k_is)⟩)
    (case i26 => k_is)
    (case t26 => k_is)
    (case F26 => exact ⟨_, L2.fun_mk (by k_is) (by k_is) (by k_is)⟩)
    (case i27 => k_is)
    (case t27 => k_is)
    (case F27 => exact ⟨_, L2.fun_mk (by k_is) (by k_is) (by k_is)⟩)
    (case i28 => k_is)
    (case t28 => k_is)
    (case F28 => exact ⟨_, L2.fun_mk (by k_is) (by k_is) (by k_is)⟩)
    (case dCell => k_is)
    (case FCell => exact ⟨_, L2.fun_mk (by k_is) (by k_is) (by k_is)⟩)
    (case dPool => k_is)
    (case FPool => exact ⟨_, L2.fun_mk (by k_is) (by k_is) (by k_is)⟩)
    (case dTake => k_is)
    (case FTake => exact ⟨_, L2.fun_mk (by k_is) (by k_is) (by k_is)⟩)
    (case dAny => k_is)
    (case FAny => exact ⟨_, L2.fun_mk (by k_is) (by k_is) (by k_is)⟩)
    (case dByP => k_is)
    (case FByP => exact ⟨_, L2.fun_mk (by k_is) (by k_is) (by k_is)⟩)
    (case dByN => k_is)
    (case FByN => exact ⟨_, L2.fun_mk (by k_is) (by k_is) (by k_is)⟩)
    (case dFields => k_is)
    (case FFields => exact ⟨_, L2.fun_mk (by k_is) (by k_is) (by k_is)⟩)
    (case dKinds => k_is)
    (case FKinds => exact ⟨_, L2.fun_mk (by k_is) (by k_is) (by k_is)⟩)
    (case dOwn => k_is)
    (case FOwn => exact ⟨_, L2.fun_mk (by k_is) (by k_is) (by k_is)⟩)
    (case dSame => k_is)
    (case FSame => exact ⟨_, L2.fun_mk (by k_is) (by k_is) (by k_is)⟩)
    (case dLaw => k_is)
    (case FLaw => exact ⟨_, _, _, _, _, _, _, _, _, by k_is, by k_is, by k_is⟩)
    (case z_len => k_is)
    (case z_int => k_is)
    (case z_isinstance => k_is)
    (case z_bool => k_is)
    (case z_ValueError => k_is)
    (case z_range => k_is)
    (case z_all => k_is)
    (case nd => decide)
    (case x_gs => kernel_rfl)
    (case x_ex => kernel_rfl)
    (case x_exR => kernel_rfl)
    (case x_kit => kernel_rfl)
    (case x_own => kernel_rfl)
    (case x_re => kernel_rfl)
    (case x_no => kernel_rfl)
    (case x_b7 => kernel_rfl)
    (case x_b16 => kernel_rfl)
    (case x_b24 => kernel_rfl)
    (case x_b30 => kernel_rfl)
    (case x_bR => kernel_rfl)
