import PyProof.Rows.All
import Wide.All
import OpenK.AllK
import Wide.FinOn
import HandS.ForMost
import HandS.IsInst
import HandS.Exc
import HandS.Deep
import HandS.Star
import KE.GoesEnum
import HandS.Walk
import HandS.StrMore
import HandS.TupAny
import HandS.Text
import HandS.FStr
import HandS.TryMany
import HandS.ExcInit
import HandS.ExcField
import HandS.HeadHook3
import HandS.EndOwn
import HandS.Defaults
import KE.KDictKeyed
import KE.KDictCopyH
import KE.KDictList
import KE.KeyNested
import HandS.Dict
import HandS.Comp
import HandS.WordsExc
import HandS.Call
import HandS.List
import PyProof.StrOps2
import PyProof.TupleOfSeq
import HandS.ExcValue
import HandS.ExcOwn
import HandS.DictComp
import PyProof.NeKinds
import HandS.Words
import HandS.Lambda
import KE.OsRunLaw
import PySem.Challenge.RW_freeworldrules_k27_texts_there_and_back
set_option Elab.async false
set_option linter.all false
set_option maxRecDepth 100000
set_option maxHeartbeats 4000000
/-! What the laws' own helpers lean on: heaps with some places hidden, pools, promises. -/
namespace GB
open PySem PySem.Spec L2
/-- the heap without the places that others may change -/
def hid (ps : List Addr) (H : Hp) : Hp := fun b => if b ∈ ps then none else H b
theorem hid_in {ps : List Addr} {H : Hp} {b : Addr} {o : HO} (e : hid ps H b = some o) : H b = some o ∧ b ∉ ps := by
  unfold hid at e
  split at e
  · cases e
  · rename_i h; exact ⟨e, h⟩
theorem hid_of {ps : List Addr} {H : Hp} {b : Addr} (h : b ∉ ps) : hid ps H b = H b := if_neg h
theorem hid_to {ps : List Addr} {H : Hp} {b : Addr} {o : HO} (h : b ∉ ps) (e : H b = some o) : hid ps H b = some o := by rw [hid_of h]; exact e
theorem hid_low (ps : List Addr) (H : Hp) : Same (hid ps H) H := fun b o e => (hid_in e).1
theorem hid_less {ps qs : List Addr} {H : Hp} (h : ∀ p ∈ qs, p ∈ ps) : Same (hid ps H) (hid qs H) := fun b o e => by
  obtain ⟨e1, n⟩ := hid_in e
  exact hid_to (fun m => n (h b m)) e1
theorem hid_same {ps : List Addr} {H H' : Hp} (s : Same H H') : Same (hid ps H) (hid ps H') := fun b o e => by
  obtain ⟨e1, n⟩ := hid_in e
  exact hid_to n (s b o e1)
/-- all but these places stands as it was -/
abbrev Bt (ps : List Addr) (H H' : Hp) : Prop := Same (hid ps H) (hid ps H')
theorem bt_upd {ps : List Addr} {H : Hp} {a : Addr} {o : HO} (h : a ∈ ps) : Bt ps H (upd H a o) := fun b u e => by
  obtain ⟨e1, n⟩ := hid_in e
  have : b ≠ a := fun z => n (by rw [z]; exact h)
  exact hid_to n (by rw [upd_ne this]; exact e1)
theorem bt_weak {ps qs : List Addr} {H H' : Hp} (h : ∀ p ∈ qs, p ∈ ps) (s : Bt qs H H') : Bt ps H H' := fun b o e => by
  obtain ⟨e1, n⟩ := hid_in e
  have nq : b ∉ qs := fun m => n (h b m)
  exact hid_to n (hid_in (s b o (hid_to nq e1))).1
theorem bt_of {ps : List Addr} {H H' : Hp} (s : Same H H') : Bt ps H H' := hid_same s
theorem bt_at {ps : List Addr} {H H' : Hp} {a : Addr} {o : HO} (s : Bt ps H H') (n : a ∉ ps) (e : H a = some o) : H' a = some o := (hid_in (s a o (hid_to n e))).1
/-- a new object is laid -/
theorem lay {H : Hp} {a : Addr} {o : HO} (n : H a = none) : ∃ H', Same H H' ∧ H' a = some o ∧ upd H a o = H' := ⟨_, fun b u e => by rw [upd_ne (ne_of_none e n)]; exact e, upd_same, rfl⟩
theorem ni1 {a p : Addr} (h : a ≠ p) : a ∉ [p] := fun m => h (List.mem_singleton.mp m)
theorem Same.seqT {K : PySem.W.Frag} {H H' : Hp} {a : Addr} {xs : List V} (e : Same H H') (h : SqT K H a xs) : SqT K H' a xs := by
  rcases h with (h | ⟨o, h⟩) | h
  · exact .inl (.inl (e _ _ h))
  · exact .inl (.inr ⟨o, e _ _ h⟩)
  · exact .inr h
def poolV (a b c : Int) : List V := [.int a, .int b, .int c]
/-- a pool at p, drawn from n times at most -/
structure PoolIs (H : Hp) (p : Addr) (n : Nat) : Prop where
  ex : ∃ a b c : Int, H p = some (.lst (poolV a b c)) ∧ 0 ≤ a ∧ 0 ≤ b ∧ b < 1000000007 ∧ 0 ≤ c ∧ c ≤ n
theorem PoolIs.mono {H H' : Hp} {p : Addr} {n m : Nat} (s : Same H H') (h : n ≤ m) (P : PoolIs H p n) : PoolIs H' p m := by
  obtain ⟨a, b, c, e, h1, h2, h3, h4, h5⟩ := P
  exact ⟨a, b, c, s _ _ e, h1, h2, h3, h4, by omega⟩
theorem PoolIs.ne {H : Hp} {p a : Addr} {n : Nat} (P : PoolIs H p n) (h : H a = none) : a ≠ p := by
  obtain ⟨x, y, z, e, _⟩ := P
  exact (ne_of_none e h).symm
def spCell (K : PySem.W.Frag) : Sp := fun vs H Q _ => ∃ (a : Addr) (ns : List Int) (k : Nat), vs = [.ref a, .int k] ∧ SqL K H a (ns.map V.int) ∧ ∀ z, Q (.int z) H
def spPool : Sp := fun vs H Q _ => ∃ g : Int, vs = [.int g] ∧ ∀ p H', H p = none → Same H H' → PoolIs H' p 0 → Q (.ref p) H'
/-- a draw: below m -/
def spTake : Sp := fun vs H Q _ => ∃ (p : Addr) (m : Int) (n : Nat), vs = [.ref p, .int m] ∧ 0 < m ∧ m < 1000000 ∧ n ≤ 1000000 ∧ PoolIs H p n ∧
  ∀ (r : Nat) H', (r : Int) < m → Bt [p] H H' → PoolIs H' p (n + 1) → Q (.int r) H'
structure Fns (P : Program) (w : World) (K : PySem.W.Frag) (mg : Str → Option Value) (base : Heap) (n : Str) (k : Nat) (ps : List Str) (sp : Sp) : Prop where
  ex : ∃ (f : Addr) (fd : FuncData), FnOk P w K mg base CX0 k f fd ps sp ∧ mg n = some (.ref f) ∧ PySem.W.keepIn K (.ref f) = true ∧ Binds K fd ps []
section
variable {X : Cx} {n : Str} {k j : Nat} {ps : List Str} {sp : Sp} {e : Expr} {es : List Expr} {p pos : Pos} {t : TA}
theorem pe_fn (F : Fns X.prog X.w X.K X.mg X.base n k ps sp) (hr : Room j X.A) (hk : k ≤ j) (hg : Gl X n) (ha : PA X (e :: es) t) (hdb : (n == ("__debug__" : Str)) = false := by decide)
    (he : starEach (e :: es) X.env = (false, eval e X.env) :: starEach es X.env := by rfl) (hpl : (backTo pos (starEach es X.env)).any (·.1) = false := by rfl) : PE X (.Call (.Name n p) (e :: es) [] pos) (tCall sp [] E0 t) := by
  obtain ⟨f, fd, G, m, kp, b⟩ := F.ex
  exact pe_call G (hr.mono hk) hg m kp b .nil pass0 ha hdb he hpl
end
/-- the built-ins' names, as the module leaves them -/
structure Bl (mg : Str → Option Value) : Prop where
  len : mg "len" = none
  int : mg "int" = none
  list : mg "list" = none
  tuple : mg "tuple" = none
  dict : mg "dict" = none
  range : mg "range" = none
  sorted : mg "sorted" = none
  isi : mg "isinstance" = none
  bool : mg "bool" = none
  str : mg "str" = none
  all : mg "all" = none
  any : mg "any" = none
  enum : mg "enumerate" = none
/-- the things in an order of its own -/
def spMixed (K : PySem.W.Frag) : Sp := fun vs H Q _ => ∃ (p t : Addr) (xs : List V) (n : Nat), vs = [.ref p, .ref t] ∧ SqL K (hid [p] H) t xs ∧ xs.length ≤ 60 ∧ n + 60 ≤ 1000000 ∧ PoolIs H p n ∧
  ∀ (q : Addr) (ys : List V) H', ys.Perm xs → H q = none → Bt [p] H H' → H' q = some (.lst ys) → PoolIs H' p (n + 60) → Q (.ref q) H'
/-- one of the things -/
def spOne (K : PySem.W.Frag) : Sp := fun vs H Q _ => ∃ (p t : Addr) (xs : List V) (n : Nat), vs = [.ref p, .ref t] ∧ SqL K (hid [p] H) t xs ∧ xs ≠ [] ∧ xs.length ≤ 100000 ∧ n + 1 ≤ 1000000 ∧ PoolIs H p n ∧
  ∀ (v : V) H', v ∈ xs → Bt [p] H H' → PoolIs H' p (n + 1) → Q v H'
theorem cut_to (xs : List V) (r : Nat) (h : r ≤ xs.length) : cutV xs none (some (r : Int)) = xs.take r := by
  unfold cutV
  rw [HT.sIx_none, HT.sIx_nat, List.drop_zero, Nat.min_eq_left h, Nat.sub_zero]
theorem cut_from (xs : List V) (r : Nat) : cutV xs (some (r : Int)) none = xs.drop r := by
  unfold cutV
  rw [HT.sIx_none, HT.sIx_nat]
  by_cases h : r ≤ xs.length
  · rw [Nat.min_eq_left h, List.take_of_length_le]
    rw [List.length_drop]; exact Nat.le_refl _
  · rw [Nat.min_eq_right (by omega), List.drop_of_length_le (Nat.le_refl _), List.drop_of_length_le (by omega)]
    simp
theorem perm_out {α : Type} {left : List α} {r : Nat} {v : α} (fs : List α) (h : left[r]? = some v) : ((fs ++ [v]) ++ (left.take r ++ left.drop (r + 1))).Perm (fs ++ left) := by
  obtain ⟨hr, rfl⟩ := List.getElem?_eq_some_iff.mp h
  rw [List.append_assoc]
  refine List.Perm.append_left fs ?_
  have e : left = left.take r ++ left[r] :: left.drop (r + 1) := by
    rw [← List.drop_eq_getElem_cons hr, List.take_append_drop]
  conv => rhs; rw [e]
  show (left[r] :: (left.take r ++ left.drop (r + 1))).Perm _
  exact List.perm_middle.symm
end GB
set_option Elab.async false
set_option linter.all false
set_option maxRecDepth 100000
set_option maxHeartbeats 4000000
namespace K27
open PySem L2 GB
def topS (i : Nat) : Stmt := PySem.Challenge.pw_freeworldrules_k27_texts_there_and_back.main.body.getD i (.Pass ⟨0, 0, 0, 0⟩)
abbrev sCell : Stmt := topS 42
abbrev sPool : Stmt := topS 43
abbrev sTake : Stmt := topS 44
abbrev sMixed : Stmt := topS 45
abbrev sOne : Stmt := topS 46
section
variable {P : Program} {w : World} {K : PySem.W.Frag} {mg : Str → Option Value} {base : Heap}
theorem plq {H : Hp} {Q : VK} {p : Addr} {a b : Int} (hp : H p = none) (q : ∀ p H', H p = none → Same H H' → PoolIs H' p 0 → Q (.ref p) H') (h1 : 0 ≤ a) (h2 : 0 ≤ b) (h3 : b < 1000000007) : Q (.ref p) (upd H p (.lst (poolV a b 0))) :=
  q p _ hp (fun c o e => by rw [upd_ne (ne_of_none e hp)]; exact e) ⟨a, b, 0, upd_same, h1, h2, h3, Int.le_refl 0, Int.le_refl 0⟩
theorem tkq {H : Hp} {Q : VK} {p : Addr} {m r a b c : Int} {n : Nat} (q : ∀ (r : Nat) H', (r : Int) < m → Bt [p] H H' → PoolIs H' p (n + 1) → Q (.int r) H') (r0 : 0 ≤ r) (r1 : r < m) (h1 : 0 ≤ a) (h2 : 0 ≤ b) (h3 : b < 1000000007) (h4 : 0 ≤ c) (h5 : c ≤ ((n + 1 : Nat) : Int)) :
    Q (.int r) (upd H p (.lst (poolV a b c))) := by
  obtain ⟨j, rfl⟩ : ∃ j : Nat, r = j := ⟨r.toNat, by omega⟩
  exact q j _ r1 (bt_upd List.mem_cons_self) ⟨a, b, c, upd_same, h1, h2, h3, h4, h5⟩
theorem scCell : FnScope ["_law_script", "_law_k"] ["_law_script", "_law_k"] (defScope sCell) := ⟨rfl, rfl, rfl, by decide +kernel, rfl, by decide +kernel, by decide +kernel⟩
theorem ok_cell {f : Addr} {fd : FuncData} (F : Fun K "_law_cell" "_law_cell" sCell f fd) (T : Bl mg) : FnOk P w K mg base CX0 1 f fd ["_law_script", "_law_k"] (GB.spCell K) := by
  refine F.ok scCell (fun vs H Q E h => ?_) (fun cdv A outer s H vs Q E hr h => ?_)
  · obtain ⟨a, ns, k, rfl, _⟩ := h
    rfl
  · obtain ⟨a, ns, k, rfl, hS, q⟩ := h
    refine ⟨_, pss_cons (ps_if (pt_cmpR op_lt (pv 1) (pe_callB call_len_seq (by rfl) T.len PySem.boot_len (pa_cons (pv 0) pa_nil)) (nomark _))
      (pss_one (ps_ret (pe_ix ix_list (pv 0) (pv 1) (fun _ _ => rfl)))) pss_nil) (pss_one (ps_ret pe_int)), ?_⟩
    refine ⟨_, rfl, _, rfl, a, _, rfl, .inl hS, _, _, rfl, rfl, _, rfl, ?_⟩
    by_cases c : (k : Int) < ((ns.map V.int).length : Int)
    · rw [decide_eq_true c]
      refine iteT ?_
      have hk : k < ns.length := by rw [List.length_map] at c; omega
      exact ⟨_, rfl, _, rfl, a, _, _, .int ns[k], rfl, rfl, hS, atI_nat (by simp [hk]), q _⟩
    · rw [decide_eq_false c]
      exact iteF (q 0)
theorem scPool : FnScope ["_law_grain", "_law_folded"] ["_law_grain"] (defScope sPool) := ⟨rfl, rfl, rfl, by decide +kernel, rfl, by decide +kernel, by decide +kernel⟩
theorem ok_pool {f : Addr} {fd : FuncData} (F : Fun K "_law_pool" "_law_pool" sPool f fd) (T : Bl mg) : FnOk P w K mg base CX0 1 f fd ["_law_grain"] spPool := by
  refine F.ok scPool (fun vs H Q E h => ?_) (fun cdv A outer s H vs Q E hr h => ?_)
  · obtain ⟨g, rfl, _⟩ := h
    rfl
  · obtain ⟨g, rfl, q⟩ := h
    refine ⟨_, pss_cons (ps_set (i := 1) scPool.nd rfl (.inl rfl) (pe_op op_mul pe_int (pv 0)))
      (pss_cons (ps_if (pt_cmpR op_lt (pv 0) pe_int (nomark _)) (pss_one (ps_set (i := 1) scPool.nd rfl (.inl rfl) (pe_op op_sub (pe_op op_sub pe_int (pe_op op_mul pe_int (pv 0))) pe_int))) pss_nil)
      (pss_cons (ps_if (pt_cmpR op_ge (pv 1) (pe_op op_pow pe_int pe_int) (nomark _))
        (pss_one (ps_ret (pe_lst (pa_cons (pv 1) (pa_cons (pe_op op_mod (pe_callTy call_int1 (by rfl) T.int (by decide +kernel) (pa_cons (pv 1) pa_nil)) pe_int) (pa_cons pe_int pa_nil)))))) pss_nil)
      (pss_one (ps_ret (pe_lst (pa_cons pe_int (pa_cons (pe_op op_mod (pe_callTy call_int1 (by rfl) T.int (by decide +kernel) (pa_cons (pv 1) pa_nil)) pe_int) (pa_cons pe_int pa_nil)))))))), ?_⟩
    have fin : ∀ f : Int, 0 ≤ f → ∀ p, H p = none → Q (.ref p) (upd H p (.lst [.int f, .int (f % 1000000007), .int 0])) := fun f hf p hp =>
      plq hp q hf (Int.emod_nonneg _ (by decide)) (Int.emod_lt_of_pos _ (by decide))
    have fin0 : ∀ f : Int, ∀ p, H p = none → Q (.ref p) (upd H p (.lst [.int 0, .int (f % 1000000007), .int 0])) := fun f p hp =>
      plq hp q (by decide) (Int.emod_nonneg _ (by decide)) (Int.emod_lt_of_pos _ (by decide))
    refine ⟨_, rfl, _, _, rfl, rfl, .inl ⟨by decide, by decide⟩, ?_⟩
    refine ⟨_, rfl, _, _, rfl, rfl, _, rfl, ?_⟩
    by_cases c0 : g < 0
    · rw [decide_eq_true c0]
      refine iteT ?_
      refine ⟨_, rfl, _, _, rfl, rfl, .inl ⟨by decide, by decide⟩, _, _, rfl, rfl, _, _, rfl, rfl, ?_⟩
      refine ⟨_, rfl, _, _, rfl, rfl, ⟨by decide, by decide, by decide⟩, _, _, rfl, rfl, _, rfl, ?_⟩
      refine ite2 (fun _ => ?_) (fun _ => ?_)
      · exact ⟨_, rfl, _, rfl, .inl ⟨_, rfl, _, _, rfl, rfl, (by show (0 : Int) < 1000000007; decide), (by show 3 ≤ sizeLine; decide), fin _ (by omega)⟩⟩
      · exact ⟨_, rfl, .inl ⟨_, rfl, _, _, rfl, rfl, (by show (0 : Int) < 1000000007; decide), (by show 3 ≤ sizeLine; decide), fin0 _⟩⟩
    · rw [decide_eq_false c0]
      refine iteF ?_
      refine ⟨_, rfl, _, _, rfl, rfl, ⟨by decide, by decide, by decide⟩, _, _, rfl, rfl, _, rfl, ?_⟩
      refine ite2 (fun _ => ?_) (fun _ => ?_)
      · exact ⟨_, rfl, _, rfl, .inl ⟨_, rfl, _, _, rfl, rfl, (by show (0 : Int) < 1000000007; decide), (by show 3 ≤ sizeLine; decide), fin _ (by omega)⟩⟩
      · exact ⟨_, rfl, .inl ⟨_, rfl, _, _, rfl, rfl, (by show (0 : Int) < 1000000007; decide), (by show 3 ≤ sizeLine; decide), fin0 _⟩⟩
theorem scTake : FnScope ["_law_pool_here", "_law_many", "_law_draw", "_law_mixed_here"] ["_law_pool_here", "_law_many"] (defScope sTake) := ⟨rfl, rfl, rfl, by decide +kernel, rfl, by decide +kernel, by decide +kernel⟩
theorem ok_take {f : Addr} {fd : FuncData} (F : Fun K "_law_take" "_law_take" sTake f fd) (T : Bl mg) : FnOk P w K mg base CX0 1 f fd ["_law_pool_here", "_law_many"] spTake := by
  refine F.ok scTake (fun vs H Q E h => ?_) (fun cdv A outer s H vs Q E hr h => ?_)
  · obtain ⟨p, m, n, rfl, _⟩ := h
    rfl
  · obtain ⟨p, m, n, rfl, m0, m1, hn, ⟨a, b, c, hp, a0, b0, b1, c0, c1⟩, q⟩ := h
    refine ⟨_, pss_cons (ps_if (pt_cmpR op_gt (pe_ix ix_list (pv 0) pe_int (fun _ _ => rfl)) pe_int (nomark _))
        (pss_cons (ps_set (i := 2) scTake.nd rfl (.inl rfl) (pe_op op_mod (pe_callTy call_int1 (by rfl) T.int (by decide +kernel) (pa_cons (pe_ix ix_list (pv 0) pe_int (fun _ _ => rfl)) pa_nil)) (pv 1)))
        (pss_cons (ps_asg (pe_op op_fdiv (pe_ix ix_list (pv 0) pe_int (fun _ _ => rfl)) (pv 1)) (pg_sub (pv 0) pe_int set_list))
        (pss_one (ps_ret (pv 2))))) pss_nil)
      (pss_cons (ps_asg (pe_op op_add (pe_ix ix_list (pv 0) pe_int (fun _ _ => rfl)) pe_int) (pg_sub (pv 0) pe_int set_list))
      (pss_cons (ps_set (i := 3) scTake.nd rfl (.inl rfl) (pe_op op_mod (pe_callTy call_int1 (by rfl) T.int (by decide +kernel) (pa_cons
          (pe_op op_pow (pe_op op_add (pe_op op_add (pe_ix ix_list (pv 0) pe_int (fun _ _ => rfl)) (pe_op op_mul pe_int (pe_ix ix_list (pv 0) pe_int (fun _ _ => rfl)))) pe_int) pe_int) pa_nil)) pe_int))
      (pss_one (ps_ret (pe_op op_mod (pe_op op_mod (pe_callTy call_int1 (by rfl) T.int (by decide +kernel) (pa_cons
          (pe_op op_mul (pe_op op_add (pv 3) (pe_ix ix_list (pv 0) pe_int (fun _ _ => rfl))) pe_int) pa_nil)) pe_int) (pv 1)))))), ?_⟩
    have g0 : ∀ {x y z : Int} {H : Hp}, H p = some (.lst (poolV x y z)) → SqL K H p (poolV x y z) := fun h => SqL.of h
    refine ⟨_, rfl, p, _, 0, _, rfl, rfl, g0 hp, atI_nat (j := 0) rfl, _, _, rfl, rfl, _, rfl, ?_⟩
    by_cases ca : 0 < a
    · rw [decide_eq_true ca]
      refine iteT ?_
      refine ⟨_, rfl, p, _, 0, _, rfl, rfl, g0 hp, atI_nat (j := 0) rfl, .inl ⟨_, rfl, _, rfl, _, _, rfl, rfl, m0, ?_⟩⟩
      refine ⟨_, rfl, p, _, 0, _, rfl, rfl, g0 hp, atI_nat (j := 0) rfl, _, rfl, _, _, rfl, rfl, ⟨m0, by omega⟩, ?_⟩
      refine ⟨_, rfl, p, _, 0, 0, rfl, rfl, hp, rfl, _, rfl, ?_⟩
      exact tkq q (Int.emod_nonneg _ (by omega)) (Int.emod_lt_of_pos _ m0) (Int.ediv_nonneg a0 (by omega)) b0 b1 c0 (by omega)
    · rw [decide_eq_false ca]
      refine iteF ?_
      refine ⟨_, rfl, p, _, 2, _, rfl, rfl, g0 hp, atI_nat (j := 2) rfl, _, _, rfl, rfl, ?_⟩
      refine ⟨_, rfl, p, _, 2, 2, rfl, rfl, hp, rfl, ?_⟩
      have h1 : (upd H p (.lst (poolV a b (c + 1)))) p = some (.lst (poolV a b (c + 1))) := upd_same
      refine ⟨_, rfl, p, _, 1, _, rfl, rfl, g0 h1, atI_nat (j := 1) rfl, _, rfl, p, _, 2, _, rfl, rfl, g0 h1, atI_nat (j := 2) rfl, _, _, rfl, rfl, .inl ⟨by decide, by decide⟩, _, _, rfl, rfl, _, _, rfl, rfl, _, _, rfl, rfl, ⟨by decide, by decide, ?_⟩, .inl ⟨_, rfl, _, _, rfl, rfl, (by show (0 : Int) < 2147483647; decide), ?_⟩⟩
      · show (b + 7919 * (c + 1) + 104729).natAbs < 2 ^ 64
        omega
      · refine ⟨_, rfl, _, rfl, p, _, 2, _, rfl, rfl, g0 h1, atI_nat (j := 2) rfl, _, _, rfl, rfl, _, _, rfl, rfl, .inr ⟨by decide, by decide⟩, .inl ⟨_, rfl, _, _, rfl, rfl, (by show (0 : Int) < 2147483629; decide), _, rfl, _, _, rfl, rfl, m0, ?_⟩⟩
        exact tkq q (Int.emod_nonneg _ (by omega)) (Int.emod_lt_of_pos _ m0) a0 b0 b1 (by omega) (by omega)
theorem scMixed : FnScope ["_law_pool_here", "_law_things", "_law_left", "_law_found", "_law_k", "_law_at"] ["_law_pool_here", "_law_things"] (defScope sMixed) := ⟨rfl, rfl, rfl, by decide +kernel, rfl, by decide +kernel, by decide +kernel⟩
theorem ok_mixed {f : Addr} {fd : FuncData} (F : Fun K "_law_mixed" "_law_mixed" sMixed f fd) (T : Bl mg) (TK : Fns P w K mg base "_law_take" 1 ["_law_pool_here", "_law_many"] spTake) : FnOk P w K mg base CX0 2 f fd ["_law_pool_here", "_law_things"] (spMixed K) := by
  refine F.ok scMixed (fun vs H Q E h => ?_) (fun cdv A outer s H vs Q E hr h => ?_)
  · obtain ⟨p, t, xs, n, rfl, _⟩ := h
    rfl
  · obtain ⟨p, t, xs, n, rfl, hS, hx, hn, hP, q⟩ := h
    refine ⟨_, pss_cons (ps_set (i := 2) scMixed.nd rfl (.inl rfl) (pe_callTy call_list_of (by rfl) T.list (by decide +kernel) (pa_cons (pv 1) pa_nil)))
      (pss_cons (ps_set (i := 3) scMixed.nd rfl (.inl rfl) (pe_lst pa_nil))
      (pss_cons (ps_for PassesOwn.never rfl (pi_range1 rfl T.range (pa_cons (pe_callB call_len_seq (by rfl) T.len PySem.boot_len (pa_cons (pv 1) pa_nil)) pa_nil)) (pg_name (i := 4) scMixed.nd rfl (.inl rfl))
        (pss_cons (ps_set (i := 5) scMixed.nd rfl (.inl rfl) (pe_fn TK hr (by decide) rfl (pa_cons (pv 0) (pa_cons (pe_callB call_len_seq (by rfl) T.len PySem.boot_len (pa_cons (pv 2) pa_nil)) pa_nil))))
        (pss_cons (ps_expr (pe_bm PySem.F.plainAttrs_list PySem.F.slot_list_append PySem.F.type_list_append mt_append (pv 3) (pa_cons (pe_ix ix_list (pv 2) (pv 5) (fun _ _ => rfl)) pa_nil)))
        (pss_one (ps_set (i := 2) scMixed.nd rfl (.inl rfl) (pe_op op_cat (pe_slice sl_list (pv 2) po_none (po_some (pv 5))) (pe_slice sl_list (pv 2) (po_some (pe_op op_add (pv 5) pe_int)) po_none)))))))
      (pss_one (ps_ret (pv 3))))), ?_⟩
    have hS0 := (hid_low [p] H).seq hS
    refine ⟨_, rfl, t, xs, rfl, .inl hS0, fun l nl => ?_⟩
    obtain ⟨H1, s1, h1, e1⟩ := lay (o := .lst xs) nl
    rw [e1]
    refine ⟨by show 0 ≤ sizeLine; decide, fun f nf => ?_⟩
    obtain ⟨H2, s2, h2, e2⟩ := lay (o := .lst []) nf
    rw [e2]
    have lf : l ≠ f := ne_of_none h1 nf
    have lp : l ≠ p := hP.ne nl
    have P2 : PoolIs H2 p n := hP.mono (s1.trans s2) (Nat.le_refl _)
    have fp : f ≠ p := (hP.mono s1 (Nat.le_refl _)).ne nf
    have nfH : H f = none := s1.free nf
    refine ⟨_, rfl, t, xs, rfl, .inl ((s1.trans s2).seq hS0), xs.length, rfl, by omega, by omega, for_range (lo := 0) (n := xs.length) (fun k σ H' => ∃ l left fs o4 o5, σ = [some (.ref p), some (.ref t), some (.ref l), some (.ref f), o4, o5] ∧ Bt [p] H H' ∧ H' f = some (.lst fs) ∧
        H' l = some (.lst left) ∧ l ≠ f ∧ l ≠ p ∧ (fs ++ left).Perm xs ∧ left.length + k = xs.length ∧ PoolIs H' p (n + k)) ⟨l, xs, [], none, none, rfl, bt_of (s1.trans s2), h2, s2 _ _ h1, lf, lp, List.Perm.refl _, rfl, P2⟩ ?_ ?_⟩
    · rintro k σ H3 hk ⟨l, left, fs, o4, o5, rfl, b3, hf, hl, lf, lp, hperm, hlen, P3⟩
      refine ⟨_, rfl, _, rfl, l, left, rfl, .inl (SqL.of hl), p, _, n + k, rfl, (by show (0 : Int) < (left.length : Int); omega), (by show (left.length : Int) < 1000000; omega), by omega, P3, fun r H4 hr' b4 P4 => ?_⟩
      have hl4 := bt_at b4 (ni1 lp) hl
      have hf4 := bt_at b4 (ni1 fp) hf
      have hr2 : r < left.length := by have := hr'; omega
      have hv : left[r]? = some left[r] := List.getElem?_eq_getElem hr2
      have hfl : fs.length ≤ 60 := by
        have := hperm.length_eq
        rw [List.length_append] at this
        omega
      refine ⟨_, rfl, .inl ⟨rfl, _, SqL.of hf4⟩, _, rfl, _, rfl, l, left, _, left[r], rfl, rfl, SqL.of hl4, atI_nat hv, f, fs, left[r], rfl, rfl, hf4, (by rw [sizeLine_eq]; omega), ?_⟩
      obtain ⟨H5, b5, h5, e5⟩ : ∃ H5, (∀ b o, b ≠ f → H4 b = some o → H5 b = some o) ∧ H5 f = some (.lst (fs ++ [left[r]])) ∧ upd H4 f (.lst (fs ++ [left[r]])) = H5 := ⟨upd H4 f (.lst (fs ++ [left[r]])), fun b o z e => by rw [upd_ne z]; exact e, upd_same, rfl⟩
      rw [e5]
      have hl5 := b5 _ _ lf hl4
      refine ⟨_, rfl, _, rfl, _, rfl, l, left, rfl, SqL.of hl5, fun c1 n1 => ?_⟩
      obtain ⟨H6, s6, h6, e6⟩ := lay (o := .lst (cutV left none (some (r : Int)))) n1
      rw [e6]
      refine ⟨_, rfl, _, rfl, _, _, rfl, rfl, _, rfl, l, left, rfl, SqL.of (s6 _ _ hl5), fun c2 n2 => ?_⟩
      obtain ⟨H7, s7, h7, e7⟩ := lay (o := .lst (cutV left (some (((r + 1 : Nat) : Int))) none)) n2
      rw [show ((r : Int) + 1) = ((r + 1 : Nat) : Int) from rfl, e7]
      rw [cut_from] at h7
      rw [cut_to _ _ (Nat.le_of_lt hr2)] at h6
      refine ⟨c1, c2, _, _, rfl, rfl, s7 _ _ h6, h7, (by rw [List.length_take, List.length_drop, sizeLine_eq]; omega), fun c3 n3 => ?_⟩
      obtain ⟨H8, s8, h8, e8⟩ := lay (o := .lst (left.take r ++ left.drop (r + 1))) n3
      rw [e8]
      have f5 : H7 f = some _ := s7 _ _ (s6 _ _ h5)
      have s58 : Same H5 H8 := (s6.trans s7).trans s8
      obtain ⟨x, y, z, hp4, pr⟩ := id P4
      have hp5 : H5 p = some (.lst (poolV x y z)) := b5 _ _ fp.symm hp4
      refine ⟨c3, left.take r ++ left.drop (r + 1), fs ++ [left[r]], _, _, rfl, ?_, s8 _ _ f5, h8, (ne_of_none f5 n3).symm, (ne_of_none (s7 _ _ (s6 _ _ hp5)) n3).symm, (perm_out fs hv).trans hperm, ?_, ⟨x, y, z, s58 _ _ hp5, pr⟩⟩
      · intro b o e
        obtain ⟨e', m⟩ := hid_in e
        have hbf : b ≠ f := ne_of_none e' nfH
        exact hid_to m (s58 _ _ (b5 _ _ hbf (bt_at b4 m (bt_at b3 m e'))))
      · rw [List.length_append, List.length_take, List.length_drop]; omega
    · rintro σ H3 ⟨l, left, fs, o4, o5, rfl, b3, hf, hl, lf, lp, hperm, hlen, P3⟩
      have : left = [] := List.eq_nil_of_length_eq_zero (by omega)
      subst this
      rw [List.append_nil] at hperm
      exact ⟨_, rfl, q f fs H3 hperm nfH b3 hf (P3.mono (Same.refl _) (by omega))⟩
theorem scOne : FnScope ["_law_pool_here", "_law_things"] ["_law_pool_here", "_law_things"] (defScope sOne) := ⟨rfl, rfl, rfl, by decide +kernel, rfl, by decide +kernel, by decide +kernel⟩
theorem ok_one {f : Addr} {fd : FuncData} (F : Fun K "_law_one" "_law_one" sOne f fd) (T : Bl mg) (TK : Fns P w K mg base "_law_take" 1 ["_law_pool_here", "_law_many"] spTake) : FnOk P w K mg base CX0 2 f fd ["_law_pool_here", "_law_things"] (spOne K) := by
  refine F.ok scOne (fun vs H Q E h => ?_) (fun cdv A outer s H vs Q E hr h => ?_)
  · obtain ⟨p, t, xs, n, rfl, _⟩ := h
    rfl
  · obtain ⟨p, t, xs, n, rfl, hS, hx, hx2, hn, hP, q⟩ := h
    refine ⟨_, pss_one (ps_ret (pe_ix ix_list (pv 1) (pe_fn TK hr (by decide) rfl (pa_cons (pv 0) (pa_cons (pe_callB call_len_seq (by rfl) T.len PySem.boot_len (pa_cons (pv 1) pa_nil)) pa_nil))) (fun _ _ => rfl))), ?_⟩
    have hS0 := (hid_low [p] H).seq hS
    have l0 : 0 < xs.length := List.length_pos_iff.mpr hx
    refine ⟨_, rfl, _, rfl, _, rfl, t, xs, rfl, .inl hS0, p, _, n, rfl, (by show (0 : Int) < (xs.length : Int); omega), (by show (xs.length : Int) < 1000000; omega), by omega, hP, fun r H4 hr' b4 P4 => ?_⟩
    have hr2 : r < xs.length := by have := hr'; omega
    exact ⟨t, xs, _, xs[r], rfl, rfl, (hid_low [p] H4).seq (b4.seq hS), atI_nat (List.getElem?_eq_getElem hr2), q _ H4 (List.getElem_mem hr2) b4 P4⟩
end
end K27
set_option Elab.async false
set_option linter.all false
set_option maxRecDepth 100000
set_option maxHeartbeats 4000000
/-! The laws' grounds as plain data, and where they stand. -/
namespace GB
open PySem PySem.Spec L2
structure Fact where
  x : Str
  vals : List Str
  kind : Str
  en : Str
structure GD where
  letters : List (Str × Nat)
  fixed : List Str
  comm : List Str
  facts : List Fact
def nm8 : List Str := ["x", "y", "z", "plus", "if", "name", "abcdefgh", "fail"]
/-- all names that letters of this law have -/
def nmA : List Str := nm8 ++ (["and", "bind", "last", "value", "use", "ifs", "an"] : List Str)
theorem nmA_of {x : Str} (h : x ∈ nm8) : x ∈ nmA := List.mem_append_left _ h
def va3 : List Str := ["one", "two", "false"]
def sort2 : List Str → List Str
  | [a, b] => if PyProof.Rows.sortedS [a, b] = true then [a, b] else [b, a]
  | l => l
theorem perm2 {α : Type} {a b : α} : ∀ {l : List α}, l.Perm [a, b] → l = [a, b] ∨ l = [b, a]
  | [], h => by have := h.length_eq; simp at this
  | [x], h => by have := h.length_eq; simp at this
  | [x, y], h => by
    have hx : x ∈ [a, b] := h.subset List.mem_cons_self
    rcases List.mem_cons.mp hx with rfl | hx
    · have := List.Perm.cons_inv h
      exact .inl (by rw [List.perm_singleton.mp this])
    · obtain rfl := List.mem_singleton.mp hx
      have h2 : [x, y].Perm [x, a] := h.trans (List.Perm.swap _ _ _)
      have := List.Perm.cons_inv h2
      exact .inr (by rw [List.perm_singleton.mp this])
  | x :: y :: z :: r, h => by have := h.length_eq; simp at this
theorem two_sorted : ∀ a ∈ va3, ∀ b ∈ va3, (PyProof.Rows.sortedS [a, b] = true ∧ (PyProof.Rows.sortedS [b, a] = true → [b, a] = [a, b])) ∨ (PyProof.Rows.sortedS [a, b] = false ∧ PyProof.Rows.sortedS [b, a] = true) := by decide
/-- the one order of at most two such texts -/
theorem sort2_of {ys vs : List Str} (hp : ys.Perm vs) (hs : PyProof.Rows.sortedS ys = true) (hl : vs.length ≤ 2) (hv : ∀ v ∈ vs, v ∈ va3) : ys = sort2 vs := by
  match vs, hl, hp, hv with
  | [], _, hp, _ => exact hp.eq_nil
  | [a], _, hp, _ => exact List.perm_singleton.mp hp
  | [a, b], _, hp, hv =>
    have ha := hv a List.mem_cons_self
    have hb := hv b (List.mem_cons_of_mem _ List.mem_cons_self)
    show ys = if PyProof.Rows.sortedS [a, b] = true then [a, b] else [b, a]
    rcases perm2 hp with rfl | rfl
    · rw [if_pos hs]
    · rcases two_sorted a ha b hb with ⟨h1, h2⟩ | ⟨h1, h2⟩
      · rw [if_pos h1]; exact h2 hs
      · rw [if_neg (by rw [h1]; exact Bool.false_ne_true)]
theorem sort2_perm (l : List Str) : (sort2 l).Perm l := by
  match l with
  | [] => exact List.Perm.refl _
  | [a] => exact List.Perm.refl _
  | [a, b] =>
    show (if PyProof.Rows.sortedS [a, b] = true then [a, b] else [b, a]).Perm [a, b]
    split
    · exact List.Perm.refl _
    · exact List.Perm.swap _ _ _
  | a :: b :: c :: r => exact List.Perm.refl _
theorem paired_app {α β : Type} {R : α → β → Prop} : ∀ {l l' : List α} {m m' : List β}, Paired R l m → Paired R l' m' → Paired R (l ++ l') (m ++ m')
  | _, _, _, _, .nil, s => s
  | _, _, _, _, .cons r t, s => .cons r (paired_app t s)
def GD.asked (g : GD) (f : Fact) : Str × List Str := (f.x, if f.x ∈ g.comm then sort2 f.vals else f.vals)
structure Fact.Ok (ls : List (Str × Nat)) (fx : List Str) (f : Fact) : Prop where
  x : f.x ∈ fx
  len : ∃ k, (f.x, k) ∈ ls ∧ f.vals.length = k
  vals : ∀ v ∈ f.vals, v ∈ va3
  kind : f.kind = "value" ∨ f.kind = "fail"
  en : f.en = "one" ∨ f.en = "false"
structure GD.Wf (g : GD) : Prop where
  ne : g.letters ≠ []
  nd : (g.letters.map (·.1)).Nodup
  nm : ∀ q ∈ g.letters, q.1 ∈ nmA
  le : g.letters.length ≤ 8
  ar : ∀ q ∈ g.letters, q.2 ≤ 2
  fx : g.fixed.Sublist (g.letters.map (·.1))
  cm : g.comm.Sublist g.fixed
  c2 : ∀ x ∈ g.comm, (x, 2) ∈ g.letters
  fl : g.facts.length ≤ 6
  fa : ∀ f ∈ g.facts, f.Ok g.letters g.fixed
  fd : (g.facts.map g.asked).Nodup
def lkv (ls : List (Str × Nat)) : List (Key × V) := ls.map fun q => (Sum.inr q.1, V.int q.2)
def sts (l : List Str) : List V := l.map V.str
structure FactAt (H : Hp) (f : Fact) (t : Addr) : Prop where
  ex : ∃ v e : Addr, H t = some (.tup [.str f.x, .ref v, .ref e]) ∧ H v = some (.tup (sts f.vals)) ∧ H e = some (.tup [.str f.kind, .str f.en])
def FactsAt (H : Hp) (a : Addr) (fs : List Fact) : Prop := ∃ ts : List Addr, H a = some (.lst (ts.map V.ref)) ∧ Paired (FactAt H) fs ts
theorem FactAt.mono {H H' : Hp} {f : Fact} {t : Addr} (s : Same H H') (h : FactAt H f t) : FactAt H' f t := let ⟨v, e, h1, h2, h3⟩ := h.ex; ⟨v, e, s _ _ h1, s _ _ h2, s _ _ h3⟩
/-- the law's dict of a ground -/
structure IsG (H : Hp) (g : Addr) (d : GD) : Prop where
  ex : ∃ aL aF aC aT : Addr, H g = some (.dK [(.inr "letters", .ref aL), (.inr "fixed", .ref aF), (.inr "commuting", .ref aC), (.inr "facts", .ref aT)]) ∧ H aL = some (.dK (lkv d.letters)) ∧ H aF = some (.lst (sts d.fixed)) ∧
    H aC = some (.lst (sts d.comm)) ∧ FactsAt H aT d.facts
theorem FactsAt.mono {H H' : Hp} {fs : List Fact} {t : Addr} (s : Same H H') (h : FactsAt H t fs) : FactsAt H' t fs := let ⟨ts, h1, h2⟩ := h; ⟨ts, s _ _ h1, Paired.mapP h2 fun _ _ r => r.mono s⟩
theorem IsG.mono {H H' : Hp} {d : GD} {g : Addr} (s : Same H H') (h : IsG H g d) : IsG H' g d :=
  let ⟨aL, aF, aC, aT, h1, h2, h3, h4, h5⟩ := h.ex
  ⟨aL, aF, aC, aT, s _ _ h1, s _ _ h2, s _ _ h3, s _ _ h4, h5.mono s⟩
theorem valV_lkv : ∀ {ls : List (Str × Nat)} {x : Str} {k : Nat}, (ls.map (·.1)).Nodup → (x, k) ∈ ls → valV (lkv ls) (.inr x : Key) = some (.int k)
  | [], x, k, _, h => nomatch h
  | q :: r, x, k, nd, h => by
    have nd' := List.nodup_cons.mp nd
    rcases List.mem_cons.mp h with rfl | h
    · exact valV_pos rfl
    · have ne : ¬ ((Sum.inr q.1 : Key) = .inr x) := fun e => nd'.1 (by
        have e' : q.1 = x := Sum.inr.inj e
        show q.1 ∈ r.map (·.1)
        rw [e']
        exact List.mem_map.mpr ⟨(x, k), h, rfl⟩)
      show valV ((Sum.inr q.1, V.int q.2) :: lkv r) (.inr x : Key) = some (.int k)
      rw [valV_neg ne]
      exact valV_lkv nd'.2 h
theorem valV_no : ∀ {ls : List (Str × Nat)} {x : Str}, x ∉ ls.map (·.1) → valV (lkv ls) (.inr x : Key) = none
  | [], x, _ => rfl
  | q :: r, x, h => by
    have ne : ¬ ((Sum.inr q.1 : Key) = .inr x) := fun e => h (by
      have e' : q.1 = x := Sum.inr.inj e
      rw [← e']
      exact List.mem_cons_self)
    show valV ((Sum.inr q.1, V.int q.2) :: lkv r) (.inr x : Key) = none
    rw [valV_neg ne]
    exact valV_no fun m => h (List.mem_cons_of_mem _ m)
def unstr : V → Str
  | .str s => s
  | _ => ""
theorem sts_perm {ys : List V} {l : List Str} (h : ys.Perm (sts l)) : ∃ ns : List Str, ys = sts ns ∧ ns.Perm l := by
  refine ⟨ys.map unstr, ?_, ?_⟩
  · unfold sts
    rw [List.map_map]
    conv => lhs; rw [← List.map_id ys]
    refine List.map_congr_left fun v hv => ?_
    obtain ⟨s, _, rfl⟩ := List.mem_map.mp (h.subset hv)
    rfl
  · have := h.map unstr
    unfold sts at this
    rw [List.map_map] at this
    have e : l.map (unstr ∘ V.str) = l := by
      conv => rhs; rw [← List.map_id l]
      exact List.map_congr_left fun s _ => rfl
    rwa [e] at this
theorem sts_at {l : List Str} {i : Nat} {x : V} (h : (sts l)[i]? = some x) : ∃ s, l[i]? = some s ∧ x = .str s := by
  unfold sts at h
  rw [List.getElem?_map] at h
  cases e : l[i]? with
  | none => rw [e] at h; cases h
  | some s => rw [e] at h; exact ⟨s, rfl, (Option.some.inj h).symm⟩
theorem sts_len (l : List Str) : (sts l).length = l.length := List.length_map _
theorem mem_sts {v : V} {l : List Str} (h : v ∈ sts l) : ∃ s ∈ l, v = .str s := by
  obtain ⟨s, hs, rfl⟩ := List.mem_map.mp h
  exact ⟨s, hs, rfl⟩
end GB
set_option Elab.async false
set_option linter.all false
set_option maxRecDepth 100000
set_option maxHeartbeats 4000000
/-! Data of texts, lists and pairs as the comparisons read them. -/
namespace GB
open PySem PySem.Spec L2 PyProof.Rows
def pst (l : List Str) : List PyData := l.map PyData.str
theorem eqvAll_pst : ∀ a b : List Str, PyData.eqvAll (pst a) (pst b) = decide (a = b)
  | [], [] => by simp [pst, PyData.eqvAll]
  | [], _ :: _ => by simp [pst, PyData.eqvAll]
  | _ :: _, [] => by simp [pst, PyData.eqvAll]
  | x :: a, y :: b => by
    have ih := eqvAll_pst a b
    show (PyData.eqv (.str x) (.str y) && PyData.eqvAll (pst a) (pst b)) = _
    rw [ih, PyData.eqv]
    by_cases h : x = y
    · subst h
      by_cases h2 : a = b
      · subst h2; simp
      · rw [decide_eq_false h2, decide_eq_false fun e => h2 (List.cons.inj e).2, Bool.and_false]
    · rw [decide_eq_false fun e => h (List.cons.inj e).1, (beq_eq_false_iff_ne.mpr h : (x == y) = false), Bool.false_and]
def kd (a : Str × List Str) : PyData := .tuple [.str a.1, .list (pst a.2)]
theorem kd_eqv (a b : Str × List Str) : PyData.eqv (kd a) (kd b) = decide (a = b) := by
  obtain ⟨x, l⟩ := a
  obtain ⟨y, m⟩ := b
  show PyData.eqv (.tuple [.str x, .list (pst l)]) (.tuple [.str y, .list (pst m)]) = _
  simp only [PyData.eqv, PyData.eqvAll, Bool.and_true]
  rw [eqvAll_pst]
  by_cases h : x = y
  · subst h
    by_cases h2 : l = m
    · subst h2; simp
    · rw [decide_eq_false h2, decide_eq_false fun e => h2 (Prod.mk.inj e).2, Bool.and_false]
  · rw [decide_eq_false fun e => h (Prod.mk.inj e).1, (beq_eq_false_iff_ne.mpr h : (x == y) = false), Bool.false_and]
theorem lay_pst : ∀ {l : List Str}, (∀ v ∈ l, PyData.strOk v = true) → PyData.canLayAll0 (pst l) = true
  | [], _ => rfl
  | x :: r, h => by
    show (PyData.canLay0 (.str x) && PyData.canLayAll0 (pst r)) = true
    rw [lay_pst fun v hv => h v (List.mem_cons_of_mem _ hv), PyData.canLay0, h x List.mem_cons_self]
    rfl
theorem dep_pst : ∀ l : List Str, PyData.depthAll (pst l) = 0
  | [] => rfl
  | x :: r => by
    show max (PyData.depth (.str x)) (PyData.depthAll (pst r)) = 0
    rw [dep_pst r, PyData.depth]
    rfl
/-- texts that can be laid -/
def OkS (a : Str × List Str) : Prop := PyData.strOk a.1 = true ∧ ∀ v ∈ a.2, PyData.strOk v = true
theorem lay_kd {a : Str × List Str} (h : OkS a) : PyData.canLay0 (kd a) = true := by
  show PyData.canLay0 (.tuple [.str a.1, .list (pst a.2)]) = true
  simp only [PyData.canLay0, PyData.canLayAll0, Bool.and_true]
  rw [h.1, lay_pst h.2]
  rfl
theorem dep_kd (a : Str × List Str) : PyData.depth (kd a) = 2 := by
  show PyData.depth (.tuple [.str a.1, .list (pst a.2)]) = 2
  simp only [PyData.depth, PyData.depthAll]
  rw [dep_pst]
  rfl
theorem sh_kd {a : Str × List Str} (h : OkS a) : SeqAt.shaped (kd a) = true := by
  unfold SeqAt.shaped
  rw [lay_kd h, dep_kd]
  rfl
theorem lay_kds : ∀ {l : List (Str × List Str)}, (∀ a ∈ l, OkS a) → PyData.canLayAll0 (l.map kd) = true
  | [], _ => rfl
  | a :: r, h => by
    show (PyData.canLay0 (kd a) && PyData.canLayAll0 (r.map kd)) = true
    rw [lay_kd (h a List.mem_cons_self), lay_kds fun b hb => h b (List.mem_cons_of_mem _ hb)]
    rfl
theorem dep_kds : ∀ l : List (Str × List Str), PyData.depthAll (l.map kd) ≤ 2
  | [] => by decide
  | a :: r => by
    show max (PyData.depth (kd a)) (PyData.depthAll (r.map kd)) ≤ 2
    rw [dep_kd]
    have := dep_kds r
    omega
theorem sh_kds {l : List (Str × List Str)} (h : ∀ a ∈ l, OkS a) : SeqAt.shaped (.list (l.map kd)) = true := by
  unfold SeqAt.shaped
  have e : PyData.canLay0 (.list (l.map kd)) = true := by rw [PyData.canLay0]; exact lay_kds h
  have d : PyData.depth (.list (l.map kd)) ≤ 64 := by
    rw [PyData.depth]
    have := dep_kds l
    omega
  rw [e, decide_eq_true d]
  rfl
theorem sh_pst {l : List Str} (h : ∀ v ∈ l, PyData.strOk v = true) : SeqAt.shaped (.list (pst l)) = true := by
  unfold SeqAt.shaped
  have e : PyData.canLay0 (.list (pst l)) = true := by rw [PyData.canLay0]; exact lay_pst h
  rw [e, PyData.depth, dep_pst]
  rfl
theorem any_kd (l : List (Str × List Str)) (a : Str × List Str) : ((l.map kd).any fun z => PyData.eqv z (kd a)) = decide (a ∈ l) := by
  induction l with
  | nil => rfl
  | cons b r ih =>
    rw [List.map_cons, List.any_cons, ih, kd_eqv]
    by_cases h : b = a
    · subst h; simp
    · rw [decide_eq_false h, Bool.false_or]
      have : (a ∈ b :: r) = (a ∈ r) := propext ⟨fun m => (List.mem_cons.mp m).resolve_left fun e => h e.symm, List.mem_cons_of_mem _⟩
      simp only [this]
theorem ok8 : ∀ x ∈ nmA, PyData.strOk x = true := by decide +kernel
theorem ok3 : ∀ x ∈ va3, PyData.strOk x = true := by decide +kernel
theorem dp_sts {K : PySem.W.Frag} {H : Hp} : ∀ l : List Str, DpAll K H (sts l) (pst l)
  | [] => .nil
  | x :: r => .cons (.str x) (dp_sts r)
theorem ne_nil (l : List Str) : (!PyData.eqv (.list (pst l)) (.list [])) = decide (l ≠ []) := by
  cases l with
  | nil => simp [pst, PyData.eqv, PyData.eqvAll]
  | cons x r => simp [pst, PyData.eqv, PyData.eqvAll]
theorem inV_sts (x : Str) (l : List Str) : inV (.str x) (sts l) = decide (x ∈ l) := by
  unfold inV sts
  induction l with
  | nil => rfl
  | cons y r ih =>
    rw [List.map_cons, List.any_cons, ih]
    by_cases h : y = x
    · subst h
      simp [eqV]
    · have e : eqV (.str y) (.str x) = false := by
        simp [eqV, h]
      rw [e, Bool.false_or]
      have : (x ∈ y :: r) = (x ∈ r) := propext ⟨fun m => (List.mem_cons.mp m).resolve_left fun e => h e.symm, List.mem_cons_of_mem _⟩
      simp only [this]
theorem flat_sts (l : List Str) : (sts l).all flatV = true := by
  unfold sts
  rw [List.all_map]
  exact List.all_eq_true.mpr fun x _ => rfl
end GB
set_option Elab.async false
set_option linter.all false
set_option maxRecDepth 100000
set_option maxHeartbeats 4000000
namespace GB
open PySem PySem.Spec L2
theorem dpa_mono {K : PySem.W.Frag} {H H' : Hp} (s : Same H H') : (∀ (d : PyData) (v : V), Dp K H v d → Dp K H' v d) ∧ (∀ (ds : List PyData) (vs : List V), DpAll K H vs ds → DpAll K H' vs ds) := by
  have key : ∀ n, (∀ (d : PyData) (v : V), sizeOf d ≤ n → Dp K H v d → Dp K H' v d) ∧ (∀ (ds : List PyData) (vs : List V), sizeOf ds ≤ n → DpAll K H vs ds → DpAll K H' vs ds) := by
    intro n
    induction n with
    | zero =>
      refine ⟨fun d v hn => ?_, fun ds vs hn => ?_⟩
      · cases d <;> simp at hn
      · cases ds <;> simp at hn
    | succ n ih =>
      have hl : ∀ (ds : List PyData) (vs : List V), sizeOf ds ≤ n → DpAll K H vs ds → DpAll K H' vs ds := ih.2
      have h1 : ∀ (d : PyData) (v : V), sizeOf d ≤ n + 1 → Dp K H v d → Dp K H' v d := fun d v hn h => by
        cases h with
        | non => exact .non
        | bl b => exact .bl b
        | int i => exact .int i
        | str x => exact .str x
        | lst h1 h2 => exact .lst (s.seq h1) (hl _ _ (by simp at hn; omega) h2)
        | tup h1 h2 => exact .tup (Same.seqT s h1) (hl _ _ (by simp at hn; omega) h2)
      refine ⟨h1, fun ds vs hn h => ?_⟩
      cases h with
      | nil => exact .nil
      | cons a b => exact .cons (h1 _ _ (by simp at hn; omega) a) (hl _ _ (by simp at hn; omega) b)
  exact ⟨fun d v => (key (sizeOf d)).1 d v (Nat.le_refl _), fun ds vs => (key (sizeOf ds)).2 ds vs (Nat.le_refl _)⟩
theorem dp_mono {K : PySem.W.Frag} {H H' : Hp} {d : PyData} {v : V} (s : Same H H') (h : Dp K H v d) : Dp K H' v d := (dpa_mono s).1 d v h
theorem dps_mono {K : PySem.W.Frag} {H H' : Hp} {d : List PyData} {v : List V} (s : Same H H') (h : DpAll K H v d) : DpAll K H' v d := (dpa_mono s).2 d v h
theorem dps_app {K : PySem.W.Frag} {H : Hp} : ∀ {vs ws : List V} {ds es : List PyData}, DpAll K H vs ds → DpAll K H ws es → DpAll K H (vs ++ ws) (ds ++ es)
  | _, _, _, _, .nil, h => h
  | _, _, _, _, .cons a b, h => .cons a (dps_app b h)
end GB
set_option Elab.async false
set_option linter.all false
set_option maxRecDepth 100000
set_option maxHeartbeats 4000000
/-! enumerate over a tuple, or over a list or a tuple. -/
namespace GB
open PySem PySem.Spec L2 PyProof.Rows
open Sem (wp)
theorem meets_enum1 {v : Value} {o : Obj} {H : Heap → Prop} (B : Begins v o H) :
    Meets (Builtin.«enumerate.__new__» ⟨[.type "enumerate", v], []⟩) (fun _ R s => H s.heap ∧
      R (.ok (.ret (.ref (s.heap.push o).objs.size))) { s with heap := (s.heap.push o).push { cls := .type "enumerate", data := .fields #[.none, .bool false, .ref s.heap.objs.size, rawInt 0, .none, .none] } }) :=
  .of_wp fun prog w A R s h => by
    obtain ⟨hp, g, d, tk, os⟩ := s; obtain ⟨h1, h⟩ := h
    have hsub := sub_enumerate
    have q1 : ∀ {A' : Around} {E : Value → Shared → Prop} {Q : Value → Shared → Prop}, Q (.ref hp.objs.size) ⟨hp.push o, g, d, tk, os⟩ → wpAny (model prog w) A' (pyIter v) Q E ⟨hp, g, d, tk, os⟩ :=
      fun q => B.iter prog w _ _ ⟨hp, g, d, tk, os⟩ _ h1 q
    wp_walk using q1
    refine wpAny_stack_any fun st => wpAny_pure ?_
    split
    · rename_i c _ _ _ _ _
      cases (c == Value.type "enumerate")
      · wp_walk using q1
        exact ⟨_, rfl, h⟩
      · wp_walk using q1
        exact ⟨_, rfl, h⟩
    · wp_walk using q1
      exact ⟨_, rfl, h⟩
theorem call_enum1 {prog : Program} {w : World} {A : Around} {E : Value → Shared → Prop} {s : Shared} {v : Value} {o : Obj} {H : Heap → Prop} {Q : Value → Shared → Prop} (B : Begins v o H) (h1 : H s.heap)
    (h : ∀ h', IsEnum h' (s.heap.objs.size + 1) s.heap.objs.size 0 .none → h'.get? s.heap.objs.size = some o → h'.objs.size = s.heap.objs.size + 2 →
      (∀ b o, s.heap.get? b = some o → h'.get? b = some o) → Q (.ref (s.heap.objs.size + 1)) { s with heap := h' }) :
    wpAny (model prog w) A (call (.type "enumerate") [v]) Q E s := by
  refine callType_new F.called_enumerate (by decide) (F.typeCall_enumerate_1 _) (F.newCall_enumerate_1 _) (fun obj => F.args_object_init_2 obj _) F.entry_enumerate_new
    (meets_enum1 B) ⟨h1, ?_⟩
  have hz : (s.heap.push o).objs.size = s.heap.objs.size + 1 := Heap.size_push ..
  show _ ∧ _
  rw [hz]
  have he : IsEnum ((s.heap.push o).push { cls := .type "enumerate", data := .fields #[.none, .bool false, .ref s.heap.objs.size, rawInt 0, .none, .none] }) (s.heap.objs.size + 1) s.heap.objs.size 0 .none := by
    have := Heap.get?_push_size (s.heap.push o) (o := { cls := .type "enumerate", data := .fields #[.none, .bool false, .ref s.heap.objs.size, rawInt 0, .none, .none] }) rfl
    rw [hz] at this; exact this
  refine ⟨⟨_, he, rfl⟩, h _ he (Heap.get?_push_of_some _ (Heap.get?_push_size _ B.free)) (by rw [Heap.size_push, hz]) fun b o x => Heap.get?_push_of_some _ (Heap.get?_push_of_some _ x)⟩
/-- the tuple at a as it stands at each turn, each item in a new pair -/
def Itet (K : PySem.W.Frag) (a : Addr) : It :=
  ⟨fun i H => ∃ (xs : List V) (x : V), SqT K H a xs ∧ xs[i]? = some x, fun i H v H' => ∃ T x, v = .ref T ∧ H T = none ∧ H' = upd H T (.tup [.int (i : Nat), x]) ∧ ∀ xs, SqT K H a xs → xs[i]? = some x, fun i H => ∃ xs : List V, SqT K H a xs ∧ xs.length ≤ i⟩
theorem turn_enumT {P : Program} {w : World} {K : PySem.W.Frag} {elts : List Expr} {kk : Nat} {tpos : Pos} (a e it : Addr) (hia : a ≠ it) (hea : e ≠ a) :
    Turn P w K (.Tuple elts kk tpos) (Itet K a) [e, it] e (fun i h => (∃ old, IsEnum h e it ((i : Nat) : Int) old) ∧ h.IsTupleIter it a i ∧ e ≠ it) where
  mem := by simp
  obj := fun i h st b hb => by
    obtain ⟨⟨old, he⟩, ⟨o, ho, hc, hd⟩, _⟩ := st
    have e' : b = e ∨ b = it := by simpa using hb
    rcases e' with z | z
    · rw [z]; exact ⟨_, he, fun v q => nomatch q⟩
    · rw [z]; exact ⟨o, ho, fun v q => by rw [hd] at q; cases q⟩
  keep := fun i h h' st k => let ⟨⟨old, he⟩, hi, hne⟩ := st; ⟨⟨old, k e (by simp) _ he⟩, hi.at fun o q => k it (by simp) o q, hne⟩
  item := by
    intro X hP hw hK hc i pins s σ H E I hf st hg
    subst hP hw hK
    obtain ⟨⟨old, he⟩, hit, hne⟩ := st
    obtain ⟨xs, x, hq, hx⟩ := hg
    obtain ⟨its, rv, p, hz⟩ := I.tuple hq
    obtain ⟨u, hu, ru⟩ := rv.get hx
    have hel : e < s.heap.objs.size := Heap.lt_size he
    have hil : it < s.heap.objs.size := by obtain ⟨_, q, _⟩ := hit; exact Heap.lt_size q
    have hlt : i < its.length := (List.getElem?_eq_some_iff.mp hu).1
    refine wpAny_pyNext_enum_itemD (Draws.tuple (A := X.A.in1) (I.ok.hd hc) it a hia its.toArray) he ⟨hit, (show s.heap.IsTuple a its.toArray from p)⟩ (by simpa using hlt) hne (by simp [hne, hea]) fun x' h' tk hP' ho hst' hT hsz hk => ?_
    obtain rfl : x' = u := by
      have hP2 : its[i]? = some x' := by simpa using hP'
      rw [hu] at hP2
      exact (Option.some.inj hP2).symm
    refine ⟨_, rfl, wpAny_letOwnedTupleGo_enum (s := { s with heap := h', toks := tk + 1 }) ho fun h'' he' sb => ?_⟩
    have hT2 : h''.get? s.heap.objs.size = some { cls := .type "tuple", data := .seq #[.int i tk, x'] } := (sb.2 _ (Nat.ne_of_gt hel)).trans hT
    have new : ObjOk X.prog X.w (upd H s.heap.objs.size (.tup [.int (i : Nat), x])) h'' s.heap.objs.size (.tup [.int (i : Nat), x]) :=
      ⟨by show 2 ≤ sizeLine; decide, [.int i tk, x'], .cons ⟨_, rfl⟩ (.cons ru .nil), ⟨_, hT2, rfl, _, rfl⟩⟩
    have I1 : Inv X pins σ (upd H s.heap.objs.size (.tup [.int (i : Nat), x])) { s with heap := h'', toks := tk + 1 } :=
      I.turnedNew (ch := [e, it]) (fun b ob hb q => (sb.2 b (fun z => hb (by simp [z]))).trans (hk b ob (fun z => hb (by simp [z])) (fun z => hb (by simp [z])) q)) hf (Nat.le_refl _) new
    refine ⟨.ref s.heap.objs.size, _, I1, rfl, ⟨_, x, rfl, I.hok.fresh (Nat.le_refl _), rfl, fun ys hy => by rw [I.tuple_inj hy hq]; exact hx⟩, ⟨⟨x', ?_⟩, hst'.1.at fun o q => (sb.2 it (Ne.symm hne)).trans q, hne⟩, fun b hb => ?_⟩
    · have e1 : ((i + 1 : Nat) : Int) = (i : Int) + 1 := by omega
      rw [e1]; exact he'
    · have hb' : b < s.heap.objs.size := by
        have e' : b = e ∨ b = it := by simpa using hb
        rcases e' with z | z
        · rw [z]; exact hel
        · rw [z]; exact hil
      rw [upd_ne (Nat.ne_of_lt hb')]
      exact (hf b hb).1
  done := by
    intro X hP hw hK hc i pins s σ H E I hf st hg
    subst hP hw hK
    obtain ⟨⟨old, he⟩, hit, hne⟩ := st
    obtain ⟨xs, hq, hx⟩ := hg
    obtain ⟨its, rv, p, hz⟩ := I.tuple hq
    obtain ⟨f0, f1, f2, f3, f4, f5⟩ := hf it (by simp)
    have hl := rv.length
    have D : Draws X.prog X.w X.A.in1 it [it, a] i (fun _ _ => True) (fun j h => j = i ∧ h.IsTupleIter it a j ∧ h.IsTuple a its.toArray) :=
      { live := fun _ _ st => let ⟨o, ho, _⟩ := st.2.1; ⟨o, ho⟩
        frame := fun _ _ _ st hk => ⟨st.1, st.2.1.at fun o e => hk it (by simp) o e, st.2.2.at fun o e => hk a (by simp) o e⟩
        item := fun j s' Q E' hj st hQ => absurd st.1 (Nat.ne_of_lt hj)
        done := fun s' Q E' st hE => wpAny_nextOf_tuple_end (I.ok.hd hc) st.2.1 st.2.2 (by simp; omega) hE }
    exact wpAny_pyNext_enum_endD D he ⟨rfl, hit, (show s.heap.IsTuple a its.toArray from p)⟩ fun h' eb => ⟨rfl, I.turned (t' := s.toks) (fun b o hb q => eb b o hb q) f0 f1 f3 f4 f5⟩
  self := fun A i s Q E st h => let ⟨⟨_, he⟩, _⟩ := st; wpAny_pyIter_enum he h
section
variable {K : PySem.W.Frag} {a : Addr} {xs : List V}
theorem walk_enumT : Walk (Itet K a) xs.length (fun H => SqT K H a xs) (YPair (fun i => some (.int (i : Nat))) (fun i => xs[i]?)) where
  goes := fun i H hi h => ⟨xs, xs[i], h, List.getElem?_eq_getElem hi⟩
  stops := fun H h => ⟨xs, h, Nat.le_refl _⟩
  yields := fun i H x H' _ h ⟨T, y, e1, e2, e3, e4⟩ => ⟨T, _, y, e1, e2, e3, rfl, e4 xs h⟩
end
theorem rd_at {H H' : Hp} {a : Addr} {u : HO} (h : ∀ o, H a = some o → H' a = some o) (r : Rd H a u) : Rd H' a u := r.imp (fun e => h _ e) fun ⟨ob, e⟩ => ⟨ob, h _ e⟩
/-- a list (true) or a tuple -/
def SqV (K : PySem.W.Frag) (H : Hp) (a : Addr) (xs : List V) : Bool → Prop
  | true => SqL K H a xs
  | false => SqT K H a xs
theorem SqV.mono {K : PySem.W.Frag} {H H' : Hp} {a : Addr} {xs : List V} {b : Bool} (s : Same H H') (h : SqV K H a xs b) : SqV K H' a xs b := by
  cases b with
  | true => exact s.seq h
  | false => exact Same.seqT s h
/-- enumerate of a list or of a tuple, one way on -/
def iEnumW (K : PySem.W.Frag) (ta : TA) : TI := fun σ H R => ta σ H fun vs H1 => ∃ (a : Addr) (xs : List V) (b : Bool) (ps : List Addr), vs = [.ref a] ∧ SqV K (hid ps H1) a xs b ∧ ∀ (J : It), Walk J xs.length (fun H => SqV K (hid ps H) a xs b) (YPair (fun i => some (.int (i : Nat))) (fun i => xs[i]?)) → R J H1
theorem pi_enumW {X : Cx} {e : Expr} {ta : TA} {p pos tpos : Pos} {elts : List Expr} {kk : Nat} (hg : Gl X "enumerate") (hm : X.mg "enumerate" = none) (ha : PA X [e] ta) (hs : starEach [e] X.env = [(false, eval e X.env)] := by rfl) :
    PI X (.Tuple elts kk tpos) (.Call (.Name "enumerate" p) [e] [] pos) (iEnumW X.K ta) := by
  refine ⟨fun pins s σ H R I h => ?_⟩
  refine Call_ (ld_blt I hg hm boot_enumerate (PyProof.Rows.callWith_type1 (thn (ha.run pos pins s σ H _ I h) fun us s1 ⟨vs, H1, I1, r1, q1⟩ => ?_) hs rfl))
  obtain ⟨a, xs, kb, ps, ex, hh, q⟩ := q1
  subst ex
  cases r1 with
  | cons r rr =>
    cases rr
    cases r
    have cells : ∀ b ∈ [s1.heap.objs.size + 1, s1.heap.objs.size], s1.heap.objs.size ≤ b := fun b hb => by
      have e' : b = s1.heap.objs.size + 1 ∨ b = s1.heap.objs.size := by simpa using hb
      rcases e' with z | z
      · rw [z]; exact Nat.le_add_right _ _
      · rw [z]; exact Nat.le_refl _
    cases kb with
    | true =>
      have hq := (hid_low ps H1).seq (show SqL X.K (hid ps H1) a xs from hh)
      obtain ⟨its, rv, p', hz⟩ := I1.list hq
      refine call_enumerate_list p'.isList fun h' he hit hsz hk => wpAny_pyIter_enum he ?_
      have I2 : Inv X pins σ H1 { s1 with heap := h' } := I1.kept (t' := s1.toks) hk
      exact ⟨s1.heap.objs.size + 1, [s1.heap.objs.size + 1, s1.heap.objs.size], _, _, H1, rfl, I2, turn_enum a (s1.heap.objs.size + 1) s1.heap.objs.size, ⟨⟨.none, he⟩, hit, Nat.succ_ne_self _⟩, fun b hb => I1.fpOk (cells b hb) (I1.hok.fresh (cells b hb)), q _ (walk_enum.mono (fun H' h => (hid_low ps H').seq h) fun _ _ _ _ _ _ y => y)⟩
    | false =>
      have hq := Same.seqT (hid_low ps H1) (show SqT X.K (hid ps H1) a xs from hh)
      obtain ⟨its, rv, p', hz⟩ := I1.tuple hq
      have hT : s1.heap.IsTuple a its.toArray := p'
      have hal : a < s1.heap.objs.size := by obtain ⟨o, ho, _⟩ := hT; exact Heap.lt_size ho
      refine call_enum1 (begins_tuple a its.toArray) hT fun h' he hit hsz hk => wpAny_pyIter_enum he ?_
      have I2 : Inv X pins σ H1 { s1 with heap := h' } := I1.kept (t' := s1.toks) hk
      exact ⟨s1.heap.objs.size + 1, [s1.heap.objs.size + 1, s1.heap.objs.size], _, _, H1, rfl, I2, turn_enumT a (s1.heap.objs.size + 1) s1.heap.objs.size (Nat.ne_of_lt hal) (Nat.ne_of_gt (Nat.lt_succ_of_lt hal)), ⟨⟨.none, he⟩, ⟨_, hit, rfl, rfl⟩, Nat.succ_ne_self _⟩, fun b hb => I1.fpOk (cells b hb) (I1.hok.fresh (cells b hb)), q _ (walk_enumT.mono (fun H' h => Same.seqT (hid_low ps H') h) fun _ _ _ _ _ _ y => y)⟩
end GB
set_option Elab.async false
set_option linter.all false
set_option maxRecDepth 100000
set_option maxHeartbeats 4000000
/-! Terms: a head word, a name, the terms within; their data, and what of them a ground asks. -/
namespace GB
open PySem PySem.Spec L2
inductive Tm where
  | mk (w n : Str) (ks : List Tm)
/-- the names that binds of drawn terms bind -/
def bnd : List Str := ["v", "w", "x", "if"]
def opsW : List (Str × Nat) := [("if", 3), ("and", 2), ("or", 2), ("not", 1), ("then", 2), ("try", 2), ("last", 2)]
/-- a text of one to eight letters a to z, by the package's own look -/
def signB (c : Nat) : Bool := !decide ([c] < [97]) && !decide ([122] < [c])
def nameB (s : Str) : Bool := decide (1 ≤ s.length ∧ s.length ≤ 8) && s.cps.toList.all signB
inductive HeadOk (L : List (Str × Nat)) (ns : List Str) : Str → Str → Nat → Prop
  | val {n} : nameB n = true → HeadOk L ns "value" n 0
  | fail {n} : nameB n = true → HeadOk L ns "fail" n 0
  | name {n} : nameB n = true → n ∈ ns → HeadOk L ns "name" n 0
  | use {n m} : (n, m) ∈ L → HeadOk L ns "use" n m
  | bind {n} : nameB n = true → n ∈ bnd → HeadOk L ns "bind" n 2
  | op {w m} : (w, m) ∈ opsW → HeadOk L ns w "" m
/-- the names that are bound at a place within -/
def nsAt (w n : Str) (i : Nat) (ns : List Str) : List Str := if w = "bind" ∧ i = 1 then ns ++ [n] else ns
inductive TmOk (L : List (Str × Nat)) : List Str → Tm → Prop
  | mk {ns : List Str} {w n : Str} {ks : List Tm} : HeadOk L ns w n ks.length → (∀ (i : Nat) (k : Tm), ks[i]? = some k → TmOk L (nsAt w n i ns) k) → TmOk L ns (.mk w n ks)
def Seq (d : PyData) (ds : List PyData) : Prop := d = .list ds ∨ d = .tuple ds
/-- the data of a node of this head, over the data of the terms within -/
inductive NodeD : PyData → Str → Str → List PyData → Prop
  | val {d n} : Seq d [.str "value", .str n] → NodeD d "value" n []
  | fail {d n} : Seq d [.str "fail", .str n] → NodeD d "fail" n []
  | name {d n} : Seq d [.str "name", .str n] → NodeD d "name" n []
  | use {d e n ds} : Seq d [.str "use", .str n, e] → Seq e ds → NodeD d "use" n ds
  | bind {d n ds} : Seq d (.str "bind" :: .str n :: ds) → NodeD d "bind" n ds
  | op {d w m ds} : (w, m) ∈ opsW → Seq d (.str w :: ds) → NodeD d w "" ds
/-- data that are the term, of lists and tuples -/
inductive IsTm : PyData → Tm → Prop
  | mk {d : PyData} {w n : Str} {ds : List PyData} {ks : List Tm} : NodeD d w n ds → ds.length = ks.length → (∀ (i : Nat) (e : PyData) (k : Tm), ds[i]? = some e → ks[i]? = some k → IsTm e k) → IsTm d (.mk w n ks)
mutual
/-- the term's data, of tuples throughout -/
def Tm.d : Tm → PyData
  | .mk w n ks => if w = "use" then .tuple [.str w, .str n, .tuple (Tm.ds ks)] else if w = "bind" then .tuple (.str w :: .str n :: Tm.ds ks) else if w ∈ opsW.map (·.1) then .tuple (.str w :: Tm.ds ks) else .tuple [.str w, .str n]
def Tm.ds : List Tm → List PyData
  | [] => []
  | k :: ks => k.d :: Tm.ds ks
end
theorem ds_map : ∀ ks : List Tm, Tm.ds ks = ks.map Tm.d
  | [] => rfl
  | k :: r => by rw [Tm.ds, List.map_cons, ds_map r]
mutual
def Tm.size : Tm → Nat
  | .mk _ _ ks => Tm.sizes ks + 1
def Tm.sizes : List Tm → Nat
  | [] => 0
  | k :: r => k.size + Tm.sizes r
end
theorem sizes_mem : ∀ {ks : List Tm} {k : Tm}, k ∈ ks → k.size ≤ Tm.sizes ks
  | a :: r, k, h => by
    rw [Tm.sizes]
    rcases List.mem_cons.mp h with rfl | h
    · omega
    · have := sizes_mem h; omega
theorem size_pos (t : Tm) : 0 < t.size := by
  cases t; rw [Tm.size]; omega
theorem size_at {w n : Str} {ks : List Tm} {i : Nat} {k : Tm} (h : ks[i]? = some k) : k.size < (Tm.mk w n ks).size := by
  have := sizes_mem (List.mem_of_getElem? h)
  rw [Tm.size]; omega
/-- a node's own data are of the node -/
theorem nodeD_own {L : List (Str × Nat)} {ns : List Str} {w n : Str} {ks : List Tm} (h : HeadOk L ns w n ks.length) : NodeD (Tm.mk w n ks).d w n (ks.map Tm.d) := by
  rw [Tm.d, ds_map]
  have nil : ks.length = 0 → ks.map Tm.d = [] := fun e => by rw [List.eq_nil_of_length_eq_zero e]; rfl
  revert h nil
  generalize hm : ks.length = m
  intro h nil
  cases h with
  | val hn => rw [nil rfl]; exact .val (.inr (by simp +decide))
  | fail hn => rw [nil rfl]; exact .fail (.inr (by simp +decide))
  | name hn _ => rw [nil rfl]; exact .name (.inr (by simp +decide))
  | use hx => exact .use (.inr (by rw [if_pos rfl])) (.inr rfl)
  | bind hn _ => exact .bind (.inr (by simp +decide))
  | op ho =>
    refine .op ho (.inr ?_)
    have h1 : w ≠ "use" := fun e => by subst e; revert ho; simp +decide [opsW]
    have h2 : w ≠ "bind" := fun e => by subst e; revert ho; simp +decide [opsW]
    rw [if_neg h1, if_neg h2, if_pos (List.mem_map.mpr ⟨_, ho, rfl⟩)]
theorem isTm_own {L : List (Str × Nat)} {t : Tm} {ns : List Str} (h : TmOk L ns t) : IsTm t.d t := by
  induction h with
  | mk ho hk ih =>
    refine .mk (nodeD_own ho) (List.length_map _) fun i e k he hk' => ?_
    rw [List.getElem?_map, hk'] at he
    obtain rfl := Option.some.inj he
    exact ih i k hk'
/-! what stands in the heap -/
section
variable {K : PySem.W.Frag} {H : Hp}
def SqA (K : PySem.W.Frag) (H : Hp) (a : Addr) (xs : List V) : Prop := SqL K H a xs ∨ SqT K H a xs
theorem SqA.mono {H H' : Hp} (s : Same H H') {a : Addr} {xs : List V} (h : SqA K H a xs) : SqA K H' a xs := h.imp (fun h => s.seq h) (fun h => Same.seqT s h)
theorem dp_seq {v : V} {d : PyData} {ds : List PyData} (h : Dp K H v d) (e : Seq d ds) : ∃ p xs, v = .ref p ∧ SqA K H p xs ∧ DpAll K H xs ds := by
  rcases e with rfl | rfl
  · cases h with | lst h1 h2 => exact ⟨_, _, rfl, .inl h1, h2⟩
  · cases h with | tup h1 h2 => exact ⟨_, _, rfl, .inr h1, h2⟩
theorem dps_len : ∀ {xs : List V} {ds : List PyData}, DpAll K H xs ds → xs.length = ds.length
  | _, _, .nil => rfl
  | _, _, .cons _ h => by rw [List.length_cons, List.length_cons, dps_len h]
theorem dps_at : ∀ {xs : List V} {ds : List PyData} {i : Nat} {x : V}, DpAll K H xs ds → xs[i]? = some x → ∃ d, ds[i]? = some d ∧ Dp K H x d
  | _, _, 0, _, .cons h _, e => ⟨_, rfl, Option.some.inj e ▸ h⟩
  | _, _, i + 1, _, .cons _ h, e => dps_at (i := i) h e
theorem dps_str {xs : List V} {s : Str} {ds : List PyData} (h : DpAll K H xs (.str s :: ds)) : ∃ ys, xs = .str s :: ys ∧ DpAll K H ys ds := by
  cases h with
  | cons h1 h2 => cases h1; exact ⟨_, rfl, h2⟩
/-- what a node's value holds -/
inductive NodeV (K : PySem.W.Frag) (H : Hp) : Addr → Str → Str → List V → Prop
  | val {p n} : SqA K H p [.str "value", .str n] → NodeV K H p "value" n []
  | fail {p n} : SqA K H p [.str "fail", .str n] → NodeV K H p "fail" n []
  | name {p n} : SqA K H p [.str "name", .str n] → NodeV K H p "name" n []
  | use {p q n vs} : SqA K H p [.str "use", .str n, .ref q] → SqA K H q vs → NodeV K H p "use" n vs
  | bind {p n vs} : SqA K H p (.str "bind" :: .str n :: vs) → NodeV K H p "bind" n vs
  | op {p w m vs} : (w, m) ∈ opsW → SqA K H p (.str w :: vs) → NodeV K H p w "" vs
theorem nodeV {v : V} {d : PyData} {w n : Str} {ds : List PyData} (h : Dp K H v d) (e : NodeD d w n ds) : ∃ p vs, v = .ref p ∧ NodeV K H p w n vs ∧ DpAll K H vs ds := by
  cases e with
  | val e => obtain ⟨p, xs, rfl, hs, hd⟩ := dp_seq h e; obtain ⟨_, e1, hd1⟩ := dps_str hd; obtain ⟨_, e2, hd2⟩ := dps_str hd1; cases hd2; subst e2 e1; exact ⟨p, _, rfl, .val hs, .nil⟩
  | fail e => obtain ⟨p, xs, rfl, hs, hd⟩ := dp_seq h e; obtain ⟨_, e1, hd1⟩ := dps_str hd; obtain ⟨_, e2, hd2⟩ := dps_str hd1; cases hd2; subst e2 e1; exact ⟨p, _, rfl, .fail hs, .nil⟩
  | name e => obtain ⟨p, xs, rfl, hs, hd⟩ := dp_seq h e; obtain ⟨_, e1, hd1⟩ := dps_str hd; obtain ⟨_, e2, hd2⟩ := dps_str hd1; cases hd2; subst e2 e1; exact ⟨p, _, rfl, .name hs, .nil⟩
  | use e e2 =>
    obtain ⟨p, xs, rfl, hs, hd⟩ := dp_seq h e; obtain ⟨_, e1, hd1⟩ := dps_str hd; obtain ⟨_, e3, hd2⟩ := dps_str hd1
    subst e3 e1
    cases hd2 with
    | cons h1 h2 =>
      cases h2
      obtain ⟨q, vs, rfl, hq, hd⟩ := dp_seq h1 e2
      exact ⟨p, vs, rfl, .use hs hq, hd⟩
  | bind e => obtain ⟨p, xs, rfl, hs, hd⟩ := dp_seq h e; obtain ⟨_, e1, hd1⟩ := dps_str hd; obtain ⟨_, e2, hd2⟩ := dps_str hd1; subst e2 e1; exact ⟨p, _, rfl, .bind hs, hd2⟩
  | op ho e => obtain ⟨p, xs, rfl, hs, hd⟩ := dp_seq h e; obtain ⟨_, e1, hd1⟩ := dps_str hd; subst e1; exact ⟨p, _, rfl, .op ho hs, hd1⟩
theorem NodeV.mono {H H' : Hp} (s : Same H H') {p : Addr} {w n : Str} {vs : List V} (h : NodeV K H p w n vs) : NodeV K H' p w n vs := by
  cases h with
  | val h => exact .val (h.mono s)
  | fail h => exact .fail (h.mono s)
  | name h => exact .name (h.mono s)
  | use h h2 => exact .use (h.mono s) (h2.mono s)
  | bind h => exact .bind (h.mono s)
  | op ho h => exact .op ho (h.mono s)
end
end GB
set_option Elab.async false
set_option linter.all false
set_option maxRecDepth 100000
set_option maxHeartbeats 4000000
/-! A name by the words of texts. -/
namespace GB
open PySem PySem.Spec L2 PyProof.Rows
theorem asc : ∀ c < 128, (Unicode.isAlpha c && !(Unicode.isUpper c || Unicode.isTitle c)) = signB c ∧ (signB c = true → Unicode.isLower c = true) := by decide +kernel
theorem sign_lt {c : Nat} (h : signB c = true) : c < 128 := by
  unfold signB at h
  simp only [Bool.and_eq_true, Bool.not_eq_true', decide_eq_false_iff_not] at h
  have h2 := h.2
  simp only [List.cons_lt_cons_iff] at h2
  omega
theorem nameB_words (s : Str) : nameB s = (decide (1 ≤ s.length ∧ s.length ≤ 8) && (Txt.isascii s && (Txt.isalpha s && Txt.islower s))) := by
  unfold nameB Txt.isascii Txt.isalpha Txt.islower
  by_cases h : 1 ≤ s.length ∧ s.length ≤ 8
  · rw [decide_eq_true h, Bool.true_and, Bool.true_and]
    have hn : decide (s.length > 0) = true := decide_eq_true (by omega)
    rw [hn, Bool.true_and]
    apply Bool.eq_iff_iff.mpr
    simp only [Bool.and_eq_true, Array.all_eq_true', Array.any_eq_true', List.all_eq_true, Bool.not_eq_true', decide_eq_true_eq, Array.mem_toList_iff, Array.any_eq_false', Bool.or_eq_true, not_or]
    constructor
    · intro ha
      refine ⟨fun c hc => sign_lt (ha c hc), fun c hc => ?_, ?_, fun c hc => ?_⟩
      · have := (asc c (sign_lt (ha c hc))).1
        rw [ha c hc] at this
        exact (Bool.and_eq_true_iff.mp this).1
      · have hs : 0 < s.cps.size := h.1
        refine ⟨s.cps[0], Array.getElem_mem hs, ?_⟩
        exact (asc _ (sign_lt (ha _ (Array.getElem_mem hs)))).2 (ha _ (Array.getElem_mem hs))
      · have := (asc c (sign_lt (ha c hc))).1
        rw [ha c hc] at this
        have := (Bool.and_eq_true_iff.mp this).2
        simpa using this
    · rintro ⟨h1, h2, _, h3⟩ c hc
      rw [← (asc c (h1 c hc)).1, h2 c hc]
      have := h3 c hc
      simp [this.1, this.2]
  · rw [decide_eq_false h, Bool.false_and, Bool.false_and]
end GB
set_option Elab.async false
set_option linter.all false
set_option maxRecDepth 100000
set_option maxHeartbeats 4000000
/-! x in o, x not in o: o of a class with its own def __contains__ that gives True or False. -/
namespace GB
open PySem PySem.Spec L2 PyProof.Rows
def rInOwn (C : Addr) (sp : Sp) (n : Bool) : R2 := fun x y H Q => ∃ a dx fs, y = .ref a ∧ H a = some (.ins C dx fs) ∧ sp [y, x] H (fun z H' => ∃ b, z = .bl b ∧ Q (.bl (n != b)) H') E0
section
variable {X : Cx} {CX : CXT} {k : Nat} {f C : Addr} {fd : FuncData} {ps : List Str} {sp : Sp}
theorem op_inOwn (hs : PySem.W.findIn X.K (.ref C) "__contains__" = some (some (.ref f))) (hf : PySem.W.isFn X.K (.ref f) = true) (F : FnOk X.prog X.w X.K X.mg X.base CX0 k f fd ps sp) (hr : Room k X.A) (hb : Binds X.K fd ps []) : OpR X (compareOp .In) (rInOwn C sp false) := by
  intro pins s σ H x y v u Q I rx ry h
  obtain ⟨a, dx, fs, rfl, ha, q⟩ := h
  cases (show u = Value.ref a from ry)
  obtain ⟨mA, O, _, _, _, _⟩ := ins_get I.hok ha
  obtain ⟨od, J, _⟩ := O.look
  obtain ⟨m, hF⟩ := I.fr
  refine PySem.W.in_K hF I.ok.mod.kin J hs hf ?_
  refine wpAny_mono (run_fn (us := [.ref a, v]) (vs := [.ref a, x]) F hr hb .nil pass0 I (.cons rfl (.cons rx .nil)) q) (fun w s' z => ?_) fun _ _ x => x
  obtain ⟨z', H', I', rz, b, eb, qz⟩ := z
  subst eb
  cases (show w = Value.bool b from rz)
  exact wpAny_truthy_bool ⟨.bl b, H', I', rfl, by simpa using qz⟩
theorem op_ninOwn (hs : PySem.W.findIn X.K (.ref C) "__contains__" = some (some (.ref f))) (hf : PySem.W.isFn X.K (.ref f) = true) (F : FnOk X.prog X.w X.K X.mg X.base CX0 k f fd ps sp) (hr : Room k X.A) (hb : Binds X.K fd ps []) : OpR X (compareOp .NotIn) (rInOwn C sp true) := by
  intro pins s σ H x y v u Q I rx ry h
  obtain ⟨a, dx, fs, rfl, ha, q⟩ := h
  cases (show u = Value.ref a from ry)
  obtain ⟨mA, O, _, _, _, _⟩ := ins_get I.hok ha
  obtain ⟨od, J, _⟩ := O.look
  obtain ⟨m, hF⟩ := I.fr
  refine PySem.W.notIn_K hF I.ok.mod.kin J hs hf ?_
  refine wpAny_mono (run_fn (us := [.ref a, v]) (vs := [.ref a, x]) F hr hb .nil pass0 I (.cons rfl (.cons rx .nil)) q) (fun w s' z => ?_) fun _ _ x => x
  obtain ⟨z', H', I', rz, b, eb, qz⟩ := z
  subst eb
  cases (show w = Value.bool b from rz)
  exact wpAny_truthy_bool ⟨.bl (!b), H', I', rfl, by simpa using qz⟩
end
end GB
set_option Elab.async false
set_option linter.all false
set_option maxRecDepth 100000
set_option maxHeartbeats 8000000
namespace K27
open PySem PySem.Spec L2 GB
abbrev sIsL : Stmt := topS 10
abbrev sIsN : Stmt := topS 11
abbrev sIsNm : Stmt := topS 12
def spIsL (K : PySem.W.Frag) : Sp := fun vs H Q _ => ∃ x t b, vs = [x] ∧ (∀ H', Same H H' → TyX K H' x t) ∧ PySem.W.kitAny K t [.type "list", .type "tuple"] = some b ∧ ∀ H', Same H H' → Q (.bl b) H'
def spIsN (K : PySem.W.Frag) : Sp := fun vs H Q _ => ∃ x t b1 b2, vs = [x] ∧ TyX K H x t ∧ PySem.W.kitOne K t (.type "int") = some b1 ∧ PySem.W.kitOne K t (.type "bool") = some b2 ∧ Q (.bl (b1 && !b2)) H
def spIsNm (K : PySem.W.Frag) : Sp := fun vs H Q _ => ∃ x, vs = [x] ∧ ((∃ s : Str, x = .str s ∧ s.length ≤ sizeLine ∧ ∀ H', Same H H' → Q (.bl (nameB s)) H') ∨ (∃ t, TyX K H x t ∧ PySem.W.kitOne K t (.type "str") = some false ∧ Q (.bl false) H))
section
variable {P : Program} {w : World} {K : PySem.W.Frag} {mg : Str → Option Value} {base : Heap}
theorem scIsL : FnScope ["thing"] ["thing"] (defScope sIsL) := ⟨rfl, rfl, rfl, by decide +kernel, rfl, by decide +kernel, by decide +kernel⟩
theorem scIsN : FnScope ["thing"] ["thing"] (defScope sIsN) := ⟨rfl, rfl, rfl, by decide +kernel, rfl, by decide +kernel, by decide +kernel⟩
theorem scIsNm : FnScope ["thing"] ["thing"] (defScope sIsNm) := ⟨rfl, rfl, rfl, by decide +kernel, rfl, by decide +kernel, by decide +kernel⟩
theorem ok_isL {f : Addr} {fd : FuncData} (F : Fun K "is_list" "is_list" sIsL f fd) (T : Bl mg) : FnOk P w K mg base CX0 1 f fd ["thing"] (spIsL K) := by
  refine F.ok scIsL (fun vs H Q E h => ?_) (fun cdv A outer s H vs Q E hr h => ?_)
  · obtain ⟨x, t, b, rfl, _⟩ := h
    rfl
  · obtain ⟨x, t, b, rfl, ht, hb, q⟩ := h
    refine ⟨_, pss_one (ps_ret (pe_callB call_isiT (by rfl) T.isi (by decide +kernel) (pa_cons (pv 0) (pa_cons (pe_tup (pa_cons (pe_bltn (v := .ty "list") (by rfl) T.list (by decide +kernel) rfl) (pa_cons (pe_bltn (v := .ty "tuple") (by rfl) T.tuple (by decide +kernel) rfl) (pa_nil)))) (pa_nil))))), ?_⟩
    refine ⟨_, rfl, by show 2 ≤ sizeLine; decide, fun p np => ?_⟩
    obtain ⟨H1, s1, h1, e1⟩ := lay (o := .tup [.ty "list", .ty "tuple"]) np
    rw [e1]
    exact ⟨x, p, _, t, _, b, rfl, h1, .cons (.ty "list") (.cons (.ty "tuple") .nil), ht _ s1, hb, q _ s1⟩
theorem ok_isN {f : Addr} {fd : FuncData} (F : Fun K "is_number" "is_number" sIsN f fd) (T : Bl mg) : FnOk P w K mg base CX0 1 f fd ["thing"] (spIsN K) := by
  refine F.ok scIsN (fun vs H Q E h => ?_) (fun cdv A outer s H vs Q E hr h => ?_)
  · obtain ⟨x, t, b1, b2, rfl, _⟩ := h
    rfl
  · obtain ⟨x, t, b1, b2, rfl, ht, h1, h2, q⟩ := h
    refine ⟨_, pss_one (ps_ret (pe_and (pe_callB call_isi (by rfl) T.isi (by decide +kernel) (pa_cons (pv 0) (pa_cons (pe_bltn (v := .ty "int") (by rfl) T.int (by decide +kernel) rfl) (pa_nil)))) (pe_one (pe_not (pe_callB call_isi (by rfl) T.isi (by decide +kernel) (pa_cons (pv 0) (pa_cons (pe_bltn (v := .ty "bool") (by rfl) T.bool (by decide +kernel) rfl) (pa_nil)))))))), ?_⟩
    refine ⟨_, rfl, x, .ty "int", t, .type "int", b1, rfl, .ty "int", ht, h1, b1, rfl, ?_⟩
    cases b1 with
    | true => exact ⟨_, rfl, x, .ty "bool", t, .type "bool", b2, rfl, .ty "bool", ht, h2, b2, rfl, q⟩
    | false => exact q
theorem ok_isNm {f : Addr} {fd : FuncData} (F : Fun K "is_name" "is_name" sIsNm f fd) (T : Bl mg) (M : ∃ u, mg "MOST_SIGNS" = some u ∧ RelV (.int 8) u) : FnOk P w K mg base CX0 1 f fd ["thing"] (spIsNm K) := by
  obtain ⟨uM, gM, rM⟩ := M
  refine F.ok scIsNm (fun vs H Q E h => ?_) (fun cdv A outer s H vs Q E hr h => ?_)
  · obtain ⟨x, rfl, _⟩ := h
    rfl
  · obtain ⟨x, rfl, h⟩ := h
    refine ⟨_, pss_one (ps_ret (pe_and (pe_callB call_isi (by rfl) T.isi (by decide +kernel) (pa_cons (pv 0) (pa_cons (pe_bltn (v := .ty "str") (by rfl) T.str (by decide +kernel) rfl) (pa_nil)))) (pe_and (pe_chain op_le op_le (pe_int) (pe_callB call_len_str (by rfl) T.len PySem.boot_len (pa_cons (pv 0) (pa_nil))) (pe_glob rfl gM rM)) (pe_and (pe_bm0 PySem.F.plainAttrs_str PySem.F.slot_str_isascii PySem.F.type_str_isascii mt_isascii (pv 0)) (pe_and (pe_bm0 PySem.F.plainAttrs_str PySem.F.slot_str_isalpha PySem.F.type_str_isalpha mt_isalpha (pv 0)) (pe_one (pe_bm0 PySem.F.plainAttrs_str PySem.F.slot_str_islower PySem.F.type_str_islower mt_islower (pv 0)))))))), ?_⟩
    rcases h with ⟨z, rfl, hz, q⟩ | ⟨t, ht, hk, q⟩
    · have q := q H (Same.refl _)
      rw [nameB_words] at q
      refine ⟨_, rfl, .str z, .ty "str", .type "str", .type "str", true, rfl, .ty "str", .base (.str z), kit_ty (by decide +kernel), true, rfl, ?_⟩
      refine iteT ?_
      refine ⟨_, rfl, _, rfl, hz, _, _, rfl, rfl, _, rfl, ?_⟩
      by_cases c1 : (1 : Int) ≤ (z.length : Int)
      · rw [decide_eq_true c1]
        refine iteT ?_
        refine ⟨_, _, rfl, rfl, _, rfl, ?_⟩
        by_cases c2 : (z.length : Int) ≤ 8
        · rw [decide_eq_true c2]
          refine iteT ?_
          rw [decide_eq_true ⟨by omega, by omega⟩, Bool.true_and] at q
          refine ⟨_, rfl, rfl, _, rfl, rfl, trivial, _, rfl, ?_⟩
          cases ha : Txt.isascii z with
          | false => rw [ha] at q; exact iteF q
          | true =>
            rw [ha, Bool.true_and] at q
            refine iteT ?_
            refine ⟨_, rfl, rfl, _, rfl, rfl, trivial, _, rfl, ?_⟩
            cases hb : Txt.isalpha z with
            | false => rw [hb] at q; exact iteF q
            | true =>
              rw [hb, Bool.true_and] at q
              refine iteT ?_
              exact ⟨_, rfl, rfl, _, rfl, rfl, trivial, q⟩
        · rw [decide_eq_false c2]
          refine iteF ?_
          rw [decide_eq_false (fun h => c2 (by omega)), Bool.false_and] at q
          exact q
      · rw [decide_eq_false c1]
        refine iteF ?_
        refine ⟨_, rfl, ?_⟩
        rw [decide_eq_false (fun h => c1 (by omega)), Bool.false_and] at q
        exact iteF q
    · refine ⟨_, rfl, x, .ty "str", t, .type "str", false, rfl, .ty "str", ht, hk, false, rfl, ?_⟩
      exact iteF q
end
end K27
set_option Elab.async false
set_option linter.all false
set_option maxRecDepth 100000
set_option maxHeartbeats 4000000
/-! Readings for nodes that are lists or tuples. -/
namespace GB
open PySem PySem.Spec L2
def nmd : List Str := ["value", "name", "fail"]
section
variable {K : PySem.W.Frag} {H : Hp} {Q : VK} {p : Addr} {xs : List V} {w n : Str} {vs : List V}
theorem ixA (h : SqA K H p xs) {v : V} (i : Nat) (e : xs[i]? = some v) (q : Q v H) : rIx K (.ref p) (.int (i : Int)) H Q := by
  rcases h with h | h
  · exact .inl ⟨p, xs, _, v, rfl, rfl, h, atI_nat e, q⟩
  · exact .inr (.inl ⟨p, xs, _, v, rfl, rfl, h, atI_nat e, q⟩)
/-- xs[k:] of a list or a tuple -/
def rSlAny (K : PySem.W.Frag) : V → Option Int → Option Int → Hp → VK → Prop := fun x lo hi H Q => rSlL K x lo hi H Q ∨ rSlA K x lo hi H Q
theorem sl_any {X : Cx} : SlR X (rSlAny X.K) := by
  intro pins s σ H x v vl vu lo hi sl Q I rx hs pl pu h
  rcases h with h | h
  · exact sl_list pins s σ H x v vl vu lo hi sl Q I rx hs pl pu h
  · exact sl_tupA pins s σ H x v vl vu lo hi sl Q I rx hs pl pu h
theorem slA (h : SqA K H p xs) (k : Nat) (q : ∀ b H', Same H H' → SqA K H' b (xs.drop k) → Q (.ref b) H') : rSlAny K (.ref p) (some (k : Int)) none H Q := by
  rcases h with h | h
  · refine .inl ⟨p, xs, rfl, h, fun a na => ?_⟩
    obtain ⟨H1, s1, h1, e1⟩ := lay (o := .lst (cutV xs (some (k : Int)) none)) na
    rw [e1]
    exact q a H1 s1 (by rw [← cut_from]; exact .inl (SqL.of h1))
  · refine .inr ⟨p, xs, rfl, h, fun hw => ?_, fun _ a na => ?_⟩
    · have h0 := hw.1
      rw [HT.sIx_nat] at h0
      have e : xs.drop k = xs := by
        by_cases hk : k = 0
        · rw [hk, List.drop_zero]
        · have : xs.length = 0 := by omega
          rw [List.eq_nil_of_length_eq_zero this, List.drop_nil]
      exact q p H (Same.refl _) (by rw [e]; exact .inr h)
    · obtain ⟨H1, s1, h1, e1⟩ := lay (o := .tup (cutV xs (some (k : Int)) none)) na
      rw [e1]
      exact q a H1 s1 (by rw [← cut_from]; exact .inr (SqT.of h1))
theorem same_hid0 {H : Hp} : Same H (hid [] H) := fun b o e => hid_to (by simp) e
theorem same_hid_new {H H' : Hp} {L : Addr} (n : H L = none) (s : Same H H') : Same H (hid [L] H') := fun b o e => hid_to (by
  intro m
  rw [List.mem_singleton.mp m, n] at e
  cases e) (s _ _ e)
theorem sqV {H : Hp} {a : Addr} {xs : List V} (h : SqA K H a xs) : ∃ b, SqV K H a xs b := h.elim (fun h => ⟨true, h⟩) (fun h => ⟨false, h⟩)
/-- of new objects, with some places hidden -/
theorem slH {ps : List Addr} (hp : ∀ q ∈ ps, ∃ o, H q = some o) (h : SqA K (hid ps H) p xs) (k : Nat) (q : ∀ b H', Same H H' → SqA K (hid ps H') b (xs.drop k) → Q (.ref b) H') : rSlAny K (.ref p) (some (k : Int)) none H Q := by
  have ni : ∀ {a : Addr}, H a = none → a ∉ ps := fun n m => by
    obtain ⟨o, e⟩ := hp _ m
    rw [n] at e
    cases e
  rcases h with h | h
  · refine .inl ⟨p, xs, rfl, (hid_low ps H).seq h, fun a na => ?_⟩
    obtain ⟨H1, s1, h1, e1⟩ := lay (o := .lst (cutV xs (some (k : Int)) none)) na
    rw [e1]
    exact q a H1 s1 (by rw [← cut_from]; exact .inl (SqL.of (hid_to (ni na) h1)))
  · refine .inr ⟨p, xs, rfl, Same.seqT (hid_low ps H) h, fun hw => ?_, fun _ a na => ?_⟩
    · have h0 := hw.1
      rw [HT.sIx_nat] at h0
      have e : xs.drop k = xs := by
        by_cases hk : k = 0
        · rw [hk, List.drop_zero]
        · have : xs.length = 0 := by omega
          rw [List.eq_nil_of_length_eq_zero this, List.drop_nil]
      exact q p H (Same.refl _) (by rw [e]; exact .inr h)
    · obtain ⟨H1, s1, h1, e1⟩ := lay (o := .tup (cutV xs (some (k : Int)) none)) na
      rw [e1]
      exact q a H1 s1 (by rw [← cut_from]; exact .inr (SqT.of (hid_to (ni na) h1)))
theorem NodeV.kind (h : NodeV K H p w n vs) : (w ∈ nmd ∧ vs = [] ∧ SqA K H p [.str w, .str n]) ∨ (w = "use" ∧ ∃ q, SqA K H p [.str w, .str n, .ref q] ∧ SqA K H q vs) ∨ (w = "bind" ∧ SqA K H p (.str w :: .str n :: vs)) ∨ ((∃ m, (w, m) ∈ opsW) ∧ n = "" ∧ SqA K H p (.str w :: vs)) := by
  cases h with
  | val h => exact .inl ⟨by decide, rfl, h⟩
  | fail h => exact .inl ⟨by decide, rfl, h⟩
  | name h => exact .inl ⟨by decide, rfl, h⟩
  | use h h2 => exact .inr (.inl ⟨rfl, _, h, h2⟩)
  | bind h => exact .inr (.inr (.inl ⟨rfl, h⟩))
  | op ho h => exact .inr (.inr (.inr ⟨⟨_, ho⟩, rfl, h⟩))
theorem ops_no : ∀ q ∈ opsW, q.1 ∉ nmd ∧ q.1 ≠ "use" ∧ q.1 ≠ "bind" := by decide
theorem decS (a b : Str) : decide (V.str a = V.str b) = decide (a = b) := by
  by_cases h : a = b
  · subst h; simp
  · rw [decide_eq_false h, decide_eq_false fun e => h (V.str.inj e)]
theorem decI (a b : Int) : decide (V.int a = V.int b) = decide (a = b) := by
  by_cases h : a = b
  · subst h; simp
  · rw [decide_eq_false h, decide_eq_false fun e => h (V.int.inj e)]
theorem tyS {a : Addr} {xs : List V} (h : SqA K H a xs) : ∃ t, (t = "list" ∨ t = "tuple") ∧ ∀ H', Same H H' → TyX K H' (.ref a) (.type t) := by
  rcases h with h | h
  · rcases h with (h | ⟨o, h⟩) | ⟨o, its, m, h, hc, _⟩
    · exact ⟨_, .inl rfl, fun H' s => .base (.lst (s _ _ h))⟩
    · exact ⟨_, .inl rfl, fun H' s => .base (.frz (s _ _ h))⟩
    · exact ⟨_, .inl rfl, fun H' s => .kList h hc⟩
  · rcases h with (h | ⟨o, h⟩) | ⟨o, its, m, h, hc, _⟩
    · exact ⟨_, .inr rfl, fun H' s => .base (.tup (s _ _ h))⟩
    · exact ⟨_, .inr rfl, fun H' s => .fTuple (s _ _ h)⟩
    · exact ⟨_, .inr rfl, fun H' s => .kTuple h hc⟩
theorem kit_seq {K : PySem.W.Frag} {t : String} (h : t = "list" ∨ t = "tuple") : PySem.W.kitAny K (.type t) [.type "list", .type "tuple"] = some true := by
  rcases h with rfl | rfl
  · exact kitAny_cons (b := true) (kit_ty (by decide +kernel)) (fun h => nomatch h) (fun _ => rfl)
  · exact kitAny_cons (b := false) (kit_ty (by decide +kernel)) (fun _ => kitAny_cons (b := true) (kit_ty (by decide +kernel)) (fun h => nomatch h) (fun _ => rfl)) (fun h => nomatch h)
/-- a node of this head over these terms' data, of tuples throughout -/
def nodeT (w n : Str) (ds : List PyData) : PyData := if w = "use" then .tuple [.str w, .str n, .tuple ds] else if w = "bind" then .tuple (.str w :: .str n :: ds) else if w ∈ opsW.map (·.1) then .tuple (.str w :: ds) else .tuple [.str w, .str n]
theorem d_node (w n : Str) (ks : List Tm) : (Tm.mk w n ks).d = nodeT w n (ks.map Tm.d) := by rw [Tm.d, ds_map]; rfl
end
end GB
set_option Elab.async false
set_option linter.all false
set_option maxRecDepth 100000
set_option maxHeartbeats 8000000
namespace K27
open PySem PySem.Spec L2 GB
/-- the module's NAMED -/
def Nmd (K : PySem.W.Frag) (mg : Str → Option Value) : Prop := ∃ a, mg "NAMED" = some (.ref a) ∧ ∀ H, SqT K H a (sts nmd)
end K27
set_option Elab.async false
set_option linter.all false
set_option maxRecDepth 100000
set_option maxHeartbeats 8000000
namespace K27
open PySem PySem.Spec L2 GB
abbrev sTin : Stmt := topS 18
def spTin (K : PySem.W.Frag) : Sp := fun vs H Q _ => ∃ (p : Addr) (w n : Str) (us : List V) (ps : List Addr), vs = [.ref p] ∧ (∀ q ∈ ps, ∃ o, H q = some o) ∧ NodeV K (hid ps H) p w n us ∧ ∀ q H', Same H H' → SqA K (hid ps H') q us → Q (.ref q) H'
section
variable {P : Program} {w : World} {K : PySem.W.Frag} {mg : Str → Option Value} {base : Heap}
theorem scTin : FnScope ["term"] ["term"] (defScope sTin) := ⟨rfl, rfl, rfl, by decide +kernel, rfl, by decide +kernel, by decide +kernel⟩

theorem ok_tin {f : Addr} {fd : FuncData} (F : Fun K "terms_in" "terms_in" sTin f fd) (NM : Nmd K mg) : FnOk P w K mg base CX0 1 f fd ["term"] (spTin K) := by
  obtain ⟨aN, gN, hN⟩ := NM
  refine F.ok scTin (fun vs H Q E h => ?_) (fun cdv A outer s H vs Q E hr h => ?_)
  · obtain ⟨p, w, n, us, ps, rfl, _⟩ := h
    rfl
  · obtain ⟨p, w, n, us, ps, rfl, hps, hV, q⟩ := h
    refine ⟨_, pss_cons (ps_if (pt_cmpR op_in_seq (pe_ix ix_seq (pv 0) (pe_int) (fun _ _ => rfl)) (pe_glob (v := .ref aN) rfl gN rfl) (by rfl)) (pss_one (ps_ret (pe_tup pa_nil))) (pss_nil)) (pss_cons (ps_if (pt_cmpR op_eq (pe_ix ix_seq (pv 0) (pe_int) (fun _ _ => rfl)) (pe_str) (nomark _)) (pss_one (ps_ret (pe_ix ix_seq (pv 0) (pe_int) (fun _ _ => rfl)))) (pss_nil)) (pss_cons (ps_if (pt_cmpR op_eq (pe_ix ix_seq (pv 0) (pe_int) (fun _ _ => rfl)) (pe_str) (nomark _)) (pss_one (ps_ret (pe_slice sl_any (pv 0) (po_some pe_int) po_none))) (pss_nil)) (pss_one (ps_ret (pe_slice sl_any (pv 0) (po_some pe_int) po_none))))), ?_⟩
    rcases hV.kind with ⟨hw, rfl, hs⟩ | ⟨rfl, a, hs, ha⟩ | ⟨rfl, hs⟩ | ⟨⟨m, ho⟩, rfl, hs⟩
    · refine ⟨_, rfl, ixA (hs.mono (hid_low _ _)) 0 rfl ⟨aN, sts nmd, rfl, .inr (hN H), rfl, flat_sts _, _, rfl, ?_⟩⟩
      rw [show (if false = true then !inV (.str w) (sts nmd) else inV (.str w) (sts nmd)) = true from (inV_sts w nmd).trans (decide_eq_true hw)]
      refine iteT ?_
      refine ⟨by show 0 ≤ sizeLine; decide, fun t nt => ?_⟩
      obtain ⟨H1, s1, h1, e1⟩ := lay (o := .tup []) nt
      rw [e1]
      exact q _ H1 s1 (.inr (SqT.of (hid_to (fun m => by obtain ⟨o, e⟩ := hps _ m; rw [nt] at e; cases e) h1)))
    · refine ⟨_, rfl, ixA (hs.mono (hid_low _ _)) 0 rfl ⟨aN, sts nmd, rfl, .inr (hN H), rfl, flat_sts _, _, rfl, ?_⟩⟩
      refine iteF ?_
      refine ⟨_, rfl, ixA (hs.mono (hid_low _ _)) 0 rfl ⟨rfl, _, rfl, ?_⟩⟩
      refine iteT ?_
      exact ⟨_, rfl, ixA (hs.mono (hid_low _ _)) 2 rfl (q _ H (Same.refl _) ha)⟩
    · refine ⟨_, rfl, ixA (hs.mono (hid_low _ _)) 0 rfl ⟨aN, sts nmd, rfl, .inr (hN H), rfl, flat_sts _, _, rfl, ?_⟩⟩
      refine iteF ?_
      refine ⟨_, rfl, ixA (hs.mono (hid_low _ _)) 0 rfl ⟨rfl, _, rfl, ?_⟩⟩
      refine iteF ?_
      refine ⟨_, rfl, ixA (hs.mono (hid_low _ _)) 0 rfl ⟨rfl, _, rfl, ?_⟩⟩
      refine iteT ?_
      exact ⟨_, rfl, _, rfl, slH hps hs 2 q⟩
    · obtain ⟨n1, n2, n3⟩ := ops_no _ ho
      refine ⟨_, rfl, ixA (hs.mono (hid_low _ _)) 0 rfl ⟨aN, sts nmd, rfl, .inr (hN H), rfl, flat_sts _, _, rfl, ?_⟩⟩
      rw [show (if false = true then !inV (.str w) (sts nmd) else inV (.str w) (sts nmd)) = false from (inV_sts w nmd).trans (decide_eq_false n1)]
      refine iteF ?_
      refine ⟨_, rfl, ixA (hs.mono (hid_low _ _)) 0 rfl ⟨rfl, _, rfl, ?_⟩⟩
      rw [decS, decide_eq_false n2]
      refine iteF ?_
      refine ⟨_, rfl, ixA (hs.mono (hid_low _ _)) 0 rfl ⟨rfl, _, rfl, ?_⟩⟩
      rw [decS, decide_eq_false n3]
      refine iteF ?_
      exact ⟨_, rfl, _, rfl, slH hps hs 1 q⟩

end
end K27
set_option Elab.async false
set_option linter.all false
set_option autoImplicit false
set_option maxRecDepth 100000
set_option maxHeartbeats 4000000
/-! Texts of terms as lists of signs, and that unlike terms have unlike texts. -/
namespace GB
open PySem PySem.Spec L2
def cl (s : Str) : List Nat := s.cps.toList
def wdsW : List Str := ["if", "and", "or", "not", "then", "bind", "try", "last", "fail"]
mutual
def txL : Tm → List Nat
  | .mk w n ks =>
    if w = "value" then 39 :: cl n
    else if w = "name" then cl n
    else if w = "fail" then cl "fail" ++ 40 :: (cl n ++ [41])
    else if w = "use" then (if n ∈ wdsW then [46] else []) ++ (cl n ++ 40 :: (txA ks ++ [41]))
    else if w = "bind" then cl "bind" ++ 40 :: (cl n ++ (txR ks ++ [41]))
    else cl w ++ 40 :: (txA ks ++ [41])
def txA : List Tm → List Nat
  | [] => []
  | k :: r => txL k ++ txR r
def txR : List Tm → List Nat
  | [] => []
  | k :: r => 44 :: 32 :: (txL k ++ txR r)
end
theorem cl_inj {a b : Str} (h : cl a = cl b) : a = b := by
  cases a with
  | mk a => cases b with
    | mk b => exact congrArg Str.mk (Array.toList_inj.mp h)
def ltr (c : Nat) : Prop := 97 ≤ c ∧ c ≤ 122
theorem signB_iff {c : Nat} : signB c = true ↔ ltr c := by
  unfold signB ltr
  have h1 : ([c] < [97]) ↔ c < 97 := by simp [List.cons_lt_cons_iff]
  have h2 : ([122] < [c]) ↔ 122 < c := by simp [List.cons_lt_cons_iff]
  simp only [h1, h2, Bool.and_eq_true, Bool.not_eq_true', decide_eq_false_iff_not]
  omega
theorem nameB_ltr {n : Str} (h : nameB n = true) : (∀ c ∈ cl n, ltr c) ∧ 1 ≤ (cl n).length ∧ (cl n).length ≤ 8 := by
  unfold nameB at h
  obtain ⟨h1, h2⟩ := Bool.and_eq_true_iff.mp h
  have h1 := of_decide_eq_true h1
  refine ⟨fun c hc => signB_iff.mp (List.all_eq_true.mp h2 c hc), ?_⟩
  have e : (cl n).length = n.length := by unfold cl; rw [Array.length_toList]; rfl
  omega
def NoL (q : List Nat) : Prop := ∀ c r, q = c :: r → ¬ ltr c
def Stop (q : List Nat) : Prop := ∀ c r, q = c :: r → c = 41 ∨ c = 44
theorem Stop.nol {q : List Nat} (h : Stop q) : NoL q := fun c r e l => by
  unfold ltr at l
  rcases h c r e with z | z <;> omega
theorem stop41 (q : List Nat) : Stop (41 :: q) := fun c r e => by cases e; exact .inl rfl
theorem nol40 (q : List Nat) : NoL (40 :: q) := fun c r e l => by cases e; unfold ltr at l; omega
theorem name_split : ∀ {a b q q' : List Nat}, (∀ c ∈ a, ltr c) → (∀ c ∈ b, ltr c) → NoL q → NoL q' → a ++ q = b ++ q' → a = b ∧ q = q'
  | [], [], _, _, _, _, _, _, e => ⟨rfl, e⟩
  | [], y :: b, q, q', _, hb, hq, _, e => absurd (hb y List.mem_cons_self) (hq y _ e)
  | x :: a, [], q, q', ha, _, _, hq', e => absurd (ha x List.mem_cons_self) (hq' x _ e.symm)
  | x :: a, y :: b, q, q', ha, hb, hq, hq', e => by
    have e1 : x = y := (List.cons.inj e).1
    obtain ⟨i, j⟩ := name_split (fun c hc => ha c (List.mem_cons_of_mem _ hc)) (fun c hc => hb c (List.mem_cons_of_mem _ hc)) hq hq' (List.cons.inj e).2
    exact ⟨by rw [e1, i], j⟩
/-- what stands ahead of a bracket, and what behind it -/
structure Call (t : Tm) (a : Str) (rest : List Nat) : Prop where
  tx : txL t = cl a ++ 40 :: rest
  lt : ∀ c ∈ cl a, ltr c
  ne : cl a ≠ []
inductive Shp (L : List (Str × Nat)) (t : Tm) : Prop
  | val {n} : t = .mk "value" n [] → nameB n = true → txL t = 39 :: cl n → Shp L t
  | name {n} : t = .mk "name" n [] → nameB n = true → txL t = cl n → Shp L t
  | fail {n} : t = .mk "fail" n [] → nameB n = true → Call t "fail" (cl n ++ [41]) → Shp L t
  | dot {n ks} : t = .mk "use" n ks → nameB n = true → n ∈ wdsW → txL t = 46 :: (cl n ++ 40 :: (txA ks ++ [41])) → Shp L t
  | use {n ks} : t = .mk "use" n ks → nameB n = true → n ∉ wdsW → Call t n (txA ks ++ [41]) → Shp L t
  | bind {n ks} : t = .mk "bind" n ks → nameB n = true → Call t "bind" (cl n ++ (txR ks ++ [41])) → Shp L t
  | op {w m ks} : t = .mk w "" ks → (w, m) ∈ opsW → Call t w (txA ks ++ [41]) → Shp L t
theorem shp {L : List (Str × Nat)} (hL : ∀ q ∈ L, nameB q.1 = true) {ns : List Str} {t : Tm} (h : TmOk L ns t) : Shp L t := by
  cases h with
  | @mk _ w n ks hH hK =>
  have nil : ks.length = 0 → ks = [] := List.eq_nil_of_length_eq_zero
  have op' : ∀ {m : Nat}, (w, m) ∈ opsW → w ≠ "value" ∧ w ≠ "name" ∧ w ≠ "fail" ∧ w ≠ "use" ∧ w ≠ "bind" ∧ nameB w = true := fun hm => (show ∀ q ∈ opsW, q.1 ≠ "value" ∧ q.1 ≠ "name" ∧ q.1 ≠ "fail" ∧ q.1 ≠ "use" ∧ q.1 ≠ "bind" ∧ nameB q.1 = true by decide +kernel) _ hm
  generalize hm : ks.length = m at hH
  have ne : ∀ {x : Str}, nameB x = true → cl x ≠ [] := fun h e => by
    have := (nameB_ltr h).2.1
    rw [e] at this
    simp at this
  cases hH with
  | val h => obtain rfl := nil hm; exact .val rfl h (by rw [txL, if_pos rfl])
  | name h _ => obtain rfl := nil hm; exact .name rfl h (by rw [txL, if_neg (by decide), if_pos rfl])
  | fail h => obtain rfl := nil hm; exact .fail rfl h ⟨by rw [txL, if_neg (by decide), if_neg (by decide), if_pos rfl], (nameB_ltr (by decide +kernel)).1, ne (by decide +kernel)⟩
  | use h =>
    have nb := hL _ h
    by_cases hw : n ∈ wdsW
    · exact .dot rfl nb hw (by rw [txL, if_neg (by decide), if_neg (by decide), if_neg (by decide), if_pos rfl, if_pos hw]; rfl)
    · exact .use rfl nb hw ⟨by rw [txL, if_neg (by decide), if_neg (by decide), if_neg (by decide), if_pos rfl, if_neg hw]; rfl, (nameB_ltr nb).1, ne nb⟩
  | bind h _ => exact .bind rfl h ⟨by rw [txL, if_neg (by decide), if_neg (by decide), if_neg (by decide), if_neg (by decide), if_pos rfl], (nameB_ltr (by decide +kernel)).1, ne (by decide +kernel)⟩
  | op h =>
    obtain ⟨h1, h2, h3, h4, h5, h6⟩ := op' h
    exact .op rfl h ⟨by rw [txL, if_neg h1, if_neg h2, if_neg h3, if_neg h4, if_neg h5], (nameB_ltr h6).1, ne h6⟩
/-- the first sign -/
theorem Shp.first {L : List (Str × Nat)} {t : Tm} (h : Shp L t) : ∃ c r, txL t = c :: r ∧ c ≠ 41 ∧ c ≠ 44 := by
  have lt : ∀ {l : List Nat} {q : List Nat}, (∀ c ∈ l, ltr c) → l ≠ [] → ∃ c r, l ++ q = c :: r ∧ c ≠ 41 ∧ c ≠ 44 := fun {l q} h n => by
    cases l with
    | nil => exact absurd rfl n
    | cons c r =>
      have := h c List.mem_cons_self
      unfold ltr at this
      exact ⟨c, r ++ q, rfl, by omega, by omega⟩
  have ne : ∀ {x : Str}, nameB x = true → cl x ≠ [] := fun h e => by
    have := (nameB_ltr h).2.1
    rw [e] at this
    simp at this
  cases h with
  | val e hn tx => exact ⟨39, _, tx, by decide, by decide⟩
  | name e hn tx =>
    rw [tx]
    have := lt (q := []) (nameB_ltr hn).1 (ne hn)
    rwa [List.append_nil] at this
  | fail e hn c => rw [c.tx]; exact lt c.lt c.ne
  | dot e hn hw tx => exact ⟨46, _, tx, by decide, by decide⟩
  | use e hn hw c => rw [c.tx]; exact lt c.lt c.ne
  | bind e hn c => rw [c.tx]; exact lt c.lt c.ne
  | op e hm c => rw [c.tx]; exact lt c.lt c.ne
end GB
namespace GB
open PySem PySem.Spec L2
theorem call_eq {L : List (Str × Nat)} {t t' : Tm} {a a' : Str} {r r' p p' : List Nat} (c : Call t a r) (c' : Call t' a' r') (e : txL t ++ p = txL t' ++ p') : a = a' ∧ r ++ p = r' ++ p' := by
  rw [c.tx, c'.tx, List.append_assoc, List.append_assoc] at e
  obtain ⟨h1, h2⟩ := name_split c.lt c'.lt (nol40 _) (nol40 _) e
  exact ⟨cl_inj h1, (List.cons.inj h2).2⟩
theorem args_inj {L : List (Str × Nat)} (hL : ∀ q ∈ L, nameB q.1 = true) {z : Nat} (ih : ∀ {t t' : Tm} {ns ns' : List Str} {p p' : List Nat}, t.size ≤ z → TmOk L ns t → TmOk L ns' t' → Stop p → Stop p' → txL t ++ p = txL t' ++ p' → t = t' ∧ p = p') :
    ∀ (ks ks' : List Tm) {p p' : List Nat}, Tm.sizes ks ≤ z → (∀ k ∈ ks, ∃ ns, TmOk L ns k) → (∀ k ∈ ks', ∃ ns, TmOk L ns k) → txR ks ++ 41 :: p = txR ks' ++ 41 :: p' → ks = ks' ∧ p = p'
  | [], [], p, p', _, _, _, e => ⟨rfl, (List.cons.inj e).2⟩
  | [], k' :: r', p, p', _, _, _, e => by
    rw [txR, txR] at e
    exact absurd (List.cons.inj e).1 (by decide)
  | k :: r, [], p, p', _, _, _, e => by
    rw [txR, txR] at e
    exact absurd (List.cons.inj e).1 (by decide)
  | k :: r, k' :: r', p, p', hz, hk, hk', e => by
    rw [txR, txR] at e
    have e1 : (txL k ++ txR r) ++ 41 :: p = (txL k' ++ txR r') ++ 41 :: p' := (List.cons.inj (List.cons.inj e).2).2
    rw [List.append_assoc, List.append_assoc] at e1
    obtain ⟨ns, o⟩ := hk k List.mem_cons_self
    obtain ⟨ns', o'⟩ := hk' k' List.mem_cons_self
    rw [Tm.sizes] at hz
    have st : ∀ (l : List Tm) (q : List Nat), Stop (txR l ++ 41 :: q) := fun l q => by
      cases l with
      | nil => rw [txR]; exact stop41 q
      | cons x y => rw [txR]; exact fun c r e => by cases e; exact .inr rfl
    obtain ⟨h1, h2⟩ := ih (by omega) o o' (st r p) (st r' p') e1
    obtain ⟨h3, h4⟩ := args_inj hL ih r r' (by omega) (fun x hx => hk x (List.mem_cons_of_mem _ hx)) (fun x hx => hk' x (List.mem_cons_of_mem _ hx)) h2
    exact ⟨by rw [h1, h3], h4⟩
theorem argsA_inj {L : List (Str × Nat)} (hL : ∀ q ∈ L, nameB q.1 = true) {z : Nat} (ih : ∀ {t t' : Tm} {ns ns' : List Str} {p p' : List Nat}, t.size ≤ z → TmOk L ns t → TmOk L ns' t' → Stop p → Stop p' → txL t ++ p = txL t' ++ p' → t = t' ∧ p = p') :
    ∀ (ks ks' : List Tm) {p p' : List Nat}, Tm.sizes ks ≤ z → (∀ k ∈ ks, ∃ ns, TmOk L ns k) → (∀ k ∈ ks', ∃ ns, TmOk L ns k) → txA ks ++ 41 :: p = txA ks' ++ 41 :: p' → ks = ks' ∧ p = p'
  | [], [], p, p', _, _, _, e => ⟨rfl, (List.cons.inj e).2⟩
  | [], k' :: r', p, p', _, _, hk', e => by
    obtain ⟨ns', o'⟩ := hk' k' List.mem_cons_self
    obtain ⟨c, r, e1, n1, n2⟩ := (shp hL o').first
    rw [txA, txA, e1] at e
    exact absurd (List.cons.inj e).1.symm n1
  | k :: r, [], p, p', _, hk, _, e => by
    obtain ⟨ns, o⟩ := hk k List.mem_cons_self
    obtain ⟨c, r, e1, n1, n2⟩ := (shp hL o).first
    rw [txA, txA, e1] at e
    exact absurd (List.cons.inj e).1 n1
  | k :: r, k' :: r', p, p', hz, hk, hk', e => by
    rw [txA, txA, List.append_assoc, List.append_assoc] at e
    have h : txR (k :: r) ++ 41 :: p = txR (k' :: r') ++ 41 :: p' := by
      rw [txR, txR, List.cons_append, List.cons_append, List.cons_append, List.cons_append, List.append_assoc, List.append_assoc, e]
    exact args_inj hL ih _ _ hz hk hk' h
theorem txL_inj {L : List (Str × Nat)} (hL : ∀ q ∈ L, nameB q.1 = true) : ∀ (z : Nat) {t t' : Tm} {ns ns' : List Str} {p p' : List Nat}, t.size ≤ z → TmOk L ns t → TmOk L ns' t' → Stop p → Stop p' → txL t ++ p = txL t' ++ p' → t = t' ∧ p = p' := by
  intro z
  induction z with
  | zero =>
    intro t t' ns ns' p p' hz
    exact absurd hz (by have := size_pos t; omega)
  | succ z ih =>
    intro t t' ns ns' p p' hz h h' hp hp' e
    have kids : ∀ {t : Tm} {ns : List Str} {w n : Str} {ks : List Tm}, TmOk L ns t → t = .mk w n ks → ∀ k ∈ ks, ∃ ns, TmOk L ns k := fun h e k hk => by
      subst e
      cases h with
      | mk _ hK =>
        obtain ⟨i, hi⟩ := List.mem_iff_getElem?.mp hk
        exact ⟨_, hK i k hi⟩
    have sz : ∀ {w n : Str} {ks : List Tm}, t = .mk w n ks → Tm.sizes ks ≤ z := fun e => by
      rw [e, Tm.size] at hz
      omega
    have lt : ∀ {l l' : List Nat} {q q' : List Nat} {c : Nat}, (∀ c ∈ l, ltr c) → l ≠ [] → ¬ ltr c → l ++ q = c :: q' → False := fun {l l' q q' c} h n nc e => by
      cases l with
      | nil => exact n rfl
      | cons x r => exact nc ((List.cons.inj e).1 ▸ h x List.mem_cons_self)
    have ne : ∀ {x : Str}, nameB x = true → cl x ≠ [] := fun h e => by
      have := (nameB_ltr h).2.1
      rw [e] at this
      simp at this
    have n39 : ¬ ltr 39 := by unfold ltr; omega
    have n46 : ¬ ltr 46 := by unfold ltr; omega
    -- a name and a call
    have nc : ∀ {n a : Str} {t : Tm} {r q q' : List Nat}, nameB n = true → Call t a r → Stop q → cl n ++ q = txL t ++ q' → False := fun {n a t r q q'} hn c hq e => by
      rw [c.tx, List.append_assoc] at e
      have := (name_split (nameB_ltr hn).1 c.lt hq.nol (nol40 _) e).2
      rcases hq _ _ this with z | z <;> omega
    -- a call and a quote or a dot
    have cq : ∀ {a : Str} {t : Tm} {r q q' : List Nat} {c : Nat}, Call t a r → ¬ ltr c → txL t ++ q = c :: q' → False := fun {a t r q q' c} h hc e => by
      rw [h.tx, List.append_assoc] at e
      exact lt (l' := []) h.lt h.ne hc e
    -- two calls
    have cc : ∀ {a a' : Str} {r r' : List Nat}, Call t a r → Call t' a' r' → a = a' ∧ r ++ p = r' ++ p' := fun c c' => call_eq (L := L) c c' e
    have wd : ∀ {w : Str} {m : Nat}, (w, m) ∈ opsW → w ∈ wdsW ∧ w ≠ "fail" ∧ w ≠ "bind" := fun hm => (show ∀ q ∈ opsW, q.1 ∈ wdsW ∧ q.1 ≠ "fail" ∧ q.1 ≠ "bind" by decide +kernel) _ hm
    have fw : ("fail" : Str) ∈ wdsW := by decide +kernel
    have bw : ("bind" : Str) ∈ wdsW := by decide +kernel
    have aA : ∀ {ks ks' : List Tm}, Tm.sizes ks ≤ z → (∀ k ∈ ks, ∃ ns, TmOk L ns k) → (∀ k ∈ ks', ∃ ns, TmOk L ns k) → (txA ks ++ [41]) ++ p = (txA ks' ++ [41]) ++ p' → ks = ks' ∧ p = p' := fun hz k1 k2 e => by
      rw [List.append_assoc, List.append_assoc] at e
      exact argsA_inj hL ih _ _ hz k1 k2 e
    have s1 := shp hL h
    have s2 := shp hL h'
    cases s1 with
    | val e1 n1 x1 =>
      rw [x1] at e
      cases s2 with
      | val e2 n2 x2 =>
        rw [x2] at e
        obtain ⟨i, j⟩ := name_split (nameB_ltr n1).1 (nameB_ltr n2).1 hp.nol hp'.nol (List.cons.inj e).2
        exact ⟨by rw [e1, e2, cl_inj i], j⟩
      | name e2 n2 x2 => rw [x2] at e; exact (lt (l' := []) (nameB_ltr n2).1 (ne n2) n39 e.symm).elim
      | fail e2 n2 c2 => exact (cq c2 n39 e.symm).elim
      | dot e2 n2 w2 x2 => rw [x2] at e; exact absurd (List.cons.inj e).1 (by decide)
      | use e2 n2 w2 c2 => exact (cq c2 n39 e.symm).elim
      | bind e2 n2 c2 => exact (cq c2 n39 e.symm).elim
      | op e2 m2 c2 => exact (cq c2 n39 e.symm).elim
    | name e1 n1 x1 =>
      rw [x1] at e
      cases s2 with
      | val e2 n2 x2 => rw [x2] at e; exact (lt (l' := []) (nameB_ltr n1).1 (ne n1) n39 e).elim
      | name e2 n2 x2 =>
        rw [x2] at e
        obtain ⟨i, j⟩ := name_split (nameB_ltr n1).1 (nameB_ltr n2).1 hp.nol hp'.nol e
        exact ⟨by rw [e1, e2, cl_inj i], j⟩
      | fail e2 n2 c2 => exact (nc n1 c2 hp e).elim
      | dot e2 n2 w2 x2 => rw [x2] at e; exact (lt (l' := []) (nameB_ltr n1).1 (ne n1) n46 e).elim
      | use e2 n2 w2 c2 => exact (nc n1 c2 hp e).elim
      | bind e2 n2 c2 => exact (nc n1 c2 hp e).elim
      | op e2 m2 c2 => exact (nc n1 c2 hp e).elim
    | dot e1 n1 w1 x1 =>
      rw [x1] at e
      cases s2 with
      | val e2 n2 x2 => rw [x2] at e; exact absurd (List.cons.inj e).1 (by decide)
      | name e2 n2 x2 => rw [x2] at e; exact (lt (l' := []) (nameB_ltr n2).1 (ne n2) n46 e.symm).elim
      | fail e2 n2 c2 => exact (cq c2 n46 e.symm).elim
      | dot e2 n2 w2 x2 =>
        rw [x2, List.cons_append, List.cons_append] at e
        have e3 := (List.cons.inj e).2
        rw [List.append_assoc, List.append_assoc] at e3
        obtain ⟨i, j⟩ := name_split (nameB_ltr n1).1 (nameB_ltr n2).1 (nol40 _) (nol40 _) e3
        obtain ⟨k1, k2⟩ := aA (sz e1) (kids h e1) (kids h' e2) (List.cons.inj j).2
        exact ⟨by rw [e1, e2, cl_inj i, k1], k2⟩
      | use e2 n2 w2 c2 => exact (cq c2 n46 e.symm).elim
      | bind e2 n2 c2 => exact (cq c2 n46 e.symm).elim
      | op e2 m2 c2 => exact (cq c2 n46 e.symm).elim
    | fail e1 n1 c1 =>
      cases s2 with
      | val e2 n2 x2 => rw [x2] at e; exact (cq c1 n39 e).elim
      | name e2 n2 x2 => rw [x2] at e; exact (nc n2 c1 hp' e.symm).elim
      | fail e2 n2 c2 =>
        have e3 := (cc c1 c2).2
        rw [List.append_assoc, List.append_assoc] at e3
        obtain ⟨i, j⟩ := name_split (nameB_ltr n1).1 (nameB_ltr n2).1 (stop41 _).nol (stop41 _).nol e3
        exact ⟨by rw [e1, e2, cl_inj i], (List.cons.inj j).2⟩
      | dot e2 n2 w2 x2 => rw [x2] at e; exact (cq c1 n46 e).elim
      | use e2 n2 w2 c2 => exact absurd ((cc c1 c2).1 ▸ fw) w2
      | bind e2 n2 c2 => exact absurd (cc c1 c2).1 (by decide)
      | op e2 m2 c2 => exact absurd (cc c1 c2).1.symm (wd m2).2.1
    | use e1 n1 w1 c1 =>
      cases s2 with
      | val e2 n2 x2 => rw [x2] at e; exact (cq c1 n39 e).elim
      | name e2 n2 x2 => rw [x2] at e; exact (nc n2 c1 hp' e.symm).elim
      | fail e2 n2 c2 => exact absurd ((cc c1 c2).1 ▸ fw) w1
      | dot e2 n2 w2 x2 => rw [x2] at e; exact (cq c1 n46 e).elim
      | use e2 n2 w2 c2 =>
        obtain ⟨i, j⟩ := cc c1 c2
        obtain ⟨k1, k2⟩ := aA (sz e1) (kids h e1) (kids h' e2) j
        exact ⟨by rw [e1, e2, i, k1], k2⟩
      | bind e2 n2 c2 => exact absurd ((cc c1 c2).1 ▸ bw) w1
      | op e2 m2 c2 => exact absurd ((cc c1 c2).1 ▸ (wd m2).1) w1
    | bind e1 n1 c1 =>
      cases s2 with
      | val e2 n2 x2 => rw [x2] at e; exact (cq c1 n39 e).elim
      | name e2 n2 x2 => rw [x2] at e; exact (nc n2 c1 hp' e.symm).elim
      | fail e2 n2 c2 => exact absurd (cc c1 c2).1 (by decide)
      | dot e2 n2 w2 x2 => rw [x2] at e; exact (cq c1 n46 e).elim
      | use e2 n2 w2 c2 => exact absurd ((cc c1 c2).1 ▸ bw) w2
      | bind e2 n2 c2 =>
        have e3 := (cc c1 c2).2
        rw [List.append_assoc, List.append_assoc, List.append_assoc, List.append_assoc] at e3
        have st : ∀ (l : List Tm) (q : List Nat), Stop (txR l ++ ([41] ++ q)) := fun l q => by
          cases l with
          | nil => rw [txR]; exact stop41 q
          | cons x y => rw [txR]; exact fun c r e => by cases e; exact .inr rfl
        obtain ⟨i, j⟩ := name_split (nameB_ltr n1).1 (nameB_ltr n2).1 (st _ _).nol (st _ _).nol e3
        obtain ⟨k1, k2⟩ := args_inj hL ih _ _ (sz e1) (kids h e1) (kids h' e2) j
        exact ⟨by rw [e1, e2, cl_inj i, k1], k2⟩
      | op e2 m2 c2 => exact absurd (cc c1 c2).1.symm (wd m2).2.2
    | op e1 m1 c1 =>
      cases s2 with
      | val e2 n2 x2 => rw [x2] at e; exact (cq c1 n39 e).elim
      | name e2 n2 x2 => rw [x2] at e; exact (nc n2 c1 hp' e.symm).elim
      | fail e2 n2 c2 => exact absurd (cc c1 c2).1 (wd m1).2.1
      | dot e2 n2 w2 x2 => rw [x2] at e; exact (cq c1 n46 e).elim
      | use e2 n2 w2 c2 => exact absurd ((cc c1 c2).1 ▸ (wd m1).1) w2
      | bind e2 n2 c2 => exact absurd (cc c1 c2).1 (wd m1).2.2
      | op e2 m2 c2 =>
        obtain ⟨i, j⟩ := cc c1 c2
        obtain ⟨k1, k2⟩ := aA (sz e1) (kids h e1) (kids h' e2) j
        exact ⟨by rw [e1, e2, i, k1], k2⟩
end GB
set_option Elab.async false
set_option linter.all false
set_option autoImplicit false
set_option maxRecDepth 100000
set_option maxHeartbeats 4000000
namespace GB
open PySem PySem.Spec L2
def txS (t : Tm) : Str := ⟨(txL t).toArray⟩
theorem cl_txS (t : Tm) : cl (txS t) = txL t := rfl
theorem cl_mk (l : List Nat) : cl ⟨l.toArray⟩ = l := rfl
theorem cl_app (a b : Str) : cl (a ++ b) = cl a ++ cl b := TL.tl_append a b
theorem mk_cl (s : Str) : (⟨(cl s).toArray⟩ : Str) = s := cl_inj rfl
theorem cl_len (s : Str) : s.length = (cl s).length := by unfold cl; rw [Array.length_toList]; rfl
theorem eq_txS {s : Str} {t : Tm} (h : cl s = txL t) : s = txS t := cl_inj h
theorem cl_join1 : ∀ (s : Str) (ks : List Tm), cl (Txt.join ", " (s :: ks.map txS)) = cl s ++ txR ks
  | s, [] => by rw [TL.join_eq]; show cl s = cl s ++ txR []; rw [txR, List.append_nil]
  | s, k :: r => by
    have h := cl_join1 (txS k) r
    rw [TL.join_eq] at h ⊢
    show cl (s ++ (", " : Str) ++ Str.join ", " (txS k :: r.map txS)) = _
    rw [cl_app, cl_app, h, cl_txS, txR, List.append_assoc]
    rfl
theorem cl_join : ∀ ks : List Tm, cl (Txt.join ", " (ks.map txS)) = txA ks
  | [] => by rw [TL.join_eq, txA]; rfl
  | k :: r => by rw [List.map_cons, cl_join1, txA]; rfl
mutual
theorem txL_len {L : List (Str × Nat)} (hL : ∀ q ∈ L, nameB q.1 = true) : ∀ (t : Tm) {ns : List Str}, TmOk L ns t → (txL t).length + 2 ≤ 20 * t.size
  | .mk w n ks, ns, h => by
    have hk : ∀ k ∈ ks, ∃ ns, TmOk L ns k := fun k hk => by
      cases h with
      | mk _ hK =>
        obtain ⟨i, hi⟩ := List.mem_iff_getElem?.mp hk
        exact ⟨_, hK i k hi⟩
    obtain ⟨a1, a2⟩ := txs_len hL ks hk
    rw [Tm.size]
    have l8 : ∀ {x : Str}, nameB x = true → (cl x).length ≤ 8 := fun h => (nameB_ltr h).2.2
    have wl : ∀ {w : Str} {m : Nat}, (w, m) ∈ opsW → (cl w).length ≤ 4 := fun hm => (show ∀ q ∈ opsW, (cl q.1).length ≤ 4 by decide +kernel) _ hm
    have f4 : (cl "fail").length = 4 := by decide +kernel
    have b4 : (cl "bind").length = 4 := by decide +kernel
    cases shp hL h with
    | val e hn tx => rw [tx]; cases e; have := l8 hn; rw [List.length_cons]; omega
    | name e hn tx => rw [tx]; cases e; have := l8 hn; omega
    | fail e hn c => rw [c.tx]; cases e; have := l8 hn; rw [List.length_append, List.length_cons, List.length_append, f4]; simp only [List.length_singleton]; omega
    | dot e hn hw tx => rw [tx]; cases e; have := l8 hn; rw [List.length_cons, List.length_append, List.length_cons, List.length_append]; simp only [List.length_singleton]; omega
    | use e hn hw c => rw [c.tx]; cases e; have := l8 hn; rw [List.length_append, List.length_cons, List.length_append]; simp only [List.length_singleton]; omega
    | bind e hn c => rw [c.tx]; cases e; have := l8 hn; rw [List.length_append, List.length_cons, List.length_append, List.length_append, b4]; simp only [List.length_singleton]; omega
    | op e hm c => rw [c.tx]; cases e; have := wl hm; rw [List.length_append, List.length_cons, List.length_append]; simp only [List.length_singleton]; omega
theorem txs_len {L : List (Str × Nat)} (hL : ∀ q ∈ L, nameB q.1 = true) : ∀ (ks : List Tm), (∀ k ∈ ks, ∃ ns, TmOk L ns k) → (txA ks).length ≤ 20 * Tm.sizes ks ∧ (txR ks).length ≤ 20 * Tm.sizes ks
  | [], _ => by rw [txA, txR]; exact ⟨Nat.zero_le _, Nat.zero_le _⟩
  | k :: r, h => by
    obtain ⟨ns, o⟩ := h k List.mem_cons_self
    have a := txL_len hL k o
    obtain ⟨b1, b2⟩ := txs_len hL r fun x hx => h x (List.mem_cons_of_mem _ hx)
    rw [txA, txR, Tm.sizes, List.length_cons, List.length_cons, List.length_append]
    omega
end
theorem sum_len {L : List (Str × Nat)} (hL : ∀ q ∈ L, nameB q.1 = true) : ∀ (ks : List Tm), (∀ k ∈ ks, ∃ ns, TmOk L ns k) → ((ks.map txS).map (·.length)).sum ≤ 20 * Tm.sizes ks
  | [], _ => Nat.zero_le _
  | k :: r, h => by
    obtain ⟨ns, o⟩ := h k List.mem_cons_self
    have a := txL_len hL k o
    have b := sum_len hL r fun x hx => h x (List.mem_cons_of_mem _ hx)
    rw [Tm.sizes]
    show (txS k).length + ((r.map txS).map (·.length)).sum ≤ _
    rw [cl_len, cl_txS]
    omega
theorem nameB_of {L : List (Str × Nat)} (hL : ∀ q ∈ L, nameB q.1 = true) {ns : List Str} {w n : Str} {m : Nat} (h : HeadOk L ns w n m) (hw : w ∉ opsW.map (·.1)) : nameB n = true := by
  cases h with
  | val h => exact h
  | fail h => exact h
  | name h _ => exact h
  | use h => exact hL _ h
  | bind h _ => exact h
  | op h => exact absurd (List.mem_map.mpr ⟨_, h, rfl⟩) hw
end GB
set_option Elab.async false
set_option linter.all false
set_option maxRecDepth 100000
set_option maxHeartbeats 8000000
/-! try with several clauses «except X as n», one name for all. -/
namespace TryAs
open PySem PySem.Spec PyProof.Rows L2
/-- what the clauses wish, one behind the other -/
def wsh (K : PySem.W.Frag) (i : Nat) (Wo : WX) (D : Ends) : List (Value × (Addr → Value → Option Addr → TS)) → WX
  | [] => Wo
  | p :: r => wAs K p.1 i p.2 (wsh K i Wo D r) D
inductive Hds (X : Cx) (n : Str) : List ExceptHandler → List (Value × (Addr → Value → Option Addr → TS)) → Prop
  | nil : Hds X n [] []
  | cons {x : Str} {c : Value} {ts : Addr → Value → Option Addr → TS} {b1 : Stmt} {su : List Stmt} {p1 p2 : Pos} {hs : List ExceptHandler} {l : List (Value × (Addr → Value → Option Addr → TS))} : Names X x c →
      (∀ (a : Addr) (oe : Obj) (cls : Value) (d : Option Addr) (pn : List (Addr × Obj)), Zc cls d oe → (∃ vs, oe.data = .fields vs) → PSs (X.suite a ((a, oe) :: pn)) (b1 :: su) (ts a cls d)) → Hds X n hs l →
      Hds X n (.ExceptHandler (some (.Name x p1)) (some n) (b1 :: su) p2 :: hs) ((c, ts) :: l)
section
variable {X : Cx} {n : Str} {i : Nat} {body : List Stmt} {g1 : ExceptHandler} {gs : List ExceptHandler} {l : List (Value × (Addr → Value → Option Addr → TS))} {pos : Pos} {tb : WX → TS} {Wo : WX}
theorem ps_try_asM (hs : X.stack = X.env :: X.outer) (hf : X.env.frame = some X.env.locals) (hN : X.N.Nodup) (hi : X.N[i]? = some n) (hln : X.env.kindOf n = some .local) (tk : Takes X Wo)
    (hb : ∀ (W : WX) (pn : List (Addr × Obj)) (xe : Value → Shared → Prop), Takes (X.tr pn xe) W → PassesOwn (model X.prog X.w) X.A X.env xe → PSs (X.tr pn xe) body (tb W)) (hh : Hds X n (g1 :: gs) l) :
    PS X (.Try body (g1 :: gs) [] [] pos) (fun D σ H => tb (wsh X.K i Wo D l) D σ H) := by
  refine ⟨fun pins s σ H D I h => ?_⟩
  have ok := I.ok
  have hA : X.A.frames = some (X.env :: X.outer) := by rw [ok.frames, hs]
  have hloc : Loc X.env.scope n := .inl hln
  refine wpAny_Try_except ?_
  refine wpAny_mono ((hb (wsh X.K i Wo D l) (X.pn ++ pins) (fun e t1 => wpAny (model X.prog X.w) X.A (noteFrame e X.env) (fun _ t2 => wpAny (model X.prog X.w) X.A (setFlight e none) (fun _ t3 =>
    wpAny (model X.prog X.w) X.A (handleBy e X.env (g1 :: gs)) (SP X pins D) X.xe t3) X.xe t2) X.xe t1) (fun u t xx => ?_) PassesOwn.looking).run [] s σ H D (I.toTry _) h) (fun f t1 hsp => ?_) (fun e t1 he => he)
  · obtain ⟨a, B, sI, pins2, σ2, H2, cls, d, rfl, J0, nb, up, sky, na, os, ag, wi⟩ := xx
    have J : Inv X pins σ2 H2 sI := J0.ofTry ok
    rw [hs] at sky
    show wpAny (model X.prog X.w) X.A (noteFrame (.ref a) X.env) _ _ _
    refine Sky.land Zc.steady hA hf sky fun h3 fl3 up3 => ?_
    have J3 : Inv X pins σ2 H2 { t with heap := h3 } := J.landed nb fl3.1 (up.trans up3) os ag
    obtain ⟨o3, v3, e3, z3, d3⟩ := fl3.there
    have nst : a ∉ frs (X.env :: X.outer) := fun hm => by
      obtain ⟨_, o', e', hnf⟩ := fl3.2.2.1.mem hm
      rw [e3] at e'
      cases e'
      exact hnf _ d3
    have nL : a ≠ X.env.locals := fun z => nst (List.mem_filterMap.mpr ⟨X.env, List.mem_cons_self, by rw [hf, z]⟩)
    have nF : a ∉ X.fs := fun hm => by
      obtain ⟨e, he, q⟩ := List.mem_filterMap.mp hm
      exact nst (List.mem_filterMap.mpr ⟨e, List.mem_cons_of_mem _ he, q⟩)
    have S3 := J3.suite e3 d3 na nL nF
    have go : ∀ {gs' : List ExceptHandler} {l' : List (Value × (Addr → Value → Option Addr → TS))}, Hds X n gs' l' → wsh X.K i Wo D l' cls d σ2 H2 → wpAny (model X.prog X.w) X.A (handleBy (.ref a) X.env gs') (SP X pins D) X.xe { t with heap := h3 } := by
      intro gs' l' hk
      induction hk with
      | nil =>
        intro w
        refine wpAny_handleBy_nil ?_
        obtain ⟨k1, k2, k3, o5, v5, T, oT, ts', f1, f2, f3, f4, f5⟩ := id fl3
        unfold PySem.passOn
        refine wpAny_bind (wpAny_field f1 f3 f4 ?_)
        rw [if_neg (show ¬ ((Value.ref T == Value.none) = true) from by simp)]
        have fin : wpAny (model X.prog X.w) X.A (setFlight (.ref a) X.env.frame) (fun _ t4 => wpAny (model X.prog X.w) X.A (throw (.ref a) : Sem Flow) (SP X pins D) X.xe t4) X.xe { t with heap := h3 } := by
          rw [hf]
          refine HandSPX.setFlight_upZ fl3 fun h4 hh4 up4 => wpAny_throw (tk _ _ ?_)
          exact ⟨a, B, sI, pins, σ2, H2, cls, d, rfl, J, nb, (up.trans up3).trans up4, .inr (.inr (by rw [hs]; exact hh4)), na, os, ag, w⟩
        first
          | exact wpAny_bind (wpAny_pure (wpAny_bind fin))
          | exact wpAny_bind fin
      | @cons x c ts b1 su p1 p2 gs2 l2 hc hsu r ih =>
        intro w
        obtain ⟨b, hb1, hyes, hno⟩ := w
        refine wpAny_handleBy_cons (codeAny_handlers_test ?_) (by intro q; cases q)
        have LT : PySem.W.Looks (model X.prog X.w) h3 (typeOf (.ref a)) cls := fun A Q E t0 k q => wpAny_typeOf_ref (k _ _ e3) (by rw [z3.1]; exact q)
        have LM := PySem.W.exm_one (M := model X.prog X.w) (J3.kIn) LT hb1
        have test : ∀ {Q : Value → Shared → Prop} {E : Value → Shared → Prop}, Q c { t with heap := h3 } → wpAny (model X.prog X.w) (X.A.mark (some (.ref a))) (eval (.Name x p1) X.env) Q E { t with heap := h3 } := by
          intro Q E q
          obtain ⟨hg, hdbg, hm | ⟨hm, hv, hnn⟩⟩ := hc
          · exact ld_glob (X := X.suite a ((a, o3) :: (X.pn ++ pins))) S3 hg hm q hdbg
          · exact ld_blt (X := X.suite a ((a, o3) :: (X.pn ++ pins))) S3 hg hm hv q hnn hdbg
        refine test (LM.here ?_)
        cases b with
        | true =>
          refine codeAny_handlers_suite_as ?_
          refine HandSPX.lands_againZ fl3 fun h4 fl4 up4 => ?_
          have J4 : Inv X pins σ2 H2 { t with heap := h4 } := J.landed nb fl4.1 ((up.trans up3).trans up4) os ag
          obtain ⟨o4, v4, e4, z4, d4⟩ := fl4.there
          refine store_ok (X := X.suite a ((a, o4) :: (X.pn ++ pins))) (v := .ref a) (J4.suite e4 d4 na nL nF) hN hi hloc rfl (fun t5 S5 => ?_) (.inr hln)
          refine wpAny_mono ((hsu a o4 cls d (X.pn ++ pins) z4 ⟨_, d4⟩).run [] t5 _ H2 _ S5 (hyes rfl a na)) (fun f t6 hsp => ?_) (fun _ _ z => False.elim z)
          have behind : ∀ {τ : L2.St} {H6 : Hp} {Q : Shared → Prop}, Inv (X.suite a ((a, o4) :: (X.pn ++ pins))) [] τ H6 t6 → (∀ t7, Inv X pins (τ.set i none) H6 t7 → Q t7) →
              wpAny (model X.prog X.w) X.A (do bindName X.env n .none; unbindBehindTheSuite X.env n p2) (fun _ t7 => Q t7) X.xe t6 := fun {τ H6 Q} S6 hq => gone_ok (S6.unsuite ok) hN hi hln hq
          cases f with
          | next => obtain ⟨τ, H6, S6, q6⟩ := hsp; exact behind S6 fun t7 J7 => ⟨_, _, J7, q6⟩
          | brk => obtain ⟨τ, H6, S6, q6⟩ := hsp; exact behind S6 fun t7 J7 => ⟨_, _, J7, q6⟩
          | cont => obtain ⟨τ, H6, S6, q6⟩ := hsp; exact behind S6 fun t7 J7 => ⟨_, _, J7, q6⟩
          | ret u => obtain ⟨v6, τ, H6, S6, r6, q6⟩ := hsp; exact behind S6 fun t7 J7 => ⟨_, _, _, J7, r6, q6⟩
        | false => exact ih (hno rfl)
    exact go hh wi
  · cases f with
    | next => obtain ⟨τ, H6, J6, q⟩ := hsp; exact wpAny_execs_nil ⟨τ, H6, J6.ofTry ok, q⟩
    | brk => obtain ⟨τ, H6, J6, q⟩ := hsp; exact ⟨τ, H6, J6.ofTry ok, q⟩
    | cont => obtain ⟨τ, H6, J6, q⟩ := hsp; exact ⟨τ, H6, J6.ofTry ok, q⟩
    | ret u => obtain ⟨v, τ, H6, J6, r, q⟩ := hsp; exact ⟨v, τ, H6, J6.ofTry ok, r, q⟩
end
end TryAs
set_option Elab.async false
set_option linter.all false
set_option maxRecDepth 100000
set_option maxHeartbeats 4000000
/-! Data of tuples, texts and ints alone do not rest on lists. -/
namespace GB
open PySem PySem.Spec L2
mutual
def tupO : PyData → Bool
  | .tuple ds => tupOs ds
  | .str _ => true
  | .int _ => true
  | _ => false
def tupOs : List PyData → Bool
  | [] => true
  | d :: r => tupO d && tupOs r
end
mutual
theorem tupO_d : ∀ t : Tm, tupO t.d = true
  | .mk w n ks => by
    rw [Tm.d]
    have h := tupO_ds ks
    split
    · simp [tupO, tupOs, h]
    · split
      · simp [tupO, tupOs, h]
      · split
        · simp [tupO, tupOs, h]
        · simp [tupO, tupOs]
theorem tupO_ds : ∀ ks : List Tm, tupOs (Tm.ds ks) = true
  | [] => rfl
  | k :: r => by rw [Tm.ds, tupOs, tupO_d k, tupO_ds r]; rfl
end
section
variable {K : PySem.W.Frag} {H : Hp} {ps : List Addr}
theorem sqT_hid (hl : ∀ p ∈ ps, ∃ xs, H p = some (.lst xs)) {a : Addr} {xs : List V} (h : SqT K H a xs) : SqT K (hid ps H) a xs := by
  have ni : ∀ o, H a = some o → (∀ ys, o ≠ .lst ys) → a ∉ ps := fun o e n m => by
    obtain ⟨ys, e2⟩ := hl a m
    rw [e] at e2
    exact n ys (Option.some.inj e2)
  rcases h with (h | ⟨o, h⟩) | h
  · exact .inl (.inl (hid_to (ni _ h (fun ys z => nomatch z)) h))
  · exact .inl (.inr ⟨o, hid_to (ni _ h (fun ys z => nomatch z)) h⟩)
  · exact .inr h
mutual
theorem dp_hid (hl : ∀ p ∈ ps, ∃ xs, H p = some (.lst xs)) : ∀ (d : PyData) (v : V), tupO d = true → Dp K H v d → Dp K (hid ps H) v d
  | .tuple ds, v, t, h => by
    cases h with
    | tup h1 h2 => exact .tup (sqT_hid hl h1) (dps_hid hl ds _ t h2)
  | .str _, v, _, h => by cases h; exact .str _
  | .int _, v, _, h => by cases h; exact .int _
  | .none, v, t, h => by cases t
  | .bool _, v, t, h => by cases t
  | .list _, v, t, h => by cases t
theorem dps_hid (hl : ∀ p ∈ ps, ∃ xs, H p = some (.lst xs)) : ∀ (ds : List PyData) (vs : List V), tupOs ds = true → DpAll K H vs ds → DpAll K (hid ps H) vs ds
  | [], vs, _, h => by cases h; exact .nil
  | d :: r, vs, t, h => by
    cases h with
    | cons h1 h2 =>
      rw [tupOs] at t
      obtain ⟨t1, t2⟩ := Bool.and_eq_true_iff.mp t
      exact .cons (dp_hid hl d _ t1 h1) (dps_hid hl r _ t2 h2)
end
end
theorem len_sizes : ∀ ks : List Tm, ks.length ≤ Tm.sizes ks
  | [] => Nat.le_refl _
  | k :: r => by
    have := len_sizes r
    have := size_pos k
    rw [Tm.sizes, List.length_cons]; omega
theorem catA {K : PySem.W.Frag} {H : Hp} {Q : VK} {a b : Addr} {xs ys : List V} (h1 : SqT K H a xs) (h2 : SqT K H b ys) (hl : xs.length + ys.length ≤ sizeLine) (q : ∀ p H', Same H H' → SqT K H' p (xs ++ ys) → Q (.ref p) H') : rCatA K (.ref a) (.ref b) H Q := by
  refine ⟨a, b, xs, ys, rfl, rfl, h1, h2, hl, fun e => ?_, fun _ e => ?_, fun _ _ p np => ?_⟩
  · subst e
    exact q b H (Same.refl _) h2
  · subst e
    exact q a H (Same.refl _) (by rw [List.append_nil]; exact h1)
  · obtain ⟨H1, s1, h1, e1⟩ := lay (o := .tup (xs ++ ys)) np
    rw [e1]
    exact q p H1 s1 (SqT.of h1)
theorem same_new {H : Hp} {D : Addr} {o : HO} (n : H D = none) : Same H (upd H D o) := fun b u e => by rw [upd_ne (ne_of_none e n)]; exact e
theorem take_at {α : Type} {l : List α} {i : Nat} {x : α} (h : l[i]? = some x) : l.take (i + 1) = l.take i ++ [x] := by
  obtain ⟨hi, rfl⟩ := List.getElem?_eq_some_iff.mp h
  exact List.take_succ_eq_append_getElem hi
end GB
set_option Elab.async false
set_option linter.all false
set_option maxRecDepth 100000
set_option maxHeartbeats 8000000
namespace GB
open PySem PySem.Spec L2
mutual
/-- the paths of all parts, a part ahead of those within it -/
def Tm.paths : Tm → List Nat → List (List Nat)
  | .mk _ _ ks, p => p :: Tm.pathsL ks p 0
def Tm.pathsL : List Tm → List Nat → Nat → List (List Nat)
  | [], _, _ => []
  | k :: r, p, i => k.paths (p ++ [i]) ++ Tm.pathsL r p (i + 1)
end
mutual
theorem paths_len : ∀ (t : Tm) (p : List Nat), (t.paths p).length = t.size
  | .mk _ _ ks, p => by rw [Tm.paths, Tm.size, List.length_cons, pathsL_len ks p 0]
theorem pathsL_len : ∀ (ks : List Tm) (p : List Nat) (i : Nat), (Tm.pathsL ks p i).length = Tm.sizes ks
  | [], _, _ => rfl
  | k :: r, p, i => by rw [Tm.pathsL, Tm.sizes, List.length_append, paths_len k, pathsL_len r]
end
theorem pathsL_app : ∀ (l : List Tm) (k : Tm) (p : List Nat) (i : Nat), Tm.pathsL (l ++ [k]) p i = Tm.pathsL l p i ++ k.paths (p ++ [i + l.length])
  | [], k, p, i => by simp [Tm.pathsL]
  | a :: r, k, p, i => by
    rw [List.cons_append, Tm.pathsL, Tm.pathsL, pathsL_app r k p (i + 1), List.append_assoc, List.length_cons]
    congr 4
    simp only [List.cons.injEq, and_true]
    omega
def pin (p : List Nat) : List V := p.map fun i : Nat => V.int (i : Int)
theorem sizes_app : ∀ a b : List Tm, Tm.sizes (a ++ b) = Tm.sizes a + Tm.sizes b
  | [], b => by rw [List.nil_append, Tm.sizes, Nat.zero_add]
  | k :: r, b => by rw [List.cons_append, Tm.sizes, Tm.sizes, sizes_app r b, Nat.add_assoc]
theorem sizes_take (ks : List Tm) (i : Nat) : Tm.sizes (ks.take i) ≤ Tm.sizes ks := by
  have := sizes_app (ks.take i) (ks.drop i)
  rw [List.take_append_drop] at this
  omega
def pathD (p : List Nat) : PyData := .tuple (p.map fun i : Nat => PyData.int (i : Int))
theorem tupO_path (p : List Nat) : tupO (pathD p) = true := by
  show tupOs (p.map fun i : Nat => PyData.int (i : Int)) = true
  induction p with
  | nil => rfl
  | cons i r ih => rw [List.map_cons, tupOs, ih]; rfl
theorem tupOs_paths (l : List (List Nat)) : tupOs (l.map pathD) = true := by
  induction l with
  | nil => rfl
  | cons p r ih => rw [List.map_cons, tupOs, ih, tupO_path]; rfl
theorem dps_pin {K : PySem.W.Frag} {H : Hp} : ∀ p : List Nat, DpAll K H (pin p) (p.map fun i : Nat => PyData.int (i : Int))
  | [] => .nil
  | i :: r => .cons (.int _) (dps_pin r)
end GB
set_option Elab.async false
set_option linter.all false
set_option maxRecDepth 100000
set_option maxHeartbeats 4000000
namespace GB
open PySem PySem.Spec L2 PyProof.Rows
/-! what is walked is a list or a tuple -/
def iSeqW (K : PySem.W.Frag) (te : TE) : TI := fun σ H R => te σ H fun v H1 => ∃ (a : Addr) (xs : List V) (b : Bool) (ps : List Addr), v = .ref a ∧ SqV K (hid ps H1) a xs b ∧ ∀ (J : It), Walk J xs.length (fun H => SqV K (hid ps H) a xs b) (YAt xs) → R J H1
theorem pi_seqW {X : Cx} {tg l : Expr} {tl : TE} (hl : PE X l tl) : PI X tg l (iSeqW X.K tl) := by
  refine ⟨fun pins s σ H R I h => ?_⟩
  refine thn (hl.run pins s σ H _ I h) fun v s1 ⟨x, H1, I1, r1, q1⟩ => ?_
  obtain ⟨a, xs, kb, ps, e, hh, q⟩ := q1
  subst e
  cases r1
  cases kb with
  | true =>
    have hq := (hid_low ps H1).seq (show SqL X.K (hid ps H1) a xs from hh)
    obtain ⟨its, rv, p, hz⟩ := I1.list hq
    refine wpAny_pyIter_list p.isList ?_
    refine ⟨s1.heap.objs.size, [s1.heap.objs.size], _, _, H1, rfl, I1.kept (t' := s1.toks) fun b o e => Heap.get?_push_of_some _ e, turn_list a _, ⟨_, Heap.get?_push_size _ rfl, rfl, rfl⟩, fun b hb => ?_, q _ (walk_list.mono (fun H' h => (hid_low ps H').seq h) fun _ _ _ _ _ _ y => y)⟩
    have e : b = s1.heap.objs.size := by simpa using hb
    subst e
    exact I1.fpOk (Nat.le_refl _) (I1.hok.fresh (Nat.le_refl _))
  | false =>
    have hq := Same.seqT (hid_low ps H1) (show SqT X.K (hid ps H1) a xs from hh)
    obtain ⟨its, rv, p, hz⟩ := I1.tuple hq
    refine wpAny_pyIter_tuple (show s1.heap.IsTuple a its.toArray from p) ?_
    refine ⟨s1.heap.objs.size, [s1.heap.objs.size], _, _, H1, rfl, I1.kept (t' := s1.toks) fun b o e => Heap.get?_push_of_some _ e, turn_tuple a _, ⟨_, Heap.get?_push_size _ rfl, rfl, rfl⟩, fun b hb => ?_, q _ (walk_tup.mono (fun H' h => Same.seqT (hid_low ps H') h) fun _ _ _ _ _ _ y => y)⟩
    have e : b = s1.heap.objs.size := by simpa using hb
    subst e
    exact I1.fpOk (Nat.le_refl _) (I1.hok.fresh (Nat.le_refl _))
/-! paths -/
def atP : Tm → List V → Option Tm
  | t, [] => some t
  | .mk _ _ ks, .int i :: r => if 0 ≤ i ∧ i < ks.length then (match ks[i.toNat]? with | some k => atP k r | none => none) else none
  | _, _ :: _ => none
theorem atP_app : ∀ (a b : List V) (t : Tm), atP t (a ++ b) = (atP t a).bind fun s => atP s b
  | [], b, t => rfl
  | y :: a, b, .mk w n ks => by
    cases y with
    | int i =>
      rw [List.cons_append]
      simp only [atP]
      split
      · cases ks[i.toNat]? with
        | none => rfl
        | some k => exact atP_app a b k
      · rfl
    | _ => rfl
inductive NumV (K : PySem.W.Frag) (H : Hp) : V → Prop
  | int (i : Int) : NumV K H (.int i)
  | no {y t b1 b2} : (∀ i, y ≠ .int i) → (∀ H', Same H H' → TyX K H' y t) → PySem.W.kitOne K t (.type "int") = some b1 → PySem.W.kitOne K t (.type "bool") = some b2 → (b1 && !b2) = false → NumV K H y
inductive PathX (K : PySem.W.Frag) (H : Hp) : V → Option (List V) → Prop
  | no {x t} : (∀ H', Same H H' → TyX K H' x t) → PySem.W.kitAny K t [.type "list", .type "tuple"] = some false → PathX K H x none
  | seq {p xs} : SqA K H p xs → (∀ y ∈ xs, NumV K H y) → PathX K H (.ref p) (some xs)
def atX (t : Tm) (o : Option (List V)) : Option Tm := o.bind (atP t)
def spInitE (C : Addr) (f : Str) : Sp := fun vs H Q _ => ∃ (a : Addr) (y : V), vs = [.ref a, y] ∧ H a = some (exo a C none) ∧ ∀ d, H d = none → d ≠ a → Q .non (upd (upd H d (exd d [(f, y)])) a (exo a C (some d)))
/-- an error class of the package, n, with one field f -/
structure ErrC (P : Program) (w : World) (K : PySem.W.Frag) (mg : Str → Option Value) (base : Heap) (n f : Str) (C : Addr) : Prop where
  gC : mg n = some (.ref C)
  T : OexC K C
  ini : ∃ (fI : Addr) (fd : FuncData), PySem.W.findIn K (.ref C) "__init__" = some (some (.ref fI)) ∧ PySem.W.typeIn K (.ref fI) = some (.type "function") ∧ FnOk P w K mg base CX0 1 fI fd ["self", f] (spInitE C f) ∧ Binds K fd ["self", f] []
theorem mk_err {C : Addr} {f : Str} {x : V} {H : Hp} {Q : XK} (q : ∀ d H', Same H H' → H' d = some (.xd [(f, x)]) → Q (.ref C) (some d) H') (a : Addr) (na : H a = none) :
    spInitE C f (.ref a :: ([x] ++ [])) (upd H a (exo a C none)) (fun v H2 => v = .non ∧ ∃ (d : Addr) (fs : List (Str × V)), H2 a = some (exo a C (some d)) ∧ H2 d = some (exd d fs) ∧ H d = none ∧ Q (.ref C) (some d) (upd (del H2 a) d (.xd fs))) (fun _ _ _ => False) := by
  refine ⟨a, x, rfl, upd_same, fun d nd ne => ⟨rfl, d, [(f, x)], upd_same, by rw [upd_ne ne]; exact upd_same, ?_, q d _ (fun b o e => ?_) upd_same⟩⟩
  · rw [upd_ne ne] at nd
    exact nd
  · have ba : b ≠ a := ne_of_none e na
    rw [upd_ne ne] at nd
    have bd : b ≠ d := ne_of_none e nd
    rw [upd_ne bd, del_ne ba, upd_ne ba, upd_ne bd, upd_ne ba]
    exact e
theorem NumV.mono {K : PySem.W.Frag} {H H' : Hp} (s : Same H H') {y : V} (h : NumV K H y) : NumV K H' y := by
  cases h with
  | int i => exact .int i
  | no h1 h2 h3 h4 h5 => exact .no h1 (fun H2 s2 => h2 H2 (s.trans s2)) h3 h4 h5
theorem PathX.mono {K : PySem.W.Frag} {H H' : Hp} (s : Same H H') {x : V} {o : Option (List V)} (h : PathX K H x o) : PathX K H' x o := by
  cases h with
  | no h1 h2 => exact .no (fun H2 s2 => h1 H2 (s.trans s2)) h2
  | seq h1 h2 => exact .seq (h1.mono s) fun y hy => (h2 y hy).mono s
end GB
set_option Elab.async false
set_option linter.all false
set_option autoImplicit false
set_option maxRecDepth 100000
set_option maxHeartbeats 8000000
namespace K27
open PySem PySem.Spec L2 GB
abbrev sTxt : Stmt := topS 25
abbrev sAh : Stmt := topS 26
def txtN : List Str := ["term", "things", "part"]
/-- the module's WORDS -/
def Wds (K : PySem.W.Frag) (mg : Str → Option Value) : Prop := ∃ a, mg "WORDS" = some (.ref a) ∧ ∀ H, SqT K H a (sts wdsW)
def dotS (n : Str) : Str := if n ∈ wdsW then "." ++ n else n
def spAh : Sp := fun vs H Q _ => ∃ n : Str, vs = [.str n] ∧ n.length ≤ 8 ∧ Q (.str (dotS n)) H
def spTxt (K : PySem.W.Frag) (z : Nat) : Sp := fun vs H Q _ => ∃ (v : V) (L : List (Str × Nat)) (ns : List Str) (t : GB.Tm), vs = [v] ∧ Dp K H v t.d ∧ (∀ q ∈ L, nameB q.1 = true) ∧ TmOk L ns t ∧ t.size ≤ z ∧ z ≤ 60 ∧ ∀ H', Same H H' → Q (.str (txS t)) H'
section
variable {P : Program} {w : World} {K : PySem.W.Frag} {mg : Str → Option Value} {base : Heap}
theorem scAh : FnScope ["letter"] ["letter"] (defScope sAh) := ⟨rfl, rfl, rfl, by decide +kernel, rfl, by decide +kernel, by decide +kernel⟩
theorem scTxt : FnScope txtN ["term"] (defScope sTxt) := ⟨rfl, rfl, rfl, by decide +kernel, rfl, by decide +kernel, by decide +kernel⟩
theorem ok_ah {f : Addr} {fd : FuncData} (F : Fun K "_ahead_of_brackets" "_ahead_of_brackets" sAh f fd) (W : Wds K mg) : FnOk P w K mg base CX0 1 f fd ["letter"] spAh := by
  obtain ⟨aN, gN, hN⟩ := W
  refine F.ok scAh (fun vs H Q E h => ?_) (fun cdv A outer s H vs Q E hr h => ?_)
  · obtain ⟨n, rfl, _⟩ := h
    rfl
  · obtain ⟨n, rfl, hn, q⟩ := h
    refine ⟨_, pss_one (ps_ret (pe_ifExp (pt_cmpR op_in_seq (pv 0) (pe_glob (v := .ref aN) rfl gN rfl) (by rfl)) (pe_op op_add_str (pe_str) (pv 0)) (pv 0))), ?_⟩
    refine ⟨_, rfl, aN, sts wdsW, rfl, .inr (hN H), rfl, flat_sts _, _, rfl, ?_⟩
    rw [show (if false = true then !inV (.str n) (sts wdsW) else inV (.str n) (sts wdsW)) = decide (n ∈ wdsW) from inV_sts n wdsW]
    unfold dotS at q
    by_cases c : n ∈ wdsW
    · rw [decide_eq_true c]
      rw [if_pos c] at q
      refine iteT ?_
      exact ⟨_, rfl, _, _, rfl, rfl, by show 1 + n.length ≤ sizeLine; rw [sizeLine_eq]; omega, q⟩
    · rw [decide_eq_false c]
      rw [if_neg c] at q
      refine iteF ?_
      exact ⟨_, rfl, q⟩
theorem tx_lc {z : Nat} {J : It} {σ : L2.St} {H1 : Hp} {D q : Addr} {vs : List V} {kb : Bool} {ks : List GB.Tm} {L : List (Str × Nat)} {Qd : Hp → Prop}
    (hσ : ∀ v, wipe ((wipe σ [2]).set 2 (some v)) [2] = wipe σ [2] ∧ ((wipe σ [2]).set 2 (some v))[2]? = some (some v))
    (nD : H1 D = none) (WJ : Walk J vs.length (fun H => SqV K (hid [] H) q vs kb) (YAt vs)) (hq : SqV K (hid [] H1) q vs kb) (hd : DpAll K H1 vs (ks.map GB.Tm.d)) (hL : ∀ q ∈ L, nameB q.1 = true) (ho : ∀ k ∈ ks, ∃ ns, TmOk L ns k) (hz : GB.Tm.sizes ks ≤ z) (hz2 : z ≤ 60)
    (done : ∀ H', Same H1 H' → H' D = some (.lst (ks.map fun k => V.str (txS k))) → Qd H') :
    ∃ W : Nat → Nat → Hp → Prop, (∃ m, W 0 m (upd H1 D (.lst []))) ∧ ∀ i m H, W i m H →
      (J.stop i H ∧ Qd H) ∨ (J.go i H ∧ ∃ Nx : Hp → Prop, (∀ H', Nx H' → ∃ m', m' < m ∧ W (i + 1) m' H') ∧ ∀ x H', J.yld i H x H' → gName 2 x (wipe σ [2]) H' fun σ2 H2 => wipe σ2 [2] = wipe σ [2] ∧ tYes σ2 H2 fun b H3 =>
        if b = true then tCall (spTxt K z) [] E0 (tCons (tVar 2) tNil) σ2 H3 fun y H4 => ∃ acc, H4 D = some (.lst acc) ∧ acc.length < sizeLine ∧ Nx (upd H4 D (.lst (acc ++ [y]))) else Nx H3) := by
  have hvl : vs.length = ks.length := (dps_len hd).trans (List.length_map _)
  have h0 : ∀ {A B : Hp}, Same A B → Same (hid [] A) (hid [] B) := fun s => hid_same s
  refine lc_it WJ (fun i H' => Same H1 H' ∧ H' D = some (.lst ((ks.take i).map fun k => V.str (txS k)))) ⟨same_new nD, upd_same⟩ (fun i H' _ h => hq.mono (h0 h.1)) ?_ ?_
  · rintro i y H2 H2' hi ⟨s2, hD⟩ ⟨rfl, hyi⟩
    obtain ⟨w1, w2⟩ := hσ y
    refine ⟨w1, ?_⟩
    obtain ⟨d, hdi, Dy⟩ := dps_at hd hyi
    rw [List.getElem?_map] at hdi
    have hik : i < ks.length := by omega
    have hki : ks[i]? = some ks[i] := List.getElem?_eq_getElem hik
    rw [hki] at hdi
    obtain rfl := Option.some.inj hdi
    obtain ⟨ns, o⟩ := ho _ (List.getElem_mem hik)
    have hsz := sizes_mem (List.mem_of_getElem? hki)
    have hll := len_sizes ks
    refine ⟨_, w2, y, L, ns, ks[i], rfl, dp_mono s2 Dy, hL, o, by omega, hz2, fun H3 s3 => ?_⟩
    refine ⟨_, s3 _ _ hD, by rw [List.length_map, List.length_take, sizeLine_eq]; omega, fun b o e => ?_, ?_⟩
    · rw [upd_ne (ne_of_none e nD)]; exact s3 _ _ (s2 _ _ e)
    · rw [upd_same, take_at hki, List.map_append]
      rfl
  · rintro H3 ⟨s3, hD⟩
    rw [List.take_of_length_le (by omega)] at hD
    exact done H3 s3 hD
theorem ok_txt {f : Addr} {fd : FuncData} (F : Fun K "text_of" "text_of" sTxt f fd) (T : Bl mg) (mgF : mg "text_of" = some (.ref f)) (kF : PySem.W.keepIn K (.ref f) = true) (bF : Binds K fd ["term"] [])
    (AH : Fns P w K mg base "_ahead_of_brackets" 1 ["letter"] spAh) (TI : Fns P w K mg base "terms_in" 1 ["term"] (spTin K)) : ∀ z : Nat, FnOk P w K mg base CX0 (2 + z) f fd ["term"] (spTxt K z) := by
  intro z
  induction z with
  | zero =>
    refine F.ok scTxt (fun vs H Q E h => ?_) (fun cdv A outer s H vs Q E hr h => ?_)
    · obtain ⟨v, L, ns, t, rfl, _⟩ := h
      rfl
    · obtain ⟨v, L, ns, t, rfl, _, _, _, h, _⟩ := h
      exact absurd h (by have := size_pos t; omega)
  | succ z ih =>
    have TX : Fns P w K mg base "text_of" (2 + z) ["term"] (spTxt K z) := ⟨f, fd, ih, mgF, kF, bF⟩
    refine F.ok scTxt (fun vs H Q E h => ?_) (fun cdv A outer s H vs Q E hr h => ?_)
    · obtain ⟨v, L, ns, t, rfl, _⟩ := h
      rfl
    · obtain ⟨v, L, ns, t, rfl, hd, hL, ho, hz, hz2, q⟩ := h
      have l1 : 1 ≤ 2 + z := by omega
      have lz : 2 + z ≤ 2 + z := by omega
      refine ⟨_, pss_cons (ps_if (pt_cmpR op_eq (pe_ix ix_seq (pv 0) (pe_int) (fun _ _ => rfl)) (pe_str) (nomark _)) (pss_one (ps_ret (pe_op op_add_str (pe_str) (pe_ix ix_seq (pv 0) (pe_int) (fun _ _ => rfl))))) (pss_nil)) (pss_cons (ps_if (pt_cmpR op_eq (pe_ix ix_seq (pv 0) (pe_int) (fun _ _ => rfl)) (pe_str) (nomark _)) (pss_one (ps_ret (pe_ix ix_seq (pv 0) (pe_int) (fun _ _ => rfl)))) (pss_nil)) (pss_cons (ps_if (pt_cmpR op_eq (pe_ix ix_seq (pv 0) (pe_int) (fun _ _ => rfl)) (pe_str) (nomark _)) (pss_one (ps_ret (pe_joined (.cons pe_str (.cons (pe_fmt (pe_ix ix_seq (pv 0) (pe_int) (fun _ _ => rfl))) (.cons pe_str .nil)))))) (pss_nil)) (pss_cons (ps_setLc (i := 1) (own := [("part", 2)]) (g := gName 2) (tt := tYes) rfl scTxt.nd rfl rfl (sw_true rfl rfl rfl (by decide +kernel)) (pi_seqW (pe_fn TI hr l1 rfl (pa_cons (pv 0) (pa_nil)))) (blkOk_by (own := [("part", 2)]) (N := txtN) (sc := defScope sTxt) (by decide +kernel)) (fun _ _ _ _ _ => pg_name (i := 2) scTxt.nd rfl (.inl rfl)) (fun _ _ _ _ _ => pts_nil) (fun _ _ _ _ _ => pe_fn TX hr lz rfl (pa_cons (pv 2) (pa_nil)))) (pss_cons (ps_if (pt_cmpR op_eq (pe_ix ix_seq (pv 0) (pe_int) (fun _ _ => rfl)) (pe_str) (nomark _)) (pss_one (ps_ret (pe_joined (.cons (pe_fmt (pe_fn AH hr l1 rfl (pa_cons (pe_ix ix_seq (pv 0) (pe_int) (fun _ _ => rfl)) (pa_nil)))) (.cons pe_str (.cons (pe_fmt (pe_join pe_str (pv 1))) (.cons pe_str .nil))))))) (pss_nil)) (pss_cons (ps_if (pt_cmpR op_eq (pe_ix ix_seq (pv 0) (pe_int) (fun _ _ => rfl)) (pe_str) (nomark _)) (pss_one (ps_set (i := 1) scTxt.nd rfl (.inl rfl) (pe_lst (pa_cons (pe_ix ix_seq (pv 0) (pe_int) (fun _ _ => rfl)) (StX.pa_star (pv 1) (pa_nil)))))) (pss_nil)) (pss_one (ps_ret (pe_joined (.cons (pe_fmt (pe_ix ix_seq (pv 0) (pe_int) (fun _ _ => rfl))) (.cons pe_str (.cons (pe_fmt (pe_join pe_str (pv 1))) (.cons pe_str .nil)))))))))))), ?_⟩
      cases ho with
      | @mk _ wd nm ks hH hK =>
      obtain ⟨p, vs, rfl, hV, hvd⟩ := nodeV hd (nodeD_own hH)
      have hvl : vs.length = ks.length := (dps_len hvd).trans (List.length_map _)
      have hks : ∀ k ∈ ks, ∃ ns, TmOk L ns k := fun k hk => by
        obtain ⟨i, hi⟩ := List.mem_iff_getElem?.mp hk
        exact ⟨_, hK i k hi⟩
      obtain ⟨lA, lR⟩ := txs_len hL ks hks
      rw [GB.Tm.size] at hz
      have fin : ∀ {r : Str} {H1 : Hp}, Same H H1 → cl r = txL (.mk wd nm ks) → Q (.str r) H1 := fun {r H1} s e => by rw [eq_txS e]; exact q H1 s
      have leaf : ∀ {x : Str}, wd = x → x ∈ nmd → vs = [] → SqA K H p [.str wd, .str nm] ∧ ks = [] ∧ nameB nm = true := fun {x} e hx hv => by
        subst hv
        have k0 : ks = [] := List.eq_nil_of_length_eq_zero hvl.symm
        have no : wd ∉ opsW.map (·.1) := by rw [e]; exact (show ∀ y ∈ nmd, y ∉ opsW.map (·.1) by decide) _ hx
        refine ⟨?_, k0, nameB_of hL hH no⟩
        rcases hV.kind with ⟨hw, _, hs⟩ | ⟨h, _⟩ | ⟨h, _⟩ | ⟨⟨m, h⟩, _⟩
        · exact hs
        · exact absurd (e.symm.trans h ▸ hx) (by decide)
        · exact absurd (e.symm.trans h ▸ hx) (by decide)
        · exact absurd (List.mem_map.mpr ⟨_, h, rfl⟩) no
      have l8 : ∀ {x : Str}, nameB x = true → x.length ≤ 8 := fun h => by rw [cl_len]; exact (nameB_ltr h).2.2
      have e0 : cl Str.empty = [] := rfl
      have e0l : (cl Str.empty).length = 0 := rfl
      have e1 : (cl "(").length = 1 := by decide +kernel
      have e2 : (cl ")").length = 1 := by decide +kernel
      have lsum := sum_len hL ks hks
      have lks := len_sizes ks
      have lc : ∀ {x : Str}, nameB x = true → (cl x).length ≤ 8 := fun h => (nameB_ltr h).2.2
      rcases hV.kind with ⟨hw, hv0, hs⟩ | ⟨rfl, qq, hs, hq⟩ | ⟨rfl, hs⟩ | ⟨⟨m, hm⟩, rfl, hs⟩
      · have : ∀ x ∈ nmd, x = "value" ∨ x = "name" ∨ x = "fail" := by decide
        rcases this _ hw with rfl | rfl | rfl
        · obtain ⟨_, rfl, nb⟩ := leaf rfl hw hv0
          have := l8 nb
          refine ⟨_, rfl, ixA hs 0 rfl ⟨rfl, _, rfl, ?_⟩⟩
          refine iteT ?_
          refine ⟨_, rfl, ixA hs 1 rfl ⟨_, _, rfl, rfl, by show 1 + nm.length ≤ sizeLine; rw [sizeLine_eq]; omega, ?_⟩⟩
          exact fin (Same.refl _) (by rw [cl_app, txL, if_pos rfl]; rfl)
        · obtain ⟨_, rfl, nb⟩ := leaf rfl hw hv0
          refine ⟨_, rfl, ixA hs 0 rfl ⟨rfl, _, rfl, ?_⟩⟩
          refine iteF ?_
          refine ⟨_, rfl, ixA hs 0 rfl ⟨rfl, _, rfl, ?_⟩⟩
          refine iteT ?_
          refine ⟨_, rfl, ixA hs 1 rfl ?_⟩
          exact fin (Same.refl _) (by rw [txL, if_neg (by decide), if_pos rfl])
        · obtain ⟨_, rfl, nb⟩ := leaf rfl hw hv0
          have := l8 nb
          refine ⟨_, rfl, ixA hs 0 rfl ⟨rfl, _, rfl, ?_⟩⟩
          refine iteF ?_
          refine ⟨_, rfl, ixA hs 0 rfl ⟨rfl, _, rfl, ?_⟩⟩
          refine iteF ?_
          refine ⟨_, rfl, ixA hs 0 rfl ⟨rfl, _, rfl, ?_⟩⟩
          refine iteT ?_
          refine ⟨_, rfl, by decide +kernel, _, rfl, ixA hs 1 rfl (.inl ⟨_, rfl, by rw [sizeLine_eq]; omega, _, rfl, ?_, _, rfl, ?_, ?_⟩)⟩
          · rw [cl_len, cl_app, cl_app, List.length_append, ← cl_len nm, sizeLine_eq]
            have : (cl Str.empty ++ cl "fail(").length = 5 := by decide +kernel
            omega
          · rw [cl_len, cl_app, cl_app, cl_app, List.length_append, List.length_append, ← cl_len nm, sizeLine_eq]
            have : (cl Str.empty ++ cl "fail(").length = 5 := by decide +kernel
            have : (cl ")").length = 1 := by decide +kernel
            omega
          · refine fin (Same.refl _) ?_
            rw [cl_app, cl_app, cl_app, txL, if_neg (by decide), if_neg (by decide), if_pos rfl]
            have e : cl Str.empty ++ cl "fail(" = cl "fail" ++ [40] := by decide +kernel
            rw [e, List.append_assoc, List.append_assoc]
            rfl
      · have nb : nameB nm = true := nameB_of hL hH (by decide)
        have := l8 nb
        have ln := lc nb
        have l9 : (dotS nm).length ≤ 9 := by
          unfold dotS
          split
          · rw [cl_len, cl_app, List.length_append, ← cl_len nm]
            have : (cl ".").length = 1 := by decide +kernel
            omega
          · omega
        have l9c : (cl (dotS nm)).length ≤ 9 := by rw [← cl_len]; exact l9
        refine ⟨_, rfl, ixA hs 0 rfl ⟨rfl, _, rfl, ?_⟩⟩
        refine iteF ?_
        refine ⟨_, rfl, ixA hs 0 rfl ⟨rfl, _, rfl, ?_⟩⟩
        refine iteF ?_
        refine ⟨_, rfl, ixA hs 0 rfl ⟨rfl, _, rfl, ?_⟩⟩
        refine iteF ?_
        refine ⟨_, rfl, p, "use", nm, vs, [], rfl, (fun q hq => nomatch hq), hV.mono (fun b o e => hid_to (by simp) e), fun q1 H1 s1 hq1 => ?_⟩
        obtain ⟨kb, hqv⟩ := sqV hq1
        refine ⟨q1, vs, kb, [], rfl, hqv, fun J WJ D nD => ?_⟩
        refine tx_lc (L := L) (fun _ => ⟨rfl, rfl⟩) nD WJ hqv (dps_mono s1 hvd) hL hks (by omega) (by omega) fun H2 s2 hD => ?_
        have hs2 := hs.mono (s1.trans s2)
        refine ⟨_, rfl, ixA hs2 0 rfl ⟨rfl, _, rfl, ?_⟩⟩
        refine iteT ?_
        have lj : (Txt.join ", " (ks.map txS)).length ≤ 1300 := by rw [cl_len, cl_join]; omega
        have ty : SqL K H2 D ((ks.map txS).map V.str) := by
          rw [List.map_map]
          exact SqL.of hD
        refine ⟨_, rfl, ixA hs2 1 rfl ⟨nm, rfl, by omega, .inl ⟨_, rfl, by rw [sizeLine_eq]; omega, _, rfl, ?_, _, rfl, ?_, ⟨_, rfl⟩, _, rfl, _, D, ks.map txS, rfl, rfl, .inl ty, ?_, .inl ⟨_, rfl, by rw [sizeLine_eq]; omega, _, rfl, ?_, _, rfl, ?_, ?_⟩⟩⟩⟩
        all_goals try simp only [cl_len, cl_app, List.length_append, cl_join, sizeLine_eq]
        all_goals try omega
        · have e1 : ((ks.map txS).map fun x => (cl x).length) = (ks.map txS).map (·.length) := by
            congr 1
          rw [e1, List.length_map]
          have : (cl ", ").length = 2 := by decide +kernel
          rw [this]
          omega
        · refine fin (s1.trans s2) ?_
          rw [cl_app, cl_app, cl_app, cl_app, cl_join, txL, if_neg (by decide), if_neg (by decide), if_neg (by decide), if_pos rfl, e0]
          have ed : cl (dotS nm) = (if nm ∈ wdsW then [46] else []) ++ cl nm := by
            unfold dotS
            split
            · rw [cl_app]; rfl
            · rfl
          rw [ed]
          simp only [List.nil_append, List.append_assoc]
          rfl
      · have nb : nameB nm = true := nameB_of hL hH (by decide)
        have ln := lc nb
        have l4 : (cl "bind").length = 4 := by decide +kernel
        refine ⟨_, rfl, ixA hs 0 rfl ⟨rfl, _, rfl, ?_⟩⟩
        refine iteF ?_
        refine ⟨_, rfl, ixA hs 0 rfl ⟨rfl, _, rfl, ?_⟩⟩
        refine iteF ?_
        refine ⟨_, rfl, ixA hs 0 rfl ⟨rfl, _, rfl, ?_⟩⟩
        refine iteF ?_
        refine ⟨_, rfl, p, _, nm, vs, [], rfl, (fun q hq => nomatch hq), hV.mono (fun b o e => hid_to (by simp) e), fun q1 H1 s1 hq1 => ?_⟩
        obtain ⟨kb, hqv⟩ := sqV hq1
        refine ⟨q1, vs, kb, [], rfl, hqv, fun J WJ D nD => ?_⟩
        refine tx_lc (L := L) (fun _ => ⟨rfl, rfl⟩) nD WJ hqv (dps_mono s1 hvd) hL hks (by omega) (by omega) fun H2 s2 hD => ?_
        have hs2 := hs.mono (s1.trans s2)
        refine ⟨_, rfl, ixA hs2 0 rfl ⟨rfl, _, rfl, ?_⟩⟩
        refine iteF ?_
        refine ⟨_, rfl, ixA hs2 0 rfl ⟨rfl, _, rfl, ?_⟩⟩
        refine iteT ?_
        refine ⟨_, rfl, ixA hs2 1 rfl ⟨_, rfl, D, _, rfl, .inr (SqL.of hD), by simp [sizeLine_eq]; omega, fun D2 nD2 => ?_⟩⟩
        obtain ⟨H3, s3, h3, q3⟩ := lay (o := .lst (.str nm :: ((ks.map fun k => V.str (txS k)) ++ []))) nD2
        rw [q3]
        rw [List.append_nil] at h3
        have hs3 := hs2.mono s3
        have lj : (Txt.join ", " (nm :: ks.map txS)).length ≤ 1300 := by rw [cl_len, cl_join1, List.length_append]; omega
        have ty : SqL K H3 D2 ((nm :: ks.map txS).map V.str) := by
          rw [List.map_cons, List.map_map]
          exact SqL.of h3
        refine ⟨_, rfl, ixA hs3 0 rfl (.inl ⟨_, rfl, by decide +kernel, _, rfl, ?_, _, rfl, ?_, ⟨_, rfl⟩, _, rfl, _, D2, nm :: ks.map txS, rfl, rfl, .inl ty, ?_, .inl ⟨_, rfl, by rw [sizeLine_eq]; omega, _, rfl, ?_, _, rfl, ?_, ?_⟩⟩)⟩
        all_goals try simp only [cl_len, cl_app, List.length_append, cl_join1, sizeLine_eq]
        all_goals try omega
        · have e1 : ((nm :: ks.map txS).map fun x => (cl x).length) = (nm :: ks.map txS).map (·.length) := by
            congr 1
          rw [e1, List.length_cons, List.length_map, List.map_cons, List.sum_cons, cl_len]
          have : (cl ", ").length = 2 := by decide +kernel
          rw [this]
          omega
        · refine fin ((s1.trans s2).trans s3) ?_
          rw [cl_app, cl_app, cl_app, cl_app, cl_join1, txL, if_neg (by decide), if_neg (by decide), if_neg (by decide), if_neg (by decide), if_pos rfl, e0]
          simp only [List.nil_append, List.append_assoc]
          rfl
      · obtain ⟨n1, n2, n3⟩ := ops_no _ hm
        have nv : wd ≠ "value" ∧ wd ≠ "name" ∧ wd ≠ "fail" := by
          have n1 : wd ∉ nmd := n1
          exact ⟨fun e => n1 (by rw [e]; decide), fun e => n1 (by rw [e]; decide), fun e => n1 (by rw [e]; decide)⟩
        have lw : (cl wd).length ≤ 5 := (show ∀ q ∈ opsW, (cl q.1).length ≤ 5 by decide +kernel) _ hm
        refine ⟨_, rfl, ixA hs 0 rfl ⟨rfl, _, rfl, ?_⟩⟩
        rw [decS, decide_eq_false nv.1]
        refine iteF ?_
        refine ⟨_, rfl, ixA hs 0 rfl ⟨rfl, _, rfl, ?_⟩⟩
        rw [decS, decide_eq_false nv.2.1]
        refine iteF ?_
        refine ⟨_, rfl, ixA hs 0 rfl ⟨rfl, _, rfl, ?_⟩⟩
        rw [decS, decide_eq_false nv.2.2]
        refine iteF ?_
        refine ⟨_, rfl, p, _, _, vs, [], rfl, (fun q hq => nomatch hq), hV.mono (fun b o e => hid_to (by simp) e), fun q1 H1 s1 hq1 => ?_⟩
        obtain ⟨kb, hqv⟩ := sqV hq1
        refine ⟨q1, vs, kb, [], rfl, hqv, fun J WJ D nD => ?_⟩
        refine tx_lc (L := L) (fun _ => ⟨rfl, rfl⟩) nD WJ hqv (dps_mono s1 hvd) hL hks (by omega) (by omega) fun H2 s2 hD => ?_
        have hs2 := hs.mono (s1.trans s2)
        refine ⟨_, rfl, ixA hs2 0 rfl ⟨rfl, _, rfl, ?_⟩⟩
        rw [decS, decide_eq_false n2]
        refine iteF ?_
        refine ⟨_, rfl, ixA hs2 0 rfl ⟨rfl, _, rfl, ?_⟩⟩
        rw [decS, decide_eq_false n3]
        refine iteF ?_
        have lj : (Txt.join ", " (ks.map txS)).length ≤ 1300 := by rw [cl_len, cl_join]; omega
        have ty : SqL K H2 D ((ks.map txS).map V.str) := by
          rw [List.map_map]
          exact SqL.of hD
        refine ⟨_, rfl, ixA hs2 0 rfl (.inl ⟨_, rfl, by rw [cl_len, sizeLine_eq]; omega, _, rfl, ?_, _, rfl, ?_, ⟨_, rfl⟩, _, rfl, _, D, ks.map txS, rfl, rfl, .inl ty, ?_, .inl ⟨_, rfl, by rw [sizeLine_eq]; omega, _, rfl, ?_, _, rfl, ?_, ?_⟩⟩)⟩
        all_goals try simp only [cl_len, cl_app, List.length_append, cl_join, sizeLine_eq]
        all_goals try omega
        · have e1 : ((ks.map txS).map fun x => (cl x).length) = (ks.map txS).map (·.length) := by
            congr 1
          rw [e1, List.length_map]
          have : (cl ", ").length = 2 := by decide +kernel
          rw [this]
          omega
        · refine fin (s1.trans s2) ?_
          rw [cl_app, cl_app, cl_app, cl_app, cl_join, txL, if_neg nv.1, if_neg nv.2.1, if_neg nv.2.2, if_neg n2, if_neg n3, e0]
          simp only [List.nil_append, List.append_assoc]
          rfl
end
end K27
set_option Elab.async false
set_option linter.all false
set_option maxRecDepth 100000
set_option maxHeartbeats 8000000
/-! what is looked up in the part of the heap behind the top, each kind of fact by one function to Bool -/
namespace FX
open PySem PySem.Spec PyProof.Rows L2 He GB
open PySem.W (findIn subIn typeIn keepIn nsIn Frag)
/-- an own error's class object -/
def errObj (K : Frag) (C : Addr) : Bool := match K.lookup C with
  | some ⟨.type "type", _, .cls cd, sl⟩ => (match cd.mro, sl.toList with
    | .ref D :: bm, [_, _, _, _, some (.builtin m), _] => D == C && (m == "ValueError.__new__" && (!cd.hasDel && (cd.hasDict && PySem.HandSPX.refsVE bm)))
    | _, _ => false)
  | _ => false
theorem errObj_ok {K : Frag} {C : Addr} (q : errObj K C = true) : ∃ nm qn N bs bm sn sub ab col dd k0 k1 k2 k3 k5, K.lookup C = some (excClassObj nm qn C N bs bm true sn sub ab col dd k0 k1 k2 k3 k5 "ValueError.__new__") ∧ PySem.HandSPX.refsVE bm = true := by
  unfold errObj at q
  split at q
  · rename_i dd cd sl ho
    split at q
    · rename_i D bm k0 k1 k2 k3 m k5 hm hs
      simp only [Bool.and_eq_true, beq_iff_eq, Bool.not_eq_true'] at q
      obtain ⟨e1, e2, e3, e4, e5⟩ := q
      subst e1 e2
      obtain ⟨nm, bs, mro, ns, qn, hd, sn, sub, ab, col, del⟩ := cd
      dsimp only at hm e3 e4
      subst hm e3 e4
      have hsl : sl = #[k0, k1, k2, k3, some (.builtin "ValueError.__new__"), k5] := by
        obtain ⟨l⟩ := sl
        simp only at hs
        rw [hs]
      subst hsl
      exact ⟨_, _, _, _, _, _, _, _, _, _, _, _, _, _, _, ho, e5⟩
    · cases q
  · cases q
def oexB (K : Frag) (C : Addr) : Bool := errObj K C && (eqO (findIn K (.ref C) "__setattr__") (some (some (.builtin "object.__setattr__"))) && (decide (subIn K (.ref C) (.type "BaseException") = some true) && (decide (typeIn K (.ref C) = some (.type "type")) && keepIn K (.ref C))))
theorem oex_of {K : Frag} {C : Addr} (q : oexB K C = true) : OexC K C := by
  obtain ⟨a1, q⟩ := ba q
  obtain ⟨a2, q⟩ := ba q
  obtain ⟨a3, q⟩ := ba q
  obtain ⟨a4, a5⟩ := ba q
  exact ⟨errObj_ok a1, eqO_ok a2, of_decide_eq_true a3, of_decide_eq_true a4, a5⟩
def blts : List Str := ["len", "int", "list", "tuple", "dict", "range", "sorted", "isinstance", "bool", "str", "all", "any", "enumerate"]
def freeB (K : Frag) (l : List Str) : Bool := l.all fun x => (Fa.free x).ok K
theorem free_of {K : Frag} {h : Heap} {mg : Str → Option Value} (X : K.In h) (G : h.Ns mainGlobals mg) {l : List Str} (q : freeB K l = true) {x : Str} (hx : x ∈ l) : mg x = none := free_ok X G (List.all_eq_true.mp q x hx)
theorem bl_of {K : Frag} {h : Heap} {mg : Str → Option Value} (X : K.In h) (G : h.Ns mainGlobals mg) (q : freeB K blts = true) : Bl mg := by
  have f : ∀ x ∈ blts, mg x = none := fun x hx => free_of X G q hx
  exact ⟨f _ (by simp [blts]), f _ (by simp [blts]), f _ (by simp [blts]), f _ (by simp [blts]), f _ (by simp [blts]), f _ (by simp [blts]), f _ (by simp [blts]), f _ (by simp [blts]), f _ (by simp [blts]), f _ (by simp [blts]), f _ (by simp [blts]), f _ (by simp [blts]), f _ (by simp [blts])⟩
theorem int_of {K : Frag} {h : Heap} {mg : Str → Option Value} (X : K.In h) (G : h.Ns mainGlobals mg) {x : Str} {i : Int} (q : (Fa.int x i).ok K = true) : ∃ u, mg x = some u ∧ RelV (.int i) u := by
  obtain ⟨t, e⟩ := int_ok X G q
  exact ⟨_, e, t, rfl⟩
/-- an own error's class with the field f -/
def xfieldB (K : Frag) (C : Addr) (f : Str) : Bool := oexB K C && (xfB K C && (eqO (findIn K (.ref C) f) (some none) && decide (PySem.W.exmOne K (.ref C) (.ref C) = some true)))
theorem xfield_of {K : Frag} {C : Addr} {f : Str} (q : xfieldB K C f = true) : OexC K C ∧ XfC K C ∧ findIn K (.ref C) f = some none ∧ PySem.W.exmOne K (.ref C) (.ref C) = some true := by
  obtain ⟨a1, q⟩ := ba q
  obtain ⟨a2, q⟩ := ba q
  obtain ⟨a3, a4⟩ := ba q
  exact ⟨oex_of a1, xfB_ok a2, eqO_ok a3, of_decide_eq_true a4⟩
/-- a plain class of the package -/
def clB (K : Frag) (C : Addr) : Bool := PySem.W.plainGet K C Str.empty && (PySem.W.hasDictIn K C && (PySem.W.plainOver K C && eqO (findIn K (.ref C) "__setattr__") (some (some (.builtin "object.__setattr__")))))
theorem cl_of {K : Frag} {C : Addr} (q : clB K C = true) : Cls K C := by
  obtain ⟨c1, q⟩ := ba q
  obtain ⟨c2, q⟩ := ba q
  obtain ⟨c3, c4⟩ := ba q
  exact ⟨c1, c2, c3, eqO_ok c4⟩
def noB (K : Frag) (C : Addr) (l : List Str) : Bool := l.all fun f => eqO (findIn K (.ref C) f) (some none)
theorem no_of {K : Frag} {C : Addr} {l : List Str} (q : noB K C l = true) {f : Str} (hf : f ∈ l) : NoAttr K C f := eqO_ok (List.all_eq_true.mp q f hf)
def mkB (K : Frag) (C f : Addr) : Bool := PySem.W.makesIn K C && (eqO (findIn K (.ref C) "__init__") (some (some (.ref f))) && (PySem.W.isFn K (.ref f) && keepIn K (.ref C)))
theorem mk_of {K : Frag} {C f : Addr} (q : mkB K C f = true) : Mk K C f := by
  obtain ⟨c1, q⟩ := ba q
  obtain ⟨c2, q⟩ := ba q
  obtain ⟨c3, c4⟩ := ba q
  exact ⟨c1, eqO_ok c2, c3, c4⟩
def methB (K : Frag) (C : Addr) (m : Str) (f : Addr) : Bool := eqO (findIn K (.ref C) m) (some (some (.ref f))) && (PySem.W.isFn K (.ref f) && keepIn K (.ref f))
theorem meth_of {K : Frag} {C : Addr} {m : Str} {f : Addr} (q : methB K C m f = true) : Meth K C m f := by
  obtain ⟨c1, q⟩ := ba q
  obtain ⟨c2, c3⟩ := ba q
  exact ⟨eqO_ok c1, c2, c3⟩
/-- a table of the module: its keys' words, their numbers -/
def dctB (K : Frag) (a : Addr) (l : List (Str × Nat)) : Bool := l.all fun q => match nsIn K a q.1 with
  | some (some u) => relB (.int (q.2 : Int)) u
  | _ => false
theorem dct_of {K : Frag} {a : Addr} {l : List (Str × Nat)} (h : dctB K a l = true) {q : Str × Nat} (hq : q ∈ l) : ∃ u, nsIn K a q.1 = some (some u) ∧ RelV (.int (q.2 : Int)) u := by
  have h2 := List.all_eq_true.mp h q hq
  cases e : nsIn K a q.1 with
  | none =>
    rw [e] at h2
    cases h2
  | some r =>
    rw [e] at h2
    cases r with
    | none => cases h2
    | some u => exact ⟨u, rfl, relB_ok h2⟩
/-- three defaults that are objects -/
def dfl3 (K : Frag) (dV : Value) : Option (Addr × Addr × Addr) := match dV with
  | .ref T => (match K.lookup T with
    | some ⟨_, _, .seq its _, _⟩ => (match its.toList with
      | [.ref a, .ref b, .ref c] => some (a, b, c)
      | _ => none)
    | _ => none)
  | _ => none
theorem dfl3_ok {K : Frag} {dV : Value} (h : (dfl3 K dV).isSome = true) : ∃ a b c, DflV K dV [.ref a, .ref b, .ref c] := by
  unfold dfl3 at h
  split at h
  · rename_i T
    split at h
    · rename_i oc od its n sl ho
      split at h
      · rename_i a b c hi
        refine ⟨a, b, c, .inr ⟨List.cons_ne_nil _ _, T, _, its.toList, n, rfl, ho, by simp, ?_⟩⟩
        rw [hi]
        exact .cons rfl (.cons rfl (.cons rfl .nil))
      · cases h
    · cases h
  · cases h
/-- the table of a code object that makes others -/
def ptOf (K : Frag) (c : Addr) : Addr := match K.lookup c with
  | some ⟨_, _, .fields vs, _⟩ => (match (vs[11]? : Option Value) with
    | some (Value.ref P) => P
    | _ => 0)
  | _ => 0
def isS : Value → Bool
  | .str _ _ => true
  | _ => false
def isI : Value → Bool
  | .int _ _ => true
  | _ => false
def isB : Value → Bool
  | .bool _ => true
  | _ => false
def codeB (K : Frag) (c P : Addr) : Bool := match K.lookup c with
  | some ⟨.type t, _, .fields vs, _⟩ => t == "code" && (decide (vs[11]? = some (.ref P)) && (isS (vs.getD 18 .none) && (isI (vs.getD 7 .none) && (isB (vs.getD 9 .none) && (isI (vs.getD 10 .none) && (!(c == P) && (K.lookup P).isNone))))))
  | _ => false
theorem codeB_ok {K : Frag} {h : Heap} (X : K.In h) {c P : Addr} (q : codeB K c P = true) : PySem.W.CodeHd h c P ∧ K.lookup P = none ∧ ∃ (e : Value) (dd : Option Addr) (vs : Array Value) (sl : Array (Option Value)), K.lookup c = some ⟨e, dd, .fields vs, sl⟩ ∧ vs[11]? = some (.ref P) := by
  unfold codeB at q
  split at q
  · rename_i t dd vs sl ho
    obtain ⟨a1, q⟩ := ba q
    obtain ⟨a2, q⟩ := ba q
    obtain ⟨a3, q⟩ := ba q
    obtain ⟨a4, q⟩ := ba q
    obtain ⟨a5, q⟩ := ba q
    obtain ⟨a6, q⟩ := ba q
    obtain ⟨a7, a8⟩ := ba q
    have e1 : t = "code" := beq_iff_eq.mp a1
    subst e1
    have e2 : vs[11]? = some (.ref P) := of_decide_eq_true a2
    have s3 : ∃ x tk, vs.getD 18 .none = .str x tk := by
      cases e : vs.getD 18 .none with
      | str x tk => exact ⟨x, tk, rfl⟩
      | _ => rw [e] at a3; cases a3
    have s4 : ∃ x tk, vs.getD 7 .none = .int x tk := by
      cases e : vs.getD 7 .none with
      | int x tk => exact ⟨x, tk, rfl⟩
      | _ => rw [e] at a4; cases a4
    have s5 : ∃ x, vs.getD 9 .none = .bool x := by
      cases e : vs.getD 9 .none with
      | bool x => exact ⟨x, rfl⟩
      | _ => rw [e] at a5; cases a5
    have s6 : ∃ x tk, vs.getD 10 .none = .int x tk := by
      cases e : vs.getD 10 .none with
      | int x tk => exact ⟨x, tk, rfl⟩
      | _ => rw [e] at a6; cases a6
    obtain ⟨x3, t3, h3⟩ := s3
    obtain ⟨x4, t4, h4⟩ := s4
    obtain ⟨x5, h5⟩ := s5
    obtain ⟨x6, t6, h6⟩ := s6
    have e7 : c ≠ P := fun z => by
      subst z
      rw [show (c == c) = true from beq_self_eq_true c] at a7
      cases a7
    have e8 : K.lookup P = none := Option.isNone_iff_eq_none.mp a8
    refine ⟨⟨_, vs, x3, t3, x4, t4, x5, x6, t6, X _ _ ho, rfl, rfl, e2, ?_, h3, h4, h5, h6, e7⟩, e8, _, _, vs, _, ho, e2⟩
    rw [Array.getD_eq_getD_getElem?, e2]
    rfl
  · cases q
/-- an own error's class whose __init__ keeps its one argument -/
theorem err_of {P : Program} {w : World} {K : Frag} {mg : Str → Option Value} {base : Heap} {n f : Str} {C fI : Addr} {fd : FuncData} (gC : mg n = some (.ref C)) (T : OexC K C) (iC : findIn K (.ref C) "__init__" = some (some (.ref fI))) (tI : typeIn K (.ref fI) = some (.type "function"))
    (F : FnOk P w K mg base CX0 1 fI fd ["self", f] (spInitE C f)) (b : Binds K fd ["self", f] []) : ErrC P w K mg base n f C := ⟨gC, T, fI, fd, iC, tI, F, b⟩
theorem FunD.ok0 {P : Program} {w : World} {K : Frag} {mg : Str → Option Value} {base : Heap} {x qual : Str} {params : Arguments} {body : List Stmt} {scope : Scope} {dvs : List V} {kws : List (Str × V)} {f : Addr} {fd : FuncData} {N ps : List Str} {k : Nat} {sp : Sp}
    (F : FunD K x qual params body scope dvs kws f fd) (S : FnScope N ps scope) (len : ∀ vs H Q E, sp vs H Q E → vs.length = ps.length)
    (hbody : ∀ (cdv : Value) (A : Around) (outer : List Env) (s : Shared) (H : Hp) (vs : List V) (Q : VK) (E : XK), Room k (A.deeper (envOfC qual scope s.heap.objs.size f cdv)) → sp vs H Q E →
      ∃ t, PSs (cxOf CX0 P w K mg base N qual scope f cdv A outer s H E).nox body t ∧ t { nx := fun _ H' => Q .non H', rt := Q } (start N vs) H) : FnOk P w K mg base CX0 (k + 1) f fd ps sp :=
  F.ok S len fun cdv A outer s H vs Q E hr hsp => let ⟨t, h, q⟩ := hbody cdv A outer s H vs Q E hr hsp; ⟨t, h.nox, q⟩
theorem tup_of {K : Frag} {h : Heap} {mg : Str → Option Value} (X : K.In h) (G : h.Ns mainGlobals mg) {x : Str} {vs : List Str} (q1 : (Fa.glo x).ok K = true) (q2 : tupB K x (vs.map Dv.str) = true) : ∃ a, mg x = some (.ref a) ∧ ∀ H, SqT K H a (sts vs) :=
  ⟨ga K x, glo_ok X G q1, fun H => by
    have e := tupB_ok q2 H
    rw [List.map_map] at e
    exact e⟩
end FX
set_option Elab.async false
set_option linter.all false
set_option autoImplicit false
set_option maxRecDepth 100000
set_option maxHeartbeats 8000000
namespace K27
open PySem PySem.Spec L2 GB
abbrev sS (i : Nat) : Stmt := inClass (topS 28) i
def sgF (T : Str) (p : Nat) : List (Str × V) := [("text", .str T), ("place", .int (p : Int))]
theorem sgF_set (T : Str) (p q : Nat) : putF "place" (.int (q : Int)) (sgF T p) = sgF T q := by
  unfold sgF putF
  rw [if_neg (by decide +kernel), putF, if_pos rfl]
theorem sgF_text (T : Str) (p : Nat) : (sgF T p).lookup ("text" : Str) = some (.str T) := rfl
theorem sgF_place (T : Str) (p : Nat) : (sgF T p).lookup ("place" : Str) = some (.int (p : Int)) := by
  unfold sgF
  rw [List.lookup_cons, show ((("place" : Str)) == ("text" : Str)) = false by decide +kernel]
  rfl
structure SgAt (CS : Addr) (H : Hp) (S : Addr) (T : Str) (p : Nat) : Prop where
  ex : ∃ dx, H S = some (.ins CS dx (sgF T p))
structure SgC (K : PySem.W.Frag) (CS : Addr) : Prop where
  cl : Cls K CS
  nt : NoAttr K CS "text"
  np : NoAttr K CS "place"
def sgn : List Nat → Str
  | [] => Str.empty
  | c :: _ => ⟨#[c]⟩
theorem cl_cut (T : Str) (a b : Nat) : cl (cutS T (some (a : Int)) (some (b : Int))) = ((cl T).drop a).take (b - a) := by
  unfold cutS
  rw [cl_mk, HT.sIx_nat, HT.sIx_nat]
  have e : T.length = (cl T).length := cl_len T
  show ((cl T).drop (min a T.length)).take (min b T.length - min a T.length) = _
  rw [e]
  rcases Nat.lt_or_ge (cl T).length a with h | h
  · rw [show min a (cl T).length = (cl T).length by omega, List.drop_of_length_le (Nat.le_refl _), List.drop_of_length_le (show (cl T).length ≤ a by omega), List.take_nil, List.take_nil]
  · rw [show min a (cl T).length = a by omega]
    rcases Nat.lt_or_ge (cl T).length b with h2 | h2
    · rw [show min b (cl T).length = (cl T).length by omega, List.take_of_length_le (by rw [List.length_drop]; omega), List.take_of_length_le (by rw [List.length_drop]; omega)]
    · rw [show min b (cl T).length = b by omega]
theorem cut1 (T : Str) (p : Nat) : cutS T (some (p : Int)) (some ((p : Int) + 1)) = sgn ((cl T).drop p) := by
  refine cl_inj ?_
  have := cl_cut T p (p + 1)
  rw [show ((p + 1 : Nat) : Int) = (p : Int) + 1 from by omega] at this
  rw [this, show p + 1 - p = 1 by omega]
  cases h : (cl T).drop p with
  | nil => rfl
  | cons c r => rfl
/-- what is left of the text -/
structure Lf (T : Str) (p : Nat) (r : List Nat) : Prop where
  dr : (cl T).drop p = r
  le : p ≤ (cl T).length
  ln : (cl T).length ≤ 100000
theorem Lf.next {T : Str} {p : Nat} {c : Nat} {r : List Nat} (h : Lf T p (c :: r)) : Lf T (p + 1) r := by
  have e := congrArg List.length h.dr
  rw [List.length_drop, List.length_cons] at e
  refine ⟨?_, by omega, h.ln⟩
  have : (cl T).drop (p + 1) = ((cl T).drop p).drop 1 := by rw [List.drop_drop]
  rw [this, h.dr]
  rfl
theorem Lf.skip {T : Str} : ∀ {a : List Nat} {p : Nat} {r : List Nat}, Lf T p (a ++ r) → Lf T (p + a.length) r
  | [], p, r, h => h
  | c :: a, p, r, h => by
    have := Lf.skip (a := a) (h.next)
    rw [List.length_cons, show p + (a.length + 1) = p + 1 + a.length by omega]
    exact this
theorem sS_len {T : Str} {p : Nat} {r : List Nat} (h : Lf T p r) : T.length ≤ sizeLine := by
  rw [cl_len, sizeLine_eq]
  have := h.ln
  omega
def spSIni (CS : Addr) : Sp := fun vs H Q _ => ∃ (S dx : Addr) (T : Str), vs = [.ref S, .str T] ∧ H S = some (.ins CS dx []) ∧ ∀ H', Bt [S] H H' → SgAt CS H' S T 0 → Q .non H'
def spSign (CS : Addr) : Sp := fun vs H Q _ => ∃ (S : Addr) (T : Str) (p : Nat) (r : List Nat), vs = [.ref S] ∧ SgAt CS H S T p ∧ Lf T p r ∧ Q (.str (sgn r)) H
def spTake1 (CS : Addr) : Sp := fun vs H Q _ => ∃ (S : Addr) (T : Str) (p : Nat) (W : Str) (r : List Nat), vs = [.ref S, .str W] ∧ SgAt CS H S T p ∧ Lf T p (cl W ++ r) ∧ ∀ H', Bt [S] H H' → SgAt CS H' S T (p + (cl W).length) → Q .non H'
def spTakeN (CS : Addr) : Sp := fun vs H Q _ => ∃ (S : Addr) (T : Str) (p : Nat) (n : Str) (r : List Nat), vs = [.ref S] ∧ SgAt CS H S T p ∧ Lf T p (cl n ++ r) ∧ nameB n = true ∧ NoL r ∧ ∀ H', Bt [S] H H' → SgAt CS H' S T (p + (cl n).length) → Q (.str n) H'
section
variable {P : Program} {w : World} {K : PySem.W.Frag} {mg : Str → Option Value} {base : Heap} {CS : Addr}
theorem scS0 : FnScope ["self", "text"] ["self", "text"] (defScope (sS 0)) := ⟨rfl, rfl, rfl, by decide +kernel, rfl, by decide +kernel, by decide +kernel⟩
theorem scS1 : FnScope ["self"] ["self"] (defScope (sS 1)) := ⟨rfl, rfl, rfl, by decide +kernel, rfl, by decide +kernel, by decide +kernel⟩
theorem scS2 : FnScope ["self", "wanted", "sign"] ["self", "wanted"] (defScope (sS 2)) := ⟨rfl, rfl, rfl, by decide +kernel, rfl, by decide +kernel, by decide +kernel⟩
theorem scS3 : FnScope ["self", "first"] ["self"] (defScope (sS 3)) := ⟨rfl, rfl, rfl, by decide +kernel, rfl, by decide +kernel, by decide +kernel⟩
theorem SgAt.up {H : Hp} {S : Addr} {T : Str} {p q : Nat} (h : SgAt CS H S T p) : ∃ dx, H S = some (.ins CS dx (sgF T p)) ∧ Bt [S] H (upd H S (.ins CS dx (putF "place" (.int (q : Int)) (sgF T p)))) ∧ SgAt CS (upd H S (.ins CS dx (putF "place" (.int (q : Int)) (sgF T p)))) S T q := by
  obtain ⟨dx, e⟩ := h.ex
  exact ⟨dx, e, bt_upd (by simp), dx, by rw [upd_same, sgF_set]⟩
theorem ok_s0 {f : Addr} {fd : FuncData} (F : Fun K "__init__" "Signs.__init__" (sS 0) f fd) (C : SgC K CS) : FnOk P w K mg base CX0 1 f fd ["self", "text"] (spSIni CS) := by
  refine F.ok scS0 (fun vs H Q E h => ?_) (fun cdv A outer s H vs Q E hr h => ?_)
  · obtain ⟨S, dx, T, rfl, _⟩ := h
    rfl
  · obtain ⟨S, dx, T, rfl, hS, q⟩ := h
    refine ⟨_, pss_cons (ps_fld (pv 0) (pv 1) rfl) (pss_one (ps_fld (pv 0) (pe_int) rfl)), ?_⟩
    refine ⟨_, rfl, _, rfl, S, CS, dx, _, rfl, hS, C.cl, C.nt, by decide, ?_⟩
    obtain ⟨H1, b1, h1, e1⟩ : ∃ H1, Bt [S] H H1 ∧ H1 S = some (.ins CS dx (putF "text" (.str T) [])) ∧ upd H S (.ins CS dx (putF "text" (.str T) [])) = H1 := ⟨_, bt_upd (by simp), upd_same, rfl⟩
    rw [e1]
    refine ⟨_, rfl, S, CS, dx, _, rfl, h1, C.cl, C.np, by show 1 < 1000; decide, ?_⟩
    refine q _ (b1.trans (bt_upd (by simp))) ⟨dx, ?_⟩
    rw [upd_same]
    rfl
theorem ok_s1 {f : Addr} {fd : FuncData} (F : Fun K "sign" "Signs.sign" (sS 1) f fd) (C : SgC K CS) : FnOk P w K mg base CX0 1 f fd ["self"] (spSign CS) := by
  refine F.ok scS1 (fun vs H Q E h => ?_) (fun cdv A outer s H vs Q E hr h => ?_)
  · obtain ⟨S, T, p, r, rfl, _⟩ := h
    rfl
  · obtain ⟨S, T, p, r, rfl, hS, hl, q⟩ := h
    obtain ⟨dx, hS⟩ := hS.ex
    refine ⟨_, pss_one (ps_ret (pe_slice sl_str (pe_fld (pv 0) rfl) (po_some (pe_fld (pv 0) rfl)) (po_some (pe_op op_add (pe_fld (pv 0) rfl) pe_int)))), ?_⟩
    refine ⟨_, rfl, S, CS, dx, _, _, rfl, hS, C.cl, C.nt, sgF_text T p, ?_⟩
    refine ⟨_, rfl, S, CS, dx, _, _, rfl, hS, C.cl, C.np, sgF_place T p, _, rfl, ?_⟩
    refine ⟨_, rfl, S, CS, dx, _, _, rfl, hS, C.cl, C.np, sgF_place T p, _, _, rfl, rfl, _, rfl, T, rfl, sS_len hl, ?_⟩
    rw [cut1, hl.dr]
    exact q
theorem ok_s2 {f : Addr} {fd : FuncData} (F : Fun K "take" "Signs.take" (sS 2) f fd) (C : SgC K CS) (SG : ∃ g gd, Meth K CS "sign" g ∧ FnOk P w K mg base CX0 1 g gd ["self"] (spSign CS) ∧ Binds K gd ["self"] []) : FnOk P w K mg base CX0 2 f fd ["self", "wanted"] (spTake1 CS) := by
  obtain ⟨g1, d1, M1, F1, B1⟩ := SG
  refine F.ok scS2 (fun vs H Q E h => ?_) (fun cdv A outer s H vs Q E hr h => ?_)
  · obtain ⟨S, T, p, W, r, rfl, _⟩ := h
    rfl
  · obtain ⟨S, T, p, W, r, rfl, hS, hl, q⟩ := h
    refine ⟨_, pss_one (ps_for PassesOwn.never rfl (pi_str (pv 1)) (pg_name (i := 2) scS2.nd rfl (.inl rfl)) (pss_cons (ps_if (pt_cmpR op_ne (pe_meth0 (pv 0) C.cl M1 F1 hr B1 .nil pass0 rfl) (pv 2) (nomark _)) (pss_one ps_never) (pss_nil)) (pss_one (ps_fldaug (pv 0) (pe_int) iop_add)))), ?_⟩
    refine ⟨_, rfl, W, rfl, ?_⟩
    have ws : W.cps.size = (cl W).length := by unfold cl; rw [Array.length_toList]
    refine for_it walk_str (fun i σ H' => ∃ o2, σ = [some (.ref S), some (.str W), o2] ∧ Bt [S] H H' ∧ SgAt CS H' S T (p + i) ∧ Lf T (p + i) ((cl W).drop i ++ r)) ⟨_, rfl, Same.refl _, hS, hl⟩ (fun _ _ _ _ _ => trivial) ?turn ?done
    case done =>
      rintro σ H' ⟨o2, rfl, B, hS', _⟩
      rw [ws] at hS'
      exact q H' B hS'
    rintro i x σ H1 H1' hi ⟨o2, rfl, B, hS1, hl1⟩ ⟨rfl, c, hc, rfl⟩
    have hd : (cl W).drop i = c :: (cl W).drop (i + 1) := by
      have h1 : (cl W)[i]? = some c := by unfold cl; rw [Array.getElem?_toList]; exact hc
      obtain ⟨h2, h3⟩ := List.getElem?_eq_some_iff.mp h1
      rw [List.drop_eq_getElem_cons h2, h3]
    rw [hd] at hl1
    obtain ⟨dx, e1, B2, hS2⟩ := hS1.up (q := p + i + 1)
    refine ⟨_, rfl, S, dx, _, rfl, e1, rfl, S, T, p + i, _, rfl, hS1, hl1, ?_⟩
    refine ⟨_, rfl, rfl, _, rfl, ?_⟩
    rw [decS, decide_eq_true (by rfl)]
    refine iteF ?_
    refine ⟨_, rfl, S, CS, dx, _, _, rfl, e1, C.cl, C.np, sgF_place T (p + i), _, _, rfl, rfl, dx, _, e1, by show 2 < 1000; decide, ?_⟩
    exact ⟨_, rfl, B.trans B2, hS2, hl1.next⟩
theorem sgn_ltr {c : Nat} {r : List Nat} : (!decide ((sgn (c :: r)).cps.toList < ("a" : Str).cps.toList)) = decide (97 ≤ c) ∧ (!decide (("z" : Str).cps.toList < (sgn (c :: r)).cps.toList)) = decide (c ≤ 122) := by
  have e1 : ("a" : Str).cps.toList = [97] := by decide +kernel
  have e2 : ("z" : Str).cps.toList = [122] := by decide +kernel
  rw [e1, e2]
  show (!decide ([c] < [97])) = _ ∧ (!decide ([122] < [c])) = _
  have h1 : ([c] < [97]) ↔ c < 97 := by simp [List.cons_lt_cons_iff]
  have h2 : ([122] < [c]) ↔ 122 < c := by simp [List.cons_lt_cons_iff]
  simp only [h1, h2]
  constructor
  · by_cases h : c < 97
    · rw [decide_eq_true h, decide_eq_false (by omega)]; rfl
    · rw [decide_eq_false h, decide_eq_true (by omega)]; rfl
  · by_cases h : 122 < c
    · rw [decide_eq_true h, decide_eq_false (by omega)]; rfl
    · rw [decide_eq_false h, decide_eq_true (by omega)]; rfl
theorem ok_s3 {f : Addr} {fd : FuncData} (F : Fun K "take_name" "Signs.take_name" (sS 3) f fd) (C : SgC K CS) (M : ∃ u, mg "MOST_SIGNS" = some u ∧ RelV (.int 8) u) (SG : ∃ g gd, Meth K CS "sign" g ∧ FnOk P w K mg base CX0 1 g gd ["self"] (spSign CS) ∧ Binds K gd ["self"] []) : FnOk P w K mg base CX0 2 f fd ["self"] (spTakeN CS) := by
  obtain ⟨g1, d1, M1, F1, B1⟩ := SG
  obtain ⟨uM, gM, rM⟩ := M
  refine F.ok scS3 (fun vs H Q E h => ?_) (fun cdv A outer s H vs Q E hr h => ?_)
  · obtain ⟨S, T, p, n, r, rfl, _⟩ := h
    rfl
  · obtain ⟨S, T, p, n, r, rfl, hS, hl, nb, hno, q⟩ := h
    obtain ⟨nl, n1, n8⟩ := nameB_ltr nb
    refine ⟨_, pss_cons (ps_set (i := 1) scS3.nd rfl (.inl rfl) (pe_fld (pv 0) rfl)) (pss_cons (ps_while PassesOwn.never (PW.pt (pw_and (pt_cmpR op_lt (pe_fld (pv 0) rfl) (pe_op op_add (pv 1) (pe_glob rfl gM rM)) (nomark _)) (pw_and1 (pt_chain op_le_str op_le_str pe_str (pe_meth0 (pv 0) C.cl M1 F1 hr B1 .nil pass0 rfl) pe_str)))) (pss_one (ps_fldaug (pv 0) (pe_int) iop_add))) (pss_cons (ps_if (pt_cmpR op_eq (pe_fld (pv 0) rfl) (pv 1) (nomark _)) (pss_one ps_never) (pss_nil)) (pss_one (ps_ret (pe_slice sl_str (pe_fld (pv 0) rfl) (po_some (pv 1)) (po_some (pe_fld (pv 0) rfl))))))), ?_⟩
    obtain ⟨dx, e0⟩ := hS.ex
    refine ⟨_, rfl, S, CS, dx, _, _, rfl, e0, C.cl, C.np, sgF_place T p, ?_⟩
    refine ⟨fun m σ H' => ∃ j, j ≤ (cl n).length ∧ m = (cl n).length - j ∧ σ = [some (.ref S), some (.int (p : Int))] ∧ Bt [S] H H' ∧ SgAt CS H' S T (p + j) ∧ Lf T (p + j) ((cl n).drop j ++ r), ⟨_, 0, Nat.zero_le _, rfl, rfl, Same.refl _, hS, hl⟩, ?_⟩
    rintro m σ H1 ⟨j, hj, rfl, rfl, B, hS1, hl1⟩
    obtain ⟨dx1, e1⟩ := hS1.ex
    refine ⟨_, rfl, S, CS, dx1, _, _, rfl, e1, C.cl, C.np, sgF_place T (p + j), _, rfl, _, _, rfl, rfl, _, _, rfl, rfl, _, rfl, ?_⟩
    have ecut : cutS T (some (p : Int)) (some ((p + (cl n).length : Nat) : Int)) = n := by
      refine cl_inj ?_
      rw [cl_cut, hl.dr, show p + (cl n).length - p = (cl n).length by omega, List.take_left]
    rcases Nat.lt_or_ge j (cl n).length with hj2 | hj2
    focus
      rw [show (decide (((p + j : Nat) : Int) < (p : Int) + 8)) = true from decide_eq_true (by omega)]
      refine iteT ?_
      obtain ⟨c, hc⟩ : ∃ c, (cl n)[j]? = some c := ⟨_, List.getElem?_eq_getElem hj2⟩
      have hd : (cl n).drop j = c :: (cl n).drop (j + 1) := by
        obtain ⟨h2, h3⟩ := List.getElem?_eq_some_iff.mp hc
        rw [List.drop_eq_getElem_cons h2, h3]
      rw [hd] at hl1
      have lc := nl c (List.mem_of_getElem? hc)
      unfold ltr at lc
      refine ⟨_, rfl, S, dx1, _, rfl, e1, rfl, S, T, p + j, _, rfl, hS1, hl1, ?_⟩
      refine ⟨_, _, rfl, rfl, _, rfl, ?_⟩
      rw [List.cons_append, sgn_ltr.1, decide_eq_true lc.1]
      refine iteT ?_
      refine ⟨_, _, rfl, rfl, _, rfl, ?_⟩
      rw [sgn_ltr.2, decide_eq_true lc.2]
      refine iteT ?_
      obtain ⟨dx2, e2, B2, hS2⟩ := hS1.up (q := p + j + 1)
      refine ⟨fun σ' H' => σ' = [some (.ref S), some (.int (p : Int))] ∧ Bt [S] H H' ∧ SgAt CS H' S T (p + (j + 1)) ∧ Lf T (p + (j + 1)) ((cl n).drop (j + 1) ++ r), fun σ' H' h => ⟨_, by omega, j + 1, by omega, rfl, h⟩, ?_⟩
      refine ⟨_, rfl, S, CS, dx2, _, _, rfl, e2, C.cl, C.np, sgF_place T (p + j), _, _, rfl, rfl, dx2, _, e2, by show 2 < 1000; decide, ?_⟩
      exact ⟨rfl, B.trans B2, hS2, hl1.next⟩
    obtain rfl : j = (cl n).length := by omega
    rw [List.drop_of_length_le (Nat.le_refl _), List.nil_append] at hl1
    by_cases h8 : (cl n).length = 8
    focus
      rw [show (decide (((p + (cl n).length : Nat) : Int) < (p : Int) + 8)) = false from decide_eq_false (by omega)]
      refine iteF ?_
      refine iteF ?_
    rotate_left
    focus
      rw [show (decide (((p + (cl n).length : Nat) : Int) < (p : Int) + 8)) = true from decide_eq_true (by omega)]
      refine iteT ?_
      refine ⟨_, rfl, S, dx1, _, rfl, e1, rfl, S, T, p + (cl n).length, _, rfl, hS1, hl1, ?_⟩
      rcases r with _ | ⟨c, t⟩
      focus
        refine ⟨_, _, rfl, rfl, _, rfl, ?_⟩
        rw [show (!decide ((sgn []).cps.toList < ("a" : Str).cps.toList)) = false by decide +kernel]
        refine iteF ?_
        refine ⟨_, rfl, ?_⟩
        refine iteF ?_
      rotate_left
      have nc := hno c t rfl
      by_cases h97 : 97 ≤ c
      focus
        have h122 : ¬ c ≤ 122 := fun h => nc ⟨h97, h⟩
        refine ⟨_, _, rfl, rfl, _, rfl, ?_⟩
        rw [sgn_ltr.1, decide_eq_true h97]
        refine iteT ?_
        refine ⟨_, _, rfl, rfl, _, rfl, ?_⟩
        rw [sgn_ltr.2, decide_eq_false h122]
        refine iteF ?_
      rotate_left
      focus
        refine ⟨_, _, rfl, rfl, _, rfl, ?_⟩
        rw [sgn_ltr.1, decide_eq_false h97]
        refine iteF ?_
        refine ⟨_, rfl, ?_⟩
        refine iteF ?_
    all_goals
      refine ⟨_, rfl, S, CS, dx1, _, _, rfl, e1, C.cl, C.np, sgF_place T _, _, rfl, rfl, _, rfl, ?_⟩
      rw [show (decide (V.int ((p + (cl n).length : Nat) : Int) = V.int (p : Int))) = false from decide_eq_false (fun e => by have e := V.int.inj e; omega)]
      refine iteF ?_
      refine ⟨_, rfl, S, CS, dx1, _, _, rfl, e1, C.cl, C.nt, sgF_text T _, ?_⟩
      refine ⟨_, rfl, _, rfl, _, rfl, S, CS, dx1, _, _, rfl, e1, C.cl, C.np, sgF_place T _, _, rfl, T, rfl, sS_len hl, ?_⟩
      rw [ecut]
      exact q H1 B hS1
end
end K27
set_option Elab.async false
set_option linter.all false
set_option autoImplicit false
set_option maxRecDepth 100000
set_option maxHeartbeats 8000000
namespace K27
open PySem PySem.Spec L2 GB
def twN : List Str := ["self", "first", "begun", "word"]
def pfx (n : Str) (j : Nat) : Str := ⟨((cl n).take j).toArray⟩
theorem pfx_not : ∀ n ∈ wdsW, ∀ j < (cl n).length, pfx n j ∉ wdsW := by decide +kernel
theorem pfx_any : ∀ n ∈ wdsW, ∀ j < (cl n).length, ((wdsW.map fun x => Txt.startswith x (pfx n (j + 1))).any id) = true := by decide +kernel
theorem pfx_all (n : Str) : pfx n (cl n).length = n := cl_inj (by unfold pfx; rw [cl_mk, List.take_length])
def spTakeW (CS : Addr) : Sp := fun vs H Q _ => ∃ (S : Addr) (T : Str) (p : Nat) (n : Str) (r : List Nat), vs = [.ref S] ∧ SgAt CS H S T p ∧ Lf T p (cl n ++ r) ∧ n ∈ wdsW ∧ ∀ H', Bt [S] H H' → SgAt CS H' S T (p + (cl n).length) → Q (.str n) H'
section
variable {P : Program} {w : World} {K : PySem.W.Frag} {mg : Str → Option Value} {base : Heap} {CS : Addr}
theorem scS4 : FnScope twN ["self"] (defScope (sS 4)) := ⟨rfl, rfl, rfl, by decide +kernel, rfl, by decide +kernel, by decide +kernel⟩
theorem ok_s4 {f : Addr} {fd : FuncData} (F : Fun K "take_word" "Signs.take_word" (sS 4) f fd) (T : Bl mg) (C : SgC K CS) (Wd : Wds K mg) (SG : ∃ g gd, Meth K CS "sign" g ∧ FnOk P w K mg base CX0 1 g gd ["self"] (spSign CS) ∧ Binds K gd ["self"] []) : FnOk P w K mg base CX0 2 f fd ["self"] (spTakeW CS) := by
  obtain ⟨g1, d1, M1, F1, B1⟩ := SG
  obtain ⟨aN, gN, hN⟩ := Wd
  refine F.ok scS4 (fun vs H Q E h => ?_) (fun cdv A outer s H vs Q E hr h => ?_)
  · obtain ⟨S, T, p, n, r, rfl, _⟩ := h
    rfl
  · obtain ⟨S, TT, p, n, r, rfl, hS, hl, hw, q⟩ := h
    refine ⟨_, pss_cons (ps_set (i := 1) scS4.nd rfl (.inl rfl) (pe_fld (pv 0) rfl)) (pss_cons (ps_while PassesOwn.never (pt_cmpR op_notIn_seq (pe_slice sl_str (pe_fld (pv 0) rfl) (po_some (pv 1)) (po_some (pe_fld (pv 0) rfl))) (pe_glob (v := .ref aN) rfl gN rfl) (by rfl))
      (pss_cons (ps_set (i := 2) scS4.nd rfl (.inr rfl) (pe_slice sl_str (pe_fld (pv 0) rfl) (po_some (pv 1)) (po_some (pe_op op_add (pe_fld (pv 0) rfl) pe_int))))
      (pss_cons (ps_if (PW.pt (pw_or (pt_cmpR op_eq (pe_meth0 (pv 0) C.cl M1 F1 hr B1 .nil pass0 rfl) pe_str (nomark _)) (pw_or1 (pt_not (pt_val (pe_callB (cr_any rfl) (by rfl) T.any (by decide +kernel) (pa_cons (pe_lc (own := [("word", 3)]) (g := gName 3) (tt := tYes) rfl scS4.nd (pi_seqW (pe_glob (v := .ref aN) rfl gN rfl)) (blkOk_by (own := [("word", 3)]) (N := twN) (sc := defScope (sS 4)) (by decide +kernel)) (fun _ _ _ _ _ => pg_name (i := 3) scS4.nd rfl (.inl rfl)) (fun _ _ _ _ _ => pts_nil) (fun _ _ _ _ _ => pe_m1 PySem.F.slot_str_startswith PySem.F.type_str_startswith mt_startswith (pv 3) (pv 2))) pa_nil))))))) (pss_one ps_never) pss_nil)
      (pss_one (ps_fldaug (pv 0) (pe_int) iop_add))))) (pss_one (ps_ret (pe_slice sl_str (pe_fld (pv 0) rfl) (po_some (pv 1)) (po_some (pe_fld (pv 0) rfl)))))), ?_⟩
    obtain ⟨dx, e0⟩ := hS.ex
    refine ⟨_, rfl, S, CS, dx, _, _, rfl, e0, C.cl, C.np, sgF_place TT p, ?_⟩
    refine ⟨fun m σ H' => ∃ j o2 o3, j ≤ (cl n).length ∧ m = (cl n).length - j ∧ σ = [some (.ref S), some (.int (p : Int)), o2, o3] ∧ Bt [S] H H' ∧ SgAt CS H' S TT (p + j) ∧ Lf TT (p + j) ((cl n).drop j ++ r), ⟨_, 0, _, _, Nat.zero_le _, rfl, rfl, Same.refl _, hS, hl⟩, ?_⟩
    rintro m σ H1 ⟨j, o2, o3, hj, rfl, rfl, B, hS1, hl1⟩
    obtain ⟨dx1, e1⟩ := hS1.ex
    have ecut : ∀ i, i ≤ (cl n).length → cutS TT (some (p : Int)) (some ((p + i : Nat) : Int)) = pfx n i := fun i hi => by
      refine cl_inj ?_
      show cl (cutS TT (some (p : Int)) (some ((p + i : Nat) : Int))) = (cl n).take i
      rw [cl_cut, hl.dr, show p + i - p = i by omega, List.take_append_of_le_length hi]
    refine ⟨_, rfl, S, CS, dx1, _, _, rfl, e1, C.cl, C.nt, sgF_text TT _, ?_⟩
    refine ⟨_, rfl, _, rfl, _, rfl, S, CS, dx1, _, _, rfl, e1, C.cl, C.np, sgF_place TT _, _, rfl, TT, rfl, sS_len hl, ?_⟩
    rw [ecut j hj]
    refine ⟨aN, sts wdsW, rfl, .inr (hN H1), rfl, flat_sts _, _, rfl, ?_⟩
    rw [show (if true = true then !inV (.str (pfx n j)) (sts wdsW) else inV (.str (pfx n j)) (sts wdsW)) = !decide (pfx n j ∈ wdsW) from by rw [if_pos rfl, inV_sts]]
    rcases Nat.lt_or_ge j (cl n).length with hj2 | hj2
    · rw [decide_eq_false (pfx_not n hw j hj2)]
      refine iteT ?_
      refine ⟨fun σ' H' => ∃ o2 o3, σ' = [some (.ref S), some (.int (p : Int)), o2, o3] ∧ Bt [S] H H' ∧ SgAt CS H' S TT (p + (j + 1)) ∧ Lf TT (p + (j + 1)) ((cl n).drop (j + 1) ++ r), fun σ' H' ⟨o2, o3, h⟩ => ⟨_, by omega, j + 1, o2, o3, by omega, rfl, h⟩, ?_⟩
      obtain ⟨c, hc⟩ : ∃ c, (cl n)[j]? = some c := ⟨_, List.getElem?_eq_getElem hj2⟩
      have hd : (cl n).drop j = c :: (cl n).drop (j + 1) := by
        obtain ⟨h2, h3⟩ := List.getElem?_eq_some_iff.mp hc
        rw [List.drop_eq_getElem_cons h2, h3]
      rw [hd] at hl1
      refine ⟨_, rfl, S, CS, dx1, _, _, rfl, e1, C.cl, C.nt, sgF_text TT _, ?_⟩
      refine ⟨_, rfl, _, rfl, _, rfl, S, CS, dx1, _, _, rfl, e1, C.cl, C.np, sgF_place TT _, _, _, rfl, rfl, _, rfl, TT, rfl, sS_len hl, ?_⟩
      have ec := ecut (j + 1) hj2
      rw [show ((p + (j + 1) : Nat) : Int) = ((p + j : Nat) : Int) + 1 by omega] at ec
      rw [ec]
      refine ⟨_, rfl, S, dx1, _, rfl, e1, rfl, S, TT, p + j, _, rfl, hS1, hl1, rfl, _, rfl, ?_⟩
      rw [show (decide (V.str (sgn (c :: (cl n).drop (j + 1) ++ r)) = V.str "")) = false from decide_eq_false (fun e => by have e := congrArg cl (V.str.inj e); cases e)]
      refine iteF ?_
      have hq : SqV K (hid [] H1) aN (sts wdsW) false := hN _
      refine ⟨aN, sts wdsW, false, [], rfl, hq, fun J WJ D nD => ?_⟩
      refine lc_it WJ (fun i H' => Same H1 H' ∧ H' D = some (.lst (((wdsW.map fun x => Txt.startswith x (pfx n (j + 1))).take i).map V.bl))) ⟨same_new nD, upd_same⟩ (fun i H' _ _ => hN _) ?_ ?_
      · rintro i x H2 H2' hi ⟨s2, h2⟩ ⟨rfl, hx⟩
        obtain ⟨sx, hsx, rfl⟩ := sts_at hx
        refine ⟨rfl, ?_⟩
        refine ⟨_, rfl, ⟨_, rfl⟩, _, rfl, _, _, rfl, rfl, ?_⟩
        refine ⟨_, h2, by rw [List.length_map, List.length_take, sizeLine_eq]; show min i _ < 16777216; have : i < 9 := hi; omega, fun b o e => ?_, ?_⟩
        · rw [upd_ne (ne_of_none e nD)]; exact s2 _ _ e
        · rw [upd_same, take_at (l := wdsW.map fun x => Txt.startswith x (pfx n (j + 1))) (by rw [List.getElem?_map, hsx]; rfl), List.map_append]
          rfl
      · rintro H3 ⟨s3, h3⟩
        rw [List.take_of_length_le (by rw [List.length_map]; exact Nat.le_refl _)] at h3
        refine ⟨D, _, rfl, SqL.of h3, ?_⟩
        rw [pfx_any n hw j hj2]
        refine ⟨_, rfl, ?_⟩
        refine iteF ?_
        have e3 := s3 _ _ e1
        have hS3 : SgAt CS H3 S TT (p + j) := ⟨_, e3⟩
        obtain ⟨dx2, e2, B2, hS2⟩ := hS3.up (q := p + j + 1)
        refine ⟨_, rfl, S, CS, dx2, _, _, rfl, e2, C.cl, C.np, sgF_place TT (p + j), _, _, rfl, rfl, dx2, _, e2, by show 2 < 1000; decide, ?_⟩
        exact ⟨_, _, rfl, (B.trans (bt_of s3)).trans B2, hS2, hl1.next⟩
    · obtain rfl : j = (cl n).length := by omega
      rw [pfx_all, decide_eq_true hw]
      refine iteF ?_
      refine ⟨_, rfl, S, CS, dx1, _, _, rfl, e1, C.cl, C.nt, sgF_text TT _, ?_⟩
      refine ⟨_, rfl, _, rfl, _, rfl, S, CS, dx1, _, _, rfl, e1, C.cl, C.np, sgF_place TT _, _, rfl, TT, rfl, sS_len hl, ?_⟩
      rw [ecut _ (Nat.le_refl _), pfx_all]
      exact q H1 B hS1
end
end K27
set_option Elab.async false
set_option linter.all false
set_option maxRecDepth 100000
set_option maxHeartbeats 4000000
/-! A dict whose keys are tuples of texts and such tuples. -/
namespace GB
open PySem PySem.Spec L2 PyProof.Rows
mutual
inductive NkV (H : Hp) : NestedKey → V → Prop
  | text (x : Str) : NkV H (.text x) (.str x)
  | tup {a : Addr} {xs : List V} {ks : List NestedKey} : H a = some (.tup xs) → NkAll H ks xs → NkV H (.tup ks) (.ref a)
inductive NkAll (H : Hp) : List NestedKey → List V → Prop
  | nil : NkAll H [] []
  | cons {k v ks vs} : NkV H k v → NkAll H ks vs → NkAll H (k :: ks) (v :: vs)
end
section
variable {X : Cx} {pins : List (Addr × Obj)} {σ : L2.St} {H : Hp} {s : Shared}
mutual
theorem NkV.is (I : Inv X pins σ H s) : ∀ (k : NestedKey) (v : V) (u : Value), NkV H k v → RelV v u → NestedIs s.heap k u
  | .text x, _, _, h, r => by
    cases h
    obtain ⟨t, rfl⟩ := r
    exact .text x t
  | .tup ks, _, _, h, r => by
    cases h with
    | @tup a xs _ ha hx =>
      obtain rfl := (show _ = Value.ref a from r)
      obtain ⟨_, its, rv, o, h1, h2, n, h3⟩ := (show ObjOk X.prog X.w H s.heap a (.tup xs) from I.hok a _ ha)
      exact .tup h1 h2 h3 (NkAll.is I ks xs its hx rv)
  | .none, _, _, h, _ => nomatch h
  | .num _, _, _, h, _ => nomatch h
theorem NkAll.is (I : Inv X pins σ H s) : ∀ (ks : List NestedKey) (vs : List V) (us : List Value), NkAll H ks vs → Vals vs us → NestedAll s.heap ks us
  | [], _, _, h, r => by
    cases h
    cases r
    exact .nil
  | k :: ks, _, _, h, r => by
    cases h with
    | cons h1 h2 =>
      cases r with
      | cons r1 r2 => exact .cons (NkV.is I k _ _ h1 r1) (NkAll.is I ks _ _ h2 r2)
end
end
abbrev NX := List (NestedKey × Addr × Value)
/-- the dict at d, its entries -/
def ndO (P : Program) (w : World) (d : Addr) (xs : NX) : HO := .ext fun h => (d == sysModules) = false ∧ ∃ o es ep, h.get? d = some o ∧ o.ExactDict ∧ o.data = .dict es ep ∧ es.toList = xs.map (entryOfKey (nestedKind P w)) ∧ (xs.map (·.1)).Nodup
def NdKeys (H : Hp) (xs : NX) : Prop := ∀ e ∈ xs, NkV H e.1 (.ref e.2.1) ∧ e.1.depth ≤ 8
theorem nd_ok {P : Program} {w : World} {H : Hp} {h : Heap} {d : Addr} {xs : NX} (hd : (d == sysModules) = false) (m : h.DictOfH (nestedKind P w) d xs) : ObjOk P w H h d (ndO P w d xs) := by
  obtain ⟨o, es, ep, h1, h2, h3, h4, _, h5⟩ := m
  exact ⟨⟨hd, o, es, ep, h1, h2, h3, h4, h5⟩, ⟨o, h1⟩, fun a b ⟨q0, o', es', ep', q1, q2⟩ k => ⟨q0, o', es', ep', k _ q1, q2⟩⟩
section
variable {X : Cx} {pins : List (Addr × Obj)} {σ : L2.St} {H : Hp} {s : Shared}
theorem nd_of (I : Inv X pins σ H s) {d : Addr} {xs : NX} (e : H d = some (ndO X.prog X.w d xs)) (k : NdKeys H xs) : (d == sysModules) = false ∧ s.heap.DictOfH (nestedKind X.prog X.w) d xs := by
  obtain ⟨⟨q0, o, es, ep, q1, q2, q3, q4, q5⟩, _⟩ := (show ObjOk X.prog X.w H s.heap d (ndO X.prog X.w d xs) from I.hok d _ e)
  exact ⟨q0, o, es, ep, q1, q2, q3, q4, fun x hx => ⟨NkV.is I _ _ _ (k x hx).1 rfl, (k x hx).2⟩, q5⟩
theorem pe_dnewN {pos : Pos} : PE X (.Dict [] [] pos) (fun _ H Q => ∀ p, H p = none → Q (.ref p) (upd H p (ndO X.prog X.w p []))) := ⟨fun pins s σ H Q I h =>
  wpAny_Dict_empty ⟨.ref s.heap.objs.size, _, I.laid (a := s.heap.objs.size) (o := ndO X.prog X.w s.heap.objs.size []) (t' := s.toks) (fun _ _ q => Heap.get?_push_of_some _ q) (Nat.le_refl _)
    (nd_ok (beq_eq_false_iff_ne.mpr (Ne.symm (Nat.ne_of_lt I.big))) (Heap.DictOfH.new s.heap)), rfl, h _ (I.hok.fresh (Nat.le_refl _))⟩⟩
def rInN (P : Program) (w : World) : R2 := fun x y H Q => ∃ (a d : Addr) (k : NestedKey) (xs : NX), x = .ref a ∧ y = .ref d ∧ H d = some (ndO P w d xs) ∧ NdKeys H xs ∧ NkV H k (.ref a) ∧ k.depth ≤ 8 ∧ Q (.bl (atKey xs k).isSome) H
theorem op_inN (hu : X.A.units + 9 < cLine) : OpR X (compareOp .In) (rInN X.prog X.w) := by
  intro pins s σ H x y v u Q I rx ry h
  obtain ⟨a, d, k, xs, rfl, rfl, hd, hk, ha, h8, q⟩ := h
  cases rx
  cases ry
  obtain ⟨h0, hm⟩ := nd_of I hd hk
  exact wpAny_in_heap (knd := nestedKind X.prog X.w) (k := k) (by show X.A.in1.units + 8 < cLine; rw [Around.in1_units]; omega) ⟨NkV.is I _ _ _ ha rfl, h8⟩ h0 hm ⟨.bl (atKey xs k).isSome, H, I.tok _, rfl, q⟩
def rSetN (P : Program) (w : World) : TSet := fun o i v H Q => ∃ (d a b : Addr) (k : NestedKey) (xs : NX), o = .ref d ∧ i = .ref a ∧ v = .ref b ∧ H d = some (ndO P w d xs) ∧ NdKeys H xs ∧ NkV H k (.ref a) ∧ k.depth ≤ 8 ∧ xs.length ≤ 1000 ∧ Q (upd H d (ndO P w d (storedH xs k a (.ref b))))
theorem set_dictN (hu : X.A.units + 9 < cLine) : PSet X (rSetN X.prog X.w) := by
  intro pins s σ H o i v ov iv u Q I ro ri rv h
  obtain ⟨d, a, b, k, xs, rfl, rfl, rfl, hd, hk, ha, h8, hl, q⟩ := h
  cases ro
  cases ri
  cases rv
  obtain ⟨h0, hm⟩ := nd_of I hd hk
  refine wpAny_setItem_heap (knd := nestedKind X.prog X.w) (k := k) (hsz := by rw [sizeLine_eq]; omega) (by show X.A.in1.units + 8 < cLine; rw [Around.in1_units]; omega) ⟨NkV.is I _ _ _ ha rfl, h8⟩ hm (fun h' hm' hs => ?_)
  obtain ⟨o', es, ep, e1, _⟩ := id hm'
  exact ⟨_, d_write I (by rw [hd]; exact True.intro) hs ⟨o', e1⟩ (nd_ok h0 hm'), q⟩
theorem vals_refs : ∀ bs : List Addr, Vals (bs.map V.ref) (bs.map Value.ref)
  | [] => .nil
  | b :: r => .cons rfl (vals_refs r)
/-- the view of the values of the dict at d -/
def valsO (p d : Addr) : HO := .ext fun h => h.IsValuesView p d
def tValsN (P : Program) (w : World) (td : TE) : TE := fun σ H Q => td σ H fun x H1 => ∃ (d : Addr) (xs : NX), x = .ref d ∧ H1 d = some (ndO P w d xs) ∧ ∀ p, H1 p = none → Q (.ref p) (upd H1 p (valsO p d))
theorem pe_valsN {o : Expr} {td : TE} {apos cpos : Pos} (he : PE X o td) (hbase : attributeBase o "values" X.env (eval o X.env) = eval o X.env := by rfl) (hline : (apos.endLine == cpos.line) = true := by rfl) : PE X (.Call (.Attribute o "values" apos) [] [] cpos) (tValsN X.prog X.w td) := by
  refine ⟨fun pins s σ H Q I h => ?_⟩
  refine wpAny_Call_method (T := "dict") (id := "dict.values") hbase rfl hline F.plainAttrs_dict F.slot_dict_values F.type_dict_values (thn (he.run pins s σ H _ I h) fun u s1 ⟨x, H1, I1, rx, d, xs, ex, hd, q⟩ => ?_)
  subst ex
  obtain rfl : u = Value.ref d := rx
  obtain ⟨⟨h0, ob, es, ep, q1, q2, q3, q4, q5⟩, _⟩ := (show ObjOk X.prog X.w H1 s1.heap d (ndO X.prog X.w d xs) from I1.hok d _ hd)
  have raw : s1.heap.DictRaw d es ep := ⟨ob, q1, q2, q3⟩
  refine ⟨raw.typeIs, ?_, ?_⟩
  · intro a e
    cases e
    exact ⟨ob, q1, q2.2.1⟩
  · show wpAny _ _ (callWith cpos (.builtin "dict.values") [.ref d] [] []) _ X.xe s1
    have hf : H1 s1.heap.objs.size = none := I1.hok.fresh (Nat.le_refl _)
    exact method_meetsIn F.slot_dict_values F.entry_dict_values rfl (PySem.evalArgs_none ⟨rfl, raw.typeIs, F.args_dict_values_1 _, _, meets_dict_values_raw d h0, ⟨_, _, raw⟩, ⟨.ref s1.heap.objs.size, upd H1 s1.heap.objs.size (valsO s1.heap.objs.size d), I1.laid (t' := s1.toks) (fun b u e => Heap.get?_push_of_some _ e) (Nat.le_refl _) ⟨⟨_, Heap.get?_push_size _ rfl, rfl, rfl⟩, ⟨_, Heap.get?_push_size _ rfl⟩, fun h1 h2 ⟨o, ho, r⟩ k => ⟨o, k o ho, r⟩⟩, rfl, q _ hf⟩⟩)
/-- list(d.values()) -/
def rListVN (P : Program) (w : World) : List V → Hp → VK → Prop := fun vs H Q => ∃ (p d : Addr) (xs : NX) (bs : List Addr), vs = [.ref p] ∧ H p = some (valsO p d) ∧ H d = some (ndO P w d xs) ∧ xs.map (fun x => x.2.2) = bs.map Value.ref ∧ bs.length ≤ 1000 ∧ ∀ l, H l = none → Q (.ref l) (upd H l (.lst (bs.map V.ref)))
theorem call_listVN (hc : X.calm = true) : CallR X (.type "list") (rListVN X.prog X.w) := by
  intro pins s σ H vs us Q I r h
  obtain ⟨p, d, xs, bs, rfl, hp, hd, hv, hl, q⟩ := h
  obtain ⟨u, rfl, ru⟩ := r.one
  cases (show u = Value.ref p from ru)
  obtain ⟨⟨h0, ob, es, ep, q1, q2, q3, q4, q5⟩, _⟩ := (show ObjOk X.prog X.w H s.heap d (ndO X.prog X.w d xs) from I.hok d _ hd)
  obtain ⟨hview, _⟩ := (show ObjOk X.prog X.w H s.heap p (valsO p d) from I.hok p _ hp)
  have hes : es.size = bs.length := by
    rw [← Array.length_toList, q4, List.length_map, ← List.length_map (f := fun x : NestedKey × Addr × Value => x.2.2), hv, List.length_map]
  refine PySem.W.kdl_call (KdlSrc.rawValues) (I.ok.hd hc) ⟨hview, ob, q1, q2, q3⟩ (by rw [hes, sizeLine_eq]; omega) fun h' tk acc c hk hL hacc => ?_
  have eacc : acc.toList = bs.map Value.ref := by
    rw [← hv]
    refine List.ext_getElem? fun j => ?_
    rw [List.getElem?_map, Array.getElem?_toList]
    have hx : es[j]? = xs[j]?.map (entryOfKey (nestedKind X.prog X.w)) := by rw [← Array.getElem?_toList, q4, List.getElem?_map]
    cases e : acc[j]? with
    | none =>
      have h1 : es.size ≤ j := by rw [← hacc.1]; exact Array.getElem?_eq_none_iff.mp e
      rw [Array.getElem?_eq_none_iff.mpr h1] at hx
      cases e2 : xs[j]? with
      | none => rfl
      | some y => rw [e2] at hx; cases hx
    | some v =>
      obtain ⟨hi, ev⟩ := hacc.2 j v e
      rw [Array.getElem?_eq_getElem hi] at hx
      cases e2 : xs[j]? with
      | none => rw [e2] at hx; cases hx
      | some y =>
        rw [e2] at hx
        have := Option.some.inj hx
        rw [ev, this]
        rfl
  refine ⟨.ref s.heap.objs.size, upd H s.heap.objs.size (.lst (bs.map V.ref)), I.laid (t' := tk) hk (Nat.le_refl _) ⟨by rw [List.length_map, sizeLine_eq]; omega, bs.map Value.ref, c, ?_, by rw [hL, ← eacc]⟩, rfl, q _ (I.hok.fresh (Nat.le_refl _))⟩
  exact vals_refs bs
end
end GB
set_option Elab.async false
set_option linter.all false
set_option maxRecDepth 100000
set_option maxHeartbeats 4000000
/-! Places in terms: the part there, the names that are bound around it, another term in its place. -/
namespace GB
open PySem PySem.Spec L2
/-- at the path r of t (within the names ns) stands s, within the names ms -/
inductive Pos : Tm → List Str → List Nat → Tm → List Str → Prop
  | here {t ns} : Pos t ns [] t ns
  | there {w n : Str} {ks : List Tm} {i : Nat} {k : Tm} {r : List Nat} {s : Tm} {ns ms : List Str} : ks[i]? = some k → Pos k (nsAt w n i ns) r s ms → Pos (.mk w n ks) ns (i :: r) s ms
def putT : Tm → List Nat → Tm → Tm
  | _, [], o => o
  | .mk w n ks, i :: r, o => match ks[i]? with
    | some k => .mk w n (ks.set i (putT k r o))
    | none => .mk w n ks
theorem putT_at {w n : Str} {ks : List Tm} {i : Nat} {k : Tm} {r : List Nat} {o : Tm} (h : ks[i]? = some k) : putT (.mk w n ks) (i :: r) o = .mk w n (ks.set i (putT k r o)) := by
  rw [putT, h]
section
variable {L : List (Str × Nat)} {t s o : Tm} {ns ms : List Str} {r : List Nat}
theorem Pos.at_ (h : Pos t ns r s ms) : atP t (pin r) = some s := by
  induction h with
  | here => rfl
  | @there w n ks i k r s ns ms hk _ ih =>
    have hi : i < ks.length := (List.getElem?_eq_some_iff.mp hk).1
    show (if 0 ≤ (i : Int) ∧ (i : Int) < ks.length then (match ks[(i : Int).toNat]? with | some k => atP k (pin r) | none => none) else none) = _
    rw [if_pos ⟨by omega, by omega⟩, Int.toNat_natCast, hk]
    exact ih
theorem Pos.ok (h : Pos t ns r s ms) (ht : TmOk L ns t) : TmOk L ms s := by
  induction h with
  | here => exact ht
  | there hk _ ih =>
    cases ht with
    | mk hH hK => exact ih (hK _ _ hk)
theorem Pos.put_ok (h : Pos t ns r s ms) (ht : TmOk L ns t) (ho : TmOk L ms o) : TmOk L ns (putT t r o) := by
  induction h with
  | here => exact ho
  | @there w n ks i k r s ns ms hk _ ih =>
    rw [putT_at hk]
    cases ht with
    | mk hH hK =>
      refine .mk (by rw [List.length_set]; exact hH) fun j c hc => ?_
      rw [List.getElem?_set] at hc
      split at hc
      · rename_i e
        subst e
        split at hc
        · obtain rfl := Option.some.inj hc
          exact ih (hK _ _ hk) ho
        · cases hc
      · exact hK _ _ hc
theorem sizes_set : ∀ {ks : List Tm} {i : Nat} {k c : Tm}, ks[i]? = some k → Tm.sizes (ks.set i c) + k.size = Tm.sizes ks + c.size
  | a :: l, 0, k, c, h => by
    obtain rfl := Option.some.inj h
    rw [List.set_cons_zero, Tm.sizes, Tm.sizes]
    omega
  | a :: l, i + 1, k, c, h => by
    have := sizes_set (ks := l) (i := i) (k := k) (c := c) h
    rw [List.set_cons_succ, Tm.sizes, Tm.sizes]
    omega
theorem Pos.put_size (h : Pos t ns r s ms) : (putT t r o).size + s.size = t.size + o.size := by
  induction h with
  | here => rw [putT]; omega
  | @there w n ks i k r s ns ms hk _ ih =>
    rw [putT_at hk, Tm.size, Tm.size]
    have := sizes_set (c := putT k r o) hk
    omega
theorem Pos.put_pos (h : Pos t ns r s ms) : Pos (putT t r o) ns r o ms := by
  induction h with
  | here => exact .here
  | @there w n ks i k r s ns ms hk _ ih =>
    rw [putT_at hk]
    exact .there (by rw [List.getElem?_set_self (List.getElem?_eq_some_iff.mp hk).1]) ih
theorem Pos.put_back (h : Pos t ns r s ms) : putT (putT t r o) r s = t := by
  induction h with
  | here => rfl
  | @there w n ks i k r s ns ms hk _ ih =>
    obtain ⟨hi, e⟩ := List.getElem?_eq_some_iff.mp hk
    rw [putT_at hk, putT_at (List.getElem?_set_self hi), ih, List.set_set]
    rw [← e, List.set_getElem_self hi]
theorem Pos.le (h : Pos t ns r s ms) : s.size + r.length ≤ t.size := by
  induction h with
  | here => simp
  | @there w n ks i k r s ns ms hk _ ih =>
    have := size_at (w := w) (n := n) hk
    rw [List.length_cons]
    omega
theorem Pos.nsl (h : Pos t ns r s ms) : ms.length ≤ ns.length + r.length := by
  induction h with
  | here => simp
  | @there w n ks i k r s ns ms hk _ ih =>
    have : (nsAt w n i ns).length ≤ ns.length + 1 := by
      unfold nsAt
      split
      · simp
      · omega
    rw [List.length_cons]
    omega
theorem Pos.snoc {w n : Str} {ks : List Tm} {i : Nat} {k : Tm} (h : Pos t ns r (.mk w n ks) ms) (hk : ks[i]? = some k) : Pos t ns (r ++ [i]) k (nsAt w n i ms) := by
  generalize e : Tm.mk w n ks = s at h
  induction h with
  | here => subst e; exact .there hk .here
  | there h1 _ ih => exact .there h1 (ih e)
/-- how a place goes on behind another one -/
theorem Pos.split : ∀ {a b : List Nat} {t s : Tm} {ns ms : List Str}, Pos t ns (a ++ b) s ms → ∃ u us, Pos t ns a u us ∧ Pos u us b s ms
  | [], _, _, _, _, _, h => ⟨_, _, .here, h⟩
  | i :: a, b, _, _, _, _, h => by
    cases h with
    | there h1 h2 =>
      obtain ⟨u, us, p1, p2⟩ := Pos.split h2
      exact ⟨u, us, .there h1 p1, p2⟩
theorem head_bind {n : Str} {m : Nat} (h : HeadOk L ns "bind" n m) : nameB n = true := by
  cases h with
  | bind h _ => exact h
  | op ho => exact absurd rfl ((show ∀ q ∈ opsW, q.1 ≠ "bind" by decide) _ ho)
theorem head_bnd {n : Str} {m : Nat} (h : HeadOk L ns "bind" n m) : n ∈ bnd := by
  cases h with
  | bind _ h => exact h
  | op ho => exact absurd rfl ((show ∀ q ∈ opsW, q.1 ≠ "bind" by decide) _ ho)
theorem Pos.bnds (h : Pos t ns r s ms) (ht : TmOk L ns t) (hn : ∀ z ∈ ns, z ∈ bnd) : ∀ z ∈ ms, z ∈ bnd := by
  induction h with
  | here => exact hn
  | @there w n ks i k r s ns ms hk _ ih =>
    cases ht with
    | mk hH hK =>
      refine ih (hK _ _ hk) fun z hz => ?_
      unfold nsAt at hz
      split at hz
      · rename_i e
        rcases List.mem_append.mp hz with h | h
        · exact hn z h
        · rw [List.mem_singleton.mp h]
          obtain ⟨rfl, _⟩ := e
          exact head_bnd hH
      · exact hn z hz
theorem Pos.nstr (h : Pos t ns r s ms) (ht : TmOk L ns t) (hn : ∀ z ∈ ns, nameB z = true) : ∀ z ∈ ms, nameB z = true := by
  induction h with
  | here => exact hn
  | @there w n ks i k r s ns ms hk _ ih =>
    cases ht with
    | mk hH hK =>
      refine ih (hK _ _ hk) fun z hz => ?_
      unfold nsAt at hz
      split at hz
      · rename_i e
        rcases List.mem_append.mp hz with h | h
        · exact hn z h
        · rw [List.mem_singleton.mp h]
          obtain ⟨rfl, _⟩ := e
          exact head_bind hH
      · exact hn z hz
end
mutual
/-- all places, with the names around: a part ahead of those within it -/
def Tm.places : Tm → List Nat → List Str → List (List Nat × List Str)
  | .mk w n ks, p, ns => (p, ns) :: Tm.placesL w n ks p ns 0
def Tm.placesL : Str → Str → List Tm → List Nat → List Str → Nat → List (List Nat × List Str)
  | _, _, [], _, _, _ => []
  | w, n, k :: r, p, ns, i => k.places (p ++ [i]) (nsAt w n i ns) ++ Tm.placesL w n r p ns (i + 1)
end
mutual
theorem places_len : ∀ (t : Tm) (p : List Nat) (ns : List Str), (t.places p ns).length = t.size
  | .mk w n ks, p, ns => by rw [Tm.places, Tm.size, List.length_cons, placesL_len w n ks p ns 0]
theorem placesL_len : ∀ (w n : Str) (ks : List Tm) (p : List Nat) (ns : List Str) (i : Nat), (Tm.placesL w n ks p ns i).length = Tm.sizes ks
  | _, _, [], _, _, _ => rfl
  | w, n, k :: r, p, ns, i => by rw [Tm.placesL, Tm.sizes, List.length_append, places_len k, placesL_len w n r]
end
theorem placesL_app : ∀ (w n : Str) (l : List Tm) (k : Tm) (p : List Nat) (ns : List Str) (i : Nat), Tm.placesL w n (l ++ [k]) p ns i = Tm.placesL w n l p ns i ++ k.places (p ++ [i + l.length]) (nsAt w n (i + l.length) ns)
  | w, n, [], k, p, ns, i => by simp [Tm.placesL]
  | w, n, a :: r, k, p, ns, i => by
    have e : i + 1 + r.length = i + (r.length + 1) := by omega
    rw [List.cons_append, Tm.placesL, Tm.placesL, placesL_app w n r k p ns (i + 1), List.append_assoc, List.length_cons, e]
mutual
theorem places_pos : ∀ (t : Tm) (p : List Nat) (ns : List Str) (q : List Nat) (ms : List Str), (q, ms) ∈ t.places p ns → ∃ r s, q = p ++ r ∧ Pos t ns r s ms
  | .mk w n ks, p, ns, q, ms, h => by
    rw [Tm.places] at h
    rcases List.mem_cons.mp h with h | h
    · cases h
      exact ⟨[], _, by rw [List.append_nil], .here⟩
    · obtain ⟨j, k, r, s, hk, e, hp⟩ := placesL_pos w n ks p ns 0 q ms h
      rw [Nat.zero_add] at e hp
      exact ⟨j :: r, s, e, .there hk hp⟩
theorem placesL_pos : ∀ (w n : Str) (ks : List Tm) (p : List Nat) (ns : List Str) (i : Nat) (q : List Nat) (ms : List Str), (q, ms) ∈ Tm.placesL w n ks p ns i → ∃ j k r s, ks[j]? = some k ∧ q = p ++ (i + j) :: r ∧ Pos k (nsAt w n (i + j) ns) r s ms
  | _, _, [], _, _, _, _, _, h => by
    rw [Tm.placesL] at h
    cases h
  | w, n, k :: l, p, ns, i, q, ms, h => by
    rw [Tm.placesL] at h
    rcases List.mem_append.mp h with h | h
    · obtain ⟨r, s, e, hp⟩ := places_pos k (p ++ [i]) (nsAt w n i ns) q ms h
      exact ⟨0, k, r, s, rfl, by rw [e]; simp, hp⟩
    · obtain ⟨j, k2, r, s, hk, e, hp⟩ := placesL_pos w n l p ns (i + 1) q ms h
      have e2 : i + 1 + j = i + (j + 1) := by omega
      rw [e2] at e hp
      exact ⟨j + 1, k2, r, s, hk, e, hp⟩
end
end GB
set_option Elab.async false
set_option linter.all false
set_option maxRecDepth 100000
set_option maxHeartbeats 4000000
/-! Objects that are no terms, and where the first part stands that is none. -/
namespace GB
open PySem PySem.Spec L2
/-- one of two readings -/
theorem pe_alt {X : Cx} {e : Expr} {t1 t2 : TE} (h1 : PE X e t1) (h2 : PE X e t2) : PE X e (fun σ H Q => t1 σ H Q ∨ t2 σ H Q) := ⟨fun pins s σ H Q I h => h.elim (h1.run pins s σ H Q I) (h2.run pins s σ H Q I)⟩
/-- no name -/
inductive NotNm (K : PySem.W.Frag) (H : Hp) : V → Prop
  | str {s : Str} : nameB s = false → s.length ≤ sizeLine → NotNm K H (.str s)
  | oth {x t} : (∀ H', Same H H' → TyX K H' x t) → PySem.W.kitOne K t (.type "str") = some false → NotNm K H x
/-- no letter -/
inductive NotL (K : PySem.W.Frag) (H : Hp) (L : List (Str × Nat)) : V → Prop
  | str {s : Str} : s ∉ L.map (·.1) → NotL K H L (.str s)
  | oth {x t} : (∀ H', Same H H' → TyX K H' x t) → PySem.W.kitOne K t (.type "str") = some false → NotL K H L x
theorem NotNm.mono {K : PySem.W.Frag} {H H' : Hp} {x : V} (s : Same H H') (h : NotNm K H x) : NotNm K H' x := by
  cases h with
  | str h1 h2 => exact .str h1 h2
  | oth h1 h2 => exact .oth (fun H2 s2 => h1 H2 (s.trans s2)) h2
theorem NotL.mono {K : PySem.W.Frag} {H H' : Hp} {L : List (Str × Nat)} {x : V} (s : Same H H') (h : NotL K H L x) : NotL K H' L x := by
  cases h with
  | str h1 => exact .str h1
  | oth h1 h2 => exact .oth (fun H2 s2 => h1 H2 (s.trans s2)) h2
/-- a list, or none -/
inductive SeqOr (K : PySem.W.Frag) (H : Hp) : V → Prop
  | no {x t} : (∀ H', Same H H' → TyX K H' x t) → PySem.W.kitAny K t [.type "list", .type "tuple"] = some false → SeqOr K H x
  | seq {p xs} : SqA K H p xs → SeqOr K H (.ref p)
theorem SeqOr.mono {K : PySem.W.Frag} {H H' : Hp} {x : V} (s : Same H H') (h : SeqOr K H x) : SeqOr K H' x := by
  cases h with
  | no h1 h2 => exact .no (fun H2 s2 => h1 H2 (s.trans s2)) h2
  | seq h1 => exact .seq (h1.mono s)
/-- a use that is none -/
inductive UseV (K : PySem.W.Frag) (H : Hp) (L : List (Str × Nat)) (p : Addr) : Prop
  | len {r} : SqA K H p (.str "use" :: r) → r.length ≠ 2 → UseV K H L p
  | name {y e} : SqA K H p [.str "use", y, e] → NotL K H L y → SeqOr K H e → UseV K H L p
  | parts {n m e t} : SqA K H p [.str "use", .str n, e] → (n, m) ∈ L → (∀ H', Same H H' → TyX K H' e t) → PySem.W.kitAny K t [.type "list", .type "tuple"] = some false → UseV K H L p
  | many {n m q us} : SqA K H p [.str "use", .str n, .ref q] → (n, m) ∈ L → SqA K H q us → us.length ≠ m → UseV K H L p
theorem UseV.mono {K : PySem.W.Frag} {H H' : Hp} {L : List (Str × Nat)} {p : Addr} (s : Same H H') (h : UseV K H L p) : UseV K H' L p := by
  cases h with
  | len h1 h2 => exact .len (h1.mono s) h2
  | name h1 h2 h3 => exact .name (h1.mono s) (h2.mono s) (h3.mono s)
  | parts h1 h2 h3 h4 => exact .parts (h1.mono s) h2 (fun H2 s2 => h3 H2 (s.trans s2)) h4
  | many h1 h2 h3 h4 => exact .many (h1.mono s) h2 (h3.mono s) h4
theorem UseV.hd {K : PySem.W.Frag} {H : Hp} {L : List (Str × Nat)} {p : Addr} (h : UseV K H L p) : ∃ r, SqA K H p (.str "use" :: r) := by
  cases h with
  | len h1 _ => exact ⟨_, h1⟩
  | name h1 _ _ => exact ⟨_, h1⟩
  | parts h1 _ _ _ => exact ⟨_, h1⟩
  | many h1 _ _ _ => exact ⟨_, h1⟩
/-- a thing that is no node -/
inductive OddV (K : PySem.W.Frag) (H : Hp) (L : List (Str × Nat)) (ns : List Str) : V → Prop
  | flat {x t} : (∀ H', Same H H' → TyX K H' x t) → PySem.W.kitAny K t [.type "list", .type "tuple"] = some false → OddV K H L ns x
  | empty {p} : SqA K H p [] → OddV K H L ns (.ref p)
  | head {p y r t} : SqA K H p (y :: r) → (∀ H', Same H H' → TyX K H' y t) → PySem.W.kitOne K t (.type "str") = some false → OddV K H L ns (.ref p)
  | use {p} : UseV K H L p → OddV K H L ns (.ref p)
  | bname {p y a b} : SqA K H p [.str "bind", y, a, b] → NotNm K H y → OddV K H L ns (.ref p)
  | nlen {p w r} : w ∈ nmd → SqA K H p (.str w :: r) → r.length ≠ 1 → OddV K H L ns (.ref p)
  | nname {p w y} : w ∈ nmd → SqA K H p [.str w, y] → NotNm K H y → OddV K H L ns (.ref p)
  | free {p n} : SqA K H p [.str "name", .str n] → nameB n = true → n ∉ ns → OddV K H L ns (.ref p)
  | word {p r} : SqA K H p (.str "xor" :: r) → OddV K H L ns (.ref p)
  | olen {p w m r} : (w, m) ∈ opsW → SqA K H p (.str w :: r) → r.length ≠ m → OddV K H L ns (.ref p)
theorem OddV.mono {K : PySem.W.Frag} {H H' : Hp} {L : List (Str × Nat)} {ns : List Str} {x : V} (s : Same H H') (h : OddV K H L ns x) : OddV K H' L ns x := by
  cases h with
  | flat h1 h2 => exact .flat (fun H2 s2 => h1 H2 (s.trans s2)) h2
  | empty h => exact .empty (h.mono s)
  | head h1 h2 h3 => exact .head (h1.mono s) (fun H2 s2 => h2 H2 (s.trans s2)) h3
  | use h => exact .use (h.mono s)
  | bname h1 h2 => exact .bname (h1.mono s) (h2.mono s)
  | nlen h0 h1 h2 => exact .nlen h0 (h1.mono s) h2
  | nname h0 h1 h2 => exact .nname h0 (h1.mono s) (h2.mono s)
  | free h h1 h2 => exact .free (h.mono s) h1 h2
  | word h => exact .word (h.mono s)
  | olen h0 h1 h2 => exact .olen h0 (h1.mono s) h2
/-- words that stand ahead of no terms alone -/
def noW : List Str := ["use", "value", "name", "fail", "bind", "xor"]
/-- an odd thing that begins with a word -/
structure OddW (K : PySem.W.Frag) (H : Hp) (L : List (Str × Nat)) (ns : List Str) (p : Addr) (w : Str) (r : List V) : Prop where
  sq : SqA K H p (.str w :: r)
  ne : r ≠ []
  use : w = "use" → UseV K H L p
  ops : ∀ m, (w, m) ∈ opsW → r.length ≠ m
  nam : w ∈ nmd → r.length ≠ 1 ∨ ∃ y, r = [y] ∧ (NotNm K H y ∨ (w = "name" ∧ ∃ n, y = .str n ∧ nameB n = true ∧ n ∉ ns))
  bind : w = "bind" → ∃ y a b, r = [y, a, b] ∧ NotNm K H y
  known : (∃ m, (w, m) ∈ opsW) ∨ w ∈ noW
theorem OddW.mono {K : PySem.W.Frag} {H H' : Hp} {L : List (Str × Nat)} {ns : List Str} {p : Addr} {w : Str} {r : List V} (s : Same H H') (h : OddW K H L ns p w r) : OddW K H' L ns p w r :=
  ⟨h.sq.mono s, h.ne, fun e => (h.use e).mono s, h.ops, fun m => (h.nam m).imp id fun ⟨y, e, q⟩ => ⟨y, e, q.imp (fun n => n.mono s) id⟩, fun e => let ⟨y, a, b, e1, n⟩ := h.bind e; ⟨y, a, b, e1, n.mono s⟩, h.known⟩
theorem nmW : ∀ x ∈ nmd, x ≠ "use" ∧ x ≠ "bind" ∧ x ∉ opsW.map (·.1) ∧ x ∈ noW := by decide
theorem noOp {w : Str} (h : w ∉ opsW.map (·.1)) (m : Nat) : (w, m) ∉ opsW := fun z => h (List.mem_map.mpr ⟨_, z, rfl⟩)
theorem OddV.cases4 {K : PySem.W.Frag} {H : Hp} {L : List (Str × Nat)} {ns : List Str} {x : V} (h : OddV K H L ns x) :
    (∃ t, (∀ H', Same H H' → TyX K H' x t) ∧ PySem.W.kitAny K t [.type "list", .type "tuple"] = some false) ∨ (∃ p xs, x = .ref p ∧ SqA K H p xs ∧ xs.length < 2) ∨
    (∃ p y r t, x = .ref p ∧ SqA K H p (y :: r) ∧ (∀ H', Same H H' → TyX K H' y t) ∧ PySem.W.kitOne K t (.type "str") = some false) ∨ ∃ p w r, x = .ref p ∧ OddW K H L ns p w r := by
  have sh : ∀ {p : Addr} {y : V} {r : List V}, SqA K H p (y :: r) → (r ≠ [] → ∃ p' w r', V.ref p = .ref p' ∧ OddW K H L ns p' w r') → (∃ t, (∀ H', Same H H' → TyX K H' (.ref p) t) ∧ PySem.W.kitAny K t [.type "list", .type "tuple"] = some false) ∨ (∃ p' xs, V.ref p = .ref p' ∧ SqA K H p' xs ∧ xs.length < 2) ∨
    (∃ p' y r t, V.ref p = .ref p' ∧ SqA K H p' (y :: r) ∧ (∀ H', Same H H' → TyX K H' y t) ∧ PySem.W.kitOne K t (.type "str") = some false) ∨ ∃ p' w r, V.ref p = .ref p' ∧ OddW K H L ns p' w r := fun {p y r} hp hq => by
      by_cases e : r = []
      · subst e
        exact .inr (.inl ⟨_, _, rfl, hp, by simp⟩)
      · exact .inr (.inr (.inr (hq e)))
  cases h with
  | flat h1 h2 => exact .inl ⟨_, h1, h2⟩
  | empty h => exact .inr (.inl ⟨_, _, rfl, h, by simp⟩)
  | head h1 h2 h3 => exact .inr (.inr (.inl ⟨_, _, _, _, rfl, h1, h2, h3⟩))
  | use h =>
    obtain ⟨r, hp⟩ := h.hd
    refine sh hp fun ne => ⟨_, _, _, rfl, hp, ne, fun _ => h, fun m z => absurd z (noOp (by decide) m), fun z => absurd z (by decide), fun z => absurd z (by decide), .inr (by decide)⟩
  | @bname p y a b h1 h2 => exact sh h1 fun ne => ⟨_, _, _, rfl, h1, ne, fun z => absurd z (by decide), fun m z => absurd z (noOp (by decide) m), fun z => absurd z (by decide), fun _ => ⟨y, a, b, rfl, h2⟩, .inr (by decide)⟩
  | nlen h0 h1 h2 => exact sh h1 fun ne => ⟨_, _, _, rfl, h1, ne, fun z => absurd z (nmW _ h0).1, fun m z => absurd z (noOp (nmW _ h0).2.2.1 m), fun _ => .inl h2, fun z => absurd z (nmW _ h0).2.1, .inr (nmW _ h0).2.2.2⟩
  | nname h0 h1 h2 => exact sh h1 fun ne => ⟨_, _, _, rfl, h1, ne, fun z => absurd z (nmW _ h0).1, fun m z => absurd z (noOp (nmW _ h0).2.2.1 m), fun _ => .inr ⟨_, rfl, .inl h2⟩, fun z => absurd z (nmW _ h0).2.1, .inr (nmW _ h0).2.2.2⟩
  | free h1 h2 h3 => exact sh h1 fun ne => ⟨_, _, _, rfl, h1, ne, fun z => absurd z (by decide), fun m z => absurd z (noOp (by decide) m), fun _ => .inr ⟨_, rfl, .inr ⟨rfl, _, rfl, h2, h3⟩⟩, fun z => absurd z (by decide), .inr (by decide)⟩
  | word h1 => exact sh h1 fun ne => ⟨_, _, _, rfl, h1, ne, fun z => absurd z (by decide), fun m z => absurd z (noOp (by decide) m), fun z => absurd z (by decide), fun z => absurd z (by decide), .inr (by decide)⟩
  | @olen p w m r h0 h1 h2 =>
    have n := (show ∀ q ∈ opsW, q.1 ∉ nmd ∧ q.1 ≠ "use" ∧ q.1 ≠ "bind" by decide) _ h0
    have u : ∀ k, (w, k) ∈ opsW → k = m := fun k hk => (show ∀ q ∈ opsW, ∀ q' ∈ opsW, q.1 = q'.1 → q.2 = q'.2 by decide) _ hk _ h0 rfl
    exact sh h1 fun ne => ⟨_, _, _, rfl, h1, ne, fun z => absurd z n.2.1, fun k z => by rw [u k z]; exact h2, fun z => absurd z n.1, fun z => absurd z n.2.2, .inl ⟨m, h0⟩⟩
/-- a thing that is a term of at most so many parts -/
def GoodV (K : PySem.W.Frag) (H : Hp) (L : List (Str × Nat)) (ns : List Str) (z : Nat) (x : V) : Prop := ∃ d t, Dp K H x d ∧ IsTm d t ∧ TmOk L ns t ∧ t.size ≤ z
/-- the first part that is no term stands at this path -/
inductive BadV (K : PySem.W.Frag) (H : Hp) (L : List (Str × Nat)) : Nat → List Str → V → List Nat → Prop
  | odd {z ns x} : OddV K H L ns x → BadV K H L (z + 1) ns x []
  | within {z ns p w n us i y r} : NodeV K H p w n us → HeadOk L ns w n us.length → us[i]? = some y → (∀ j x, j < i → us[j]? = some x → GoodV K H L (nsAt w n j ns) z x) → BadV K H L z (nsAt w n i ns) y r → us.length ≤ 1000 → BadV K H L (z + 1) ns (.ref p) (i :: r)
theorem GoodV.mono {K : PySem.W.Frag} {H H' : Hp} {L : List (Str × Nat)} {ns : List Str} {z : Nat} {x : V} (s : Same H H') (h : GoodV K H L ns z x) : GoodV K H' L ns z x := let ⟨d, t, a, b⟩ := h; ⟨d, t, dp_mono s a, b⟩
theorem BadV.mono {K : PySem.W.Frag} {H H' : Hp} {L : List (Str × Nat)} {z : Nat} {ns : List Str} {x : V} {r : List Nat} (s : Same H H') (h : BadV K H L z ns x r) : BadV K H' L z ns x r := by
  induction h with
  | odd h => exact .odd (h.mono s)
  | within h1 h2 h3 h4 _ h6 ih => exact .within (h1.mono s) h2 h3 (fun j x hj hx => (h4 j x hj hx).mono s) ih h6
end GB
set_option Elab.async false
set_option linter.all false
set_option maxRecDepth 100000
set_option maxHeartbeats 8000000
namespace GB
open PySem PySem.Spec L2
/-- a ground of the package, as far as terms ask -/
structure IsGr (C : Addr) (H : Hp) (G : Addr) (g : GD) : Prop where
  ex : ∃ dx fs aL, H G = some (.ins C dx fs) ∧ fs.lookup ("_letters" : Str) = some (.ref aL) ∧ H aL = some (.dK (lkv g.letters)) ∧ fs.lookup ("parts_of" : Str) = none
theorem IsGr.mono {C : Addr} {H H' : Hp} {G : Addr} {g : GD} (s : Same H H') (h : IsGr C H G g) : IsGr C H' G g := let ⟨dx, fs, aL, h1, h2, h3, h4⟩ := h.ex; ⟨dx, fs, aL, s _ _ h1, h2, s _ _ h3, h4⟩
theorem NodeV.head {K : PySem.W.Frag} {H : Hp} {p : Addr} {w n : Str} {vs : List V} (h : NodeV K H p w n vs) : ∃ rest, SqA K H p (.str w :: rest) := by
  rcases h.kind with ⟨_, _, hs⟩ | ⟨_, _, hs, _⟩ | ⟨_, hs⟩ | ⟨_, _, hs⟩
  · exact ⟨_, hs⟩
  · exact ⟨_, hs⟩
  · exact ⟨_, hs⟩
  · exact ⟨_, hs⟩
section
variable {L : List (Str × Nat)} {ns : List Str} {w n : Str} {m : Nat}
theorem HeadOk.nmd (h : HeadOk L ns w n m) (hw : w ∈ nmd) : nameB n = true ∧ (w = "name" → n ∈ ns) := by
  cases h with
  | val h => exact ⟨h, fun e => absurd e (by decide)⟩
  | fail h => exact ⟨h, fun e => absurd e (by decide)⟩
  | name h hn => exact ⟨h, fun _ => hn⟩
  | use h => exact absurd hw (by decide)
  | bind h _ => exact absurd hw (by decide)
  | op ho => exact absurd hw (ops_no _ ho).1
theorem HeadOk.toUse (h : HeadOk L ns "use" n m) : (n, m) ∈ L := by
  cases h with
  | use h => exact h
  | op ho => exact absurd rfl (ops_no _ ho).2.1
theorem HeadOk.toBind (h : HeadOk L ns "bind" n m) : nameB n = true ∧ m = 2 := by
  cases h with
  | bind h _ => exact ⟨h, rfl⟩
  | op ho => exact absurd rfl (ops_no _ ho).2.2
theorem HeadOk.toOp (h : HeadOk L ns w n m) (ho : ∃ k, (w, k) ∈ opsW) : (w, m) ∈ opsW := by
  obtain ⟨k, ho⟩ := ho
  cases h with
  | val h => exact absurd (show ("value" : Str) ∈ GB.nmd by decide) (ops_no _ ho).1
  | fail h => exact absurd (show ("fail" : Str) ∈ GB.nmd by decide) (ops_no _ ho).1
  | name h hn => exact absurd (show ("name" : Str) ∈ GB.nmd by decide) (ops_no _ ho).1
  | use h => exact absurd rfl (ops_no _ ho).2.1
  | bind h _ => exact absurd rfl (ops_no _ ho).2.2
  | op h => exact h
end
def spHas (K : PySem.W.Frag) (C : Addr) : Sp := fun vs H Q _ => ∃ (G : Addr) (x : V) (g : GD), vs = [.ref G, x] ∧ IsGr C H G g ∧ ((∃ s : Str, x = .str s ∧ (g.letters.map (·.1)).Nodup ∧ Q (.bl (decide (s ∈ g.letters.map (·.1)))) H) ∨ (∃ t, TyX K H x t ∧ PySem.W.kitOne K t (.type "str") = some false ∧ Q (.bl false) H))
def spPrt (C : Addr) : Sp := fun vs H Q _ => ∃ (G : Addr) (x : Str) (g : GD), vs = [.ref G, .str x] ∧ IsGr C H G g ∧ (g.letters.map (·.1)).Nodup ∧ ((∃ k, (x, k) ∈ g.letters ∧ Q (.int (k : Nat)) H) ∨ (x ∉ g.letters.map (·.1) ∧ Q .non H))
structure GrC (P : Program) (w : World) (K : PySem.W.Frag) (mg : Str → Option Value) (base : Heap) (C : Addr) : Prop where
  cl : Cls K C
  prt : ∃ f fd, Meth K C "parts_of" f ∧ FnOk P w K mg base CX0 1 f fd ["self", "letter"] (spPrt C) ∧ Binds K fd ["self", "letter"] []
end GB
namespace K27
open PySem PySem.Spec L2 GB
abbrev sHas : Stmt := inClass (topS 31) 7
abbrev sPrt : Stmt := inClass (topS 31) 5
abbrev sIsU : Stmt := topS 20
def spIsU (K : PySem.W.Frag) (C : Addr) : Sp := fun vs H Q _ => ∃ (G p : Addr) (g : GD), vs = [.ref G, .ref p] ∧ IsGr C H G g ∧ (g.letters.map (·.1)).Nodup ∧
  ((∃ (q : Addr) (n : Str) (us : List V), SqA K H p [.str "use", .str n, .ref q] ∧ SqA K H q us ∧ (n, us.length) ∈ g.letters ∧ ∀ H', Same H H' → Q (.bl true) H') ∨ (UseV K H g.letters p ∧ ∀ H', Same H H' → Q (.bl false) H'))
/-- the module's TERMS_BEHIND -/
def TBh (K : PySem.W.Frag) (w : World) (mg : Str → Option Value) : Prop := ∃ d es n, mg "TERMS_BEHIND" = some (.ref d) ∧ KDict K w d es n ∧ (∀ q ∈ opsW, KDct K w d q.1 (.int (q.2 : Int)) ∧ ∃ u, PySem.W.nsIn K d q.1 = some (some u)) ∧ ∀ x ∈ noW, PySem.W.nsIn K d x = some none
section
variable {P : Program} {w : World} {K : PySem.W.Frag} {mg : Str → Option Value} {base : Heap} {C : Addr}
theorem scHas : FnScope ["self", "letter"] ["self", "letter"] (defScope sHas) := ⟨rfl, rfl, rfl, by decide +kernel, rfl, by decide +kernel, by decide +kernel⟩
theorem scPrt : FnScope ["self", "letter"] ["self", "letter"] (defScope sPrt) := ⟨rfl, rfl, rfl, by decide +kernel, rfl, by decide +kernel, by decide +kernel⟩
theorem scIsU : FnScope ["ground", "thing"] ["ground", "thing"] (defScope sIsU) := ⟨rfl, rfl, rfl, by decide +kernel, rfl, by decide +kernel, by decide +kernel⟩
theorem ok_has {f : Addr} {fd : FuncData} (F : Fun K "__contains__" "Ground.__contains__" sHas f fd) (T : Bl mg) (c : Cls K C) (nL : NoAttr K C "_letters") : FnOk P w K mg base CX0 1 f fd ["self", "letter"] (spHas K C) := by
  refine F.ok scHas (fun vs H Q E h => ?_) (fun cdv A outer s H vs Q E hr h => ?_)
  · obtain ⟨G, x, g, rfl, _⟩ := h
    rfl
  · obtain ⟨G, x, g, rfl, ⟨dx, fs, aL, hG, hl, hL, _⟩, h⟩ := h
    have hu := hu_of hr
    refine ⟨_, pss_one (ps_ret (pe_and (pe_callB call_isi (by rfl) T.isi (by decide +kernel) (pa_cons (pv 1) (pa_cons (pe_bltn (v := .ty "str") (by rfl) T.str (by decide +kernel) rfl) (pa_nil)))) (pe_one (pe_cmp (pc_din hu (pv 1) (pe_fld (pv 0) rfl)) rfl)))), ?_⟩
    rcases h with ⟨z, rfl, nd, q⟩ | ⟨t, ht, hk, q⟩
    · refine ⟨_, rfl, .str z, .ty "str", .type "str", .type "str", true, rfl, .ty "str", .base (.str z), kit_ty (by decide +kernel), true, rfl, ?_⟩
      by_cases m : z ∈ g.letters.map (·.1)
      · obtain ⟨q1, hq1, e1⟩ := List.mem_map.mp m
        rw [decide_eq_true m] at q
        have hv : valV (lkv g.letters) (.inr z : Key) = some (.int (q1.2 : Int)) := valV_lkv nd (by rw [← e1]; exact hq1)
        refine ⟨_, rfl, _, rfl, G, C, dx, fs, _, rfl, hG, c, nL, hl, aL, some (.int (q1.2 : Int)), rfl, (by rw [← hv]; exact DGet.k (k := .inr z) hL), ?_⟩
        exact q
      · rw [decide_eq_false m] at q
        have hv : valV (lkv g.letters) (.inr z : Key) = none := valV_no m
        refine ⟨_, rfl, _, rfl, G, C, dx, fs, _, rfl, hG, c, nL, hl, aL, none, rfl, (by rw [← hv]; exact DGet.k (k := .inr z) hL), ?_⟩
        exact q
    · exact ⟨_, rfl, x, .ty "str", t, .type "str", false, rfl, .ty "str", ht, hk, false, rfl, q⟩
theorem ok_prt {f : Addr} {fd : FuncData} (F : Fun K "parts_of" "Ground.parts_of" sPrt f fd) (c : Cls K C) (nL : NoAttr K C "_letters") : FnOk P w K mg base CX0 1 f fd ["self", "letter"] (spPrt C) := by
  refine F.ok scPrt (fun vs H Q E h => ?_) (fun cdv A outer s H vs Q E hr h => ?_)
  · obtain ⟨G, x, g, rfl, _⟩ := h
    rfl
  · obtain ⟨G, x, g, rfl, ⟨dx, fs, aL, hG, hl, hL, _⟩, nd, h⟩ := h
    have hu := hu_of hr
    refine ⟨_, pss_one (ps_ret (pe_dget1 hu (pe_fld (pv 0) rfl) (pv 1) ⟨rfl, rfl, rfl, rfl⟩)), ?_⟩
    rcases h with ⟨k, hk, q⟩ | ⟨hn, q⟩
    · have hv := valV_lkv nd hk
      exact ⟨_, rfl, G, C, dx, fs, _, rfl, hG, c, nL, hl, aL, rfl, .inl ⟨_, .inl hL⟩, _, rfl, some (.int (k : Int)), (by rw [← hv]; exact DGet.k (k := .inr x) hL), q⟩
    · have hv := valV_no hn
      exact ⟨_, rfl, G, C, dx, fs, _, rfl, hG, c, nL, hl, aL, rfl, .inl ⟨_, .inl hL⟩, _, rfl, none, (by rw [← hv]; exact DGet.k (k := .inr x) hL), q⟩
theorem ok_isU {f : Addr} {fd : FuncData} (F : Fun K "_is_use" "_is_use" sIsU f fd) (T : Bl mg) (GC : GrC P w K mg base C) (IL : Fns P w K mg base "is_list" 1 ["thing"] (spIsL K)) : FnOk P w K mg base CX0 2 f fd ["ground", "thing"] (spIsU K C) := by
  obtain ⟨fP, dP, mP, FP, bP⟩ := GC.prt
  refine F.ok scIsU (fun vs H Q E h => ?_) (fun cdv A outer s H vs Q E hr h => ?_)
  · obtain ⟨G, p, g, rfl, _⟩ := h
    rfl
  · obtain ⟨G, p, g, rfl, hG, nd, h⟩ := h
    refine ⟨_, pss_cons (ps_if (PW.pt (pw_or (pt_cmpR op_ne (pe_callB call_len_seq (by rfl) T.len PySem.boot_len (pa_cons (pv 1) (pa_nil))) (pe_int) (nomark _)) (pw_or (pt_not (pt_val (pe_callB call_isi (by rfl) T.isi (by decide +kernel) (pa_cons (pe_ix ix_seq (pv 1) (pe_int) (fun _ _ => rfl)) (pa_cons (pe_bltn (v := .ty "str") (by rfl) T.str (by decide +kernel) rfl) (pa_nil)))))) (pw_or1 (pt_not (pt_val (pe_fn IL hr (by decide) rfl (pa_cons (pe_ix ix_seq (pv 1) (pe_int) (fun _ _ => rfl)) (pa_nil))))))))) (pss_one (ps_ret (pe_bl))) (pss_nil)) (pss_one (ps_ret (pe_cmpR op_eq (pe_meth (pv 0) GC.cl mP FP (hr.mono (by decide)) bP .nil pass0 (pa_cons (pe_ix ix_seq (pv 1) (pe_int) (fun _ _ => rfl)) (pa_nil))) (pe_callB call_len_seq (by rfl) T.len PySem.boot_len (pa_cons (pe_ix ix_seq (pv 1) (pe_int) (fun _ _ => rfl)) (pa_nil))) (nomark _)))), ?_⟩
    obtain ⟨dx, fs, aL, h1, h2, h3, h4⟩ := hG.ex
    rcases h with ⟨q, n, us, hp, hq, hn, k⟩ | ⟨hU, k⟩
    · refine ⟨_, rfl, p, _, rfl, hp, rfl, _, rfl, ?_⟩
      refine iteF ?_
      refine ⟨_, rfl, ixA hp 1 rfl ⟨.str n, .ty "str", .type "str", .type "str", true, rfl, .ty "str", .base (.str n), kit_ty (by decide +kernel), true, rfl, ?_⟩⟩
      refine iteF ?_
      obtain ⟨t, ht, hty⟩ := tyS hq
      refine ⟨_, rfl, ixA hp 2 rfl ⟨.ref q, _, true, rfl, hty, kit_seq ht, fun H1 s1 => ⟨_, rfl, ?_⟩⟩⟩
      refine iteF ?_
      refine ⟨_, rfl, G, dx, fs, rfl, s1 _ _ h1, h4, _, rfl, ixA (hp.mono s1) 1 rfl ⟨G, n, g, rfl, hG.mono s1, nd, .inl ⟨us.length, hn, ?_⟩⟩⟩
      refine ⟨_, rfl, ixA (hp.mono s1) 2 rfl ⟨q, us, rfl, hq.mono s1, rfl, ?_⟩⟩
      rw [decI, decide_eq_true rfl]
      exact k _ s1
    · cases hU with
      | @len r hp hl =>
        refine ⟨_, rfl, p, _, rfl, hp, rfl, _, rfl, ?_⟩
        rw [decI, decide_eq_false (by rw [List.length_cons]; omega)]
        exact iteT (k _ (Same.refl _))
      | @name y e hp hn he =>
        refine ⟨_, rfl, p, _, rfl, hp, rfl, _, rfl, ?_⟩
        refine iteF ?_
        cases hn with
        | @str n hn =>
          refine ⟨_, rfl, ixA hp 1 rfl ⟨.str n, .ty "str", .type "str", .type "str", true, rfl, .ty "str", .base (.str n), kit_ty (by decide +kernel), true, rfl, ?_⟩⟩
          refine iteF ?_
          cases he with
          | no h5 h6 =>
            refine ⟨_, rfl, ixA hp 2 rfl ⟨_, _, false, rfl, h5, h6, fun H1 s1 => ⟨_, rfl, ?_⟩⟩⟩
            exact iteT (k _ s1)
          | @seq q us hq =>
            obtain ⟨t, ht, hty⟩ := tyS hq
            refine ⟨_, rfl, ixA hp 2 rfl ⟨.ref q, _, true, rfl, hty, kit_seq ht, fun H1 s1 => ⟨_, rfl, ?_⟩⟩⟩
            refine iteF ?_
            refine ⟨_, rfl, G, dx, fs, rfl, s1 _ _ h1, h4, _, rfl, ixA (hp.mono s1) 1 rfl ⟨G, n, g, rfl, hG.mono s1, nd, .inr ⟨hn, ?_⟩⟩⟩
            exact ⟨_, rfl, ixA (hp.mono s1) 2 rfl ⟨q, us, rfl, hq.mono s1, rfl, k _ s1⟩⟩
        | oth h5 h6 =>
          refine ⟨_, rfl, ixA hp 1 rfl ⟨y, .ty "str", _, .type "str", false, rfl, .ty "str", h5 _ (Same.refl _), h6, false, rfl, ?_⟩⟩
          exact iteT (k _ (Same.refl _))
      | @parts n m e t hp hn h5 h6 =>
        refine ⟨_, rfl, p, _, rfl, hp, rfl, _, rfl, ?_⟩
        refine iteF ?_
        refine ⟨_, rfl, ixA hp 1 rfl ⟨.str n, .ty "str", .type "str", .type "str", true, rfl, .ty "str", .base (.str n), kit_ty (by decide +kernel), true, rfl, ?_⟩⟩
        refine iteF ?_
        refine ⟨_, rfl, ixA hp 2 rfl ⟨e, t, false, rfl, h5, h6, fun H1 s1 => ⟨_, rfl, ?_⟩⟩⟩
        exact iteT (k _ s1)
      | @many n m q us hp hn hq hm =>
        refine ⟨_, rfl, p, _, rfl, hp, rfl, _, rfl, ?_⟩
        refine iteF ?_
        refine ⟨_, rfl, ixA hp 1 rfl ⟨.str n, .ty "str", .type "str", .type "str", true, rfl, .ty "str", .base (.str n), kit_ty (by decide +kernel), true, rfl, ?_⟩⟩
        refine iteF ?_
        obtain ⟨t, ht, hty⟩ := tyS hq
        refine ⟨_, rfl, ixA hp 2 rfl ⟨.ref q, _, true, rfl, hty, kit_seq ht, fun H1 s1 => ⟨_, rfl, ?_⟩⟩⟩
        refine iteF ?_
        refine ⟨_, rfl, G, dx, fs, rfl, s1 _ _ h1, h4, _, rfl, ixA (hp.mono s1) 1 rfl ⟨G, n, g, rfl, hG.mono s1, nd, .inl ⟨m, hn, ?_⟩⟩⟩
        refine ⟨_, rfl, ixA (hp.mono s1) 2 rfl ⟨q, us, rfl, hq.mono s1, rfl, ?_⟩⟩
        rw [decI, decide_eq_false (by omega)]
        exact k _ s1
end
end K27
set_option Elab.async false
set_option linter.all false
set_option maxRecDepth 100000
set_option maxHeartbeats 8000000
/-! A list comprehension whose elements' calls may raise. -/
namespace CompX
open PySem PySem.Spec PyProof.Rows L2
/-- behind a block: as the library has it where it ran through; where it raised, what is left to be done by the block's own environment -/
def post (M : Model) (A : Around) (E : Value → Shared → Prop) (use : Option (Value → Sem Unit)) (Q : Value → Shared → Prop) (acc : Value) (be : Env) : Result → Shared → Prop
  | .ok f, t => compPost M A E use Q acc be.locals (.ok f) t
  | .error x, t => ∃ m, t.heap.Ns be.locals m ∧ ∀ hp, Heap.SameBut be.locals t.heap hp → wpAny M A (PySem.passOn "comprehension.variables-let-go" x be : Sem Value) (fun _ _ => False) E { t with heap := hp }
section
variable {M : Model} {A : Around} {E : Value → Shared → Prop} {s : Shared} {env : Env}
theorem comp_free {ex : Expr} {sc : Scope} {pos : Pos} {mk fst : Sem Value} {c1 : Comprehension} {cs : List Comprehension} {clo : List (Str × Addr)} {use : Option (Value → Sem Unit)} {Q : Value → Shared → Prop}
    (h1 : clausesOf ex = c1 :: cs) (h2 : ∀ x, foldedSetIterable c1.iter env x = pure x) (h3 : closureFor sc env = pure clo) (h4 : sc.kind = .function) (h5 : ∀ y ∈ sc.names, y.2 = .local → sc.names.lookup y.1 = some .local)
    (h : wpAny M A fst (fun x t1 => wpAny M A (pyIter x) (fun it t2 => wpAny M A mk (fun acc t3 => wpAny M A (newFunctionEnv sc env.globals clo [] env.qual none .none (some env)) (fun be t4 =>
      codeAny M A (.compStart ex 0 it acc { be with scope := relabel sc env }) (post M A E use Q acc { be with scope := relabel sc env }) t4) E t3) E t2) E t1) E s) :
    wpAny M A (comprehension ex sc env pos mk false fst use) Q E s := by
  unfold comprehension
  rw [h3, h1]
  refine wpAny_bind (wpAny_mono h (fun x t1 g1 => ?_) fun _ _ z => z)
  refine wpAny_bind (wpAny_standAt (wpAny_bind (wpAny_of_eq (h2 x) (wpAny_bind (wpAny_holding (wpAny_mono g1 (fun it t2 g2 => ?_) fun _ _ z => z))))))
  refine wpAny_standIf (wpAny_bind (wpAny_mono g2 (fun acc t3 g3 => ?_) fun _ _ z => z))
  refine wpAny_bind (wpAny_pure (wpAny_bind (wpAny_mono g3 (fun be t4 g4 => ?_) fun _ _ z => z)))
  dsimp only
  have own : ∀ (l : List (Str × NameKind)), (∀ y ∈ l, y ∈ sc.names) → ∀ y ∈ l, y.2 = .local → Env.kindOf { be with scope := relabel sc env } y.1 = some .local := fun l hl y hy e => lookup_relabel_local (h5 y (hl y hy) e)
  have in1 : ∀ y ∈ (sc.names.filter fun y => (y.2 == .local || y.2 == .cell) && y.1 != (".0" : Str)).reverse, y ∈ sc.names := fun y hy => (List.mem_filter.mp (List.mem_reverse.mp hy)).1
  have in2 : ∀ y ∈ (sc.names.filter fun y => (y.2 == .local || y.2 == .cell) && y.1 != (".0" : Str)).reverse.drop 1 ++ (sc.names.filter fun y => (y.2 == .local || y.2 == .cell) && y.1 != (".0" : Str)).reverse.take 1, y ∈ sc.names := fun y hy =>
    (List.mem_append.mp hy).elim (fun z => in1 y (List.mem_of_mem_drop z)) fun z => in1 y (List.mem_of_mem_take z)
  refine wpAny_holding (wpAny_bind (wpAny_attempt (wpAny_holding (wpAny_run (codeAny_mono g4 fun r t5 g5 => ?_)))))
  cases r with
  | ok f =>
    cases use with
    | none =>
      obtain ⟨m, hn, g6⟩ := g5
      exact wpAny_bind (wpAny_holding (wpAny_comp_letGo (cenv := { be with scope := relabel sc env }) h4 _ t5 m (own _ in1) hn fun hp _ _ sb => wpAny_pure (g6 hp sb)))
    | some u =>
      refine wpAny_bind (wpAny_rule (wpAny_bind (wpAny_holding (wpAny_mono g5 (fun _ t6 g6 => ?_) fun _ _ z => z))))
      obtain ⟨m, hn, g7⟩ := g6
      exact wpAny_bind (wpAny_comp_letGo (cenv := { be with scope := relabel sc env }) h4 _ t6 m (own _ in2) hn fun hp _ _ sb => wpAny_pure (g7 hp sb))
  | error x =>
    obtain ⟨m, hn, g6⟩ := g5
    exact wpAny_bind (wpAny_holding (wpAny_comp_letGo (cenv := { be with scope := relabel sc env }) h4 _ t5 m (own _ in1) hn fun hp _ _ sb => wpAny_mono (g6 hp sb) (fun _ _ z => z.elim) fun _ _ z => z))
end
section
variable {X : Cx} {pins : List (Addr × Obj)} {σ : L2.St} {H : Hp} {s s' : Shared} {W : WX}
/-- an exception that this frame noted is in the air: the state without it -/
theorem held (I : Inv X pins σ H s) {a : Addr} {B : Heap} {H' : Hp} {cls : Value} {d : Option Addr} (fl : HandSPX.HeldZ B X.stack a (Zc cls d) X.env.locals s'.heap) (hok : HOk X.prog X.w H' B) (ub : UB (frs X.stack) H H' s.heap B s'.heap) (na : H' a = none)
    (os : s'.os = s.os) (ag : AllBare s'.gens) (w : W cls d σ H') : XE X W (.ref a) s' := by
  obtain ⟨G, gIn, gOut⟩ := restrict s'.heap (fun b => (B.get? b).isSome || decide (b ∈ frs X.stack))
  have st := fl.1
  have fromB : ∀ b o, B.get? b = some o → G.get? b = some o := fun b o e => (gIn b (by simp [e])).trans (st b o e)
  have fromF : ∀ b, b ∈ frs X.stack → G.get? b = s'.heap.get? b := fun b hb => gIn b (by simp [hb])
  have back : ∀ b o, G.get? b = some o → s'.heap.get? b = some o ∧ ((B.get? b).isSome = true ∨ b ∈ frs X.stack) := by
    intro b o e
    by_cases q : ((B.get? b).isSome || decide (b ∈ frs X.stack)) = true
    · rw [gIn b q] at e
      exact ⟨e, by simpa using q⟩
    · rw [gOut b (by simpa using q)] at e
      cases e
  refine ⟨a, B, { s with heap := G, gens := s'.gens, drawn := s'.drawn, toks := s'.toks }, pins, σ, H', cls, d, rfl, ?_, fun b o e nf => ?_, Heap.UpToSlots.of_keeps (fun b o e => (back b o e).1), .inr (.inr fl), na, os, ag, w⟩
  · have slot : ∀ b o, s.heap.get? b = some o → b ∈ frs X.stack → ∃ sl, G.get? b = some { o with slots := sl } := fun b o e hb => by
      obtain ⟨sl, z⟩ := ub.slot b o e hb
      exact ⟨sl, (fromF b hb).trans z⟩
    refine I.call (ch := []) ⟨fun b o e n nf _ => fromB b o (ub.keep b o e n nf), fun b o e n hb _ => slot b o e hb, fun b o e n _ => ub.free b o e n, fun b o e _ => ?_, ub.tups, ub.frzs, ub.tbls⟩ (hok.kept fromB) ag (fun _ z => nomatch z)
    by_cases hb : b ∈ frs X.stack
    · obtain ⟨sl, z⟩ := slot b o e hb
      exact ⟨_, z⟩
    · obtain ⟨o2, z⟩ := ub.there b o e hb
      exact ⟨o2, fromB b o2 z⟩
  · obtain ⟨e2, hB⟩ := back b o e
    rcases hB with hB | hB
    · obtain ⟨o2, z⟩ := Option.isSome_iff_exists.mp hB
      have z2 := st b o2 z
      rw [e2] at z2
      cases z2
      exact z
    · exact absurd hB nf
end
section
variable {X : Cx} {pins pb : List (Addr × Obj)} {σ σb : L2.St} {H1 H3 : Hp} {s1 s3 s' : Shared} {W : WX} {E0 : XK}
/-- what a call in the block let out goes on to the def -/
theorem out {scope : Scope} {fp : List Addr} {ce : Env} {u : Value} {E1 : Value → Shared → Prop} (I3 : Inv X pins σ H3 s3) (hce : ce.locals = s3.heap.objs.size) (hfr : ce.frame = X.env.frame) (f3 : ∀ b ∈ fp, FpOk X pins H3 b) (hs : X.stack = X.env :: X.outer) (hf : X.env.frame = some X.env.locals)
    (tk : Takes X W) (hW : ∀ cls d H', E0 cls d H' → W cls d σ H') (Ib : Inv (X.blk s3 H3 scope ce fp) pb σb H1 s1) (c : CX X.prog X.w X.stack H1 s1 E0 u s') :
    wpAny (model X.prog X.w) X.A (noteFrame u ce) (fun _ t => ∃ m, t.heap.Ns ce.locals m ∧ ∀ hp, Heap.SameBut ce.locals t.heap hp → wpAny (model X.prog X.w) X.A (PySem.passOn "comprehension.variables-let-go" u ce : Sem Value) (fun _ _ => False) X.xe { t with heap := hp }) E1 s' := by
  obtain ⟨a, B, H', cls, d, rfl, fl, hokB, ub, na, os, ag, hE⟩ := c
  have I7 : Inv X pins σ H1 s1 := I3.call' (ch := fp) Ib.os Ib.base Ib.hok Ib.bare fun b hb => ⟨(f3 b hb).2.2.2.1, (f3 b hb).2.1, (f3 b hb).2.2.2.2.1, (f3 b hb).2.2.2.2.2⟩
  obtain ⟨m, hn, _⟩ := Ib.loc
  have hn : s1.heap.Ns ce.locals m := hn
  have nC : H1 ce.locals = none := Ib.free
  have fC : FpOk X pins H1 ce.locals := by
    rw [hce] at nC ⊢
    exact I3.fpOk (Nat.le_refl _) nC
  have nfC : ce.locals ∉ frs X.stack := by
    rw [hs]
    intro hm
    unfold frs at hm
    rw [List.filterMap_cons, hf] at hm
    rcases List.mem_cons.mp hm with z | z
    · exact fC.2.1 z
    · exact fC.2.2.1 z
  obtain ⟨oC, es, ep, hoC, hdC, hk, hm⟩ := hn
  have BC : B.get? ce.locals = some oC := ub.keep _ _ hoC nC nfC
  have nC' : H' ce.locals = none := ub.free _ _ hoC nC
  have hC' : s'.heap.get? ce.locals = some oC := fl.1 _ _ BC
  have ndC : ∀ vs, oC.data ≠ .fields vs := fun vs z => by rw [hdC] at z; cases z
  have hA : X.A.frames = some (X.env :: X.outer) := by rw [I7.ok.frames, hs]
  have fl' : HandSPX.FlyingZ B (X.env :: X.outer) a (Zc cls d) s'.heap := by rw [← hs]; exact fl
  have e1 : noteFrame (.ref a) ce = noteFrame (.ref a) X.env := by
    unfold noteFrame PySem.frameOf
    rw [hfr]
  rw [e1]
  refine HandSPX.looks_onZ Zc.steady hA hf fl' fun h1 hld up1 => ?_
  obtain ⟨sl, h1C⟩ := up1 _ _ hC' ndC
  refine ⟨m, ⟨_, es, ep, h1C, hdC, hk, hm⟩, fun h2 sb => ?_⟩
  obtain ⟨k1, k2, k3, oe, vs, T, oT, ts, he, hz, hd, hv1, hnT, hTe, hT, hdT, hT3⟩ := hld
  have aC : a ≠ ce.locals := fun z => by
    rw [z, h1C] at he
    cases he
    exact ndC _ hd
  have TC : T ≠ ce.locals := fun z => by
    rw [z, h1C] at hT
    cases hT
    exact ndC _ hdT
  have he2 := (sb.2 a aC).trans he
  have hB3 : ∀ b o, (PySem.W.hideAll B [ce.locals]).get? b = some o → b ≠ ce.locals ∧ B.get? b = some o := fun b o e => by
    refine ⟨fun z => ?_, PySem.W.of_hideAll _ e⟩
    rw [z, PySem.W.hideAll_none [ce.locals] (by simp)] at e
    cases e
  have noB3 : ∀ b, B.get? b = none → (PySem.W.hideAll B [ce.locals]).get? b = none := fun b hb => by
    cases q : (PySem.W.hideAll B [ce.locals]).get? b with
    | none => rfl
    | some o => rw [(hB3 b o q).2] at hb; cases hb
  have inB3 : ∀ b o, B.get? b = some o → b ≠ ce.locals → (PySem.W.hideAll B [ce.locals]).get? b = some o := fun b o e n => PySem.W.hideAll_get _ e (by simpa using n)
  have fr2 : h2.FunFrames (PySem.W.hideAll B [ce.locals]) (X.env :: X.outer) := by
    have k4 : ∀ L ∈ frs (X.env :: X.outer), (PySem.W.hideAll B [ce.locals]).get? L = none := fun L hL => noB3 L (k3.mem hL).1
    have gen : ∀ l : List Env, (∀ L ∈ frs l, L ∈ frs X.stack) → h1.FunFrames B l → h2.FunFrames B l := by
      intro l
      induction l with
      | nil => intro _ _; trivial
      | cons en l ih =>
        intro hsub hl
        obtain ⟨x1, ⟨L, o, x2, x3, x4, x5⟩, x6⟩ := hl
        have hL : L ∈ frs (en :: l) := by unfold frs; rw [List.filterMap_cons, x2]; exact List.mem_cons_self
        refine ⟨x1, ⟨L, o, x2, x3, ?_, x5⟩, ih (fun L2 h2 => hsub L2 ?_) x6⟩
        · rw [sb.2 L fun z => nfC (by rw [← z]; exact hsub L hL)]
          exact x4
        · unfold frs at h2 ⊢
          rw [List.filterMap_cons, x2]
          exact List.mem_cons_of_mem _ h2
    exact funFrames_none (gen _ (fun L hL => by rw [hs]; exact hL) k3) k4
  have held2 : HandSPX.HeldZ (PySem.W.hideAll B [ce.locals]) (X.env :: X.outer) a (Zc cls d) X.env.locals h2 :=
    ⟨fun b o e => (sb.2 b (hB3 b o e).1).trans (k1 b o (hB3 b o e).2), noB3 _ k2, fr2, oe, vs, T, oT, ts, he2, hz, hd, hv1, noB3 _ hnT, hTe, (sb.2 T TC).trans hT, hdT, hT3⟩
  unfold PySem.passOn
  refine wpAny_bind (wpAny_field he2 hd hv1 ?_)
  rw [if_neg (show ¬ ((Value.ref T == Value.none) = true) from by simp), hfr, hf]
  refine wpAny_bind (HandSPX.setFlight_onZ held2 fun h3 held3 up3 => ?_)
  refine wpAny_throw (tk _ _ ?_)
  rw [← hs] at held3
  -- the state without the block's names
  have I8 : Inv X pins σ H1 { s1 with heap := PySem.W.hideAll s1.heap [ce.locals] } := I7.turned (t' := s1.toks) (fun b o n e => PySem.W.hideAll_get _ e (by simpa using n)) fC.1 fC.2.1 fC.2.2.2.1 fC.2.2.2.2.1 fC.2.2.2.2.2
  have old : ∀ b o, (PySem.W.hideAll s1.heap [ce.locals]).get? b = some o → b ≠ ce.locals ∧ s1.heap.get? b = some o := fun b o e => by
    refine ⟨fun z => ?_, PySem.W.of_hideAll _ e⟩
    rw [z, PySem.W.hideAll_none [ce.locals] (by simp)] at e
    cases e
  refine held I8 held3 (fun b o q => (hokB b o q).stay (fun b2 u2 hc r => inB3 b2 u2 r fun z => ?_) (fun _ r => r) fun _ _ r => r) ⟨fun b o e n nf => inB3 b o (ub.keep b o (old b o e).2 n nf) (old b o e).1, fun b o e hb => ?_, fun b o e n => ub.free b o (old b o e).2 n, fun b o e nf => ?_, ub.tups, ub.frzs, ub.tbls⟩ na os ag (hW _ _ _ hE)
  · rcases hc with hc | hc
    · rw [← hc, z, nC'] at q
      cases q
    · rw [z, nC'] at hc
      cases hc
  · obtain ⟨sl1, z1⟩ := ub.slot b o (old b o e).2 hb
    have nd : ∀ vs, o.data ≠ .fields vs := by
      obtain ⟨_, o2, e2, hd2⟩ := I7.stack.mem hb
      rw [(old b o e).2] at e2
      cases e2
      exact hd2
    obtain ⟨sl2, z2⟩ := up1 b _ z1 nd
    have z3 := (sb.2 b (old b o e).1).trans z2
    obtain ⟨sl3, z4⟩ := up3 b _ z3 nd
    exact ⟨sl3, z4⟩
  · obtain ⟨o2, z⟩ := ub.there b o (old b o e).2 nf
    exact ⟨o2, inB3 b o2 z (old b o e).1⟩
end
section
variable {X : Cx}
theorem lcX_core {pins : List (Addr × Obj)} {s : Shared} {σ : L2.St} {H : Hp} {Q : VK} {elt tg iter : Expr} {ifs : List Expr} {sc : Scope} {own : List (Str × Nat)} {pos pos2 : Pos} {wi : TI} {g : TG} {tt : TT} {te : TE} {use : Option (Value → Sem Unit)} {Qf : Value → Shared → Prop} {E0 : XK} {W : WX}
    (hc : X.calm = true) (hN : X.N.Nodup) (I : Inv X pins σ H s) (hi : PI X tg iter wi) (ok : BlkOk X.N X.env.scope sc own)
    (hg : ∀ (t : Shared) (J : Hp) (C : Addr) (cl : List (Str × Addr)) (fp : List Addr), PG (X.blk t J sc (compEnvC sc cl C X.env) fp) tg g) (ht : ∀ (t : Shared) (J : Hp) (C : Addr) (cl : List (Str × Addr)) (fp : List Addr), PTs (X.blk t J sc (compEnvC sc cl C X.env) fp) ifs tt)
    (he : ∀ (t : Shared) (J : Hp) (C : Addr) (cl : List (Str × Addr)) (fp : List Addr) (pn : List (Addr × Obj)) (xe : Value → Shared → Prop), Passes (CX X.prog X.w) ((X.blk t J sc (compEnvC sc cl C X.env) fp).tr pn xe) E0 → PE ((X.blk t J sc (compEnvC sc cl C X.env) fp).tr pn xe) elt te)
    (hfs : ∀ x, foldedSetIterable iter X.env x = pure x) (hs : X.stack = X.env :: X.outer) (hf : X.env.frame = some X.env.locals) (tk : Takes X W) (hW : ∀ cls d J, E0 cls d J → W cls d σ J) (h : tLc wi g tt te (own.map (·.2)) σ H Q)
    (done : ∀ D C t m J, Inv X pins σ J t → Q (.ref D) J → t.heap.Ns C m → FpOk X pins J C → compPost (model X.prog X.w) X.A X.xe use Qf (.ref D) C (.ok .next) t) :
    wpAny (model X.prog X.w) X.A (comprehension (.ListComp elt [⟨tg, iter, ifs, 0⟩] sc pos) sc X.env pos2 (newList []) false (eval iter X.env) use) Qf X.xe s := by
  have cap : ∀ y ∈ sc.names, y.2 = .free → ∃ c, X.env.cells.lookup y.1 = some c := fun y hy e => (ok.free y hy e).elim (fun k => I.ok.has _ (.inl k)) fun k => I.ok.has _ (.inr k)
  refine comp_free rfl hfs (closure_ok cap) ok.kind (fun y hy e => by rw [ok.uniq y hy, e]) (thn (hi.run pins s σ H _ I h) fun xv t1 hx => thn hx fun itv t2 h2 => ?_)
  obtain ⟨it, fp, tn, J, H2, e, I2, T, st2, f2, q⟩ := h2
  subst e
  refine wpAny_newObj_type (newEnv_comp ?_) (by show 0 ≤ sizeLine; decide)
  generalize hD : t2.heap.objs.size = D
  have nD : H2 D = none := I2.hok.fresh (Nat.le_of_eq hD)
  obtain ⟨Wv, ⟨m0, w0⟩, turn⟩ := q D nD
  generalize ht3 : ({ t2 with heap := t2.heap.push { cls := .type "list", data := .seq ([] : List Value).toArray } } : Shared) = t3
  have hp3 : t3.heap = t2.heap.push { cls := .type "list", data := .seq ([] : List Value).toArray } := by rw [← ht3]
  have I3 : Inv X pins σ (upd H2 D (.lst [])) t3 := by
    rw [← ht3]
    refine I2.laid (t' := t2.toks) (fun b o e => Heap.get?_push_of_some _ e) (Nat.le_of_eq hD) ⟨Nat.zero_le _, [], 0, .nil, ?_⟩
    rw [← hD]
    exact Heap.get?_push_size _ rfl
  have lt2 : ∀ b ∈ fp, b < t2.heap.objs.size := fun b hb => let ⟨_, e, _⟩ := T.obj _ _ st2 b hb; Heap.lt_size e
  have f3 : ∀ b ∈ fp, FpOk X pins (upd H2 D (.lst [])) b ∧ b < t3.heap.objs.size := fun b hb => by
    refine ⟨⟨?_, (f2 b hb).2⟩, by rw [hp3, Heap.size_push]; exact Nat.lt_succ_of_lt (lt2 b hb)⟩
    rw [upd_ne (by rw [← hD]; exact Nat.ne_of_lt (lt2 b hb))]
    exact (f2 b hb).1
  have st3 : tn 0 t3.heap := T.keep _ _ _ st2 fun b _ o e => by rw [hp3]; exact Heap.get?_push_of_some _ e
  have I4 := block_start I3 ok hN f3
  have pg := hg t3 (upd H2 D (.lst [])) t3.heap.objs.size (cellsFrom (t3.heap.objs.size + 1) sc.names (cloFrom X.env.cells sc.names [])) fp
  have pt := ht t3 (upd H2 D (.lst [])) t3.heap.objs.size (cellsFrom (t3.heap.objs.size + 1) sc.names (cloFrom X.env.cells sc.names [])) fp
  have pe := he t3 (upd H2 D (.lst [])) t3.heap.objs.size (cellsFrom (t3.heap.objs.size + 1) sc.names (cloFrom X.env.cells sc.names [])) fp
  show codeAny _ _ (.compStart (.ListComp elt [⟨tg, iter, ifs, 0⟩] sc pos) 0 (.ref it) (.ref D) (compEnvC sc (cellsFrom (t3.heap.objs.size + 1) sc.names (cloFrom X.env.cells sc.names [])) t3.heap.objs.size X.env))
    (post (model X.prog X.w) X.A X.xe use Qf (.ref D) (compEnvC sc (cellsFrom (t3.heap.objs.size + 1) sc.names (cloFrom X.env.cells sc.names [])) t3.heap.objs.size X.env)) { t3 with heap := pushCells (t3.heap.push { cls := .type "dict", data := .dict #[] }) sc.names }
  have nfp : ∀ b ∈ fp, (upd H2 D (.lst [])) b = none := fun b hb => (f3 b hb).1.1
  generalize hce : compEnvC sc (cellsFrom (t3.heap.objs.size + 1) sc.names (cloFrom X.env.cells sc.names [])) t3.heap.objs.size X.env = ce at I4 pg pt pe ⊢
  have cL : ce.locals = t3.heap.objs.size := by rw [← hce]; rfl
  have cF : ce.frame = X.env.frame := by rw [← hce]; rfl
  generalize hH3 : upd H2 D (.lst []) = H3 at I3 I4 pg pt pe w0 nfp f3
  generalize ht4 : ({ t3 with heap := pushCells (t3.heap.push { cls := .type "dict", data := .dict #[] }) sc.names } : Shared) = t4 at I4 ⊢
  have st4 : tn 0 t4.heap := T.keep _ _ _ st3 fun b _ o e => by rw [← ht4]; exact pushCells_keeps _ _ _ _ (Heap.get?_push_of_some _ e)
  have stat : ∀ {τ : L2.St} {J' : Hp} {t : Shared}, Inv (X.blk t3 H3 sc ce fp) [] τ J' t → (∀ b ∈ fp, J' b = none) → ∀ b ∈ fp, FpOk (X.blk t3 H3 sc ce fp) [] J' b := fun {τ J' t} I' hn b hb =>
    ⟨hn b hb, (I'.ok.exf b hb).1, I'.ok.exfs b hb, .inl hb, fun x c e => (I'.ok.exf b hb).2 x c e, fun p hp => absurd (show p ∈ ([] : List (Addr × Obj)) ++ [] from hp) (by simp)⟩
  have loop : codeAny (model X.prog X.w) X.A (.compLoop (.ListComp elt [⟨tg, iter, ifs, 0⟩] sc pos) 0 (.ref it) (.ref D) ce) (post (model X.prog X.w) X.A X.xe use Qf (.ref D) ce) t4 := by
    refine compLoop_any (fun n t => ∃ i J', Inv (X.blk t3 H3 sc ce fp) [] (wipe σ (own.map (·.2))) J' t ∧ tn i t.heap ∧ (∀ b ∈ fp, J' b = none) ∧ Wv i n J') ?_ m0 ⟨0, H3, I4, st4, nfp, w0⟩
    rintro n t5 ⟨i, H5, I5, st5, n5, w5⟩
    rcases turn i n H5 w5 with ⟨stop, qq⟩ | ⟨go, Nx, hNx, step⟩
    · refine thnF (T.done (X.blk t3 H3 sc ce fp) rfl rfl rfl hc i [] t5 _ H5 (fun _ _ => False) I5 (stat I5 n5) st5 stop) fun r t6 ⟨hr, I6⟩ => ?_
      subst hr
      have I7 : Inv X pins σ H5 t6 := I3.call' (ch := fp) I6.os I6.base I6.hok I6.bare fun b hb => ⟨(f3 b hb).1.2.2.2.1, (f3 b hb).1.2.1, (f3 b hb).1.2.2.2.2.1, (f3 b hb).1.2.2.2.2.2⟩
      have nC : H5 ce.locals = none := I6.free
      obtain ⟨m, hn, _⟩ := I6.loc
      have hn : t6.heap.Ns ce.locals m := hn
      show compPost (model X.prog X.w) X.A X.xe use Qf (.ref D) ce.locals (.ok .next) t6
      refine done D ce.locals t6 m H5 I7 qq hn ?_
      rw [cL] at nC ⊢
      exact I3.fpOk (Nat.le_refl _) nC
    · refine thnF (T.item (X.blk t3 H3 sc ce fp) rfl rfl rfl hc i [] t5 _ H5 (fun _ _ => False) I5 (stat I5 n5) st5 go) fun r t6 ⟨u, hr, h6⟩ => ?_
      subst hr
      refine thnF h6 fun _ t7 ⟨x, H7, I7, r7, y7, st7, n7⟩ => ?_
      have I7p := I7.pinned (stat I7 n7) (T.obj _ _ st7)
      refine thnF (pg.run _ t7 _ H7 x u _ I7p r7 (step x H7 y7)) fun _ t8 ⟨σ8, H8, I8, hw8, q8⟩ => ?_
      refine thnF (pt.run _ t8 σ8 H8 _ I8 q8) fun b t9 ⟨H9, I9, q9⟩ => ?_
      have fin : ∀ {t : Shared} {J' : Hp}, Inv (X.blk t3 H3 sc ce fp) ([] ++ pinsAt fp t7.heap) σ8 J' t → Nx J' → ∃ m, m < n ∧ ∃ i J', Inv (X.blk t3 H3 sc ce fp) [] (wipe σ (own.map (·.2))) J' t ∧ tn i t.heap ∧ (∀ b ∈ fp, J' b = none) ∧ Wv i m J' := fun {t J'} I' nx => by
        obtain ⟨m', hm, w'⟩ := hNx J' nx
        have pin' : ∀ b ∈ fp, ∀ o, t7.heap.get? b = some o → t.heap.get? b = some o ∧ J' b = none := fun b hb o e =>
          let z := I'.pin (b, o) (List.mem_append_right _ (List.mem_append_right _ (mem_pinsAt hb e)))
          ⟨z.1, z.2.1⟩
        have hl : (wipe σ (own.map (·.2))).length = σ8.length := by rw [← hw8, wipe_length]
        refine ⟨m', hm, i + 1, J', (I'.unpinned (pins := [])).weak hl (fun j v e => by rw [← hw8] at e; exact (wipe_some e).1), T.keep _ _ _ st7 fun b hb o e => (pin' b hb o e).1, fun b hb => ?_, w'⟩
        obtain ⟨o, e, _⟩ := T.obj _ _ st7 b hb
        exact (pin' b hb o e).2
      cases b with
      | false =>
        simp only [Bool.false_eq_true, if_false] at q9 ⊢
        exact fin I9 q9
      | true =>
        simp only [if_true] at q9 ⊢
        have pex := pe ((X.blk t3 H3 sc ce fp).pn ++ ([] ++ pinsAt fp t7.heap)) (fun u t => ∃ (pb : List (Addr × Obj)) (σb : L2.St) (J1 : Hp) (t1 : Shared), Inv (X.blk t3 H3 sc ce fp) pb σb J1 t1 ∧ CX X.prog X.w X.stack J1 t1 E0 u t)
          (fun pins2 τ J1 t1 u t I' c => ⟨_, τ, J1, t1, ⟨I9.ok, I'.os, I'.bare, I'.base, I'.loc, I'.cell, I'.free, I'.freeC, (fun p hp => I'.pin p hp), I'.hok, I'.len⟩, c⟩)
        refine wpAny_mono (pex.run [] t9 σ8 H9 _ (I9.toTry _) q9) (fun z t10 ⟨yv, H10, I10, r10, acc, hD10, hz10, nx⟩ => ?_) fun u t ⟨pb, σb, J1, t1, Ib, c⟩ => out I3 cL cF (fun b hb => (f3 b hb).1) hs hf tk hW Ib c
        have I10' : Inv (X.blk t3 H3 sc ce fp) ([] ++ pinsAt fp t7.heap) σ8 H10 t10 := ⟨I9.ok, I10.os, I10.bare, I10.base, I10.loc, I10.cell, I10.free, I10.freeC, (fun p hp => I10.pin p (by rw [List.append_nil]; exact hp)), I10.hok, I10.len⟩
        exact app_ok (X := X.blk t3 H3 sc ce fp) I10' hD10 hz10 r10 fun t11 I11 => fin I11 nx
  exact codeAny_compStart_list loop (T.self X.A 0 _ _ _ st4 loop)
/-- [..] as a value -/
theorem pe_lcX {elt tg iter : Expr} {ifs : List Expr} {sc : Scope} {own : List (Str × Nat)} {pos : Pos} {wi : TI} {g : TG} {tt : TT} {te : TE} {E0 : XK} (hc : X.calm = true) (hN : X.N.Nodup) (hi : PI X tg iter wi) (ok : BlkOk X.N X.env.scope sc own)
    (hg : ∀ (t : Shared) (J : Hp) (C : Addr) (cl : List (Str × Addr)) (fp : List Addr), PG (X.blk t J sc (compEnvC sc cl C X.env) fp) tg g) (ht : ∀ (t : Shared) (J : Hp) (C : Addr) (cl : List (Str × Addr)) (fp : List Addr), PTs (X.blk t J sc (compEnvC sc cl C X.env) fp) ifs tt)
    (he : ∀ (t : Shared) (J : Hp) (C : Addr) (cl : List (Str × Addr)) (fp : List Addr) (pn : List (Addr × Obj)) (xe : Value → Shared → Prop), Passes (CX X.prog X.w) ((X.blk t J sc (compEnvC sc cl C X.env) fp).tr pn xe) E0 → PE ((X.blk t J sc (compEnvC sc cl C X.env) fp).tr pn xe) elt te)
    (hs : X.stack = X.env :: X.outer) (hf : X.env.frame = some X.env.locals) (tk : Takes X fun cls d _ J => E0 cls d J) (hfs : ∀ x, foldedSetIterable iter X.env x = pure x := by intro _; rfl) :
    PE X (.ListComp elt [⟨tg, iter, ifs, 0⟩] sc pos) (tLc wi g tt te (own.map (·.2))) := by
  refine ⟨fun pins s σ H Q I h => ?_⟩
  rw [eval_ListComp]
  refine lcX_core hc hN I hi ok hg ht he hfs hs hf tk (fun _ _ _ z => z) h fun D C t m J I' q hn f => ⟨m, hn, fun h2 sb => ?_⟩
  obtain ⟨f0, f1, f2, f3, f4, f5⟩ := f
  exact ⟨.ref D, J, I'.turned (t' := t.toks) (fun b o hb e => (sb.2 b hb).trans e) f0 f1 f3 f4 f5, rfl, q⟩
/-- name = [..] on one line, the name a local -/
theorem ps_setLcX {i : Nat} {y : Str} {py : Pos} {elt tg iter : Expr} {ifs : List Expr} {sc : Scope} {own : List (Str × Nat)} {pos spos : Pos} {wi : TI} {g : TG} {tt : TT} {te : TE} {E0 : XK} (hc : X.calm = true) (hN : X.N.Nodup) (hy : X.N[i]? = some y) (hyl : X.env.scope.names.lookup y = some .local)
    (hsw : swapsWith (.ListComp elt [⟨tg, iter, ifs, 0⟩] sc pos) (some (.Name y py)) spos.line X.env = pure true) (hi : PI X tg iter wi) (ok : BlkOk X.N X.env.scope sc own)
    (hg : ∀ (t : Shared) (J : Hp) (C : Addr) (cl : List (Str × Addr)) (fp : List Addr), PG (X.blk t J sc (compEnvC sc cl C X.env) fp) tg g) (ht : ∀ (t : Shared) (J : Hp) (C : Addr) (cl : List (Str × Addr)) (fp : List Addr), PTs (X.blk t J sc (compEnvC sc cl C X.env) fp) ifs tt)
    (he : ∀ (t : Shared) (J : Hp) (C : Addr) (cl : List (Str × Addr)) (fp : List Addr) (pn : List (Addr × Obj)) (xe : Value → Shared → Prop), Passes (CX X.prog X.w) ((X.blk t J sc (compEnvC sc cl C X.env) fp).tr pn xe) E0 → PE ((X.blk t J sc (compEnvC sc cl C X.env) fp).tr pn xe) elt te)
    (hs : X.stack = X.env :: X.outer) (hf : X.env.frame = some X.env.locals) (tk : Takes X fun cls d _ J => E0 cls d J) (hfs : ∀ x, foldedSetIterable iter X.env x = pure x := by intro _; rfl) :
    PS X (.Assign [.Name y py] (.ListComp elt [⟨tg, iter, ifs, 0⟩] sc pos) spos) (tAsg (tLc wi g tt te (own.map (·.2))) (gName i)) := by
  refine ⟨fun pins s σ H D I h => ?_⟩
  rw [exec_Assign_Name_used _ _ _ _ hsw]
  refine wpAny_bind (wpAny_standAt (wpAny_bind ?_))
  show wpAny _ X.A (do let _ ← comprehension (.ListComp elt [⟨tg, iter, ifs, 0⟩] sc pos) sc X.env (firstIterPos [⟨tg, iter, ifs, 0⟩] pos) (newList []) false (eval iter X.env) (some (assign (.Name y py) X.env))) _ _ s
  have h : tLc wi g tt te (own.map (·.2)) σ H (fun x H1 => gName i x σ H1 D.nx) := h
  refine wpAny_bind (thn (lcX_core (Qf := fun _ t => SP X pins D .next t) hc hN I hi ok hg ht he hfs hs hf tk (fun _ _ _ z => z) h fun L C t m J I' q hn f => ?_) fun _ t hq => wpAny_pure (wpAny_pure hq))
  show wpAny _ _ (assign (.Name y py) X.env (.ref L)) _ _ _
  refine wpAny_assign_Name (store_ok2 (v := V.ref L) I' hN hy (.inl hyl) rfl (fun t2 I2 ⟨a, sb, ha⟩ => ?_) (.inr hyl))
  obtain ⟨f0, f1, f2, f3, f4, f5⟩ := f
  have nCa : C ≠ a := by
    rcases ha with z | z
    · rw [z]; exact f1
    · exact fun e => f4 y a z e.symm
  refine ⟨m, hn.sameBut sb nCa, fun h3 sb3 => ?_⟩
  exact ⟨_, J, I2.turned (t' := t2.toks) (fun b o hb e => (sb3.2 b hb).trans e) f0 f1 f3 f4 f5, q⟩
end
end CompX
set_option Elab.async false
set_option linter.all false
set_option maxRecDepth 100000
set_option maxHeartbeats 8000000
namespace K27
open PySem PySem.Spec L2 GB
abbrev sChk : Stmt := topS 17
abbrev sPar : Stmt := topS 19
abbrev sChecked : Stmt := topS 16
def chkN : List Str := ["ground", "thing", "names", "path", "word", "bound"]
def parN : List Str := ["ground", "things", "names", "path", "place", "thing"]
/-- a term, or a thing whose first part that is none stands at a path -/
def spChkX (K : PySem.W.Frag) (C CB : Addr) (z : Nat) : Sp := fun vs H Q E => ∃ (G a b : Addr) (x : V) (ns : List Str) (g : GD) (path : List V), vs = [.ref G, x, .ref a, .ref b] ∧ IsGr C H G g ∧ (g.letters.map (·.1)).Nodup ∧ z ≤ 1000 ∧
  SqT K H a (sts ns) ∧ ns.length + z ≤ 1000 ∧ SqT K H b path ∧ path.length + z ≤ 1000 ∧
  ((∃ d t, Dp K H x d ∧ IsTm d t ∧ TmOk g.letters ns t ∧ t.size ≤ z ∧ ∀ u H', Same H H' → Dp K H' u t.d → Q u H') ∨
   (∃ r, BadV K H g.letters z ns x r ∧ ∀ pb d H', Same H H' → SqT K H' pb (path ++ pin r) → H' d = some (.xd [("path", .ref pb)]) → E (.ref CB) (some d) H'))
def spParX (K : PySem.W.Frag) (C CB : Addr) (z : Nat) : Sp := fun vs H Q E => ∃ (G q a b : Addr) (us : List V) (ns : List Str) (g : GD) (path : List V), vs = [.ref G, .ref q, .ref a, .ref b] ∧ IsGr C H G g ∧ (g.letters.map (·.1)).Nodup ∧ z ≤ 999 ∧ SqA K H q us ∧ us.length ≤ 1000 ∧
  SqT K H a (sts ns) ∧ ns.length + z ≤ 999 ∧ SqT K H b path ∧ path.length + z ≤ 999 ∧
  ((∃ (ds : List PyData) (ks : List GB.Tm), DpAll K H us ds ∧ ds.length = ks.length ∧ (∀ (i : Nat) (d : PyData) (k : GB.Tm), ds[i]? = some d → ks[i]? = some k → IsTm d k) ∧ (∀ (i : Nat) (k : GB.Tm), ks[i]? = some k → TmOk g.letters ns k ∧ k.size ≤ z) ∧
      ∀ l ys H', Same H H' → H' l = some (.lst ys) → DpAll K (hid [l] H') ys (ks.map GB.Tm.d) → Q (.ref l) H') ∨
   (∃ (i : Nat) (y : V) (r : List Nat), us[i]? = some y ∧ (∀ j x, j < i → us[j]? = some x → GoodV K H g.letters ns z x) ∧ BadV K H g.letters z ns y r ∧ ∀ pb d H', Same H H' → SqT K H' pb (path ++ pin (i :: r)) → H' d = some (.xd [("path", .ref pb)]) → E (.ref CB) (some d) H'))
theorem nsAt_no {w n : Str} (i : Nat) (ns : List Str) (h : w ≠ "bind") : nsAt w n i ns = ns := by
  unfold nsAt
  rw [if_neg (fun z => h z.1)]
theorem FnOk.quiet {P : Program} {w : World} {K : PySem.W.Frag} {mg : Str → Option Value} {base : Heap} {k : Nat} {f : Addr} {fd : FuncData} {ps : List Str} {sp sp' : Sp} (F : FnOk P w K mg base (L2.CX P w) k f fd ps sp)
    (h : ∀ vs H Q E, sp' vs H Q E → sp vs H Q (fun _ _ _ => False)) : FnOk P w K mg base CX0 k f fd ps sp' :=
  ⟨fun vs H Q E q => F.len vs H Q _ (h _ _ _ _ q), fun A outer s H args us vs Q E hr he hb hv hs => codeAny_mono (F.run A outer s H args us vs Q (fun _ _ _ => False) hr he hb hv (h _ _ _ _ hs)) fun r s' hR => by
    cases r with
    | ok c => cases c <;> exact hR
    | error e => obtain ⟨_, _, _, _, _, _, _, _, _, _, _, _, z⟩ := hR; exact z⟩
section
variable {P : Program} {w : World} {K : PySem.W.Frag} {mg : Str → Option Value} {base : Heap} {C CB : Addr}
theorem scChk : FnScope chkN ["ground", "thing", "names", "path"] (defScope sChk) := ⟨rfl, rfl, rfl, by decide +kernel, rfl, by decide +kernel, by decide +kernel⟩
theorem scPar : FnScope parN ["ground", "things", "names", "path"] (defScope sPar) := ⟨rfl, rfl, rfl, by decide +kernel, rfl, by decide +kernel, by decide +kernel⟩
theorem ok_par {f f2 : Addr} {fd fd2 : FuncData} (F : Fun K "_checked_parts" "_checked_parts" sPar f fd) (T : Bl mg) {z : Nat} (ihC : FnOk P w K mg base (L2.CX P w) (4 + 2 * z) f2 fd2 ["ground", "thing", "names", "path"] (spChkX K C CB z))
    (mgC : mg "checked_within" = some (.ref f2)) (kC : PySem.W.keepIn K (.ref f2) = true) (bC : Binds K fd2 ["ground", "thing", "names", "path"] []) : FnOk P w K mg base (L2.CX P w) (4 + 2 * z + 1) f fd ["ground", "things", "names", "path"] (spParX K C CB z) := by
  refine F.okX scPar (fun vs H Q E h => ?_) (fun cdv A outer s H vs Q E hr h => ?_)
  · obtain ⟨G, q, a, b, us, ns, g, path, rfl, _⟩ := h
    rfl
  · obtain ⟨G, q, a, b, us, ns, g, path, rfl, hG, nd, hz, hq, hul, ha, hna, hb, hnb, h⟩ := h
    refine ⟨_, pss_one (ps_ret (CompX.pe_lcX (own := [("place", 4), ("thing", 5)]) (g := gTup K 2 (gCons (gName 4) (gCons (gName 5) gNil))) (tt := tYes) rfl scPar.nd (pi_enumW rfl T.enum (pa_cons (pv 1) (pa_nil))) (blkOk_by (own := [("place", 4), ("thing", 5)]) (N := parN) (sc := defScope sPar) (by decide +kernel)) (fun _ _ _ _ _ => pg_tup rfl (pgs_cons (pg_name (i := 4) scPar.nd rfl (.inl rfl)) (pgs_cons (pg_name (i := 5) scPar.nd rfl (.inl rfl)) (pgs_nil)))) (fun _ _ _ _ _ => pts_nil) (fun _ _ _ _ _ pn xe hx => pe_call ihC hr rfl mgC kC bC .nil hx (pa_cons (pv 0) (pa_cons (pv 5) (pa_cons (pv 2) (pa_cons (pe_op (r := rCatA K) op_catA (pv 3) (pe_tup (pa_cons (pv 4) (pa_nil)))) (pa_nil)))))) rfl rfl (takes_of rfl rfl rfl rfl))), ?_⟩
    obtain ⟨kb, hc⟩ := sqV (hq.mono same_hid0)
    refine ⟨_, rfl, q, us, kb, [], rfl, hc, fun J WJ D nD => ?_⟩
    rcases h with ⟨ds, ks, hD, hlen, hT, hO, k⟩ | ⟨i0, y, r, hy, hgood, hbad, qe⟩
    · have hul2 : us.length = ks.length := (dps_len hD).trans hlen
      refine lc_it WJ (fun i H' => ∃ acc, Same H H' ∧ H' D = some (.lst acc) ∧ acc.length = i ∧ DpAll K (hid [D] H') acc ((ks.take i).map GB.Tm.d)) ⟨[], same_new nD, upd_same, rfl, .nil⟩ (fun i H' _ ⟨acc, s', _⟩ => hc.mono (hid_same s')) ?_ ?_
      · rintro i x H3 H3' hi ⟨acc, s3, h3, hl3, d3⟩ ⟨Tp, y1, y2, rfl, nT, rfl, e1, e2⟩
        obtain rfl := Option.some.inj e1
        obtain ⟨H4, s4, h4, e4⟩ := lay (o := .tup [.int (i : Nat), y2]) nT
        rw [e4]
        obtain ⟨dk, hdk, Dk⟩ := dps_at hD e2
        have hik : i < ks.length := by rw [← hul2]; exact hi
        have hki : ks[i]? = some ks[i] := List.getElem?_eq_getElem hik
        refine ⟨Tp, _, rfl, SqT.of h4, rfl, _, _, rfl, _, _, rfl, rfl, ?_⟩
        refine ⟨rfl, ?_⟩
        refine ⟨_, rfl, _, rfl, _, rfl, _, rfl, _, rfl, by show 1 ≤ sizeLine; decide, fun pt npt => ?_⟩
        obtain ⟨H6, s6, h6, e6⟩ := lay (o := .tup [.int (i : Nat)]) npt
        rw [e6]
        have S6 : Same H H6 := (s3.trans s4).trans s6
        refine catA (Same.seqT S6 hb) (SqT.of h6) (by rw [sizeLine_eq]; simp; omega) fun pb H7 s7 hpb => ?_
        have S7 := S6.trans s7
        obtain ⟨ok, zk⟩ := hO i _ hki
        refine ⟨G, a, pb, y2, ns, g, _, rfl, hG.mono S7, nd, by omega, Same.seqT S7 ha, by omega, hpb, by simp; omega, .inl ⟨dk, ks[i], dp_mono S7 Dk, hT i dk _ hdk hki, ok, zk, fun u H8 s8 hu => ?_⟩⟩
        have S38 : Same H3 H8 := ((s4.trans s6).trans s7).trans s8
        refine ⟨acc, S38 _ _ h3, by rw [sizeLine_eq]; omega, acc ++ [u], fun c o e => ?_, upd_same, by rw [List.length_append, hl3]; rfl, ?_⟩
        · rw [upd_ne (ne_of_none e nD)]
          exact S38 _ _ (s3 _ _ e)
        · rw [take_at hki, List.map_append]
          refine dps_mono (bt_upd (ps := [D]) (H := H8) (a := D) (by simp)) (dps_app (dps_mono (hid_same S38) d3) (.cons (dp_hid (fun q hq => ?_) _ _ (tupO_d _) hu) .nil))
          rw [List.mem_singleton.mp hq]
          exact ⟨_, S38 _ _ h3⟩
      · rintro H3 ⟨acc, s3, h3, hl3, d3⟩
        rw [List.take_of_length_le (by rw [hul2]; exact Nat.le_refl _)] at d3
        exact k D acc H3 s3 h3 d3
    · refine lc_it WJ (fun i H' => ∃ acc, Same H H' ∧ H' D = some (.lst acc) ∧ acc.length = i ∧ i ≤ i0) ⟨[], same_new nD, upd_same, rfl, Nat.zero_le _⟩ (fun i H' _ ⟨acc, s', _⟩ => hc.mono (hid_same s')) ?_ ?_
      · rintro i x H3 H3' hi ⟨acc, s3, h3, hl3, hi0⟩ ⟨Tp, y1, y2, rfl, nT, rfl, e1, e2⟩
        obtain rfl := Option.some.inj e1
        obtain ⟨H4, s4, h4, e4⟩ := lay (o := .tup [.int (i : Nat), y2]) nT
        rw [e4]
        refine ⟨Tp, _, rfl, SqT.of h4, rfl, _, _, rfl, _, _, rfl, rfl, ?_⟩
        refine ⟨rfl, ?_⟩
        refine ⟨_, rfl, _, rfl, _, rfl, _, rfl, _, rfl, by show 1 ≤ sizeLine; decide, fun pt npt => ?_⟩
        obtain ⟨H6, s6, h6, e6⟩ := lay (o := .tup [.int (i : Nat)]) npt
        rw [e6]
        have S6 : Same H H6 := (s3.trans s4).trans s6
        refine catA (Same.seqT S6 hb) (SqT.of h6) (by rw [sizeLine_eq]; simp; omega) fun pb H7 s7 hpb => ?_
        have S7 := S6.trans s7
        by_cases ci : i = i0
        · subst ci
          have e2 : us[i]? = some y2 := e2
          rw [hy] at e2
          obtain rfl := Option.some.inj e2
          refine ⟨G, a, pb, y, ns, g, _, rfl, hG.mono S7, nd, by omega, Same.seqT S7 ha, by omega, hpb, by simp; omega, .inr ⟨r, hbad.mono S7, fun pb2 d H8 s8 hpb2 hx => qe pb2 d H8 (S7.trans s8) ?_ hx⟩⟩
          rw [List.append_assoc] at hpb2
          exact hpb2
        · have hlt : i < i0 := by omega
          obtain ⟨dk, tk, Dk, Tk, Ok, zk⟩ := hgood i y2 hlt e2
          refine ⟨G, a, pb, y2, ns, g, _, rfl, hG.mono S7, nd, by omega, Same.seqT S7 ha, by omega, hpb, by simp; omega, .inl ⟨dk, tk, dp_mono S7 Dk, Tk, Ok, zk, fun u H8 s8 hu => ?_⟩⟩
          have S38 : Same H3 H8 := ((s4.trans s6).trans s7).trans s8
          refine ⟨acc, S38 _ _ h3, by rw [sizeLine_eq]; omega, acc ++ [u], fun c o e => ?_, upd_same, by rw [List.length_append, hl3]; rfl, hlt⟩
          rw [upd_ne (ne_of_none e nD)]
          exact S38 _ _ (s3 _ _ e)
      · rintro H3 ⟨acc, s3, h3, hl3, hi0⟩
        have := (List.getElem?_eq_some_iff.mp hy).1
        omega
theorem ok_chkX {f f2 : Addr} {fd fd2 : FuncData} (F : Fun K "checked_within" "checked_within" sChk f fd) (F2 : Fun K "_checked_parts" "_checked_parts" sPar f2 fd2) (T : Bl mg) (mgC : mg "checked_within" = some (.ref f)) (kC : PySem.W.keepIn K (.ref f) = true) (bC : Binds K fd ["ground", "thing", "names", "path"] [])
    (mgP : mg "_checked_parts" = some (.ref f2)) (kP : PySem.W.keepIn K (.ref f2) = true) (bP : Binds K fd2 ["ground", "things", "names", "path"] []) (NM : Nmd K mg) (TB : TBh K w mg) (BT : ErrC P w K mg base "BadTerm" "path" CB)
    (IL : Fns P w K mg base "is_list" 1 ["thing"] (spIsL K)) (INm : Fns P w K mg base "is_name" 1 ["thing"] (spIsNm K)) (IU : Fns P w K mg base "_is_use" 2 ["ground", "thing"] (spIsU K C)) :
    ∀ z : Nat, FnOk P w K mg base (L2.CX P w) (4 + 2 * z) f fd ["ground", "thing", "names", "path"] (spChkX K C CB z) := by
  obtain ⟨fI, dI, iI, tI, FI, bI⟩ := BT.ini
  obtain ⟨aN, gN, hN⟩ := NM
  obtain ⟨dT, es, nT, gT, D, hT, hno⟩ := TB
  have len8 : ∀ {z : Str}, nameB z = true → z.length ≤ sizeLine := fun {z} h => by
    unfold nameB at h
    have := (Bool.and_eq_true_iff.mp h).1
    have := of_decide_eq_true this
    rw [sizeLine_eq]; omega
  intro z
  induction z with
  | zero =>
    refine F.okX scChk (fun vs H Q E h => ?_) (fun cdv A outer s H vs Q E hr h => ?_)
    · obtain ⟨G, a, b, x, ns, g, path, rfl, _⟩ := h
      rfl
    · obtain ⟨G, a, b, x, ns, g, path, rfl, _, _, _, _, _, _, _, h⟩ := h
      rcases h with ⟨d, t, _, _, _, hz, _⟩ | ⟨r, hb, _⟩
      · exact absurd hz (by have := size_pos t; omega)
      · cases hb
  | succ z ihC =>
    have ihP := ok_par (f2 := f) (fd2 := fd) F2 T ihC mgC kC bC
    show FnOk P w K mg base (L2.CX P w) (4 + 2 * z + 1 + 1) f fd ["ground", "thing", "names", "path"] (spChkX K C CB (z + 1))
    have l1 : 1 ≤ 4 + 2 * z + 1 := by omega
    have l2 : 2 ≤ 4 + 2 * z + 1 := by omega
    have lC : 4 + 2 * z ≤ 4 + 2 * z + 1 := by omega
    have lP : 4 + 2 * z + 1 ≤ 4 + 2 * z + 1 := by omega
    refine F.okX scChk (fun vs H Q E h => ?_) (fun cdv A outer s H vs Q E hr h => ?_)
    · obtain ⟨G, a, b, x, ns, g, path, rfl, _⟩ := h
      rfl
    · obtain ⟨G, a, b, x, ns, g, path, rfl, hG, nd, hz1, ha, hna, hb, hnb, h⟩ := h
      refine ⟨_, pss_cons (ps_if (PW.pt (pw_or (pt_not (pt_val (pe_fn IL hr l1 rfl (pa_cons (pv 1) (pa_nil))))) (pw_or (pt_cmpR op_lt (pe_callB call_len_seq (by rfl) T.len PySem.boot_len (pa_cons (pv 1) (pa_nil))) (pe_int) (nomark _)) (pw_or1 (pt_not (pt_val (pe_callB call_isi (by rfl) T.isi (by decide +kernel) (pa_cons (pe_ix ix_seq (pv 1) (pe_int) (fun _ _ => rfl)) (pa_cons (pe_bltn (v := .ty "str") (by rfl) T.str (by decide +kernel) rfl) (pa_nil)))))))))) (pss_one (ps_raise rfl (takes_of rfl rfl rfl rfl) (pmk_oex BT.T iI tI FI (hr.mono (show 1 + 1 ≤ 4 + 2 * z + 1 by omega)) bI .nil pass0 rfl BT.gC (pa_cons (pv 3) (pa_nil))))) (pss_nil)) (pss_cons (ps_set (i := 4) scChk.nd rfl (.inl rfl) (pe_ix ix_seq (pv 1) (pe_int) (fun _ _ => rfl))) (pss_cons (ps_if (PW.pt (pw_and (pt_cmpR op_eq (pv 4) (pe_str) (nomark _)) (pw_and1 (pt_val (pe_fn IU hr l2 rfl (pa_cons (pv 0) (pa_cons (pv 1) (pa_nil)))))))) (pss_one (ps_ret (pe_tup (pa_cons (pe_str) (pa_cons (pe_ix ix_seq (pv 1) (pe_int) (fun _ _ => rfl)) (pa_cons (pe_callTy (call_tuple_of) (by rfl) T.tuple (by decide +kernel) (pa_cons (pe_call ihP (hr.mono lP) rfl mgP kP bP .nil (passes_call (takes_of rfl rfl rfl rfl) (fun _ _ _ _ h => h)) (pa_cons (pv 0) (pa_cons (pe_ix ix_seq (pv 1) (pe_int) (fun _ _ => rfl)) (pa_cons (pv 2) (pa_cons (pv 3) (pa_nil)))))) (pa_nil))) (pa_nil))))))) (pss_nil)) (pss_cons (ps_if (PW.pt (pw_and (pt_cmpR (op_in_kd D) (pv 4) (pe_glob (v := .ref dT) rfl gT rfl) (by rfl)) (pw_and1 (pt_cmpR op_eq (pe_callB call_len_seq (by rfl) T.len PySem.boot_len (pa_cons (pv 1) (pa_nil))) (pe_op op_add (pe_int) (pe_ix ix_kdict (pe_glob (v := .ref dT) rfl gT rfl) (pv 4) (fun _ _ => rfl))) (nomark _))))) (pss_one (ps_ret (pe_tup (pa_cons (pv 4) (StX.pa_star (pe_call ihP (hr.mono lP) rfl mgP kP bP .nil (passes_call (takes_of rfl rfl rfl rfl) (fun _ _ _ _ h => h)) (pa_cons (pv 0) (pa_cons (pe_slice sl_any (pv 1) (po_some pe_int) po_none) (pa_cons (pv 2) (pa_cons (pv 3) (pa_nil)))))) pa_nil))))) (pss_nil)) (pss_cons (ps_if (PW.pt (pw_and (pt_cmpR op_in_seq (pv 4) (pe_glob (v := .ref aN) rfl gN rfl) (by rfl)) (pw_and (pt_cmpR op_eq (pe_callB call_len_seq (by rfl) T.len PySem.boot_len (pa_cons (pv 1) (pa_nil))) (pe_int) (nomark _)) (pw_and (pt_val (pe_fn INm hr l1 rfl (pa_cons (pe_ix ix_seq (pv 1) (pe_int) (fun _ _ => rfl)) (pa_nil)))) (pw_and1 (PW.pt (pw_or (pt_cmpR op_ne (pv 4) (pe_str) (nomark _)) (pw_or1 (pt_cmpR op_in_seq (pe_ix ix_seq (pv 1) (pe_int) (fun _ _ => rfl)) (pv 2) (by rfl)))))))))) (pss_one (ps_ret (pe_tup (pa_cons (pv 4) (pa_cons (pe_ix ix_seq (pv 1) (pe_int) (fun _ _ => rfl)) (pa_nil)))))) (pss_nil)) (pss_cons (ps_if (PW.pt (pw_and (pt_cmpR op_eq (pv 4) (pe_str) (nomark _)) (pw_and (pt_cmpR op_eq (pe_callB call_len_seq (by rfl) T.len PySem.boot_len (pa_cons (pv 1) (pa_nil))) (pe_int) (nomark _)) (pw_and1 (pt_val (pe_fn INm hr l1 rfl (pa_cons (pe_ix ix_seq (pv 1) (pe_int) (fun _ _ => rfl)) (pa_nil)))))))) (pss_cons (ps_set (i := 5) scChk.nd rfl (.inl rfl) (pe_call ihC (hr.mono lC) rfl mgC kC bC .nil (passes_call (takes_of rfl rfl rfl rfl) (fun _ _ _ _ h => h)) (pa_cons (pv 0) (pa_cons (pe_ix ix_seq (pv 1) (pe_int) (fun _ _ => rfl)) (pa_cons (pv 2) (pa_cons (pe_op (r := rCatA K) op_catA (pv 3) (pe_tup (pa_cons (pe_int) (pa_nil)))) (pa_nil))))))) (pss_one (ps_ret (pe_tup (pa_cons (pe_str) (pa_cons (pe_ix ix_seq (pv 1) (pe_int) (fun _ _ => rfl)) (pa_cons (pv 5) (pa_cons (pe_call ihC (hr.mono lC) rfl mgC kC bC .nil (passes_call (takes_of rfl rfl rfl rfl) (fun _ _ _ _ h => h)) (pa_cons (pv 0) (pa_cons (pe_ix ix_seq (pv 1) (pe_int) (fun _ _ => rfl)) (pa_cons (pe_tup (StX.pa_star (pv 2) (pa_cons (pe_ix ix_seq (pv 1) (pe_int) (fun _ _ => rfl)) pa_nil))) (pa_cons (pe_op (r := rCatA K) op_catA (pv 3) (pe_tup (pa_cons (pe_int) (pa_nil)))) (pa_nil)))))) (pa_nil))))))))) (pss_nil)) (pss_one (ps_raise rfl (takes_of rfl rfl rfl rfl) (pmk_oex BT.T iI tI FI (hr.mono (show 1 + 1 ≤ 4 + 2 * z + 1 by omega)) bI .nil pass0 rfl BT.gC (pa_cons (pv 3) (pa_nil)))))))))), ?_⟩
      rcases h with ⟨d, t, hd, hT2, hO, hz, q⟩ | ⟨r, hB, qe⟩
      · cases hT2 with
        | @mk d wd n ds ks hN2 hlen hk =>
        cases hO with
        | mk hH hK =>
        obtain ⟨p, us, rfl, hV, hD⟩ := nodeV hd hN2
        have hul : us.length = ks.length := (dps_len hD).trans hlen
        have hks := len_sizes ks
        have hz' := hz
        rw [GB.Tm.size] at hz'
        rw [← hul] at hH
        rcases hV.kind with ⟨hw, rfl, hs⟩ | ⟨rfl, qq, hs, hq⟩ | ⟨rfl, hs⟩ | ⟨⟨m, ho⟩, rfl, hs⟩
        · obtain ⟨t', ht, hty⟩ := tyS hs
          refine ⟨_, rfl, .ref p, _, true, rfl, hty, kit_seq ht, fun H1 s1 => ⟨_, rfl, ?_⟩⟩
          refine iteF ?_
          refine ⟨_, rfl, p, _, rfl, hs.mono s1, _, _, rfl, rfl, _, rfl, ?_⟩
          rw [decide_eq_false (by simp only [List.length_cons, List.length_nil]; omega)]
          refine iteF ?_
          refine ⟨_, rfl, ixA (hs.mono s1) 0 rfl ⟨.str wd, .ty "str", .type "str", .type "str", true, rfl, .ty "str", .base (.str wd), kit_ty (by decide +kernel), true, rfl, ?_⟩⟩
          refine iteF ?_
          refine ⟨_, rfl, ixA (hs.mono s1) 0 rfl ?_⟩
          refine ⟨_, rfl, rfl, _, rfl, ?_⟩
          rw [decS]
          rw [decide_eq_false ((nmW _ hw).1)]
          refine iteF ?_
          refine ⟨_, rfl, wd, none, rfl, rfl, hno _ ((nmW _ hw).2.2.2), false, rfl, ?_⟩
          refine iteF ?_
          refine ⟨_, rfl, aN, sts nmd, rfl, .inr (hN _), rfl, flat_sts _, _, rfl, ?_⟩
          rw [show (if false = true then !inV (.str wd) (sts nmd) else inV (.str wd) (sts nmd)) = true from (inV_sts wd nmd).trans (decide_eq_true (hw))]
          refine iteT ?_

          refine ⟨_, rfl, p, _, rfl, hs.mono s1, rfl, _, rfl, ?_⟩
          refine iteT ?_
          obtain ⟨hn, hin⟩ := hH.nmd hw
          refine ⟨_, rfl, ixA (hs.mono s1) 1 rfl ⟨_, rfl, .inl ⟨n, rfl, len8 hn, fun H2 s2 => ⟨true, by rw [hn], ?_⟩⟩⟩⟩
          refine iteT ?_
          have S := s1.trans s2
          have e0 : nodeT wd n ds = .tuple [.str wd, .str n] := by
            unfold nodeT
            rw [if_neg (nmW _ hw).1, if_neg (nmW _ hw).2.1, if_neg (nmW _ hw).2.2.1]
          have e1 : ds = [] := by cases hD; rfl
          refine ⟨_, rfl, rfl, _, rfl, ?_⟩
          rw [decS]
          by_cases c : wd = "name"
          · rw [decide_eq_true c]
            refine iteF ?_
            refine ⟨_, rfl, ixA (hs.mono S) 1 rfl ⟨_, rfl, a, sts ns, rfl, .inr (Same.seqT S ha), rfl, flat_sts _, _, rfl, ?_⟩⟩
            rw [show (if false = true then !inV (.str n) (sts ns) else inV (.str n) (sts ns)) = true from (inV_sts n ns).trans (decide_eq_true (hin c))]
            refine iteT ?_
            refine ⟨_, rfl, _, rfl, ixA (hs.mono S) 1 rfl ⟨by show 2 ≤ sizeLine; decide, fun pt np5 => ?_⟩⟩
            obtain ⟨H5, s5, h5, e5⟩ := lay (o := .tup [.str wd, .str n]) np5
            rw [e5]
            refine q _ H5 (S.trans s5) ?_
            rw [d_node]
            have ek : ks.map GB.Tm.d = [] := by rw [List.eq_nil_of_length_eq_zero (by rw [← hul]; rfl : ks.length = 0)]; rfl
            rw [ek, ← e1, e0]
            exact .tup (SqT.of h5) (.cons (.str _) (.cons (.str _) .nil))
          · rw [decide_eq_false c]
            refine iteT ?_
            refine ⟨_, rfl, _, rfl, ixA (hs.mono S) 1 rfl ⟨by show 2 ≤ sizeLine; decide, fun pt np5 => ?_⟩⟩
            obtain ⟨H5, s5, h5, e5⟩ := lay (o := .tup [.str wd, .str n]) np5
            rw [e5]
            refine q _ H5 (S.trans s5) ?_
            rw [d_node]
            have ek : ks.map GB.Tm.d = [] := by rw [List.eq_nil_of_length_eq_zero (by rw [← hul]; rfl : ks.length = 0)]; rfl
            rw [ek, ← e1, e0]
            exact .tup (SqT.of h5) (.cons (.str _) (.cons (.str _) .nil))

        · obtain ⟨t', ht, hty⟩ := tyS hs
          have wd : Str := "use"
          refine ⟨_, rfl, .ref p, _, true, rfl, hty, kit_seq ht, fun H1 s1 => ⟨_, rfl, ?_⟩⟩
          refine iteF ?_
          refine ⟨_, rfl, p, _, rfl, hs.mono s1, _, _, rfl, rfl, _, rfl, ?_⟩
          rw [decide_eq_false (by simp only [List.length_cons, List.length_nil]; omega)]
          refine iteF ?_
          refine ⟨_, rfl, ixA (hs.mono s1) 0 rfl ⟨.str "use", .ty "str", .type "str", .type "str", true, rfl, .ty "str", .base (.str "use"), kit_ty (by decide +kernel), true, rfl, ?_⟩⟩
          refine iteF ?_
          refine ⟨_, rfl, ixA (hs.mono s1) 0 rfl ?_⟩
          refine ⟨_, rfl, rfl, _, rfl, ?_⟩
          rw [decS]

          refine iteT ?_
          refine ⟨_, rfl, _, rfl, G, p, g, rfl, hG.mono s1, nd, .inl ⟨qq, n, us, hs.mono s1, hq.mono s1, hH.toUse, fun H2 s2 => ⟨_, rfl, ?_⟩⟩⟩
          refine iteT ?_
          have S := s1.trans s2
          refine ⟨_, rfl, ixA (hs.mono S) 1 rfl ⟨_, rfl, _, rfl, ixA (hs.mono S) 2 rfl ⟨_, rfl, _, rfl, G, qq, a, b, us, ns, g, path, rfl, hG.mono S, nd, by omega, hq.mono S, by omega, Same.seqT S ha, by omega, Same.seqT S hb, by omega, .inl ⟨ds, ks, dps_mono S hD, hlen, hk, fun i k hi => ⟨by have := hK i k hi; rw [nsAt_no i ns (by decide)] at this; exact this, by have := size_at (w := "use") (n := n) hi; omega⟩, fun l ys H6 s6 h6 hy6 => ?_⟩⟩⟩⟩
          refine ⟨l, ys, rfl, .inl ⟨SqL.of h6, fun tb np7 => ?_⟩⟩
          obtain ⟨H7, s7, h7, e7⟩ := lay (o := .tup ys) np7
          rw [e7]
          refine ⟨by show 3 ≤ sizeLine; decide, fun tt np8 => ?_⟩
          obtain ⟨H8, s8, h8, e8⟩ := lay (o := .tup [.str "use", .str n, .ref tb]) np8
          rw [e8]
          refine q _ H8 (((S.trans s6).trans s7).trans s8) ?_
          rw [d_node]
          exact .tup (SqT.of h8) (.cons (.str _) (.cons (.str _) (.cons (.tup (SqT.of (s8 _ _ h7)) (dps_mono ((hid_low _ _).trans (s7.trans s8)) hy6)) .nil)))

        · obtain ⟨t', ht, hty⟩ := tyS hs
          refine ⟨_, rfl, .ref p, _, true, rfl, hty, kit_seq ht, fun H1 s1 => ⟨_, rfl, ?_⟩⟩
          refine iteF ?_
          refine ⟨_, rfl, p, _, rfl, hs.mono s1, _, _, rfl, rfl, _, rfl, ?_⟩
          rw [decide_eq_false (by simp only [List.length_cons, List.length_nil]; omega)]
          refine iteF ?_
          refine ⟨_, rfl, ixA (hs.mono s1) 0 rfl ⟨.str "bind", .ty "str", .type "str", .type "str", true, rfl, .ty "str", .base (.str "bind"), kit_ty (by decide +kernel), true, rfl, ?_⟩⟩
          refine iteF ?_
          refine ⟨_, rfl, ixA (hs.mono s1) 0 rfl ?_⟩
          refine ⟨_, rfl, rfl, _, rfl, ?_⟩
          rw [decS]
          rw [decide_eq_false (by decide)]
          refine iteF ?_
          refine ⟨_, rfl, "bind", none, rfl, rfl, hno _ (by decide), false, rfl, ?_⟩
          refine iteF ?_
          refine ⟨_, rfl, aN, sts nmd, rfl, .inr (hN _), rfl, flat_sts _, _, rfl, ?_⟩
          rw [show (if false = true then !inV (.str "bind") (sts nmd) else inV (.str "bind") (sts nmd)) = false from (inV_sts "bind" nmd).trans (decide_eq_false (by decide))]
          refine iteF ?_

          obtain ⟨hn, h2⟩ := hH.toBind
          obtain ⟨u0, u1, rfl⟩ : ∃ u0 u1, us = [u0, u1] := by
            match us, h2 with
            | [u0, u1], _ => exact ⟨u0, u1, rfl⟩
          obtain ⟨k0, k1, rfl⟩ : ∃ k0 k1, ks = [k0, k1] := by
            match ks, hul with
            | [k0, k1], _ => exact ⟨k0, k1, rfl⟩
          obtain ⟨d0, d1, rfl⟩ : ∃ d0 d1, ds = [d0, d1] := by
            match ds, hlen with
            | [d0, d1], _ => exact ⟨d0, d1, rfl⟩
          have hD0 : Dp K H u0 d0 := by cases hD with | cons h _ => exact h
          have hD1 : Dp K H u1 d1 := by cases hD with | cons _ h => cases h with | cons h _ => exact h
          refine ⟨_, rfl, rfl, _, rfl, ?_⟩
          refine iteT ?_
          refine ⟨_, rfl, p, _, rfl, hs.mono s1, rfl, _, rfl, ?_⟩
          refine iteT ?_
          refine ⟨_, rfl, ixA (hs.mono s1) 1 rfl ⟨_, rfl, .inl ⟨n, rfl, len8 hn, fun H2 s2 => ⟨true, by rw [hn], ?_⟩⟩⟩⟩
          refine iteT ?_
          have S := s1.trans s2
          have z0 := size_at (w := "bind") (n := n) (ks := [k0, k1]) (i := 0) rfl
          have z1 := size_at (w := "bind") (n := n) (ks := [k0, k1]) (i := 1) rfl
          refine ⟨_, rfl, _, rfl, ixA (hs.mono S) 2 rfl ⟨_, rfl, _, rfl, by show 1 ≤ sizeLine; decide, fun pt np3 => ?_⟩⟩
          obtain ⟨H3, s3, h3, e3⟩ := lay (o := .tup [.int 0]) np3
          rw [e3]
          refine catA (Same.seqT (S.trans s3) hb) (SqT.of h3) (by rw [sizeLine_eq]; simp; omega) fun pb0 H4 s4 hpb0 => ?_
          have S4 := (S.trans s3).trans s4
          refine ⟨G, a, pb0, u0, ns, g, _, rfl, hG.mono S4, nd, by omega, Same.seqT S4 ha, by omega, hpb0, by simp; omega, .inl ⟨d0, k0, dp_mono S4 hD0, hk 0 _ _ rfl rfl, hK 0 _ rfl, by omega, fun v0 H5 s5 hv0 => ?_⟩⟩
          have S5 := S4.trans s5
          refine ⟨_, rfl, ixA (hs.mono S5) 1 rfl ⟨_, rfl, _, rfl, _, rfl, ixA (hs.mono S5) 3 rfl ⟨_, rfl, a, sts ns, rfl, .inl (Same.seqT S5 ha), _, rfl, ixA (hs.mono S5) 1 rfl ⟨by rw [sizeLine_eq]; simp [sts]; omega, fun nb np6 => ?_⟩⟩⟩⟩
          obtain ⟨H6, s6, h6, e6⟩ := lay (o := .tup (sts ns ++ [.str n])) np6
          rw [e6]

          refine ⟨_, rfl, by show 1 ≤ sizeLine; decide, fun pt np7 => ?_⟩
          obtain ⟨H7, s7, h7, e7⟩ := lay (o := .tup [.int 1]) np7
          rw [e7]
          refine catA (Same.seqT ((S5.trans s6).trans s7) hb) (SqT.of h7) (by rw [sizeLine_eq]; simp; omega) fun pb1 H8 s8 hpb1 => ?_
          have S8 := ((S5.trans s6).trans s7).trans s8
          refine ⟨G, nb, pb1, u1, nsAt "bind" n 1 ns, g, _, rfl, hG.mono S8, nd, by omega, by rw [show sts (nsAt "bind" n 1 ns) = sts ns ++ [.str n] from by simp [nsAt, sts]]; exact SqT.of (s8 _ _ (s7 _ _ h6)), by simp [nsAt]; omega, hpb1, by simp; omega, .inl ⟨d1, k1, dp_mono S8 hD1, hk 1 _ _ rfl rfl, hK 1 _ rfl, by omega, fun v1 H9 s9 hv1 => ?_⟩⟩
          refine ⟨by show 4 ≤ sizeLine; decide, fun tt np10 => ?_⟩
          obtain ⟨H10, s10, h10, e10⟩ := lay (o := .tup [.str "bind", .str n, v0, v1]) np10
          rw [e10]
          refine q _ H10 ((S8.trans s9).trans s10) ?_
          rw [d_node]
          have SS := (((s6.trans s7).trans s8).trans s9).trans s10
          exact .tup (SqT.of h10) (.cons (.str _) (.cons (.str _) (.cons (dp_mono SS hv0) (.cons (dp_mono s10 hv1) .nil))))

        · obtain ⟨t', ht, hty⟩ := tyS hs
          have hm := hH.toOp ⟨m, ho⟩
          obtain ⟨hk2, u, hu⟩ := hT _ hm
          have n3 := ops_no _ ho
          have h1 : 1 ≤ us.length := by
            have := (show ∀ q ∈ opsW, 1 ≤ q.2 by decide) _ hm
            exact this
          refine ⟨_, rfl, .ref p, _, true, rfl, hty, kit_seq ht, fun H1 s1 => ⟨_, rfl, ?_⟩⟩
          refine iteF ?_
          refine ⟨_, rfl, p, _, rfl, hs.mono s1, _, _, rfl, rfl, _, rfl, ?_⟩
          rw [decide_eq_false (by simp only [List.length_cons, List.length_nil]; omega)]
          refine iteF ?_
          refine ⟨_, rfl, ixA (hs.mono s1) 0 rfl ⟨.str wd, .ty "str", .type "str", .type "str", true, rfl, .ty "str", .base (.str wd), kit_ty (by decide +kernel), true, rfl, ?_⟩⟩
          refine iteF ?_
          refine ⟨_, rfl, ixA (hs.mono s1) 0 rfl ?_⟩
          refine ⟨_, rfl, rfl, _, rfl, ?_⟩
          rw [decS]
          rw [decide_eq_false (n3.2.1)]
          refine iteF ?_

          refine ⟨_, rfl, wd, some u, rfl, rfl, hu, true, rfl, ?_⟩
          refine iteT ?_
          refine ⟨_, rfl, p, _, rfl, hs.mono s1, ⟨_, rfl, dT, wd, _, rfl, rfl, hk2, _, _, rfl, rfl, rfl, _, rfl, ?_⟩⟩
          rw [decI, decide_eq_true (by rw [List.length_cons]; omega)]
          refine iteT ?_
          refine ⟨_, rfl, _, rfl, _, rfl, _, rfl, ?_⟩
          refine slA (hs.mono s1) 1 fun qq H2 s2 hq => ?_
          have hq : SqA K H2 qq us := hq
          have S := s1.trans s2
          refine ⟨_, rfl, _, rfl, G, qq, a, b, us, ns, g, path, rfl, hG.mono S, nd, by omega, hq, by omega, Same.seqT S ha, by omega, Same.seqT S hb, by omega, .inl ⟨ds, ks, dps_mono S hD, hlen, hk, fun i k hi => ⟨by have := hK i k hi; rw [nsAt_no i ns n3.2.2] at this; exact this, by have := size_at (w := wd) (n := "") hi; omega⟩, fun l ys H6 s6 h6 hy6 => ?_⟩⟩
          refine ⟨l, ys, rfl, .inr (SqL.of h6), ?_⟩
          have hyl : ys.length = ks.length := by have := dps_len hy6; rw [List.length_map] at this; exact this
          refine ⟨by rw [sizeLine_eq]; simp; omega, fun tt np8 => ?_⟩
          obtain ⟨H8, s8, h8, e8⟩ := lay (o := .tup (.str wd :: ys)) np8
          rw [List.append_nil, e8]
          refine q _ H8 ((S.trans s6).trans s8) ?_
          have e : nodeT wd "" (ks.map GB.Tm.d) = .tuple (.str wd :: ks.map GB.Tm.d) := by
            unfold nodeT
            rw [if_neg n3.2.1, if_neg n3.2.2, if_pos (List.mem_map.mpr ⟨_, ho, rfl⟩)]
          rw [d_node, e]
          exact .tup (SqT.of h8) (.cons (.str _) (dps_mono ((hid_low _ _).trans s8) hy6))
      · cases hB with
        | odd hOd =>
          rcases hOd.cases4 with ⟨t, hty, hk⟩ | ⟨p, xs, rfl, hs, hl⟩ | ⟨p, y, r, t, rfl, hs, hyt, hk⟩ | ⟨p, wd, r, rfl, O⟩
          · refine ⟨_, rfl, x, _, false, rfl, hty, hk, fun H1 s1 => ⟨_, rfl, ?_⟩⟩
            refine iteT ?_
            exact ⟨_, rfl, by show 1 ≤ 1000; decide, fun e ne => mk_err (fun d H' s' h' => qe b d H' (s1.trans s') (by rw [show pin [] = [] from rfl, List.append_nil]; exact Same.seqT (s1.trans s') hb) h') e ne⟩
          · obtain ⟨t', ht, hty⟩ := tyS hs
            refine ⟨_, rfl, .ref p, _, true, rfl, hty, kit_seq ht, fun H1 s1 => ⟨_, rfl, ?_⟩⟩
            refine iteF ?_
            refine ⟨_, rfl, p, _, rfl, hs.mono s1, _, _, rfl, rfl, _, rfl, ?_⟩
            rw [decide_eq_true (by omega)]
            refine iteT ?_
            exact ⟨_, rfl, by show 1 ≤ 1000; decide, fun e ne => mk_err (fun d H' s' h' => qe b d H' (s1.trans s') (by rw [show pin [] = [] from rfl, List.append_nil]; exact Same.seqT (s1.trans s') hb) h') e ne⟩
          · obtain ⟨t', ht, hty⟩ := tyS hs
            refine ⟨_, rfl, .ref p, _, true, rfl, hty, kit_seq ht, fun H1 s1 => ⟨_, rfl, ?_⟩⟩
            refine iteF ?_
            refine ⟨_, rfl, p, _, rfl, hs.mono s1, _, _, rfl, rfl, _, rfl, ?_⟩
            refine ite2 (fun _ => ?_) (fun _ => ?_)
            · exact ⟨_, rfl, by show 1 ≤ 1000; decide, fun e ne => mk_err (fun d H' s' h' => qe b d H' (s1.trans s') (by rw [show pin [] = [] from rfl, List.append_nil]; exact Same.seqT (s1.trans s') hb) h') e ne⟩
            · refine ⟨_, rfl, ixA (hs.mono s1) 0 rfl ⟨y, .ty "str", t, .type "str", false, rfl, .ty "str", hyt _ s1, hk, false, rfl, ?_⟩⟩
              refine iteT ?_
              exact ⟨_, rfl, by show 1 ≤ 1000; decide, fun e ne => mk_err (fun d H' s' h' => qe b d H' (s1.trans s') (by rw [show pin [] = [] from rfl, List.append_nil]; exact Same.seqT (s1.trans s') hb) h') e ne⟩
          · have hs := O.sq
            obtain ⟨t', ht, hty⟩ := tyS hs
            have r1 : 1 ≤ r.length := List.length_pos_iff.mpr O.ne
            by_cases cU : wd = "use"
            · subst cU
              refine ⟨_, rfl, .ref p, _, true, rfl, hty, kit_seq ht, fun H1 s1 => ⟨_, rfl, ?_⟩⟩
              refine iteF ?_
              refine ⟨_, rfl, p, _, rfl, hs.mono s1, _, _, rfl, rfl, _, rfl, ?_⟩
              rw [decide_eq_false (by simp only [List.length_cons, List.length_nil]; omega)]
              refine iteF ?_
              refine ⟨_, rfl, ixA (hs.mono s1) 0 rfl ⟨.str "use", .ty "str", .type "str", .type "str", true, rfl, .ty "str", .base (.str "use"), kit_ty (by decide +kernel), true, rfl, ?_⟩⟩
              refine iteF ?_
              refine ⟨_, rfl, ixA (hs.mono s1) 0 rfl ?_⟩
              refine ⟨_, rfl, rfl, _, rfl, ?_⟩
              rw [decS]

              refine iteT ?_
              refine ⟨_, rfl, _, rfl, G, p, g, rfl, hG.mono s1, nd, .inr ⟨(O.use rfl).mono s1, fun H2 s2 => ⟨_, rfl, ?_⟩⟩⟩
              refine iteF ?_
              have S := s1.trans s2
              refine ⟨_, rfl, "use", none, rfl, rfl, hno _ (by decide), false, rfl, ?_⟩
              refine iteF ?_
              refine ⟨_, rfl, aN, sts nmd, rfl, .inr (hN _), rfl, flat_sts _, _, rfl, ?_⟩
              rw [show (if false = true then !inV (.str "use") (sts nmd) else inV (.str "use") (sts nmd)) = false from (inV_sts "use" nmd).trans (decide_eq_false (by decide))]
              refine iteF ?_
              refine ⟨_, rfl, rfl, _, rfl, ?_⟩
              rw [decS]
              rw [decide_eq_false (by decide)]
              refine iteF ?_
              exact ⟨_, rfl, by show 1 ≤ 1000; decide, fun e ne => mk_err (fun d H' s' h' => qe b d H' (S.trans s') (by rw [show pin [] = [] from rfl, List.append_nil]; exact Same.seqT (S.trans s') hb) h') e ne⟩

            by_cases cB : wd = "bind"
            · subst cB
              obtain ⟨y, a1, a2, rfl, hn⟩ := O.bind rfl
              refine ⟨_, rfl, .ref p, _, true, rfl, hty, kit_seq ht, fun H1 s1 => ⟨_, rfl, ?_⟩⟩
              refine iteF ?_
              refine ⟨_, rfl, p, _, rfl, hs.mono s1, _, _, rfl, rfl, _, rfl, ?_⟩
              rw [decide_eq_false (by simp only [List.length_cons, List.length_nil]; omega)]
              refine iteF ?_
              refine ⟨_, rfl, ixA (hs.mono s1) 0 rfl ⟨.str "bind", .ty "str", .type "str", .type "str", true, rfl, .ty "str", .base (.str "bind"), kit_ty (by decide +kernel), true, rfl, ?_⟩⟩
              refine iteF ?_
              refine ⟨_, rfl, ixA (hs.mono s1) 0 rfl ?_⟩
              refine ⟨_, rfl, rfl, _, rfl, ?_⟩
              rw [decS]
              rw [decide_eq_false (by decide)]
              refine iteF ?_
              refine ⟨_, rfl, "bind", none, rfl, rfl, hno _ (by decide), false, rfl, ?_⟩
              refine iteF ?_
              refine ⟨_, rfl, aN, sts nmd, rfl, .inr (hN _), rfl, flat_sts _, _, rfl, ?_⟩
              rw [show (if false = true then !inV (.str "bind") (sts nmd) else inV (.str "bind") (sts nmd)) = false from (inV_sts "bind" nmd).trans (decide_eq_false (by decide))]
              refine iteF ?_

              refine ⟨_, rfl, rfl, _, rfl, ?_⟩
              refine iteT ?_
              refine ⟨_, rfl, p, _, rfl, hs.mono s1, rfl, _, rfl, ?_⟩
              refine iteT ?_
              refine ⟨_, rfl, ixA (hs.mono s1) 1 rfl ⟨_, rfl, ?_⟩⟩
              cases hn.mono s1 with
              | @str z hz hl =>
                refine .inl ⟨z, rfl, hl, fun H2 s2 => ⟨false, by rw [hz], ?_⟩⟩
                refine iteF ?_
                have S := s1.trans s2
                exact ⟨_, rfl, by show 1 ≤ 1000; decide, fun e ne => mk_err (fun d H' s' h' => qe b d H' (S.trans s') (by rw [show pin [] = [] from rfl, List.append_nil]; exact Same.seqT (S.trans s') hb) h') e ne⟩
              | oth h5 h6 =>
                refine .inr ⟨_, h5 _ (Same.refl _), h6, ⟨false, rfl, ?_⟩⟩
                refine iteF ?_
                exact ⟨_, rfl, by show 1 ≤ 1000; decide, fun e ne => mk_err (fun d H' s' h' => qe b d H' (s1.trans s') (by rw [show pin [] = [] from rfl, List.append_nil]; exact Same.seqT (s1.trans s') hb) h') e ne⟩

            by_cases cN : wd ∈ nmd
            · rcases O.nam cN with hl | ⟨y, rfl, hn⟩
              · refine ⟨_, rfl, .ref p, _, true, rfl, hty, kit_seq ht, fun H1 s1 => ⟨_, rfl, ?_⟩⟩
                refine iteF ?_
                refine ⟨_, rfl, p, _, rfl, hs.mono s1, _, _, rfl, rfl, _, rfl, ?_⟩
                rw [decide_eq_false (by simp only [List.length_cons, List.length_nil]; omega)]
                refine iteF ?_
                refine ⟨_, rfl, ixA (hs.mono s1) 0 rfl ⟨.str wd, .ty "str", .type "str", .type "str", true, rfl, .ty "str", .base (.str wd), kit_ty (by decide +kernel), true, rfl, ?_⟩⟩
                refine iteF ?_
                refine ⟨_, rfl, ixA (hs.mono s1) 0 rfl ?_⟩
                refine ⟨_, rfl, rfl, _, rfl, ?_⟩
                rw [decS]
                rw [decide_eq_false (cU)]
                refine iteF ?_
                refine ⟨_, rfl, wd, none, rfl, rfl, hno _ ((nmW _ cN).2.2.2), false, rfl, ?_⟩
                refine iteF ?_
                refine ⟨_, rfl, aN, sts nmd, rfl, .inr (hN _), rfl, flat_sts _, _, rfl, ?_⟩
                rw [show (if false = true then !inV (.str wd) (sts nmd) else inV (.str wd) (sts nmd)) = true from (inV_sts wd nmd).trans (decide_eq_true (cN))]
                refine iteT ?_

                refine ⟨_, rfl, p, _, rfl, hs.mono s1, rfl, false, by rw [decI, decide_eq_false (by rw [List.length_cons]; omega)], ?_⟩
                refine iteF ?_
                refine ⟨_, rfl, rfl, _, rfl, ?_⟩
                rw [decS]
                rw [decide_eq_false (cB)]
                refine iteF ?_
                exact ⟨_, rfl, by show 1 ≤ 1000; decide, fun e ne => mk_err (fun d H' s' h' => qe b d H' (s1.trans s') (by rw [show pin [] = [] from rfl, List.append_nil]; exact Same.seqT (s1.trans s') hb) h') e ne⟩
              · refine ⟨_, rfl, .ref p, _, true, rfl, hty, kit_seq ht, fun H1 s1 => ⟨_, rfl, ?_⟩⟩
                refine iteF ?_
                refine ⟨_, rfl, p, _, rfl, hs.mono s1, _, _, rfl, rfl, _, rfl, ?_⟩
                rw [decide_eq_false (by simp only [List.length_cons, List.length_nil]; omega)]
                refine iteF ?_
                refine ⟨_, rfl, ixA (hs.mono s1) 0 rfl ⟨.str wd, .ty "str", .type "str", .type "str", true, rfl, .ty "str", .base (.str wd), kit_ty (by decide +kernel), true, rfl, ?_⟩⟩
                refine iteF ?_
                refine ⟨_, rfl, ixA (hs.mono s1) 0 rfl ?_⟩
                refine ⟨_, rfl, rfl, _, rfl, ?_⟩
                rw [decS]
                rw [decide_eq_false (cU)]
                refine iteF ?_
                refine ⟨_, rfl, wd, none, rfl, rfl, hno _ ((nmW _ cN).2.2.2), false, rfl, ?_⟩
                refine iteF ?_
                refine ⟨_, rfl, aN, sts nmd, rfl, .inr (hN _), rfl, flat_sts _, _, rfl, ?_⟩
                rw [show (if false = true then !inV (.str wd) (sts nmd) else inV (.str wd) (sts nmd)) = true from (inV_sts wd nmd).trans (decide_eq_true (cN))]
                refine iteT ?_

                refine ⟨_, rfl, p, _, rfl, hs.mono s1, rfl, true, rfl, ?_⟩
                refine iteT ?_
                refine ⟨_, rfl, ixA (hs.mono s1) 1 rfl ⟨_, rfl, ?_⟩⟩
                rcases hn with hn | ⟨rfl, n, rfl, hn, hni⟩
                · cases hn.mono s1 with
                  | @str z hz hl =>
                    refine .inl ⟨z, rfl, hl, fun H2 s2 => ⟨false, by rw [hz], ?_⟩⟩
                    refine iteF ?_
                    have S := s1.trans s2
                    refine ⟨_, rfl, rfl, _, rfl, ?_⟩
                    rw [decS]
                    rw [decide_eq_false (cB)]
                    refine iteF ?_
                    exact ⟨_, rfl, by show 1 ≤ 1000; decide, fun e ne => mk_err (fun d H' s' h' => qe b d H' (S.trans s') (by rw [show pin [] = [] from rfl, List.append_nil]; exact Same.seqT (S.trans s') hb) h') e ne⟩
                  | oth h5 h6 =>
                    refine .inr ⟨_, h5 _ (Same.refl _), h6, ⟨false, rfl, ?_⟩⟩
                    refine iteF ?_
                    refine ⟨_, rfl, rfl, _, rfl, ?_⟩
                    rw [decS]
                    rw [decide_eq_false (cB)]
                    refine iteF ?_
                    exact ⟨_, rfl, by show 1 ≤ 1000; decide, fun e ne => mk_err (fun d H' s' h' => qe b d H' (s1.trans s') (by rw [show pin [] = [] from rfl, List.append_nil]; exact Same.seqT (s1.trans s') hb) h') e ne⟩
                · refine .inl ⟨n, rfl, len8 hn, fun H2 s2 => ⟨true, by rw [hn], ?_⟩⟩
                  refine iteT ?_
                  have S := s1.trans s2
                  refine ⟨_, rfl, rfl, _, rfl, ?_⟩
                  rw [decS, decide_eq_true rfl]
                  refine iteF ?_
                  refine ⟨_, rfl, ixA (hs.mono S) 1 rfl ⟨_, rfl, a, sts ns, rfl, .inr (Same.seqT S ha), rfl, flat_sts _, _, rfl, ?_⟩⟩
                  rw [show (if false = true then !inV (.str n) (sts ns) else inV (.str n) (sts ns)) = false from (inV_sts n ns).trans (decide_eq_false hni)]
                  refine iteF ?_
                  refine ⟨_, rfl, rfl, _, rfl, ?_⟩
                  rw [decS]
                  rw [decide_eq_false (by decide)]
                  refine iteF ?_
                  exact ⟨_, rfl, by show 1 ≤ 1000; decide, fun e ne => mk_err (fun d H' s' h' => qe b d H' (S.trans s') (by rw [show pin [] = [] from rfl, List.append_nil]; exact Same.seqT (S.trans s') hb) h') e ne⟩
            rcases O.known with ⟨m, ho⟩ | hk
            · obtain ⟨hk2, u, hu⟩ := hT _ ho
              have hl := O.ops m ho
              refine ⟨_, rfl, .ref p, _, true, rfl, hty, kit_seq ht, fun H1 s1 => ⟨_, rfl, ?_⟩⟩
              refine iteF ?_
              refine ⟨_, rfl, p, _, rfl, hs.mono s1, _, _, rfl, rfl, _, rfl, ?_⟩
              rw [decide_eq_false (by simp only [List.length_cons, List.length_nil]; omega)]
              refine iteF ?_
              refine ⟨_, rfl, ixA (hs.mono s1) 0 rfl ⟨.str wd, .ty "str", .type "str", .type "str", true, rfl, .ty "str", .base (.str wd), kit_ty (by decide +kernel), true, rfl, ?_⟩⟩
              refine iteF ?_
              refine ⟨_, rfl, ixA (hs.mono s1) 0 rfl ?_⟩
              refine ⟨_, rfl, rfl, _, rfl, ?_⟩
              rw [decS]
              rw [decide_eq_false (cU)]
              refine iteF ?_

              refine ⟨_, rfl, wd, some u, rfl, rfl, hu, true, rfl, ?_⟩
              refine iteT ?_
              refine ⟨_, rfl, p, _, rfl, hs.mono s1, ⟨_, rfl, dT, wd, _, rfl, rfl, hk2, _, _, rfl, rfl, rfl, _, rfl, ?_⟩⟩
              rw [decI, decide_eq_false (by rw [List.length_cons]; omega)]
              refine iteF ?_
              refine ⟨_, rfl, aN, sts nmd, rfl, .inr (hN _), rfl, flat_sts _, _, rfl, ?_⟩
              rw [show (if false = true then !inV (.str wd) (sts nmd) else inV (.str wd) (sts nmd)) = false from (inV_sts wd nmd).trans (decide_eq_false (cN))]
              refine iteF ?_
              refine ⟨_, rfl, rfl, _, rfl, ?_⟩
              rw [decS]
              rw [decide_eq_false (cB)]
              refine iteF ?_
              exact ⟨_, rfl, by show 1 ≤ 1000; decide, fun e ne => mk_err (fun d H' s' h' => qe b d H' (s1.trans s') (by rw [show pin [] = [] from rfl, List.append_nil]; exact Same.seqT (s1.trans s') hb) h') e ne⟩

            · refine ⟨_, rfl, .ref p, _, true, rfl, hty, kit_seq ht, fun H1 s1 => ⟨_, rfl, ?_⟩⟩
              refine iteF ?_
              refine ⟨_, rfl, p, _, rfl, hs.mono s1, _, _, rfl, rfl, _, rfl, ?_⟩
              rw [decide_eq_false (by simp only [List.length_cons, List.length_nil]; omega)]
              refine iteF ?_
              refine ⟨_, rfl, ixA (hs.mono s1) 0 rfl ⟨.str wd, .ty "str", .type "str", .type "str", true, rfl, .ty "str", .base (.str wd), kit_ty (by decide +kernel), true, rfl, ?_⟩⟩
              refine iteF ?_
              refine ⟨_, rfl, ixA (hs.mono s1) 0 rfl ?_⟩
              refine ⟨_, rfl, rfl, _, rfl, ?_⟩
              rw [decS]
              rw [decide_eq_false (cU)]
              refine iteF ?_
              refine ⟨_, rfl, wd, none, rfl, rfl, hno _ (hk), false, rfl, ?_⟩
              refine iteF ?_
              refine ⟨_, rfl, aN, sts nmd, rfl, .inr (hN _), rfl, flat_sts _, _, rfl, ?_⟩
              rw [show (if false = true then !inV (.str wd) (sts nmd) else inV (.str wd) (sts nmd)) = false from (inV_sts wd nmd).trans (decide_eq_false (cN))]
              refine iteF ?_
              refine ⟨_, rfl, rfl, _, rfl, ?_⟩
              rw [decS]
              rw [decide_eq_false (cB)]
              refine iteF ?_
              exact ⟨_, rfl, by show 1 ≤ 1000; decide, fun e ne => mk_err (fun d H' s' h' => qe b d H' (s1.trans s') (by rw [show pin [] = [] from rfl, List.append_nil]; exact Same.seqT (s1.trans s') hb) h') e ne⟩
        | @within _ _ p wd n us i0 y r hV hH hy hgood hbad hul =>
          rcases hV.kind with ⟨hw, rfl, hs⟩ | ⟨rfl, qq, hs, hq⟩ | ⟨rfl, hs⟩ | ⟨⟨m, ho⟩, rfl, hs⟩
          · cases hy
          · obtain ⟨t', ht, hty⟩ := tyS hs
            refine ⟨_, rfl, .ref p, _, true, rfl, hty, kit_seq ht, fun H1 s1 => ⟨_, rfl, ?_⟩⟩
            refine iteF ?_
            refine ⟨_, rfl, p, _, rfl, hs.mono s1, _, _, rfl, rfl, _, rfl, ?_⟩
            rw [decide_eq_false (by simp only [List.length_cons, List.length_nil]; omega)]
            refine iteF ?_
            refine ⟨_, rfl, ixA (hs.mono s1) 0 rfl ⟨.str "use", .ty "str", .type "str", .type "str", true, rfl, .ty "str", .base (.str "use"), kit_ty (by decide +kernel), true, rfl, ?_⟩⟩
            refine iteF ?_
            refine ⟨_, rfl, ixA (hs.mono s1) 0 rfl ?_⟩
            refine ⟨_, rfl, rfl, _, rfl, ?_⟩
            rw [decS]

            refine iteT ?_
            refine ⟨_, rfl, _, rfl, G, p, g, rfl, hG.mono s1, nd, .inl ⟨qq, n, us, hs.mono s1, hq.mono s1, hH.toUse, fun H2 s2 => ⟨_, rfl, ?_⟩⟩⟩
            refine iteT ?_
            have S := s1.trans s2
            refine ⟨_, rfl, ixA (hs.mono S) 1 rfl ⟨_, rfl, _, rfl, ixA (hs.mono S) 2 rfl ⟨_, rfl, _, rfl, G, qq, a, b, us, ns, g, path, rfl, hG.mono S, nd, by omega, hq.mono S, hul, Same.seqT S ha, by omega, Same.seqT S hb, by omega, .inr ⟨i0, y, r, hy, fun j x hj hx => (by have := hgood j x hj hx; rw [nsAt_no j ns (by decide)] at this; exact this.mono S), (by have := hbad; rw [nsAt_no i0 ns (by decide)] at this; exact this.mono S), fun pb d H' s' hp hx => qe pb d H' (S.trans s') hp hx⟩⟩⟩⟩

          · obtain ⟨t', ht, hty⟩ := tyS hs
            refine ⟨_, rfl, .ref p, _, true, rfl, hty, kit_seq ht, fun H1 s1 => ⟨_, rfl, ?_⟩⟩
            refine iteF ?_
            refine ⟨_, rfl, p, _, rfl, hs.mono s1, _, _, rfl, rfl, _, rfl, ?_⟩
            rw [decide_eq_false (by simp only [List.length_cons, List.length_nil]; omega)]
            refine iteF ?_
            refine ⟨_, rfl, ixA (hs.mono s1) 0 rfl ⟨.str "bind", .ty "str", .type "str", .type "str", true, rfl, .ty "str", .base (.str "bind"), kit_ty (by decide +kernel), true, rfl, ?_⟩⟩
            refine iteF ?_
            refine ⟨_, rfl, ixA (hs.mono s1) 0 rfl ?_⟩
            refine ⟨_, rfl, rfl, _, rfl, ?_⟩
            rw [decS]
            rw [decide_eq_false (by decide)]
            refine iteF ?_
            refine ⟨_, rfl, "bind", none, rfl, rfl, hno _ (by decide), false, rfl, ?_⟩
            refine iteF ?_
            refine ⟨_, rfl, aN, sts nmd, rfl, .inr (hN _), rfl, flat_sts _, _, rfl, ?_⟩
            rw [show (if false = true then !inV (.str "bind") (sts nmd) else inV (.str "bind") (sts nmd)) = false from (inV_sts "bind" nmd).trans (decide_eq_false (by decide))]
            refine iteF ?_

            obtain ⟨hn, h2⟩ := hH.toBind
            obtain ⟨u0, u1, rfl⟩ : ∃ u0 u1, us = [u0, u1] := by
              match us, h2 with
              | [u0, u1], _ => exact ⟨u0, u1, rfl⟩
            refine ⟨_, rfl, rfl, _, rfl, ?_⟩
            refine iteT ?_
            refine ⟨_, rfl, p, _, rfl, hs.mono s1, rfl, _, rfl, ?_⟩
            refine iteT ?_
            refine ⟨_, rfl, ixA (hs.mono s1) 1 rfl ⟨_, rfl, .inl ⟨n, rfl, len8 hn, fun H2 s2 => ⟨true, by rw [hn], ?_⟩⟩⟩⟩
            refine iteT ?_
            have S := s1.trans s2
            refine ⟨_, rfl, _, rfl, ixA (hs.mono S) 2 rfl ⟨_, rfl, _, rfl, by show 1 ≤ sizeLine; decide, fun pt np3 => ?_⟩⟩
            obtain ⟨H3, s3, h3, e3⟩ := lay (o := .tup [.int 0]) np3
            rw [e3]
            refine catA (Same.seqT (S.trans s3) hb) (SqT.of h3) (by rw [sizeLine_eq]; simp; omega) fun pb0 H4 s4 hpb0 => ?_
            have S4 := (S.trans s3).trans s4
            match i0, hy, hgood, hbad, qe with
            | 0, hy, hgood, hbad, qe =>
              obtain rfl := Option.some.inj hy
              refine ⟨G, a, pb0, u0, ns, g, _, rfl, hG.mono S4, nd, by omega, Same.seqT S4 ha, by omega, hpb0, by simp; omega, .inr ⟨r, hbad.mono S4, fun pb2 d H8 s8 hpb2 hx => qe pb2 d H8 (S4.trans s8) ?_ hx⟩⟩
              rw [List.append_assoc] at hpb2
              exact hpb2
            | 1, hy, hgood, hbad, qe =>
              obtain rfl := Option.some.inj hy
              obtain ⟨d0, k0, D0, T0, O0, z0⟩ := hgood 0 u0 (by omega) rfl
              refine ⟨G, a, pb0, u0, ns, g, _, rfl, hG.mono S4, nd, by omega, Same.seqT S4 ha, by omega, hpb0, by simp; omega, .inl ⟨d0, k0, dp_mono S4 D0, T0, O0, z0, fun v0 H5 s5 hv0 => ?_⟩⟩
              have S5 := S4.trans s5
              refine ⟨_, rfl, ixA (hs.mono S5) 1 rfl ⟨_, rfl, _, rfl, _, rfl, ixA (hs.mono S5) 3 rfl ⟨_, rfl, a, sts ns, rfl, .inl (Same.seqT S5 ha), _, rfl, ixA (hs.mono S5) 1 rfl ⟨by rw [sizeLine_eq]; simp [sts]; omega, fun nb np6 => ?_⟩⟩⟩⟩
              obtain ⟨H6, s6, h6, e6⟩ := lay (o := .tup (sts ns ++ [.str n])) np6
              rw [e6]
              refine ⟨_, rfl, by show 1 ≤ sizeLine; decide, fun pt np7 => ?_⟩
              obtain ⟨H7, s7, h7, e7⟩ := lay (o := .tup [.int 1]) np7
              rw [e7]
              refine catA (Same.seqT ((S5.trans s6).trans s7) hb) (SqT.of h7) (by rw [sizeLine_eq]; simp; omega) fun pb1 H8 s8 hpb1 => ?_
              have S8 := ((S5.trans s6).trans s7).trans s8
              refine ⟨G, nb, pb1, u1, nsAt "bind" n 1 ns, g, _, rfl, hG.mono S8, nd, by omega, by rw [show sts (nsAt "bind" n 1 ns) = sts ns ++ [.str n] from by simp [nsAt, sts]]; exact SqT.of (s8 _ _ (s7 _ _ h6)), by simp [nsAt]; omega, hpb1, by simp; omega, .inr ⟨r, hbad.mono S8, fun pb2 d H9 s9 hpb2 hx => qe pb2 d H9 (S8.trans s9) ?_ hx⟩⟩
              rw [List.append_assoc] at hpb2
              exact hpb2
            | i + 2, hy, _, _, _ => cases hy

          · obtain ⟨t', ht, hty⟩ := tyS hs
            have hm := hH.toOp ⟨m, ho⟩
            obtain ⟨hk2, u, hu⟩ := hT _ hm
            have n3 := ops_no _ ho
            have h1 : 1 ≤ us.length := by
              have := (show ∀ q ∈ opsW, 1 ≤ q.2 by decide) _ hm
              exact this
            refine ⟨_, rfl, .ref p, _, true, rfl, hty, kit_seq ht, fun H1 s1 => ⟨_, rfl, ?_⟩⟩
            refine iteF ?_
            refine ⟨_, rfl, p, _, rfl, hs.mono s1, _, _, rfl, rfl, _, rfl, ?_⟩
            rw [decide_eq_false (by simp only [List.length_cons, List.length_nil]; omega)]
            refine iteF ?_
            refine ⟨_, rfl, ixA (hs.mono s1) 0 rfl ⟨.str wd, .ty "str", .type "str", .type "str", true, rfl, .ty "str", .base (.str wd), kit_ty (by decide +kernel), true, rfl, ?_⟩⟩
            refine iteF ?_
            refine ⟨_, rfl, ixA (hs.mono s1) 0 rfl ?_⟩
            refine ⟨_, rfl, rfl, _, rfl, ?_⟩
            rw [decS]
            rw [decide_eq_false (n3.2.1)]
            refine iteF ?_

            refine ⟨_, rfl, wd, some u, rfl, rfl, hu, true, rfl, ?_⟩
            refine iteT ?_
            refine ⟨_, rfl, p, _, rfl, hs.mono s1, ⟨_, rfl, dT, wd, _, rfl, rfl, hk2, _, _, rfl, rfl, rfl, _, rfl, ?_⟩⟩
            rw [decI, decide_eq_true (by rw [List.length_cons]; omega)]
            refine iteT ?_
            refine ⟨_, rfl, _, rfl, _, rfl, _, rfl, ?_⟩
            refine slA (hs.mono s1) 1 fun qq H2 s2 hq => ?_
            have hq : SqA K H2 qq us := hq
            have S := s1.trans s2
            exact ⟨_, rfl, _, rfl, G, qq, a, b, us, ns, g, path, rfl, hG.mono S, nd, by omega, hq, hul, Same.seqT S ha, by omega, Same.seqT S hb, by omega, .inr ⟨i0, y, r, hy, fun j x hj hx => (by have := hgood j x hj hx; rw [nsAt_no j ns n3.2.2] at this; exact this.mono S), (by have := hbad; rw [nsAt_no i0 ns n3.2.2] at this; exact this.mono S), fun pb d H' s' hp hx => qe pb d H' (S.trans s') hp hx⟩⟩
end
end K27
set_option Elab.async false
set_option linter.all false
set_option autoImplicit false
set_option maxRecDepth 100000
set_option maxHeartbeats 8000000
namespace K27
open PySem PySem.Spec L2 GB
/-- the module's TERMS_BEHIND, and that no other letter stands in it -/
def TBl (K : PySem.W.Frag) (w : World) (mg : Str → Option Value) : Prop := ∃ d es n, mg "TERMS_BEHIND" = some (.ref d) ∧ KDict K w d es n ∧ (∀ q ∈ opsW, KDct K w d q.1 (.int (q.2 : Int)) ∧ ∃ u, PySem.W.nsIn K d q.1 = some (some u)) ∧ ∀ x ∈ nmA, x ∉ wdsW → PySem.W.nsIn K d x = some none
inductive BB : Str → List Nat → List V → Int → V → Nat → Prop
  | fail {n r} : nameB n = true → BB "fail" (cl n ++ 41 :: r) [.str "fail", .str n] 0 .non ((cl n).length + 1)
  | bind {n r} : nameB n = true → BB "bind" (cl n ++ 44 :: 32 :: r) [.str "bind", .str n] 2 (.int 2) ((cl n).length + 2)
  | op {w m r} : (w, m) ∈ opsW → BB w r [.str w] (m : Int) (.int (m : Int)) 0
  | use {w r} : w ∈ nmA → w ∉ wdsW → BB w r [.str "use", .str w] 0 (.int 2) 0
def spBb (CS : Addr) : Sp := fun vs H Q _ => ∃ (S : Addr) (T : Str) (p : Nat) (wd : Str) (r : List Nat) (bg : List V) (few : Int) (most : V) (k : Nat), vs = [.ref S, .str wd] ∧ SgAt CS H S T p ∧ Lf T p r ∧ BB wd r bg few most k ∧
  ∀ t b H', Bt [S] H H' → SgAt CS H' S T (p + k) → H' t = some (.tup [.ref b, .int few, most]) → H' b = some (.tup bg) → Q (.ref t) H'
section
variable {P : Program} {w : World} {K : PySem.W.Frag} {mg : Str → Option Value} {base : Heap} {CS : Addr}
theorem scS7 : FnScope ["self", "word", "failure", "name"] ["self", "word"] (defScope (sS 7)) := ⟨rfl, rfl, rfl, by decide +kernel, rfl, by decide +kernel, by decide +kernel⟩
abbrev MethOk (P : Program) (w : World) (K : PySem.W.Frag) (mg : Str → Option Value) (base : Heap) (CS : Addr) (nm : Str) (k : Nat) (ps : List Str) (sp : Sp) : Prop := ∃ g gd, Meth K CS nm g ∧ FnOk P w K mg base CX0 k g gd ps sp ∧ Binds K gd ps []
theorem ok_s7 {f : Addr} {fd : FuncData} (F : Fun K "take_behind_bracket" "Signs.take_behind_bracket" (sS 7) f fd) (C : SgC K CS) (TB : TBl K w mg) (TK : MethOk P w K mg base CS "take" 2 ["self", "wanted"] (spTake1 CS)) (TN : MethOk P w K mg base CS "take_name" 2 ["self"] (spTakeN CS)) : FnOk P w K mg base CX0 3 f fd ["self", "word"] (spBb CS) := by
  obtain ⟨g2, d2, M2, F2, B2⟩ := TK
  obtain ⟨g3, d3, M3, F3, B3⟩ := TN
  obtain ⟨dT, es, nT, gT, D, hT, hno⟩ := TB
  refine F.ok scS7 (fun vs H Q E h => ?_) (fun cdv A outer s H vs Q E hr h => ?_)
  · obtain ⟨S, T, p, wd, r, bg, few, most, k, rfl, _⟩ := h
    rfl
  · obtain ⟨S, T, p, wd, r, bg, few, most, k, rfl, hS, hl, hb, q⟩ := h
    refine ⟨_, pss_cons (ps_if (pt_cmpR op_eq (pv 1) pe_str (nomark _)) (pss_cons (ps_set (i := 2) scS7.nd rfl (.inl rfl) (pe_meth0 (pv 0) C.cl M3 F3 hr B3 .nil pass0 rfl)) (pss_cons (ps_expr (pe_meth (pv 0) C.cl M2 F2 hr B2 .nil pass0 (pa_cons pe_str pa_nil) rfl rfl rfl)) (pss_one (ps_ret (pe_tup (pa_cons (pe_tup (pa_cons pe_str (pa_cons (pv 2) pa_nil))) (pa_cons pe_int (pa_cons pe_non pa_nil)))))))) pss_nil)
      (pss_cons (ps_if (pt_cmpR op_eq (pv 1) pe_str (nomark _)) (pss_cons (ps_set (i := 3) scS7.nd rfl (.inl rfl) (pe_meth0 (pv 0) C.cl M3 F3 hr B3 .nil pass0 rfl)) (pss_cons (ps_expr (pe_meth (pv 0) C.cl M2 F2 hr B2 .nil pass0 (pa_cons pe_str pa_nil) rfl rfl rfl)) (pss_one (ps_ret (pe_tup (pa_cons (pe_tup (pa_cons pe_str (pa_cons (pv 3) pa_nil))) (pa_cons pe_int (pa_cons pe_int pa_nil)))))))) pss_nil)
      (pss_cons (ps_if (pt_cmpR (op_in_kd D) (pv 1) (pe_glob (v := .ref dT) rfl gT rfl) (by rfl)) (pss_one (ps_ret (pe_tup (pa_cons (pe_tup (pa_cons (pv 1) pa_nil)) (pa_cons (pe_ix ix_kdict (pe_glob (v := .ref dT) rfl gT rfl) (pv 1) (fun _ _ => rfl)) (pa_cons (pe_ix ix_kdict (pe_glob (v := .ref dT) rfl gT rfl) (pv 1) (fun _ _ => rfl)) pa_nil)))))) pss_nil)
      (pss_one (ps_ret (pe_tup (pa_cons (pe_tup (pa_cons pe_str (pa_cons (pv 1) pa_nil))) (pa_cons pe_int (pa_cons pe_int pa_nil)))))))), ?_⟩
    obtain ⟨dx, e0⟩ := hS.ex
    have tup2 : ∀ {J : Hp} {bg' : List V} {few' : Int} {most' : V} {b : Addr}, Bt [S] H J → True := fun _ => trivial
    cases hb with
    | @fail n r nb =>
      have hl' : Lf T p (cl n ++ (41 :: r)) := hl
      refine ⟨_, rfl, rfl, _, rfl, ?_⟩
      refine iteT ?_
      refine ⟨_, rfl, S, dx, _, rfl, e0, rfl, S, T, p, n, 41 :: r, rfl, hS, hl', nb, (stop41 r).nol, fun H1 B1 hS1 => ?_⟩
      obtain ⟨dx1, e1⟩ := hS1.ex
      have hl1 : Lf T (p + (cl n).length) (cl ")" ++ r) := hl'.skip
      refine ⟨_, rfl, S, dx1, _, rfl, e1, rfl, S, T, _, ")", r, rfl, hS1, hl1, fun H2 B2' hS2 => ?_⟩
      refine ⟨_, rfl, by show 2 ≤ sizeLine; decide, fun b nb' => ?_⟩
      obtain ⟨H3, s3, h3, q3⟩ := lay (o := .tup [.str "fail", .str n]) nb'
      rw [q3]
      refine ⟨by show 3 ≤ sizeLine; decide, fun t nt => ?_⟩
      obtain ⟨H4, s4, h4, q4⟩ := lay (o := .tup [.ref b, .int 0, .non]) nt
      rw [q4]
      have e2 := hS2.ex
      refine q t b H4 ((B1.trans B2').trans (bt_of (s3.trans s4))) ⟨let ⟨d, e⟩ := e2; ⟨d, (s3.trans s4) _ _ e⟩⟩ h4 (s4 _ _ h3)
    | @bind n r nb =>
      have hl' : Lf T p (cl n ++ (44 :: 32 :: r)) := hl
      refine ⟨_, rfl, rfl, _, rfl, ?_⟩
      refine iteF ?_
      refine ⟨_, rfl, rfl, _, rfl, ?_⟩
      refine iteT ?_
      refine ⟨_, rfl, S, dx, _, rfl, e0, rfl, S, T, p, n, 44 :: 32 :: r, rfl, hS, hl', nb, (fun c t e l => by cases e; unfold ltr at l; omega), fun H1 B1 hS1 => ?_⟩
      obtain ⟨dx1, e1⟩ := hS1.ex
      have hl1 : Lf T (p + (cl n).length) (cl ", " ++ r) := hl'.skip
      refine ⟨_, rfl, S, dx1, _, rfl, e1, rfl, S, T, _, ", ", r, rfl, hS1, hl1, fun H2 B2' hS2 => ?_⟩
      refine ⟨_, rfl, by show 2 ≤ sizeLine; decide, fun b nb' => ?_⟩
      obtain ⟨H3, s3, h3, q3⟩ := lay (o := .tup [.str "bind", .str n]) nb'
      rw [q3]
      refine ⟨by show 3 ≤ sizeLine; decide, fun t nt => ?_⟩
      obtain ⟨H4, s4, h4, q4⟩ := lay (o := .tup [.ref b, .int 2, .int 2]) nt
      rw [q4]
      have e2 := hS2.ex
      refine q t b H4 ((B1.trans B2').trans (bt_of (s3.trans s4))) ⟨let ⟨d, e⟩ := e2; ⟨d, (s3.trans s4) _ _ e⟩⟩ h4 (s4 _ _ h3)
    | @op wd m r hm =>
      have nw : wd ≠ "fail" ∧ wd ≠ "bind" := (show ∀ q ∈ opsW, q.1 ≠ "fail" ∧ q.1 ≠ "bind" by decide) _ hm
      obtain ⟨hk2, u, hu⟩ := hT _ hm
      refine ⟨_, rfl, rfl, _, rfl, ?_⟩
      rw [decS, decide_eq_false nw.1]
      refine iteF ?_
      refine ⟨_, rfl, rfl, _, rfl, ?_⟩
      rw [decS, decide_eq_false nw.2]
      refine iteF ?_
      refine ⟨_, rfl, wd, some u, rfl, rfl, hu, true, rfl, ?_⟩
      refine iteT ?_
      refine ⟨_, rfl, by show 1 ≤ sizeLine; decide, fun b nb' => ?_⟩
      obtain ⟨H3, s3, h3, q3⟩ := lay (o := .tup [.str wd]) nb'
      rw [q3]
      refine ⟨_, rfl, dT, wd, _, rfl, rfl, hk2, _, rfl, dT, wd, _, rfl, rfl, hk2, by show 3 ≤ sizeLine; decide, fun t nt => ?_⟩
      obtain ⟨H4, s4, h4, q4⟩ := lay (o := .tup [.ref b, .int (m : Int), .int (m : Int)]) nt
      rw [q4]
      refine q t b H4 (bt_of (s3.trans s4)) ⟨dx, (s3.trans s4) _ _ e0⟩ h4 (s4 _ _ h3)
    | @use wd r hn hw =>
      have nw : wd ≠ "fail" ∧ wd ≠ "bind" := ⟨fun e => hw (by rw [e]; decide +kernel), fun e => hw (by rw [e]; decide +kernel)⟩
      refine ⟨_, rfl, rfl, _, rfl, ?_⟩
      rw [decS, decide_eq_false nw.1]
      refine iteF ?_
      refine ⟨_, rfl, rfl, _, rfl, ?_⟩
      rw [decS, decide_eq_false nw.2]
      refine iteF ?_
      refine ⟨_, rfl, wd, none, rfl, rfl, hno _ hn hw, false, rfl, ?_⟩
      refine iteF ?_
      refine ⟨_, rfl, by show 2 ≤ sizeLine; decide, fun b nb' => ?_⟩
      obtain ⟨H3, s3, h3, q3⟩ := lay (o := .tup [.str "use", .str wd]) nb'
      rw [q3]
      refine ⟨by show 3 ≤ sizeLine; decide, fun t nt => ?_⟩
      obtain ⟨H4, s4, h4, q4⟩ := lay (o := .tup [.ref b, .int 0, .int 2]) nt
      rw [q4]
      refine q t b H4 (bt_of (s3.trans s4)) ⟨dx, (s3.trans s4) _ _ e0⟩ h4 (s4 _ _ h3)
end
end K27
set_option Elab.async false
set_option linter.all false
set_option autoImplicit false
set_option maxRecDepth 100000
set_option maxHeartbeats 4000000
/-! a text times 0 or 1 -/
namespace GB
open PySem PySem.Spec L2
def rStr01 : R2 := fun x y H Q => ∃ (a : Str) (k : Int), x = .str a ∧ y = .int k ∧ (k = 0 ∨ k = 1) ∧ a.length ≤ sizeLine ∧ Q (.str (if k = 1 then a else Str.empty)) H
theorem op_str01 {X : Cx} : OpR X (binaryOp .Mult) rStr01 := by
  intro pins s σ H x y v u Q I rx ry h
  obtain ⟨a, k, rfl, rfl, hk, hz, q⟩ := h
  obtain ⟨t, rfl⟩ := rx
  obtain ⟨t', rfl⟩ := ry
  rcases hk with rfl | rfl
  · exact P.mul_str_none (by decide) (by decide) ⟨.str Str.empty, H, I.tok _, ⟨_, rfl⟩, q⟩
  · refine P.mul_str (by decide) (fun _ h => by simp at h) (fun _ h => by simp at h) ?_
    rw [if_neg (by decide), if_pos (by simp)]
    exact ⟨.str a, H, I, ⟨_, rfl⟩, q⟩
end GB
set_option Elab.async false
set_option linter.all false
set_option autoImplicit false
set_option maxRecDepth 100000
set_option maxHeartbeats 8000000
namespace K27
open PySem PySem.Spec L2 GB
abbrev sLt : Stmt := topS 51
def ltN : List Str := ["_law_term_here", "_law_word", "_law_is_word", "_law_begin", "_law_inner", "_law_part"]
def spLt (K : PySem.W.Frag) (z : Nat) : Sp := fun vs H Q _ => ∃ (v : V) (L : List (Str × Nat)) (ns : List Str) (t : GB.Tm), vs = [v] ∧ Dp K H v t.d ∧ (∀ q ∈ L, nameB q.1 = true) ∧ TmOk L ns t ∧ t.size ≤ z ∧ z ≤ 60 ∧ ∀ H', Same H H' → Q (.str (txS t)) H'
theorem headOp {L : List (Str × Nat)} {ns : List Str} {w n : Str} {m m' : Nat} (h : HeadOk L ns w n m) (ho : (w, m') ∈ opsW) : (w, m) ∈ opsW ∧ n = "" := by
  have : ∀ q ∈ opsW, q.1 ≠ "value" ∧ q.1 ≠ "name" ∧ q.1 ≠ "fail" ∧ q.1 ≠ "use" ∧ q.1 ≠ "bind" := by decide
  have := this _ ho
  cases h with
  | op h => exact ⟨h, rfl⟩
  | val _ => exact absurd rfl this.1
  | name _ _ => exact absurd rfl this.2.1
  | fail _ => exact absurd rfl this.2.2.1
  | use _ => exact absurd rfl this.2.2.2.1
  | bind _ _ => exact absurd rfl this.2.2.2.2
section
variable {P : Program} {w : World} {K : PySem.W.Frag} {mg : Str → Option Value} {base : Heap}
theorem scLt : FnScope ltN ["_law_term_here"] (defScope sLt) := ⟨rfl, rfl, rfl, by decide +kernel, rfl, by decide +kernel, by decide +kernel⟩
theorem lt_lc {z : Nat} {J : It} {σ : L2.St} {H1 : Hp} {D q : Addr} {vs : List V} {kb : Bool} {ks : List GB.Tm} {L : List (Str × Nat)} {Qd : Hp → Prop}
    (hσ : ∀ v, wipe ((wipe σ [5]).set 5 (some v)) [5] = wipe σ [5] ∧ ((wipe σ [5]).set 5 (some v))[5]? = some (some v))
    (nD : H1 D = none) (WJ : Walk J vs.length (fun H => SqV K (hid [] H) q vs kb) (YAt vs)) (hq : SqV K (hid [] H1) q vs kb) (hd : DpAll K H1 vs (ks.map GB.Tm.d)) (hL : ∀ q ∈ L, nameB q.1 = true) (ho : ∀ k ∈ ks, ∃ ns, TmOk L ns k) (hz : GB.Tm.sizes ks ≤ z) (hz2 : z ≤ 60)
    (done : ∀ H', Same H1 H' → H' D = some (.lst (ks.map fun k => V.str (txS k))) → Qd H') :
    ∃ W : Nat → Nat → Hp → Prop, (∃ m, W 0 m (upd H1 D (.lst []))) ∧ ∀ i m H, W i m H →
      (J.stop i H ∧ Qd H) ∨ (J.go i H ∧ ∃ Nx : Hp → Prop, (∀ H', Nx H' → ∃ m', m' < m ∧ W (i + 1) m' H') ∧ ∀ x H', J.yld i H x H' → gName 5 x (wipe σ [5]) H' fun σ2 H2 => wipe σ2 [5] = wipe σ [5] ∧ tYes σ2 H2 fun b H3 =>
        if b = true then tCall (spLt K z) [] E0 (tCons (tVar 5) tNil) σ2 H3 fun y H4 => ∃ acc, H4 D = some (.lst acc) ∧ acc.length < sizeLine ∧ Nx (upd H4 D (.lst (acc ++ [y]))) else Nx H3) := by
  have hvl : vs.length = ks.length := (dps_len hd).trans (List.length_map _)
  have h0 : ∀ {A B : Hp}, Same A B → Same (hid [] A) (hid [] B) := fun s => hid_same s
  refine lc_it WJ (fun i H' => Same H1 H' ∧ H' D = some (.lst ((ks.take i).map fun k => V.str (txS k)))) ⟨same_new nD, upd_same⟩ (fun i H' _ h => hq.mono (h0 h.1)) ?_ ?_
  · rintro i y H2 H2' hi ⟨s2, hD⟩ ⟨rfl, hyi⟩
    obtain ⟨w1, w2⟩ := hσ y
    refine ⟨w1, ?_⟩
    obtain ⟨d, hdi, Dy⟩ := dps_at hd hyi
    rw [List.getElem?_map] at hdi
    have hik : i < ks.length := by omega
    have hki : ks[i]? = some ks[i] := List.getElem?_eq_getElem hik
    rw [hki] at hdi
    obtain rfl := Option.some.inj hdi
    obtain ⟨ns, o⟩ := ho _ (List.getElem_mem hik)
    have hsz := sizes_mem (List.mem_of_getElem? hki)
    have hll := len_sizes ks
    refine ⟨_, w2, y, L, ns, ks[i], rfl, dp_mono s2 Dy, hL, o, by omega, hz2, fun H3 s3 => ?_⟩
    refine ⟨_, s3 _ _ hD, by rw [List.length_map, List.length_take, sizeLine_eq]; omega, fun b o e => ?_, ?_⟩
    · rw [upd_ne (ne_of_none e nD)]; exact s3 _ _ (s2 _ _ e)
    · rw [upd_same, take_at hki, List.map_append]
      rfl
  · rintro H3 ⟨s3, hD⟩
    rw [List.take_of_length_le (by omega)] at hD
    exact done H3 s3 hD
theorem ok_lt {f : Addr} {fd : FuncData} (F : Fun K "_law_text" "_law_text" sLt f fd) (T : Bl mg) (mgF : mg "_law_text" = some (.ref f)) (kF : PySem.W.keepIn K (.ref f) = true) (bF : Binds K fd ["_law_term_here"] []) : ∀ z : Nat, FnOk P w K mg base CX0 (1 + z) f fd ["_law_term_here"] (spLt K z) := by
  intro z
  induction z with
  | zero =>
    refine F.ok scLt (fun vs H Q E h => ?_) (fun cdv A outer s H vs Q E hr h => ?_)
    · obtain ⟨v, L, ns, t, rfl, _⟩ := h
      rfl
    · obtain ⟨v, L, ns, t, rfl, _, _, _, h, _⟩ := h
      exact absurd h (by have := size_pos t; omega)
  | succ z ih =>
    have LT : Fns P w K mg base "_law_text" (1 + z) ["_law_term_here"] (spLt K z) := ⟨f, fd, ih, mgF, kF, bF⟩
    refine F.ok scLt (fun vs H Q E h => ?_) (fun cdv A outer s H vs Q E hr h => ?_)
    · obtain ⟨v, L, ns, t, rfl, _⟩ := h
      rfl
    · obtain ⟨v, L, ns, t, rfl, hd, hL, ho, hz, hz2, q⟩ := h
      have lz : 1 + z ≤ 1 + z := by omega
      refine ⟨_, pss_cons (ps_set (i := 1) scLt.nd rfl (.inl rfl) (pe_ix ix_seq (pv 0) (pe_int) (fun _ _ => rfl))) (pss_cons (ps_if (pt_cmpR op_eq (pv 1) (pe_str) (nomark _)) (pss_one (ps_ret (pe_ix ix_seq (pv 0) (pe_int) (fun _ _ => rfl)))) (pss_nil)) (pss_cons (ps_if (pt_cmpR op_eq (pv 1) (pe_str) (nomark _)) (pss_one (ps_ret (pe_op op_add_str (pe_str) (pe_ix ix_seq (pv 0) (pe_int) (fun _ _ => rfl))))) (pss_nil)) (pss_cons (ps_if (pt_cmpR op_eq (pv 1) (pe_str) (nomark _)) (pss_one (ps_ret (pe_op op_add_str (pe_op op_add_str (pe_str) (pe_ix ix_seq (pv 0) (pe_int) (fun _ _ => rfl))) (pe_str)))) (pss_nil)) (pss_cons (ps_if (pt_cmpR op_eq (pv 1) (pe_str) (nomark _)) (pss_cons (ps_set (i := 2) scLt.nd rfl (.inl rfl) (pe_cmpR op_in_seq (pe_ix ix_seq (pv 0) (pe_int) (fun _ _ => rfl)) (pe_tup (pa_cons (pe_str) (pa_cons (pe_str) (pa_cons (pe_str) (pa_cons (pe_str) (pa_cons (pe_str) (pa_cons (pe_str) (pa_cons (pe_str) (pa_cons (pe_str) (pa_cons (pe_str) (pa_nil))))))))))) (by rfl))) (pss_one (ps_ret (pe_op op_add_str (pe_op op_add_str (pe_op op_add_str (pe_op op_add_str (pe_op op_str01 (pe_str) (pe_callTy (call_int1) (by rfl) T.int (by decide +kernel) (pa_cons (pv 2) (pa_nil)))) (pe_ix ix_seq (pv 0) (pe_int) (fun _ _ => rfl))) (pe_str)) (pe_join pe_str (pe_lc (own := [("_law_part", 5)]) (g := gName 5) (tt := tYes) rfl scLt.nd (pi_seqW (pe_ix ix_seq (pv 0) (pe_int) (fun _ _ => rfl))) (blkOk_by (own := [("_law_part", 5)]) (N := ltN) (sc := defScope sLt) (by decide +kernel)) (fun _ _ _ _ _ => pg_name (i := 5) scLt.nd rfl (.inl rfl)) (fun _ _ _ _ _ => pts_nil) (fun _ _ _ _ _ => pe_fn LT hr lz rfl (pa_cons (pv 5) (pa_nil)))))) (pe_str))))) (pss_nil)) (pss_cons (ps_set (i := 3) scLt.nd rfl (.inl rfl) (pe_op op_add (pe_int) (pe_callTy (call_int1) (by rfl) T.int (by decide +kernel) (pa_cons (pe_cmpR op_eq (pv 1) (pe_str) (nomark _)) (pa_nil))))) (pss_cons (ps_set (i := 4) scLt.nd rfl (.inl rfl) (pe_op op_cat (pe_op op_rep (pe_lst (pa_cons (pe_ix ix_seq (pv 0) (pe_int) (fun _ _ => rfl)) (pa_nil))) (pe_callTy (call_int1) (by rfl) T.int (by decide +kernel) (pa_cons (pe_cmpR op_eq (pv 1) (pe_str) (nomark _)) (pa_nil)))) (pe_lc (own := [("_law_part", 5)]) (g := gName 5) (tt := tYes) rfl scLt.nd (pi_seqW (pe_slice sl_any (pv 0) (po_some (pv 3)) po_none)) (blkOk_by (own := [("_law_part", 5)]) (N := ltN) (sc := defScope sLt) (by decide +kernel)) (fun _ _ _ _ _ => pg_name (i := 5) scLt.nd rfl (.inl rfl)) (fun _ _ _ _ _ => pts_nil) (fun _ _ _ _ _ => pe_fn LT hr lz rfl (pa_cons (pv 5) (pa_nil)))))) (pss_one (ps_ret (pe_op op_add_str (pe_op op_add_str (pe_op op_add_str (pv 1) (pe_str)) (pe_join pe_str (pv 4))) (pe_str)))))))))), ?_⟩
      cases ho with
      | @mk _ wd nm ks hH hK =>
      obtain ⟨p, vs, rfl, hV, hvd⟩ := nodeV hd (nodeD_own hH)
      have hvl : vs.length = ks.length := (dps_len hvd).trans (List.length_map _)
      have hks : ∀ k ∈ ks, ∃ ns, TmOk L ns k := fun k hk => by
        obtain ⟨i, hi⟩ := List.mem_iff_getElem?.mp hk
        exact ⟨_, hK i k hi⟩
      obtain ⟨lA, lR⟩ := txs_len hL ks hks
      rw [GB.Tm.size] at hz
      have fin : ∀ {r : Str} {H1 : Hp}, Same H H1 → cl r = txL (.mk wd nm ks) → Q (.str r) H1 := fun {r H1} s e => by rw [eq_txS e]; exact q H1 s
      have leaf : ∀ {x : Str}, wd = x → x ∈ nmd → vs = [] → SqA K H p [.str wd, .str nm] ∧ ks = [] ∧ nameB nm = true := fun {x} e hx hv => by
        subst hv
        have k0 : ks = [] := List.eq_nil_of_length_eq_zero hvl.symm
        have no : wd ∉ opsW.map (·.1) := by rw [e]; exact (show ∀ y ∈ nmd, y ∉ opsW.map (·.1) by decide) _ hx
        refine ⟨?_, k0, nameB_of hL hH no⟩
        rcases hV.kind with ⟨hw, _, hs⟩ | ⟨h, _⟩ | ⟨h, _⟩ | ⟨⟨m, h⟩, _⟩
        · exact hs
        · exact absurd (e.symm.trans h ▸ hx) (by decide)
        · exact absurd (e.symm.trans h ▸ hx) (by decide)
        · exact absurd (List.mem_map.mpr ⟨_, h, rfl⟩) no
      have l8 : ∀ {x : Str}, nameB x = true → x.length ≤ 8 := fun h => by rw [cl_len]; exact (nameB_ltr h).2.2
      have e0 : cl Str.empty = [] := rfl
      have e0l : (cl Str.empty).length = 0 := rfl
      have e1 : (cl "(").length = 1 := by decide +kernel
      have e2 : (cl ")").length = 1 := by decide +kernel
      have lsum := sum_len hL ks hks
      have lks := len_sizes ks
      have lc : ∀ {x : Str}, nameB x = true → (cl x).length ≤ 8 := fun h => (nameB_ltr h).2.2
      have wdn : (cl nm).length ≤ 8 ∨ (wd ∈ opsW.map (·.1)) := by
        by_cases c : wd ∈ opsW.map (·.1)
        · exact .inr c
        · exact .inl (lc (nameB_of hL hH c))
      rcases hV.kind with ⟨hw, hv0, hs⟩ | ⟨rfl, qq, hs, hq⟩ | ⟨rfl, hs⟩ | ⟨⟨m, hm⟩, rfl, hs⟩
      · have : ∀ x ∈ nmd, x = "value" ∨ x = "name" ∨ x = "fail" := by decide
        rcases this _ hw with rfl | rfl | rfl
        · obtain ⟨_, rfl, nb⟩ := leaf rfl hw hv0
          have := l8 nb
          refine ⟨_, rfl, ixA hs 0 rfl ⟨_, rfl, rfl, _, rfl, ?_⟩⟩
          refine iteF ?_
          refine ⟨_, rfl, rfl, _, rfl, ?_⟩
          refine iteT ?_
          refine ⟨_, rfl, ixA hs 1 rfl ⟨_, _, rfl, rfl, by show 1 + nm.length ≤ sizeLine; rw [sizeLine_eq]; omega, ?_⟩⟩
          exact fin (Same.refl _) (by rw [cl_app, txL, if_pos rfl]; rfl)
        · obtain ⟨_, rfl, nb⟩ := leaf rfl hw hv0
          refine ⟨_, rfl, ixA hs 0 rfl ⟨_, rfl, rfl, _, rfl, ?_⟩⟩
          refine iteT ?_
          refine ⟨_, rfl, ixA hs 1 rfl ?_⟩
          exact fin (Same.refl _) (by rw [txL, if_neg (by decide), if_pos rfl])
        · obtain ⟨_, rfl, nb⟩ := leaf rfl hw hv0
          have := l8 nb
          have lf : ("fail(" : Str).length = 5 := by decide +kernel
          have lp : (")" : Str).length = 1 := by decide +kernel
          refine ⟨_, rfl, ixA hs 0 rfl ⟨_, rfl, rfl, _, rfl, ?_⟩⟩
          refine iteF ?_
          refine ⟨_, rfl, rfl, _, rfl, ?_⟩
          refine iteF ?_
          refine ⟨_, rfl, rfl, _, rfl, ?_⟩
          refine iteT ?_
          refine ⟨_, rfl, ixA hs 1 rfl ⟨_, _, rfl, rfl, by rw [lf, sizeLine_eq]; omega, _, _, rfl, rfl, ?_, ?_⟩⟩
          · rw [cl_len, cl_app, List.length_append, ← cl_len, ← cl_len, lf, lp, sizeLine_eq]
            omega
          · refine fin (Same.refl _) ?_
            rw [cl_app, cl_app, txL, if_neg (by decide), if_neg (by decide), if_pos rfl]
            have e : cl "fail(" = cl "fail" ++ [40] := by decide +kernel
            rw [e, List.append_assoc, List.append_assoc]
            rfl
      · have nb : nameB nm = true := nameB_of hL hH (by decide)
        have ln := lc nb
        refine ⟨_, rfl, ixA hs 0 rfl ⟨_, rfl, rfl, _, rfl, ?_⟩⟩
        refine iteF ?_
        refine ⟨_, rfl, rfl, _, rfl, ?_⟩
        refine iteF ?_
        refine ⟨_, rfl, rfl, _, rfl, ?_⟩
        refine iteF ?_
        refine ⟨_, rfl, rfl, _, rfl, ?_⟩
        refine iteT ?_
        refine ⟨_, rfl, ixA hs 1 rfl ⟨by show 9 ≤ sizeLine; decide, fun tt ntt => ?_⟩⟩
        obtain ⟨H0, s0, h0, q0⟩ := lay (o := .tup [.str "if", .str "and", .str "or", .str "not", .str "then", .str "bind", .str "try", .str "last", .str "fail"]) ntt
        rw [q0]
        have h0' : SqT K H0 tt (sts wdsW) := SqT.of h0
        have hs0 := hs.mono s0
        refine ⟨tt, sts wdsW, rfl, .inr h0', rfl, flat_sts _, ?_⟩
        rw [show (if false = true then !inV (.str nm) (sts wdsW) else inV (.str nm) (sts wdsW)) = decide (nm ∈ wdsW) from inV_sts nm wdsW]
        have ld : ∀ k : Int, (if k = 1 then (("." : Str)) else Str.empty).length ≤ 1 := fun k => by split <;> decide +kernel
        obtain ⟨dt, hdt, cdt⟩ : ∃ dt : Str, dt = (if ((if decide (nm ∈ wdsW) = true then 1 else 0) : Int) = 1 then (("." : Str)) else Str.empty) ∧ cl dt = if nm ∈ wdsW then [46] else [] := by
          refine ⟨_, rfl, ?_⟩
          by_cases c : nm ∈ wdsW
          · rw [decide_eq_true c, if_pos rfl, if_pos rfl, if_pos c]; rfl
          · rw [decide_eq_false c, if_neg (by decide), if_neg c]; rfl
        have ldt : (cl dt).length ≤ 1 := by rw [cdt]; split <;> decide
        refine ⟨_, rfl, .inr ⟨_, rfl, ⟨_, _, rfl, rfl, (by split <;> simp), by decide +kernel, ?_⟩⟩⟩
        rw [← hdt]
        refine ⟨_, rfl, ixA hs0 1 rfl ⟨_, _, rfl, rfl, by rw [cl_len, cl_len, sizeLine_eq]; omega, ?_⟩⟩
        refine ⟨_, _, rfl, rfl, by rw [cl_len, cl_len, cl_app, List.length_append, sizeLine_eq]; omega, ?_⟩
        obtain ⟨kb, hqv⟩ := sqV ((hq.mono s0).mono (fun b o e => hid_to (ps := []) (by simp) e))
        refine ⟨⟨_, rfl⟩, _, rfl, ixA hs0 2 rfl ⟨qq, vs, kb, [], rfl, hqv, fun J WJ D nD => ?_⟩⟩
        refine lt_lc (L := L) (fun _ => ⟨rfl, rfl⟩) nD WJ hqv (dps_mono s0 hvd) hL hks (by omega) (by omega) fun H2 s2 hD => ?_
        have lj : (cl (Txt.join ", " (ks.map txS))).length ≤ 1300 := by rw [cl_join]; omega
        have ty : SqL K H2 D ((ks.map txS).map V.str) := by
          rw [List.map_map]
          exact SqL.of hD
        refine ⟨_, D, ks.map txS, rfl, rfl, .inl ty, ?_, _, _, rfl, rfl, ?_, _, _, rfl, rfl, ?_, ?_⟩
        all_goals try simp only [cl_len, cl_app, List.length_append, sizeLine_eq]
        all_goals try omega
        · have e1 : ((ks.map txS).map fun x => (cl x).length) = (ks.map txS).map (·.length) := by
            congr 1
          rw [e1, List.length_map]
          have : (cl ", ").length = 2 := by decide +kernel
          rw [this]
          omega
        · refine fin (s0.trans s2) ?_
          rw [cl_app, cl_app, cl_app, cl_app, cl_join, cdt]
          conv => rhs; rw [txL, if_neg (by decide), if_neg (by decide), if_neg (by decide), if_pos rfl]
          simp only [List.append_assoc]
          rfl
      · have nb : nameB nm = true := nameB_of hL hH (by decide)
        have ln := lc nb
        refine ⟨_, rfl, ixA hs 0 rfl ⟨_, rfl, rfl, _, rfl, ?_⟩⟩
        refine iteF ?_
        refine ⟨_, rfl, rfl, _, rfl, ?_⟩
        refine iteF ?_
        refine ⟨_, rfl, rfl, _, rfl, ?_⟩
        refine iteF ?_
        refine ⟨_, rfl, rfl, _, rfl, ?_⟩
        refine iteF ?_
        refine ⟨_, rfl, rfl, .inr ⟨_, rfl, _, _, rfl, rfl, ?_⟩⟩
        refine ⟨_, rfl, ixA hs 1 rfl ⟨by show 1 ≤ sizeLine; decide, fun l0 nl0 => ?_⟩⟩
        obtain ⟨H0, s0, h0, q0⟩ := lay (o := .lst [.str nm]) nl0
        rw [q0]
        rw [decS, decide_eq_true rfl, if_pos rfl]
        have ek : (if decide (V.str ("bind" : Str) = V.str "bind") = true then (1 : Int) else 0) = 1 := by rw [decS, decide_eq_true rfl, if_pos rfl]
        refine ⟨_, rfl, rfl, .inr ⟨_, rfl, l0, _, _, rfl, rfl, h0, by rw [ek]; decide, by rw [ek]; decide, by rw [ek]; show 1 * 1 ≤ sizeLine; decide, fun l1 nl1 => ?_⟩⟩
        obtain ⟨H1, s1, h1, q1⟩ := lay (o := .lst [.str nm]) nl1
        rw [ek, show (List.replicate (Int.toNat 1) [V.str nm]).flatten = [V.str nm] from rfl, q1]
        refine ⟨_, rfl, _, rfl, _, rfl, slH (ps := []) (fun q h => nomatch h) (((hs.mono s0).mono s1).mono (fun b o e => hid_to (ps := []) (by simp) e)) 2 fun b H2 s2 hb => ?_⟩
        obtain ⟨kb, hqv⟩ := sqV hb
        refine ⟨b, vs, kb, [], rfl, hqv, fun J WJ D nD => ?_⟩
        refine lt_lc (L := L) (fun _ => ⟨rfl, rfl⟩) nD WJ hqv (dps_mono ((s0.trans s1).trans s2) hvd) hL hks (by omega) (by omega) fun H3 s3 hD => ?_
        have hl1 := s3 _ _ (s2 _ _ h1)
        refine ⟨l1, D, _, _, rfl, rfl, hl1, hD, by rw [List.length_map, sizeLine_eq]; show 1 + ks.length ≤ 16777216; omega, fun l2 nl2 => ?_⟩
        obtain ⟨H4, s4, h4, q4⟩ := lay (o := .lst ([.str nm] ++ ks.map fun k => V.str (txS k))) nl2
        rw [q4]
        have lj : (cl (Txt.join ", " (nm :: ks.map txS))).length ≤ 1300 := by rw [cl_join1, List.length_append]; omega
        have l4 : (cl "bind").length = 4 := by decide +kernel
        have ty : SqL K H4 l2 ((nm :: ks.map txS).map V.str) := by
          rw [List.map_cons, List.map_map]
          exact SqL.of h4
        refine ⟨_, rfl, _, _, rfl, rfl, by decide +kernel, ⟨_, rfl⟩, _, rfl, _, l2, nm :: ks.map txS, rfl, rfl, .inl ty, ?_, _, _, rfl, rfl, ?_, _, _, rfl, rfl, ?_, ?_⟩
        all_goals try simp only [cl_len, cl_app, List.length_append, sizeLine_eq]
        all_goals try omega
        · have e1 : ((nm :: ks.map txS).map fun x => (cl x).length) = (nm :: ks.map txS).map (·.length) := by
            congr 1
          rw [e1, List.length_cons, List.length_map, List.map_cons, List.sum_cons, cl_len]
          have : (cl ", ").length = 2 := by decide +kernel
          rw [this]
          omega
        · refine fin ((((s0.trans s1).trans s2).trans s3).trans s4) ?_
          rw [cl_app, cl_app, cl_app, cl_join1, txL, if_neg (by decide), if_neg (by decide), if_neg (by decide), if_neg (by decide), if_pos rfl]
          simp only [List.append_assoc]
          rfl
      · obtain ⟨n1, n2, n3⟩ := ops_no _ hm
        have n1 : wd ∉ nmd := n1
        have nv : wd ≠ "value" ∧ wd ≠ "name" ∧ wd ≠ "fail" := ⟨fun e => n1 (by rw [e]; decide), fun e => n1 (by rw [e]; decide), fun e => n1 (by rw [e]; decide)⟩
        have lw : (cl wd).length ≤ 5 := (show ∀ q ∈ opsW, (cl q.1).length ≤ 5 by decide +kernel) _ hm
        have hpos : 0 < ks.length := (show ∀ q ∈ opsW, 0 < q.2 by decide) _ (headOp hH hm).1
        obtain ⟨v0, vr, rfl⟩ : ∃ v0 vr, vs = v0 :: vr := by
          cases vs with
          | nil => simp at hvl; omega
          | cons a b => exact ⟨a, b, rfl⟩
        refine ⟨_, rfl, ixA hs 0 rfl ⟨_, rfl, rfl, _, rfl, ?_⟩⟩
        rw [decS, decide_eq_false nv.2.1]
        refine iteF ?_
        refine ⟨_, rfl, rfl, _, rfl, ?_⟩
        rw [decS, decide_eq_false nv.1]
        refine iteF ?_
        refine ⟨_, rfl, rfl, _, rfl, ?_⟩
        rw [decS, decide_eq_false nv.2.2]
        refine iteF ?_
        refine ⟨_, rfl, rfl, _, rfl, ?_⟩
        rw [decS, decide_eq_false n2]
        refine iteF ?_
        refine ⟨_, rfl, rfl, .inr ⟨_, rfl, _, _, rfl, rfl, ?_⟩⟩
        refine ⟨_, rfl, ixA hs 1 rfl ⟨by show 1 ≤ sizeLine; decide, fun l0 nl0 => ?_⟩⟩
        obtain ⟨H0, s0, h0, q0⟩ := lay (o := .lst [v0]) nl0
        rw [q0]
        rw [decS, decide_eq_false n3, if_neg (by decide)]
        have ek : (if decide (V.str wd = V.str "bind") = true then (1 : Int) else 0) = 0 := by rw [decS, decide_eq_false n3, if_neg (by decide)]
        refine ⟨_, rfl, rfl, .inr ⟨_, rfl, l0, _, _, rfl, rfl, h0, by rw [ek]; decide, by rw [ek]; decide, by rw [ek]; show 1 * 0 ≤ sizeLine; decide, fun l1 nl1 => ?_⟩⟩
        obtain ⟨H1, s1, h1, q1⟩ := lay (o := .lst []) nl1
        rw [ek, show (List.replicate (Int.toNat 0) [v0]).flatten = [] from rfl, q1]
        refine ⟨_, rfl, _, rfl, _, rfl, slH (ps := []) (fun q h => nomatch h) (((hs.mono s0).mono s1).mono (fun b o e => hid_to (ps := []) (by simp) e)) 1 fun b H2 s2 hb => ?_⟩
        obtain ⟨kb, hqv⟩ := sqV hb
        refine ⟨b, v0 :: vr, kb, [], rfl, hqv, fun J WJ D nD => ?_⟩
        refine lt_lc (L := L) (fun _ => ⟨rfl, rfl⟩) nD WJ hqv (dps_mono ((s0.trans s1).trans s2) hvd) hL hks (by omega) (by omega) fun H3 s3 hD => ?_
        have hl1 := s3 _ _ (s2 _ _ h1)
        refine ⟨l1, D, _, _, rfl, rfl, hl1, hD, by rw [List.length_map, sizeLine_eq]; show 0 + ks.length ≤ 16777216; omega, fun l2 nl2 => ?_⟩
        obtain ⟨H4, s4, h4, q4⟩ := lay (o := .lst ([] ++ ks.map fun k => V.str (txS k))) nl2
        rw [q4]
        have lj : (cl (Txt.join ", " (ks.map txS))).length ≤ 1300 := by rw [cl_join]; omega
        have ty : SqL K H4 l2 ((ks.map txS).map V.str) := by
          rw [List.map_map]
          exact SqL.of h4
        refine ⟨_, rfl, _, _, rfl, rfl, by rw [cl_len, cl_len, sizeLine_eq]; omega, ⟨_, rfl⟩, _, rfl, _, l2, ks.map txS, rfl, rfl, .inl ty, ?_, _, _, rfl, rfl, ?_, _, _, rfl, rfl, ?_, ?_⟩
        all_goals try simp only [cl_len, cl_app, List.length_append, sizeLine_eq]
        all_goals try omega
        · have e1 : ((ks.map txS).map fun x => (cl x).length) = (ks.map txS).map (·.length) := by
            congr 1
          rw [e1, List.length_map]
          have : (cl ", ").length = 2 := by decide +kernel
          rw [this]
          omega
        · refine fin ((((s0.trans s1).trans s2).trans s3).trans s4) ?_
          rw [cl_app, cl_app, cl_app, cl_join, txL, if_neg nv.1, if_neg nv.2.1, if_neg nv.2.2, if_neg n2, if_neg n3]
          simp only [List.append_assoc]
          rfl
end
end K27
set_option Elab.async false
set_option linter.all false
set_option autoImplicit false
set_option maxRecDepth 100000
set_option maxHeartbeats 8000000
namespace K27
open PySem PySem.Spec L2 GB
inductive Bgn : GB.Tm → List V → Int → V → Prop
  | leaf {w n : Str} : w ∈ nmd → Bgn (.mk w n []) [.str w, .str n] 0 .non
  | use {n : Str} {ks : List GB.Tm} : Bgn (.mk "use" n ks) [.str "use", .str n] 0 (.int 2)
  | bind {n : Str} {ks : List GB.Tm} : ks.length = 2 → Bgn (.mk "bind" n ks) [.str "bind", .str n] 2 (.int 2)
  | op {w : Str} {m : Nat} {ks : List GB.Tm} : (w, m) ∈ opsW → ks.length = m → Bgn (.mk w "" ks) [.str w] (m : Int) (.int (m : Int))
def kidsOf : GB.Tm → List GB.Tm
  | .mk _ _ ks => ks
/-- what is left behind the begun term -/
def aft (t : GB.Tm) (most : V) (post : List Nat) : List Nat := if most = .non then post else txA (kidsOf t) ++ 41 :: post
def spBg (CS : Addr) : Sp := fun vs H Q _ => ∃ (S : Addr) (T : Str) (p : Nat) (L : List (Str × Nat)) (ns : List Str) (t : GB.Tm) (post : List Nat), vs = [.ref S] ∧ SgAt CS H S T p ∧ Lf T p (txL t ++ post) ∧ (∀ q ∈ L, q.1 ∈ nmA) ∧ TmOk L ns t ∧ Stop post ∧
  ∀ tt b bg few most p' H', Bt [S] H H' → SgAt CS H' S T p' → Bgn t bg few most → Lf T p' (aft t most post) → H' tt = some (.tup [.ref b, .int few, most]) → H' b = some (.tup bg) → Q (.ref tt) H'
theorem nmA_name {L : List (Str × Nat)} (h : ∀ q ∈ L, q.1 ∈ nmA) : ∀ q ∈ L, nameB q.1 = true := fun q hq => (show ∀ x ∈ nmA, nameB x = true by decide +kernel) _ (h q hq)
structure CF (t : GB.Tm) (post : List Nat) (a : Str) (rest : List Nat) (bg : List V) (few : Int) (most : V) (k : Nat) : Prop where
  c : Call t a rest
  nb : nameB a = true
  bb : BB a (rest ++ post) bg few most k
  bn : Bgn t bg few most
  af : ∀ T p1, Lf T p1 (rest ++ post) → Lf T (p1 + k) (aft t most post)
theorem cf_of {L : List (Str × Nat)} (hA : ∀ q ∈ L, q.1 ∈ nmA) {ns : List Str} {t : GB.Tm} (ho : TmOk L ns t) (post : List Nat) : (∃ n, t = .mk "value" n [] ∧ nameB n = true ∧ txL t = 39 :: cl n) ∨ (∃ n, t = .mk "name" n [] ∧ nameB n = true ∧ txL t = cl n) ∨ (∃ n ks, t = .mk "use" n ks ∧ n ∈ wdsW ∧ txL t = 46 :: (cl n ++ 40 :: (txA ks ++ [41]))) ∨ ∃ a rest bg few most k, CF t post a rest bg few most k := by
  have hL := nmA_name hA
  have fb : nameB "fail" = true := by decide +kernel
  have bb : nameB "bind" = true := by decide +kernel
  cases shp hL ho with
  | val e h x => exact .inl ⟨_, e, h, x⟩
  | name e h x => exact .inr (.inl ⟨_, e, h, x⟩)
  | dot e h hw x => exact .inr (.inr (.inl ⟨_, _, e, hw, x⟩))
  | @fail n e h c =>
    have er : (cl n ++ [41]) ++ post = cl n ++ 41 :: post := by rw [List.append_assoc]; rfl
    refine .inr (.inr (.inr ⟨_, _, _, _, _, _, c, fb, by rw [er]; exact .fail h, by rw [e]; exact .leaf (by decide), fun T p1 hl => ?_⟩))
    rw [er] at hl
    unfold aft
    rw [if_pos rfl]
    exact hl.skip.next
  | @use n ks e h hw c =>
    have er : (txA ks ++ [41]) ++ post = txA ks ++ 41 :: post := by rw [List.append_assoc]; rfl
    have hn : n ∈ nmA := by
      subst e
      cases ho with
      | mk hH _ =>
        generalize ks.length = m at hH
        generalize hu : ("use" : Str) = w at hH
        cases hH with
        | use h => exact hA _ h
        | val _ => exact absurd hu (by decide)
        | name _ _ => exact absurd hu (by decide)
        | fail _ => exact absurd hu (by decide)
        | bind _ _ => exact absurd hu (by decide)
        | op h =>
          rw [← hu] at h
          exact absurd (List.mem_map.mpr ⟨_, h, rfl⟩ : ("use" : Str) ∈ opsW.map (·.1)) (by decide)
    refine .inr (.inr (.inr ⟨_, _, _, _, _, _, c, h, .use hn hw, by rw [e]; exact .use, fun T p1 hl => ?_⟩))
    rw [er] at hl
    unfold aft
    rw [if_neg (fun e => nomatch e), e]
    exact hl
  | @bind n ks e h c =>
    have h2 : ks.length = 2 := by
      subst e
      cases ho with
      | mk hH _ =>
        generalize ks.length = m at hH
        generalize hu : ("bind" : Str) = w at hH
        cases hH with
        | bind _ _ => rfl
        | use h => exact absurd hu (by decide)
        | val _ => exact absurd hu (by decide)
        | name _ _ => exact absurd hu (by decide)
        | fail _ => exact absurd hu (by decide)
        | op h =>
          rw [← hu] at h
          exact absurd (List.mem_map.mpr ⟨_, h, rfl⟩ : ("bind" : Str) ∈ opsW.map (·.1)) (by decide)
    obtain ⟨k0, r, rfl⟩ : ∃ k0 r, ks = k0 :: r := by
      cases ks with
      | nil => simp at h2
      | cons a b => exact ⟨a, b, rfl⟩
    have er : (cl n ++ (txR (k0 :: r) ++ [41])) ++ post = cl n ++ 44 :: 32 :: (txL k0 ++ (txR r ++ 41 :: post)) := by
      rw [txR]
      simp only [List.append_assoc, List.cons_append, List.nil_append]
    refine .inr (.inr (.inr ⟨_, _, _, _, _, _, c, bb, by rw [er]; exact .bind h, by rw [e]; exact .bind h2, fun T p1 hl => ?_⟩))
    rw [er] at hl
    unfold aft
    rw [if_neg (fun e => nomatch e), e]
    show Lf T _ (txA (k0 :: r) ++ 41 :: post)
    rw [txA, List.append_assoc]
    exact hl.skip.next.next
  | @op w m ks e hm c =>
    have er : (txA ks ++ [41]) ++ post = txA ks ++ 41 :: post := by rw [List.append_assoc]; rfl
    have hk : (w, ks.length) ∈ opsW := by
      subst e
      cases ho with
      | mk hH _ => exact (headOp hH hm).1
    refine .inr (.inr (.inr ⟨_, _, _, _, _, _, c, (show ∀ q ∈ opsW, nameB q.1 = true by decide +kernel) _ hm, .op hk, by rw [e]; exact .op hk rfl, fun T p1 hl => ?_⟩))
    rw [er] at hl
    unfold aft
    rw [if_neg (fun e => nomatch e), e]
    exact hl
section
variable {P : Program} {w : World} {K : PySem.W.Frag} {mg : Str → Option Value} {base : Heap} {CS : Addr}
theorem scS6 : FnScope ["self", "letter", "name"] ["self"] (defScope (sS 6)) := ⟨rfl, rfl, rfl, by decide +kernel, rfl, by decide +kernel, by decide +kernel⟩
theorem ne_sgn {c d : Nat} {r : List Nat} (h : c ≠ d) : decide (V.str (sgn (c :: r)) = V.str ⟨#[d]⟩) = false := decide_eq_false fun e => by
  have e := congrArg cl (V.str.inj e)
  exact h (List.cons.inj e).1
theorem ok_s6 {f : Addr} {fd : FuncData} (F : Fun K "take_begun" "Signs.take_begun" (sS 6) f fd) (C : SgC K CS) (SG : MethOk P w K mg base CS "sign" 1 ["self"] (spSign CS)) (TK : MethOk P w K mg base CS "take" 2 ["self", "wanted"] (spTake1 CS)) (TN : MethOk P w K mg base CS "take_name" 2 ["self"] (spTakeN CS)) (TW : MethOk P w K mg base CS "take_word" 2 ["self"] (spTakeW CS)) (TB : MethOk P w K mg base CS "take_behind_bracket" 3 ["self", "word"] (spBb CS)) : FnOk P w K mg base CX0 4 f fd ["self"] (spBg CS) := by
  obtain ⟨g1, d1, M1, F1, B1⟩ := SG
  obtain ⟨g2, d2, M2, F2, B2⟩ := TK
  obtain ⟨g3, d3, M3, F3, B3⟩ := TN
  obtain ⟨g4, d4, M4, F4, B4⟩ := TW
  obtain ⟨g7, d7, M7, F7, B7⟩ := TB
  refine F.ok scS6 (fun vs H Q E h => ?_) (fun cdv A outer s H vs Q E hr h => ?_)
  · obtain ⟨S, T, p, L, ns, t, post, rfl, _⟩ := h
    rfl
  · obtain ⟨S, T, p, L, ns, t, post, rfl, hS, hl, hA, ho, hp, q⟩ := h
    have hL := nmA_name hA
    have r1 := hr.mono (show 1 ≤ 3 by decide)
    have r2 := hr.mono (show 2 ≤ 3 by decide)
    refine ⟨_, pss_cons (ps_if (pt_cmpR op_eq (pe_meth0 (pv 0) C.cl M1 F1 r1 B1 .nil pass0 rfl) pe_str (nomark _)) (pss_cons (ps_expr (pe_meth (pv 0) C.cl M2 F2 r2 B2 .nil pass0 (pa_cons pe_str pa_nil) rfl rfl rfl)) (pss_one (ps_ret (pe_tup (pa_cons (pe_tup (pa_cons pe_str (pa_cons (pe_meth0 (pv 0) C.cl M3 F3 r2 B3 .nil pass0 rfl) pa_nil))) (pa_cons pe_int (pa_cons pe_non pa_nil))))))) pss_nil)
      (pss_cons (ps_if (pt_cmpR op_eq (pe_meth0 (pv 0) C.cl M1 F1 r1 B1 .nil pass0 rfl) pe_str (nomark _)) (pss_cons (ps_expr (pe_meth (pv 0) C.cl M2 F2 r2 B2 .nil pass0 (pa_cons pe_str pa_nil) rfl rfl rfl)) (pss_cons (ps_set (i := 1) scS6.nd rfl (.inl rfl) (pe_meth0 (pv 0) C.cl M4 F4 r2 B4 .nil pass0 rfl)) (pss_cons (ps_expr (pe_meth (pv 0) C.cl M2 F2 r2 B2 .nil pass0 (pa_cons pe_str pa_nil) rfl rfl rfl)) (pss_one (ps_ret (pe_tup (pa_cons (pe_tup (pa_cons pe_str (pa_cons (pv 1) pa_nil))) (pa_cons pe_int (pa_cons pe_int pa_nil))))))))) pss_nil)
      (pss_cons (ps_set (i := 2) scS6.nd rfl (.inl rfl) (pe_meth0 (pv 0) C.cl M3 F3 r2 B3 .nil pass0 rfl))
      (pss_cons (ps_if (pt_cmpR op_ne (pe_meth0 (pv 0) C.cl M1 F1 r1 B1 .nil pass0 rfl) pe_str (nomark _)) (pss_one (ps_ret (pe_tup (pa_cons (pe_tup (pa_cons pe_str (pa_cons (pv 2) pa_nil))) (pa_cons pe_int (pa_cons pe_non pa_nil)))))) pss_nil)
      (pss_cons (ps_expr (pe_meth (pv 0) C.cl M2 F2 r2 B2 .nil pass0 (pa_cons pe_str pa_nil) rfl rfl rfl))
      (pss_one (ps_ret (pe_meth (pv 0) C.cl M7 F7 hr B7 .nil pass0 (pa_cons (pv 2) pa_nil) rfl rfl rfl))))))), ?_⟩
    obtain ⟨dx, e0⟩ := hS.ex
    have fst : ∀ {n : Str} {q : List Nat}, nameB n = true → ∃ c r, cl n ++ q = c :: r ∧ c ≠ 39 ∧ c ≠ 46 := fun {n q} h => by
      obtain ⟨h1, h2, _⟩ := nameB_ltr h
      cases hc : cl n with
      | nil => rw [hc] at h2; simp at h2
      | cons c r =>
        have := h1 c (by rw [hc]; exact List.mem_cons_self)
        unfold ltr at this
        exact ⟨c, r ++ q, rfl, by omega, by omega⟩
    rcases cf_of hA ho post with ⟨n, et, nb, tx⟩ | ⟨n, et, nb, tx⟩ | ⟨n, ks, et, hw, tx⟩ | ⟨a, rest, bg, few, most, k, cf⟩
    · -- value
      rw [tx, List.cons_append] at hl
      refine ⟨_, rfl, S, dx, _, rfl, e0, rfl, S, T, p, _, rfl, hS, hl, rfl, _, rfl, ?_⟩
      rw [show (decide (V.str (sgn (39 :: (cl n ++ post))) = V.str "'")) = true from decide_eq_true rfl]
      refine iteT ?_
      refine ⟨_, rfl, S, dx, _, rfl, e0, rfl, S, T, p, "'", cl n ++ post, rfl, hS, hl, fun H1 b1 hS1 => ?_⟩
      obtain ⟨dx1, e1⟩ := hS1.ex
      have hl1 : Lf T (p + 1) (cl n ++ post) := hl.next
      refine ⟨_, rfl, S, dx1, _, rfl, e1, rfl, S, T, _, n, post, rfl, hS1, hl1, nb, hp.nol, fun H2 b2 hS2 => ?_⟩
      refine ⟨by show 2 ≤ sizeLine; decide, fun b nb' => ?_⟩
      obtain ⟨H3, s3, h3, q3⟩ := lay (o := .tup [.str "value", .str n]) nb'
      rw [q3]
      refine ⟨by show 3 ≤ sizeLine; decide, fun tt nt => ?_⟩
      obtain ⟨H4, s4, h4, q4⟩ := lay (o := .tup [.ref b, .int 0, .non]) nt
      rw [q4]
      subst et
      refine q tt b _ _ _ _ H4 ((b1.trans b2).trans (bt_of (s3.trans s4))) ⟨let ⟨d, e⟩ := hS2.ex; ⟨d, (s3.trans s4) _ _ e⟩⟩ (.leaf (by decide)) ?_ h4 (s4 _ _ h3)
      unfold aft
      rw [if_pos rfl]
      exact hl1.skip
    · rw [tx] at hl
      obtain ⟨c, r, ec, n1, n2⟩ := fst (q := post) nb
      have hl' := hl
      rw [ec] at hl'
      refine ⟨_, rfl, S, dx, _, rfl, e0, rfl, S, T, p, _, rfl, hS, hl', rfl, _, rfl, ?_⟩
      rw [show (decide (V.str (sgn (c :: r)) = V.str "'")) = false from ne_sgn n1]
      refine iteF ?_
      refine ⟨_, rfl, S, dx, _, rfl, e0, rfl, S, T, p, _, rfl, hS, hl', rfl, _, rfl, ?_⟩
      rw [show (decide (V.str (sgn (c :: r)) = V.str ".")) = false from ne_sgn n2]
      refine iteF ?_
      refine ⟨_, rfl, S, dx, _, rfl, e0, rfl, S, T, p, n, post, rfl, hS, hl, nb, hp.nol, fun H1 b1 hS1 => ?_⟩
      obtain ⟨dx1, e1⟩ := hS1.ex
      have hl1 := hl.skip
      refine ⟨_, rfl, S, dx1, _, rfl, e1, rfl, S, T, _, post, rfl, hS1, hl1, rfl, _, rfl, ?_⟩
      rw [show (!decide (V.str (sgn post) = V.str "(")) = true from by
        cases post with
        | nil => decide +kernel
        | cons c r =>
          rw [show (decide (V.str (sgn (c :: r)) = V.str "(")) = false from ne_sgn (d := 40) (by rcases hp c r rfl with z | z <;> omega)]
          rfl]
      refine iteT ?_
      refine ⟨_, rfl, by show 2 ≤ sizeLine; decide, fun b nb' => ?_⟩
      obtain ⟨H3, s3, h3, q3⟩ := lay (o := .tup [.str "name", .str n]) nb'
      rw [q3]
      refine ⟨by show 3 ≤ sizeLine; decide, fun tt nt => ?_⟩
      obtain ⟨H4, s4, h4, q4⟩ := lay (o := .tup [.ref b, .int 0, .non]) nt
      rw [q4]
      subst et
      refine q tt b _ _ _ _ H4 (b1.trans (bt_of (s3.trans s4))) ⟨⟨dx1, (s3.trans s4) _ _ e1⟩⟩ (.leaf (by decide)) ?_ h4 (s4 _ _ h3)
      unfold aft
      rw [if_pos rfl]
      exact hl1
    · -- dot
      have hl0 := hl
      rw [tx, List.cons_append] at hl
      refine ⟨_, rfl, S, dx, _, rfl, e0, rfl, S, T, p, _, rfl, hS, hl, rfl, _, rfl, ?_⟩
      rw [show (decide (V.str (sgn (46 :: (cl n ++ 40 :: (txA ks ++ [41]) ++ post))) = V.str "'")) = false from ne_sgn (by decide)]
      refine iteF ?_
      refine ⟨_, rfl, S, dx, _, rfl, e0, rfl, S, T, p, _, rfl, hS, hl, rfl, _, rfl, ?_⟩
      rw [show (decide (V.str (sgn (46 :: (cl n ++ 40 :: (txA ks ++ [41]) ++ post))) = V.str ".")) = true from decide_eq_true rfl]
      refine iteT ?_
      refine ⟨_, rfl, S, dx, _, rfl, e0, rfl, S, T, p, ".", _, rfl, hS, hl, fun H1 b1 hS1 => ?_⟩
      obtain ⟨dx1, e1⟩ := hS1.ex
      have hl1 : Lf T (p + 1) (cl n ++ (cl "(" ++ (txA ks ++ 41 :: post))) := by
        have := hl.next
        rw [List.append_assoc, List.cons_append, List.append_assoc] at this
        exact this
      refine ⟨_, rfl, S, dx1, _, rfl, e1, rfl, S, T, _, n, _, rfl, hS1, hl1, hw, fun H2 b2 hS2 => ?_⟩
      obtain ⟨dx2, e2⟩ := hS2.ex
      have hl2 := hl1.skip
      refine ⟨_, rfl, S, dx2, _, rfl, e2, rfl, S, T, _, "(", _, rfl, hS2, hl2, fun H3 b3 hS3 => ?_⟩
      refine ⟨_, rfl, by show 2 ≤ sizeLine; decide, fun b nb' => ?_⟩
      obtain ⟨H4, s4, h4, q4⟩ := lay (o := .tup [.str "use", .str n]) nb'
      rw [q4]
      refine ⟨by show 3 ≤ sizeLine; decide, fun tt nt => ?_⟩
      obtain ⟨H5, s5, h5, q5⟩ := lay (o := .tup [.ref b, .int 0, .int 2]) nt
      rw [q5]
      subst et
      refine q tt b _ _ _ _ H5 (((b1.trans b2).trans b3).trans (bt_of (s4.trans s5))) ⟨let ⟨d, e⟩ := hS3.ex; ⟨d, (s4.trans s5) _ _ e⟩⟩ .use ?_ h5 (s5 _ _ h4)
      unfold aft
      rw [if_neg (fun e => nomatch e)]
      exact hl2.skip
    · rw [cf.c.tx, List.append_assoc, List.cons_append] at hl
      obtain ⟨c, r, ec, n1, n2⟩ := fst (q := 40 :: (rest ++ post)) cf.nb
      have hl' := hl
      rw [ec] at hl'
      refine ⟨_, rfl, S, dx, _, rfl, e0, rfl, S, T, p, _, rfl, hS, hl', rfl, _, rfl, ?_⟩
      rw [show (decide (V.str (sgn (c :: r)) = V.str "'")) = false from ne_sgn n1]
      refine iteF ?_
      refine ⟨_, rfl, S, dx, _, rfl, e0, rfl, S, T, p, _, rfl, hS, hl', rfl, _, rfl, ?_⟩
      rw [show (decide (V.str (sgn (c :: r)) = V.str ".")) = false from ne_sgn n2]
      refine iteF ?_
      refine ⟨_, rfl, S, dx, _, rfl, e0, rfl, S, T, p, a, _, rfl, hS, hl, cf.nb, nol40 _, fun H1 b1 hS1 => ?_⟩
      obtain ⟨dx1, e1⟩ := hS1.ex
      have hl1 := hl.skip
      refine ⟨_, rfl, S, dx1, _, rfl, e1, rfl, S, T, _, _, rfl, hS1, hl1, rfl, _, rfl, ?_⟩
      rw [show (!decide (V.str (sgn (40 :: (rest ++ post))) = V.str "(")) = false from by
        rw [show (decide (V.str (sgn (40 :: (rest ++ post))) = V.str "(")) = true from decide_eq_true rfl]
        rfl]
      refine iteF ?_
      refine ⟨_, rfl, S, dx1, _, rfl, e1, rfl, S, T, _, "(", rest ++ post, rfl, hS1, hl1, fun H2 b2 hS2 => ?_⟩
      obtain ⟨dx2, e2⟩ := hS2.ex
      have hl2 : Lf T (p + (cl a).length + (cl "(").length) (rest ++ post) := hl1.next
      refine ⟨_, rfl, S, dx2, _, rfl, e2, rfl, _, rfl, S, T, _, a, rest ++ post, bg, few, most, k, rfl, hS2, hl2, cf.bb, fun tt b H3 b3 hS3 ht hb => ?_⟩
      exact q tt b _ _ _ _ H3 ((b1.trans b2).trans b3) hS3 cf.bn (cf.af _ _ hl2) ht hb
end
end K27
set_option Elab.async false
set_option linter.all false
set_option autoImplicit false
set_option maxRecDepth 100000
set_option maxHeartbeats 8000000
namespace K27
open PySem PySem.Spec L2 GB
theorem leaf_d27 {w n : Str} (hw : w ∈ nmd) : (GB.Tm.mk w n []).d = .tuple [.str w, .str n] := by
  have : ∀ x ∈ nmd, x ≠ "use" ∧ x ≠ "bind" ∧ x ∉ opsW.map (·.1) := by decide
  obtain ⟨e1, e2, e3⟩ := this w hw
  rw [GB.Tm.d, if_neg e1, if_neg e2, if_neg e3]
theorem bgn_use {L : List (Str × Nat)} {ns : List Str} {n : Str} {ks : List GB.Tm} (hA : ∀ q ∈ L, q.2 ≤ 2) (ho : TmOk L ns (.mk "use" n ks)) : ks.length ≤ 2 := by
  cases ho with
  | mk hH _ =>
    generalize ks.length = m at hH
    generalize hu : ("use" : Str) = w at hH
    cases hH with
    | use h => exact hA _ h
    | val _ => exact absurd hu (by decide)
    | name _ _ => exact absurd hu (by decide)
    | fail _ => exact absurd hu (by decide)
    | bind _ _ => exact absurd hu (by decide)
    | op h =>
      rw [← hu] at h
      exact absurd (List.mem_map.mpr ⟨_, h, rfl⟩ : ("use" : Str) ∈ opsW.map (·.1)) (by decide)
/-- a begun term that has terms within: its first things, how many terms -/
theorem bgn_kids {L : List (Str × Nat)} {ns : List Str} {t : GB.Tm} {bg : List V} {few : Int} {most : V} (hA : ∀ q ∈ L, q.2 ≤ 2) (ho : TmOk L ns t) (h : Bgn t bg few most) (hm : most ≠ .non) :
    ∃ (w n : Str) (ks : List GB.Tm) (f m : Nat), t = .mk w n ks ∧ few = (f : Int) ∧ most = .int (m : Int) ∧ ((f = 0 ∧ m = 2 ∧ ks.length ≤ 2 ∧ w = "use" ∧ bg = [.str "use", .str n]) ∨ (f = ks.length ∧ m = ks.length ∧ 1 ≤ ks.length ∧ w ≠ "use" ∧ ∃ r, bg = .str w :: r ∧ t.d = .tuple (((.str w : PyData) :: (if w = "bind" then [.str n] else [])) ++ ks.map GB.Tm.d) ∧ r = if w = "bind" then [.str n] else [])) := by
  cases h with
  | leaf _ => exact absurd rfl hm
  | @use n ks => exact ⟨_, _, _, 0, 2, rfl, rfl, rfl, .inl ⟨rfl, rfl, bgn_use hA ho, rfl, rfl⟩⟩
  | @bind n ks h2 => exact ⟨_, _, _, 2, 2, rfl, rfl, rfl, .inr ⟨h2.symm, h2.symm, by omega, by decide, _, rfl, by rw [GB.Tm.d, if_neg (by decide), if_pos rfl, if_pos rfl, ds_map]; rfl, by rw [if_pos rfl]⟩⟩
  | @op w m ks hm2 hk =>
    obtain ⟨n1, n2, n3⟩ := ops_no _ hm2
    have h1 : 1 ≤ m := (show ∀ q ∈ opsW, 1 ≤ q.2 by decide) _ hm2
    exact ⟨_, _, _, m, m, rfl, rfl, rfl, .inr ⟨hk.symm, hk.symm, by omega, n2, _, rfl, by rw [GB.Tm.d, if_neg n2, if_neg n3, if_pos (List.mem_map.mpr ⟨_, hm2, rfl⟩), if_neg n3, ds_map]; rfl, by rw [if_neg n3]⟩⟩
def ttN : List Str := ["self", "begun", "fewest", "most", "terms"]
def spTt (K : PySem.W.Frag) (CS : Addr) (z : Nat) : Sp := fun vs H Q _ => ∃ (S : Addr) (T : Str) (p : Nat) (L : List (Str × Nat)) (ns : List Str) (t : GB.Tm) (post : List Nat), vs = [.ref S] ∧ SgAt CS H S T p ∧ Lf T p (txL t ++ post) ∧ (∀ q ∈ L, q.1 ∈ nmA) ∧ (∀ q ∈ L, q.2 ≤ 2) ∧ TmOk L ns t ∧ Stop post ∧ t.size ≤ z ∧ z ≤ 60 ∧
  ∀ v p' H', Bt [S] H H' → SgAt CS H' S T p' → Lf T p' post → Dp K (hid [S] H') v t.d → Q v H'
section
variable {P : Program} {w : World} {K : PySem.W.Frag} {mg : Str → Option Value} {base : Heap} {CS : Addr}
theorem scS5 : FnScope ttN ["self"] (defScope (sS 5)) := ⟨rfl, rfl, rfl, by decide +kernel, rfl, by decide +kernel, by decide +kernel⟩
theorem ok_s5 {f : Addr} {fd : FuncData} (F : Fun K "take_term" "Signs.take_term" (sS 5) f fd) (T : Bl mg) (C : SgC K CS) (MT : Meth K CS "take_term" f) (bF : Binds K fd ["self"] []) (SG : MethOk P w K mg base CS "sign" 1 ["self"] (spSign CS)) (TK : MethOk P w K mg base CS "take" 2 ["self", "wanted"] (spTake1 CS)) (BG : MethOk P w K mg base CS "take_begun" 4 ["self"] (spBg CS)) : ∀ z : Nat, FnOk P w K mg base CX0 (5 + z) f fd ["self"] (spTt K CS z) := by
  obtain ⟨g1, d1, M1, F1, B1⟩ := SG
  obtain ⟨g2, d2, M2, F2, B2⟩ := TK
  obtain ⟨g6, d6, M6, F6, B6⟩ := BG
  intro z
  induction z with
  | zero =>
    refine F.ok scS5 (fun vs H Q E h => ?_) (fun cdv A outer s H vs Q E hr h => ?_)
    · obtain ⟨S, TT, p, L, ns, t, post, rfl, _⟩ := h
      rfl
    · obtain ⟨S, TT, p, L, ns, t, post, rfl, _, _, _, _, _, _, hz, _⟩ := h
      exact absurd hz (by have := size_pos t; omega)
  | succ z ih =>
    refine F.ok scS5 (fun vs H Q E h => ?_) (fun cdv A outer s H vs Q E hr h => ?_)
    · obtain ⟨S, TT, p, L, ns, t, post, rfl, _⟩ := h
      rfl
    · obtain ⟨S, TT, p, L, ns, t, post, rfl, hS, hl, hA, hA2, ho, hp, hz, hz2, q⟩ := h
      have r1 := hr.mono (show 1 ≤ Nat.add 5 z by show 1 ≤ 5 + z; omega)
      have r2 := hr.mono (show 2 ≤ Nat.add 5 z by show 2 ≤ 5 + z; omega)
      have r4 := hr.mono (show 4 ≤ Nat.add 5 z by show 4 ≤ 5 + z; omega)
      have rz := hr.mono (show 5 + z ≤ Nat.add 5 z from Nat.le_refl _)
      refine ⟨_, pss_cons (ps_asg (pe_meth0 (pv 0) C.cl M6 F6 r4 B6 .nil pass0 rfl) (pg_tup rfl (pgs_cons (pg_name (i := 1) scS5.nd rfl (.inl rfl)) (pgs_cons (pg_name (i := 2) scS5.nd rfl (.inl rfl)) (pgs_cons (pg_name (i := 3) scS5.nd rfl (.inl rfl)) pgs_nil))))) (pss_cons (ps_if (pt_cmpR op_isN (pv 3) (pe_non) (nomark _)) (pss_one (ps_ret (pv 1))) pss_nil) (pss_cons (ps_set (i := 4) scS5.nd rfl (.inl rfl) (pe_lst pa_nil)) (pss_cons (ps_if (PW.pt (pw_or (pt_cmpR op_gt (pv 2) (pe_int) (nomark _)) (pw_or1 (pt_cmpR op_ne (pe_meth0 (pv 0) C.cl M1 F1 r1 B1 .nil pass0 rfl) (pe_str) (nomark _))))) (pss_one (ps_expr (pe_bm PySem.F.plainAttrs_list PySem.F.slot_list_append PySem.F.type_list_append mt_append (pv 4) (pa_cons (pe_meth0 (pv 0) C.cl MT ih rz bF .nil pass0 rfl) (pa_nil))))) pss_nil) (pss_cons (ps_while PassesOwn.never (PW.pt (pw_or (pt_cmpR op_lt (pe_callB call_len_seq (by rfl) T.len PySem.boot_len (pa_cons (pv 4) pa_nil)) (pv 2) (nomark _)) (pw_or1 (PW.pt (pw_and (pt_cmpR op_lt (pe_callB call_len_seq (by rfl) T.len PySem.boot_len (pa_cons (pv 4) pa_nil)) (pv 3) (nomark _)) (pw_and1 (pt_cmpR op_eq (pe_meth0 (pv 0) C.cl M1 F1 r1 B1 .nil pass0 rfl) (pe_str) (nomark _)))))))) (pss_cons (ps_expr (pe_meth (pv 0) C.cl M2 F2 r2 B2 .nil pass0 (pa_cons pe_str pa_nil) rfl rfl rfl)) (pss_one (ps_expr (pe_bm PySem.F.plainAttrs_list PySem.F.slot_list_append PySem.F.type_list_append mt_append (pv 4) (pa_cons (pe_meth0 (pv 0) C.cl MT ih rz bF .nil pass0 rfl) (pa_nil))))))) (pss_cons (ps_expr (pe_meth (pv 0) C.cl M2 F2 r2 B2 .nil pass0 (pa_cons pe_str pa_nil) rfl rfl rfl)) (pss_one (ps_ret (pe_ifExp (pt_cmpR op_eq (pe_ix ix_seq (pv 1) pe_int (fun _ _ => rfl)) (pe_str) (nomark _)) (pe_tup (pa_cons (pe_str) (pa_cons (pe_ix ix_seq (pv 1) pe_int (fun _ _ => rfl)) (pa_cons (pe_callTy (call_tuple_of) (by rfl) T.tuple (by decide +kernel) (pa_cons (pv 4) pa_nil)) (pa_nil))))) (pe_tup (StX.pa_star (pv 1) (StX.pa_star (pv 4) pa_nil))))))))))), ?_⟩
      obtain ⟨dx, e0⟩ := hS.ex
      refine ⟨_, rfl, S, dx, _, rfl, e0, rfl, S, TT, p, L, ns, t, post, rfl, hS, hl, hA, ho, hp, fun tt b bg few most p1 H1 b1 hS1 hb hl1 htt hbg => ?_⟩
      refine ⟨tt, _, rfl, SqT.of htt, rfl, _, _, rfl, _, _, rfl, _, _, rfl, rfl, ?_⟩
      have bS : b ≠ S := fun e => by
        obtain ⟨d, e2⟩ := hS1.ex
        rw [e, e2] at hbg
        cases hbg
      refine ⟨_, rfl, rfl, _, rfl, ?_⟩
      by_cases hm : most = .non
      · rw [decide_eq_true hm]
        refine iteT ?_
        unfold aft at hl1
        rw [if_pos hm] at hl1
        refine ⟨_, rfl, q _ p1 H1 b1 hS1 hl1 ?_⟩
        cases hb with
        | leaf hw => rw [leaf_d27 hw]; exact .tup (SqT.of (hid_to (ni1 bS) hbg)) (.cons (.str _) (.cons (.str _) .nil))
        | use => cases hm
        | bind _ => cases hm
        | op _ _ => cases hm
      rw [decide_eq_false hm]
      refine iteF ?_
      unfold aft at hl1
      rw [if_neg hm] at hl1
      obtain ⟨wd, n, ks, fN, mN, rfl, rfl, rfl, hk⟩ := bgn_kids hA2 ho hb hm
      replace hl1 : Lf TT p1 (txA ks ++ 41 :: post) := hl1
      have hkk : ∀ (i : Nat) (k : GB.Tm), ks[i]? = some k → ∃ ns, TmOk L ns k := fun i k h => by
        cases ho with
        | mk _ hK => exact ⟨_, hK i k h⟩
      rw [GB.Tm.size] at hz
      have hkl := len_sizes ks
      refine ⟨by show 0 ≤ sizeLine; decide, fun D nD => ?_⟩
      obtain ⟨H2, s2, hD2, q2⟩ := lay (o := .lst []) nD
      rw [q2]
      have DS : D ≠ S := fun e => by
        obtain ⟨d, e2⟩ := hS1.ex
        rw [e, e2] at nD
        cases nD
      have bD : b ≠ D := fun e => by rw [← e, hbg] at nD; cases nD
      have nDH : H D = none ∨ True := .inr trivial
      obtain ⟨Inv, hInv⟩ : ∃ Inv : Nat → Nat → Hp → Prop, Inv = fun i p' H' => Bt [S] H1 H' ∧ SgAt CS H' S TT p' ∧ (∃ xs, H' D = some (.lst xs) ∧ xs.length = i ∧ DpAll K (hid [S, D] H') xs ((ks.take i).map GB.Tm.d)) ∧ Lf TT p' (txR (ks.drop i) ++ 41 :: post) ∧ H' b = some (.tup bg) := ⟨_, rfl⟩
      have stopR : ∀ l : List GB.Tm, Stop (txR l ++ 41 :: post) := fun l => by
        cases l with
        | nil => rw [txR]; exact stop41 post
        | cons x y => rw [txR]; exact fun c r e => by cases e; exact .inr rfl
      -- what one more term does
      have more : ∀ {i : Nat} {k : GB.Tm} {H' : Hp} {xs : List V}, ks[i]? = some k → Bt [S] H1 H' → H' D = some (.lst xs) → xs.length = i → DpAll K (hid [S, D] H') xs ((ks.take i).map GB.Tm.d) → H' b = some (.tup bg) → ∀ v p'' H'', Bt [S] H' H'' → SgAt CS H'' S TT p'' → Lf TT p'' (txR (ks.drop (i + 1)) ++ 41 :: post) → Dp K (hid [S] H'') v k.d → H'' D = some (.lst xs) ∧ xs.length < sizeLine ∧ Inv (i + 1) p'' (upd H'' D (.lst (xs ++ [v]))) := by
        intro i k H' xs hki B' hD hx hd hb' v p'' H'' B'' hS'' hl'' hv
        have hi : i < ks.length := (List.getElem?_eq_some_iff.mp hki).1
        refine ⟨bt_at B'' (ni1 DS) hD, by rw [hx, sizeLine_eq]; omega, ?_⟩
        rw [hInv]
        obtain ⟨d'', e''⟩ := hS''.ex
        refine ⟨fun c o e => ?_, ⟨d'', by rw [upd_ne DS.symm]; exact e''⟩, ⟨_, upd_same, by rw [List.length_append, hx]; rfl, ?_⟩, hl'', by rw [upd_ne bD]; exact bt_at B'' (ni1 bS) hb'⟩
        · obtain ⟨e1, m⟩ := hid_in e
          exact hid_to m (by rw [upd_ne (ne_of_none e1 nD)]; exact bt_at B'' m (bt_at B' m e1))
        · have bb : Bt [S, D] H' H'' := bt_weak (by simp) B''
          have bu : Bt [S, D] H'' (upd H'' D (.lst (xs ++ [v]))) := bt_upd (by simp)
          rw [take_at hki, List.map_append]
          refine dps_app (dps_mono (bb.trans bu) hd) (.cons (dp_mono bu ?_) .nil)
          have hDD : (hid [S] H'') D = some (.lst xs) := hid_to (ni1 DS) (bt_at B'' (ni1 DS) hD)
          refine dp_mono (fun c o e => ?_) (dp_hid (ps := [D]) (fun q hq => by rw [List.mem_singleton.mp hq]; exact ⟨_, hDD⟩) _ _ (tupO_d k) hv)
          obtain ⟨e1, m1⟩ := hid_in e
          obtain ⟨e2, m2⟩ := hid_in e1
          exact hid_to (by simp only [List.mem_cons, List.not_mem_nil, or_false] at m1 m2 ⊢; exact fun z => z.elim m2 m1) e2
      have S12 : Bt [S] H1 H2 := bt_of s2
      obtain ⟨dx2, e2⟩ : ∃ d, H2 S = some (.ins CS d (sgF TT p1)) := let ⟨d, e⟩ := hS1.ex; ⟨d, s2 _ _ e⟩
      have hS2 : SgAt CS H2 S TT p1 := ⟨_, e2⟩
      have hb2 := s2 _ _ hbg
      have step : ∀ (i p' : Nat) (k : GB.Tm), ks[i]? = some k → k.size ≤ z := fun i p' k h => by
        have := sizes_mem (List.mem_of_getElem? h)
        omega
      -- the first term, if there is one
      by_cases h0 : ks = []
      focus
        have hfm : fN = 0 := by
          rcases hk with ⟨h, _⟩ | ⟨h, _⟩
          · exact h
          · rw [h, h0]; rfl
        refine ⟨_, rfl, _, _, rfl, rfl, _, rfl, ?_⟩
        rw [show decide (((fN : Nat) : Int) > 0) = false from decide_eq_false (by omega)]
        refine iteF ?_
        have hl1' : Lf TT p1 (41 :: post) := by rw [h0] at hl1; exact hl1
        refine ⟨_, rfl, S, dx2, _, rfl, e2, rfl, S, TT, p1, _, rfl, hS2, hl1', rfl, _, rfl, ?_⟩
        rw [show (!decide (V.str (sgn (41 :: post)) = V.str ")")) = false from by rw [show (decide (V.str (sgn (41 :: post)) = V.str ")")) = true from decide_eq_true rfl]; rfl]
        refine iteF ?_
        obtain ⟨i0, pX, hI, hi0, hi1⟩ : ∃ i0 pX, Inv i0 pX H2 ∧ (ks = [] ∨ 1 ≤ i0) ∧ i0 ≤ ks.length := ⟨0, p1, by
          rw [hInv, h0]
          exact ⟨S12, hS2, ⟨[], hD2, rfl, .nil⟩, hl1', hb2⟩, .inl h0, Nat.zero_le _⟩
        generalize H2 = HX at hI ⊢
      rotate_left
      focus
        obtain ⟨k0, hk0⟩ : ∃ k0, ks[0]? = some k0 := by
          cases ks with
          | nil => exact absurd rfl h0
          | cons a b => exact ⟨a, rfl⟩
        have hl1' : Lf TT p1 (txL k0 ++ (txR (ks.drop 1) ++ 41 :: post)) := by
          cases ks with
          | nil => exact absurd rfl h0
          | cons a b =>
            obtain rfl := Option.some.inj hk0
            rw [txA, List.append_assoc] at hl1
            exact hl1
        obtain ⟨ns0, o0⟩ := hkk 0 k0 hk0
        have z0 := step 0 0 k0 hk0
        have kl0 : 1 ≤ ks.length := (List.getElem?_eq_some_iff.mp hk0).1
        refine ⟨_, rfl, _, _, rfl, rfl, _, rfl, ?_⟩
        by_cases hf : fN = 0
        focus
          rw [show decide (((fN : Nat) : Int) > 0) = false from decide_eq_false (by omega)]
          refine iteF ?_
          refine ⟨_, rfl, S, dx2, _, rfl, e2, rfl, S, TT, p1, _, rfl, hS2, hl1', rfl, _, rfl, ?_⟩
          obtain ⟨c, r, ec, n1, n2⟩ := (shp (nmA_name hA) o0).first
          rw [ec, List.cons_append, show (!decide (V.str (sgn (c :: (r ++ (txR (ks.drop 1) ++ 41 :: post)))) = V.str ")")) = true from by rw [show (decide (V.str (sgn (c :: (r ++ (txR (ks.drop 1) ++ 41 :: post)))) = V.str ")")) = false from ne_sgn (d := 41) n1]; rfl]
          refine iteT ?_
        rotate_left
        focus
          rw [show decide (((fN : Nat) : Int) > 0) = true from decide_eq_true (by omega)]
          refine iteT ?_
          refine iteT ?_
        all_goals
          refine ⟨_, rfl, .inl ⟨rfl, _, SqL.of hD2⟩, _, rfl, S, dx2, _, rfl, e2, rfl, S, TT, p1, L, ns0, k0, _, rfl, hS2, hl1', hA, hA2, o0, stopR _, z0, by omega, fun v p'' H'' B'' hS'' hl'' hv => ?_⟩
          obtain ⟨g1', g2', g3'⟩ := more hk0 S12 hD2 rfl .nil hb2 v p'' H'' B'' hS'' hl'' hv
          refine ⟨D, _, _, rfl, rfl, g1', g2', ?_⟩
          obtain ⟨i0, pX, hI, hi0, hi1⟩ : ∃ i0 pX, Inv i0 pX (upd H'' D (.lst ([] ++ [v]))) ∧ (ks = [] ∨ 1 ≤ i0) ∧ i0 ≤ ks.length := ⟨1, p'', g3', .inr (Nat.le_refl _), kl0⟩
          generalize upd H'' D (.lst ([] ++ [v])) = HX at hI ⊢
      all_goals
        refine ⟨fun m σ H' => ∃ i p', m = ks.length - i ∧ i ≤ ks.length ∧ (ks = [] ∨ 1 ≤ i) ∧ σ = [some (.ref S), some (.ref b), some (.int (fN : Int)), some (.int (mN : Int)), some (.ref D)] ∧ Inv i p' H', ⟨_, i0, pX, rfl, hi1, hi0, rfl, hI⟩, ?_⟩
        rintro m σ HY ⟨i, p', rfl, hil, hi1', rfl, hIY⟩
        have hIY2 := hIY
        rw [hInv] at hIY2
        obtain ⟨BY, hSY, ⟨xs, hDY, hxl, hdY⟩, hlY, hbY⟩ := hIY2
        obtain ⟨dxY, eY⟩ := hSY.ex
        refine ⟨_, rfl, D, xs, rfl, .inl (SqL.of hDY), _, rfl, _, _, rfl, rfl, _, rfl, ?_⟩
        rcases Nat.lt_or_ge i ks.length with hlt | hge
        focus
          obtain ⟨k, hki⟩ : ∃ k, ks[i]? = some k := ⟨_, List.getElem?_eq_getElem hlt⟩
          have hlY' : Lf TT p' (44 :: 32 :: (txL k ++ (txR (ks.drop (i + 1)) ++ 41 :: post))) := by
            have : ks.drop i = k :: ks.drop (i + 1) := by
              obtain ⟨h2, h3⟩ := List.getElem?_eq_some_iff.mp hki
              rw [List.drop_eq_getElem_cons h2, h3]
            rw [this, txR, List.cons_append, List.cons_append, List.append_assoc] at hlY
            exact hlY
          rcases hk with ⟨hf0, hm2, hk2, _⟩ | ⟨hff, hmm, _⟩
          focus
            rw [show decide ((xs.length : Int) < (fN : Int)) = false from decide_eq_false (by omega)]
            refine iteF ?_
            refine ⟨_, rfl, D, xs, rfl, .inl (SqL.of hDY), _, rfl, _, _, rfl, rfl, _, rfl, ?_⟩
            rw [show decide ((xs.length : Int) < (mN : Int)) = true from decide_eq_true (by omega)]
            refine iteT ?_
            refine ⟨_, rfl, S, dxY, _, rfl, eY, rfl, S, TT, p', _, rfl, hSY, hlY', rfl, _, rfl, ?_⟩
            rw [show (decide (V.str (sgn (44 :: 32 :: (txL k ++ (txR (ks.drop (i + 1)) ++ 41 :: post)))) = V.str ",")) = true from decide_eq_true rfl]
            refine iteT ?_
          rotate_left
          focus
            rw [show decide ((xs.length : Int) < (fN : Int)) = true from decide_eq_true (by omega)]
            refine iteT ?_
            refine iteT ?_
          all_goals
            refine ⟨fun σ' H' => ∃ p', σ' = [some (.ref S), some (.ref b), some (.int (fN : Int)), some (.int (mN : Int)), some (.ref D)] ∧ Inv (i + 1) p' H', fun σ' H' ⟨p', h1, h2⟩ => ⟨_, by omega, i + 1, p', rfl, hlt, .inr (by omega), h1, h2⟩, ?_⟩
            refine ⟨_, rfl, S, dxY, _, rfl, eY, rfl, S, TT, p', ", ", _, rfl, hSY, hlY', fun HZ BZ hSZ => ?_⟩
            obtain ⟨dxZ, eZ⟩ := hSZ.ex
            have hlZ : Lf TT (p' + (cl ", ").length) (txL k ++ (txR (ks.drop (i + 1)) ++ 41 :: post)) := hlY'.next.next
            have hDZ := bt_at BZ (ni1 DS) hDY
            obtain ⟨nsk, ok⟩ := hkk i k hki
            have zk := step i 0 k hki
            refine ⟨_, rfl, .inl ⟨rfl, _, SqL.of hDZ⟩, _, rfl, S, dxZ, _, rfl, eZ, rfl, S, TT, _, L, nsk, k, _, rfl, hSZ, hlZ, hA, hA2, ok, stopR _, zk, by omega, fun v p'' H'' B'' hS'' hl'' hv => ?_⟩
            have bZ : Bt [S, D] HY HZ := bt_weak (by simp) BZ
            obtain ⟨g1', g2', g3'⟩ := more hki (BY.trans BZ) hDZ hxl (dps_mono bZ hdY) (bt_at BZ (ni1 bS) hbY) v p'' H'' B'' hS'' hl'' hv
            exact ⟨D, _, _, rfl, rfl, g1', g2', _, rfl, g3'⟩
        have hie : i = ks.length := by omega
        subst hie
        rw [List.drop_length] at hlY
        have hlE : Lf TT p' (41 :: post) := hlY
        rcases hk with ⟨hf0, hm2, hk2, hwu, hbu⟩ | ⟨hff, hmm, _, hwn, rr, hbu, htd, hrr⟩
        focus
          rw [show decide ((xs.length : Int) < (fN : Int)) = false from decide_eq_false (by omega)]
          refine iteF ?_
          refine ⟨_, rfl, D, xs, rfl, .inl (SqL.of hDY), _, rfl, _, _, rfl, rfl, _, rfl, ?_⟩
          by_cases hl2 : ks.length = 2
          focus
            rw [show decide ((xs.length : Int) < (mN : Int)) = false from decide_eq_false (by omega)]
            refine iteF ?_
            refine iteF ?_
          rotate_left
          focus
            rw [show decide ((xs.length : Int) < (mN : Int)) = true from decide_eq_true (by omega)]
            refine iteT ?_
            refine ⟨_, rfl, S, dxY, _, rfl, eY, rfl, S, TT, p', _, rfl, hSY, hlE, rfl, _, rfl, ?_⟩
            rw [show (decide (V.str (sgn (41 :: post)) = V.str ",")) = false from ne_sgn (d := 44) (by decide)]
            refine iteF ?_
          all_goals
            refine ⟨_, rfl, S, dxY, _, rfl, eY, rfl, S, TT, p', ")", post, rfl, hSY, hlE, fun HE BE hSE => ?_⟩
            have hbE := bt_at BE (ni1 bS) hbY
            have hDE := bt_at BE (ni1 DS) hDY
            have e1 : (V.str wd) = V.str "use" := by rw [hwu]
            obtain ⟨dE, eE⟩ := hSE.ex
            have bE : Bt [S, D] HY HE := bt_weak (by simp) BE
            have hdE := dps_mono bE hdY
            rw [List.take_of_length_le (Nat.le_refl _)] at hdE
            have hbt : SqT K HE b bg := SqT.of hbE
            rw [hbu] at hbt
            refine ⟨_, rfl, ixA (.inr hbt) 0 rfl ⟨rfl, _, rfl, ?_⟩⟩
            refine iteT ?_
            refine ⟨_, rfl, ixA (.inr hbt) 1 rfl ⟨_, rfl, D, xs, rfl, .inl ⟨SqL.of hDE, fun u nu => ?_⟩⟩⟩
            obtain ⟨HF, sF, hu, qF⟩ := lay (o := .tup xs) nu
            rw [qF]
            refine ⟨by show 3 ≤ sizeLine; decide, fun v nv => ?_⟩
            obtain ⟨HG, sG, hv, qG⟩ := lay (o := .tup [.str "use", .str n, .ref u]) nv
            rw [qG]
            have uS : u ≠ S := fun e => by rw [e, eE] at nu; cases nu
            have vS : v ≠ S := fun e => by rw [e, sF _ _ eE] at nv; cases nv
            have BF : Bt [S] H HG := (((b1.trans BY).trans BE)).trans (bt_of (sF.trans sG))
            refine q _ (p' + 1) HG BF ⟨⟨dE, (sF.trans sG) _ _ eE⟩⟩ hlE.next ?_
            have edt : (GB.Tm.mk wd n ks).d = .tuple [.str "use", .str n, .tuple (ks.map GB.Tm.d)] := by rw [hwu, GB.Tm.d, if_pos rfl, ds_map]
            rw [edt]
            have dE2 : DpAll K (hid [S] HG) xs (ks.map GB.Tm.d) := dps_mono (fun c o e => by
              obtain ⟨e1, m⟩ := hid_in e
              exact hid_to (fun z => m (by rw [List.mem_singleton.mp z]; simp)) ((sF.trans sG) _ _ e1)) hdE
            exact .tup (SqT.of (hid_to (ni1 vS) hv)) (.cons (.str _) (.cons (.str _) (.cons (.tup (SqT.of (hid_to (ni1 uS) (sG _ _ hu))) dE2) .nil)))
        rw [show decide ((xs.length : Int) < (fN : Int)) = false from decide_eq_false (by omega)]
        refine iteF ?_
        refine ⟨_, rfl, D, xs, rfl, .inl (SqL.of hDY), _, rfl, _, _, rfl, rfl, _, rfl, ?_⟩
        rw [show decide ((xs.length : Int) < (mN : Int)) = false from decide_eq_false (by omega)]
        refine iteF ?_
        refine iteF ?_
        refine ⟨_, rfl, S, dxY, _, rfl, eY, rfl, S, TT, p', ")", post, rfl, hSY, hlE, fun HE BE hSE => ?_⟩
        have hbE := bt_at BE (ni1 bS) hbY
        have hDE := bt_at BE (ni1 DS) hDY
        obtain ⟨dE, eE⟩ := hSE.ex
        have bE : Bt [S, D] HY HE := bt_weak (by simp) BE
        have hdE := dps_mono bE hdY
        rw [List.take_of_length_le (Nat.le_refl _)] at hdE
        have hbt : SqT K HE b bg := SqT.of hbE
        rw [hbu] at hbt
        refine ⟨_, rfl, ixA (.inr hbt) 0 rfl ⟨rfl, _, rfl, ?_⟩⟩
        rw [decS, decide_eq_false hwn]
        refine iteF ?_
        refine ⟨_, rfl, b, _, rfl, .inl hbt, _, rfl, D, xs, rfl, .inr (SqL.of hDE), ?_, fun v nv => ?_⟩
        focus
          rw [hrr, sizeLine_eq]
          simp only [List.length_append, List.length_cons, List.length_nil]
          split <;> simp <;> omega
        obtain ⟨HG, sG, hv, qG⟩ := lay (o := .tup ((.str wd :: rr) ++ (xs ++ []))) nv
        rw [qG]
        have vS : v ≠ S := fun e => by rw [e, eE] at nv; cases nv
        have BF : Bt [S] H HG := (((b1.trans BY).trans BE)).trans (bt_of sG)
        refine q _ (p' + 1) HG BF ⟨⟨dE, sG _ _ eE⟩⟩ hlE.next ?_
        have dE2 : DpAll K (hid [S] HG) xs (ks.map GB.Tm.d) := dps_mono (fun c o e => by
          obtain ⟨e1, m⟩ := hid_in e
          exact hid_to (fun z => m (by rw [List.mem_singleton.mp z]; simp)) (sG _ _ e1)) hdE
        rw [htd]
        refine .tup (SqT.of (hid_to (ni1 vS) hv)) (dps_app ?_ (by rw [List.append_nil]; exact dE2))
        rw [hrr]
        split
        focus exact .cons (.str _) (.cons (.str _) .nil)
        exact .cons (.str _) .nil
end
end K27
set_option Elab.async false
set_option linter.all false
set_option maxRecDepth 100000
set_option maxHeartbeats 8000000
namespace K27
open PySem PySem.Spec L2 GB
/-- a ground and a term of it, as data -/
structure Tgt (K : PySem.W.Frag) (C : Addr) (H : Hp) (G : Addr) (v : V) (g : GD) (t : GB.Tm) : Prop where
  gr : IsGr C H G g
  nd : (g.letters.map (·.1)).Nodup
  dp : ∃ d, Dp K H v d ∧ IsTm d t
  ok : TmOk g.letters [] t
  sz : t.size ≤ 14
theorem Tgt.mono {K : PySem.W.Frag} {C : Addr} {H H' : Hp} {G : Addr} {v : V} {g : GD} {t : GB.Tm} (s : Same H H') (h : Tgt K C H G v g t) : Tgt K C H' G v g t := ⟨h.gr.mono s, h.nd, let ⟨d, a, b⟩ := h.dp; ⟨d, dp_mono s a, b⟩, h.ok, h.sz⟩
def spChd (K : PySem.W.Frag) (C : Addr) : Sp := fun vs H Q _ => ∃ (G : Addr) (v : V) (g : GD) (t : GB.Tm), vs = [.ref G, v] ∧ Tgt K C H G v g t ∧ ∀ u H', Same H H' → Dp K H' u t.d → Q u H'
def spChdX (K : PySem.W.Frag) (C CB : Addr) : Sp := fun vs H Q E => ∃ (G : Addr) (x : V) (g : GD), vs = [.ref G, x] ∧ IsGr C H G g ∧ (g.letters.map (·.1)).Nodup ∧
  ((∃ t, Tgt K C H G x g t ∧ ∀ u H', Same H H' → Dp K H' u t.d → Q u H') ∨ (∃ r, BadV K H g.letters 14 [] x r ∧ ∀ pb d H', Same H H' → SqT K H' pb (pin r) → H' d = some (.xd [("path", .ref pb)]) → E (.ref CB) (some d) H'))
section
variable {P : Program} {w : World} {K : PySem.W.Frag} {mg : Str → Option Value} {base : Heap} {C CB : Addr}
theorem scChd : FnScope ["ground", "thing"] ["ground", "thing"] (defScope sChecked) := ⟨rfl, rfl, rfl, by decide +kernel, rfl, by decide +kernel, by decide +kernel⟩

theorem ok_chdX {f : Addr} {fd : FuncData} (F : Fun K "checked" "checked" sChecked f fd) (CK : ∃ g gd, FnOk P w K mg base (L2.CX P w) 32 g gd ["ground", "thing", "names", "path"] (spChkX K C CB 14) ∧ mg "checked_within" = some (.ref g) ∧ PySem.W.keepIn K (.ref g) = true ∧ Binds K gd ["ground", "thing", "names", "path"] []) : FnOk P w K mg base (L2.CX P w) 33 f fd ["ground", "thing"] (spChdX K C CB) := by
  obtain ⟨fC, dC, FC, gC, kC, bC⟩ := CK
  refine F.okX scChd (fun vs H Q E h => ?_) (fun cdv A outer s H vs Q E hr h => ?_)
  · obtain ⟨G, x, g, rfl, _⟩ := h
    rfl
  · obtain ⟨G, x, g, rfl, hG, nd, h⟩ := h
    refine ⟨_, pss_one (ps_ret (pe_call FC hr rfl gC kC bC .nil (passes_call (takes_of rfl rfl rfl rfl) (fun _ _ _ _ h => h)) (pa_cons (pv 0) (pa_cons (pv 1) (pa_cons (pe_tup pa_nil) (pa_cons (pe_tup pa_nil) (pa_nil))))))), ?_⟩
    refine ⟨_, rfl, _, rfl, by show 0 ≤ sizeLine; decide, fun a na => ?_⟩
    obtain ⟨H1, s1, h1, e1⟩ := lay (o := .tup []) na
    rw [e1]
    refine ⟨by show 0 ≤ sizeLine; decide, fun b nb => ?_⟩
    obtain ⟨H2, s2, h2, e2⟩ := lay (o := .tup []) nb
    rw [e2]
    have S2 := s1.trans s2
    refine ⟨G, a, b, x, [], g, [], rfl, hG.mono S2, nd, by decide, SqT.of (s2 _ _ h1), by decide, SqT.of h2, by decide, ?_⟩
    rcases h with ⟨t, M, q⟩ | ⟨r, hb, q⟩
    · have M2 := M.mono S2
      obtain ⟨d, hd, hT⟩ := M2.dp
      exact .inl ⟨d, t, hd, hT, M2.ok, M2.sz, fun u H' s' hu => q u H' (S2.trans s') hu⟩
    · exact .inr ⟨r, hb.mono S2, fun pb d H' s' hp hx => q pb d H' (S2.trans s') hp hx⟩
theorem ok_chd {f : Addr} {fd : FuncData} (F : FnOk P w K mg base (L2.CX P w) 33 f fd ["ground", "thing"] (spChdX K C CB)) : FnOk P w K mg base CX0 33 f fd ["ground", "thing"] (spChd K C) :=
  FnOk.quiet F fun vs H Q E h => by
    obtain ⟨G, v, g, t, rfl, M, q⟩ := h
    exact ⟨G, v, g, rfl, M.gr, M.nd, .inl ⟨t, M, q⟩⟩
end
end K27
set_option Elab.async false
set_option linter.all false
set_option autoImplicit false
set_option maxRecDepth 100000
set_option maxHeartbeats 8000000
namespace K27
open PySem PySem.Spec L2 GB
abbrev sWh : Stmt := topS 27
abbrev sRd : Stmt := topS 24
abbrev sWr : Stmt := topS 23
def spWh (K : PySem.W.Frag) : Sp := fun vs H Q _ => ∃ (L : List (Str × Nat)) (ns : List Str) (t : GB.Tm), vs = [.str (txS t)] ∧ (∀ q ∈ L, q.1 ∈ nmA) ∧ (∀ q ∈ L, q.2 ≤ 2) ∧ TmOk L ns t ∧ t.size ≤ 14 ∧ ∀ v H', Same H H' → Dp K H' v t.d → Q v H'
def spRd (K : PySem.W.Frag) (C : Addr) : Sp := fun vs H Q _ => ∃ (G : Addr) (g : GD) (t : GB.Tm), vs = [.ref G, .str (txS t)] ∧ IsGr C H G g ∧ (g.letters.map (·.1)).Nodup ∧ (∀ q ∈ g.letters, q.1 ∈ nmA) ∧ (∀ q ∈ g.letters, q.2 ≤ 2) ∧ TmOk g.letters [] t ∧ t.size ≤ 14 ∧ ∀ v H', Same H H' → Dp K H' v t.d → Q v H'
def spWr (K : PySem.W.Frag) (C : Addr) : Sp := fun vs H Q _ => ∃ (G : Addr) (v : V) (g : GD) (t : GB.Tm), vs = [.ref G, v] ∧ Dp K H v t.d ∧ IsGr C H G g ∧ (g.letters.map (·.1)).Nodup ∧ (∀ q ∈ g.letters, q.1 ∈ nmA) ∧ TmOk g.letters [] t ∧ t.size ≤ 14 ∧ ∀ H', Same H H' → Q (.str (txS t)) H'
section
variable {P : Program} {w : World} {K : PySem.W.Frag} {mg : Str → Option Value} {base : Heap} {C CS : Addr}
theorem scWh : FnScope ["text", "signs", "term"] ["text"] (defScope sWh) := ⟨rfl, rfl, rfl, by decide +kernel, rfl, by decide +kernel, by decide +kernel⟩
theorem scRd : FnScope ["ground", "text"] ["ground", "text"] (defScope sRd) := ⟨rfl, rfl, rfl, by decide +kernel, rfl, by decide +kernel, by decide +kernel⟩
theorem scWr : FnScope ["ground", "term"] ["ground", "term"] (defScope sWr) := ⟨rfl, rfl, rfl, by decide +kernel, rfl, by decide +kernel, by decide +kernel⟩
theorem ok_wr {f : Addr} {fd : FuncData} (F : Fun K "written" "written" sWr f fd) (TX : Fns P w K mg base "text_of" 16 ["term"] (spTxt K 14)) (CH : Fns P w K mg base "checked" 33 ["ground", "thing"] (spChd K C)) : FnOk P w K mg base CX0 34 f fd ["ground", "term"] (spWr K C) := by
  refine F.ok scWr (fun vs H Q E h => ?_) (fun cdv A outer s H vs Q E hr h => ?_)
  · obtain ⟨G, v, g, t, rfl, _⟩ := h
    rfl
  · obtain ⟨G, v, g, t, rfl, hd, gr, nd, hA, ho, hz, q⟩ := h
    refine ⟨_, pss_one (ps_ret (pe_fn TX hr (by decide) rfl (pa_cons (pe_fn CH hr (by decide) rfl (pa_cons (pv 0) (pa_cons (pv 1) pa_nil))) pa_nil))), ?_⟩
    refine ⟨_, rfl, _, rfl, G, v, g, t, rfl, ⟨gr, nd, ⟨t.d, hd, isTm_own ho⟩, ho, hz⟩, fun u H1 s1 hu => ?_⟩
    exact ⟨u, g.letters, [], t, rfl, hu, nmA_name hA, ho, hz, by decide, fun H2 s2 => q H2 (s1.trans s2)⟩
theorem ok_rd {f : Addr} {fd : FuncData} (F : Fun K "read" "read" sRd f fd) (WH : Fns P w K mg base "_whole" 21 ["text"] (spWh K)) (CH : Fns P w K mg base "checked" 33 ["ground", "thing"] (spChd K C)) : FnOk P w K mg base CX0 34 f fd ["ground", "text"] (spRd K C) := by
  refine F.ok scRd (fun vs H Q E h => ?_) (fun cdv A outer s H vs Q E hr h => ?_)
  · obtain ⟨G, g, t, rfl, _⟩ := h
    rfl
  · obtain ⟨G, g, t, rfl, gr, nd, hA, hA2, ho, hz, q⟩ := h
    refine ⟨_, pss_one (ps_ret (pe_fn CH hr (by decide) rfl (pa_cons (pv 0) (pa_cons (pe_fn WH hr (by decide) rfl (pa_cons (pv 1) pa_nil)) pa_nil)))), ?_⟩
    refine ⟨_, rfl, _, rfl, g.letters, [], t, rfl, hA, hA2, ho, hz, fun v H1 s1 hv => ?_⟩
    exact ⟨G, v, g, t, rfl, ⟨gr.mono s1, nd, ⟨t.d, hv, isTm_own ho⟩, ho, hz⟩, fun u H2 s2 hu => q u H2 (s1.trans s2) hu⟩
theorem ok_wh {f fI fT : Addr} {fd fdI fdT : FuncData} (F : Fun K "_whole" "_whole" sWh f fd) (T : Bl mg) (SC : SgC K CS) (MK : Mk K CS fI) (FI : FnOk P w K mg base CX0 1 fI fdI ["self", "text"] (spSIni CS)) (bI : Binds K fdI ["self", "text"] []) (gC : mg "Signs" = some (.ref CS))
    (MT : Meth K CS "take_term" fT) (FT : FnOk P w K mg base CX0 19 fT fdT ["self"] (spTt K CS 14)) (bT : Binds K fdT ["self"] []) : FnOk P w K mg base CX0 21 f fd ["text"] (spWh K) := by
  refine F.ok scWh (fun vs H Q E h => ?_) (fun cdv A outer s H vs Q E hr h => ?_)
  · obtain ⟨L, ns, t, rfl, _⟩ := h
    rfl
  · obtain ⟨L, ns, t, rfl, hA, hA2, ho, hz, q⟩ := h
    have r2 := hr.mono (show 2 ≤ 20 by decide)
    have r19 := hr.mono (show 19 ≤ 20 by decide)
    refine ⟨_, pss_cons (ps_if (pt_not (pt_val (pe_callB call_isi (by rfl) T.isi (by decide +kernel) (pa_cons (pv 0) (pa_cons (pe_bltn (v := .ty "str") (by rfl) T.str (by decide +kernel) rfl) pa_nil))))) (pss_one ps_never) pss_nil)
      (pss_cons (ps_set (i := 1) scWh.nd rfl (.inl rfl) (pe_make MK FI r2 rfl gC bI .nil pass0 (pa_cons (pv 0) pa_nil)))
      (pss_cons (ps_set (i := 2) scWh.nd rfl (.inl rfl) (pe_meth0 (pv 1) SC.cl MT FT r19 bT .nil pass0 rfl))
      (pss_cons (ps_if (pt_cmpR op_lt (pe_fld (pv 1) rfl) (pe_callB call_len_str (by rfl) T.len PySem.boot_len (pa_cons (pv 0) pa_nil)) (nomark _)) (pss_one ps_never) pss_nil)
      (pss_one (ps_ret (pv 2)))))), ?_⟩
    have tlen := txL_len (nmA_name hA) t ho
    refine ⟨_, rfl, .str (txS t), .ty "str", .type "str", .type "str", true, rfl, .ty "str", .base (.str _), kit_ty (by decide +kernel), true, rfl, ?_⟩
    refine iteF ?_
    refine ⟨_, rfl, fun S dx nS ndx ne => ?_⟩
    have s0 : Same H (upd (upd H dx (.own S)) S (.ins CS dx [])) := fun b o e => by
      rw [upd_ne (ne_of_none e nS), upd_ne (ne_of_none e ndx)]
      exact e
    have sx : Same H (hid [S] (upd (upd H dx (.own S)) S (.ins CS dx []))) := same_hid_new nS s0
    refine ⟨S, dx, txS t, rfl, upd_same, fun H1 b1 hS1 => ⟨rfl, ?_⟩⟩
    obtain ⟨dx1, e1⟩ := hS1.ex
    have hl : Lf (txS t) 0 (txL t ++ []) := ⟨by rw [List.append_nil]; rfl, Nat.zero_le _, by rw [cl_txS]; omega⟩
    refine ⟨_, rfl, S, dx1, _, rfl, e1, rfl, S, txS t, 0, L, ns, t, [], rfl, hS1, hl, hA, hA2, ho, (fun c r e => nomatch e), hz, by decide, fun v p' H2 b2 hS2 hl2 hv => ?_⟩
    obtain ⟨dx2, e2⟩ := hS2.ex
    have hp : (cl (txS t)).length ≤ p' := List.drop_eq_nil_iff.mp hl2.dr
    refine ⟨_, rfl, S, CS, dx2, _, _, rfl, e2, SC.cl, SC.np, sgF_place _ p', _, rfl, txS t, rfl, sS_len hl, _, _, rfl, rfl, _, rfl, ?_⟩
    rw [show decide ((p' : Int) < ((txS t).length : Int)) = false from decide_eq_false (by rw [cl_len]; omega)]
    refine iteF ?_
    refine ⟨_, rfl, q v H2 (((sx.trans b1).trans b2).trans (hid_low _ _)) (dp_mono (hid_low _ _) hv)⟩
end
end K27
set_option Elab.async false
set_option linter.all false
set_option maxRecDepth 100000
set_option maxHeartbeats 4000000
namespace GB
open PySem PySem.Spec L2
def ks3 : List Str := ["value", "value", "fail"]
def en2 : List Str := ["one", "false"]
/-- a new thing behind a list's end -/
theorem ni3 {a p t e : Addr} (h1 : a ≠ p) (h2 : a ≠ t) (h3 : a ≠ e) : a ∉ [p, t, e] := by
  intro m
  simp only [List.mem_cons, List.not_mem_nil, or_false] at m
  rcases m with rfl | rfl | rfl
  · exact h1 rfl
  · exact h2 rfl
  · exact h3 rfl
theorem bt3 {p t e : Addr} {H H' : Hp} (s : Bt [p] H H') : Bt [p, t, e] H H' := bt_weak (fun q hq => by
  rw [List.mem_singleton.mp hq]; exact List.mem_cons_self) s
/-- if key not in seen: seen.append(key); end = (..); facts.append(..) -/
theorem fact_tail {K : PySem.W.Frag} {p tA eA kT L Dv : Addr} {x : Str} {l vs : List Str} {ts ks : List Addr} {as : List (Str × List Str)} {N : Nat} {s1 s2 s3 s4 s5 s7 s10 s13 s14 : Option V} {H : Hp} {D : Ends}
    (P : PoolIs H p N) (hN : N + 2 ≤ 1000000) (hT : H tA = some (.lst (ts.map V.ref))) (hE : H eA = some (.lst (ks.map V.ref))) (tp : tA ≠ p) (ep : eA ≠ p) (te : tA ≠ eA) (lt : ts.length ≤ 100) (lk : ks.length ≤ 100)
    (hk : H kT = some (.tup [.str x, .ref L])) (hL : H L = some (.lst (sts l))) (Lp : L ∉ [p, tA, eA]) (hD : H Dv = some (.lst (sts vs))) (Dp_ : Dv ∉ [p, tA, eA])
    (hs : DpAll K (hid [p, tA, eA] H) (ks.map V.ref) (as.map kd)) (oks : ∀ a ∈ as, OkS a) (okx : OkS (x, l))
    (same : (x, l) ∈ as → D.nx [some (.ref p), s1, s2, s3, s4, s5, some (.str x), s7, some (.ref tA), some (.ref eA), s10, some (.ref Dv), some (.ref kT), s13, s14] H)
    (more : (x, l) ∉ as → ∀ (H' : Hp) (t : Addr) (kk en : Str) (s13' : Option V), Bt [p, tA, eA] H H' → H' tA = some (.lst ((ts ++ [t]).map V.ref)) → H' eA = some (.lst ((ks ++ [kT]).map V.ref)) → FactAt (hid [p, tA, eA] H') ⟨x, vs, kk, en⟩ t → DpAll K (hid [p, tA, eA] H') ((ks ++ [kT]).map V.ref) ((as ++ [(x, l)]).map kd) →
      (kk = "value" ∨ kk = "fail") → (en = "one" ∨ en = "false") → PoolIs H' p (N + 2) → D.nx [some (.ref p), s1, s2, s3, s4, s5, some (.str x), s7, some (.ref tA), some (.ref eA), s10, some (.ref Dv), some (.ref kT), s13', s14] H') :
    tIfS (tTest (tOp (rNotInD K) (tVar 12) (tVar 9)))
      (tSeq (tDrop (tBM K "list" rAppend (tVar 9) (tCons (tVar 12) tNil)))
        (tSeq (tAsg (tTup (tCons (tCall (spOne K) [] E0 (tCons (tVar 0) (tCons (tLst (tCons (tC (.str "value")) (tCons (tC (.str "value")) (tCons (tC (.str "fail")) tNil)))) tNil)))
            (tCons (tCall (spOne K) [] E0 (tCons (tVar 0) (tCons (tLst (tCons (tC (.str "one")) (tCons (tC (.str "false")) tNil))) tNil))) tNil))) (gName 13))
          (tDrop (tBM K "list" rAppend (tVar 8) (tCons (tTup (tCons (tVar 6) (tCons (tCB (fun xs H Q => ∃ p ys, xs = [.ref p] ∧ ((SqL K H p ys ∧ ∀ l, H l = none → Q (.ref l) (upd H l (.tup ys))) ∨ (SqT K H p ys ∧ Q (.ref p) H))) (tCons (tVar 11) tNil)) (tCons (tVar 13) tNil)))) tNil)))))
      tNext D [some (.ref p), s1, s2, s3, s4, s5, some (.str x), s7, some (.ref tA), some (.ref eA), s10, some (.ref Dv), some (.ref kT), s13, s14] H := by
  have hk' : kT ∉ [p, tA, eA] := by
    obtain ⟨a, b, c, hp, _⟩ := P
    exact ni3 (ne_of hk hp (by intro z; cases z)) (ne_of hk hT (by intro z; cases z)) (ne_of hk hE (by intro z; cases z))
  have dk : Dp K (hid [p, tA, eA] H) (.ref kT) (kd (x, l)) := .tup (SqT.of (hid_to hk' hk)) (.cons (.str x) (.cons (.lst (SqL.of (hid_to Lp hL)) (dp_sts l)) .nil))
  refine ⟨_, rfl, _, rfl, kd (x, l), as.map kd, dp_mono (hid_low _ _) dk, .lst (SqL.of hE) (dps_mono (hid_low _ _) hs), sh_kd okx, sh_kds oks, _, rfl, ?_⟩
  rw [any_kd]
  by_cases c : (x, l) ∈ as
  · rw [decide_eq_true c]
    exact iteF (same c)
  · rw [decide_eq_false c]
    refine iteT ?_
    refine ⟨_, rfl, .inl ⟨rfl, _, SqL.of hE⟩, _, rfl, eA, _, _, rfl, rfl, hE, (by rw [List.length_map, sizeLine_eq]; omega), ?_⟩
    obtain ⟨H1, b1, h1, e1⟩ : ∃ H1, (∀ b o, b ≠ eA → H b = some o → H1 b = some o) ∧ H1 eA = some (.lst ((ks ++ [kT]).map V.ref)) ∧ upd H eA (.lst (ks.map V.ref ++ [.ref kT])) = H1 :=
      ⟨upd H eA (.lst (ks.map V.ref ++ [.ref kT])), fun b o z e => by rw [upd_ne z]; exact e, by rw [upd_same, List.map_append]; rfl, rfl⟩
    rw [e1]
    have B1 : Bt [p, tA, eA] H H1 := by rw [← e1]; exact bt_upd (by simp)
    have P1 : PoolIs H1 p N := by
      obtain ⟨a, b, c, hp, r⟩ := P
      exact ⟨a, b, c, b1 _ _ ep.symm hp, r⟩
    have hT1 := b1 _ _ te hT
    refine ⟨_, rfl, by show 3 ≤ sizeLine; decide, fun v3 n3 => ?_⟩
    obtain ⟨H2, s2', h2, e2⟩ := lay (o := .lst [.str "value", .str "value", .str "fail"]) n3
    rw [e2]
    have P2 := P1.mono s2' (Nat.le_refl _)
    refine ⟨p, v3, sts ks3, N, rfl, SqL.of (hid_to (ni1 (P1.ne n3)) h2), (fun z => nomatch z), by decide, by omega, P2, fun v H3 hv B3 P3 => ?_⟩
    obtain ⟨kk, hkk, rfl⟩ := mem_sts hv
    refine ⟨_, rfl, by show 2 ≤ sizeLine; decide, fun v2 n2 => ?_⟩
    obtain ⟨H4, s4', h4, e4⟩ := lay (o := .lst [.str "one", .str "false"]) n2
    rw [e4]
    have P4 := P3.mono s4' (Nat.le_refl _)
    refine ⟨p, v2, sts en2, N + 1, rfl, SqL.of (hid_to (ni1 (P3.ne n2)) h4), (fun z => nomatch z), by decide, by omega, P4, fun v H5 hv' B5 P5 => ?_⟩
    obtain ⟨en, hen, rfl⟩ := mem_sts hv'
    refine ⟨by show 2 ≤ sizeLine; decide, fun eT neT => ?_⟩
    obtain ⟨H6, s6, h6, e6⟩ := lay (o := .tup [.str kk, .str en]) neT
    rw [e6]
    have B16 : Bt [p] H1 H6 := ((bt_of s2').trans B3).trans (((bt_of s4').trans B5).trans (bt_of s6))
    have hT6 := bt_at B16 (ni1 tp) hT1
    have hE6 := bt_at B16 (ni1 ep) h1
    have B06 : Bt [p, tA, eA] H H6 := B1.trans (bt3 B16)
    have hD6 := bt_at B06 Dp_ hD
    refine ⟨_, rfl, .inl ⟨rfl, _, SqL.of hT6⟩, _, rfl, _, rfl, Dv, _, rfl, .inl ⟨SqL.of hD6, fun vT nvT => ?_⟩⟩
    obtain ⟨H7, s7', h7, e7⟩ := lay (o := .tup (sts vs)) nvT
    rw [e7]
    refine ⟨_, rfl, by show 3 ≤ sizeLine; decide, fun t nt => ?_⟩
    obtain ⟨H8, s8, h8, e8⟩ := lay (o := .tup [.str x, .ref vT, .ref eT]) nt
    rw [e8]
    have hT8 := s8 _ _ (s7' _ _ hT6)
    refine ⟨tA, _, _, rfl, rfl, hT8, (by rw [List.length_map, sizeLine_eq]; omega), ?_⟩
    obtain ⟨H9, b9, h9, e9⟩ : ∃ H9, (∀ b o, b ≠ tA → H8 b = some o → H9 b = some o) ∧ H9 tA = some (.lst ((ts ++ [t]).map V.ref)) ∧ upd H8 tA (.lst (ts.map V.ref ++ [.ref t])) = H9 :=
      ⟨upd H8 tA (.lst (ts.map V.ref ++ [.ref t])), fun b o z e => by rw [upd_ne z]; exact e, by rw [upd_same, List.map_append]; rfl, rfl⟩
    rw [e9]
    have B89 : Bt [p, tA, eA] H8 H9 := by rw [← e9]; exact bt_upd (by simp)
    have B09 : Bt [p, tA, eA] H H9 := B06.trans ((bt_of (s7'.trans s8)).trans B89)
    have P8 := P5.mono ((s6.trans s7').trans s8) (Nat.le_refl _)
    obtain ⟨a, b, c', hp8, pr8⟩ := id P8
    have tup_ni : ∀ {q : Addr} {o : List V}, H8 q = some (.tup o) → q ∉ [p, tA, eA] := fun h => ni3 (ne_of h hp8 (by intro z; cases z)) (ne_of h hT8 (by intro z; cases z)) (ne_of h (s8 _ _ (s7' _ _ hE6)) (by intro z; cases z))
    have up9 : ∀ {q : Addr} {o : List V}, H8 q = some (.tup o) → hid [p, tA, eA] H9 q = some (.tup o) := fun h => B89 _ _ (hid_to (tup_ni h) h)
    refine more c H9 t kk en _ B09 h9 (b9 _ _ te.symm (s8 _ _ (s7' _ _ hE6))) ⟨vT, eT, up9 h8, up9 (s8 _ _ h7), up9 (s8 _ _ (s7' _ _ h6))⟩ ?_ ?_ ?_ ⟨a, b, c', b9 _ _ tp.symm hp8, pr8⟩
    · rw [List.map_append, List.map_append]
      exact dps_app (dps_mono B09 hs) (.cons (dp_mono B09 dk) .nil)
    · simp only [ks3, List.mem_cons, List.not_mem_nil, or_false] at hkk
      rcases hkk with rfl | rfl | rfl
      · exact .inl rfl
      · exact .inl rfl
      · exact .inr rfl
    · simp only [en2, List.mem_cons, List.not_mem_nil, or_false] at hen
      exact hen
end GB
set_option Elab.async false
set_option linter.all false
set_option maxRecDepth 100000
set_option maxHeartbeats 8000000
namespace K27
open PySem PySem.Spec L2 GB
abbrev sGround : Stmt := topS 47
def grN : List Str := ["_law_pool_here", "_law_most", "_law_names", "_law_letters", "_law_fixed", "_law_name", "_law_x", "_law_commuting", "_law_facts", "_law_seen", "_law_k", "_law_values", "_law_key", "_law_end", "_law_j"]
def spGround : Sp := fun vs H Q _ => ∃ (p : Addr) (m : Int) (n : Nat), vs = [.ref p, .int m] ∧ 0 < m ∧ m ≤ 7 ∧ n + 500 ≤ 1000000 ∧ PoolIs H p n ∧
  ∀ g gd H', Bt [p] H H' → IsG (hid [p] H') g gd → gd.Wf → PoolIs H' p (n + 500) → Q (.ref g) H'
def grI (p : Addr) (m : Int) (n : Nat) (H : Hp) (aN dL fA : Addr) (ns : List Str) (i : Nat) (σ : L2.St) (H' : Hp) : Prop := ∃ (ls : List (Str × Nat)) (fx : List Str) (o5 : Option V), σ = [some (.ref p), some (.int m), some (.ref aN), some (.ref dL), some (.ref fA), o5, none, none, none, none, none, none, none, none, none] ∧
        Bt [p] H H' ∧ H' aN = some (.lst (sts ns)) ∧ H' dL = some (.dK (lkv ls)) ∧ H' fA = some (.lst (sts fx)) ∧ ls.map (·.1) = ns.take i ∧ (∀ q ∈ ls, q.2 ≤ 2) ∧ fx.Sublist (ns.take i) ∧ ls.length ≤ fx.length + 3 ∧ PoolIs H' p (n + 61 + 2 * i)
/-- after k turns of the facts' loop -/
def frI (K : PySem.W.Frag) (p : Addr) (m : Int) (aN dL fA cA tA eA : Addr) (o5 : Option V) (ls : List (Str × Nat)) (fx cm : List Str) (H11 : Hp) (n : Nat) (k : Nat) (σ : L2.St) (H' : Hp) : Prop :=
  ∃ (fs : List Fact) (ts ks : List Addr) (o6 o10 o11 o12 o13 : Option V), σ = [some (.ref p), some (.int m), some (.ref aN), some (.ref dL), some (.ref fA), o5, o6, some (.ref cA), some (.ref tA), some (.ref eA), o10, o11, o12, o13, none] ∧
    Bt [p, tA, eA] H11 H' ∧ H' tA = some (.lst (ts.map V.ref)) ∧ H' eA = some (.lst (ks.map V.ref)) ∧ Paired (FactAt (hid [p, tA, eA] H')) fs ts ∧ DpAll K (hid [p, tA, eA] H') (ks.map V.ref) ((fs.map (GD.mk ls fx cm []).asked).map kd) ∧
    fs.length ≤ k ∧ (∀ f ∈ fs, f.Ok ls fx) ∧ (fs.map (GD.mk ls fx cm []).asked).Nodup ∧ ks.length = fs.length ∧ PoolIs H' p (n + 5 * k)
section
variable {P : Program} {w : World} {K : PySem.W.Frag} {mg : Str → Option Value} {base : Heap}
theorem scGround : FnScope grN ["_law_pool_here", "_law_most"] (defScope sGround) := ⟨rfl, rfl, rfl, by decide +kernel, rfl, by decide +kernel, by decide +kernel⟩
theorem ok_ground {f : Addr} {fd : FuncData} (F : Fun K "_law_ground" "_law_ground" sGround f fd) (T : Bl mg) (TK : Fns P w K mg base "_law_take" 1 ["_law_pool_here", "_law_many"] spTake)
    (MX : Fns P w K mg base "_law_mixed" 2 ["_law_pool_here", "_law_things"] (spMixed K)) (ON : Fns P w K mg base "_law_one" 2 ["_law_pool_here", "_law_things"] (spOne K)) : FnOk P w K mg base CX0 3 f fd ["_law_pool_here", "_law_most"] spGround := by
  refine F.ok scGround (fun vs H Q E h => ?_) (fun cdv A outer s H vs Q E hr h => ?_)
  · obtain ⟨p, m, n, rfl, _⟩ := h
    rfl
  · obtain ⟨p, m, n, rfl, m0, m7, hn, hP, q⟩ := h
    have hu65 : (A.deeper (PyProof.Rows.envOfC "_law_ground" (defScope sGround) s.heap.objs.size f cdv)).units + 65 < cLine := by have := hr.un; omega
    refine ⟨_, pss_cons (ps_set (i := 2) scGround.nd rfl (.inl rfl) (pe_slice sl_list (pe_fn MX hr (by decide) rfl (pa_cons (pv 0) (pa_cons (pe_lst (pa_cons (pe_str) (pa_cons (pe_str) (pa_cons (pe_str) (pa_cons (pe_str) (pa_cons (pe_str) (pa_cons (pe_str) (pa_cons (pe_str) (pa_cons (pe_str) (pa_nil)))))))))) (pa_nil)))) po_none (po_some (pe_op op_add (pe_int) (pe_fn TK hr (by decide) rfl (pa_cons (pv 0) (pa_cons (pv 1) (pa_nil)))))))) (pss_cons (ps_asg (pe_tup (pa_cons (pe_dnewK) (pa_cons (pe_lst (pa_nil)) (pa_nil)))) (pg_tup rfl (pgs_cons (pg_name (i := 3) scGround.nd rfl (.inr rfl)) (pgs_cons (pg_name (i := 4) scGround.nd rfl (.inl rfl)) (pgs_nil))))) (pss_cons (ps_for PassesOwn.never rfl (pi_list (pv 2)) (pg_name (i := 5) scGround.nd rfl (.inl rfl)) (pss_cons (ps_dput (hu_of hr) (pv 3) (pv 5) (pe_fn ON hr (by decide) rfl (pa_cons (pv 0) (pa_cons (pe_lst (pa_cons (pe_int) (pa_cons (pe_int) (pa_cons (pe_int) (pa_cons (pe_int) (pa_cons (pe_int) (pa_nil))))))) (pa_nil)))) rfl) (pss_one (ps_if (PW.pt (pw_or (pt_cmpR op_gt (pe_op op_sub (pe_callB call_lenD (by rfl) T.len PySem.boot_len (pa_cons (pv 3) (pa_nil))) (pe_callB call_len_seq (by rfl) T.len PySem.boot_len (pa_cons (pv 4) (pa_nil)))) (pe_int) (nomark _)) (pw_or1 (pt_cmpR op_eq (pe_fn TK hr (by decide) rfl (pa_cons (pv 0) (pa_cons (pe_int) (pa_nil)))) (pe_int) (nomark _))))) (pss_one (ps_expr (pe_bm PySem.F.plainAttrs_list PySem.F.slot_list_append PySem.F.type_list_append mt_append (pv 4) (pa_cons (pv 5) (pa_nil))))) (pss_nil))))) (pss_cons (ps_setLc (i := 7) (own := [("_law_x", 6)]) (g := gName 6) (tt := tAnd (tTest (tOp rEq (tDGet (tVar 3) (tVar 6)) (tC (.int 2)))) (tTest (tOp rEq (tCall spTake [] E0 (tCons (tVar 0) (tCons (tC (.int 2)) tNil))) (tC (.int 0))))) rfl scGround.nd rfl rfl (sw_true rfl rfl rfl (by decide +kernel)) (pi_list (pv 4)) (blkOk_by (own := [("_law_x", 6)]) (N := grN) (sc := defScope sGround) (by decide +kernel)) (fun _ _ _ _ _ => pg_name (i := 6) scGround.nd rfl (.inl rfl)) (fun _ _ _ _ _ => pts_one (PW.pt (pw_and (pt_cmpR op_eq (pe_dget (hu_of hr) (pv 3) (pv 6) (fun _ _ => rfl)) (pe_int) (nomark _)) (pw_and1 (pt_cmpR op_eq (pe_fn TK hr (by decide) rfl (pa_cons (pv 0) (pa_cons (pe_int) (pa_nil)))) (pe_int) (nomark _)))))) (fun _ _ _ _ _ => pv 6)) (pss_cons (ps_par (i := 8) (j := 9) rfl scGround.nd rfl rfl (by decide) rfl rfl (pa_cons (pe_lst (pa_nil)) (pa_cons (pe_lst (pa_nil)) (pa_nil))) (by rfl)) (pss_cons (ps_for PassesOwn.never rfl (pi_range1 rfl T.range (pa_cons (pe_op op_mul (pe_ix ix_list (pe_lst (pa_cons (pe_int) (pa_cons (pe_int) (pa_cons (pe_int) (pa_cons (pe_int) (pa_cons (pe_int) (pa_nil))))))) (pe_fn TK hr (by decide) rfl (pa_cons (pv 0) (pa_cons (pe_int) (pa_nil)))) (fun _ _ => rfl)) (pe_callTy (call_int1) (by rfl) T.int (by decide +kernel) (pa_cons (pe_cmpR (op_neD hr.units) (pv 4) (pe_lst (pa_nil)) (nomark _)) (pa_nil)))) (pa_nil))) (pg_name (i := 10) scGround.nd rfl (.inl rfl)) (pss_cons (ps_set (i := 6) scGround.nd rfl (.inl rfl) (pe_fn ON hr (by decide) rfl (pa_cons (pv 0) (pa_cons (pv 4) (pa_nil))))) (pss_cons (ps_setLc (i := 11) (own := [("_law_j", 14)]) (g := gName 14) (tt := tYes) rfl scGround.nd rfl rfl (sw_true rfl rfl rfl (by decide +kernel)) (pi_range1 rfl T.range (pa_cons (pe_dget (hu_of hr) (pv 3) (pv 6) (fun _ _ => rfl)) (pa_nil))) (blkOk_by (own := [("_law_j", 14)]) (N := grN) (sc := defScope sGround) (by decide +kernel)) (fun _ _ _ _ _ => pg_name (i := 14) scGround.nd rfl (.inl rfl)) (fun _ _ _ _ _ => pts_nil) (fun _ _ _ _ _ => pe_fn ON hr (by decide) rfl (pa_cons (pv 0) (pa_cons (pe_lst (pa_cons (pe_str) (pa_cons (pe_str) (pa_cons (pe_str) (pa_nil))))) (pa_nil))))) (pss_cons (ps_set (i := 12) scGround.nd rfl (.inl rfl) (pe_tup (pa_cons (pv 6) (pa_cons (pe_ifExp (pt_cmpR op_in_seq (pv 6) (pv 7) (by rfl)) (pe_callB (cr_sortedS) (by rfl) T.sorted (by decide +kernel) (pa_cons (pv 11) (pa_nil))) (pv 11)) (pa_nil))))) (pss_one (ps_if (pt_cmpR (op_notInD hu65) (pv 12) (pv 9) (by rfl)) (pss_cons (ps_expr (pe_bm PySem.F.plainAttrs_list PySem.F.slot_list_append PySem.F.type_list_append mt_append (pv 9) (pa_cons (pv 12) (pa_nil)))) (pss_cons (ps_set (i := 13) scGround.nd rfl (.inl rfl) (pe_tup (pa_cons (pe_fn ON hr (by decide) rfl (pa_cons (pv 0) (pa_cons (pe_lst (pa_cons (pe_str) (pa_cons (pe_str) (pa_cons (pe_str) (pa_nil))))) (pa_nil)))) (pa_cons (pe_fn ON hr (by decide) rfl (pa_cons (pv 0) (pa_cons (pe_lst (pa_cons (pe_str) (pa_cons (pe_str) (pa_nil)))) (pa_nil)))) (pa_nil))))) (pss_one (ps_expr (pe_bm PySem.F.plainAttrs_list PySem.F.slot_list_append PySem.F.type_list_append mt_append (pv 8) (pa_cons (pe_tup (pa_cons (pv 6) (pa_cons (pe_callTy (call_tuple_of) (by rfl) T.tuple (by decide +kernel) (pa_cons (pv 11) (pa_nil))) (pa_cons (pv 13) (pa_nil))))) (pa_nil))))))) (pss_nil))))))) (pss_one (ps_ret (pe_callTy (call_dictP rfl) (by rfl) T.dict (by decide +kernel) (pa_cons (pe_lst (pa_cons (pe_tup (pa_cons (pe_str) (pa_cons (pv 3) (pa_nil)))) (pa_cons (pe_tup (pa_cons (pe_str) (pa_cons (pv 4) (pa_nil)))) (pa_cons (pe_tup (pa_cons (pe_str) (pa_cons (pv 7) (pa_nil)))) (pa_cons (pe_tup (pa_cons (pe_str) (pa_cons (pv 8) (pa_nil)))) (pa_nil)))))) (pa_nil)))))))))), ?_⟩
    refine ⟨_, rfl, by show 8 ≤ sizeLine; decide, fun a8 n8 => ?_⟩
    obtain ⟨H1, s1, h1, e1⟩ := lay (o := .lst [.str "x", .str "y", .str "z", .str "plus", .str "if", .str "name", .str "abcdefgh", .str "fail"]) n8
    rw [e1]
    have P1 := hP.mono s1 (Nat.le_refl _)
    have na8 := hP.ne n8
    refine ⟨p, a8, sts nm8, n, rfl, SqL.of (hid_to (ni1 na8) h1), by decide, by omega, P1, fun qa ys H2 hperm nqa b2 hqa P2 => ?_⟩
    refine ⟨_, rfl, _, rfl, p, m, n + 60, rfl, m0, by omega, by omega, P2, fun r H3 hr3 b3 P3 => ?_⟩
    have nqp : qa ≠ p := P1.ne nqa
    refine ⟨_, _, rfl, rfl, _, rfl, qa, ys, rfl, SqL.of (bt_at b3 (ni1 nqp) hqa), fun aN nN => ?_⟩
    obtain ⟨ns8, rfl, hp8⟩ := sts_perm hperm
    obtain ⟨H4, s4, h4, e4⟩ := lay (o := .lst (cutV (sts ns8) none (some (((1 + r : Nat) : Int))))) nN
    rw [show ((1 : Int) + (r : Int)) = ((1 + r : Nat) : Int) from (Int.natCast_add 1 r).symm, e4]
    have l8 : ns8.length = 8 := hp8.length_eq
    have hr4 : 1 + r ≤ 7 := by have := hr3; omega
    obtain ⟨ns, hns⟩ : ∃ ns, ns = ns8.take (1 + r) := ⟨_, rfl⟩
    have h4' : H4 aN = some (.lst (sts ns)) := by
      rw [h4, cut_to _ _ (by unfold sts; rw [List.length_map]; omega), hns]
      unfold sts
      rw [List.map_take]
    have nsl : ns.length = 1 + r := by rw [hns, List.length_take]; omega
    have nsub : ∀ x ∈ ns, x ∈ nmA := fun x hx => nmA_of <| hp8.subset (List.mem_of_mem_take (by rw [← hns]; exact hx))
    have nsnd : ns.Nodup := by
      rw [hns]
      exact (hp8.nodup_iff.mpr (by decide)).sublist (List.take_sublist _ _)
    have P4 := P3.mono s4 (Nat.le_refl _)
    have nNp : aN ≠ p := P3.ne nN
    have B4 : Bt [p] H H4 := ((bt_of s1).trans (b2.trans b3)).trans (bt_of s4)
    clear h4 e4 hqa h1 e1 hperm
    intro dL ndL
    obtain ⟨H5, s5, h5, e5⟩ := lay (o := .dK []) ndL
    rw [e5]
    refine ⟨by show 0 ≤ sizeLine; decide, fun fA nfA => ?_⟩
    obtain ⟨H6, s6, h6, e6⟩ := lay (o := .lst []) nfA
    rw [e6]
    refine ⟨by show 2 ≤ sizeLine; decide, fun tA ntA => ?_⟩
    obtain ⟨H7, s7, h7, e7⟩ := lay (o := .tup [.ref dL, .ref fA]) ntA
    rw [e7]
    refine ⟨tA, [.ref dL, .ref fA], rfl, SqT.of h7, rfl, .ref dL, [.ref fA], rfl, .ref fA, [], rfl, rfl, ?_⟩
    have s47 : Same H4 H7 := (s5.trans s6).trans s7
    have P7 := P4.mono s47 (Nat.le_refl _)
    have ndp : dL ≠ p := P4.ne ndL
    have nfp : fA ≠ p := (P4.mono s5 (Nat.le_refl _)).ne nfA
    have ndf : dL ≠ fA := ne_of_none h5 nfA
    have ndN : aN ≠ dL := ne_of_none h4' ndL
    have nfN : aN ≠ fA := ne_of_none (s5 _ _ h4') nfA
    have B7 : Bt [p] H H7 := B4.trans (bt_of s47)
    have ndLH : H dL = none := by
      cases e : H dL with
      | none => rfl
      | some o => rw [bt_at B4 (ni1 ndp) e] at ndL; cases ndL
    have nfAH : H fA = none := by
      cases e : H fA with
      | none => rfl
      | some o => rw [s5 _ _ (bt_at B4 (ni1 nfp) e)] at nfA; cases nfA
    have hS5 : ∀ {H' : Hp}, PoolIs H' p n → True := fun _ => trivial
    refine ⟨_, rfl, aN, rfl, ⟨_, SqL.of (s47 _ _ h4')⟩, for_list (K := K) (a := aN) (xs := sts ns) (grI p m n H aN dL fA ns)
      ⟨[], [], none, rfl, B7, s47 _ _ h4', s7 _ _ (s6 _ _ h5), s7 _ _ h6, rfl, (fun _ h => nomatch h), List.Sublist.refl _, Nat.zero_le _, P7.mono (Same.refl _) (by omega)⟩ (fun i σ H' _ ⟨_, _, _, _, _, h, _⟩ => SqL.of h) ?_ ?_⟩
    · rintro i x σ H8 hi ⟨ls, fx, o5, rfl, B8, hN8, hL8, hF8, hls, har, hfx, hnf, P8⟩
      obtain ⟨nm, hnm, rfl⟩ := sts_at hi
      have hil' : i < ns.length := (List.getElem?_eq_some_iff.mp hnm).1
      have tk : ns.take (i + 1) = ns.take i ++ [nm] := by rw [List.take_add_one, hnm]; rfl
      have nmn : nm ∉ ls.map (·.1) := by
        rw [hls]
        intro hm
        have nd := nsnd.sublist (List.take_sublist (i + 1) ns)
        rw [tk] at nd
        exact (List.nodup_append.mp nd).2.2 nm hm nm List.mem_cons_self rfl
      have lsl : ls.length = i := by
        have := congrArg List.length hls
        rw [List.length_map, List.length_take] at this
        omega
      refine ⟨_, rfl, by show 5 ≤ sizeLine; decide, fun b5 nb5 => ?_⟩
      obtain ⟨H9, s9, h9, e9⟩ := lay (o := .lst [.int 0, .int 0, .int 0, .int 1, .int 2]) nb5
      rw [e9]
      have P9 := P8.mono s9 (Nat.le_refl _)
      refine ⟨p, b5, [.int 0, .int 0, .int 0, .int 1, .int 2], _, rfl, SqL.of (hid_to (ni1 (P8.ne nb5)) h9), (fun h => nomatch h), (by show 5 ≤ 100000; decide), (by omega), P9, fun v H10 hv b10 P10 => ?_⟩
      obtain ⟨k, hk, rfl⟩ : ∃ k : Nat, k ≤ 2 ∧ v = .int k := by
        simp only [List.mem_cons, List.not_mem_nil, or_false] at hv
        rcases hv with rfl | rfl | rfl | rfl | rfl
        · exact ⟨0, by decide, rfl⟩
        · exact ⟨0, by decide, rfl⟩
        · exact ⟨0, by decide, rfl⟩
        · exact ⟨1, by decide, rfl⟩
        · exact ⟨2, by decide, rfl⟩
      have hL10 := bt_at b10 (ni1 ndp) (s9 _ _ hL8)
      have hF10 := bt_at b10 (ni1 nfp) (s9 _ _ hF8)
      have hN10 := bt_at b10 (ni1 nNp) (s9 _ _ hN8)
      refine ⟨_, rfl, _, rfl, dL, _, rfl, DPut.k (k := .inr nm) hL10 (by unfold lkv; rw [List.length_map, sizeLine_eq]; omega), ?_⟩
      have ep : putK (lkv ls) (.inr nm : Key) (V.int k) = lkv (ls ++ [(nm, k)]) := by
        rw [putK_new _ (valV_no nmn)]
        unfold lkv
        rw [List.map_append]
        rfl
      rw [ep]
      obtain ⟨H11, b11, h11, e11⟩ : ∃ H11, (∀ b o, b ≠ dL → H10 b = some o → H11 b = some o) ∧ H11 dL = some (.dK (lkv (ls ++ [(nm, k)]))) ∧ upd H10 dL (.dK (lkv (ls ++ [(nm, k)]))) = H11 :=
        ⟨upd H10 dL (.dK (lkv (ls ++ [(nm, k)]))), fun b o z e => by rw [upd_ne z]; exact e, upd_same, rfl⟩
      rw [e11]
      have hF11 := b11 _ _ ndf.symm hF10
      have hN11 := b11 _ _ ndN hN10
      have P11 : PoolIs H11 p (n + 61 + 2 * i + 1) := by
        obtain ⟨x, y, z, e, r⟩ := P10
        exact ⟨x, y, z, b11 _ _ ndp.symm e, r⟩
      have B11 : Bt [p] H H11 := fun b o e => by
        obtain ⟨e', nb⟩ := hid_in e
        exact hid_to nb (b11 _ _ (ne_of_none e' ndLH) (bt_at b10 nb (s9 _ _ (bt_at B8 nb e'))))
      have har' : ∀ q ∈ ls ++ [(nm, k)], q.2 ≤ 2 := fun q hq => by
        rcases List.mem_append.mp hq with h | h
        · exact har q h
        · rw [List.mem_singleton.mp h]; exact hk
      have hls' : (ls ++ [(nm, k)]).map (·.1) = ns.take (i + 1) := by rw [tk, List.map_append, hls]; rfl
      have fl : fx.length ≤ i := by
        have := hfx.length_le
        rw [List.length_take] at this
        omega
      refine ⟨_, rfl, dL, _, rfl, h11, _, rfl, fA, _, rfl, .inl (SqL.of hF11), _, _, rfl, rfl, _, _, rfl, rfl, _, rfl, ?_⟩
      have app : ∀ H12, Bt [p] H11 H12 → PoolIs H12 p (n + 61 + 2 * (i + 1)) → ∀ D : Ends, (∀ σ' H', grI p m n H aN dL fA ns (i + 1) σ' H' → D.nx σ' H') → (tDrop (tBM K "list" rAppend (tVar 4) (tCons (tVar 5) tNil))) D [some (.ref p), some (.int m), some (.ref aN), some (.ref dL), some (.ref fA), some (.str nm), none, none, none, none, none, none, none, none, none] H12 := fun H12 b12 P12 D fin => by
        have hF12 := bt_at b12 (ni1 nfp) hF11
        have hL12 := bt_at b12 (ni1 ndp) h11
        have hN12 := bt_at b12 (ni1 nNp) hN11
        refine ⟨_, rfl, .inl ⟨rfl, _, SqL.of hF12⟩, _, rfl, fA, _, _, rfl, rfl, hF12, (by rw [sts_len, sizeLine_eq]; omega), ?_⟩
        obtain ⟨H13, b13, h13, e13⟩ : ∃ H13, (∀ b o, b ≠ fA → H12 b = some o → H13 b = some o) ∧ H13 fA = some (.lst (sts (fx ++ [nm]))) ∧ upd H12 fA (.lst (sts fx ++ [.str nm])) = H13 :=
          ⟨upd H12 fA (.lst (sts fx ++ [.str nm])), fun b o z e => by rw [upd_ne z]; exact e, by rw [upd_same]; unfold sts; rw [List.map_append]; rfl, rfl⟩
        rw [e13]
        obtain ⟨x, y, z, ep12, pr12⟩ := P12
        refine fin _ _ ⟨ls ++ [(nm, k)], fx ++ [nm], _, rfl, fun b o e => ?_, b13 _ _ nfN hN12, b13 _ _ ndf hL12, h13, hls', har', ?_, ?_, ⟨x, y, z, b13 _ _ nfp.symm ep12, pr12⟩⟩
        · obtain ⟨e', nb⟩ := hid_in e
          exact hid_to nb (b13 _ _ (ne_of_none e' nfAH) (bt_at b12 nb (bt_at B11 nb e')))
        · rw [tk]; exact hfx.append (List.Sublist.refl _)
        · rw [List.length_append, List.length_append]; simp only [List.length_singleton]; omega
      have skip : ∀ H12, Bt [p] H11 H12 → PoolIs H12 p (n + 61 + 2 * (i + 1)) → ls.length + 1 ≤ fx.length + 3 → grI p m n H aN dL fA ns (i + 1) [some (.ref p), some (.int m), some (.ref aN), some (.ref dL), some (.ref fA), some (.str nm), none, none, none, none, none, none, none, none, none] H12 := fun H12 b12 P12 hle =>
        ⟨ls ++ [(nm, k)], fx, some (.str nm), rfl, B11.trans b12, bt_at b12 (ni1 nNp) hN11, bt_at b12 (ni1 ndp) h11, bt_at b12 (ni1 nfp) hF11, hls', har', (by rw [tk]; exact hfx.trans (List.sublist_append_left _ _)), (by rw [List.length_append]; exact hle), P12⟩
      by_cases c : (3 : Int) < (((lkv (ls ++ [(nm, k)])).length : Nat) : Int) - (((sts fx).length : Nat) : Int)
      · rw [decide_eq_true c]
        refine iteT (iteT (app H11 (Same.refl _) (P11.mono (Same.refl _) (by omega)) _ fun _ _ h => h))
      · rw [decide_eq_false c]
        refine iteF ⟨_, rfl, p, 3, _, rfl, by decide, by decide, (by omega), P11, fun r H12 hr12 b12 P12 => ⟨rfl, _, rfl, ?_⟩⟩
        have P12' := P12.mono (Same.refl _) (show _ ≤ n + 61 + 2 * (i + 1) by omega)
        by_cases c2 : (V.int (r : Int)) = .int 0
        · rw [decide_eq_true c2]
          exact iteT (app H12 b12 P12' _ fun _ _ h => h)
        · rw [decide_eq_false c2]
          refine iteF (skip H12 b12 P12' ?_)
          unfold lkv at c
          rw [List.length_map, List.length_append, sts_len] at c
          simp only [List.length_singleton] at c
          omega
    · rintro σ H8 ⟨ls, fx, o5, rfl, B8, hN8, hL8, hF8, hls, har, hfx, hnf, P8⟩
      rw [sts_len, List.take_length] at hls hfx
      rw [sts_len] at P8
      have lnd : (ls.map (·.1)).Nodup := by rw [hls]; exact nsnd
      have fin : ∀ x ∈ fx, ∃ k, (x, k) ∈ ls := fun x hx => by
        have := hfx.subset hx
        rw [← hls] at this
        obtain ⟨q, hq, rfl⟩ := List.mem_map.mp this
        exact ⟨q.2, hq⟩
      have lls : ls.length ≤ 7 := by
        have := congrArg List.length hls
        rw [List.length_map] at this
        omega
      have lfx : fx.length ≤ 7 := by have := hfx.length_le; omega
      have P8' : PoolIs H8 p (n + 80) := P8.mono (Same.refl _) (by omega)
      have f8 : ∀ x ∈ fx, x ∈ nmA := fun x hx => nsub x (hfx.subset hx)
      -- commuting
      refine ⟨_, rfl, fA, rfl, ⟨_, SqL.of hF8⟩, fun cA ncA => lc_list (K := K) (a := fA) (xs := sts fx) (fun i H' => ∃ cm : List Str, Bt [p, cA] H8 H' ∧ H' cA = some (.lst (sts cm)) ∧ cm.Sublist (fx.take i) ∧ (∀ x ∈ cm, (x, 2) ∈ ls) ∧ PoolIs H' p (n + 80 + i))
        ⟨[], bt_upd (by simp), upd_same, List.Sublist.refl _, (fun _ h => nomatch h), (by
          obtain ⟨x, y, z, e, r⟩ := P8'
          exact ⟨x, y, z, by rw [upd_ne (ne_of_none e ncA)]; exact e, r⟩)⟩ ?_ ?_ ?_⟩
      · rintro i H9 _ ⟨cm, B9, _⟩
        exact SqL.of (bt_at B9 (by simp [nfp, ne_of_none hF8 ncA]) hF8)
      · rintro i x H9 hi ⟨cm, B9, hC9, hcm, hc2, P9⟩
        obtain ⟨s, hs, rfl⟩ := sts_at hi
        have hsx : s ∈ fx := List.mem_of_getElem? hs
        obtain ⟨k, hk⟩ := fin s hsx
        have tk : fx.take (i + 1) = fx.take i ++ [s] := by rw [List.take_add_one, hs]; rfl
        have cp : cA ≠ p := P8.ne ncA
        have hL9 := bt_at B9 (by simp [ndp, ne_of_none hL8 ncA]) hL8
        have il : i < fx.length := (List.getElem?_eq_some_iff.mp hs).1
        have cml : cm.length ≤ 7 := by
          have := hcm.length_le
          rw [List.length_take] at this
          omega
        have drop : ∀ H', Bt [p] H9 H' → PoolIs H' p (n + 80 + (i + 1)) → ∃ cm : List Str, Bt [p, cA] H8 H' ∧ H' cA = some (.lst (sts cm)) ∧ cm.Sublist (fx.take (i + 1)) ∧ (∀ x ∈ cm, (x, 2) ∈ ls) ∧ PoolIs H' p (n + 80 + (i + 1)) := fun H' b P =>
          ⟨cm, B9.trans (bt_weak (by simp) b), bt_at b (ni1 cp) hC9, (by rw [tk]; exact hcm.trans (List.sublist_append_left _ _)), hc2, P⟩
        refine ⟨rfl, _, rfl, _, rfl, dL, .int k, rfl, (by rw [← valV_lkv lnd hk]; exact DGet.k (k := .inr s) hL9), rfl, _, rfl, ?_⟩
        by_cases c : (V.int (k : Int)) = .int 2
        · rw [decide_eq_true c]
          refine iteT ⟨_, rfl, p, 2, _, rfl, by decide, by decide, (by omega), P9, fun r H10 hr10 b10 P10 => ⟨rfl, _, rfl, ?_⟩⟩
          by_cases c2 : (V.int (r : Int)) = .int 0
          · rw [decide_eq_true c2]
            refine iteT ⟨_, rfl, sts cm, bt_at b10 (ni1 cp) hC9, (by rw [sts_len, sizeLine_eq]; omega), cm ++ [s], ?_, ?_, ?_, ?_, ?_⟩
            · exact B9.trans ((bt_weak (by simp) b10).trans (bt_upd (by simp)))
            · rw [upd_same]; unfold sts; rw [List.map_append]; rfl
            · rw [tk]; exact hcm.append (List.Sublist.refl _)
            · intro x hx
              rcases List.mem_append.mp hx with h | h
              · exact hc2 x h
              · obtain rfl := List.mem_singleton.mp h
                have : k = 2 := by injection c with c; omega
                rw [← this]; exact hk
            · obtain ⟨x, y, z, e, r⟩ := P10
              exact ⟨x, y, z, by rw [upd_ne cp.symm]; exact e, r⟩
          · rw [decide_eq_false c2]
            exact iteF (drop H10 b10 (P10.mono (Same.refl _) (by omega)))
        · rw [decide_eq_false c]
          exact iteF (iteF (drop H9 (Same.refl _) (P9.mono (Same.refl _) (by omega))))
      · rintro H9 ⟨cm, B9, hC9, hcm, hc2, P9⟩
        rw [sts_len, List.take_length] at hcm
        rw [sts_len] at P9
        have cp : cA ≠ p := P8.ne ncA
        have hL9 := bt_at B9 (by simp [ndp, ne_of_none hL8 ncA]) hL8
        have hF9 := bt_at B9 (by simp [nfp, ne_of_none hF8 ncA]) hF8
        have hN9 := bt_at B9 (by simp [nNp, ne_of_none hN8 ncA]) hN8
        have ncAH : H cA = none := by
          cases e : H cA with
          | none => rfl
          | some o => rw [bt_at B8 (ni1 cp) e] at ncA; cases ncA
        have B9' : Bt [p] H H9 := fun b o e => by
          obtain ⟨e', nb⟩ := hid_in e
          exact hid_to nb (bt_at B9 (by
            have := ne_of_none e' ncAH
            simp only [List.mem_cons, List.not_mem_nil, or_false, not_or]
            exact ⟨fun z => nb (by rw [z]; exact List.mem_cons_self), this⟩) (bt_at B8 nb e'))
        refine ⟨by show 0 ≤ sizeLine; decide, fun tA' ntA' => ?_⟩
        obtain ⟨H10, s10, h10, e10⟩ := lay (o := .lst []) ntA'
        rw [e10]
        refine ⟨by show 0 ≤ sizeLine; decide, fun eA neA => ?_⟩
        obtain ⟨H11, s11, h11, e11⟩ := lay (o := .lst []) neA
        rw [e11]
        refine ⟨_, _, rfl, ?_⟩
        have tp : tA' ≠ p := P9.ne ntA'
        have P11 := P9.mono (s10.trans s11) (Nat.le_refl _)
        have ep : eA ≠ p := (P9.mono s10 (Nat.le_refl _)).ne neA
        have te : tA' ≠ eA := ne_of_none h10 neA
        have s911 := s10.trans s11
        have hL11 := s911 _ _ hL9
        have hF11 := s911 _ _ hF9
        have hC11 := s911 _ _ hC9
        have nLt : dL ≠ tA' := ne_of_none hL9 ntA'
        have nFt : fA ≠ tA' := ne_of_none hF9 ntA'
        have nCt : cA ≠ tA' := ne_of_none hC9 ntA'
        have nLe : dL ≠ eA := ne_of_none (s10 _ _ hL9) neA
        have nFe : fA ≠ eA := ne_of_none (s10 _ _ hF9) neA
        have nCe : cA ≠ eA := ne_of_none (s10 _ _ hC9) neA
        have cmx : ∀ x ∈ cm, x ∈ fx := fun x hx => hcm.subset hx
        have cml : cm.length ≤ 7 := by have := hcm.length_le; omega
        refine ⟨by show 5 ≤ sizeLine; decide, fun b5 n5 => ?_⟩
        obtain ⟨H12, s12, h12, e12⟩ := lay (o := .lst [.int 0, .int 1, .int 2, .int 3, .int 6]) n5
        rw [e12]
        have P12 := P11.mono s12 (Nat.le_refl _)
        refine ⟨_, rfl, p, 5, _, rfl, by decide, by decide, by omega, P12, fun r H13 hr13 b13 P13 => ?_⟩
        obtain ⟨c, hc6, hv⟩ : ∃ c : Nat, c ≤ 6 ∧ ([.int 0, .int 1, .int 2, .int 3, .int 6] : List V)[r]? = some (.int c) := by
          have hr5 : r < 5 := by have := hr13; omega
          match r, hr5 with
          | 0, _ => exact ⟨0, by decide, rfl⟩
          | 1, _ => exact ⟨1, by decide, rfl⟩
          | 2, _ => exact ⟨2, by decide, rfl⟩
          | 3, _ => exact ⟨3, by decide, rfl⟩
          | 4, _ => exact ⟨6, by decide, rfl⟩
        refine ⟨b5, _, _, _, rfl, rfl, SqL.of (bt_at b13 (ni1 (P11.ne n5)) h12), atI_nat hv, ?_⟩
        have hF13 := bt_at b13 (ni1 nfp) (s12 _ _ hF11)
        refine ⟨_, rfl, by show 0 ≤ sizeLine; decide, fun zA nzA => ?_⟩
        obtain ⟨H14, s14, h14, e14⟩ := lay (o := .lst []) nzA
        rw [e14]
        refine ⟨.list (pst fx), .list [], .lst (SqL.of (s14 _ _ hF13)) (dp_sts fx), .lst (SqL.of h14) .nil, sh_pst (fun v hv => ok8 v (f8 v hv)), by decide +kernel, .inr ⟨_, rfl, _, _, rfl, rfl, .inl ⟨by omega, by omega⟩, ?_⟩⟩
        rw [ne_nil]
        obtain ⟨N, hN, hN6, hNx⟩ : ∃ N : Nat, (c : Int) * (if decide (fx ≠ []) = true then 1 else 0) = (N : Int) ∧ N ≤ 6 ∧ (0 < N → fx ≠ []) := by
          by_cases h : fx = []
          · exact ⟨0, by rw [decide_eq_false (not_not_intro h)]; simp, by decide, fun z => absurd z (by decide)⟩
          · exact ⟨c, by rw [decide_eq_true h]; simp, hc6, fun _ => h⟩
        have P14 := P13.mono s14 (Nat.le_refl _)
        have B1114 : Bt [p] H11 H14 := (bt_of s12).trans (b13.trans (bt_of s14))
        refine ⟨(N : Int), congrArg (fun z => [V.int z]) hN, by omega, by omega, for_range (lo := 0) (n := N) (frI K p m aN dL fA cA tA' eA o5 ls fx cm H11 (n + 90)) ?_ ?_ ?_⟩
        · refine ⟨[], [], [], none, none, none, none, none, rfl, bt3 B1114, bt_at B1114 (ni1 tp) (s11 _ _ h10), bt_at B1114 (ni1 ep) h11, .nil, .nil, Nat.zero_le _, (fun _ h => nomatch h), List.nodup_nil, rfl, P14.mono (Same.refl _) (by omega)⟩
        · rintro k σ H15 hk ⟨fs, ts, ks, o6, o10, o11, o12, o13, rfl, B15, hT15, hE15, hts, hks, hfl, hfo, hfd, hkl, P15⟩
          have hFx : hid [p, tA', eA] H15 fA = some (.lst (sts fx)) := B15 _ _ (hid_to (ni3 nfp nFt nFe) hF11)
          have hF15 := (hid_in hFx).1
          have hL15 := bt_at B15 (ni3 ndp nLt nLe) hL11
          have hC15 := bt_at B15 (ni3 cp nCt nCe) hC11
          refine ⟨_, rfl, _, rfl, p, fA, sts fx, _, rfl, SqL.of (hid_to (ni1 nfp) hF15), ?_, (by rw [sts_len]; omega), (by omega), P15, fun v H16 hv16 b16 P16 => ?_⟩
          · have := hNx (by omega)
            cases fx with
            | nil => exact absurd rfl this
            | cons y z => exact fun e => nomatch e
          obtain ⟨x, hx, rfl⟩ := mem_sts hv16
          obtain ⟨kx, hkx⟩ := fin x hx
          have kx2 : kx ≤ 2 := har _ hkx
          have hL16 := bt_at b16 (ni1 ndp) hL15
          refine ⟨_, rfl, _, rfl, dL, .int kx, rfl, (by rw [← valV_lkv lnd hkx]; exact DGet.k (k := .inr x) hL16), kx, rfl, by omega, by omega, fun D nD => lc_range (lo := 0) (n := kx) (fun i H' => ∃ vs : List Str, Bt [p, D] H16 H' ∧ H' D = some (.lst (sts vs)) ∧ vs.length = i ∧ (∀ v ∈ vs, v ∈ va3) ∧ PoolIs H' p (n + 90 + 5 * k + 1 + i))
            ⟨[], bt_upd (by simp), upd_same, rfl, (fun _ h => nomatch h), (by
              obtain ⟨x, y, z, e, r⟩ := P16
              exact ⟨x, y, z, by rw [upd_ne (ne_of_none e nD)]; exact e, r⟩)⟩ ?_ ?_⟩
          · rintro i H17 hi ⟨vs, B17, hD17, hvl, hv3, P17⟩
            have Dp1 : D ≠ p := P16.ne nD
            refine ⟨rfl, _, rfl, by show 3 ≤ sizeLine; decide, fun b3 nb3 => ?_⟩
            obtain ⟨H18, s18, h18, e18⟩ := lay (o := .lst [.str "one", .str "two", .str "false"]) nb3
            rw [e18]
            refine ⟨p, b3, sts va3, _, rfl, SqL.of (hid_to (ni1 (P17.ne nb3)) h18), (fun z => nomatch z), by decide, by omega, P17.mono s18 (Nat.le_refl _), fun v H19 hv19 b19 P19 => ?_⟩
            obtain ⟨u, hu, rfl⟩ := mem_sts hv19
            have hD19 := bt_at b19 (ni1 Dp1) (s18 _ _ hD17)
            refine ⟨_, hD19, (by rw [sts_len, sizeLine_eq]; omega), vs ++ [u], ?_, ?_, ?_, ?_, ?_⟩
            · exact B17.trans ((bt_of s18).trans ((bt_weak (by simp) b19).trans (bt_upd (by simp))))
            · rw [upd_same]; unfold sts; rw [List.map_append]; rfl
            · rw [List.length_append, hvl]; rfl
            · intro v hv
              rcases List.mem_append.mp hv with h | h
              · exact hv3 v h
              · rw [List.mem_singleton.mp h]; exact hu
            · obtain ⟨x, y, z, e, r⟩ := P19
              exact ⟨x, y, z, by rw [upd_ne Dp1.symm]; exact e, r⟩
          · rintro H17 ⟨vs, B17, hD17, hvl, hv3, P17⟩
            have Dp1 : D ≠ p := P16.ne nD
            have nDx : ∀ {b : Addr} {o : HO}, H16 b = some o → b ≠ D := fun e => ne_of_none e nD
            have B1617 : ∀ {qs : List Addr}, p ∈ qs → Bt qs H16 H17 := fun {qs} hq b o e => by
              obtain ⟨e', nb⟩ := hid_in e
              refine hid_to nb (bt_at B17 ?_ e')
              intro mm
              simp only [List.mem_cons, List.not_mem_nil, or_false] at mm
              rcases mm with rfl | rfl
              · exact nb hq
              · exact nDx e' rfl
            have B1517 : Bt [p, tA', eA] H15 H17 := (bt3 b16).trans (B1617 (by simp))
            have B1117 := B15.trans B1517
            have hT16 := bt_at b16 (ni1 tp) hT15
            have hE16 := bt_at b16 (ni1 ep) hE15
            have hT17 := bt_at B17 (by simp [tp, nDx hT16]) hT16
            have hE17 := bt_at B17 (by simp [ep, nDx hE16]) hE16
            have hC17 := bt_at B1117 (ni3 cp nCt nCe) hC11
            have Dn3 : D ∉ [p, tA', eA] := ni3 Dp1 (nDx hT16).symm (nDx hE16).symm
            have v2l : vs.length ≤ 2 := by omega
            have okx : PyData.strOk x = true := ok8 x (f8 x hx)
            have lts : ts.length ≤ 100 := by
              have := Paired.length hts
              omega
            have askok : ∀ f, f.Ok ls fx → OkS ((GD.mk ls fx cm []).asked f) := fun f hf => ⟨ok8 _ (f8 _ hf.x), fun v hv => by
              have e : v ∈ f.vals := by
                unfold GD.asked at hv
                dsimp only at hv
                split at hv
                · have hp := sort2_perm f.vals
                  exact hp.subset hv
                · exact hv
              exact ok3 v (hf.vals v e)⟩
            have oks : ∀ a ∈ fs.map (GD.mk ls fx cm []).asked, OkS a := fun a ha => by
              obtain ⟨f, hf, rfl⟩ := List.mem_map.mp ha
              exact askok f (hfo f hf)
            have fOk : ∀ kk en : Str, (kk = "value" ∨ kk = "fail") → (en = "one" ∨ en = "false") → Fact.Ok ls fx ⟨x, vs, kk, en⟩ := fun kk en h1 h2 => ⟨hx, ⟨kx, hkx, hvl⟩, hv3, h1, h2⟩
            have tail : ∀ (H18 : Hp) (kT : Addr) (l : List Str), Same H17 H18 → (GD.mk ls fx cm []).asked ⟨x, vs, "value", "one"⟩ = (x, l) →
                ((x, l) ∈ fs.map (GD.mk ls fx cm []).asked → frI K p m aN dL fA cA tA' eA o5 ls fx cm H11 (n + 90) (k + 1) [some (.ref p), some (.int m), some (.ref aN), some (.ref dL), some (.ref fA), o5, some (.str x), some (.ref cA), some (.ref tA'), some (.ref eA), some (.int (0 + (k : Int))), some (.ref D), some (.ref kT), o13, none] H18) ∧
                ((x, l) ∉ fs.map (GD.mk ls fx cm []).asked → ∀ (H' : Hp) (t : Addr) (kk en : Str) (s13' : Option V), Bt [p, tA', eA] H18 H' → H' tA' = some (.lst ((ts ++ [t]).map V.ref)) → H' eA = some (.lst ((ks ++ [kT]).map V.ref)) → FactAt (hid [p, tA', eA] H') ⟨x, vs, kk, en⟩ t →
                  DpAll K (hid [p, tA', eA] H') ((ks ++ [kT]).map V.ref) ((fs.map (GD.mk ls fx cm []).asked ++ [(x, l)]).map kd) → (kk = "value" ∨ kk = "fail") → (en = "one" ∨ en = "false") → PoolIs H' p (n + 90 + 5 * k + 1 + kx + 2) →
                  frI K p m aN dL fA cA tA' eA o5 ls fx cm H11 (n + 90) (k + 1) [some (.ref p), some (.int m), some (.ref aN), some (.ref dL), some (.ref fA), o5, some (.str x), some (.ref cA), some (.ref tA'), some (.ref eA), some (.int (0 + (k : Int))), some (.ref D), some (.ref kT), s13', none] H') := fun H18 kT l s18 hask => by
              refine ⟨fun _ => ⟨fs, ts, ks, _, _, _, _, _, rfl, B1117.trans (bt_of s18), s18 _ _ hT17, s18 _ _ hE17, Paired.mapP hts fun _ _ r => r.mono (B1517.trans (bt_of s18)), dps_mono (B1517.trans (bt_of s18)) hks, (by omega), hfo, hfd, hkl, P17.mono s18 (by omega)⟩, fun hnew H' t kk en s13' b' hT' hE' hf' hs' h1 h2 P' => ?_⟩
              have eq : (GD.mk ls fx cm []).asked ⟨x, vs, kk, en⟩ = (x, l) := hask
              refine ⟨fs ++ [⟨x, vs, kk, en⟩], ts ++ [t], ks ++ [kT], _, _, _, _, _, rfl, (B1117.trans (bt_of s18)).trans b', hT', hE', ?_, ?_, ?_, ?_, ?_, ?_, P'.mono (Same.refl _) (by omega)⟩
              · exact paired_app (Paired.mapP hts fun _ _ r => r.mono ((B1517.trans (bt_of s18)).trans b')) (.cons hf' .nil)
              · rw [List.map_append (f := (GD.mk ls fx cm []).asked)]
                show DpAll K _ _ ((fs.map (GD.mk ls fx cm []).asked ++ [(GD.mk ls fx cm []).asked ⟨x, vs, kk, en⟩]).map kd)
                rw [eq]
                exact hs'
              · rw [List.length_append]
                show fs.length + 1 ≤ k + 1
                omega
              · intro f hf
                rcases List.mem_append.mp hf with h | h
                · exact hfo f h
                · rw [List.mem_singleton.mp h]; exact fOk kk en h1 h2
              · rw [List.map_append, List.nodup_append]
                refine ⟨hfd, by simp, fun a ha b hb e => ?_⟩
                have hb' : b = (GD.mk ls fx cm []).asked ⟨x, vs, kk, en⟩ := List.mem_singleton.mp hb
                rw [hb', eq] at e
                rw [e] at ha
                exact hnew ha
              · rw [List.length_append, List.length_append, hkl]
                rfl
            refine ⟨_, rfl, _, rfl, _, rfl, cA, sts cm, rfl, .inl (SqL.of hC17), rfl, flat_sts cm, _, rfl, ?_⟩
            rw [if_neg Bool.false_ne_true, inV_sts]
            by_cases hxc : x ∈ cm
            · rw [decide_eq_true hxc]
              refine iteT ⟨_, rfl, D, vs, rfl, SqL.of hD17, by omega, fun ys q2 hperm hsrt nq2 => ?_⟩
              obtain ⟨H18, s18, h18, e18⟩ := lay (o := .lst (ys.map V.str)) nq2
              rw [e18]
              refine ⟨by show 2 ≤ sizeLine; decide, fun kT nkT => ?_⟩
              obtain ⟨H19, s19, h19, e19⟩ := lay (o := .tup [.str x, .ref q2]) nkT
              rw [e19]
              have ey : ys = sort2 vs := sort2_of hperm hsrt v2l hv3
              have s1719 := s18.trans s19
              have hask : (GD.mk ls fx cm []).asked ⟨x, vs, "value", "one"⟩ = (x, ys) := by
                rw [ey]
                show (x, if x ∈ cm then sort2 vs else vs) = (x, sort2 vs)
                rw [if_pos hxc]
              have q2n : q2 ∉ [p, tA', eA] := ni3 (P17.ne nq2) (ne_of_none hT17 nq2).symm (ne_of_none hE17 nq2).symm
              exact fact_tail (P17.mono s1719 (Nat.le_refl _)) (by omega) (s1719 _ _ hT17) (s1719 _ _ hE17) tp ep te lts (by omega) h19 (s19 _ _ h18) q2n (s1719 _ _ hD17) Dn3 (dps_mono (B1517.trans (bt_of s1719)) hks) oks
                ⟨okx, fun v hv => ok3 v (hv3 v (hperm.subset hv))⟩ (tail H19 kT ys s1719 hask).1 (tail H19 kT ys s1719 hask).2
            · rw [decide_eq_false hxc]
              refine iteF ⟨_, rfl, by show 2 ≤ sizeLine; decide, fun kT nkT => ?_⟩
              obtain ⟨H19, s19, h19, e19⟩ := lay (o := .tup [.str x, .ref D]) nkT
              rw [e19]
              have hask : (GD.mk ls fx cm []).asked ⟨x, vs, "value", "one"⟩ = (x, vs) := by
                show (x, if x ∈ cm then sort2 vs else vs) = (x, vs)
                rw [if_neg hxc]
              exact fact_tail (P17.mono s19 (Nat.le_refl _)) (by omega) (s19 _ _ hT17) (s19 _ _ hE17) tp ep te lts (by omega) h19 (s19 _ _ hD17) Dn3 (s19 _ _ hD17) Dn3 (dps_mono (B1517.trans (bt_of s19)) hks) oks
                ⟨okx, fun v hv => ok3 v (hv3 v hv)⟩ (tail H19 kT vs s19 hask).1 (tail H19 kT vs s19 hask).2
        · rintro σ H15 ⟨fs, ts, ks, o6, o10, o11, o12, o13, rfl, B15, hT15, hE15, hts, hks, hfl, hfo, hfd, hkl, P15⟩
          have hFx := bt_at B15 (ni3 nfp nFt nFe) hF11
          have hLx := bt_at B15 (ni3 ndp nLt nLe) hL11
          have hCx := bt_at B15 (ni3 cp nCt nCe) hC11
          have ntH : ∀ {b : Addr} {o : HO}, H b = some o → b ≠ p → b ∉ [p, tA', eA] := fun e np => by
            have e9 := bt_at B9' (ni1 np) e
            exact ni3 np (ne_of_none e9 ntA') (ne_of_none (s10 _ _ e9) neA)
          have B015 : Bt [p] H H15 := fun b o e => by
            obtain ⟨e', nb⟩ := hid_in e
            have np : b ≠ p := fun z => nb (by rw [z]; exact List.mem_cons_self)
            exact hid_to nb (bt_at B15 (ntH e' np) (s911 _ _ (bt_at B9' nb e')))
          refine ⟨_, rfl, by show 2 ≤ sizeLine; decide, fun t1 n1 => ?_⟩
          obtain ⟨G1, g1, k1, e1⟩ := lay (o := .tup [.str "letters", .ref dL]) n1
          rw [e1]
          refine ⟨_, rfl, by show 2 ≤ sizeLine; decide, fun t2 n2 => ?_⟩
          obtain ⟨G2, g2, k2, e2⟩ := lay (o := .tup [.str "fixed", .ref fA]) n2
          rw [e2]
          refine ⟨_, rfl, by show 2 ≤ sizeLine; decide, fun t3 n3 => ?_⟩
          obtain ⟨G3, g3, k3, e3⟩ := lay (o := .tup [.str "commuting", .ref cA]) n3
          rw [e3]
          refine ⟨_, rfl, by show 2 ≤ sizeLine; decide, fun t4 n4 => ?_⟩
          obtain ⟨G4, g4, k4, e4⟩ := lay (o := .tup [.str "facts", .ref tA']) n4
          rw [e4]
          refine ⟨by show 4 ≤ sizeLine; decide, fun tl ntl => ?_⟩
          obtain ⟨G5, g5, k5, e5⟩ := lay (o := .lst [.ref t1, .ref t2, .ref t3, .ref t4]) ntl
          rw [e5]
          refine ⟨tl, [t1, t2, t3, t4], [(.inr "letters", .ref dL), (.inr "fixed", .ref fA), (.inr "commuting", .ref cA), (.inr "facts", .ref tA')], rfl, SqL.of k5,
            .cons (SqT.of (g5 _ _ (g4 _ _ (g3 _ _ (g2 _ _ k1))))) (.cons (SqT.of (g5 _ _ (g4 _ _ (g3 _ _ k2)))) (.cons (SqT.of (g5 _ _ (g4 _ _ k3))) (.cons (SqT.of (g5 _ _ k4)) .nil))), fun g ng => ?_⟩
          obtain ⟨G6, g6, k6, e6⟩ := lay (o := .dK [(.inr "letters", .ref dL), (.inr "fixed", .ref fA), (.inr "commuting", .ref cA), (.inr "facts", .ref tA')]) ng
          have em : mergeK [] [((.inr "letters" : Key), V.ref dL), (.inr "fixed", .ref fA), (.inr "commuting", .ref cA), (.inr "facts", .ref tA')] = [(.inr "letters", .ref dL), (.inr "fixed", .ref fA), (.inr "commuting", .ref cA), (.inr "facts", .ref tA')] := by rfl
          show Q (.ref g) (upd G5 g (.dK (mergeK [] [((.inr "letters" : Key), V.ref dL), (.inr "fixed", .ref fA), (.inr "commuting", .ref cA), (.inr "facts", .ref tA')])))
          rw [em, e6]
          have s156 : Same H15 G6 := ((((g1.trans g2).trans g3).trans g4).trans g5).trans g6
          have gp : g ≠ p := (P15.mono ((((g1.trans g2).trans g3).trans g4).trans g5) (Nat.le_refl _)).ne ng
          refine q g ⟨ls, fx, cm, fs⟩ G6 (B015.trans (bt_of s156)) ⟨dL, fA, cA, tA', hid_to (ni1 gp) k6, hid_to (ni1 ndp) (s156 _ _ hLx), hid_to (ni1 nfp) (s156 _ _ hFx), hid_to (ni1 cp) (s156 _ _ hCx), ts, hid_to (ni1 tp) (s156 _ _ hT15), Paired.mapP hts fun _ _ r => r.mono ((hid_less (by simp)).trans (hid_same s156))⟩ ?_ (P15.mono s156 (by omega))
          refine ⟨?_, lnd, ?_, (show ls.length ≤ 8 by have := congrArg List.length hls; rw [List.length_map] at this; omega), har, ?_, hcm, hc2, (show fs.length ≤ 6 by omega), hfo, hfd⟩
          · intro e
            have : ls.length = 0 := by
              have e' : ls = [] := e
              rw [e']; rfl
            have := congrArg List.length hls
            rw [List.length_map] at this
            omega
          · intro q hq
            refine nsub q.1 ?_
            rw [← hls]
            exact List.mem_map.mpr ⟨q, hq, rfl⟩
          · show fx.Sublist (ls.map (·.1))
            rw [hls]
            exact hfx
    --END
end
end K27
set_option Elab.async false
set_option linter.all false
set_option autoImplicit false
set_option maxRecDepth 100000
set_option maxHeartbeats 8000000
namespace GB
open PySem PySem.Spec L2
theorem merge_lkv : ∀ (b a : List (Str × Nat)), ((a ++ b).map (·.1)).Nodup → mergeK (lkv a) (lkv b) = lkv (a ++ b)
  | [], a, _ => by rw [List.append_nil]; rfl
  | q :: r, a, nd => by
    have nq : q.1 ∉ a.map (·.1) := by
      rw [List.map_append] at nd
      exact fun h => (List.nodup_append.mp nd).2.2 q.1 h q.1 (List.mem_cons_self) rfl
    show mergeK (putK (lkv a) (.inr q.1) (.int q.2)) (lkv r) = _
    have ep : putK (lkv a) (.inr q.1 : Key) (V.int q.2) = lkv (a ++ [q]) := by
      rw [putK_new _ (valV_no nq)]
      unfold lkv
      rw [List.map_append]
      rfl
    rw [ep, merge_lkv r (a ++ [q]) (by rw [List.append_assoc]; exact nd), List.append_assoc]
    rfl
theorem Paired.map_r27 {α β γ : Type} {R : α → γ → Prop} {f : β → γ} : ∀ {l : List α} {m : List β}, Paired (fun x y => R x (f y)) l m → Paired R l (m.map f)
  | _, _, .nil => .nil
  | _, _, .cons h t => .cons h (Paired.map_r27 t)
def nm11 : List Str := ["if", "and", "fail", "bind", "last", "x", "value", "use", "ifs", "an", "abcdefgh"]
end GB
namespace K27
open PySem PySem.Spec L2 GB
abbrev sWg : Stmt := topS 50
def wgN : List Str := ["_law_pool_here", "_law_names", "_law_letters", "_law_k"]
def spWg : Sp := fun vs H Q _ => ∃ (p : Addr) (n : Nat), vs = [.ref p] ∧ n + 500 ≤ 1000000 ∧ PoolIs H p n ∧
  ∀ g gd H', Bt [p] H H' → IsG (hid [p] H') g gd → gd.Wf → PoolIs H' p (n + 500) → Q (.ref g) H'
section
variable {P : Program} {w : World} {K : PySem.W.Frag} {mg : Str → Option Value} {base : Heap}
theorem scWg : FnScope wgN ["_law_pool_here"] (defScope sWg) := ⟨rfl, rfl, rfl, by decide +kernel, rfl, by decide +kernel, by decide +kernel⟩
theorem ok_wg {f : Addr} {fd : FuncData} (F : Fun K "_law_word_ground" "_law_word_ground" sWg f fd) (T : Bl mg) (TK : Fns P w K mg base "_law_take" 1 ["_law_pool_here", "_law_many"] spTake) (MX : Fns P w K mg base "_law_mixed" 2 ["_law_pool_here", "_law_things"] (spMixed K)) : FnOk P w K mg base CX0 3 f fd ["_law_pool_here"] spWg := by
  refine F.ok scWg (fun vs H Q E h => ?_) (fun cdv A outer s H vs Q E hr h => ?_)
  · obtain ⟨p, n, rfl, _⟩ := h
    rfl
  · obtain ⟨p, n, rfl, hn, hP, q⟩ := h
    refine ⟨_, pss_cons (ps_set (i := 1) scWg.nd rfl (.inr rfl) (pe_fn MX hr (by decide) rfl (pa_cons (pv 0) (pa_cons (pe_lst (pa_cons pe_str (pa_cons pe_str (pa_cons pe_str (pa_cons pe_str (pa_cons pe_str (pa_cons pe_str (pa_cons pe_str (pa_cons pe_str (pa_cons pe_str (pa_cons pe_str (pa_cons pe_str pa_nil)))))))))))) pa_nil))))
      (pss_cons (ps_set (i := 2) scWg.nd rfl (.inl rfl) (pe_callTy (call_dictP rfl) (by rfl) T.dict (by decide +kernel) (pa_cons (pe_lc (own := [("_law_k", 3)]) (g := gName 3) (tt := tYes) rfl scWg.nd (pi_range1 rfl T.range (pa_cons (pe_op op_add pe_int (pe_fn TK hr (by decide) rfl (pa_cons (pv 0) (pa_cons pe_int pa_nil)))) pa_nil)) (blkOk_by (own := [("_law_k", 3)]) (N := wgN) (sc := defScope sWg) (by decide +kernel)) (fun _ _ _ _ _ => pg_name (i := 3) scWg.nd rfl (.inl rfl)) (fun _ _ _ _ _ => pts_nil) (fun _ _ _ _ _ => pe_tup (pa_cons (pe_ix (r := rIxL K) ix_list (pv 1) (pv 3) (fun _ _ => rfl)) (pa_cons (pe_fn TK hr (by decide) rfl (pa_cons (pv 0) (pa_cons pe_int pa_nil))) pa_nil)))) pa_nil)))
      (pss_one (ps_ret (pe_callTy (call_dictP rfl) (by rfl) T.dict (by decide +kernel) (pa_cons (pe_lst (pa_cons (pe_tup (pa_cons pe_str (pa_cons (pv 2) pa_nil))) (pa_cons (pe_tup (pa_cons pe_str (pa_cons (pe_lst pa_nil) pa_nil))) (pa_cons (pe_tup (pa_cons pe_str (pa_cons (pe_lst pa_nil) pa_nil))) (pa_cons (pe_tup (pa_cons pe_str (pa_cons (pe_lst pa_nil) pa_nil))) pa_nil))))) pa_nil))))), ?_⟩
    refine ⟨_, rfl, by show 11 ≤ sizeLine; decide, fun a8 n8 => ?_⟩
    obtain ⟨H1, s1, h1, e1⟩ := lay (o := .lst [.str "if", .str "and", .str "fail", .str "bind", .str "last", .str "x", .str "value", .str "use", .str "ifs", .str "an", .str "abcdefgh"]) n8
    rw [e1]
    have P1 := hP.mono s1 (Nat.le_refl _)
    have na8 := hP.ne n8
    refine ⟨p, a8, sts nm11, n, rfl, SqL.of (hid_to (ni1 na8) h1), by decide, by omega, P1, fun qa ys H2 hperm nqa b2 hqa P2 => ?_⟩
    obtain ⟨ns, rfl, hp⟩ := sts_perm hperm
    have nqp : qa ≠ p := P1.ne nqa
    have nsl : ns.length = 11 := hp.length_eq
    have nnd : ns.Nodup := hp.nodup_iff.mpr (by decide)
    have nA : ∀ x ∈ ns, x ∈ nmA := fun x hx => (show ∀ y ∈ nm11, y ∈ nmA by decide) x (hp.subset hx)
    have B02 : Bt [p] H H2 := (bt_of s1).trans b2
    refine ⟨_, rfl, p, 4, n + 60, rfl, by decide, by decide, by omega, P2, fun r H3 hr3 b3 P3 => ?_⟩
    refine ⟨_, _, rfl, rfl, ?_⟩
    have hr4 : r < 4 := by have := hr3; omega
    have ej : (1 : Int) + (r : Int) = ((1 + r : Nat) : Int) := by omega
    refine ⟨_, rfl, by omega, by omega, fun D nD => ?_⟩
    rw [ej]
    have Dp1 : D ≠ p := P3.ne nD
    have hqa3 := bt_at b3 (ni1 nqp) hqa
    have B03 : Bt [p] H H3 := B02.trans b3
    have nDH : ∀ b o, H b = some o → b ≠ p → b ≠ D := fun b o e hb => ne_of_none (bt_at B03 (ni1 hb) e) nD
    have qD : qa ≠ D := ne_of_none hqa3 nD
    refine lc_it (n := 1 + r) walk_range (fun i H' => ∃ (ls : List (Str × Nat)) (ts : List Addr), ls.map (·.1) = ns.take i ∧ (∀ q ∈ ls, q.2 ≤ 2) ∧ H' D = some (.lst (ts.map V.ref)) ∧ Paired (fun t (q : Str × Nat) => SqT K (hid [p, D] H') t [.str q.1, .int (q.2 : Int)]) ts ls ∧ Bt [p] H H' ∧ H' qa = some (.lst (sts ns)) ∧ PoolIs H' p (n + 61 + i)) ⟨[], [], rfl, (fun q h => nomatch h), upd_same, .nil, B03.trans (bt_of (same_new nD)), by rw [upd_ne qD]; exact hqa3, P3.mono (same_new nD) (by omega)⟩ (fun _ _ _ _ => trivial) ?_ ?_
    · rintro i x H4 H4' hi ⟨ls, ts, hls, har, hD, hts, B4, hq4, P4⟩ ⟨rfl, rfl⟩
      refine ⟨rfl, ?_⟩
      have hin : i < ns.length := by omega
      have hni : ns[i]? = some ns[i] := List.getElem?_eq_getElem hin
      refine ⟨_, rfl, _, rfl, qa, _, _, .str ns[i], rfl, rfl, SqL.of hq4, (by rw [Int.zero_add]; exact atI_nat (by unfold sts; rw [List.getElem?_map, hni]; rfl)), _, rfl, p, 3, _, rfl, by decide, by decide, by omega, P4, fun r4 H5 hr5 b5 P5 => ?_⟩
      refine ⟨by show 2 ≤ sizeLine; decide, fun t nt => ?_⟩
      obtain ⟨H6, s6, h6, e6⟩ := lay (o := .tup [.str ns[i], .int (r4 : Int)]) nt
      rw [e6]
      have hD5 := bt_at b5 (ni1 Dp1) hD
      have lts : ts.length = ls.length := Paired.length hts
      have lls : ls.length ≤ i := by
        have := congrArg List.length hls
        rw [List.length_map, List.length_take] at this
        omega
      have tD : t ≠ D := fun e => by rw [e, hD5] at nt; cases nt
      have tp : t ≠ p := P5.ne nt
      refine ⟨_, s6 _ _ hD5, by rw [List.length_map, sizeLine_eq]; omega, ls ++ [(ns[i], r4)], ts ++ [t], ?_, ?_, ?_, ?_, ?_, ?_, ?_⟩
      · rw [List.map_append, hls, take_at hni]; rfl
      · intro q hq
        rcases List.mem_append.mp hq with h | h
        · exact har q h
        · rw [List.mem_singleton.mp h]; have := hr5; show r4 ≤ 2; omega
      · rw [upd_same, List.map_append]; rfl
      · have bb : Bt [p, D] H4' H6 := (bt_weak (by simp) b5).trans (bt_of s6)
        have bu : Bt [p, D] H6 (upd H6 D (.lst (ts.map V.ref ++ [.ref t]))) := bt_upd (by simp)
        refine paired_app (Paired.mapP hts fun _ _ h => Same.seqT (bb.trans bu) h) (.cons ?_ .nil)
        exact Same.seqT bu (SqT.of (hid_to (by simp [tp, tD]) h6))
      · refine fun b o e => ?_
        obtain ⟨e1, m⟩ := hid_in e
        have bD := nDH b o e1 (fun z => m (by rw [z]; simp))
        obtain ⟨e2, _⟩ := hid_in (((B4.trans b5).trans (bt_of s6)) b o e)
        exact hid_to m (by rw [upd_ne bD]; exact e2)
      · rw [upd_ne qD]; exact s6 _ _ (bt_at b5 (ni1 nqp) hq4)
      · obtain ⟨x, y, z, e, pr⟩ := P5.mono s6 (Nat.le_refl _)
        exact ⟨x, y, z, by rw [upd_ne Dp1.symm]; exact e, pr.1, pr.2.1, pr.2.2.1, pr.2.2.2.1, by omega⟩
    · rintro H4 ⟨ls, ts, hls, har, hD, hts, B4, hq4, P4⟩
      have lns : ls.length = 1 + r := by
        have := congrArg List.length hls
        rw [List.length_map, List.length_take] at this
        omega
      have lnd : (ls.map (·.1)).Nodup := by rw [hls]; exact nnd.sublist (List.take_sublist _ _)
      refine ⟨D, ts, lkv ls, rfl, SqL.of hD, GB.Paired.map_r27 (Paired.mapP hts fun _ _ h => Same.seqT (hid_low _ _) h), fun dL ndL => ?_⟩
      have em : mergeK [] (lkv ls) = lkv ls := merge_lkv ls [] (by rw [List.nil_append]; exact lnd)
      rw [em]
      obtain ⟨H5, s5, h5, e5⟩ := lay (o := .dK (lkv ls)) ndL
      rw [e5]
      have P5 := P4.mono s5 (Nat.le_refl _)
      have pdL : dL ≠ p := P4.ne ndL
      refine ⟨_, rfl, by show 2 ≤ sizeLine; decide, fun t1 nt1 => ?_⟩
      obtain ⟨G1, g1, k1, z1⟩ := lay (o := .tup [.str "letters", .ref dL]) nt1
      rw [z1]
      refine ⟨by show 0 ≤ sizeLine; decide, fun fA nfA => ?_⟩
      obtain ⟨G2, g2, k2, z2⟩ := lay (o := .lst []) nfA
      rw [z2]
      refine ⟨by show 2 ≤ sizeLine; decide, fun t2 nt2 => ?_⟩
      obtain ⟨G3, g3, k3, z3⟩ := lay (o := .tup [.str "fixed", .ref fA]) nt2
      rw [z3]
      refine ⟨by show 0 ≤ sizeLine; decide, fun cA ncA => ?_⟩
      obtain ⟨G4, g4, k4, z4⟩ := lay (o := .lst []) ncA
      rw [z4]
      refine ⟨by show 2 ≤ sizeLine; decide, fun t3 nt3 => ?_⟩
      obtain ⟨G5, g5, k5, z5⟩ := lay (o := .tup [.str "commuting", .ref cA]) nt3
      rw [z5]
      refine ⟨by show 0 ≤ sizeLine; decide, fun tA ntA => ?_⟩
      obtain ⟨G6, g6, k6, z6⟩ := lay (o := .lst []) ntA
      rw [z6]
      refine ⟨by show 2 ≤ sizeLine; decide, fun t4 nt4 => ?_⟩
      obtain ⟨G7, g7, k7, z7⟩ := lay (o := .tup [.str "facts", .ref tA]) nt4
      rw [z7]
      refine ⟨by show 4 ≤ sizeLine; decide, fun tl ntl => ?_⟩
      obtain ⟨G8, g8, k8, z8⟩ := lay (o := .lst [.ref t1, .ref t2, .ref t3, .ref t4]) ntl
      rw [z8]
      have u57 : Same G4 G8 := ((g5.trans g6).trans g7).trans g8
      have u28 : Same G2 G8 := (g3.trans g4).trans u57
      refine ⟨tl, [t1, t2, t3, t4], [(.inr "letters", .ref dL), (.inr "fixed", .ref fA), (.inr "commuting", .ref cA), (.inr "facts", .ref tA)], rfl, SqL.of k8,
        .cons (SqT.of (u28 _ _ (g2 _ _ k1))) (.cons (SqT.of ((g4.trans u57) _ _ k3)) (.cons (SqT.of (((g6.trans g7).trans g8) _ _ k5)) (.cons (SqT.of (g8 _ _ k7)) .nil))), fun g ng => ?_⟩
      obtain ⟨G9, g9, k9, z9⟩ := lay (o := .dK [(.inr "letters", .ref dL), (.inr "fixed", .ref fA), (.inr "commuting", .ref cA), (.inr "facts", .ref tA)]) ng
      have em2 : mergeK [] [((.inr "letters" : Key), V.ref dL), (.inr "fixed", .ref fA), (.inr "commuting", .ref cA), (.inr "facts", .ref tA)] = [(.inr "letters", .ref dL), (.inr "fixed", .ref fA), (.inr "commuting", .ref cA), (.inr "facts", .ref tA)] := by rfl
      show Q (.ref g) (upd G8 g (.dK (mergeK [] [((.inr "letters" : Key), V.ref dL), (.inr "fixed", .ref fA), (.inr "commuting", .ref cA), (.inr "facts", .ref tA)])))
      rw [em2, z9]
      have w59 : Same H5 G9 := ((g1.trans g2).trans (u28)).trans g9
      have P9 := P5.mono w59 (Nat.le_refl _)
      have P1' := P5.mono g1 (Nat.le_refl _)
      have P3' := P1'.mono (g2.trans g3) (Nat.le_refl _)
      have P5' := P3'.mono (g4.trans g5) (Nat.le_refl _)
      have P8' := P5'.mono ((g6.trans g7).trans g8) (Nat.le_refl _)
      refine q g ⟨ls, [], [], []⟩ G9 (B4.trans (bt_of (s5.trans w59))) ⟨dL, fA, cA, tA, hid_to (ni1 (P8'.ne ng)) k9, hid_to (ni1 pdL) (w59 _ _ h5), hid_to (ni1 (P1'.ne nfA)) ((u28.trans g9) _ _ k2), hid_to (ni1 (P3'.ne ncA)) ((u57.trans g9) _ _ k4), [], hid_to (ni1 (P5'.ne ntA)) (((g7.trans g8).trans g9) _ _ k6), .nil⟩ ?_ (P9.mono (Same.refl _) (by omega))
      refine ⟨?_, lnd, ?_, ?_, har, List.nil_sublist _, List.nil_sublist _, (fun x h => nomatch h), Nat.zero_le _, (fun f h => nomatch h), .nil⟩
      · intro e
        have e' : ls = [] := e
        rw [e'] at lns
        simp at lns
        omega
      · intro q hq
        refine nA q.1 (List.mem_of_mem_take (i := 1 + r) ?_)
        rw [← hls]
        exact List.mem_map.mpr ⟨q, hq, rfl⟩
      · show ls.length ≤ 8
        omega
end
end K27
set_option Elab.async false
set_option linter.all false
set_option maxRecDepth 100000
set_option maxHeartbeats 16000000
namespace K27
open PySem PySem.Spec L2 GB
abbrev sTerm : Stmt := topS 49
def termN : List Str := ["_law_pool_here", "_law_g", "_law_names", "_law_left", "_law_x", "_law_some", "_law_inner", "_law_words", "_law_word", "_law_name", "_law_first", "_law_many", "_law_k"]
/-- one of the things of a tuple -/
def spOneT (K : PySem.W.Frag) : Sp := fun vs H Q _ => ∃ (p t : Addr) (xs : List V) (n : Nat), vs = [.ref p, .ref t] ∧ SqT K (hid [p] H) t xs ∧ xs ≠ [] ∧ xs.length ≤ 100000 ∧ n + 1 ≤ 1000000 ∧ PoolIs H p n ∧
  ∀ (v : V) H', v ∈ xs → Bt [p] H H' → PoolIs H' p (n + 1) → Q v H'
def spTerm (K : PySem.W.Frag) (z : Nat) : Sp := fun vs H Q _ => ∃ (p g a l : Addr) (gd : GD) (ns : List Str) (x0 : Nat) (u0 : Int) (n : Nat), vs = [.ref p, .ref g, .ref a, .ref l] ∧ IsG (hid [p, l] H) g gd ∧ gd.Wf ∧ SqT K H a (sts ns) ∧ (∀ m ∈ ns, nameB m = true) ∧ ns.length + z ≤ 100 ∧ p ≠ l ∧
  H l = some (.lst [.int (x0 : Int), .int u0]) ∧ x0 < z ∧ z ≤ 20 ∧ PoolIs H p n ∧ n + 2 * (x0 + 1) ≤ 900000 ∧
  ∀ (v : V) (t : GB.Tm) (x1 : Nat) (u1 : Int) H', Bt [p, l] H H' → H' l = some (.lst [.int (x1 : Int), .int u1]) → t.size + x1 = x0 + 1 → TmOk gd.letters ns t → Dp K H' v t.d → PoolIs H' p (n + 2 * t.size) → Q v H'
section
variable {P : Program} {w : World} {K : PySem.W.Frag} {mg : Str → Option Value} {base : Heap} {C : Addr}
def opsI : List (Str × Nat) := [("if", 3), ("and", 2), ("or", 2), ("not", 1), ("bind", 2), ("try", 2), ("last", 2), ("then", 2), ("then", 2)]
def opsB : List (Str × Nat) := ("bind", 2) :: opsW
theorem opsI_B : ∀ q ∈ opsI, q ∈ opsB := by decide
theorem paired_at {α β : Type} {R : α → β → Prop} : ∀ {l : List α} {m : List β} {j : Nat} {c : α}, Paired R l m → l[j]? = some c → ∃ x, m[j]? = some x ∧ R c x
  | _, _, j, c, .nil, e => by simp at e
  | _, _, 0, c, .cons r _, e => by
    obtain rfl : _ = c := by simpa using e
    exact ⟨_, rfl, r⟩
  | _, _, j + 1, c, .cons _ t, e => paired_at (j := j) t (by simpa using e)
theorem sqT_bt {K : PySem.W.Frag} {ps : List Addr} {H H' : Hp} (hl : ∀ p ∈ ps, ∃ xs, H p = some (.lst xs)) (B : Bt ps H H') {a : Addr} {xs : List V} (h : SqT K H a xs) : SqT K H' a xs := Same.seqT (hid_low ps H') (Same.seqT B (sqT_hid hl h))
theorem leaf_d {w n : Str} (hw : w ∈ nmd) : (GB.Tm.mk w n []).d = .tuple [.str w, .str n] := by
  have : ∀ x ∈ nmd, x ≠ "use" ∧ x ≠ "bind" ∧ x ∉ opsW.map (·.1) := by decide
  obtain ⟨e1, e2, e3⟩ := this w hw
  rw [GB.Tm.d, if_neg e1, if_neg e2, if_neg e3]
theorem paired_map_r {α β γ : Type} {R : α → γ → Prop} {f : β → γ} : ∀ {l : List α} {m : List β}, Paired (fun x y => R x (f y)) l m → Paired R l (m.map f)
  | _, _, .nil => .nil
  | _, _, .cons h t => .cons h (paired_map_r t)
theorem merge_ops : ∀ q ∈ opsB, valV (mergeK [] (opsI.map fun q => ((.inr q.1 : Key), V.int ((q.2 : Nat) : Int)))) (.inr q.1 : Key) = some (.int (q.2 : Int)) := by
  intro q hq
  simp only [opsB, opsW, List.mem_cons, List.not_mem_nil, or_false] at hq
  rcases hq with rfl | rfl | rfl | rfl | rfl | rfl | rfl | rfl <;> rfl
theorem wf_len {g : GD} (w : g.Wf) : g.letters.length ≤ 8 := w.le
theorem ok_oneT {f : Addr} {fd : FuncData} (F : Fun K "_law_one" "_law_one" sOne f fd) (T : Bl mg) (TK : Fns P w K mg base "_law_take" 1 ["_law_pool_here", "_law_many"] spTake) : FnOk P w K mg base CX0 2 f fd ["_law_pool_here", "_law_things"] (spOneT K) := by
  refine F.ok scOne (fun vs H Q E h => ?_) (fun cdv A outer s H vs Q E hr h => ?_)
  · obtain ⟨p, t, xs, n, rfl, _⟩ := h
    rfl
  · obtain ⟨p, t, xs, n, rfl, hS, hx, hx2, hn, hP, q⟩ := h
    refine ⟨_, pss_one (ps_ret (pe_ix ix_tup (pv 1) (pe_fn TK hr (by decide) rfl (pa_cons (pv 0) (pa_cons (pe_callB call_len_seq (by rfl) T.len PySem.boot_len (pa_cons (pv 1) pa_nil)) pa_nil))) (fun _ _ => rfl))), ?_⟩
    have hS0 := Same.seqT (hid_low [p] H) hS
    have l0 : 0 < xs.length := List.length_pos_iff.mpr hx
    refine ⟨_, rfl, _, rfl, _, rfl, t, xs, rfl, .inr hS0, p, _, n, rfl, (by show (0 : Int) < (xs.length : Int); omega), (by show (xs.length : Int) < 1000000; omega), by omega, hP, fun r H4 hr' b4 P4 => ?_⟩
    have hr2 : r < xs.length := by have := hr'; omega
    exact ⟨t, xs, _, xs[r], rfl, rfl, Same.seqT (hid_low [p] H4) (Same.seqT b4 hS), atI_nat (List.getElem?_eq_getElem hr2), q _ H4 (List.getElem_mem hr2) b4 P4⟩
theorem dps_bt {K : PySem.W.Frag} {ps : List Addr} {H H' : Hp} (hl : ∀ p ∈ ps, ∃ xs, H p = some (.lst xs)) (B : Bt ps H H') {vs : List V} {ds : List PyData} (t : tupOs ds = true) (h : DpAll K H vs ds) : DpAll K H' vs ds := dps_mono ((B.trans (hid_low ps H'))) (dps_hid hl ds vs t h)
theorem dp_bt {K : PySem.W.Frag} {ps : List Addr} {H H' : Hp} (hl : ∀ p ∈ ps, ∃ xs, H p = some (.lst xs)) (B : Bt ps H H') {v : V} {d : PyData} (t : tupO d = true) (h : Dp K H v d) : Dp K H' v d := dp_mono ((B.trans (hid_low ps H'))) (dp_hid hl d v t h)
theorem pl_lists {H : Hp} {p l : Addr} {m : Nat} {xs : List V} (P : PoolIs H p m) (h : H l = some (.lst xs)) : ∀ q ∈ [p, l], ∃ ys, H q = some (.lst ys) := fun q hq => by
  simp only [List.mem_cons, List.not_mem_nil, or_false] at hq
  rcases hq with rfl | rfl
  · obtain ⟨x1, y1, w1', hp, _⟩ := P
    exact ⟨_, hp⟩
  · exact ⟨_, h⟩
theorem tupOs_map (ts : List GB.Tm) : tupOs (ts.map GB.Tm.d) = true := by rw [← ds_map]; exact tupO_ds ts
/-- the terms within, one after another -/
theorem kids_ok {z : Nat} {p g a l D : Addr} {gd : GD} {ns : List Str} {σ : L2.St} {H : Hp} {x0 k n : Nat} {u0 : Int} {Qd : Hp → Prop} (hσ : ∀ v, ((wipe σ [12]).set 12 (some v))[0]? = some (some (.ref p)) ∧ ((wipe σ [12]).set 12 (some v))[1]? = some (some (.ref g)) ∧ ((wipe σ [12]).set 12 (some v))[2]? = some (some (.ref a)) ∧ ((wipe σ [12]).set 12 (some v))[3]? = some (some (.ref l)) ∧ wipe ((wipe σ [12]).set 12 (some v)) [12] = wipe σ [12])
    (nD : H D = none) (hG : IsG (hid [p, l] H) g gd) (wf : gd.Wf) (ha : SqT K H a (sts ns)) (hnm : ∀ m ∈ ns, nameB m = true) (hnl : ns.length + z ≤ 100) (pl : p ≠ l) (hl : H l = some (.lst [.int (x0 : Int), .int u0])) (hx : k = 0 ∨ x0 < z) (hz : z ≤ 20) (hk : k ≤ 100) (hP : PoolIs H p n) (hn : n + 2 * (x0 + k) ≤ 900000)
    (done : ∀ (ts : List GB.Tm) (x1 : Nat) (u1 : Int) H' acc, ts.length = k → Bt [p, l] H H' → H' D = some (.lst acc) → DpAll K H' acc (ts.map GB.Tm.d) → H' l = some (.lst [.int (x1 : Int), .int u1]) → GB.Tm.sizes ts + x1 = x0 + k → (∀ (i : Nat) (t : GB.Tm), ts[i]? = some t → TmOk gd.letters ns t) → PoolIs H' p (n + 2 * GB.Tm.sizes ts) → Qd H') :
    ∃ W : Nat → Nat → Hp → Prop, (∃ m, W 0 m (upd H D (.lst []))) ∧ ∀ i m H, W i m H →
      ((Itr 0 k).stop i H ∧ Qd H) ∨ ((Itr 0 k).go i H ∧ ∃ Nx : Hp → Prop, (∀ H', Nx H' → ∃ m', m' < m ∧ W (i + 1) m' H') ∧ ∀ x H', (Itr 0 k).yld i H x H' → gName 12 x (wipe σ [12]) H' fun σ2 H2 => wipe σ2 [12] = wipe σ [12] ∧ tYes σ2 H2 fun b H3 =>
        if b = true then tCall (spTerm K z) [] E0 (tCons (tVar 0) (tCons (tVar 1) (tCons (tVar 2) (tCons (tVar 3) tNil)))) σ2 H3 fun y H4 => ∃ acc, H4 D = some (.lst acc) ∧ acc.length < sizeLine ∧ Nx (upd H4 D (.lst (acc ++ [y]))) else Nx H3) := by
  have Dp' : D ≠ p := hP.ne nD
  have Dl : D ≠ l := fun e => by rw [e, hl] at nD; cases nD
  have Dni : D ∉ [p, l] := by simp [Dp', Dl]
  have PL := pl_lists hP hl
  refine lc_it walk_range (fun i H' => ∃ (ts : List GB.Tm) (x1 : Nat) (u1 : Int) (acc : List V), ts.length = i ∧ Bt [p, l] H H' ∧ H' D = some (.lst acc) ∧ DpAll K H' acc (ts.map GB.Tm.d) ∧ H' l = some (.lst [.int (x1 : Int), .int u1]) ∧ GB.Tm.sizes ts + x1 = x0 + i ∧ (∀ (i : Nat) (t : GB.Tm), ts[i]? = some t → TmOk gd.letters ns t) ∧ PoolIs H' p (n + 2 * GB.Tm.sizes ts))
    ⟨[], x0, u0, [], rfl, bt_of (same_new nD), upd_same, .nil, by rw [upd_ne Dl.symm]; exact hl, by rw [GB.Tm.sizes]; omega, (fun i t h => by simp at h), hP.mono (same_new nD) (by omega)⟩ (fun _ _ _ _ => trivial) ?_ ?_
  · rintro i x H1 H1' hi ⟨ts, x1, u1, acc, hti, B1, hD, hd, hl1, hsz, hok, P1⟩ ⟨rfl, rfl⟩
    obtain ⟨e0, e1, e2, e3, e4⟩ := hσ (.int (0 + (i : Nat)))
    refine ⟨e4, ?_⟩
    have hx' : x0 < z := by
      rcases hx with h | h
      · omega
      · exact h
    have ls := len_sizes ts
    refine ⟨_, e0, _, e1, _, e2, _, e3, p, g, a, l, gd, ns, x1, u1, _, rfl, hG.mono B1, wf, sqT_bt PL B1 ha, hnm, by omega, pl, hl1, by omega, hz, P1, by omega, fun v t x2 u2 H2 B2 hl2 hs2 ok2 d2 P2 => ?_⟩
    have PL1 := pl_lists P1 hl1
    have hD2 := bt_at B2 Dni hD
    have ac2 := dps_bt PL1 B2 (tupOs_map ts) hd
    have lacc : acc.length = i := by rw [dps_len hd, List.length_map, hti]
    refine ⟨acc, hD2, by rw [sizeLine_eq]; omega, ts ++ [t], x2, u2, acc ++ [v], by rw [List.length_append, hti]; rfl, fun b o e => ?_, upd_same, ?_, by rw [upd_ne Dl.symm]; exact hl2, ?_, fun j t' h => ?_, ?_⟩
    · obtain ⟨e', m⟩ := hid_in e
      have bD : b ≠ D := ne_of_none e' nD
      exact hid_to m (by rw [upd_ne bD]; exact bt_at B2 m (bt_at B1 m e'))
    · rw [List.map_append]
      have bD : Bt [D] H2 (upd H2 D (.lst (acc ++ [v]))) := bt_upd (by simp)
      have LD : ∀ q ∈ [D], ∃ ys, H2 q = some (.lst ys) := fun q hq => by rw [List.mem_singleton.mp hq]; exact ⟨_, hD2⟩
      exact dps_app (dps_bt LD bD (tupOs_map ts) ac2) (.cons (dp_bt LD bD (tupO_d t) d2) .nil)
    · rw [sizes_app, GB.Tm.sizes, GB.Tm.sizes]; omega
    · rcases Nat.lt_or_ge j ts.length with hj | hj
      · rw [List.getElem?_append_left hj] at h
        exact hok j t' h
      · rw [List.getElem?_append_right hj] at h
        cases hjj : j - ts.length with
        | zero =>
          rw [hjj] at h
          obtain rfl := Option.some.inj h
          exact ok2
        | succ m => rw [hjj] at h; simp at h
    · have e : n + 2 * GB.Tm.sizes (ts ++ [t]) = n + 2 * GB.Tm.sizes ts + 2 * t.size := by rw [sizes_app, GB.Tm.sizes, GB.Tm.sizes]; omega
      rw [e]
      obtain ⟨x, y, w', hp, r⟩ := P2
      exact ⟨x, y, w', by rw [upd_ne Dp'.symm]; exact hp, r⟩
  · rintro H' ⟨ts, x1, u1, acc, h1, h2, h3, h4, h5, h6, h7, h8⟩
    exact done ts x1 u1 H' acc h1 h2 h3 h4 h5 h6 h7 h8
theorem scTerm : FnScope termN ["_law_pool_here", "_law_g", "_law_names", "_law_left"] (defScope sTerm) := ⟨rfl, rfl, rfl, by decide +kernel, rfl, by decide +kernel, by decide +kernel⟩

theorem ok_term {f : Addr} {fd : FuncData} (F : Fun K "_law_term" "_law_term" sTerm f fd) (T : Bl mg) (mgF : mg "_law_term" = some (.ref f)) (kF : PySem.W.keepIn K (.ref f) = true) (bF : Binds K fd ["_law_pool_here", "_law_g", "_law_names", "_law_left"] [])
    (ON : Fns P w K mg base "_law_one" 2 ["_law_pool_here", "_law_things"] (spOne K)) (OT : Fns P w K mg base "_law_one" 2 ["_law_pool_here", "_law_things"] (spOneT K)) : ∀ z : Nat, FnOk P w K mg base CX0 (2 + z) f fd ["_law_pool_here", "_law_g", "_law_names", "_law_left"] (spTerm K z) := by
  intro z
  induction z with
  | zero =>
    refine F.ok scTerm (fun vs H Q E h => ?_) (fun cdv A outer s H vs Q E hr h => ?_)
    · obtain ⟨p, g, a, l, gd, ns, x0, u0, n, rfl, _⟩ := h
      rfl
    · obtain ⟨p, g, a, l, gd, ns, x0, u0, n, rfl, _, _, _, _, _, _, _, hz, _⟩ := h
      exact absurd hz (by omega)
  | succ z ih =>
    have TM : Fns P w K mg base "_law_term" (2 + z) ["_law_pool_here", "_law_g", "_law_names", "_law_left"] (spTerm K z) := ⟨f, fd, ih, mgF, kF, bF⟩
    refine F.ok scTerm (fun vs H Q E h => ?_) (fun cdv A outer s H vs Q E hr h => ?_)
    · obtain ⟨p, g, a, l, gd, ns, x0, u0, n, rfl, _⟩ := h
      rfl
    · obtain ⟨p, g, a, l, gd, ns, x0, u0, n, rfl, hG, wf, ha, hnm, hnl, pl, hl, hx0, hz20, hP, hn, q⟩ := h
      have l2 : 2 ≤ 2 + z := by omega
      have lz : 2 + z ≤ 2 + z := by omega
      refine ⟨_, pss_cons (ps_lock (ps_setLc (i := 5) (own := [("_law_x", 4)]) (g := gName 4) (tt := tAnd (tTest (tOp (rI0 fun i j => .bl (decide (i ≤ j))) (tDGet (tDGet (tVar 1) (tC (.str "letters"))) (tVar 4)) (tOp (rIxL K) (tVar 3) (tC (.int 0))))) (tTest (tOp (rI0 fun i j => .bl (decide (i > j))) (tOp (rIxL K) (tVar 3) (tC (.int 1))) (tC (.int 0))))) rfl scTerm.nd rfl rfl (sw_true rfl rfl rfl (by decide +kernel)) (pi_keys (pe_dget (hu_of hr) (pv 1) (pe_str) (fun _ _ => rfl))) (blkOk_by (own := [("_law_x", 4)]) (N := termN) (sc := defScope sTerm) (by decide +kernel)) (fun _ _ _ _ _ => pg_name (i := 4) scTerm.nd rfl (.inl rfl)) (fun _ _ _ _ _ => pts_one (PW.pt (pw_and (pt_cmpR op_le (pe_dget (hu_of hr) (pe_dget (hu_of hr) (pv 1) (pe_str) (fun _ _ => rfl)) (pv 4) (fun _ _ => rfl)) (pe_ix ix_list (pv 3) (pe_int) (fun _ _ => rfl)) (nomark _)) (pw_and1 (pt_cmpR op_gt (pe_ix ix_list (pv 3) (pe_int) (fun _ _ => rfl)) (pe_int) (nomark _)))))) (fun _ _ _ _ _ => pv 4))) (pss_cons (ps_set (i := 6) scTerm.nd rfl (.inl rfl) (pe_op op_cat (pe_lst (pa_cons (pe_tup (pa_cons (pe_str) (pa_cons (pe_int) (pa_nil)))) (pa_cons (pe_tup (pa_cons (pe_str) (pa_cons (pe_int) (pa_nil)))) (pa_cons (pe_tup (pa_cons (pe_str) (pa_cons (pe_int) (pa_nil)))) (pa_cons (pe_tup (pa_cons (pe_str) (pa_cons (pe_int) (pa_nil)))) (pa_cons (pe_tup (pa_cons (pe_str) (pa_cons (pe_int) (pa_nil)))) (pa_cons (pe_tup (pa_cons (pe_str) (pa_cons (pe_int) (pa_nil)))) (pa_cons (pe_tup (pa_cons (pe_str) (pa_cons (pe_int) (pa_nil)))) (pa_nil))))))))) (pe_op op_rep (pe_lst (pa_cons (pe_tup (pa_cons (pe_str) (pa_cons (pe_int) (pa_nil)))) (pa_nil))) (pe_int)))) (pss_cons (ps_set (i := 7) scTerm.nd rfl (.inl rfl) (pe_op op_cat (pe_op op_cat (pe_op op_rep (pe_op op_rep (pe_lst (pa_cons (pe_str) (pa_nil))) (pe_int)) (pe_callTy (call_int1) (by rfl) T.int (by decide +kernel) (pa_cons (pe_cmpR (op_neD hr.units) (pv 5) (pe_lst (pa_nil)) (nomark _)) (pa_nil)))) (pe_lst (pa_cons (pe_str) (pa_cons (pe_str) (pa_nil))))) (pe_op op_rep (pe_op op_rep (pe_lst (pa_cons (pe_str) (pa_nil))) (pe_int)) (pe_callTy (call_int1) (by rfl) T.int (by decide +kernel) (pa_cons (pe_cmpR op_gt (pe_callB call_len_seq (by rfl) T.len PySem.boot_len (pa_cons (pv 2) (pa_nil))) (pe_int) (nomark _)) (pa_nil)))))) (pss_cons (ps_set (i := 7) scTerm.nd rfl (.inl rfl) (pe_op op_cat (pv 7) (pe_lc (own := [("_law_word", 8), ("_law_many", 11)]) (g := gTup K 2 (gCons (gName 8) (gCons (gName 11) gNil))) (tt := tTest (tOp (rI0 fun i j => .bl (decide (i ≤ j))) (tVar 11) (tOp (rIxL K) (tVar 3) (tC (.int 0))))) rfl scTerm.nd (pi_list (pv 6)) (blkOk_by (own := [("_law_word", 8), ("_law_many", 11)]) (N := termN) (sc := defScope sTerm) (by decide +kernel)) (fun _ _ _ _ _ => pg_tup rfl (pgs_cons (pg_name (i := 8) scTerm.nd rfl (.inl rfl)) (pgs_cons (pg_name (i := 11) scTerm.nd rfl (.inl rfl)) (pgs_nil)))) (fun _ _ _ _ _ => pts_one (pt_cmpR op_le (pv 11) (pe_ix ix_list (pv 3) (pe_int) (fun _ _ => rfl)) (nomark _))) (fun _ _ _ _ _ => pv 8)))) (pss_cons (ps_set (i := 8) scTerm.nd rfl (.inl rfl) (pe_fn ON hr l2 rfl (pa_cons (pv 0) (pa_cons (pv 7) (pa_nil))))) (pss_cons (ps_if (pt_cmpR op_in_seq (pv 8) (pe_tup (pa_cons (pe_str) (pa_cons (pe_str) (pa_nil)))) (by rfl)) (pss_one (ps_ret (pe_tup (pa_cons (pv 8) (pa_cons (pe_fn ON hr l2 rfl (pa_cons (pv 0) (pa_cons (pe_lst (pa_cons (pe_str) (pa_cons (pe_str) (pa_cons (pe_str) (pa_cons (pe_str) (pa_cons (pe_str) (pa_nil))))))) (pa_nil)))) (pa_nil)))))) (pss_nil)) (pss_cons (ps_if (pt_cmpR op_eq (pv 8) (pe_str) (nomark _)) (pss_one (ps_ret (pe_tup (pa_cons (pv 8) (pa_cons (pe_fn OT hr l2 rfl (pa_cons (pv 0) (pa_cons (pv 2) (pa_nil)))) (pa_nil)))))) (pss_nil)) (pss_cons (ps_if (pt_cmpR op_eq (pv 8) (pe_str) (nomark _)) (pss_cons (ps_set (i := 4) scTerm.nd rfl (.inl rfl) (pe_fn ON hr l2 rfl (pa_cons (pv 0) (pa_cons (pv 5) (pa_nil))))) (pss_cons (ps_asg (pe_tup (pa_cons (pe_op op_sub (pe_ix ix_list (pv 3) (pe_int) (fun _ _ => rfl)) (pe_dget (hu_of hr) (pe_dget (hu_of hr) (pv 1) (pe_str) (fun _ _ => rfl)) (pv 4) (fun _ _ => rfl))) (pa_cons (pe_op op_sub (pe_ix ix_list (pv 3) (pe_int) (fun _ _ => rfl)) (pe_int)) (pa_nil)))) (pg_tup rfl (pgs_cons (pg_sub (pv 3) pe_int set_list) (pgs_cons (pg_sub (pv 3) pe_int set_list) pgs_nil)))) (pss_one (ps_ret (pe_tup (pa_cons (pv 8) (pa_cons (pv 4) (pa_cons (pe_callTy (call_tuple_of) (by rfl) T.tuple (by decide +kernel) (pa_cons (pe_lc (own := [("_law_k", 12)]) (g := gName 12) (tt := tYes) rfl scTerm.nd (pi_range1 rfl T.range (pa_cons (pe_dget (hu_of hr) (pe_dget (hu_of hr) (pv 1) (pe_str) (fun _ _ => rfl)) (pv 4) (fun _ _ => rfl)) (pa_nil))) (blkOk_by (own := [("_law_k", 12)]) (N := termN) (sc := defScope sTerm) (by decide +kernel)) (fun _ _ _ _ _ => pg_name (i := 12) scTerm.nd rfl (.inl rfl)) (fun _ _ _ _ _ => pts_nil) (fun _ _ _ _ _ => pe_fn TM hr lz rfl (pa_cons (pv 0) (pa_cons (pv 1) (pa_cons (pv 2) (pa_cons (pv 3) (pa_nil))))))) (pa_nil))) (pa_nil))))))))) (pss_nil)) (pss_cons (ps_asg (pe_op op_sub (pe_ix ix_list (pv 3) (pe_int) (fun _ _ => rfl)) (pe_dget (hu_of hr) (pe_callTy (call_dictP rfl) (by rfl) T.dict (by decide +kernel) (pa_cons (pv 6) (pa_nil))) (pv 8) (fun _ _ => rfl))) (pg_sub (pv 3) pe_int set_list)) (pss_cons (ps_if (pt_cmpR op_eq (pv 8) (pe_str) (nomark _)) (pss_cons (ps_set (i := 9) scTerm.nd rfl (.inl rfl) (pe_fn ON hr l2 rfl (pa_cons (pv 0) (pa_cons (pe_lst (pa_cons (pe_str) (pa_cons (pe_str) (pa_cons (pe_str) (pa_cons (pe_str) (pa_nil)))))) (pa_nil))))) (pss_cons (ps_set (i := 10) scTerm.nd rfl (.inl rfl) (pe_fn TM hr lz rfl (pa_cons (pv 0) (pa_cons (pv 1) (pa_cons (pv 2) (pa_cons (pv 3) (pa_nil))))))) (pss_one (ps_ret (pe_tup (pa_cons (pv 8) (pa_cons (pv 9) (pa_cons (pv 10) (pa_cons (pe_fn TM hr lz rfl (pa_cons (pv 0) (pa_cons (pv 1) (pa_cons (pe_op op_catA (pv 2) (pe_tup (pa_cons (pv 9) (pa_nil)))) (pa_cons (pv 3) (pa_nil)))))) (pa_nil)))))))))) (pss_nil)) (pss_one (ps_ret (pe_callTy (call_tuple_of) (by rfl) T.tuple (by decide +kernel) (pa_cons (pe_op op_cat (pe_lst (pa_cons (pv 8) (pa_nil))) (pe_lc (own := [("_law_k", 12)]) (g := gName 12) (tt := tYes) rfl scTerm.nd (pi_range1 rfl T.range (pa_cons (pe_dget (hu_of hr) (pe_callTy (call_dictP rfl) (by rfl) T.dict (by decide +kernel) (pa_cons (pv 6) (pa_nil))) (pv 8) (fun _ _ => rfl)) (pa_nil))) (blkOk_by (own := [("_law_k", 12)]) (N := termN) (sc := defScope sTerm) (by decide +kernel)) (fun _ _ _ _ _ => pg_name (i := 12) scTerm.nd rfl (.inl rfl)) (fun _ _ _ _ _ => pts_nil) (fun _ _ _ _ _ => pe_fn TM hr lz rfl (pa_cons (pv 0) (pa_cons (pv 1) (pa_cons (pv 2) (pa_cons (pv 3) (pa_nil)))))))) (pa_nil)))))))))))))), ?_⟩
      obtain ⟨aL, aF, aC, aT, g1, g2, g3, g4, g5⟩ := hG.ex
      have hg := (hid_in g1).1
      have hL := (hid_in g2).1
      have lnd := wf.nd
      have gL : g ≠ aL := ne_of hg hL (by
        intro z
        have z2 := HO.dK.inj z
        revert z2
        cases gd.letters with
        | nil => intro z2; cases z2
        | cons q r =>
          intro z2
          have := congrArg (fun l => l.head?.map Prod.snd) z2
          simp [lkv] at this)
      have lL : l ≠ aL := ne_of hl hL (by intro z; cases z)
      have vL : valV [(.inr "letters", .ref aL), (.inr "fixed", .ref aF), (.inr "commuting", .ref aC), (.inr "facts", .ref aT)] (.inr "letters" : Key) = some (.ref aL) := valV_pos rfl
      refine ⟨aL, _, hL, trivial, fun od => ?_⟩
      obtain ⟨Hl, hlL, hlo, el⟩ : ∃ Hl, Hl aL = some (.frz od (.dK (lkv gd.letters))) ∧ (∀ b, b ≠ aL → Hl b = H b) ∧ upd H aL (.frz od (.dK (lkv gd.letters))) = Hl := ⟨_, upd_same, fun b hb => upd_ne hb, rfl⟩
      rw [el]
      have hgl : Hl g = some _ := (hlo g gL).trans hg
      have hll : Hl l = some _ := (hlo l lL).trans hl
      have DGl : ∀ {H' : Hp}, Same Hl H' → DGet H' g (.str "letters") (some (.ref aL)) := fun s => by
        rw [← vL]
        exact DGet.k (k := .inr "letters") (s _ _ hgl)
      refine ⟨_, rfl, g, .ref aL, rfl, DGl (Same.refl _), aL, od, rfl, .inl ⟨_, hlL, fun D nD => ?_⟩⟩
      refine lc_it walk_keys (fun i H' => ∃ acc : List Str, Same Hl H' ∧ H' D = some (.lst (sts acc)) ∧ acc.length ≤ i ∧ ∀ x ∈ acc, ∃ k, (x, k) ∈ gd.letters ∧ k ≤ x0) ⟨[], same_new nD, upd_same, Nat.le_refl _, fun x h => nomatch h⟩ (fun i H' _ ⟨acc, s', _⟩ => s' _ _ hlL) ?turn ?done
      case turn =>
        rintro i x H1 H1' hi ⟨acc, s1, hD, hal, good⟩ ⟨rfl, k, v, hk, rfl⟩
        obtain ⟨⟨sx, m⟩, hq, eq⟩ : ∃ q, gd.letters[i]? = some q ∧ (Sum.inr q.1, V.int q.2) = (k, v) := by
          unfold lkv at hk
          rw [List.getElem?_map] at hk
          cases e : gd.letters[i]? with
          | none => rw [e] at hk; cases hk
          | some q => rw [e] at hk; exact ⟨q, rfl, Option.some.inj hk⟩
        obtain ⟨rfl, rfl⟩ := Prod.mk.inj eq
        have hmem := List.mem_of_getElem? hq
        have hile : i < gd.letters.length := (List.getElem?_eq_some_iff.mp hq).1
        have DG2 : DGet H1' aL (.str sx) (some (.int (m : Int))) := .inl ⟨lkv gd.letters, .inr sx, .inr ⟨od, s1 _ _ hlL⟩, rfl, (valV_lkv lnd hmem).symm⟩
        have hl1 := s1 _ _ hll
        refine ⟨rfl, ?_⟩
        have l8 := wf_len wf
        refine ⟨_, rfl, g, .ref aL, rfl, DGl s1, _, rfl, aL, .int (m : Int), rfl, DG2, _, rfl, l, _, ((0 : Nat) : Int), _, rfl, rfl, SqL.of hl1, atI_nat (j := 0) rfl, _, _, rfl, rfl, _, rfl, ?_⟩
        by_cases c : (m : Int) ≤ (x0 : Int)
        · rw [decide_eq_true c]
          refine iteT ?_
          refine ⟨_, rfl, l, _, ((1 : Nat) : Int), _, rfl, rfl, SqL.of hl1, atI_nat (j := 1) rfl, _, _, rfl, rfl, _, rfl, ?_⟩
          by_cases c2 : u0 > 0
          · rw [decide_eq_true c2]
            refine ⟨_, rfl, sts acc, hD, by rw [sts_len, sizeLine_eq]; omega, acc ++ [sx], fun b o e => ?_, by rw [upd_same]; unfold sts; rw [List.map_append]; rfl, by rw [List.length_append]; simp; omega, fun y hy => ?_⟩
            · rw [upd_ne (ne_of_none e nD)]; exact s1 _ _ e
            · rcases List.mem_append.mp hy with h | h
              · exact good y h
              · rw [List.mem_singleton.mp h]
                exact ⟨m, hmem, by omega⟩
          · rw [decide_eq_false c2]
            exact ⟨acc, s1, hD, by omega, good⟩
        · rw [decide_eq_false c]
          exact ⟨acc, s1, hD, by omega, good⟩
      rintro H1' ⟨some_, s1', hD1', hsl, hsome⟩
      refine ⟨s1' _ _ hlL, ?_⟩
      have DL : D ≠ aL := fun e => by rw [e, hlL] at nD; cases nD
      have nDH : H D = none := by rw [← hlo D DL]; exact nD
      obtain ⟨H1, s1, hD1, e1⟩ : ∃ H1, Same H H1 ∧ H1 D = some (.lst (sts some_)) ∧ upd H1' aL (.dK (lkv gd.letters)) = H1 := by
        refine ⟨_, fun b o e => ?_, ?_, rfl⟩
        · by_cases hb : b = aL
          · subst hb; rw [upd_same, ← e, hL]
          · rw [upd_ne hb]; exact s1' _ _ ((hlo b hb).trans e)
        · rw [upd_ne DL]; exact hD1'
      rw [e1]
      clear e1 hD1' s1' hlL hlo el hgl hll DGl
      have l8 := wf_len wf
      refine ⟨by show 2 ≤ sizeLine; decide, fun t1 nt1 => ?_⟩
      obtain ⟨Ha1, sa1, ha1, ea1⟩ := lay (o := .tup [.str "if", .int ((3 : Nat) : Int)]) nt1
      rw [show ([V.str "if", V.int 3] : List V) = [.str "if", .int ((3 : Nat) : Int)] from rfl, ea1]
      refine ⟨by show 2 ≤ sizeLine; decide, fun t2 nt2 => ?_⟩
      obtain ⟨Ha2, sa2, ha2, ea2⟩ := lay (o := .tup [.str "and", .int ((2 : Nat) : Int)]) nt2
      rw [show ([V.str "and", V.int 2] : List V) = [.str "and", .int ((2 : Nat) : Int)] from rfl, ea2]
      refine ⟨by show 2 ≤ sizeLine; decide, fun t3 nt3 => ?_⟩
      obtain ⟨Ha3, sa3, ha3, ea3⟩ := lay (o := .tup [.str "or", .int ((2 : Nat) : Int)]) nt3
      rw [show ([V.str "or", V.int 2] : List V) = [.str "or", .int ((2 : Nat) : Int)] from rfl, ea3]
      refine ⟨by show 2 ≤ sizeLine; decide, fun t4 nt4 => ?_⟩
      obtain ⟨Ha4, sa4, ha4, ea4⟩ := lay (o := .tup [.str "not", .int ((1 : Nat) : Int)]) nt4
      rw [show ([V.str "not", V.int 1] : List V) = [.str "not", .int ((1 : Nat) : Int)] from rfl, ea4]
      refine ⟨by show 2 ≤ sizeLine; decide, fun t5 nt5 => ?_⟩
      obtain ⟨Ha5, sa5, ha5, ea5⟩ := lay (o := .tup [.str "bind", .int ((2 : Nat) : Int)]) nt5
      rw [show ([V.str "bind", V.int 2] : List V) = [.str "bind", .int ((2 : Nat) : Int)] from rfl, ea5]
      refine ⟨by show 2 ≤ sizeLine; decide, fun t6 nt6 => ?_⟩
      obtain ⟨Ha6, sa6, ha6, ea6⟩ := lay (o := .tup [.str "try", .int ((2 : Nat) : Int)]) nt6
      rw [show ([V.str "try", V.int 2] : List V) = [.str "try", .int ((2 : Nat) : Int)] from rfl, ea6]
      refine ⟨by show 2 ≤ sizeLine; decide, fun t7 nt7 => ?_⟩
      obtain ⟨Ha7, sa7, ha7, ea7⟩ := lay (o := .tup [.str "last", .int ((2 : Nat) : Int)]) nt7
      rw [show ([V.str "last", V.int 2] : List V) = [.str "last", .int ((2 : Nat) : Int)] from rfl, ea7]
      refine ⟨by show 7 ≤ sizeLine; decide, fun la nla => ?_⟩
      obtain ⟨Hb, sb, hb, eb⟩ := lay (o := .lst [.ref t1, .ref t2, .ref t3, .ref t4, .ref t5, .ref t6, .ref t7]) nla
      rw [eb]
      refine ⟨by show 2 ≤ sizeLine; decide, fun t8 nt8 => ?_⟩
      obtain ⟨Ha8, sa8, ha8, ea8⟩ := lay (o := .tup [.str "then", .int ((2 : Nat) : Int)]) nt8
      rw [show ([V.str "then", V.int 2] : List V) = [.str "then", .int ((2 : Nat) : Int)] from rfl, ea8]
      refine ⟨by show 1 ≤ sizeLine; decide, fun lb nlb => ?_⟩
      obtain ⟨Hc, sc, hc, ec⟩ := lay (o := .lst [.ref t8]) nlb
      rw [ec]
      refine ⟨lb, 2, _, rfl, rfl, hc, by decide, by decide, by show 1 * 2 ≤ sizeLine; decide, fun lc nlc => ?_⟩
      obtain ⟨Hd, sd, hd, ed⟩ := lay (o := .lst [.ref t8, .ref t8]) nlc
      rw [show ((List.replicate (2 : Int).toNat [V.ref t8]).flatten) = [.ref t8, .ref t8] from rfl, ed]
      refine ⟨la, lc, _, _, rfl, rfl, sd _ _ (sc _ _ (sa8 _ _ hb)), hd, by show 7 + 2 ≤ sizeLine; decide, fun I nI => ?_⟩
      obtain ⟨H2, s2, h2, e2⟩ := lay (o := .lst ([t1, t2, t3, t4, t5, t6, t7, t8, t8].map V.ref)) nI
      rw [show ([V.ref t1, .ref t2, .ref t3, .ref t4, .ref t5, .ref t6, .ref t7] ++ [.ref t8, .ref t8]) = [t1, t2, t3, t4, t5, t6, t7, t8, t8].map V.ref from rfl, e2]
      have S12 : Same H1 H2 := (((((((((((sa1.trans sa2).trans sa3).trans sa4).trans sa5).trans sa6).trans sa7).trans sb).trans sa8).trans sc).trans sd).trans s2)
      have hops : Paired (fun t q => H2 t = some (.tup [.str q.1, .int ((q.2 : Nat) : Int)])) [t1, t2, t3, t4, t5, t6, t7, t8, t8] opsI :=
        .cons (((((((((((sa2.trans sa3).trans sa4).trans sa5).trans sa6).trans sa7).trans sb).trans sa8).trans sc).trans sd).trans s2) _ _ ha1) (.cons ((((((((((sa3.trans sa4).trans sa5).trans sa6).trans sa7).trans sb).trans sa8).trans sc).trans sd).trans s2) _ _ ha2) (.cons (((((((((sa4.trans sa5).trans sa6).trans sa7).trans sb).trans sa8).trans sc).trans sd).trans s2) _ _ ha3) (.cons ((((((((sa5.trans sa6).trans sa7).trans sb).trans sa8).trans sc).trans sd).trans s2) _ _ ha4) (.cons (((((((sa6.trans sa7).trans sb).trans sa8).trans sc).trans sd).trans s2) _ _ ha5) (.cons ((((((sa7.trans sb).trans sa8).trans sc).trans sd).trans s2) _ _ ha6) (.cons (((((sb.trans sa8).trans sc).trans sd).trans s2) _ _ ha7) (.cons (((sc.trans sd).trans s2) _ _ ha8) (.cons (((sc.trans sd).trans s2) _ _ ha8) (.nil)))))))))
      generalize hts : [t1, t2, t3, t4, t5, t6, t7, t8, t8] = ts at h2 hops
      clear hts
      clear ha1
      clear ha2
      clear ha3
      clear ha4
      clear ha5
      clear ha6
      clear ha7
      have S2 : Same H H2 := s1.trans S12
      have hD2 := S12 _ _ hD1
      have okn8 : ∀ y ∈ some_, PyData.strOk y = true := fun y hy => by
        obtain ⟨k, hk, _⟩ := hsome y hy
        exact ok8 y (wf.nm _ hk)
      refine ⟨by show 1 ≤ sizeLine; decide, fun b1 nb1 => ?_⟩
      obtain ⟨G1, r1, k1, f1⟩ := lay (o := .lst [.str "use"]) nb1
      rw [f1]
      refine ⟨b1, 4, _, rfl, rfl, k1, by decide, by decide, by show 1 * 4 ≤ sizeLine; decide, fun b2 nb2 => ?_⟩
      obtain ⟨G2, r2, k2, f2⟩ := lay (o := .lst (sts (List.replicate 4 "use"))) nb2
      rw [show ((List.replicate (4 : Int).toNat [V.str "use"]).flatten) = sts (List.replicate 4 "use") from rfl, f2]
      refine ⟨_, rfl, by show 0 ≤ sizeLine; decide, fun b3 nb3 => ?_⟩
      obtain ⟨G3, r3, k3, f3⟩ := lay (o := .lst []) nb3
      rw [f3]
      have R3 : Same H2 G3 := (r1.trans r2).trans r3
      refine ⟨.list (pst some_), .list [], .lst (SqL.of (R3 _ _ hD2)) (dp_sts some_), .lst (SqL.of k3) .nil, sh_pst okn8, by decide +kernel, .inr ⟨_, rfl, ?_⟩⟩
      rw [ne_nil]
      obtain ⟨w1, ew1, hw1, lw1, ki⟩ : ∃ w1 : List Str, (List.replicate (if decide (some_ ≠ []) = true then (1 : Int) else 0).toNat (sts (List.replicate 4 "use"))).flatten = sts w1 ∧ (∀ x ∈ w1, x = "use" ∧ some_ ≠ []) ∧ w1.length ≤ 4 ∧ ((if decide (some_ ≠ []) = true then (1 : Int) else 0) = 0 ∨ (if decide (some_ ≠ []) = true then (1 : Int) else 0) = 1) := by
        by_cases h : some_ = []
        · exact ⟨[], by rw [decide_eq_false (not_not_intro h)]; rfl, (fun x hx => nomatch hx), by decide, .inl (by rw [decide_eq_false (not_not_intro h)]; rfl)⟩
        · exact ⟨List.replicate 4 "use", by rw [decide_eq_true h]; rfl, fun x hx => ⟨(List.mem_replicate.mp hx).2, h⟩, by decide, .inr (by rw [decide_eq_true h]; rfl)⟩
      refine ⟨b2, _, _, rfl, rfl, r3 _ _ k2, by rcases ki with e | e <;> rw [e] <;> decide, by rcases ki with e | e <;> rw [e] <;> decide, by rcases ki with e | e <;> rw [e] <;> decide, fun b4 nb4 => ?_⟩
      obtain ⟨G4, r4, k4, f4⟩ := lay (o := .lst (sts w1)) nb4
      rw [ew1, f4]
      refine ⟨by show 2 ≤ sizeLine; decide, fun b5 nb5 => ?_⟩
      obtain ⟨G5, r5, k5, f5⟩ := lay (o := .lst (sts ["value", "fail"])) nb5
      rw [show ([V.str "value", V.str "fail"] : List V) = sts ["value", "fail"] from rfl, f5]
      refine ⟨b4, b5, _, _, rfl, rfl, r5 _ _ k4, k5, by rw [sts_len, sts_len, sizeLine_eq]; simp; omega, fun b6 nb6 => ?_⟩
      obtain ⟨G6, r6, k6, f6⟩ := lay (o := .lst (sts (w1 ++ (["value", "fail"] : List Str)))) nb6
      rw [show sts w1 ++ sts ["value", "fail"] = sts (w1 ++ (["value", "fail"] : List Str)) from (List.map_append ..).symm, f6]
      refine ⟨by show 1 ≤ sizeLine; decide, fun b7 nb7 => ?_⟩
      obtain ⟨G7, r7, k7, f7⟩ := lay (o := .lst [.str "name"]) nb7
      rw [f7]
      refine ⟨b7, 2, _, rfl, rfl, k7, by decide, by decide, by show 1 * 2 ≤ sizeLine; decide, fun b8 nb8 => ?_⟩
      obtain ⟨G8, r8, k8, f8⟩ := lay (o := .lst (sts (List.replicate 2 "name"))) nb8
      rw [show ((List.replicate (2 : Int).toNat [V.str "name"]).flatten) = sts (List.replicate 2 "name") from rfl, f8]
      have R8 : Same H2 G8 := ((((R3.trans r4).trans r5).trans r6).trans r7).trans r8
      refine ⟨_, rfl, a, _, rfl, .inr (Same.seqT (S2.trans R8) ha), _, _, rfl, rfl, .inr ⟨_, rfl, ?_⟩⟩
      obtain ⟨w2, ew2, hw2, lw2, kj⟩ : ∃ w2 : List Str, (List.replicate (if decide (((sts ns).length : Int) > 0) = true then (1 : Int) else 0).toNat (sts (List.replicate 2 "name"))).flatten = sts w2 ∧ (∀ x ∈ w2, x = "name" ∧ ns ≠ []) ∧ w2.length ≤ 2 ∧ ((if decide (((sts ns).length : Int) > 0) = true then (1 : Int) else 0) = 0 ∨ (if decide (((sts ns).length : Int) > 0) = true then (1 : Int) else 0) = 1) := by
        by_cases h : ns = []
        · subst h
          exact ⟨[], rfl, (fun x hx => nomatch hx), by decide, .inl rfl⟩
        · have h0 : ((sts ns).length : Int) > 0 := by rw [sts_len]; have := List.length_pos_iff.mpr h; omega
          exact ⟨List.replicate 2 "name", by rw [decide_eq_true h0]; rfl, fun x hx => ⟨(List.mem_replicate.mp hx).2, h⟩, by decide, .inr (by rw [decide_eq_true h0]; rfl)⟩
      refine ⟨b8, _, _, rfl, rfl, k8, by rcases kj with e | e <;> rw [e] <;> decide, by rcases kj with e | e <;> rw [e] <;> decide, by rcases kj with e | e <;> rw [e] <;> decide, fun b9 nb9 => ?_⟩
      obtain ⟨G9, r9, k9, f9⟩ := lay (o := .lst (sts w2)) nb9
      rw [ew2, f9]
      refine ⟨b6, b9, _, _, rfl, rfl, r9 _ _ (r8 _ _ (r7 _ _ k6)), k9, by rw [sts_len, sts_len, List.length_append, sizeLine_eq]; simp; omega, fun Wl nWl => ?_⟩
      obtain ⟨H3, r10, h3W, f10⟩ := lay (o := .lst (sts ((w1 ++ (["value", "fail"] : List Str)) ++ w2))) nWl
      rw [show sts (w1 ++ (["value", "fail"] : List Str)) ++ sts w2 = sts ((w1 ++ (["value", "fail"] : List Str)) ++ w2) from (List.map_append ..).symm, f10]
      obtain ⟨wd1, ewd1, hwd1, lwd1, vwd1⟩ : ∃ wd1, (w1 ++ (["value", "fail"] : List Str)) ++ w2 = wd1 ∧ (∀ x ∈ wd1, (x = "use" ∧ some_ ≠ []) ∨ x = "value" ∨ x = "fail" ∨ (x = "name" ∧ ns ≠ [])) ∧ wd1.length ≤ 8 ∧ wd1 ≠ [] := by
        refine ⟨_, rfl, fun x hx => ?_, ?_, ?_⟩
        · rcases List.mem_append.mp hx with hx | hx
          · rcases List.mem_append.mp hx with hx | hx
            · exact .inl (hw1 x hx)
            · simp only [List.mem_cons, List.not_mem_nil, or_false] at hx
              rcases hx with rfl | rfl
              · exact .inr (.inl rfl)
              · exact .inr (.inr (.inl rfl))
          · exact .inr (.inr (.inr (hw2 x hx)))
        · rw [List.length_append, List.length_append]
          show w1.length + 2 + w2.length ≤ 8
          omega
        · intro e
          have := congrArg List.length e
          rw [List.length_append, List.length_append] at this
          simp at this
      rw [ewd1] at h3W
      have S23 : Same H2 H3 := (R8.trans r9).trans r10
      have S3 : Same H H3 := S2.trans S23
      have hD3 := S23 _ _ hD2
      have h3I := S23 _ _ h2
      have hops3 : Paired (fun t q => H3 t = some (.tup [.str q.1, .int ((q.2 : Nat) : Int)])) ts opsI := Paired.mapP hops fun _ _ r => S23 _ _ r
      clear r1 r2 r3 r4 r5 r6 r7 r8 r9 r10 k1 k2 k3 k4 k5 k6 k7 k8 k9 f1 f2 f3 f4 f5 f6 f7 f8 f9 f10 nb1 nb2 nb3 nb4 nb5 nb6 nb7 nb8 nb9 ew1 ew2 hw1 hw2 lw1 lw2 ki kj R3 R8 ewd1
      have hl3 := S3 _ _ hl
      refine ⟨_, rfl, ?_⟩
      refine ⟨_, rfl, I, rfl, ⟨_, SqL.of h3I⟩, fun D2 nD2 => ?_⟩
      refine lc_it walk_list (fun i H' => ∃ acc : List Str, Same H3 H' ∧ H' D2 = some (.lst (sts acc)) ∧ acc.length ≤ i ∧ ∀ x ∈ acc, ∃ m, (x, m) ∈ opsB ∧ m ≤ x0) ⟨[], same_new nD2, upd_same, Nat.le_refl _, fun x h => nomatch h⟩ (fun i H' _ ⟨acc, s', _⟩ => s'.seq (SqL.of h3I)) ?turn4 ?done4
      case turn4 =>
        rintro i x H4 H4' hi ⟨acc, s4, hDa, hal, good⟩ ⟨rfl, hx⟩
        obtain ⟨tq, htq, rfl⟩ : ∃ tq, ts[i]? = some tq ∧ x = V.ref tq := by
          rw [List.getElem?_map] at hx
          cases e : ts[i]? with
          | none => rw [e] at hx; cases hx
          | some y => rw [e] at hx; exact ⟨y, rfl, (Option.some.inj hx).symm⟩
        obtain ⟨qo, hqo, ho⟩ := paired_at hops3 htq
        have hi9 : i < 9 := by
          have := (List.getElem?_eq_some_iff.mp hqo).1
          exact this
        have hl4 := s4 _ _ hl3
        refine ⟨tq, _, rfl, SqT.of (s4 _ _ ho), rfl, _, _, rfl, _, _, rfl, rfl, rfl, ?_⟩
        refine ⟨_, rfl, _, rfl, l, _, ((0 : Nat) : Int), _, rfl, rfl, SqL.of hl4, atI_nat (j := 0) rfl, _, _, rfl, rfl, _, rfl, ?_⟩
        by_cases c : (qo.2 : Int) ≤ (x0 : Int)
        · rw [decide_eq_true c]
          refine ⟨_, rfl, sts acc, hDa, by rw [sts_len, sizeLine_eq]; omega, acc ++ [qo.1], fun b o e => ?_, by rw [upd_same]; unfold sts; rw [List.map_append]; rfl, by rw [List.length_append]; simp; omega, fun y hy => ?_⟩
          · rw [upd_ne (ne_of_none e nD2)]; exact s4 _ _ e
          · rcases List.mem_append.mp hy with h | h
            · exact good y h
            · rw [List.mem_singleton.mp h]
              exact ⟨qo.2, opsI_B _ (List.mem_of_getElem? hqo), by omega⟩
        · rw [decide_eq_false c]
          exact ⟨acc, s4, hDa, by omega, good⟩
      rintro H4 ⟨acc, s4, hDa, hal, good⟩
      have lI : acc.length ≤ 9 := by
        rw [List.length_map, Paired.length hops3] at hal
        exact hal
      refine ⟨Wl, D2, _, _, rfl, rfl, s4 _ _ h3W, hDa, by rw [sts_len, sts_len, sizeLine_eq]; omega, fun W2 nW2 => ?_⟩
      obtain ⟨H5, s5, h5W, e5⟩ := lay (o := .lst (sts (wd1 ++ acc))) nW2
      rw [show sts wd1 ++ sts acc = sts (wd1 ++ acc) from (List.map_append ..).symm, e5]
      have S5 : Same H H5 := (S3.trans s4).trans s5
      have P5 := hP.mono S5 (Nat.le_refl _)
      have W2p : W2 ≠ p := (hP.mono (S3.trans s4) (Nat.le_refl _)).ne nW2
      have wne : wd1 ++ acc ≠ [] := fun e => vwd1 (List.append_eq_nil_iff.mp e).1
      refine ⟨_, rfl, _, rfl, p, W2, sts (wd1 ++ acc), n, rfl, SqL.of (hid_to (ni1 W2p) h5W), fun e => wne (List.map_eq_nil_iff.mp e), by rw [sts_len, List.length_append]; omega, by omega, P5, fun v H6 hv B56 P6 => ?_⟩
      obtain ⟨wd, hwd, rfl⟩ := mem_sts hv
      have hW : (wd = "use" ∧ some_ ≠ []) ∨ wd = "value" ∨ wd = "fail" ∨ (wd = "name" ∧ ns ≠ []) ∨ ∃ m, (wd, m) ∈ opsB ∧ m ≤ x0 := by
        rcases List.mem_append.mp hwd with h | h
        · rcases hwd1 wd h with h | h | h | h
          · exact .inl h
          · exact .inr (.inl h)
          · exact .inr (.inr (.inl h))
          · exact .inr (.inr (.inr (.inl h)))
        · exact .inr (.inr (.inr (.inr (good wd h))))
      have B06 : Bt [p] H H6 := (bt_of S5).trans B56
      have Dp_ : D ≠ p := by
        obtain ⟨x1, y1, w1', hp, _⟩ := hP.mono S3 (Nat.le_refl _)
        intro e
        rw [e, hp] at hD3
        have := HO.lst.inj (Option.some.inj hD3)
        cases hs : some_ with
        | nil => rw [hs] at this; cases this
        | cons y r => rw [hs] at this; cases this
      have hD6 : H6 D = some (.lst (sts some_)) := bt_at B56 (ni1 Dp_) (s5 _ _ (s4 _ _ hD3))
      have hl6 : H6 l = some (.lst [.int (x0 : Int), .int u0]) := bt_at B56 (ni1 pl.symm) (s5 _ _ (s4 _ _ hl3))
      have Ip : I ≠ p := by
        obtain ⟨x1, y1, w1', hp, _⟩ := hP.mono S3 (Nat.le_refl _)
        intro e
        rw [e, hp] at h3I
        have h := HO.lst.inj (Option.some.inj h3I)
        have hl := congrArg List.length h
        rw [List.length_map, Paired.length hops3] at hl
        exact absurd hl (by show ¬ 3 = 9; decide)
      have h6I : H6 I = some (.lst (ts.map V.ref)) := bt_at B56 (ni1 Ip) (s5 _ _ (s4 _ _ h3I))
      have hops6 : Paired (fun t q => H6 t = some (.tup [.str q.1, .int ((q.2 : Nat) : Int)])) ts opsI := Paired.mapP hops3 fun t q r => by
        obtain ⟨x1, y1, w1', hp, _⟩ := hP.mono S3 (Nat.le_refl _)
        exact bt_at B56 (ni1 (ne_of r hp (by intro z; cases z))) (s5 _ _ (s4 _ _ r))
      have hG6 : IsG (hid [p, l] H6) g gd := hG.mono (bt_weak (fun q hq => by rw [List.mem_singleton.mp hq]; simp) B06)
      have ha6 : SqT K H6 a (sts ns) := sqT_bt (fun q hq => by rw [List.mem_singleton.mp hq]; obtain ⟨x1, y1, w1', hp, _⟩ := hP; exact ⟨_, hp⟩) B06 ha
      clear hops hops3 hwd hv good h3W hDa hal h5W e5 s4 s5 hD1 hD2 hD3 h2 h3I hwd1 wne S12 S23
      have B2 : Bt [p, l] H H6 := bt_weak (fun q hq => by rw [List.mem_singleton.mp hq]; simp) B06
      have PLl : ∀ {H' : Hp} {m : Nat}, PoolIs H' p m → H' l = some (.lst [.int (x0 : Int), .int u0]) → ∀ q ∈ [p, l], ∃ xs, H' q = some (.lst xs) := fun P h q hq => by
        simp only [List.mem_cons, List.not_mem_nil, or_false] at hq
        rcases hq with rfl | rfl
        · obtain ⟨x1, y1, w1', hp, _⟩ := P
          exact ⟨_, hp⟩
        · exact ⟨_, h⟩
      refine ⟨_, rfl, by show 2 ≤ sizeLine; decide, fun tv ntv => ?_⟩
      obtain ⟨H7, s7, h7, e7⟩ := lay (o := .tup (sts ["value", "fail"])) ntv
      rw [show ([V.str "value", V.str "fail"] : List V) = sts ["value", "fail"] from rfl, e7]
      refine ⟨tv, sts ["value", "fail"], rfl, .inr (SqT.of h7), rfl, flat_sts _, _, rfl, ?_⟩
      rw [show (if false = true then !inV (.str wd) (sts ["value", "fail"]) else inV (.str wd) (sts ["value", "fail"])) = decide (wd ∈ (["value", "fail"] : List Str)) from inV_sts wd ["value", "fail"]]
      have P7 := P6.mono s7 (Nat.le_refl _)
      have hl7 := s7 _ _ hl6
      have ha7 := Same.seqT s7 ha6
      have B07 : Bt [p, l] H H7 := B2.trans (bt_of s7)
      by_cases c6 : wd ∈ (["value", "fail"] : List Str)
      · rw [decide_eq_true c6]
        refine iteT ?_
        refine ⟨_, rfl, _, rfl, by show 5 ≤ sizeLine; decide, fun b nb => ?_⟩
        obtain ⟨H8, s8, h8, e8⟩ := lay (o := .lst (sts ["one", "two", "false", "true", "x"])) nb
        rw [show ([V.str "one", V.str "two", V.str "false", V.str "true", V.str "x"] : List V) = sts ["one", "two", "false", "true", "x"] from rfl, e8]
        refine ⟨p, b, sts ["one", "two", "false", "true", "x"], n + 1, rfl, SqL.of (hid_to (ni1 (P7.ne nb)) h8), (fun z => nomatch z), by decide, by omega, P7.mono s8 (Nat.le_refl _), fun v H9 hv B9 P9 => ?_⟩
        obtain ⟨nm, hnm', rfl⟩ := mem_sts hv
        refine ⟨by show 2 ≤ sizeLine; decide, fun t nt => ?_⟩
        obtain ⟨H10, s10, h10, e10⟩ := lay (o := .tup [.str wd, .str nm]) nt
        rw [e10]
        have nB : nameB nm = true := (show ∀ x ∈ (["one", "two", "false", "true", "x"] : List Str), nameB x = true by decide +kernel) nm hnm'
        have hin : wd ∈ nmd := (show ∀ x ∈ (["value", "fail"] : List Str), x ∈ nmd by decide) wd c6
        have hd : HeadOk gd.letters ns wd nm 0 := by
          simp only [List.mem_cons, List.not_mem_nil, or_false] at c6
          rcases c6 with rfl | rfl
          · exact .val nB
          · exact .fail nB
        have hl10 : H10 l = some (.lst [.int (x0 : Int), .int u0]) := s10 _ _ (bt_at B9 (ni1 pl.symm) (s8 _ _ hl7))
        exact q (.ref t) (.mk wd nm []) x0 u0 H10 (B07.trans ((bt_of s8).trans ((bt_weak (fun q hq => by rw [List.mem_singleton.mp hq]; simp) B9).trans (bt_of s10)))) hl10 (by rw [GB.Tm.size, GB.Tm.sizes]; omega) (.mk hd fun i k h => by simp at h) (by rw [leaf_d hin]; exact .tup (SqT.of h10) (.cons (.str _) (.cons (.str _) .nil))) (P9.mono s10 (by rw [GB.Tm.size, GB.Tm.sizes]; omega))
      rw [decide_eq_false c6]
      refine iteF ?_
      refine ⟨_, rfl, rfl, _, rfl, ?_⟩
      rw [decS]
      by_cases c7 : wd = "name"
      · rw [decide_eq_true c7]
        refine iteT ?_
        have nse : ns ≠ [] := by
          rcases hW with h | h | h | h | ⟨m, h, _⟩
          · exact absurd (h.1.symm.trans c7) (by decide)
          · exact absurd (h.symm.trans c7) (by decide)
          · exact absurd (h.symm.trans c7) (by decide)
          · exact h.2
          · rw [c7] at h
            exact absurd rfl ((show ∀ q ∈ opsB, q.1 ≠ "name" by decide) _ h)
        have ha7' : SqT K (hid [p] H7) a (sts ns) := sqT_hid (fun q hq => by rw [List.mem_singleton.mp hq]; obtain ⟨x1, y1, w1', hp, _⟩ := P7; exact ⟨_, hp⟩) ha7
        refine ⟨_, rfl, _, rfl, _, rfl, p, a, sts ns, n + 1, rfl, ha7', fun e => nse (List.map_eq_nil_iff.mp e), by rw [sts_len]; omega, by omega, P7, fun v H9 hv B9 P9 => ?_⟩
        obtain ⟨nm, hnm', rfl⟩ := mem_sts hv
        refine ⟨by show 2 ≤ sizeLine; decide, fun t nt => ?_⟩
        obtain ⟨H10, s10, h10, e10⟩ := lay (o := .tup [.str wd, .str nm]) nt
        rw [e10]
        have hin : wd ∈ nmd := by rw [c7]; decide
        have hd : HeadOk gd.letters ns wd nm 0 := by
          rw [c7]
          exact .name (hnm nm hnm') hnm'
        have hl10 : H10 l = some (.lst [.int (x0 : Int), .int u0]) := s10 _ _ (bt_at B9 (ni1 pl.symm) hl7)
        exact q (.ref t) (.mk wd nm []) x0 u0 H10 (B07.trans ((bt_weak (fun q hq => by rw [List.mem_singleton.mp hq]; simp) B9).trans (bt_of s10))) hl10 (by rw [GB.Tm.size, GB.Tm.sizes]; omega) (.mk hd fun i k h => by simp at h) (by rw [leaf_d hin]; exact .tup (SqT.of h10) (.cons (.str _) (.cons (.str _) .nil))) (P9.mono s10 (by rw [GB.Tm.size, GB.Tm.sizes]; omega))
      rw [decide_eq_false c7]
      refine iteF ?_
      refine ⟨_, rfl, rfl, _, rfl, ?_⟩
      rw [decS]
      have hG7 : IsG (hid [p, l] H7) g gd := hG6.mono (hid_same s7)
      have hD7 := s7 _ _ hD6
      have h7I := s7 _ _ h6I
      have hops7 : Paired (fun t q => H7 t = some (.tup [.str q.1, .int ((q.2 : Nat) : Int)])) ts opsI := Paired.mapP hops6 fun _ _ r => s7 _ _ r
      clear hops6 h6I hD6 hG6 ha6 hl6 B06 B56 B2 h7 e7
      have DGg : ∀ {H' : Hp}, IsG (hid [p, l] H') g gd → ∃ aL, DGet H' g (.str "letters") (some (.ref aL)) ∧ H' aL = some (.dK (lkv gd.letters)) := fun hG => by
        obtain ⟨aL, aF, aC, aT, g1, g2, _⟩ := hG.ex
        have e : valV [(.inr "letters", .ref aL), (.inr "fixed", .ref aF), (.inr "commuting", .ref aC), (.inr "facts", .ref aT)] (.inr "letters" : Key) = some (.ref aL) := valV_pos rfl
        exact ⟨aL, by rw [← e]; exact DGet.k (k := .inr "letters") (hid_in g1).1, (hid_in g2).1⟩
      have lsome : some_.length ≤ 8 := by
        have e : (lkv gd.letters).length = gd.letters.length := List.length_map _
        omega
      by_cases c8 : wd = "use"
      · rw [decide_eq_true c8]
        refine iteT ?_
        have sne : some_ ≠ [] := by
          rcases hW with h | h | h | h | ⟨m, h, _⟩
          · exact h.2
          · exact absurd (h.symm.trans c8) (by decide)
          · exact absurd (h.symm.trans c8) (by decide)
          · exact absurd (h.1.symm.trans c8) (by decide)
          · rw [c8] at h
            exact absurd rfl ((show ∀ q ∈ opsB, q.1 ≠ "use" by decide) _ h)
        refine ⟨_, rfl, _, rfl, p, D, sts some_, n + 1, rfl, SqL.of (hid_to (ni1 Dp_) hD7), fun e => sne (List.map_eq_nil_iff.mp e), by rw [sts_len]; omega, by omega, P7, fun v H8 hv B8 P8 => ?_⟩
        obtain ⟨x, hxs, rfl⟩ := mem_sts hv
        obtain ⟨k, hk, hkx⟩ := hsome x hxs
        have hk2 := wf.ar _ hk
        have B8' : Bt [p, l] H7 H8 := bt_weak (fun q hq => by rw [List.mem_singleton.mp hq]; simp) B8
        have hl8 := bt_at B8 (ni1 pl.symm) hl7
        have hG8 := hG7.mono B8'
        obtain ⟨aL8, dg8, hL8⟩ := DGg hG8
        have DG2 : DGet H8 aL8 (.str x) (some (.int (k : Int))) := by rw [← valV_lkv lnd hk]; exact DGet.k (k := .inr x) hL8
        refine ⟨_, rfl, l, _, ((0 : Nat) : Int), _, rfl, rfl, SqL.of hl8, atI_nat (j := 0) rfl, _, rfl, g, .ref aL8, rfl, dg8, _, rfl, aL8, .int (k : Int), rfl, DG2, _, _, rfl, rfl, _, rfl, l, _, ((1 : Nat) : Int), _, rfl, rfl, SqL.of hl8, atI_nat (j := 1) rfl, _, _, rfl, rfl, by show 2 ≤ sizeLine; decide, fun tt ntt => ?_⟩
        obtain ⟨H9, s9, h9, e9⟩ := lay (o := .tup [.int ((x0 : Int) - k), .int (u0 - 1)]) ntt
        rw [e9]
        refine ⟨tt, _, rfl, SqT.of h9, rfl, _, _, rfl, _, rfl, l, _, ((0 : Nat) : Int), 0, rfl, rfl, s9 _ _ hl8, rfl, ?_⟩
        refine ⟨_, _, rfl, _, rfl, l, _, ((1 : Nat) : Int), 1, rfl, rfl, upd_same, rfl, ?_⟩
        refine ⟨rfl, ?_⟩
        obtain ⟨H10, b10, h10, e10⟩ : ∃ H10, (∀ b o, b ≠ l → H9 b = some o → H10 b = some o) ∧ H10 l = some (.lst [.int (((x0 - k : Nat)) : Int), .int (u0 - 1)]) ∧ upd (upd H9 l (.lst ([V.int (x0 : Int), V.int u0].set 0 (V.int ((x0 : Int) - (k : Int)))))) l (.lst (([V.int (x0 : Int), V.int u0].set 0 (V.int ((x0 : Int) - (k : Int)))).set 1 (V.int (u0 - 1)))) = H10 :=
          ⟨_, fun b o z e => by rw [upd_ne z, upd_ne z]; exact e, by rw [upd_same, show (((x0 - k : Nat)) : Int) = (x0 : Int) - k by omega]; rfl, rfl⟩
        rw [e10]
        have B10 : Bt [p, l] H H10 := (B07.trans (B8'.trans (bt_of s9))).trans (by rw [← e10]; exact (bt_upd (by simp)).trans (bt_upd (by simp)))
        have B710 : Bt [p, l] H7 H10 := (B8'.trans (bt_of s9)).trans (by rw [← e10]; exact (bt_upd (by simp)).trans (bt_upd (by simp)))
        have P10 : PoolIs H10 p (n + 1 + 1) := by
          obtain ⟨x1, y1, w1', hp, r⟩ := P8.mono s9 (Nat.le_refl _)
          exact ⟨x1, y1, w1', b10 _ _ pl hp, r⟩
        have PL7 := pl_lists P7 hl7
        have hG10 := hG7.mono B710
        have ha10 := sqT_bt PL7 B710 ha7
        obtain ⟨aL10, dg10, hL10⟩ := DGg hG10
        have DG10 : DGet H10 aL10 (.str x) (some (.int (k : Int))) := by rw [← valV_lkv lnd hk]; exact DGet.k (k := .inr x) hL10
        refine ⟨_, rfl, _, rfl, _, rfl, g, .ref aL10, rfl, dg10, _, rfl, aL10, .int (k : Int), rfl, DG10, k, rfl, by omega, by omega, fun D3 nD3 => ?_⟩
        refine kids_ok (n := n + 2) (fun v => ⟨rfl, rfl, rfl, rfl, rfl⟩) nD3 hG10 wf ha10 hnm (by omega) pl h10 (by omega) (by omega) (by omega) P10 (by omega) fun ts x1 u1 H11 acc hts B11 hD11 hd11 hl11 hs11 ok11 P11 => ?_
        refine ⟨D3, acc, rfl, .inl ⟨SqL.of hD11, fun tk ntk => ?_⟩⟩
        obtain ⟨H12, s12, h12, e12⟩ := lay (o := .tup acc) ntk
        rw [e12]
        refine ⟨by show 3 ≤ sizeLine; decide, fun t nt => ?_⟩
        obtain ⟨H13, s13, h13, e13⟩ := lay (o := .tup [.str wd, .str x, .ref tk]) nt
        rw [e13]
        refine q (.ref t) (.mk wd x ts) x1 u1 H13 ((B10.trans B11).trans (bt_of (s12.trans s13))) (s13 _ _ (s12 _ _ hl11)) (by rw [GB.Tm.size]; omega) (.mk (by rw [c8, hts]; exact .use hk) fun i t' h => ?_) ?_ (P11.mono (s12.trans s13) (by rw [GB.Tm.size]; omega))
        · rw [c8]
          unfold nsAt
          rw [if_neg (fun h => absurd h.1 (by decide))]
          exact ok11 i t' h
        · rw [d_node, c8]
          exact .tup (by rw [← c8]; exact SqT.of h13) (.cons (.str _) (.cons (.str _) (.cons (.tup (SqT.of (s13 _ _ h12)) (dps_mono (s12.trans s13) hd11)) .nil)))
      rw [decide_eq_false c8]
      refine iteF ?_
      obtain ⟨m, hmB, hmx⟩ : ∃ m, (wd, m) ∈ opsB ∧ m ≤ x0 := by
        rcases hW with h | h | h | h | h
        · exact absurd h.1 c8
        · exact absurd (by rw [h]; decide) c6
        · exact absurd (by rw [h]; decide) c6
        · exact absurd h.1 c7
        · exact h
      have dictOf : ∀ {H' : Hp} {Q' : VK}, H' I = some (.lst (ts.map V.ref)) → Paired (fun t q => H' t = some (.tup [.str q.1, .int ((q.2 : Nat) : Int)])) ts opsI → (∀ H2, Same H' H2 → Q' (.int (m : Int)) H2) → ∃ (a : Addr) (ps : List Addr) (kvs : List (Key × V)), [V.ref I] = [.ref a] ∧ SqL K H' a (ps.map V.ref) ∧ Paired (fun p kv => SqT K H' p [kV kv.1, kv.2]) ps kvs ∧ ∀ p', H' p' = none → (fun (x : V) (H2 : Hp) => ∃ v, [some (V.str wd)][0]? = some (some v) ∧ ∃ (a : Addr) (v' : V), x = .ref a ∧ DGet H2 a v (some v') ∧ Q' v' H2) (.ref p') (upd H' p' (.dK (mergeK [] kvs))) := fun {H' Q'} hI ho qq => by
        refine ⟨I, ts, opsI.map fun q => ((.inr q.1 : Key), V.int ((q.2 : Nat) : Int)), rfl, SqL.of hI, ?_, fun p' np => ?_⟩
        · exact paired_map_r (Paired.mapP ho fun _ _ r => SqT.of r)
        · obtain ⟨H2, s2', h2', e2'⟩ := lay (o := .dK (mergeK [] (opsI.map fun q => ((.inr q.1 : Key), V.int ((q.2 : Nat) : Int))))) np
          rw [e2']
          have ev : valV (mergeK [] (opsI.map fun q => ((.inr q.1 : Key), V.int ((q.2 : Nat) : Int)))) (.inr wd : Key) = some (.int (m : Int)) := merge_ops _ hmB
          refine ⟨.str wd, rfl, p', _, rfl, ?_, qq H2 s2'⟩
          rw [← ev]
          exact DGet.k (k := .inr wd) h2'
      refine ⟨_, rfl, l, _, ((0 : Nat) : Int), _, rfl, rfl, SqL.of hl7, atI_nat (j := 0) rfl, ?_⟩
      refine ⟨_, rfl, dictOf (Q' := fun v H2 => rI0 (fun i j => .int (i - j)) (.int (x0 : Int)) v H2 _) h7I hops7 fun H8 s8 => ?_⟩
      refine ⟨_, _, rfl, rfl, ?_⟩
      have hl8 := s8 _ _ hl7
      refine ⟨_, rfl, l, _, ((0 : Nat) : Int), 0, rfl, rfl, hl8, rfl, ?_⟩
      obtain ⟨H9, b9, h9, B89, e9⟩ : ∃ H9, (∀ b o, b ≠ l → H8 b = some o → H9 b = some o) ∧ H9 l = some (.lst [.int (((x0 - m : Nat)) : Int), .int u0]) ∧ Bt [p, l] H8 H9 ∧ upd H8 l (.lst ([V.int (x0 : Int), V.int u0].set 0 (V.int ((x0 : Int) - (m : Int))))) = H9 :=
        ⟨_, fun b o z e => by rw [upd_ne z]; exact e, by rw [upd_same, show (((x0 - m : Nat)) : Int) = (x0 : Int) - m by omega]; rfl, bt_upd (by simp), rfl⟩
      rw [e9]
      have Il : I ≠ l := fun e => by
        rw [e, hl7] at h7I
        have h := congrArg List.length (HO.lst.inj (Option.some.inj h7I))
        rw [List.length_map, Paired.length hops7] at h
        exact absurd h (by show ¬ 2 = 9; decide)
      have h9I := b9 _ _ Il (s8 _ _ h7I)
      have hops9 : Paired (fun t q => H9 t = some (.tup [.str q.1, .int ((q.2 : Nat) : Int)])) ts opsI := Paired.mapP hops7 fun t q r => b9 _ _ (ne_of (s8 _ _ r) hl8 (by intro z; cases z)) (s8 _ _ r)
      have P9 : PoolIs H9 p (n + 1) := by
        obtain ⟨x1, y1, w1', hp, r⟩ := P7.mono s8 (Nat.le_refl _)
        exact ⟨x1, y1, w1', b9 _ _ pl hp, r⟩
      have B79 : Bt [p, l] H7 H9 := (bt_of s8).trans B89
      have PL7 := pl_lists P7 hl7
      have hG9 := hG7.mono B79
      have ha9 := sqT_bt PL7 B79 ha7
      have B09 : Bt [p, l] H H9 := B07.trans B79
      refine ⟨_, rfl, rfl, _, rfl, ?_⟩
      rw [decS]
      by_cases c10 : wd = "bind"
      · rw [decide_eq_true c10]
        refine iteT ?_
        have hm2 : m = 2 := by
          rw [c10] at hmB
          exact (show ∀ q ∈ opsB, q.1 = "bind" → q.2 = 2 by decide) _ hmB rfl
        refine ⟨_, rfl, by show 4 ≤ sizeLine; decide, fun b nb => ?_⟩
        obtain ⟨H10, s10, h10, e10⟩ := lay (o := .lst (sts ["v", "w", "x", "if"])) nb
        rw [show ([V.str "v", V.str "w", V.str "x", V.str "if"] : List V) = sts ["v", "w", "x", "if"] from rfl, e10]
        refine ⟨p, b, sts ["v", "w", "x", "if"], n + 1, rfl, SqL.of (hid_to (ni1 (P9.ne nb)) h10), (fun z => nomatch z), by decide, by omega, P9.mono s10 (Nat.le_refl _), fun v H11 hv B11 P11 => ?_⟩
        obtain ⟨nm, hnm', rfl⟩ := mem_sts hv
        have nB : nameB nm = true := (show ∀ x ∈ (["v", "w", "x", "if"] : List Str), nameB x = true by decide +kernel) nm hnm'
        have hl11 := bt_at B11 (ni1 pl.symm) (s10 _ _ h9)
        have B911 : Bt [p, l] H9 H11 := (bt_of s10).trans (bt_weak (fun q hq => by rw [List.mem_singleton.mp hq]; simp) B11)
        have PL9 := pl_lists P9 h9
        have hG11 := hG9.mono B911
        have ha11 := sqT_bt PL9 B911 ha9
        have PL11 := pl_lists P11 hl11
        refine ⟨_, rfl, _, rfl, _, rfl, _, rfl, p, g, a, l, gd, ns, x0 - m, u0, n + 2, rfl, hG11, wf, ha11, hnm, by omega, pl, hl11, by omega, by omega, P11, by omega, fun v1 t1 x1 u1 H12 B12 hl12 hs1 ok1 d1 P12 => ?_⟩
        have hG12 := hG11.mono B12
        have ha12 := sqT_bt PL11 B12 ha11
        refine ⟨_, rfl, _, rfl, _, rfl, _, rfl, _, rfl, _, rfl, _, rfl, by show 1 ≤ sizeLine; decide, fun tb ntb => ?_⟩
        obtain ⟨H13, s13, h13, e13⟩ := lay (o := .tup [.str nm]) ntb
        rw [e13]
        refine catA (Same.seqT s13 ha12) (SqT.of h13) (by rw [sts_len, sizeLine_eq]; simp; omega) fun nb2 H14 s14 hnb2 => ?_
        have S14 : Same H12 H14 := s13.trans s14
        have hl14 := S14 _ _ hl12
        have P14 := P12.mono S14 (Nat.le_refl _)
        have PL14 := pl_lists P14 hl14
        refine ⟨_, rfl, p, g, nb2, l, gd, ns ++ [nm], x1, u1, _, rfl, hG12.mono (hid_same S14), wf, by unfold sts; rw [List.map_append]; exact hnb2, fun y hy => ?_, by rw [List.length_append]; simp; omega, pl, hl14, by omega, by omega, P14, by omega, fun v2 t2 x2 u2 H15 B15 hl15 hs2 ok2 d2 P15 => ?_⟩
        · rcases List.mem_append.mp hy with h | h
          · exact hnm y h
          · rw [List.mem_singleton.mp h]; exact nB
        · have d1' := dp_bt PL14 B15 (tupO_d t1) (dp_mono S14 d1)
          refine ⟨by show 4 ≤ sizeLine; decide, fun t nt => ?_⟩
          obtain ⟨H16, s16, h16, e16⟩ := lay (o := .tup [.str wd, .str nm, v1, v2]) nt
          rw [e16]
          refine q (.ref t) (.mk wd nm [t1, t2]) x2 u2 H16 ((((B09.trans B911).trans B12).trans ((bt_of S14).trans B15)).trans (bt_of s16)) (s16 _ _ hl15) (by rw [GB.Tm.size, GB.Tm.sizes, GB.Tm.sizes, GB.Tm.sizes]; omega) (.mk (by rw [c10]; exact .bind nB hnm') fun i t' h => ?_) ?_ (P15.mono s16 (by rw [GB.Tm.size, GB.Tm.sizes, GB.Tm.sizes, GB.Tm.sizes]; omega))
          · match i, h with
            | 0, h =>
              obtain rfl := Option.some.inj h
              unfold nsAt
              rw [if_neg (fun h => absurd h.2 (by decide))]
              exact ok1
            | 1, h =>
              obtain rfl := Option.some.inj h
              unfold nsAt
              rw [if_pos ⟨c10, rfl⟩]
              exact ok2
            | i + 2, h => simp at h
          · rw [d_node, c10]
            exact .tup (by rw [← c10]; exact SqT.of h16) (.cons (.str _) (.cons (.str _) (.cons (dp_mono s16 d1') (.cons (dp_mono s16 d2) .nil))))
      rw [decide_eq_false c10]
      refine iteF ?_
      have hmW : (wd, m) ∈ opsW := by
        rcases List.mem_cons.mp hmB with h | h
        · exact absurd (Prod.mk.inj h).1 c10
        · exact h
      obtain ⟨nw1, nw2, nw3⟩ := ops_no _ hmW
      refine ⟨_, rfl, by show 1 ≤ sizeLine; decide, fun Lw nLw => ?_⟩
      obtain ⟨H10, s10, h10, e10⟩ := lay (o := .lst [.str wd]) nLw
      rw [e10]
      have hops10 : Paired (fun t q => H10 t = some (.tup [.str q.1, .int ((q.2 : Nat) : Int)])) ts opsI := Paired.mapP hops9 fun _ _ r => s10 _ _ r
      have hkv : Paired (fun (p : Addr) (kv : Key × V) => SqT K H10 p [kV kv.1, kv.2]) ts (opsI.map fun q => ((.inr q.1 : Key), V.int ((q.2 : Nat) : Int))) := by
        refine paired_map_r ?_
        exact Paired.mapP hops10 fun _ _ r => SqT.of r
      refine ⟨_, rfl, I, ts, _, rfl, SqL.of (s10 _ _ h9I), hkv, fun p' np => ?_⟩
      obtain ⟨H11, s11, h11, e11⟩ := lay (o := .dK (mergeK [] (opsI.map fun q => ((.inr q.1 : Key), V.int ((q.2 : Nat) : Int))))) np
      rw [e11]
      have ev : valV (mergeK [] (opsI.map fun q => ((.inr q.1 : Key), V.int ((q.2 : Nat) : Int)))) (.inr wd : Key) = some (.int (m : Int)) := merge_ops _ hmB
      have m3 : m ≤ 3 := (show ∀ q ∈ opsB, q.2 ≤ 3 by decide) _ hmB
      have m1 : 1 ≤ m := (show ∀ q ∈ opsB, 1 ≤ q.2 by decide) _ hmB
      refine ⟨.str wd, rfl, p', .int (m : Int), rfl, (by rw [← ev]; exact DGet.k (k := .inr wd) h11), m, rfl, by omega, by omega, fun D3 nD3 => ?_⟩
      have S911 : Same H9 H11 := s10.trans s11
      have hl11 := S911 _ _ h9
      have P11 := P9.mono S911 (Nat.le_refl _)
      refine kids_ok (n := n + 1) (fun v => ⟨rfl, rfl, rfl, rfl, rfl⟩) nD3 (hG9.mono (hid_same S911)) wf (Same.seqT S911 ha9) hnm (by omega) pl hl11 (by omega) (by omega) (by omega) P11 (by omega) fun tms x1 u1 H12 acc hts B12 hD12 hd12 hl12 hs12 ok12 P12 => ?_
      have Lwp : Lw ≠ p := P9.ne nLw
      have Lwl : Lw ≠ l := fun e => by rw [e, h9] at nLw; cases nLw
      have hLw := bt_at B12 (by simp [Lwp, Lwl]) (s11 _ _ h10)
      refine ⟨Lw, D3, _, _, rfl, rfl, hLw, hD12, by rw [dps_len hd12, List.length_map, hts, sizeLine_eq]; simp; omega, fun c nc => ?_⟩
      obtain ⟨H13, s13, h13, e13⟩ := lay (o := .lst (.str wd :: acc)) nc
      rw [show ([V.str wd] ++ acc) = .str wd :: acc from rfl, e13]
      refine ⟨c, _, rfl, .inl ⟨SqL.of h13, fun t nt => ?_⟩⟩
      obtain ⟨H14, s14, h14, e14⟩ := lay (o := .tup (.str wd :: acc)) nt
      rw [e14]
      refine q (.ref t) (.mk wd "" tms) x1 u1 H14 (((B09.trans (bt_of S911)).trans B12).trans (bt_of (s13.trans s14))) (s14 _ _ (s13 _ _ hl12)) (by rw [GB.Tm.size]; omega) (.mk (by rw [hts]; exact .op hmW) fun i t' h => ?_) ?_ (P12.mono (s13.trans s14) (by rw [GB.Tm.size]; omega))
      · unfold nsAt
        rw [if_neg (fun h => nw3 h.1)]
        exact ok12 i t' h
      · rw [d_node]
        unfold nodeT
        rw [if_neg nw2, if_neg nw3, if_pos (List.mem_map.mpr ⟨_, hmW, rfl⟩)]
        exact .tup (SqT.of h14) (.cons (.str _) (dps_mono (s13.trans s14) hd12))

end
end K27
set_option Elab.async false
set_option linter.all false
set_option maxRecDepth 100000
set_option maxHeartbeats 4000000
/-! Rules that the layer lacks: sorted of a tuple of texts. -/
namespace GB
open PySem PySem.Spec PyProof.Rows L2
section
variable {prog : Program} {w : World} {A : Around} {E : Value → Shared → Prop} {s : Shared}
theorem sorted_tup {l : Addr} {o : Obj} {items : Array Value} {n : Nat} {ss : List Str} {Q : Value → Shared → Prop} (ho : s.heap.get? l = some o) (hc : o.cls = .type "tuple") (hd : o.data = .seq items n) (hS : StrsAre items.toList ss) (h64 : items.toList.length < 64)
    (h : ∀ (hh : Heap) (a : Addr) (out : Array Value) (ep : Nat) (ss' : List Str), (∀ b u, s.heap.get? b = some u → hh.get? b = some u) → s.heap.get? a = none → hh.get? a = some (seqObj "list" out ep) → StrsAre out.toList ss' → ss'.Perm ss → sortedS ss' = true → Q (.ref a) { s with heap := hh }) :
    wpAny (model prog w) A (call (.builtin "sorted") [.ref l]) Q E s := by
  refine Calls.call_function_entry kind_sorted plain_sorted entry_sorted (args_sorted1 _) ?_
  unfold Builtin.«sorted»
  refine wpAny_bind (m := checkCount "sorted" 1 1 _) (wpAny_pure ?_)
  refine wpAny_bind (wpAny_collect_seq l (.inr rfl) ho hc hd (fun h1 k1 => ?_) (by rw [sizeLine_eq]; have e := Array.length_toList (xs := items); omega))
  refine wpAny_bind (wpAny_newList ?_)
  have hoL : (h1.push (seqObj "list" items.toList.toArray 0)).get? h1.objs.size = some (seqObj "list" items.toList.toArray 0) := Heap.get?_push_size _ rfl
  have lt : s.heap.get? h1.objs.size = none := by
    cases e : s.heap.get? h1.objs.size with
    | none => rfl
    | some u => exact absurd (Heap.lt_size (k1 _ _ e)) (Nat.lt_irrefl _)
  show wpAny _ _ _ _ _ { s with heap := h1.push (seqObj "list" items.toList.toArray 0) }
  refine wpAny_bind (wpAny_holding (wpAny_call_entry slot_list_sort ⟨_, hoL, rfl⟩ entry_list_sort (list_sort_treeK strKind_oneLt hoL hS.keysOf (fun v₁ v₂ rest e => keyKind_strs (by rw [← e]; exact hS)) h64 fun st' a1 a2 => ⟨_, rfl, ?_⟩) (args_list_sort _)))
  obtain ⟨ss', z1, z2, z3⟩ := sorted_out_str hS a1 a2
  obtain ⟨ep, he⟩ := sortedHeap_at (vs := items.toList) (out := (arrOf st').map (·.2)) hoL
  refine wpAny_pure ⟨_, rfl, h _ _ _ ep ss' (fun b u hb => ?_) lt he z1 z2 z3⟩
  have hb1 := k1 b u hb
  have hl := Heap.lt_size hb1
  rw [sortedHeap_old (Nat.ne_of_lt hl) (by rw [size_push']; exact Nat.lt_succ_of_lt hl)]
  exact Heap.get?_push_of_some _ hb1
end
def rSortedTS (K : PySem.W.Frag) : List V → Hp → VK → Prop := fun vs H Q => ∃ (a : Addr) (xs : List Str), vs = [V.ref a] ∧ SqT K H a (sts xs) ∧ xs.length < 64 ∧ ∀ (ys : List Str) (p : Addr), ys.Perm xs → PyProof.Rows.sortedS ys = true → H p = none → Q (.ref p) (upd H p (.lst (sts ys)))
theorem cr_sortedTS {X : Cx} : CallR X (.builtin "sorted") (rSortedTS X.K) := by
  intro pins s σ H vs us Q I r h
  obtain ⟨a, xs, rfl, hs, h64, q⟩ := h
  obtain ⟨its, rv, ⟨o, ho, hc, n, hd⟩, _⟩ := I.tuple hs
  rw [Vals.ref1 r]
  have hlen0 := rv.length
  rw [sts_len] at hlen0
  have e1 : its.toArray.toList = its := rfl
  refine sorted_tup ho hc hd (ss := xs) (by rw [e1]; exact Vals.strs rv) (by rw [e1]; omega) fun hh b out ep ss' kk hb hob z1 z2 z3 => ?_
  have hn : H b = none := I.hok.gone hb
  have hz : (sts ss').length ≤ sizeLine := by rw [sts_len, z2.length_eq]; exact small64 h64
  exact ⟨.ref b, _, I.laidN (o := .lst (sts ss')) (t' := s.toks) kk hb hn ⟨hz, out.toList, ep, vals_of_strs z1, hob⟩, rfl, q ss' b z2 z3 hn⟩
end GB
set_option Elab.async false
set_option linter.all false
set_option maxRecDepth 100000
set_option maxHeartbeats 8000000
namespace GB
open PySem L2
theorem not_in_take {l : List Str} {i : Nat} {x : Str} (nd : l.Nodup) (h : l[i]? = some x) : x ∉ l.take i := fun m => by
  obtain ⟨hi, e2⟩ := List.getElem?_eq_some_iff.mp h
  have e : l = l.take i ++ x :: l.drop (i + 1) := by rw [← e2, ← List.drop_eq_getElem_cons hi, List.take_append_drop]
  rw [e] at nd
  exact (List.nodup_append.mp nd).2.2 x m x List.mem_cons_self rfl
end GB
namespace K27
open PySem PySem.Spec L2 GB
abbrev sCkL : Stmt := topS 35
abbrev sCkF : Stmt := topS 36
abbrev sCkC : Stmt := topS 37
abbrev sIsF : Stmt := topS 39
abbrev sTE : Stmt := topS 40
def isfN : List Str := ["letters", "fixed", "thing", "letter", "values", "end", "value"]
def spCkL : Sp := fun vs H Q _ => ∃ (a : Addr) (ls : List (Str × Nat)), vs = [.ref a] ∧ H a = some (.dK (lkv ls)) ∧ ls ≠ [] ∧ (∀ q ∈ ls, nameB q.1 = true ∧ q.2 ≤ 2) ∧ ∀ H', Same H H' → Q .non H'
def spCkF : Sp := fun vs H Q _ => ∃ (a b : Addr) (ls : List (Str × Nat)) (fx : List Str), vs = [.ref a, .ref b] ∧ H a = some (.dK (lkv ls)) ∧ (ls.map (·.1)).Nodup ∧ H b = some (.lst (sts fx)) ∧ fx.Sublist (ls.map (·.1)) ∧ ∀ H', Same H H' → Q .non H'
def spCkC : Sp := fun vs H Q _ => ∃ (a b c : Addr) (ls : List (Str × Nat)) (fx cm : List Str), vs = [.ref a, .ref b, .ref c] ∧ H a = some (.dK (lkv ls)) ∧ (ls.map (·.1)).Nodup ∧ H b = some (.lst (sts fx)) ∧ H c = some (.lst (sts cm)) ∧ fx.Nodup ∧ cm.Sublist fx ∧ (∀ x ∈ cm, (x, 2) ∈ ls) ∧ ∀ H', Same H H' → Q .non H'
def spTE : Sp := fun vs H Q _ => ∃ (e : Addr) (k n : Str), vs = [.ref e] ∧ H e = some (.tup [.str k, .str n]) ∧ (k = "value" ∨ k = "fail") ∧ nameB n = true ∧ ∀ H', Same H H' → Q (.bl true) H'
def spIsF : Sp := fun vs H Q _ => ∃ (a b t : Addr) (ls : List (Str × Nat)) (fx : List Str) (f : Fact), vs = [.ref a, .ref b, .ref t] ∧ H a = some (.dK (lkv ls)) ∧ (ls.map (·.1)).Nodup ∧ H b = some (.lst (sts fx)) ∧ FactAt H f t ∧ f.Ok ls fx ∧ (∀ q ∈ ls, q.2 ≤ 2) ∧ ∀ H', Same H H' → Q (.bl true) H'
section
variable {P : Program} {w : World} {K : PySem.W.Frag} {mg : Str → Option Value} {base : Heap}
theorem scCkL : FnScope ["letters", "key", "many"] ["letters"] (defScope sCkL) := ⟨rfl, rfl, rfl, by decide +kernel, rfl, by decide +kernel, by decide +kernel⟩
theorem scCkF : FnScope ["letters", "fixed", "index", "letter"] ["letters", "fixed"] (defScope sCkF) := ⟨rfl, rfl, rfl, by decide +kernel, rfl, by decide +kernel, by decide +kernel⟩
theorem scCkC : FnScope ["letters", "fixed", "commuting", "index", "letter"] ["letters", "fixed", "commuting"] (defScope sCkC) := ⟨rfl, rfl, rfl, by decide +kernel, rfl, by decide +kernel, by decide +kernel⟩
theorem scTE : FnScope ["thing"] ["thing"] (defScope sTE) := ⟨rfl, rfl, rfl, by decide +kernel, rfl, by decide +kernel, by decide +kernel⟩
theorem scIsF : FnScope isfN ["letters", "fixed", "thing"] (defScope sIsF) := ⟨rfl, rfl, rfl, by decide +kernel, rfl, by decide +kernel, by decide +kernel⟩

theorem len8 {z : Str} (h : nameB z = true) : z.length ≤ sizeLine := by
  unfold nameB at h
  have := (Bool.and_eq_true_iff.mp h).1
  have := of_decide_eq_true this
  rw [sizeLine_eq]; omega
theorem ok_ckL {f : Addr} {fd : FuncData} (F : Fun K "_check_letters" "_check_letters" sCkL f fd) (T : Bl mg) (M : ∃ u, mg "MOST_PARTS" = some u ∧ RelV (.int 2) u) (NM : Fns P w K mg base "is_name" 1 ["thing"] (spIsNm K)) (NU : Fns P w K mg base "is_number" 1 ["thing"] (spIsN K)) :
    FnOk P w K mg base CX0 2 f fd ["letters"] spCkL := by
  obtain ⟨uM, gM, rM⟩ := M
  refine F.ok scCkL (fun vs H Q E h => ?_) (fun cdv A outer s H vs Q E hr h => ?_)
  · obtain ⟨a, ls, rfl, _⟩ := h
    rfl
  · obtain ⟨a, ls, rfl, hL, hne, hok, q⟩ := h
    refine ⟨_, pss_cons (ps_if (PW.pt (pw_or (pt_not (pt_val (pe_callB call_isi (by rfl) T.isi (by decide +kernel) (pa_cons (pv 0) (pa_cons (pe_bltn (v := .ty "dict") (by rfl) T.dict (by decide +kernel) rfl) (pa_nil)))))) (pw_or1 (pt_cmpR op_eq (pe_callB call_lenD (by rfl) T.len PySem.boot_len (pa_cons (pv 0) (pa_nil))) (pe_int) (nomark _))))) (pss_one ps_never) (pss_nil)) (pss_one (ps_lock (ps_for PassesOwn.never rfl (pi_items (pv 0)) (pg_tup rfl (pgs_cons (pg_name (i := 1) scCkL.nd rfl (.inl rfl)) (pgs_cons (pg_name (i := 2) scCkL.nd rfl (.inl rfl)) (pgs_nil)))) (pss_one (ps_if (PW.pt (pw_or (pt_not (pt_val (pe_fn NM hr (by decide) rfl (pa_cons (pv 1) (pa_nil))))) (pw_or (pt_not (pt_val (pe_fn NU hr (by decide) rfl (pa_cons (pv 2) (pa_nil))))) (pw_or1 (pt_not (pt_chain op_le op_le pe_int (pv 2) (pe_glob rfl gM rM))))))) (pss_one ps_never) (pss_nil)))))), ?_⟩
    refine ⟨_, rfl, .ref a, .ty "dict", .type "dict", .type "dict", true, rfl, .ty "dict", .base (.dK hL), kit_ty (by decide +kernel), true, rfl, ?_⟩
    refine iteF ?_
    refine ⟨_, rfl, a, _, rfl, hL, rfl, _, rfl, ?_⟩
    have l0 : (lkv ls).length ≠ 0 := by
      have e : (lkv ls).length = ls.length := List.length_map _
      have := List.length_pos_iff.mpr hne
      omega
    rw [decI, decide_eq_false (by omega)]
    refine iteF ?_
    refine ⟨a, _, hL, trivial, fun od => ?_⟩
    obtain ⟨Hl, hlL, hlo, el⟩ : ∃ Hl, Hl a = some (.frz od (.dK (lkv ls))) ∧ (∀ b, b ≠ a → Hl b = H b) ∧ upd H a (.frz od (.dK (lkv ls))) = Hl := ⟨_, upd_same, fun b hb => upd_ne hb, rfl⟩
    rw [el]
    refine ⟨_, rfl, a, od, _, rfl, hlL, ?_⟩
    refine for_it walk_items (fun i σ H' => ∃ o1 o2, σ = [some (.ref a), o1, o2] ∧ Same Hl H') ⟨none, none, rfl, Same.refl _⟩ (fun i σ H' _ ⟨o1, o2, _, s'⟩ => s' _ _ hlL) ?_ ?_
    · rintro i x σ H1 H1' hi ⟨o1, o2, rfl, s1⟩ ⟨Tp, y1, y2, rfl, nT, rfl, e1, e2⟩
      obtain ⟨⟨sx, m⟩, hq, ex1, ex2⟩ : ∃ q, ls[i]? = some q ∧ y1 = .str q.1 ∧ y2 = .int (q.2 : Int) := by
        have e1 : (lkv ls)[i]?.map (fun kv => kV kv.1) = some y1 := e1
        have e2 : (lkv ls)[i]?.map Prod.snd = some y2 := e2
        unfold lkv at e1 e2
        rw [List.getElem?_map] at e1 e2
        cases e : ls[i]? with
        | none => rw [e] at e1; cases e1
        | some q => rw [e] at e1 e2; exact ⟨q, rfl, (Option.some.inj e1).symm, (Option.some.inj e2).symm⟩
      subst ex1 ex2
      obtain ⟨hn, hm⟩ := hok _ (List.mem_of_getElem? hq)
      obtain ⟨H2, s2, h2, e2'⟩ := lay (o := .tup [.str sx, .int (m : Int)]) nT
      rw [e2']
      refine ⟨Tp, _, rfl, SqT.of h2, rfl, _, _, rfl, _, _, rfl, rfl, ?_⟩
      refine ⟨_, rfl, _, rfl, .inl ⟨sx, rfl, len8 hn, fun H3 s3 => ⟨true, by rw [hn], ?_⟩⟩⟩
      refine iteF ?_
      refine ⟨_, rfl, .int (m : Int), .type "int", true, false, rfl, .base (.int _), kit_ty (by decide +kernel), kit_ty (by decide +kernel), true, rfl, ?_⟩
      refine iteF ?_
      refine ⟨_, rfl, _, _, rfl, rfl, _, rfl, ?_⟩
      rw [decide_eq_true (by omega : (0 : Int) ≤ (m : Int))]
      refine iteT ?_
      refine ⟨_, _, rfl, rfl, _, rfl, ?_⟩
      rw [decide_eq_true (by show (m : Int) ≤ 2; have : m ≤ 2 := hm; omega)]
      refine iteF ?_
      exact ⟨_, _, rfl, (s1.trans s2).trans s3⟩
    · rintro σ H1 ⟨o1, o2, rfl, s1⟩
      refine ⟨s1 _ _ hlL, q _ fun b o e => ?_⟩
      by_cases hb : b = a
      · subst hb; rw [upd_same, ← e, hL]
      · rw [upd_ne hb]; exact s1 _ _ ((hlo b hb).trans e)
theorem ok_ckF {f : Addr} {fd : FuncData} (F : Fun K "_check_fixed" "_check_fixed" sCkF f fd) (T : Bl mg) (IL : Fns P w K mg base "is_list" 1 ["thing"] (spIsL K)) : FnOk P w K mg base CX0 2 f fd ["letters", "fixed"] spCkF := by
  refine F.ok scCkF (fun vs H Q E h => ?_) (fun cdv A outer s H vs Q E hr h => ?_)
  · obtain ⟨a, b, ls, fx, rfl, _⟩ := h
    rfl
  · obtain ⟨a, b, ls, fx, rfl, hL, lnd, hF, sub, q⟩ := h
    have hu := hu_of hr
    refine ⟨_, pss_cons (ps_if (pt_not (pt_val (pe_fn IL hr (by decide) rfl (pa_cons (pv 1) (pa_nil))))) (pss_one ps_never) (pss_nil)) (pss_one (ps_for PassesOwn.never rfl (pi_enumW rfl T.enum (pa_cons (pv 1) (pa_nil))) (pg_tup rfl (pgs_cons (pg_name (i := 2) scCkF.nd rfl (.inl rfl)) (pgs_cons (pg_name (i := 3) scCkF.nd rfl (.inl rfl)) (pgs_nil)))) (pss_one (ps_if (PW.pt (pw_or (pt_not (pt_val (pe_callB call_isi (by rfl) T.isi (by decide +kernel) (pa_cons (pv 3) (pa_cons (pe_bltn (v := .ty "str") (by rfl) T.str (by decide +kernel) rfl) (pa_nil)))))) (pw_or (pt_cmp (pc_dnotin hu (pv 3) (pv 0))) (pw_or1 (pt_cmpR op_in_seq (pv 3) (pe_slice sl_list (pv 1) po_none (po_some (pv 2))) (by rfl)))))) (pss_one ps_never) (pss_nil))))), ?_⟩
    obtain ⟨ty, ht, hty⟩ := tyS (K := K) (.inl (SqL.of hF) : SqA K H b (sts fx))
    refine ⟨_, rfl, .ref b, _, true, rfl, hty, kit_seq ht, fun H1 s1 => ⟨_, rfl, ?_⟩⟩
    refine iteF ?_
    refine ⟨_, rfl, b, sts fx, true, [], rfl, SqL.of (hid_to (by simp) (s1 _ _ hF)), fun J WJ => ?_⟩
    refine for_it WJ (fun i σ H' => ∃ o1 o2, σ = [some (.ref a), some (.ref b), o1, o2] ∧ Same H H') ⟨none, none, rfl, s1⟩ (fun i σ H' _ ⟨o1, o2, _, s'⟩ => SqL.of (hid_to (by simp) (s' _ _ hF))) ?_ ?_
    · rintro i x σ H2 H2' hi ⟨o1, o2, rfl, s2⟩ ⟨Tp, y1, y2, rfl, nT, rfl, e1, e2⟩
      obtain rfl := Option.some.inj e1
      obtain ⟨sx, hsx, rfl⟩ := sts_at e2
      obtain ⟨H3, s3, h3, e3⟩ := lay (o := .tup [.int (i : Nat), .str sx]) nT
      rw [e3]
      have S3 := s2.trans s3
      have mfx := List.mem_of_getElem? hsx
      obtain ⟨q1, hq1, eq1⟩ := List.mem_map.mp (sub.subset mfx)
      refine ⟨Tp, _, rfl, SqT.of h3, rfl, _, _, rfl, _, _, rfl, rfl, ?_⟩
      refine ⟨_, rfl, .str sx, .ty "str", .type "str", .type "str", true, rfl, .ty "str", .base (.str sx), kit_ty (by decide +kernel), true, rfl, ?_⟩
      refine iteF ?_
      have hv : valV (lkv ls) (.inr sx : Key) = some (.int (q1.2 : Int)) := valV_lkv lnd (by rw [← eq1]; exact hq1)
      refine ⟨_, rfl, _, rfl, a, some (.int (q1.2 : Int)), rfl, (by rw [← hv]; exact DGet.k (k := .inr sx) (S3 _ _ hL)), _, rfl, ?_⟩
      refine iteF ?_
      refine ⟨_, rfl, _, rfl, _, rfl, _, rfl, b, sts fx, rfl, SqL.of (S3 _ _ hF), fun p np => ?_⟩
      have hil : i < fx.length := (List.getElem?_eq_some_iff.mp hsx).1
      have ec : cutV (sts fx) none (some ((i : Nat) : Int)) = sts (fx.take i) := by rw [cut_to _ _ (by rw [sts_len]; omega)]; unfold sts; rw [List.map_take]
      obtain ⟨H4, s4, h4, e4⟩ := lay (o := .lst (sts (fx.take i))) np
      rw [ec, e4]
      refine ⟨p, sts (fx.take i), rfl, .inl (SqL.of h4), rfl, flat_sts _, _, rfl, ?_⟩
      rw [show (if false = true then !inV (.str sx) (sts (fx.take i)) else inV (.str sx) (sts (fx.take i))) = false from (inV_sts _ _).trans (decide_eq_false (not_in_take (sub.nodup lnd) hsx))]
      refine iteF ?_
      exact ⟨_, _, rfl, S3.trans s4⟩
    · rintro σ H2 ⟨o1, o2, rfl, s2⟩
      exact q _ s2
theorem ok_ckC {f : Addr} {fd : FuncData} (F : Fun K "_check_commuting" "_check_commuting" sCkC f fd) (T : Bl mg) (IL : Fns P w K mg base "is_list" 1 ["thing"] (spIsL K)) : FnOk P w K mg base CX0 2 f fd ["letters", "fixed", "commuting"] spCkC := by
  refine F.ok scCkC (fun vs H Q E h => ?_) (fun cdv A outer s H vs Q E hr h => ?_)
  · obtain ⟨a, b, c, ls, fx, cm, rfl, _⟩ := h
    rfl
  · obtain ⟨a, b, c, ls, fx, cm, rfl, hL, lnd, hF, hC, fnd, sub, c2, q⟩ := h
    have hu := hu_of hr
    refine ⟨_, pss_cons (ps_if (pt_not (pt_val (pe_fn IL hr (by decide) rfl (pa_cons (pv 2) (pa_nil))))) (pss_one ps_never) (pss_nil)) (pss_one (ps_for PassesOwn.never rfl (pi_enumW rfl T.enum (pa_cons (pv 2) (pa_nil))) (pg_tup rfl (pgs_cons (pg_name (i := 3) scCkC.nd rfl (.inl rfl)) (pgs_cons (pg_name (i := 4) scCkC.nd rfl (.inl rfl)) (pgs_nil)))) (pss_one (ps_if (PW.pt (pw_or (pt_cmpR op_notIn_seq (pv 4) (pv 1) (by rfl)) (pw_or (pt_cmpR op_ne (pe_dget hu (pv 0) (pv 4) (fun _ _ => rfl)) (pe_int) (nomark _)) (pw_or1 (pt_cmpR op_in_seq (pv 4) (pe_slice sl_list (pv 2) po_none (po_some (pv 3))) (by rfl)))))) (pss_one ps_never) (pss_nil))))), ?_⟩
    obtain ⟨ty, ht, hty⟩ := tyS (K := K) (.inl (SqL.of hC) : SqA K H c (sts cm))
    refine ⟨_, rfl, .ref c, _, true, rfl, hty, kit_seq ht, fun H1 s1 => ⟨_, rfl, ?_⟩⟩
    refine iteF ?_
    refine ⟨_, rfl, c, sts cm, true, [], rfl, SqL.of (hid_to (by simp) (s1 _ _ hC)), fun J WJ => ?_⟩
    refine for_it WJ (fun i σ H' => ∃ o1 o2, σ = [some (.ref a), some (.ref b), some (.ref c), o1, o2] ∧ Same H H') ⟨none, none, rfl, s1⟩ (fun i σ H' _ ⟨o1, o2, _, s'⟩ => SqL.of (hid_to (by simp) (s' _ _ hC))) ?_ ?_
    · rintro i x σ H2 H2' hi ⟨o1, o2, rfl, s2⟩ ⟨Tp, y1, y2, rfl, nT, rfl, e1, e2⟩
      obtain rfl := Option.some.inj e1
      obtain ⟨sx, hsx, rfl⟩ := sts_at e2
      obtain ⟨H3, s3, h3, e3⟩ := lay (o := .tup [.int (i : Nat), .str sx]) nT
      rw [e3]
      have S3 := s2.trans s3
      have mcm := List.mem_of_getElem? hsx
      refine ⟨Tp, _, rfl, SqT.of h3, rfl, _, _, rfl, _, _, rfl, rfl, ?_⟩
      refine ⟨_, rfl, _, rfl, b, sts fx, rfl, .inl (SqL.of (S3 _ _ hF)), rfl, flat_sts _, _, rfl, ?_⟩
      rw [show (if true = true then !inV (.str sx) (sts fx) else inV (.str sx) (sts fx)) = false from by rw [if_pos rfl, inV_sts, decide_eq_true (sub.subset mcm)]; rfl]
      refine iteF ?_
      have hv : valV (lkv ls) (.inr sx : Key) = some (.int ((2 : Nat) : Int)) := valV_lkv lnd (c2 _ mcm)
      refine ⟨_, rfl, _, rfl, a, .int ((2 : Nat) : Int), rfl, (by rw [← hv]; exact DGet.k (k := .inr sx) (S3 _ _ hL)), rfl, _, rfl, ?_⟩
      refine iteNS rfl ?_
      refine ⟨_, rfl, _, rfl, _, rfl, _, rfl, c, sts cm, rfl, SqL.of (S3 _ _ hC), fun p np => ?_⟩
      have hil : i < cm.length := (List.getElem?_eq_some_iff.mp hsx).1
      have ec : cutV (sts cm) none (some ((i : Nat) : Int)) = sts (cm.take i) := by rw [cut_to _ _ (by rw [sts_len]; omega)]; unfold sts; rw [List.map_take]
      obtain ⟨H4, s4, h4, e4⟩ := lay (o := .lst (sts (cm.take i))) np
      rw [ec, e4]
      refine ⟨p, sts (cm.take i), rfl, .inl (SqL.of h4), rfl, flat_sts _, _, rfl, ?_⟩
      rw [show (if false = true then !inV (.str sx) (sts (cm.take i)) else inV (.str sx) (sts (cm.take i))) = false from (inV_sts _ _).trans (decide_eq_false (not_in_take (sub.nodup fnd) hsx))]
      refine iteF ?_
      exact ⟨_, _, rfl, S3.trans s4⟩
    · rintro σ H2 ⟨o1, o2, rfl, s2⟩
      exact q _ s2
theorem ok_te {f : Addr} {fd : FuncData} (F : Fun K "_is_told_end" "_is_told_end" sTE f fd) (T : Bl mg) (IL : Fns P w K mg base "is_list" 1 ["thing"] (spIsL K)) (NM : Fns P w K mg base "is_name" 1 ["thing"] (spIsNm K)) : FnOk P w K mg base CX0 2 f fd ["thing"] spTE := by
  refine F.ok scTE (fun vs H Q E h => ?_) (fun cdv A outer s H vs Q E hr h => ?_)
  · obtain ⟨e, k, n, rfl, _⟩ := h
    rfl
  · obtain ⟨e, k, n, rfl, he, hk, hn, q⟩ := h
    refine ⟨_, pss_cons (ps_if (PW.pt (pw_or (pt_not (pt_val (pe_fn IL hr (by decide) rfl (pa_cons (pv 0) (pa_nil))))) (pw_or1 (pt_cmpR op_ne (pe_callB call_len_seq (by rfl) T.len PySem.boot_len (pa_cons (pv 0) (pa_nil))) (pe_int) (nomark _))))) (pss_one (ps_ret pe_bl)) (pss_nil)) (pss_one (ps_ret (pe_and (pe_cmpR op_in_seq (pe_ix ix_tup (pv 0) (pe_int) (fun _ _ => rfl)) (pe_tup (pa_cons (pe_str) (pa_cons (pe_str) (pa_nil)))) (by rfl)) (pe_one (pe_fn NM hr (by decide) rfl (pa_cons (pe_ix ix_tup (pv 0) (pe_int) (fun _ _ => rfl)) (pa_nil))))))), ?_⟩
    obtain ⟨ty, ht, hty⟩ := tyS (K := K) (.inr (SqT.of he) : SqA K H e [.str k, .str n])
    refine ⟨_, rfl, .ref e, _, true, rfl, hty, kit_seq ht, fun H1 s1 => ⟨_, rfl, ?_⟩⟩
    refine iteF ?_
    refine ⟨_, rfl, e, _, rfl, .inr (SqT.of (s1 _ _ he)), rfl, _, rfl, ?_⟩
    refine iteF ?_
    refine ⟨_, rfl, e, _, ((0 : Nat) : Int), _, rfl, rfl, SqT.of (s1 _ _ he), atI_nat (j := 0) rfl, by show 2 ≤ sizeLine; decide, fun t nt => ?_⟩
    obtain ⟨H2, s2, h2, e2⟩ := lay (o := .tup (sts ["value", "fail"])) nt
    rw [show ([V.str "value", V.str "fail"] : List V) = sts ["value", "fail"] from rfl, e2]
    refine ⟨t, sts ["value", "fail"], rfl, .inr (SqT.of h2), rfl, flat_sts _, true, ?_, ?_⟩
    · rw [show (if false = true then !inV (.str k) (sts ["value", "fail"]) else inV (.str k) (sts ["value", "fail"])) = true from (inV_sts _ _).trans (decide_eq_true (by rcases hk with rfl | rfl <;> decide))]
    · refine iteT ?_
      refine ⟨_, rfl, e, _, ((1 : Nat) : Int), _, rfl, rfl, SqT.of (s2 _ _ (s1 _ _ he)), atI_nat (j := 1) rfl, _, rfl, .inl ⟨n, rfl, len8 hn, fun H3 s3 => ?_⟩⟩
      rw [hn]
      exact q _ ((s1.trans s2).trans s3)
end
end K27
set_option Elab.async false
set_option linter.all false
set_option maxRecDepth 100000
set_option maxHeartbeats 8000000
namespace GB
open PySem PySem.Spec L2
def txk (l : List Str) : List NestedKey := l.map NestedKey.text
def nkO (a : Str × List Str) : NestedKey := .tup [.text a.1, .tup (txk a.2)]
theorem txk_inj : ∀ {l m : List Str}, txk l = txk m → l = m
  | [], [], _ => rfl
  | [], _ :: _, h => by cases h
  | _ :: _, [], h => by cases h
  | x :: l, y :: m, h => by
    have h1 : NestedKey.text x = .text y ∧ txk l = txk m := List.cons.inj h
    obtain rfl := NestedKey.text.inj h1.1
    rw [txk_inj h1.2]
theorem nkO_inj {a b : Str × List Str} (h : nkO a = nkO b) : a = b := by
  obtain ⟨x, l⟩ := a
  obtain ⟨y, m⟩ := b
  have h1 := List.cons.inj (NestedKey.tup.inj h)
  obtain rfl := NestedKey.text.inj h1.1
  have h2 := (List.cons.inj h1.2).1
  obtain rfl : l = m := txk_inj (NestedKey.tup.inj h2)
  rfl
theorem txk_depth : ∀ l : List Str, NestedKey.depthAll (txk l) = 0
  | [] => by simp [txk, NestedKey.depthAll]
  | x :: l => by
    have := txk_depth l
    unfold txk at this ⊢
    rw [List.map_cons, NestedKey.depthAll, this, NestedKey.depth]
    rfl
theorem nkO_depth (a : Str × List Str) : (nkO a).depth ≤ 8 := by
  unfold nkO
  rw [NestedKey.depth, NestedKey.depthAll, NestedKey.depthAll, NestedKey.depthAll, NestedKey.depth, NestedKey.depth, txk_depth]
  decide
theorem nk_txk {H : Hp} : ∀ l : List Str, NkAll H (txk l) (sts l)
  | [] => .nil
  | x :: l => .cons (.text x) (nk_txk l)
mutual
theorem NkV.mono {H H' : Hp} (s : Same H H') : ∀ (k : NestedKey) (v : V), NkV H k v → NkV H' k v
  | .text _, _, h => by cases h; exact .text _
  | .tup ks, _, h => by
    cases h with
    | tup ha hx => exact .tup (s _ _ ha) (NkAll.mono s ks _ hx)
  | .none, _, h => nomatch h
  | .num _, _, h => nomatch h
theorem NkAll.mono {H H' : Hp} (s : Same H H') : ∀ (ks : List NestedKey) (vs : List V), NkAll H ks vs → NkAll H' ks vs
  | [], _, h => by cases h; exact .nil
  | k :: ks, _, h => by
    cases h with
    | cons h1 h2 => exact .cons (NkV.mono s k _ h1) (NkAll.mono s ks _ h2)
end
theorem NdKeys.mono {H H' : Hp} (s : Same H H') {xs : NX} (h : NdKeys H xs) : NdKeys H' xs := fun e he => ⟨NkV.mono s _ _ (h e he).1, (h e he).2⟩
theorem paired_at' {α β : Type} {R : α → β → Prop} : ∀ {l : List α} {m : List β} {j : Nat} {c : α}, Paired R l m → l[j]? = some c → ∃ x, m[j]? = some x ∧ R c x
  | _, _, j, c, .nil, e => by simp at e
  | _, _, 0, c, .cons r _, e => by
    obtain rfl : _ = c := by simpa using e
    exact ⟨_, rfl, r⟩
  | _, _, j + 1, c, .cons _ t, e => paired_at' (j := j) t (by simpa using e)
theorem atKey_none {xs : NX} {k : NestedKey} (h : k ∉ xs.map (·.1)) : atKey xs k = none := by
  unfold atKey
  rw [Option.map_eq_none_iff, List.find?_eq_none]
  intro x hx e
  exact h (List.mem_map.mpr ⟨x, hx, of_decide_eq_true e⟩)
theorem not_in_take_map {α β : Type} {f : α → β} {l : List α} {i : Nat} {x y : α} (nd : (l.map f).Nodup) (h : l[i]? = some x) (hy : y ∈ l.take i) (e : f y = f x) : False := by
  obtain ⟨hi, e2⟩ := List.getElem?_eq_some_iff.mp h
  have el : l = l.take i ++ x :: l.drop (i + 1) := by rw [← e2, ← List.drop_eq_getElem_cons hi, List.take_append_drop]
  rw [el, List.map_append, List.map_cons] at nd
  exact (List.nodup_append.mp nd).2.2 (f y) (List.mem_map.mpr ⟨y, hy, rfl⟩) (f x) List.mem_cons_self e
/-- tuple(sorted(values) if .. else values) -/
def tAsk : TE := fun σ H Q => ∃ (x : Str) (v c : Addr) (vals cm : List Str), σ[7]? = some (some (.str x)) ∧ σ[2]? = some (some (.ref c)) ∧ σ[8]? = some (some (.ref v)) ∧ H c = some (.lst (sts cm)) ∧ H v = some (.tup (sts vals)) ∧ vals.length ≤ 2 ∧ (∀ x ∈ vals, x ∈ va3) ∧
  ∀ kv H6, Same H H6 → H6 kv = some (.tup (sts (if x ∈ cm then sort2 vals else vals))) → Q (.ref kv) H6
theorem pe_weak {X : Cx} {e : Expr} {t t' : TE} (h : PE X e t) (w : ∀ σ H Q, t' σ H Q → t σ H Q) : PE X e t' := ⟨fun pins s σ H Q I q => h.run pins s σ H Q I (w σ H Q q)⟩
theorem ask_weak {K : PySem.W.Frag} (σ : L2.St) (H : Hp) (Q : VK) (h : tAsk σ H Q) : tCB (fun xs H_1 Q => ∃ p ys, xs = [V.ref p] ∧ ((SqL K H_1 p ys ∧ ∀ l, H_1 l = none → Q (.ref l) (upd H_1 l (.tup ys))) ∨ (SqT K H_1 p ys ∧ Q (.ref p) H_1)))
    (tCons (tIf (tTest (tOp (rIn K false) (tVar 7) (tVar 2))) (tCB (rSortedTS K) (tCons (tVar 8) tNil)) (tVar 8)) tNil) σ H Q := by
  obtain ⟨x, v, c, vals, cm, h7, h2, h8, hc, hv, l2, v3, q⟩ := h
  refine ⟨_, h7, _, h2, c, sts cm, rfl, .inl (SqL.of hc), rfl, flat_sts _, _, rfl, ?_⟩
  rw [show (if false = true then !inV (.str x) (sts cm) else inV (.str x) (sts cm)) = decide (x ∈ cm) from inV_sts _ _]
  by_cases m : x ∈ cm
  · rw [decide_eq_true m]
    refine iteT ?_
    refine ⟨_, h8, v, vals, rfl, SqT.of hv, by omega, fun ys p hperm hsrt np => ?_⟩
    obtain ⟨H1, s1, h1, e1⟩ := lay (o := .lst (sts ys)) np
    rw [e1]
    refine ⟨p, sts ys, rfl, .inl ⟨SqL.of h1, fun l nl => ?_⟩⟩
    obtain ⟨H2, s2, h2, e2⟩ := lay (o := .tup (sts ys)) nl
    rw [e2]
    exact q l H2 (s1.trans s2) (by rw [if_pos m, ← sort2_of hperm hsrt l2 v3]; exact h2)
  · rw [decide_eq_false m]
    refine iteF ?_
    exact ⟨_, h8, v, sts vals, rfl, .inr ⟨SqT.of hv, q v H (Same.refl _) (by rw [if_neg m]; exact hv)⟩⟩
end GB
namespace K27
open PySem PySem.Spec L2 GB
abbrev sFT : Stmt := topS 38
def ftN : List Str := ["letters", "fixed", "commuting", "facts", "told", "index", "thing", "letter", "values", "end", "asked"]
def spFT : Sp := fun vs H Q _ => ∃ (a b c d : Addr) (g : GD), vs = [.ref a, .ref b, .ref c, .ref d] ∧ H a = some (.dK (lkv g.letters)) ∧ H b = some (.lst (sts g.fixed)) ∧ H c = some (.lst (sts g.comm)) ∧ FactsAt H d g.facts ∧ g.Wf ∧
  ∀ l H', H l = none → Same H H' → FactsAt H' l g.facts → Q (.ref l) H'
section
variable {P : Program} {w : World} {K : PySem.W.Frag} {mg : Str → Option Value} {base : Heap}
theorem scFT : FnScope ftN ["letters", "fixed", "commuting", "facts"] (defScope sFT) := ⟨rfl, rfl, rfl, by decide +kernel, rfl, by decide +kernel, by decide +kernel⟩

theorem ok_isF {f : Addr} {fd : FuncData} (F : Fun K "_is_fact" "_is_fact" sIsF f fd) (T : Bl mg) (IL : Fns P w K mg base "is_list" 1 ["thing"] (spIsL K)) (NM : Fns P w K mg base "is_name" 1 ["thing"] (spIsNm K)) (TE : Fns P w K mg base "_is_told_end" 2 ["thing"] spTE) :
    FnOk P w K mg base CX0 3 f fd ["letters", "fixed", "thing"] spIsF := by
  refine F.ok scIsF (fun vs H Q E h => ?_) (fun cdv A outer s H vs Q E hr h => ?_)
  · obtain ⟨a, b, t, ls, fx, fa, rfl, _⟩ := h
    rfl
  · obtain ⟨a, b, t, ls, fx, fa, rfl, hL, lnd, hF, hA, ok, har, q⟩ := h
    have hu := hu_of hr
    refine ⟨_, pss_cons (ps_if (PW.pt (pw_or (pt_not (pt_val (pe_fn IL hr (by decide) rfl (pa_cons (pv 2) (pa_nil))))) (pw_or1 (pt_cmpR op_ne (pe_callB call_len_seq (by rfl) T.len PySem.boot_len (pa_cons (pv 2) (pa_nil))) (pe_int) (nomark _))))) (pss_one (ps_ret pe_bl)) (pss_nil)) (pss_cons (ps_asg (pv 2) (pg_tup rfl (pgs_cons (pg_name (i := 3) scIsF.nd rfl (.inl rfl)) (pgs_cons (pg_name (i := 4) scIsF.nd rfl (.inl rfl)) (pgs_cons (pg_name (i := 5) scIsF.nd rfl (.inl rfl)) (pgs_nil)))))) (pss_cons (ps_if (PW.pt (pw_or (pt_cmpR op_notIn_seq (pv 3) (pv 1) (by rfl)) (pw_or (pt_not (pt_val (pe_fn IL hr (by decide) rfl (pa_cons (pv 4) (pa_nil))))) (pw_or1 (pt_cmpR op_ne (pe_callB call_len_seq (by rfl) T.len PySem.boot_len (pa_cons (pv 4) (pa_nil))) (pe_dget hu (pv 0) (pv 3) (fun _ _ => rfl)) (nomark _)))))) (pss_one (ps_ret pe_bl)) (pss_nil)) (pss_one (ps_ret (pe_and (pe_callB (cr_all rfl) (by rfl) T.all (by decide +kernel) (pa_cons (pe_lc (own := [("value", 6)]) (g := gName 6) (tt := tYes) rfl scIsF.nd (pi_seqW (pv 4)) (blkOk_by (own := [("value", 6)]) (N := isfN) (sc := defScope sIsF) (by decide +kernel)) (fun _ _ _ _ _ => pg_name (i := 6) scIsF.nd rfl (.inl rfl)) (fun _ _ _ _ _ => pts_nil) (fun _ _ _ _ _ => pe_fn NM hr (by decide) rfl (pa_cons (pv 6) (pa_nil)))) (pa_nil))) (pe_one (pe_fn TE hr (by decide) rfl (pa_cons (pv 5) (pa_nil))))))))), ?_⟩
    obtain ⟨v, e, ht, hv, he⟩ := hA.ex
    obtain ⟨k, hk, hvl⟩ := ok.len
    obtain ⟨ty, hty0, hty⟩ := tyS (K := K) (.inr (SqT.of ht) : SqA K H t [.str fa.x, .ref v, .ref e])
    refine ⟨_, rfl, .ref t, _, true, rfl, hty, kit_seq hty0, fun H1 s1 => ⟨_, rfl, ?_⟩⟩
    refine iteF ?_
    refine ⟨_, rfl, t, _, rfl, .inr (SqT.of (s1 _ _ ht)), rfl, _, rfl, ?_⟩
    refine iteF ?_
    refine ⟨_, rfl, t, _, rfl, SqT.of (s1 _ _ ht), rfl, _, _, rfl, _, _, rfl, _, _, rfl, rfl, ?_⟩
    refine ⟨_, rfl, _, rfl, b, sts fx, rfl, .inl (SqL.of (s1 _ _ hF)), rfl, flat_sts _, _, rfl, ?_⟩
    rw [show (if true = true then !inV (.str fa.x) (sts fx) else inV (.str fa.x) (sts fx)) = false from by rw [if_pos rfl, inV_sts, decide_eq_true ok.x]; rfl]
    refine iteF ?_
    obtain ⟨ty2, hty2, hty3⟩ := tyS (K := K) (.inr (SqT.of (s1 _ _ hv)) : SqA K H1 v (sts fa.vals))
    refine ⟨_, rfl, .ref v, _, true, rfl, hty3, kit_seq hty2, fun H2 s2 => ⟨_, rfl, ?_⟩⟩
    refine iteF ?_
    have S2 := s1.trans s2
    have hvv : valV (lkv ls) (.inr fa.x : Key) = some (.int (k : Int)) := valV_lkv lnd hk
    refine ⟨_, rfl, v, sts fa.vals, rfl, .inr (SqT.of (S2 _ _ hv)), _, rfl, _, rfl, a, .int (k : Int), rfl, (by rw [← hvv]; exact DGet.k (k := .inr fa.x) (S2 _ _ hL)), rfl, _, rfl, ?_⟩
    rw [show (!decide (V.int ((sts fa.vals).length : Int) = V.int (k : Int))) = false from by rw [sts_len, hvl, decide_eq_true rfl]; rfl]
    refine iteF ?_
    refine ⟨_, rfl, v, sts fa.vals, false, [], rfl, SqT.of (hid_to (by simp) (S2 _ _ hv)), fun J WJ D nD => ?_⟩
    refine lc_it WJ (fun i H' => Same H2 H' ∧ H' D = some (.lst ((List.replicate i true).map V.bl))) ⟨same_new nD, upd_same⟩ (fun i H' _ ⟨s', _⟩ => SqT.of (hid_to (by simp) (s' _ _ (S2 _ _ hv)))) ?_ ?_
    · rintro i x H3 H3' hi ⟨s3, h3⟩ ⟨rfl, hx⟩
      obtain ⟨sx, hsx, rfl⟩ := sts_at hx
      have nB : nameB sx = true := (show ∀ x ∈ va3, nameB x = true by decide +kernel) _ (ok.vals _ (List.mem_of_getElem? hsx))
      have hil : i < fa.vals.length := (List.getElem?_eq_some_iff.mp hsx).1
      have kl : k ≤ 2 := har _ hk
      refine ⟨rfl, ?_⟩
      refine ⟨_, rfl, _, rfl, .inl ⟨sx, rfl, len8 nB, fun H4 s4 => ?_⟩⟩
      refine ⟨_, s4 _ _ h3, by rw [List.length_map, List.length_replicate, sizeLine_eq]; omega, fun b o e => ?_, ?_⟩
      · rw [upd_ne (ne_of_none e nD)]; exact s4 _ _ (s3 _ _ e)
      · rw [upd_same, nB, List.replicate_succ', List.map_append]; rfl
    · rintro H3 ⟨s3, h3⟩
      refine ⟨D, _, rfl, SqL.of h3, true, ?_, ?_⟩
      · rw [List.all_replicate]; simp
      · refine iteT ?_
        exact ⟨_, rfl, e, fa.kind, fa.en, rfl, (S2.trans s3) _ _ he, ok.kind, by rcases ok.en with h | h <;> rw [h] <;> decide +kernel, fun H4 s4 => q _ ((S2.trans s3).trans s4)⟩
theorem ok_ft {f : Addr} {fd : FuncData} (F : Fun K "_facts_as_told" "_facts_as_told" sFT f fd) (T : Bl mg) (IL : Fns P w K mg base "is_list" 1 ["thing"] (spIsL K)) (ISF : Fns P w K mg base "_is_fact" 3 ["letters", "fixed", "thing"] spIsF) :
    FnOk P w K mg base CX0 4 f fd ["letters", "fixed", "commuting", "facts"] spFT := by
  refine F.ok scFT (fun vs H Q E h => ?_) (fun cdv A outer s H vs Q E hr h => ?_)
  · obtain ⟨a, b, c, d, g, rfl, _⟩ := h
    rfl
  · obtain ⟨a, b, c, d, g, rfl, hL, hF, hC, ⟨ts, hd, hts⟩, wf, q⟩ := h
    have hu9 : (A.deeper (PyProof.Rows.envOfC "_facts_as_told" (defScope sFT) s.heap.objs.size f cdv)).units + 9 < cLine := by have := hr.un; omega
    refine ⟨_, pss_cons (ps_if (pt_not (pt_val (pe_fn IL hr (by decide) rfl (pa_cons (pv 3) (pa_nil))))) (pss_one ps_never) (pss_nil)) (pss_cons (ps_set (i := 4) scFT.nd rfl (.inl rfl) (pe_dnewN)) (pss_cons (ps_for PassesOwn.never rfl (pi_enumW rfl T.enum (pa_cons (pv 3) (pa_nil))) (pg_tup rfl (pgs_cons (pg_name (i := 5) scFT.nd rfl (.inl rfl)) (pgs_cons (pg_name (i := 6) scFT.nd rfl (.inl rfl)) (pgs_nil)))) (pss_cons (ps_if (pt_not (pt_val (pe_fn ISF hr (by decide) rfl (pa_cons (pv 0) (pa_cons (pv 1) (pa_cons (pv 6) (pa_nil))))))) (pss_one ps_never) (pss_nil)) (pss_cons (ps_asg (pv 6) (pg_tup rfl (pgs_cons (pg_name (i := 7) scFT.nd rfl (.inl rfl)) (pgs_cons (pg_name (i := 8) scFT.nd rfl (.inl rfl)) (pgs_cons (pg_name (i := 9) scFT.nd rfl (.inl rfl)) (pgs_nil)))))) (pss_cons (ps_set (i := 10) scFT.nd rfl (.inl rfl) (pe_tup (pa_cons (pv 7) (pa_cons (pe_weak (t' := tAsk) (pe_callTy (call_tuple_of) (by rfl) T.tuple (by decide +kernel) (pa_cons (pe_ifExp (pt_cmpR op_in_seq (pv 7) (pv 2) (by rfl)) (pe_callB (cr_sortedTS) (by rfl) T.sorted (by decide +kernel) (pa_cons (pv 8) (pa_nil))) (pv 8)) (pa_nil))) ask_weak) (pa_nil))))) (pss_cons (ps_if (pt_cmpR (op_inN hu9) (pv 10) (pv 4) (by rfl)) (pss_one ps_never) (pss_nil)) (pss_one (ps_asg (pe_tup (pa_cons (pv 7) (pa_cons (pe_callTy (call_tuple_of) (by rfl) T.tuple (by decide +kernel) (pa_cons (pv 8) (pa_nil))) (pa_cons (pe_callTy (call_tuple_of) (by rfl) T.tuple (by decide +kernel) (pa_cons (pv 9) (pa_nil))) (pa_nil))))) (pg_sub (pv 4) (pv 10) (set_dictN hu9))))))))) (pss_one (ps_ret (pe_callTy ((call_listVN rfl)) (by rfl) T.list (by decide +kernel) (pa_cons (pe_valsN (pv 4)) (pa_nil))))))), ?_⟩
    obtain ⟨ty, hty0, hty⟩ := tyS (K := K) (.inl (SqL.of hd) : SqA K H d (ts.map V.ref))
    refine ⟨_, rfl, .ref d, _, true, rfl, hty, kit_seq hty0, fun H1 s1 => ⟨_, rfl, ?_⟩⟩
    refine iteF ?_
    intro D nD
    obtain ⟨H2, s2, h2, e2⟩ := lay (o := ndO P w D []) nD
    have e2' : upd H1 D (ndO (cxOf CX0 P w K mg base ftN "_facts_as_told" (defScope sFT) f cdv A outer s H E).nox.prog (cxOf CX0 P w K mg base ftN "_facts_as_told" (defScope sFT) f cdv A outer s H E).nox.w D []) = H2 := e2
    rw [e2']
    have nDH : H D = none := s1.free nD
    have S2 : Same H (hid [D] H2) := same_hid_new nDH (s1.trans s2)
    have ltd : ts.length = g.facts.length := (Paired.length hts).symm
    refine ⟨_, rfl, d, ts.map V.ref, true, [D], rfl, SqL.of (S2 _ _ hd), fun J WJ => ?_⟩
    refine for_it WJ (fun i σ H' => ∃ (o5 o6 o7 o8 o9 o10 : Option V) (xs : NX) (bs : List Addr), σ = [some (.ref a), some (.ref b), some (.ref c), some (.ref d), some (.ref D), o5, o6, o7, o8, o9, o10] ∧ Same H (hid [D] H') ∧ H' D = some (ndO P w D xs) ∧ NdKeys (hid [D] H') xs ∧
      xs.map (·.1) = (g.facts.take i).map (fun f => nkO (g.asked f)) ∧ xs.map (fun x => x.2.2) = bs.map Value.ref ∧ Paired (FactAt (hid [D] H')) (g.facts.take i) bs) ⟨none, none, none, none, none, none, [], [], rfl, S2, h2, (fun e he => nomatch he), rfl, rfl, .nil⟩ (fun i σ H' _ ⟨_, _, _, _, _, _, _, _, _, S, _⟩ => SqL.of (S _ _ hd)) ?_ ?_
    · rintro i x σ H3 H3' hi ⟨o5, o6, o7, o8, o9, o10, xs, bs, rfl, S3, h3, k3, e31, e32, p3⟩ ⟨Tp, y1, y2, rfl, nT, rfl, e1, ey⟩
      obtain rfl := Option.some.inj e1
      obtain ⟨t, htt, rfl⟩ : ∃ t, ts[i]? = some t ∧ y2 = V.ref t := by
        have ey : (ts.map V.ref)[i]? = some y2 := ey
        rw [List.getElem?_map] at ey
        cases e : ts[i]? with
        | none => rw [e] at ey; cases ey
        | some y => rw [e] at ey; exact ⟨y, rfl, (Option.some.inj ey).symm⟩
      have hig : i < g.facts.length := by rw [← ltd]; exact (List.getElem?_eq_some_iff.mp htt).1
      have hfi : g.facts[i]? = some g.facts[i] := List.getElem?_eq_getElem hig
      generalize hfa : g.facts[i] = fa at hfi
      have fmem := List.mem_of_getElem? hfi
      obtain ⟨t', ht', hA⟩ : ∃ t', ts[i]? = some t' ∧ FactAt H fa t' := paired_at' hts hfi
      obtain rfl : t' = t := by rw [htt] at ht'; exact (Option.some.inj ht').symm
      have ok := wf.fa _ fmem
      obtain ⟨H4, s4, h4, e4⟩ := lay (o := .tup [.int (i : Nat), .ref t']) nT
      rw [e4]
      have S4 : Same H (hid [D] H4) := S3.trans (hid_same s4)
      have S40 : Same H H4 := S4.trans (hid_low _ _)
      refine ⟨Tp, _, rfl, SqT.of h4, rfl, _, _, rfl, _, _, rfl, rfl, ?_⟩
      refine ⟨_, rfl, _, rfl, _, rfl, a, b, t', g.letters, g.fixed, fa, rfl, S40 _ _ hL, wf.nd, S40 _ _ hF, hA.mono S40, ok, wf.ar, fun H5 s5 => ⟨_, rfl, ?_⟩⟩
      refine iteF ?_
      have S5 : Same H (hid [D] H5) := S4.trans (hid_same s5)
      have S50 : Same H H5 := S5.trans (hid_low _ _)
      obtain ⟨v, e, ht, hv, he⟩ := (hA.mono S5).ex
      have ht0 := (hid_in ht).1
      have hv0 := (hid_in hv).1
      have he0 := (hid_in he).1
      refine ⟨_, rfl, t', _, rfl, SqT.of ht0, rfl, _, _, rfl, _, _, rfl, _, _, rfl, rfl, ?_⟩
      have h5D : H5 D = some (ndO P w D xs) := s5 _ _ (s4 _ _ h3)
      have len2 : fa.vals.length ≤ 2 := by
        obtain ⟨k, hk, e⟩ := ok.len
        have h2 : k ≤ 2 := wf.ar _ hk
        omega
      have hask : g.asked fa = (fa.x, if fa.x ∈ g.comm then sort2 fa.vals else fa.vals) := rfl
      refine ⟨_, rfl, fa.x, v, c, fa.vals, g.comm, rfl, rfl, rfl, S50 _ _ hC, hv0, len2, ok.vals, fun kv H6 s6 hkv => ?_⟩
      refine ⟨by show 2 ≤ sizeLine; decide, fun ka nka => ?_⟩
      obtain ⟨H7, s7, h7, e7⟩ := lay (o := .tup [.str fa.x, .ref kv]) nka
      rw [e7]
      have S57 : Same H5 H7 := s6.trans s7
      have h7D := S57 _ _ h5D
      have nD7 : ∀ {q : Addr} {o : List V}, H7 q = some (.tup o) → hid [D] H7 q = some (.tup o) := fun h => hid_to (ni1 (ne_of h h7D (fun z => nomatch z))) h
      have k7 : NdKeys (hid [D] H7) xs := k3.mono (hid_same ((s4.trans s5).trans S57))
      have nk7 : NkV (hid [D] H7) (nkO (g.asked fa)) (.ref ka) := by
        rw [hask]
        exact .tup (nD7 h7) (.cons (.text _) (.cons (.tup (nD7 (s7 _ _ hkv)) (nk_txk _)) .nil))
      have nokey : nkO (g.asked fa) ∉ xs.map (·.1) := by
        rw [e31]
        intro m
        obtain ⟨fb, hfb, eb⟩ := List.mem_map.mp m
        have eq := nkO_inj eb
        exact not_in_take_map wf.fd hfi hfb eq
      have hnone := atKey_none nokey
      refine ⟨_, rfl, _, rfl, ka, D, nkO (g.asked fa), xs, rfl, rfl, h7D, k7.mono (hid_low _ _), NkV.mono (hid_low _ _) _ _ nk7, nkO_depth _, _, rfl, ?_⟩
      rw [hnone]
      refine iteF ?_
      have hv7 := S57 _ _ hv0
      have he7 := S57 _ _ he0
      refine ⟨_, rfl, _, rfl, v, _, rfl, .inr ⟨SqT.of hv7, _, rfl, e, _, rfl, .inr ⟨SqT.of he7, by show 3 ≤ sizeLine; decide, fun b nb => ?_⟩⟩⟩
      obtain ⟨H8, s8, h8, e8⟩ := lay (o := .tup [.str fa.x, .ref v, .ref e]) nb
      rw [e8]
      have h8D := s8 _ _ h7D
      have lxs : xs.length ≤ 6 := by
        have := congrArg List.length e31
        rw [List.length_map, List.length_map, List.length_take] at this
        have := wf.fl
        omega
      have k8 := k7.mono (hid_same s8)
      have nk8 := NkV.mono (hid_same s8) _ _ nk7
      refine ⟨_, rfl, _, rfl, D, ka, b, nkO (g.asked fa), xs, rfl, rfl, rfl, h8D, k8.mono (hid_low _ _), NkV.mono (hid_low _ _) _ _ nk8, nkO_depth _, by omega, ?_⟩
      rw [storedH_new hnone]
      have B8 : Bt [D] H8 (upd H8 D (ndO P w D (xs ++ [(nkO (g.asked fa), ka, Value.ref b)]))) := bt_upd (by simp)
      have S58 : Same (hid [D] H5) (hid [D] (upd H8 D (ndO P w D (xs ++ [(nkO (g.asked fa), ka, Value.ref b)])))) := (hid_same (S57.trans s8)).trans B8
      have bD : b ∉ [D] := ni1 (ne_of_none h7D nb).symm
      refine ⟨_, _, _, _, _, _, xs ++ [(nkO (g.asked fa), ka, Value.ref b)], bs ++ [b], rfl, S5.trans S58, upd_same, ?_, ?_, ?_, ?_⟩
      · intro en hen
        rcases List.mem_append.mp hen with h | h
        · exact (k8.mono B8) en h
        · rw [List.mem_singleton.mp h]
          exact ⟨NkV.mono B8 _ _ nk8, nkO_depth _⟩
      · rw [take_at hfi, List.map_append, List.map_append, e31]; rfl
      · rw [List.map_append, List.map_append, e32]; rfl
      · rw [take_at hfi]
        exact paired_app (Paired.mapP p3 fun _ _ r => r.mono ((hid_same (s4.trans s5)).trans S58)) (.cons ⟨v, e, B8 _ _ (hid_to bD h8), S58 _ _ hv, S58 _ _ he⟩ .nil)
    · rintro σ H3 ⟨o5, o6, o7, o8, o9, o10, xs, bs, rfl, S3, h3, k3, e31, e32, p3⟩
      have lbs : bs.length = g.facts.length := by rw [← Paired.length p3, List.length_take]; rw [List.length_map, ltd]; omega
      refine ⟨_, rfl, D, xs, rfl, h3, fun vw nvw => ?_⟩
      obtain ⟨H4, s4, h4, e4⟩ := lay (o := valsO vw D) nvw
      rw [e4]
      refine ⟨vw, D, xs, bs, rfl, h4, s4 _ _ h3, e32, by rw [lbs]; have := wf.fl; omega, fun l nl => ?_⟩
      obtain ⟨H5, s5, h5, e5⟩ := lay (o := .lst (bs.map V.ref)) nl
      rw [e5]
      have S5 : Same H H5 := (S3.trans (hid_low _ _)).trans (s4.trans s5)
      rw [List.take_of_length_le (by rw [List.length_map, ltd]; exact Nat.le_refl _)] at p3
      exact q l H5 (((S3.trans (hid_low _ _)).trans s4).free nl) S5 ⟨bs, h5, Paired.mapP p3 fun _ _ r => r.mono ((hid_low _ _).trans (s4.trans s5))⟩
end
end K27
set_option Elab.async false
set_option linter.all false
set_option maxRecDepth 100000
set_option maxHeartbeats 8000000
/-! A dict comprehension whose keys are texts, or tuples of texts. -/
namespace DictT
open PySem PySem.Spec PyProof.Rows L2
/-- what its reading asks: the new dict is o0 first -/
def tDcT (o0 : HO) (wi : TI) (g : TG) (tt : TT) (tk tv : TE) (vs : List Nat) : TE := fun σ H Q => wi σ H fun J H1 => ∀ D, H1 D = none → ∃ Wv : Nat → Nat → Hp → Prop, (∃ m, Wv 0 m (upd H1 D o0)) ∧ ∀ i m H, Wv i m H →
  (J.stop i H ∧ Q (.ref D) H) ∨ (J.go i H ∧ ∃ Nx : Hp → Prop, (∀ H', Nx H' → ∃ m', m' < m ∧ Wv (i + 1) m' H') ∧ ∀ x H', J.yld i H x H' → g x (wipe σ vs) H' fun σ2 H2 => wipe σ2 vs = wipe σ vs ∧ tt σ2 H2 fun b H3 =>
    if b = true then tk σ2 H3 fun y H4 => tv σ2 H4 fun z H5 => ∃ H6, DPut H5 D y z H6 ∧ Nx H6 else Nx H3)
section
variable {X : Cx} {pins : List (Addr × Obj)} {σ : L2.St} {H : Hp} {s : Shared}
theorem put_ok {D : Addr} {y v : V} {u r : Value} {H' : Hp} {Q : Unit → Shared → Prop} {E : Value → Shared → Prop} (hu : X.A.units + 1 < cLine) (I : Inv X pins σ H s) (g : DPut H D y v H') (ry : RelV y u) (rv : RelV v r)
    (h : ∀ t, Inv X pins σ H' t → Q () t) : wpAny (model X.prog X.w) X.A (dictSet D u r) Q E s := by
  rcases g with ⟨kvs, k, e, rfl, l, rfl⟩ | ⟨kvs, k, b, e, rfl, eb, l, rfl⟩
  · exact d_dictSet I e l ry rv h
  · obtain rfl : u = Value.ref b := ry
    obtain ⟨z1, z2, xs, rel, dd⟩ := dt_of I.hok e
    have lx := Paired.length rel
    refine wpAny_dictSet_heap (hsz := by rw [← lx]; exact z1) (by show X.A.units < cLine; omega) (key_of I.hok eb) dd fun h' dd' sb => h _ ?_
    obtain ⟨q, es, ep, g1, g2, g3, g4, _, g5⟩ := dd'
    refine d_write I (by rw [e]; trivial) sb ⟨q, g1⟩ ⟨by have := length_putK kvs k v; omega, z2, _, (rel.put k eb rv).keeps fun c ys ec => ?_, q, es, ep, g1, g2, g3, g4, g5⟩
    rw [upd_ne (ne_of ec e (fun z => nomatch z))]
    exact ec
end
section
variable {X : Cx}
/-- {} as the dict that is wanted -/
inductive Fresh : HO → Prop
  | k : Fresh (.dK [])
  | t : Fresh (.dT [])
theorem Fresh.ok {o0 : HO} (f : Fresh o0) {P : Program} {w : World} {H : Hp} (h : Heap) (hb : sysModules < h.objs.size) : ObjOk P w H (h.push { cls := .type "dict", data := .dict #[] }) h.objs.size o0 := by
  cases f with
  | k => exact dk_empty h hb
  | t => exact dt_empty h hb
theorem dcT_core {pins : List (Addr × Obj)} {s : Shared} {σ : L2.St} {H : Hp} {Q : VK} {o0 : HO} {kx vx tg iter : Expr} {ifs : List Expr} {sc : Scope} {own : List (Str × Nat)} {pos pos2 : Pos} {wi : TI} {g : TG} {tt : TT} {tk tv : TE} {use : Option (Value → Sem Unit)} {Qf : Value → Shared → Prop}
    (fr : Fresh o0) (hu : X.A.units + 1 < cLine) (hc : X.calm = true) (hN : X.N.Nodup) (I : Inv X pins σ H s) (hi : PI X tg iter wi) (ok : BlkOk X.N X.env.scope sc own)
    (hg : ∀ (t : Shared) (J : Hp) (C : Addr) (cl : List (Str × Addr)) (fp : List Addr), PG (X.blk t J sc (compEnvC sc cl C X.env) fp) tg g) (ht : ∀ (t : Shared) (J : Hp) (C : Addr) (cl : List (Str × Addr)) (fp : List Addr), PTs (X.blk t J sc (compEnvC sc cl C X.env) fp) ifs tt)
    (hk : ∀ (t : Shared) (J : Hp) (C : Addr) (cl : List (Str × Addr)) (fp : List Addr), PE (X.blk t J sc (compEnvC sc cl C X.env) fp) kx tk) (hv : ∀ (t : Shared) (J : Hp) (C : Addr) (cl : List (Str × Addr)) (fp : List Addr), PE (X.blk t J sc (compEnvC sc cl C X.env) fp) vx tv)
    (hfs : ∀ x, foldedSetIterable iter X.env x = pure x) (h : tDcT o0 wi g tt tk tv (own.map (·.2)) σ H Q)
    (done : ∀ D C t m J, Inv X pins σ J t → Q (.ref D) J → t.heap.Ns C m → FpOk X pins J C → compPost (model X.prog X.w) X.A X.xe use Qf (.ref D) C (.ok .next) t) :
    wpAny (model X.prog X.w) X.A (comprehension (.DictComp kx vx [⟨tg, iter, ifs, 0⟩] sc pos) sc X.env pos2 newDict false (eval iter X.env) use) Qf X.xe s := by
  have cap : ∀ y ∈ sc.names, y.2 = .free → ∃ c, X.env.cells.lookup y.1 = some c := fun y hy e => (ok.free y hy e).elim (fun k => I.ok.has _ (.inl k)) fun k => I.ok.has _ (.inr k)
  refine wpAny_comprehension_free (use := use) rfl hfs (closure_ok cap) ok.kind (fun y hy e => by rw [ok.uniq y hy, e]) (thn (hi.run pins s σ H _ I h) fun xv t1 hx => thn hx fun itv t2 h2 => ?_)
  obtain ⟨it, fp, tn, J, H2, e, I2, T, st2, f2, q⟩ := h2
  subst e
  refine wpAny_newObj_type (newEnv_comp ?_)
  generalize hD : t2.heap.objs.size = D
  have nD : H2 D = none := I2.hok.fresh (Nat.le_of_eq hD)
  obtain ⟨Wv, ⟨m0, w0⟩, turn⟩ := q D nD
  generalize ht3 : ({ t2 with heap := t2.heap.push { cls := .type "dict", data := .dict #[] } } : Shared) = t3
  have hp3 : t3.heap = t2.heap.push { cls := .type "dict", data := .dict #[] } := by rw [← ht3]
  have I3 : Inv X pins σ (upd H2 D o0) t3 := by
    rw [← ht3]
    refine I2.laid (t' := t2.toks) (fun b o e => Heap.get?_push_of_some _ e) (Nat.le_of_eq hD) ?_
    rw [← hD]
    exact fr.ok t2.heap I2.big
  have lt2 : ∀ b ∈ fp, b < t2.heap.objs.size := fun b hb => let ⟨_, e, _⟩ := T.obj _ _ st2 b hb; Heap.lt_size e
  have f3 : ∀ b ∈ fp, FpOk X pins (upd H2 D o0) b ∧ b < t3.heap.objs.size := fun b hb => by
    refine ⟨⟨?_, (f2 b hb).2⟩, by rw [hp3, Heap.size_push]; exact Nat.lt_succ_of_lt (lt2 b hb)⟩
    rw [upd_ne (by rw [← hD]; exact Nat.ne_of_lt (lt2 b hb))]
    exact (f2 b hb).1
  have st3 : tn 0 t3.heap := T.keep _ _ _ st2 fun b _ o e => by rw [hp3]; exact Heap.get?_push_of_some _ e
  have I4 := block_start I3 ok hN f3
  have pg := hg t3 (upd H2 D o0) t3.heap.objs.size (cellsFrom (t3.heap.objs.size + 1) sc.names (cloFrom X.env.cells sc.names [])) fp
  have pt := ht t3 (upd H2 D o0) t3.heap.objs.size (cellsFrom (t3.heap.objs.size + 1) sc.names (cloFrom X.env.cells sc.names [])) fp
  have pk := hk t3 (upd H2 D o0) t3.heap.objs.size (cellsFrom (t3.heap.objs.size + 1) sc.names (cloFrom X.env.cells sc.names [])) fp
  have pe := hv t3 (upd H2 D o0) t3.heap.objs.size (cellsFrom (t3.heap.objs.size + 1) sc.names (cloFrom X.env.cells sc.names [])) fp
  show codeAny _ _ (.compStart (.DictComp kx vx [⟨tg, iter, ifs, 0⟩] sc pos) 0 (.ref it) (.ref D) (compEnvC sc (cellsFrom (t3.heap.objs.size + 1) sc.names (cloFrom X.env.cells sc.names [])) t3.heap.objs.size X.env))
    (compPost (model X.prog X.w) X.A X.xe use Qf (.ref D) t3.heap.objs.size) { t3 with heap := pushCells (t3.heap.push { cls := .type "dict", data := .dict #[] }) sc.names }
  have nfp : ∀ b ∈ fp, (upd H2 D o0) b = none := fun b hb => (f3 b hb).1.1
  generalize hce : compEnvC sc (cellsFrom (t3.heap.objs.size + 1) sc.names (cloFrom X.env.cells sc.names [])) t3.heap.objs.size X.env = ce at I4 pg pt pk pe ⊢
  have cL : ce.locals = t3.heap.objs.size := by rw [← hce]; rfl
  generalize hH3 : upd H2 D o0 = H3 at I3 I4 pg pt pk pe w0 nfp f3
  generalize ht4 : ({ t3 with heap := pushCells (t3.heap.push { cls := .type "dict", data := .dict #[] }) sc.names } : Shared) = t4 at I4 ⊢
  have st4 : tn 0 t4.heap := T.keep _ _ _ st3 fun b _ o e => by rw [← ht4]; exact pushCells_keeps _ _ _ _ (Heap.get?_push_of_some _ e)
  have stat : ∀ {τ : L2.St} {J' : Hp} {t : Shared}, Inv (X.blk t3 H3 sc ce fp) [] τ J' t → (∀ b ∈ fp, J' b = none) → ∀ b ∈ fp, FpOk (X.blk t3 H3 sc ce fp) [] J' b := fun {τ J' t} I' hn b hb =>
    ⟨hn b hb, (I'.ok.exf b hb).1, I'.ok.exfs b hb, .inl hb, fun x c e => (I'.ok.exf b hb).2 x c e, fun p hp => absurd (show p ∈ ([] : List (Addr × Obj)) ++ [] from hp) (by simp)⟩
  have loop : codeAny (model X.prog X.w) X.A (.compLoop (.DictComp kx vx [⟨tg, iter, ifs, 0⟩] sc pos) 0 (.ref it) (.ref D) ce) (compPost (model X.prog X.w) X.A X.xe use Qf (.ref D) t3.heap.objs.size) t4 := by
    refine compLoop_anyD (fun n t => ∃ i J', Inv (X.blk t3 H3 sc ce fp) [] (wipe σ (own.map (·.2))) J' t ∧ tn i t.heap ∧ (∀ b ∈ fp, J' b = none) ∧ Wv i n J') ?_ m0 ⟨0, H3, I4, st4, nfp, w0⟩
    rintro n t5 ⟨i, H5, I5, st5, n5, w5⟩
    rcases turn i n H5 w5 with ⟨stop, qq⟩ | ⟨go, Nx, hNx, step⟩
    · refine thnF (T.done (X.blk t3 H3 sc ce fp) rfl rfl rfl hc i [] t5 _ H5 (fun _ _ => False) I5 (stat I5 n5) st5 stop) fun r t6 ⟨hr, I6⟩ => ?_
      subst hr
      have I7 : Inv X pins σ H5 t6 := I3.call' (ch := fp) I6.os I6.base I6.hok I6.bare fun b hb => ⟨(f3 b hb).1.2.2.2.1, (f3 b hb).1.2.1, (f3 b hb).1.2.2.2.2.1, (f3 b hb).1.2.2.2.2.2⟩
      have nC : H5 ce.locals = none := I6.free
      obtain ⟨m, hn, _⟩ := I6.loc
      have hn : t6.heap.Ns ce.locals m := hn
      rw [cL] at nC hn
      exact done D t3.heap.objs.size t6 m H5 I7 qq hn (I3.fpOk (Nat.le_refl _) nC)
    · refine thnF (T.item (X.blk t3 H3 sc ce fp) rfl rfl rfl hc i [] t5 _ H5 (fun _ _ => False) I5 (stat I5 n5) st5 go) fun r t6 ⟨u, hr, h6⟩ => ?_
      subst hr
      refine thnF h6 fun _ t7 ⟨x, H7, I7, r7, y7, st7, n7⟩ => ?_
      have I7p := I7.pinned (stat I7 n7) (T.obj _ _ st7)
      refine thnF (pg.run _ t7 _ H7 x u _ I7p r7 (step x H7 y7)) fun _ t8 ⟨σ8, H8, I8, hw8, q8⟩ => ?_
      refine thnF (pt.run _ t8 σ8 H8 _ I8 q8) fun b t9 ⟨H9, I9, q9⟩ => ?_
      have fin : ∀ {t : Shared} {J' : Hp}, Inv (X.blk t3 H3 sc ce fp) ([] ++ pinsAt fp t7.heap) σ8 J' t → Nx J' → ∃ m, m < n ∧ ∃ i J', Inv (X.blk t3 H3 sc ce fp) [] (wipe σ (own.map (·.2))) J' t ∧ tn i t.heap ∧ (∀ b ∈ fp, J' b = none) ∧ Wv i m J' := fun {t J'} I' nx => by
        obtain ⟨m', hm, w'⟩ := hNx J' nx
        have pin' : ∀ b ∈ fp, ∀ o, t7.heap.get? b = some o → t.heap.get? b = some o ∧ J' b = none := fun b hb o e =>
          let z := I'.pin (b, o) (List.mem_append_right _ (List.mem_append_right _ (mem_pinsAt hb e)))
          ⟨z.1, z.2.1⟩
        have hl : (wipe σ (own.map (·.2))).length = σ8.length := by rw [← hw8, wipe_length]
        refine ⟨m', hm, i + 1, J', (I'.unpinned (pins := [])).weak hl (fun j v e => by rw [← hw8] at e; exact (wipe_some e).1), T.keep _ _ _ st7 fun b hb o e => (pin' b hb o e).1, fun b hb => ?_, w'⟩
        obtain ⟨o, e, _⟩ := T.obj _ _ st7 b hb
        exact (pin' b hb o e).2
      cases b with
      | false =>
        simp only [Bool.false_eq_true, if_false] at q9 ⊢
        exact fin I9 q9
      | true =>
        simp only [if_true] at q9 ⊢
        refine thnF (pk.run _ t9 σ8 H9 _ I9 q9) fun kv t10 ⟨yk, H10, I10, r10, q10⟩ => ?_
        refine thnF (pe.run _ t10 σ8 H10 _ I10 q10) fun vv t11 ⟨yv, H11, I11, r11, H12, dp, nx⟩ => ?_
        exact put_ok (X := X.blk t3 H3 sc ce fp) hu I11 dp r10 r11 fun t12 I12 => fin I12 nx
  exact codeAny_compStart_dict loop (T.self X.A 0 _ _ _ st4 loop)
/-- {..: ..} as a value -/
theorem pe_dcT {o0 : HO} (fr : Fresh o0) {kx vx tg iter : Expr} {ifs : List Expr} {sc : Scope} {own : List (Str × Nat)} {pos : Pos} {wi : TI} {g : TG} {tt : TT} {tk tv : TE} (hu : X.A.units + 1 < cLine) (hc : X.calm = true) (hN : X.N.Nodup) (hi : PI X tg iter wi) (ok : BlkOk X.N X.env.scope sc own)
    (hg : ∀ (t : Shared) (J : Hp) (C : Addr) (cl : List (Str × Addr)) (fp : List Addr), PG (X.blk t J sc (compEnvC sc cl C X.env) fp) tg g) (ht : ∀ (t : Shared) (J : Hp) (C : Addr) (cl : List (Str × Addr)) (fp : List Addr), PTs (X.blk t J sc (compEnvC sc cl C X.env) fp) ifs tt)
    (hk : ∀ (t : Shared) (J : Hp) (C : Addr) (cl : List (Str × Addr)) (fp : List Addr), PE (X.blk t J sc (compEnvC sc cl C X.env) fp) kx tk) (hv : ∀ (t : Shared) (J : Hp) (C : Addr) (cl : List (Str × Addr)) (fp : List Addr), PE (X.blk t J sc (compEnvC sc cl C X.env) fp) vx tv)
    (hfs : ∀ x, foldedSetIterable iter X.env x = pure x := by intro _; rfl) : PE X (.DictComp kx vx [⟨tg, iter, ifs, 0⟩] sc pos) (tDcT o0 wi g tt tk tv (own.map (·.2))) := by
  refine ⟨fun pins s σ H Q I h => ?_⟩
  rw [arm_eval_DictComp]
  refine dcT_core fr hu hc hN I hi ok hg ht hk hv hfs h fun D C t m J I' q hn f => ⟨m, hn, fun h2 sb => ?_⟩
  obtain ⟨f0, f1, f2, f3, f4, f5⟩ := f
  exact ⟨.ref D, J, I'.turned (t' := t.toks) (fun b o hb e => (sb.2 b hb).trans e) f0 f1 f3 f4 f5, rfl, q⟩
/-- its loop over what a walk gives -/
theorem dc_it {J : It} {n : Nat} {G : Hp → Prop} {Y : Nat → Hp → V → Hp → Prop} (w : Walk J n G Y) {g : TG} {tt : TT} {tk tv : TE} {vs : List Nat} {σ : L2.St} {H1 : Hp} {D : Addr} {o0 : HO} {Qd : Hp → Prop} (Pv : Nat → Hp → Prop) (h0 : Pv 0 (upd H1 D o0)) (hG : ∀ i H, i ≤ n → Pv i H → G H)
    (hs : ∀ i x H H', i < n → Pv i H → Y i H x H' → g x (wipe σ vs) H' fun σ2 H2 => wipe σ2 vs = wipe σ vs ∧ tt σ2 H2 fun b H3 => if b = true then tk σ2 H3 fun y H4 => tv σ2 H4 fun z H5 => ∃ H6, DPut H5 D y z H6 ∧ Pv (i + 1) H6 else Pv (i + 1) H3) (hd : ∀ H, Pv n H → Qd H) :
    ∃ Wv : Nat → Nat → Hp → Prop, (∃ m, Wv 0 m (upd H1 D o0)) ∧ ∀ i m H, Wv i m H → (J.stop i H ∧ Qd H) ∨ (J.go i H ∧ ∃ Nx : Hp → Prop, (∀ H', Nx H' → ∃ m', m' < m ∧ Wv (i + 1) m' H') ∧ ∀ x H', J.yld i H x H' → g x (wipe σ vs) H' fun σ2 H2 =>
      wipe σ2 vs = wipe σ vs ∧ tt σ2 H2 fun b H3 => if b = true then tk σ2 H3 fun y H4 => tv σ2 H4 fun z H5 => ∃ H6, DPut H5 D y z H6 ∧ Nx H6 else Nx H3) := by
  refine ⟨fun i m H => m = n - i ∧ i ≤ n ∧ Pv i H, ⟨n, by simp, Nat.zero_le _, h0⟩, ?_⟩
  rintro i m H ⟨rfl, hi, p⟩
  rcases Nat.lt_or_ge i n with lt | ge
  · exact .inr ⟨w.goes i H lt (hG i H hi p), Pv (i + 1), fun H' p' => ⟨n - (i + 1), by omega, rfl, lt, p'⟩, fun x H' y => hs i x H H' lt p (w.yields i H x H' lt (hG i H hi p) y)⟩
  · obtain rfl : i = n := by omega
    exact .inl ⟨w.stops H (hG i H hi p), hd H p⟩
end
end DictT
set_option Elab.async false
set_option linter.all false
set_option autoImplicit false
set_option maxRecDepth 100000
set_option maxHeartbeats 8000000
/-! Rows of texts, and the loops of comprehensions with two walks. -/
namespace GB
open PySem PySem.Spec L2
/-- the row of texts stands at t -/
def RowAt (H : Hp) (row : List Str) (t : Addr) : Prop := H t = some (.tup (sts row))
def RowsAt (H : Hp) (rows : List (List Str)) (ts : List Addr) : Prop := Paired (RowAt H) rows ts
theorem RowsAt.mono {H H' : Hp} {rows : List (List Str)} {ts : List Addr} (s : Same H H') (h : RowsAt H rows ts) : RowsAt H' rows ts := Paired.mapP h fun _ _ r => s _ _ r
theorem RowsAt.app {H : Hp} {r1 r2 : List (List Str)} {t1 t2 : List Addr} (h1 : RowsAt H r1 t1) (h2 : RowsAt H r2 t2) : RowsAt H (r1 ++ r2) (t1 ++ t2) := paired_app h1 h2
theorem RowsAt.len {H : Hp} {rows : List (List Str)} {ts : List Addr} (h : RowsAt H rows ts) : rows.length = ts.length := Paired.length h
section
variable {J J1 : It} {n n1 : Nat} {G G1 : Hp → Prop} {Y Y1 : Nat → Hp → V → Hp → Prop} {g g1 : TG} {tt tt1 : TT} {te : TE} {vs vs1 : List Nat} {σ σ2 : L2.St} {D : Addr}
/-- the outer walk of a comprehension with two -/
theorem lc2_it (w : Walk J n G Y) {wi1 : TI} {H1 : Hp} {Qd : Hp → Prop} (Pv : Nat → Hp → Prop) (h0 : Pv 0 (upd H1 D (.lst []))) (hG : ∀ i H, i ≤ n → Pv i H → G H)
    (hs : ∀ i x H H', i < n → Pv i H → Y i H x H' → g x (wipe σ vs) H' fun σ2 H2 => wipe σ2 vs = wipe σ vs ∧ tt σ2 H2 fun b H3 =>
      if b = true then wi1 σ2 H3 fun J1 H4 => ∃ W1 : Nat → Nat → Hp → Prop, (∃ m, W1 0 m H4) ∧ ∀ j k H, W1 j k H → (J1.stop j H ∧ Pv (i + 1) H) ∨ (J1.go j H ∧ ∃ Nx1 : Hp → Prop, (∀ H', Nx1 H' → ∃ k', k' < k ∧ W1 (j + 1) k' H') ∧ ∀ x H', J1.yld j H x H' → g1 x (wipe σ2 vs1) H' fun σ3 H5 => wipe σ3 vs1 = wipe σ2 vs1 ∧ tt1 σ3 H5 fun b H6 =>
        if b = true then te σ3 H6 fun y H7 => ∃ acc, H7 D = some (.lst acc) ∧ acc.length < sizeLine ∧ Nx1 (upd H7 D (.lst (acc ++ [y]))) else Nx1 H6)
      else Pv (i + 1) H3) (hd : ∀ H, Pv n H → Qd H) :
    ∃ W : Nat → Nat → Hp → Prop, (∃ m, W 0 m (upd H1 D (.lst []))) ∧ ∀ i m H, W i m H →
      (J.stop i H ∧ Qd H) ∨ (J.go i H ∧ ∃ Nx : Hp → Prop, (∀ H', Nx H' → ∃ m', m' < m ∧ W (i + 1) m' H') ∧ ∀ x H', J.yld i H x H' → g x (wipe σ vs) H' fun σ2 H2 => wipe σ2 vs = wipe σ vs ∧ tt σ2 H2 fun b H3 =>
        if b = true then wi1 σ2 H3 fun J1 H4 => ∃ W1 : Nat → Nat → Hp → Prop, (∃ m, W1 0 m H4) ∧ ∀ j k H, W1 j k H →
          (J1.stop j H ∧ Nx H) ∨ (J1.go j H ∧ ∃ Nx1 : Hp → Prop, (∀ H', Nx1 H' → ∃ k', k' < k ∧ W1 (j + 1) k' H') ∧ ∀ x H', J1.yld j H x H' → g1 x (wipe σ2 vs1) H' fun σ3 H5 => wipe σ3 vs1 = wipe σ2 vs1 ∧ tt1 σ3 H5 fun b H6 =>
            if b = true then te σ3 H6 fun y H7 => ∃ acc, H7 D = some (.lst acc) ∧ acc.length < sizeLine ∧ Nx1 (upd H7 D (.lst (acc ++ [y]))) else Nx1 H6)
        else Nx H3) := by
  refine ⟨fun i m H => m = n - i ∧ i ≤ n ∧ Pv i H, ⟨n, by simp, Nat.zero_le _, h0⟩, ?_⟩
  rintro i m H ⟨rfl, hi, p⟩
  rcases Nat.lt_or_ge i n with lt | ge
  · exact .inr ⟨w.goes i H lt (hG i H hi p), Pv (i + 1), fun H' p' => ⟨n - (i + 1), by omega, rfl, lt, p'⟩, fun x H' y => hs i x H H' lt p (w.yields i H x H' lt (hG i H hi p) y)⟩
  · obtain rfl : i = n := by omega
    exact .inl ⟨w.stops H (hG i H hi p), hd H p⟩
/-- the inner one -/
theorem in_it (w : Walk J1 n1 G1 Y1) {H4 : Hp} {Nx : Hp → Prop} (Pw : Nat → Hp → Prop) (h0 : Pw 0 H4) (hG : ∀ i H, i ≤ n1 → Pw i H → G1 H)
    (hs : ∀ j x H H', j < n1 → Pw j H → Y1 j H x H' → g1 x (wipe σ2 vs1) H' fun σ3 H5 => wipe σ3 vs1 = wipe σ2 vs1 ∧ tt1 σ3 H5 fun b H6 => if b = true then te σ3 H6 fun y H7 => ∃ acc, H7 D = some (.lst acc) ∧ acc.length < sizeLine ∧ Pw (j + 1) (upd H7 D (.lst (acc ++ [y]))) else Pw (j + 1) H6)
    (hd : ∀ H, Pw n1 H → Nx H) :
    ∃ W1 : Nat → Nat → Hp → Prop, (∃ m, W1 0 m H4) ∧ ∀ j k H, W1 j k H → (J1.stop j H ∧ Nx H) ∨ (J1.go j H ∧ ∃ Nx1 : Hp → Prop, (∀ H', Nx1 H' → ∃ k', k' < k ∧ W1 (j + 1) k' H') ∧ ∀ x H', J1.yld j H x H' → g1 x (wipe σ2 vs1) H' fun σ3 H5 => wipe σ3 vs1 = wipe σ2 vs1 ∧ tt1 σ3 H5 fun b H6 =>
        if b = true then te σ3 H6 fun y H7 => ∃ acc, H7 D = some (.lst acc) ∧ acc.length < sizeLine ∧ Nx1 (upd H7 D (.lst (acc ++ [y]))) else Nx1 H6) := by
  refine ⟨fun i m H => m = n1 - i ∧ i ≤ n1 ∧ Pw i H, ⟨n1, by simp, Nat.zero_le _, h0⟩, ?_⟩
  rintro i m H ⟨rfl, hi, p⟩
  rcases Nat.lt_or_ge i n1 with lt | ge
  · exact .inr ⟨w.goes i H lt (hG i H hi p), Pw (i + 1), fun H' p' => ⟨n1 - (i + 1), by omega, rfl, lt, p'⟩, fun x H' y => hs i x H H' lt p (w.yields i H x H' lt (hG i H hi p) y)⟩
  · obtain rfl : i = n1 := by omega
    exact .inl ⟨w.stops H (hG i H hi p), hd H p⟩
end
/-- a new list of rows at D, over H -/
structure RowsIn (H H' : Hp) (D : Addr) (rows : List (List Str)) : Prop where
  nw : H D = none
  same : Same H H'
  ex : ∃ ts : List Addr, H' D = some (.lst (ts.map V.ref)) ∧ RowsAt (hid [D] H') rows ts
theorem RowsIn.start {H : Hp} {D : Addr} (n : H D = none) : RowsIn H (upd H D (.lst [])) D [] := ⟨n, same_new n, [], upd_same, .nil⟩
theorem RowsIn.next {H H2 H3 : Hp} {D : Addr} {rows : List (List Str)} (r : RowsIn H H2 D rows) (s : Same H2 H3) : RowsIn H H3 D rows := let ⟨n, s1, ts, h1, h2⟩ := r; ⟨n, s1.trans s, ts, s _ _ h1, h2.mono (hid_same s)⟩
/-- one row more -/
theorem RowsIn.moreB {H H2 H3 : Hp} {D : Addr} {rows : List (List Str)} {row : List Str} (r : RowsIn H H2 D rows) (s : Same H2 H3) (hl : rows.length ≤ 1000) {t : Addr} (nt : H3 t = none) :
    ∃ acc, (upd H3 t (.tup (sts row))) D = some (.lst acc) ∧ acc.length < sizeLine ∧ RowsIn H (upd (upd H3 t (.tup (sts row))) D (.lst (acc ++ [.ref t]))) D (rows ++ [row]) ∧ Bt [D] H2 (upd (upd H3 t (.tup (sts row))) D (.lst (acc ++ [.ref t]))) := by
  obtain ⟨n, s1, ts, h1, h2⟩ := r
  obtain ⟨H4, s4, h4, e4⟩ := lay (o := .tup (sts row)) nt
  rw [e4]
  have h14 := s4 _ _ (s _ _ h1)
  have tD : t ≠ D := ne_of h4 h14 (fun z => nomatch z)
  have B : Bt [D] H4 (upd H4 D (.lst (ts.map V.ref ++ [.ref t]))) := bt_upd (by simp)
  refine ⟨_, h14, ?_, ⟨n, fun c o e => ?_, ts ++ [t], by rw [upd_same, List.map_append]; rfl, ?_⟩, (bt_of (s.trans s4)).trans B⟩
  · rw [List.length_map, sizeLine_eq]
    have := h2.len
    omega
  · rw [upd_ne (ne_of_none e n)]
    exact s4 _ _ (s _ _ (s1 _ _ e))
  · exact RowsAt.app (h2.mono ((hid_same (s.trans s4)).trans B)) (.cons (B _ _ (hid_to (ni1 tD) h4)) .nil)
theorem RowsIn.more {H H2 H3 : Hp} {D : Addr} {rows : List (List Str)} {row : List Str} (r : RowsIn H H2 D rows) (s : Same H2 H3) (hl : rows.length ≤ 1000) {t : Addr} (nt : H3 t = none) :
    ∃ acc, (upd H3 t (.tup (sts row))) D = some (.lst acc) ∧ acc.length < sizeLine ∧ RowsIn H (upd (upd H3 t (.tup (sts row))) D (.lst (acc ++ [.ref t]))) D (rows ++ [row]) :=
  let ⟨acc, a, b, c, _⟩ := r.moreB s hl nt
  ⟨acc, a, b, c⟩
theorem RowsIn.done {H H' : Hp} {D : Addr} {rows : List (List Str)} (r : RowsIn H H' D rows) : ∃ ts : List Addr, H' D = some (.lst (ts.map V.ref)) ∧ RowsAt H' rows ts := let ⟨ts, a, b⟩ := r.ex; ⟨ts, a, b.mono (hid_low _ _)⟩
/-- a comprehension behind its walk -/
def tLcJ (J : It) (g : TG) (tt : TT) (te : TE) (vs : List Nat) : TE := fun σ H1 Q => ∀ D, H1 D = none → ∃ Wv : Nat → Nat → Hp → Prop, (∃ m, Wv 0 m (upd H1 D (.lst []))) ∧ ∀ i m H, Wv i m H →
  (J.stop i H ∧ Q (.ref D) H) ∨ (J.go i H ∧ ∃ Nx : Hp → Prop, (∀ H', Nx H' → ∃ m', m' < m ∧ Wv (i + 1) m' H') ∧ ∀ x H', J.yld i H x H' → g x (wipe σ vs) H' fun σ2 H2 => wipe σ2 vs = wipe σ vs ∧ tt σ2 H2 fun b H3 =>
    if b = true then te σ2 H3 fun y H4 => ∃ acc, H4 D = some (.lst acc) ∧ acc.length < sizeLine ∧ Nx (upd H4 D (.lst (acc ++ [y]))) else Nx H3)
theorem rows1J {K : PySem.W.Frag} {k : Nat} {wd : Str} {σ : L2.St} {H : Hp} {Q : VK} {a : Addr} {xs : List Str} {kb : Bool} {J : It} (WJ : Walk J (sts xs).length (fun H => SqV K (hid [] H) a (sts xs) kb) (YAt (sts xs))) (hk : k < σ.length) (hS : SqV K (hid [] H) a (sts xs) kb) (hl : xs.length ≤ 100)
    (q : ∀ D H', RowsIn H H' D (xs.map fun x => ([wd, x] : List Str)) → Q (.ref D) H') : tLcJ J (gName k) tYes (tTup (tCons (tC (.str wd)) (tCons (tVar k) tNil))) [k] σ H Q := by
  intro D nD
  have hA : SqA K (hid [] H) a (sts xs) := by
    cases kb with
    | true => exact .inl hS
    | false => exact .inr hS
  refine lc_it WJ (fun j H' => RowsIn H H' D ((xs.take j).map fun x => ([wd, x] : List Str))) (RowsIn.start nD) (fun j H' _ r => hS.mono (hid_same r.same)) ?_ ?_
  · rintro j x H2 H3 hj r ⟨rfl, hx⟩
    obtain ⟨sx, hsx, rfl⟩ := sts_at hx
    have hlen : ((xs.take j).map fun x => ([wd, x] : List Str)).length ≤ 1000 := by rw [List.length_map, List.length_take]; omega
    have hw : (wipe σ [k]).length = σ.length := wipe_length _ _
    refine ⟨?_, ?_⟩
    · simp [wipe, List.set_set]
    · refine ⟨V.str sx, by rw [List.getElem?_set_self (by rw [hw]; exact hk)], by show 2 ≤ sizeLine; decide, fun t nt => ?_⟩
      have := r.more (row := [wd, sx]) (Same.refl _) hlen nt
      rw [take_at hsx, List.map_append]
      exact this
  · intro H' r
    rw [List.take_of_length_le (by rw [sts_len]; exact Nat.le_refl _)] at r
    exact q D H' r
/-- [(word, x) for x in xs] -/
theorem rows1 {K : PySem.W.Frag} {i k : Nat} {wd : Str} {σ : L2.St} {H : Hp} {Q : VK} {a : Addr} {xs : List Str} (hi : σ[i]? = some (some (.ref a))) (hk : k < σ.length) (hS : SqL K H a (sts xs)) (hl : xs.length ≤ 100)
    (q : ∀ D H', RowsIn H H' D (xs.map fun x => ([wd, x] : List Str)) → Q (.ref D) H') : tLc (iSeqW K (tVar i)) (gName k) tYes (tTup (tCons (tC (.str wd)) (tCons (tVar k) tNil))) [k] σ H Q :=
  ⟨_, hi, a, sts xs, true, [], rfl, same_hid0.seq hS, fun J WJ => rows1J (kb := true) WJ hk (same_hid0.seq hS) hl q⟩
/-- the same as a statement -/
theorem rows1S {K : PySem.W.Frag} {i k m : Nat} {wd y : Str} {u : TS} {E : Ends} {σ : L2.St} {H : Hp} {a : Addr} {xs : List Str} (hi : σ[i]? = some (some (.ref a))) (hk : k < σ.length) (hS : SqL K H a (sts xs)) (hl : xs.length ≤ 100)
    (q : ∀ D H', RowsIn H H' D (xs.map fun x => ([wd, x] : List Str)) → u E (σ.set m (some (.ref D))) H') : tSeq (tAsg (tLc (iSeqW K (tVar i)) (gName k) tYes (tTup (tCons (tC (.str wd)) (tCons (tVar k) tNil))) ([(y, k)].map (·.2))) (gName m)) u E σ H := by
  unfold tSeq tAsg
  exact rows1 (Q := fun x H1 => gName m x σ H1 (u E)) hi hk hS hl fun D H' r => q D H' r
end GB
set_option Elab.async false
set_option linter.all false
set_option autoImplicit false
set_option maxRecDepth 100000
set_option maxHeartbeats 8000000
namespace GB
open PySem PySem.Spec L2
def shTo (xs : List Str) : Nat → List (List Str)
  | 0 => []
  | i + 1 => shTo xs i ++ (xs.drop (i + 1)).map fun y => (["shares", xs.getD i "", y] : List Str)
theorem shTo_len (xs : List Str) : ∀ i, (shTo xs i).length ≤ i * xs.length
  | 0 => by simp [shTo]
  | i + 1 => by
    have := shTo_len xs i
    rw [shTo, List.length_append, List.length_map, List.length_drop, Nat.succ_mul]
    omega
def showsOf (a xs : List Str) : List (List Str) := a.flatMap fun x => xs.map fun y => (["shows", x, y] : List Str)
theorem showsOf_len (xs : List Str) : ∀ a : List Str, (showsOf a xs).length = a.length * xs.length
  | [] => by simp [showsOf]
  | x :: r => by
    have := showsOf_len xs r
    unfold showsOf at this ⊢
    rw [List.flatMap_cons, List.length_append, this, List.length_map, List.length_cons, Nat.succ_mul]
    omega
/-- all permissions of these letters, those that move -/
def allPerms (ls mv : List Str) : List (List Str) := (((ls.map fun x => (["fails", x] : List Str)) ++ (ls.map fun x => (["stays", x] : List Str))) ++ (mv.map fun x => (["writes", x] : List Str))) ++ showsOf mv mv ++ shTo mv mv.length
def endS (k : Str) : Str := if k = "fail" then "fails" else "value"
/-- the dict that maps these to True -/
def trueK (l : List Str) : List (Key × V) := l.map fun x => (Sum.inr x, V.bl true)
theorem trueK_in (l : List Str) (x : Str) : valV (trueK l) (.inr x : Key) = if x ∈ l then some (.bl true) else none := by
  induction l with
  | nil => rfl
  | cons y r ih =>
    by_cases h : y = x
    · subst h
      rw [if_pos List.mem_cons_self]
      exact valV_pos rfl
    · show valV ((Sum.inr y, V.bl true) :: trueK r) (.inr x : Key) = _
      rw [valV_neg (fun e => h (Sum.inr.inj e)), ih]
      have : (x ∈ y :: r) = (x ∈ r) := propext ⟨fun m => (List.mem_cons.mp m).resolve_left fun e => h e.symm, List.mem_cons_of_mem _⟩
      simp only [this]
/-- tuple([("value", name) for name in (sorted(names) if .. else names)]) -/
def tVals : TE := fun σ H Q => ∃ (x : Str) (v c : Addr) (vals cm : List Str), σ.length = 8 ∧ σ[3]? = some (some (.str x)) ∧ σ[1]? = some (some (.ref c)) ∧ σ[4]? = some (some (.ref v)) ∧ H c = some (.dK (trueK cm)) ∧ H v = some (.tup (sts vals)) ∧ vals.length ≤ 2 ∧ (∀ x ∈ vals, x ∈ va3) ∧
  ∀ (t : Addr) (ts : List Addr) (H6 : Hp), H t = none → Same H H6 → H6 t = some (.tup (ts.map V.ref)) → RowsAt H6 ((if x ∈ cm then sort2 vals else vals).map fun y => (["value", y] : List Str)) ts → Q (.ref t) H6
theorem vals_weak {K : PySem.W.Frag} (σ : L2.St) (H : Hp) (Q : VK) (h : tVals σ H Q) : tCB (fun xs H_1 Q => ∃ p ys, xs = [V.ref p] ∧ ((SqL K H_1 p ys ∧ ∀ l, H_1 l = none → Q (.ref l) (upd H_1 l (.tup ys))) ∨ (SqT K H_1 p ys ∧ Q (.ref p) H_1)))
    (tCons (tLc (iSeqW K (tIf (tB (tDIn (tVar 3) (tVar 1))) (tCB (rSortedTS K) (tCons (tVar 4) tNil)) (tVar 4))) (gName 7) tYes (tTup (tCons (tC (.str "value")) (tCons (tVar 7) tNil))) [7]) tNil) σ H Q := by
  obtain ⟨x, v, c, vals, cm, hl, h3, h1, h4, hc, hv, l2, v3, q⟩ := h
  have fin : ∀ (L : Addr) (H1 H2 : Hp), Same H H1 → RowsIn H1 H2 L ((if x ∈ cm then sort2 vals else vals).map fun y => (["value", y] : List Str)) → ∃ p ys, ([V.ref L] : List V) = [V.ref p] ∧ ((SqL K H2 p ys ∧ ∀ l, H2 l = none → Q (.ref l) (upd H2 l (.tup ys))) ∨ (SqT K H2 p ys ∧ Q (.ref p) H2)) := fun L H1 H2 s r => by
    obtain ⟨ts, g1, g2⟩ := r.done
    refine ⟨L, _, rfl, .inl ⟨SqL.of g1, fun t nt => ?_⟩⟩
    obtain ⟨H3, s3, g3, e3⟩ := lay (o := .tup (ts.map V.ref)) nt
    rw [e3]
    exact q t ts H3 ((s.trans r.same).free nt) ((s.trans r.same).trans s3) g3 (g2.mono s3)
  refine ⟨_, h3, _, h1, c, _, rfl, DGet.k (k := .inr x) hc, _, rfl, ?_⟩
  rw [trueK_in]
  by_cases m : x ∈ cm
  · rw [if_pos m]
    refine iteT ?_
    refine ⟨_, h4, v, vals, rfl, SqT.of hv, by omega, fun ys p hperm hsrt np => ?_⟩
    obtain ⟨H1, s1, g1, e1⟩ := lay (o := .lst (sts ys)) np
    rw [e1]
    refine ⟨p, sts ys, true, [], rfl, same_hid0.seq (SqL.of g1), fun J WJ => ?_⟩
    refine rows1J (wd := "value") (Q := fun z H2 => ∃ p ys, ([z] : List V) = [V.ref p] ∧ ((SqL K H2 p ys ∧ ∀ l, H2 l = none → Q (.ref l) (upd H2 l (.tup ys))) ∨ (SqT K H2 p ys ∧ Q (.ref p) H2))) (kb := true) WJ (by rw [hl]; decide : 7 < σ.length) (same_hid0.seq (SqL.of g1)) (by have := hperm.length_eq; omega) fun L H2 r => ?_
    refine fin L H1 H2 s1 ?_
    rw [if_pos m, ← sort2_of hperm hsrt l2 v3]
    exact r
  · rw [if_neg m]
    refine iteF ?_
    refine ⟨_, h4, v, sts vals, false, [], rfl, (Same.seqT same_hid0 (SqT.of hv) : SqT K _ v _), fun J WJ => ?_⟩
    refine rows1J (wd := "value") (Q := fun z H2 => ∃ p ys, ([z] : List V) = [V.ref p] ∧ ((SqL K H2 p ys ∧ ∀ l, H2 l = none → Q (.ref l) (upd H2 l (.tup ys))) ∨ (SqT K H2 p ys ∧ Q (.ref p) H2))) (kb := false) WJ (by rw [hl]; decide : 7 < σ.length) (Same.seqT same_hid0 (SqT.of hv) : SqT K _ v _) (by omega) fun L H2 r => ?_
    refine fin L H H2 (Same.refl _) ?_
    rw [if_neg m]
    exact r
def nkV (n : Str) : NestedKey := .tup [.text "value", .text n]
def nkE (a : Str × List Str) : NestedKey := .tup [.text a.1, .tup (a.2.map nkV)]
theorem nkVs_inj : ∀ {l m : List Str}, l.map nkV = m.map nkV → l = m
  | [], [], _ => rfl
  | [], _ :: _, h => by cases h
  | _ :: _, [], h => by cases h
  | x :: l, y :: m, h => by
    have h1 : nkV x = nkV y ∧ l.map nkV = m.map nkV := List.cons.inj h
    have h2 := (List.cons.inj (List.cons.inj (NestedKey.tup.inj h1.1)).2).1
    obtain rfl := NestedKey.text.inj h2
    rw [nkVs_inj h1.2]
theorem nkE_inj {a b : Str × List Str} (h : nkE a = nkE b) : a = b := by
  obtain ⟨x, l⟩ := a
  obtain ⟨y, m⟩ := b
  have h1 := List.cons.inj (NestedKey.tup.inj h)
  obtain rfl := NestedKey.text.inj h1.1
  have h2 := (List.cons.inj h1.2).1
  obtain rfl : l = m := nkVs_inj (NestedKey.tup.inj h2)
  rfl
theorem nkVs_depth : ∀ l : List Str, NestedKey.depthAll (l.map nkV) ≤ 1
  | [] => by simp [NestedKey.depthAll]
  | x :: l => by
    have := nkVs_depth l
    have e : (nkV x).depth = 1 := by simp [nkV, NestedKey.depth, NestedKey.depthAll]
    rw [List.map_cons, NestedKey.depthAll, e]
    omega
theorem nkE_depth (a : Str × List Str) : (nkE a).depth ≤ 8 := by
  have := nkVs_depth a.2
  unfold nkE
  simp only [NestedKey.depth, NestedKey.depthAll]
  omega
/-- a fact's end stands in the dict of ends -/
structure EndAt (H : Hp) (g : GD) (f : Fact) (x : NestedKey × Addr × Value) : Prop where
  key : x.1 = nkE (g.asked f)
  ex : ∃ b e : Addr, x.2.2 = .ref b ∧ H b = some (.tup [.str (endS f.kind), .ref e]) ∧ H e = some (.tup [.str f.kind, .str f.en])
theorem EndAt.mono {H H' : Hp} {g : GD} {f : Fact} {x : NestedKey × Addr × Value} (s : Same H H') (h : EndAt H g f x) : EndAt H' g f x := let ⟨b, e, h1, h2, h3⟩ := h.ex; ⟨h.key, b, e, h1, s _ _ h2, s _ _ h3⟩
theorem paired_mem {α β : Type} {R : α → β → Prop} {y : β} : ∀ {l : List α} {m : List β}, Paired R l m → y ∈ m → ∃ x ∈ l, R x y
  | _, _, .cons r t, h => by
    rcases List.mem_cons.mp h with rfl | h
    · exact ⟨_, List.mem_cons_self, r⟩
    · obtain ⟨x, hx, hr⟩ := paired_mem t h
      exact ⟨x, List.mem_cons_of_mem _ hx, hr⟩
theorem nk_rows {H : Hp} : ∀ {xs : List Str} {ts : List Addr}, RowsAt H (xs.map fun x => (["value", x] : List Str)) ts → NkAll H (xs.map nkV) (ts.map V.ref)
  | [], [], _ => .nil
  | x :: xs, t :: ts, h => by
    cases h with
    | cons a b => exact .cons (.tup a (.cons (.text _) (.cons (.text _) .nil))) (nk_rows b)
  | [], _ :: _, h => by cases h
  | _ :: _, [], h => by cases h
theorem prod_le {a b : Nat} (h : a ≤ 20) (h2 : b ≤ 20) : a * b ≤ 400 := Nat.le_trans (Nat.mul_le_mul h h2) (by decide)
end GB
namespace K27
open PySem PySem.Spec L2 GB
abbrev sPerm : Stmt := topS 34
abbrev sOut : Stmt := topS 33
abbrev sEbv : Stmt := topS 32
def ebvN : List Str := ["facts", "commutes", "ends", "letter", "names", "end", "values", "name"]
def permN : List Str := ["letters", "moving", "fails", "stays", "writes", "shows", "shares", "letter", "one", "other", "place"]
def spPerm : Sp := fun vs H Q _ => ∃ (a b : Addr) (ls mv : List Str), vs = [.ref a, .ref b] ∧ H a = some (.lst (sts ls)) ∧ H b = some (.lst (sts mv)) ∧ ls.length ≤ 20 ∧ mv.length ≤ 20 ∧
  ∀ (D : Addr) (ts : List Addr) (H' : Hp), H D = none → Same H H' → H' D = some (.lst (ts.map V.ref)) → RowsAt H' (allPerms ls mv) ts → Q (.ref D) H'
def spEbv (P : Program) (w : World) : Sp := fun vs H Q _ => ∃ (a c : Addr) (g : GD), vs = [.ref a, .ref c] ∧ FactsAt H a g.facts ∧ H c = some (.dK (trueK g.comm)) ∧ g.Wf ∧
  ∀ (D : Addr) (xs : NX) (H' : Hp), H D = none → Same H H' → H' D = some (ndO P w D xs) → NdKeys (hid [D] H') xs → Paired (EndAt (hid [D] H') g) g.facts xs → Q (.ref D) H'
def spOut : Sp := fun vs H Q _ => ∃ (e : Addr) (k n : Str), vs = [.ref e] ∧ H e = some (.tup [.str k, .str n]) ∧ ∀ (t : Addr) (H' : Hp), H t = none → Same H H' → H' t = some (.tup [.str (endS k), .ref e]) → Q (.ref t) H'
section
variable {P : Program} {w : World} {K : PySem.W.Frag} {mg : Str → Option Value} {base : Heap}
theorem scPerm : FnScope permN ["letters", "moving"] (defScope sPerm) := ⟨rfl, rfl, rfl, by decide +kernel, rfl, by decide +kernel, by decide +kernel⟩
theorem scOut : FnScope ["end"] ["end"] (defScope sOut) := ⟨rfl, rfl, rfl, by decide +kernel, rfl, by decide +kernel, by decide +kernel⟩
theorem ok_out {f : Addr} {fd : FuncData} (F : Fun K "as_outcome" "as_outcome" sOut f fd) : FnOk P w K mg base CX0 1 f fd ["end"] spOut := by
  refine F.ok scOut (fun vs H Q E h => ?_) (fun cdv A outer s H vs Q E hr h => ?_)
  · obtain ⟨e, k, n, rfl, _⟩ := h
    rfl
  · obtain ⟨e, k, n, rfl, he, q⟩ := h
    refine ⟨_, pss_one (ps_ret (pe_tup (pa_cons (pe_ifExp (pt_cmpR op_eq (pe_ix ix_tup (pv 0) (pe_int) (fun _ _ => rfl)) (pe_str) (nomark _)) (pe_str) (pe_str)) (pa_cons (pv 0) (pa_nil))))), ?_⟩
    refine ⟨_, rfl, e, _, ((0 : Nat) : Int), _, rfl, rfl, SqT.of he, atI_nat (j := 0) rfl, rfl, _, rfl, ?_⟩
    rw [decS]
    by_cases c : k = "fail"
    · rw [decide_eq_true c]
      refine iteT ?_
      refine ⟨_, rfl, by show 2 ≤ sizeLine; decide, fun t nt => ?_⟩
      obtain ⟨H1, s1, h1, e1⟩ := lay (o := .tup [.str "fails", .ref e]) nt
      rw [e1]
      exact q t H1 nt s1 (by unfold endS; rw [if_pos c]; exact h1)
    · rw [decide_eq_false c]
      refine iteF ?_
      refine ⟨_, rfl, by show 2 ≤ sizeLine; decide, fun t nt => ?_⟩
      obtain ⟨H1, s1, h1, e1⟩ := lay (o := .tup [.str "value", .ref e]) nt
      rw [e1]
      exact q t H1 nt s1 (by unfold endS; rw [if_neg c]; exact h1)
theorem ok_perm {f : Addr} {fd : FuncData} (F : Fun K "_all_permissions" "_all_permissions" sPerm f fd) (T : Bl mg) : FnOk P w K mg base CX0 1 f fd ["letters", "moving"] spPerm := by
  refine F.ok scPerm (fun vs H Q E h => ?_) (fun cdv A outer s H vs Q E hr h => ?_)
  · obtain ⟨a, b, ls, mv, rfl, _⟩ := h
    rfl
  · obtain ⟨a, b, ls, mv, rfl, ha, hb, hls, hmv, q⟩ := h
    refine ⟨_, pss_cons (ps_setLc (i := 2) (own := [("letter", 7)]) (g := gName 7) (tt := tYes) rfl scPerm.nd rfl rfl (sw_true rfl rfl rfl (by decide +kernel)) (pi_seqW (pv 0)) (blkOk_by (own := [("letter", 7)]) (N := permN) (sc := defScope sPerm) (by decide +kernel)) (fun _ _ _ _ _ => pg_name (i := 7) scPerm.nd rfl (.inl rfl)) (fun _ _ _ _ _ => pts_nil) (fun _ _ _ _ _ => pe_tup (pa_cons (pe_str) (pa_cons (pv 7) (pa_nil))))) (pss_cons (ps_setLc (i := 3) (own := [("letter", 7)]) (g := gName 7) (tt := tYes) rfl scPerm.nd rfl rfl (sw_true rfl rfl rfl (by decide +kernel)) (pi_seqW (pv 0)) (blkOk_by (own := [("letter", 7)]) (N := permN) (sc := defScope sPerm) (by decide +kernel)) (fun _ _ _ _ _ => pg_name (i := 7) scPerm.nd rfl (.inl rfl)) (fun _ _ _ _ _ => pts_nil) (fun _ _ _ _ _ => pe_tup (pa_cons (pe_str) (pa_cons (pv 7) (pa_nil))))) (pss_cons (ps_setLc (i := 4) (own := [("letter", 7)]) (g := gName 7) (tt := tYes) rfl scPerm.nd rfl rfl (sw_true rfl rfl rfl (by decide +kernel)) (pi_seqW (pv 1)) (blkOk_by (own := [("letter", 7)]) (N := permN) (sc := defScope sPerm) (by decide +kernel)) (fun _ _ _ _ _ => pg_name (i := 7) scPerm.nd rfl (.inl rfl)) (fun _ _ _ _ _ => pts_nil) (fun _ _ _ _ _ => pe_tup (pa_cons (pe_str) (pa_cons (pv 7) (pa_nil))))) (pss_cons (ps_setLc2 (i := 5) (own := [("one", 8), ("other", 9)]) (vs1 := [9]) (wi1 := iSeqW K (tVar 1)) (g := gName 8) (g1 := gName 9) (tt := tYes) (tt1 := tYes) rfl scPerm.nd rfl rfl (sw_true rfl rfl rfl (by decide +kernel)) (pi_seqW (pv 1)) (blkOk_by (own := [("one", 8), ("other", 9)]) (N := permN) (sc := defScope sPerm) (by decide +kernel)) (by decide) (fun _ _ _ _ _ => pg_name (i := 8) scPerm.nd rfl (.inl rfl)) (fun _ _ _ _ _ => pts_nil) (fun _ _ _ _ _ => pi_seqW (pv 1)) (fun _ _ _ _ _ => pg_name (i := 9) scPerm.nd rfl (.inl rfl)) (fun _ _ _ _ _ => pts_nil) (fun _ _ _ _ _ => pe_tup (pa_cons (pe_str) (pa_cons (pv 8) (pa_cons (pv 9) (pa_nil)))))) (pss_cons (ps_setLc2 (i := 6) (own := [("place", 10), ("one", 8), ("other", 9)]) (vs1 := [9]) (wi1 := iSeqW K (tSl (rSlL K) (tVar 1) (tPart (tOp (rI0 fun i j => .int (i + j)) (tVar 10) (tC (.int 1)))) tNoPart)) (g := gTup K 2 (gCons (gName 10) (gCons (gName 8) gNil))) (g1 := gName 9) (tt := tYes) (tt1 := tYes) rfl scPerm.nd rfl rfl (sw_true rfl rfl rfl (by decide +kernel)) (pi_enumW rfl T.enum (pa_cons (pv 1) pa_nil)) (blkOk_by (own := [("place", 10), ("one", 8), ("other", 9)]) (N := permN) (sc := defScope sPerm) (by decide +kernel)) (by decide) (fun _ _ _ _ _ => pg_tup rfl (pgs_cons (pg_name (i := 10) scPerm.nd rfl (.inl rfl)) (pgs_cons (pg_name (i := 8) scPerm.nd rfl (.inl rfl)) (pgs_nil)))) (fun _ _ _ _ _ => pts_nil) (fun _ _ _ _ _ => pi_seqW (pe_slice (r := rSlL K) sl_list (pv 1) (po_some (pe_op op_add (pv 10) (pe_int))) po_none)) (fun _ _ _ _ _ => pg_name (i := 9) scPerm.nd rfl (.inl rfl)) (fun _ _ _ _ _ => pts_nil) (fun _ _ _ _ _ => pe_tup (pa_cons (pe_str) (pa_cons (pv 8) (pa_cons (pv 9) (pa_nil)))))) (pss_one (ps_ret (pe_op op_cat (pe_op op_cat (pe_op op_cat (pe_op op_cat (pv 2) (pv 3)) (pv 4)) (pv 5)) (pv 6)))))))), ?_⟩
    refine rows1S rfl (by simp [L2.start, permN]) (SqL.of ha) (by omega) fun D1 H1 r1 => ?_
    have s1 := r1.same
    refine rows1S rfl (by simp [L2.start, permN]) (SqL.of (s1 _ _ ha)) (by omega) fun D2 H2 r2 => ?_
    have s2 := s1.trans r2.same
    refine rows1S rfl (by simp [L2.start, permN]) (SqL.of (s2 _ _ hb)) (by omega) fun D3 H3 r3 => ?_
    have s3 := s2.trans r3.same
    have hb3 := s3 _ _ hb
    refine ⟨_, rfl, b, sts mv, true, [], rfl, same_hid0.seq (SqL.of hb3), fun J WJ D4 nD4 => ?_⟩
    refine lc2_it WJ (fun j H' => RowsIn H3 H' D4 (showsOf (mv.take j) mv)) (RowsIn.start nD4) (fun j H' _ r => (r.same.trans same_hid0).seq (SqL.of hb3)) ?_ ?_
    · rintro i x H5 H5' hi r ⟨rfl, hx⟩
      obtain ⟨sx, hsx, rfl⟩ := sts_at hx
      have hi' : i < mv.length := (List.getElem?_eq_some_iff.mp hsx).1
      refine ⟨rfl, ?_⟩
      refine ⟨_, rfl, b, sts mv, true, [], rfl, same_hid0.seq (SqL.of (r.same _ _ hb3)), fun J1 WJ1 => ?_⟩
      refine in_it WJ1 (fun j H' => RowsIn H3 H' D4 (showsOf (mv.take i) mv ++ (mv.take j).map fun y => (["shows", sx, y] : List Str))) (by rw [List.take_zero, List.map_nil, List.append_nil]; exact r) (fun j H' _ r => (r.same.trans same_hid0).seq (SqL.of hb3)) ?_ ?_
      · rintro j y H6 H6' hj r6 ⟨rfl, hy⟩
        obtain ⟨sy, hsy, rfl⟩ := sts_at hy
        refine ⟨rfl, ?_⟩
        refine ⟨_, rfl, _, rfl, by show 3 ≤ sizeLine; decide, fun t nt => ?_⟩
        rw [take_at hsy, List.map_append, ← List.append_assoc]
        refine r6.more (row := ["shows", sx, sy]) (Same.refl _) ?_ nt
        rw [List.length_append, showsOf_len, List.length_map, List.length_take, List.length_take]
        have := prod_le (show min i mv.length ≤ 20 by omega) hmv
        omega
      · intro H6 r6
        rw [show mv.take (sts mv).length = mv from List.take_of_length_le (by rw [sts_len]; exact Nat.le_refl _)] at r6
        rw [take_at hsx]
        unfold showsOf at r6 ⊢
        rw [List.flatMap_append, List.flatMap_cons, List.flatMap_nil, List.append_nil]
        exact r6
    intro H4 r4
    rw [List.take_of_length_le (by rw [sts_len]; exact Nat.le_refl _)] at r4
    have s4 := s3.trans r4.same
    have hb4 := s4 _ _ hb
    refine ⟨_, rfl, b, sts mv, true, [], rfl, same_hid0.seq (SqL.of hb4), fun J WJ D5 nD5 => ?_⟩
    refine lc2_it WJ (fun j H' => RowsIn H4 H' D5 (shTo mv j)) (RowsIn.start nD5) (fun j H' _ r => (r.same.trans same_hid0).seq (SqL.of hb4)) ?_ ?_
    · rintro i x H5 H5' hi r ⟨Tp, y1, y2, rfl, nT, rfl, e1, e2⟩
      obtain rfl := Option.some.inj e1
      obtain ⟨sx, hsx, rfl⟩ := sts_at e2
      have hi' : i < mv.length := (List.getElem?_eq_some_iff.mp hsx).1
      obtain ⟨H6, s6, h6, e6⟩ := lay (o := .tup [.int (i : Nat), .str sx]) nT
      rw [e6]
      refine ⟨Tp, _, rfl, SqT.of h6, rfl, _, _, rfl, _, _, rfl, rfl, ?_⟩
      refine ⟨rfl, ?_⟩
      refine ⟨_, rfl, _, rfl, _, _, rfl, rfl, _, rfl, b, sts mv, rfl, SqL.of (s6 _ _ (r.same _ _ hb4)), fun c nc => ?_⟩
      rw [show (((i : Nat) : Int) + 1) = ((i + 1 : Nat) : Int) from rfl, cut_from, show (sts mv).drop (i + 1) = sts (mv.drop (i + 1)) from (List.map_drop).symm]
      obtain ⟨H7, s7, h7, e7⟩ := lay (o := .lst (sts (mv.drop (i + 1)))) nc
      rw [e7]
      have r7 : RowsIn H4 H7 D5 (shTo mv i) := r.next (s6.trans s7)
      have cD : c ≠ D5 := fun z => by
        obtain ⟨ts, q1, _⟩ := r.next s6 |>.ex
        rw [← z, nc] at q1
        cases q1
      refine ⟨c, sts (mv.drop (i + 1)), true, [D5], rfl, SqL.of (hid_to (ni1 cD) h7), fun J1 WJ1 => ?_⟩
      have hc7 : hid [D5] H7 c = some (.lst (sts (mv.drop (i + 1)))) := hid_to (ni1 cD) h7
      refine in_it WJ1 (fun j H' => Bt [D5] H7 H' ∧ RowsIn H4 H' D5 (shTo mv i ++ ((mv.drop (i + 1)).take j).map fun y => (["shares", sx, y] : List Str))) ⟨Same.refl _, by rw [List.take_zero, List.map_nil, List.append_nil]; exact r7⟩ (fun j H' _ r => SqL.of (r.1 _ _ hc7)) ?_ ?_
      · rintro j y H8 H8' hj ⟨B8, r8⟩ ⟨rfl, hy⟩
        obtain ⟨sy, hsy, rfl⟩ := sts_at hy
        refine ⟨rfl, ?_⟩
        refine ⟨_, rfl, _, rfl, by show 3 ≤ sizeLine; decide, fun t nt => ?_⟩
        rw [take_at hsy, List.map_append, ← List.append_assoc]
        obtain ⟨acc, a1, a2, a3, a4⟩ := r8.moreB (row := ["shares", sx, sy]) (Same.refl _) (by
          rw [List.length_append, List.length_map, List.length_take, List.length_drop]
          have := shTo_len mv i
          have := prod_le (show i ≤ 20 by omega) hmv
          omega) nt
        exact ⟨acc, a1, a2, B8.trans a4, a3⟩
      · rintro H8 ⟨B8, r8⟩
        rw [show (mv.drop (i + 1)).take (sts (mv.drop (i + 1))).length = mv.drop (i + 1) from List.take_of_length_le (by rw [sts_len]; exact Nat.le_refl _)] at r8
        rw [shTo, show mv.getD i "" = sx from by rw [List.getD_eq_getElem?_getD, hsx]; rfl]
        exact r8
    intro H5 r5
    rw [sts_len] at r5
    have s5 := s4.trans r5.same
    obtain ⟨t1, g1, p1⟩ := r1.done
    obtain ⟨t2, g2, p2⟩ := r2.done
    obtain ⟨t3, g3, p3⟩ := r3.done
    obtain ⟨t4, g4, p4⟩ := r4.done
    obtain ⟨t5, g5, p5⟩ := r5.done
    have s45 := r5.same
    have s35 := r4.same.trans s45
    have s25 := r3.same.trans s35
    have s15 := r2.same.trans s25
    have l1 := p1.len
    have l2 := p2.len
    have l3 := p3.len
    have l4 := p4.len
    have l5 := p5.len
    rw [List.length_map] at l1 l2 l3
    rw [showsOf_len] at l4
    have l5b := shTo_len mv mv.length
    have l45 := prod_le hmv hmv
    refine ⟨_, rfl, _, rfl, D1, D2, _, _, rfl, rfl, s15 _ _ g1, s25 _ _ g2, by rw [List.length_map, List.length_map, sizeLine_eq]; omega, fun u6 n6 => ?_⟩
    obtain ⟨H6, s6, h6, e6⟩ := lay (o := .lst (t1.map V.ref ++ t2.map V.ref)) n6
    rw [e6]
    refine ⟨_, rfl, u6, D3, _, _, rfl, rfl, h6, s6 _ _ (s35 _ _ g3), by rw [List.length_append, List.length_map, List.length_map, List.length_map, sizeLine_eq]; omega, fun u7 n7 => ?_⟩
    obtain ⟨H7, s7, h7, e7⟩ := lay (o := .lst (t1.map V.ref ++ t2.map V.ref ++ t3.map V.ref)) n7
    rw [e7]
    refine ⟨_, rfl, u7, D4, _, _, rfl, rfl, h7, s7 _ _ (s6 _ _ (s45 _ _ g4)), by rw [List.length_append, List.length_append, List.length_map, List.length_map, List.length_map, List.length_map, sizeLine_eq]; omega, fun u8 n8 => ?_⟩
    obtain ⟨H8, s8, h8, e8⟩ := lay (o := .lst (t1.map V.ref ++ t2.map V.ref ++ t3.map V.ref ++ t4.map V.ref)) n8
    rw [e8]
    refine ⟨_, rfl, u8, D5, _, _, rfl, rfl, h8, s8 _ _ (s7 _ _ (s6 _ _ g5)), by rw [List.length_append, List.length_append, List.length_append, List.length_map, List.length_map, List.length_map, List.length_map, List.length_map, sizeLine_eq]; omega, fun u9 n9 => ?_⟩
    obtain ⟨H9, s9, h9, e9⟩ := lay (o := .lst (t1.map V.ref ++ t2.map V.ref ++ t3.map V.ref ++ t4.map V.ref ++ t5.map V.ref)) n9
    rw [e9]
    have s59 := ((s6.trans s7).trans s8).trans s9
    refine q u9 (t1 ++ t2 ++ t3 ++ t4 ++ t5) H9 ((s5.trans ((s6.trans s7).trans s8)).free n9) (s5.trans s59) (by rw [h9]; simp) ?_
    have b1 := p1.mono (s15.trans s59)
    have b2 := p2.mono (s25.trans s59)
    have b3 := p3.mono (s35.trans s59)
    have b4 := p4.mono (s45.trans s59)
    have b5 := p5.mono s59
    exact (((b1.app b2).app b3).app b4).app b5
theorem scEbv : FnScope ebvN ["facts", "commutes"] (defScope sEbv) := ⟨rfl, rfl, rfl, by decide +kernel, rfl, by decide +kernel, by decide +kernel⟩
theorem ok_ebv {f : Addr} {fd : FuncData} (F : Fun K "_ends_by_values" "_ends_by_values" sEbv f fd) (T : Bl mg) (OUT : Fns P w K mg base "as_outcome" 1 ["end"] spOut) : FnOk P w K mg base CX0 2 f fd ["facts", "commutes"] (spEbv P w) := by
  refine F.ok scEbv (fun vs H Q E h => ?_) (fun cdv A outer s H vs Q E hr h => ?_)
  · obtain ⟨a, c, g, rfl, _⟩ := h
    rfl
  · obtain ⟨a, c, g, rfl, ⟨tsF, ha, hF⟩, hc, wf, q⟩ := h
    have hu := hu_of hr
    have hu9 : (A.deeper (PyProof.Rows.envOfC "_ends_by_values" (defScope sEbv) s.heap.objs.size f cdv)).units + 9 < cLine := by have := hr.un; omega
    refine ⟨_, pss_cons (ps_set (i := 2) scEbv.nd rfl (.inl rfl) (pe_dnewN)) (pss_cons (ps_for PassesOwn.never rfl (pi_seqW (pv 0)) (pg_tup rfl (pgs_cons (pg_name (i := 3) scEbv.nd rfl (.inl rfl)) (pgs_cons (pg_name (i := 4) scEbv.nd rfl (.inl rfl)) (pgs_cons (pg_name (i := 5) scEbv.nd rfl (.inl rfl)) (pgs_nil))))) (pss_cons (ps_set (i := 6) scEbv.nd rfl (.inl rfl) (pe_weak (t' := tVals) (pe_callTy (call_tuple_of) (by rfl) T.tuple (by decide +kernel) (pa_cons (pe_lc (own := [("name", 7)]) (g := gName 7) (tt := tYes) rfl scEbv.nd (pi_seqW (pe_ifExp (pt_cmp (pc_din hu (pv 3) (pv 1))) (pe_callB (cr_sortedTS) (by rfl) T.sorted (by decide +kernel) (pa_cons (pv 4) (pa_nil))) (pv 4))) (blkOk_by (own := [("name", 7)]) (N := ebvN) (sc := defScope sEbv) (by decide +kernel)) (fun _ _ _ _ _ => pg_name (i := 7) scEbv.nd rfl (.inl rfl)) (fun _ _ _ _ _ => pts_nil) (fun _ _ _ _ _ => pe_tup (pa_cons (pe_str) (pa_cons (pv 7) (pa_nil))))) (pa_nil))) vals_weak)) (pss_one (ps_asg (pe_fn OUT hr (by decide) rfl (pa_cons (pv 5) pa_nil)) (pg_sub (pv 2) (pe_tup (pa_cons (pv 3) (pa_cons (pv 6) (pa_nil)))) (set_dictN hu9)))))) (pss_one (ps_ret (pv 2)))), ?_⟩
    refine fun D nD => ?_
    obtain ⟨H1, s1, h1, e1⟩ := lay (o := ndO P w D []) nD
    have e1' : upd H D (ndO (cxOf CX0 P w K mg base ebvN "_ends_by_values" (defScope sEbv) f cdv A outer s H E).nox.prog (cxOf CX0 P w K mg base ebvN "_ends_by_values" (defScope sEbv) f cdv A outer s H E).nox.w D []) = H1 := e1
    rw [e1']
    have S1 : Same H (hid [D] H1) := same_hid_new nD s1
    have ltd : tsF.length = g.facts.length := (Paired.length hF).symm
    refine ⟨_, rfl, a, tsF.map V.ref, true, [D], rfl, SqL.of (S1 _ _ ha), fun J WJ => ?_⟩
    refine for_it WJ (fun i σ H' => ∃ (o3 o4 o5 o6 : Option V) (xs : NX), σ = [some (.ref a), some (.ref c), some (.ref D), o3, o4, o5, o6, none] ∧ Same H (hid [D] H') ∧ H' D = some (ndO P w D xs) ∧ NdKeys (hid [D] H') xs ∧ Paired (EndAt (hid [D] H') g) (g.facts.take i) xs)
      ⟨none, none, none, none, [], rfl, S1, h1, (fun e he => nomatch he), .nil⟩ (fun i σ H' _ ⟨_, _, _, _, _, _, S, _⟩ => SqL.of (S _ _ ha)) ?_ ?_
    · rintro i x σ H0 H3 hi ⟨o3, o4, o5, o6, xs, rfl, S3, h3, k3, p3⟩ ⟨rfl, ey⟩
      obtain ⟨t, htt, rfl⟩ : ∃ t, tsF[i]? = some t ∧ x = V.ref t := by
        have ey : (tsF.map V.ref)[i]? = some x := ey
        rw [List.getElem?_map] at ey
        cases e : tsF[i]? with
        | none => rw [e] at ey; cases ey
        | some y => rw [e] at ey; exact ⟨y, rfl, (Option.some.inj ey).symm⟩
      have hig : i < g.facts.length := by rw [← ltd]; exact (List.getElem?_eq_some_iff.mp htt).1
      have hfi : g.facts[i]? = some g.facts[i] := List.getElem?_eq_getElem hig
      generalize hfa : g.facts[i] = fa at hfi
      have fmem := List.mem_of_getElem? hfi
      obtain ⟨t', ht', hA⟩ : ∃ t', tsF[i]? = some t' ∧ FactAt H fa t' := paired_at' hF hfi
      obtain rfl : t' = t := by rw [htt] at ht'; exact (Option.some.inj ht').symm
      have ok := wf.fa _ fmem
      obtain ⟨v, e, ht0, hv0, he0⟩ := hA.ex
      obtain ⟨k, hk, hvl⟩ := ok.len
      have har := wf.ar _ hk
      have S3l : Same H H3 := S3.trans (hid_low _ _)
      refine ⟨t', _, rfl, SqT.of (S3l _ _ ht0), rfl, _, _, rfl, _, _, rfl, _, _, rfl, rfl, ?_⟩
      refine ⟨fa.x, v, c, fa.vals, g.comm, rfl, rfl, rfl, rfl, S3l _ _ hc, S3l _ _ hv0, by rw [hvl]; exact har, ok.vals, fun u tsu H4 nu s4 hu4 hru => ?_⟩
      refine ⟨_, rfl, e, fa.kind, fa.en, rfl, s4 _ _ (S3l _ _ he0), fun b H5 nb s5 hb5 => ?_⟩
      refine ⟨_, rfl, _, rfl, _, rfl, by show 2 ≤ sizeLine; decide, fun ka nka => ?_⟩
      obtain ⟨H6, s6, h6, e6⟩ := lay (o := .tup [.str fa.x, .ref u]) nka
      rw [e6]
      have S46 : Same H3 H6 := (s4.trans s5).trans s6
      have h6D := S46 _ _ h3
      have nD6 : ∀ {q : Addr} {o : List V}, H6 q = some (.tup o) → hid [D] H6 q = some (.tup o) := fun h => hid_to (ni1 (ne_of h h6D (fun z => nomatch z))) h
      have k6 : NdKeys (hid [D] H6) xs := k3.mono (hid_same S46)
      have hru6 : RowsAt (hid [D] H6) ((if fa.x ∈ g.comm then sort2 fa.vals else fa.vals).map fun y => (["value", y] : List Str)) tsu := Paired.mapP (hru.mono (s5.trans s6)) fun _ _ r => nD6 r
      have nk6 : NkV (hid [D] H6) (nkE (g.asked fa)) (.ref ka) := .tup (nD6 h6) (.cons (.text _) (.cons (.tup (nD6 (s6 _ _ (s5 _ _ hu4))) (nk_rows hru6)) .nil))
      have lxs : xs.length ≤ 6 := by
        have := Paired.length p3
        rw [List.length_take] at this
        have := wf.fl
        omega
      have nokey : nkE (g.asked fa) ∉ xs.map (·.1) := by
        intro m
        obtain ⟨en, hen, ee⟩ := List.mem_map.mp m
        obtain ⟨fb, hfb, hE⟩ := paired_mem p3 hen
        have := nkE_inj (hE.key.symm.trans ee)
        exact not_in_take_map wf.fd hfi hfb this
      have hnone := atKey_none nokey
      refine ⟨D, ka, b, nkE (g.asked fa), xs, rfl, rfl, rfl, h6D, k6.mono (hid_low _ _), NkV.mono (hid_low _ _) _ _ nk6, nkE_depth _, by omega, ?_⟩
      rw [storedH_new hnone]
      have B8 : Bt [D] H6 (upd H6 D (ndO P w D (xs ++ [(nkE (g.asked fa), ka, Value.ref b)]))) := bt_upd (by simp)
      have S58 : Same (hid [D] H3) (hid [D] (upd H6 D (ndO P w D (xs ++ [(nkE (g.asked fa), ka, Value.ref b)])))) := (hid_same S46).trans B8
      refine ⟨_, _, _, _, xs ++ [(nkE (g.asked fa), ka, Value.ref b)], rfl, S3.trans S58, upd_same, ?_, ?_⟩
      · intro en hen
        rcases List.mem_append.mp hen with h | h
        · exact (k6.mono B8) en h
        · rw [List.mem_singleton.mp h]
          exact ⟨NkV.mono B8 _ _ nk6, nkE_depth _⟩
      · rw [take_at hfi]
        exact paired_app (Paired.mapP p3 fun _ _ r => r.mono S58) (.cons ⟨rfl, b, e, rfl, B8 _ _ (nD6 (s6 _ _ hb5)), S58 _ _ (S3 _ _ he0)⟩ .nil)
    · rintro σ H3 ⟨o3, o4, o5, o6, xs, rfl, S3, h3, k3, p3⟩
      rw [List.take_of_length_le (by rw [List.length_map, ltd]; exact Nat.le_refl _)] at p3
      exact ⟨_, rfl, q D xs H3 nD (S3.trans (hid_low _ _)) h3 k3 p3⟩
end
end K27
set_option Elab.async false
set_option linter.all false
set_option maxRecDepth 100000
set_option maxHeartbeats 8000000
namespace GB
open PySem PySem.Spec L2
/-- [x for x in letters if x in fixed] -/
def tSel (j : Nat) : TE := fun σ H Q => ∃ (s0 : Option V) (a : Addr) (s2 s3 s4 s5 s6 s7 : Option V) (b : Addr) (ls : List (Str × Nat)) (fx : List Str), σ = [s0, some (.ref a), s2, s3, s4, s5, s6, s7] ∧ ((j = 2 ∧ s2 = some (.ref b)) ∨ (j = 3 ∧ s3 = some (.ref b))) ∧ H a = some (.dK (lkv ls)) ∧ H b = some (.lst (sts fx)) ∧ ls.length ≤ 1000 ∧
  ∀ l H', H l = none → Same H H' → H' l = some (.lst (sts ((ls.map (·.1)).filter fun x => decide (x ∈ fx)))) → Q (.ref l) H'

theorem sel_weak2 {K : PySem.W.Frag} (σ : L2.St) (H : Hp) (Q : VK) (h : tSel 2 σ H Q) : tLockE (tLc (iKeys (tVar 1)) (gName 5) (tTest (tOp (rIn K false) (tVar 5) (tVar 2))) (tVar 5) [5]) σ H Q := by
  obtain ⟨s0, a, s2, s3, s4, s5, s6, s7, b, ls, fx, rfl, hj, hL, hF, hz, q⟩ := h
  obtain rfl : s2 = some (.ref b) := by
    rcases hj with h | h
    · first | exact h.2 | exact absurd h.1 (by decide)
    · first | exact h.2 | exact absurd h.1 (by decide)
  have ab : b ≠ a := ne_of hF hL (by intro z; cases z)
  refine ⟨a, _, hL, trivial, fun od => ?_⟩
  obtain ⟨Hl, hlL, hlo, el⟩ : ∃ Hl, Hl a = some (.frz od (.dK (lkv ls))) ∧ (∀ b, b ≠ a → Hl b = H b) ∧ upd H a (.frz od (.dK (lkv ls))) = Hl := ⟨_, upd_same, fun b hb => upd_ne hb, rfl⟩
  rw [el]
  have hFl := (hlo b ab).trans hF
  refine ⟨_, rfl, a, od, rfl, .inl ⟨_, hlL, fun D nD => ?_⟩⟩
  refine lc_it walk_keys (fun i H' => Same Hl H' ∧ H' D = some (.lst (sts (((ls.map (·.1)).take i).filter fun x => decide (x ∈ fx))))) ⟨same_new nD, upd_same⟩ (fun i H' _ ⟨s', _⟩ => s' _ _ hlL) ?_ ?_
  · rintro i x H1 H1' hi ⟨s1, hD⟩ ⟨rfl, k, v, hk, rfl⟩
    obtain ⟨⟨sx, m⟩, hq, eq⟩ : ∃ q, ls[i]? = some q ∧ (Sum.inr q.1, V.int q.2) = (k, v) := by
      unfold lkv at hk
      rw [List.getElem?_map] at hk
      cases e : ls[i]? with
      | none => rw [e] at hk; cases hk
      | some q => rw [e] at hk; exact ⟨q, rfl, Option.some.inj hk⟩
    obtain ⟨rfl, rfl⟩ := Prod.mk.inj eq
    have hkx : (ls.map (·.1))[i]? = some sx := by rw [List.getElem?_map, hq]; rfl
    have ec := take_at hkx
    refine ⟨rfl, ?_⟩
    refine ⟨_, rfl, _, rfl, b, sts fx, rfl, .inl (SqL.of (s1 _ _ hFl)), rfl, flat_sts _, _, rfl, ?_⟩
    rw [show (if false = true then !inV (kV (Sum.inr sx)) (sts fx) else inV (kV (Sum.inr sx)) (sts fx)) = decide (sx ∈ fx) from inV_sts _ _]
    rw [ec, List.filter_append]
    by_cases c : sx ∈ fx
    · rw [decide_eq_true c]
      refine ⟨_, rfl, _, hD, ?_, fun b o e => ?_, ?_⟩
      · rw [sts_len, sizeLine_eq]
        have h1 := List.length_filter_le (fun x => decide (x ∈ fx)) ((ls.map (·.1)).take i)
        rw [List.length_take, List.length_map] at h1
        omega
      · rw [upd_ne (ne_of_none e nD)]; exact s1 _ _ e
      · rw [upd_same, List.filter_cons_of_pos (by simp [c]), List.filter_nil]
        unfold sts
        rw [List.map_append]
        rfl
    · rw [decide_eq_false c]
      refine ⟨s1, ?_⟩
      rw [List.filter_cons_of_neg (by simp [c]), List.filter_nil, List.append_nil]
      exact hD
  · rintro H1' ⟨s1', hD1'⟩
    refine ⟨s1' _ _ hlL, ?_⟩
    have DL : D ≠ a := fun e => by rw [e, hlL] at nD; cases nD
    have nDH : H D = none := by rw [← hlo D DL]; exact nD
    rw [List.take_of_length_le (by rw [List.length_map]; show ls.length ≤ (lkv ls).length; unfold lkv; rw [List.length_map]; exact Nat.le_refl _)] at hD1'
    refine q D _ nDH (fun b o e => ?_) (by rw [upd_ne DL]; exact hD1')
    by_cases hb : b = a
    · subst hb; rw [upd_same, ← e, hL]
    · rw [upd_ne hb]; exact s1' _ _ ((hlo b hb).trans e)

theorem sel_weak3 {K : PySem.W.Frag} (σ : L2.St) (H : Hp) (Q : VK) (h : tSel 3 σ H Q) : tLockE (tLc (iKeys (tVar 1)) (gName 5) (tTest (tOp (rIn K false) (tVar 5) (tVar 3))) (tVar 5) [5]) σ H Q := by
  obtain ⟨s0, a, s2, s3, s4, s5, s6, s7, b, ls, fx, rfl, hj, hL, hF, hz, q⟩ := h
  obtain rfl : s3 = some (.ref b) := by
    rcases hj with h | h
    · first | exact h.2 | exact absurd h.1 (by decide)
    · first | exact h.2 | exact absurd h.1 (by decide)
  have ab : b ≠ a := ne_of hF hL (by intro z; cases z)
  refine ⟨a, _, hL, trivial, fun od => ?_⟩
  obtain ⟨Hl, hlL, hlo, el⟩ : ∃ Hl, Hl a = some (.frz od (.dK (lkv ls))) ∧ (∀ b, b ≠ a → Hl b = H b) ∧ upd H a (.frz od (.dK (lkv ls))) = Hl := ⟨_, upd_same, fun b hb => upd_ne hb, rfl⟩
  rw [el]
  have hFl := (hlo b ab).trans hF
  refine ⟨_, rfl, a, od, rfl, .inl ⟨_, hlL, fun D nD => ?_⟩⟩
  refine lc_it walk_keys (fun i H' => Same Hl H' ∧ H' D = some (.lst (sts (((ls.map (·.1)).take i).filter fun x => decide (x ∈ fx))))) ⟨same_new nD, upd_same⟩ (fun i H' _ ⟨s', _⟩ => s' _ _ hlL) ?_ ?_
  · rintro i x H1 H1' hi ⟨s1, hD⟩ ⟨rfl, k, v, hk, rfl⟩
    obtain ⟨⟨sx, m⟩, hq, eq⟩ : ∃ q, ls[i]? = some q ∧ (Sum.inr q.1, V.int q.2) = (k, v) := by
      unfold lkv at hk
      rw [List.getElem?_map] at hk
      cases e : ls[i]? with
      | none => rw [e] at hk; cases hk
      | some q => rw [e] at hk; exact ⟨q, rfl, Option.some.inj hk⟩
    obtain ⟨rfl, rfl⟩ := Prod.mk.inj eq
    have hkx : (ls.map (·.1))[i]? = some sx := by rw [List.getElem?_map, hq]; rfl
    have ec := take_at hkx
    refine ⟨rfl, ?_⟩
    refine ⟨_, rfl, _, rfl, b, sts fx, rfl, .inl (SqL.of (s1 _ _ hFl)), rfl, flat_sts _, _, rfl, ?_⟩
    rw [show (if false = true then !inV (kV (Sum.inr sx)) (sts fx) else inV (kV (Sum.inr sx)) (sts fx)) = decide (sx ∈ fx) from inV_sts _ _]
    rw [ec, List.filter_append]
    by_cases c : sx ∈ fx
    · rw [decide_eq_true c]
      refine ⟨_, rfl, _, hD, ?_, fun b o e => ?_, ?_⟩
      · rw [sts_len, sizeLine_eq]
        have h1 := List.length_filter_le (fun x => decide (x ∈ fx)) ((ls.map (·.1)).take i)
        rw [List.length_take, List.length_map] at h1
        omega
      · rw [upd_ne (ne_of_none e nD)]; exact s1 _ _ e
      · rw [upd_same, List.filter_cons_of_pos (by simp [c]), List.filter_nil]
        unfold sts
        rw [List.map_append]
        rfl
    · rw [decide_eq_false c]
      refine ⟨s1, ?_⟩
      rw [List.filter_cons_of_neg (by simp [c]), List.filter_nil, List.append_nil]
      exact hD
  · rintro H1' ⟨s1', hD1'⟩
    refine ⟨s1' _ _ hlL, ?_⟩
    have DL : D ≠ a := fun e => by rw [e, hlL] at nD; cases nD
    have nDH : H D = none := by rw [← hlo D DL]; exact nD
    rw [List.take_of_length_le (by rw [List.length_map]; show ls.length ≤ (lkv ls).length; unfold lkv; rw [List.length_map]; exact Nat.le_refl _)] at hD1'
    refine q D _ nDH (fun b o e => ?_) (by rw [upd_ne DL]; exact hD1')
    by_cases hb : b = a
    · subst hb; rw [upd_same, ← e, hL]
    · rw [upd_ne hb]; exact s1' _ _ ((hlo b hb).trans e)

theorem dcK_it {J : It} {n : Nat} {G : Hp → Prop} {Y : Nat → Hp → V → Hp → Prop} (w : Walk J n G Y) {g : TG} {tt : TT} {tk tv : TE} {vs : List Nat} {σ : L2.St} {H1 : Hp} {D : Addr} {Qd : Hp → Prop} (Pv : Nat → Hp → Prop) (h0 : Pv 0 (upd H1 D (.dK []))) (hG : ∀ i H, i ≤ n → Pv i H → G H)
    (hs : ∀ i x H H', i < n → Pv i H → Y i H x H' → g x (wipe σ vs) H' fun σ2 H2 => wipe σ2 vs = wipe σ vs ∧ tt σ2 H2 fun b H3 => if b = true then tk σ2 H3 fun y H4 => tv σ2 H4 fun z H5 => ∃ kvs k, y = kV k ∧ H5 D = some (.dK kvs) ∧ kvs.length < sizeLine ∧ Pv (i + 1) (upd H5 D (.dK (putK kvs k z))) else Pv (i + 1) H3) (hd : ∀ H, Pv n H → Qd H) :
    ∃ Wv : Nat → Nat → Hp → Prop, (∃ m, Wv 0 m (upd H1 D (.dK []))) ∧ ∀ i m H, Wv i m H → (J.stop i H ∧ Qd H) ∨ (J.go i H ∧ ∃ Nx : Hp → Prop, (∀ H', Nx H' → ∃ m', m' < m ∧ Wv (i + 1) m' H') ∧ ∀ x H', J.yld i H x H' → g x (wipe σ vs) H' fun σ2 H2 =>
      wipe σ2 vs = wipe σ vs ∧ tt σ2 H2 fun b H3 => if b = true then tk σ2 H3 fun y H4 => tv σ2 H4 fun z H5 => ∃ kvs k, y = kV k ∧ H5 D = some (.dK kvs) ∧ kvs.length < sizeLine ∧ Nx (upd H5 D (.dK (putK kvs k z))) else Nx H3) := by
  refine ⟨fun i m H => m = n - i ∧ i ≤ n ∧ Pv i H, ⟨n, by simp, Nat.zero_le _, h0⟩, ?_⟩
  rintro i m H ⟨rfl, hi, p⟩
  rcases Nat.lt_or_ge i n with lt | ge
  · exact .inr ⟨w.goes i H lt (hG i H hi p), Pv (i + 1), fun H' p' => ⟨n - (i + 1), by omega, rfl, lt, p'⟩, fun x H' y => hs i x H H' lt p (w.yields i H x H' lt (hG i H hi p) y)⟩
  · obtain rfl : i = n := by omega
    exact .inl ⟨w.stops H (hG i H hi p), hd H p⟩
theorem FactsAt.hidX {H : Hp} {x l C dx : Addr} {u : List (Str × V)} {fs : List Fact} (hx : H x = some (.ins C dx u)) (h : FactsAt H l fs) : FactsAt (hid [x] H) l fs := by
  obtain ⟨ts, h1, h2⟩ := h
  refine ⟨ts, hid_to (ni1 (ne_of h1 hx (fun z => nomatch z))) h1, Paired.mapP h2 fun f t r => ?_⟩
  obtain ⟨v, e, a1, a2, a3⟩ := r.ex
  exact ⟨v, e, hid_to (ni1 (ne_of a1 hx (fun z => nomatch z))) a1, hid_to (ni1 (ne_of a2 hx (fun z => nomatch z))) a2, hid_to (ni1 (ne_of a3 hx (fun z => nomatch z))) a3⟩
/-- the places of rows, from 0 -/
def plK (rows : List (List Str)) : Nat → List (List Key × V)
  | 0 => []
  | i + 1 => putK (plK rows i) ((rows.getD i []).map Sum.inr) (.int (i : Nat))
theorem plK_len (rows : List (List Str)) : ∀ i, (plK rows i).length ≤ i
  | 0 => Nat.le_refl _
  | i + 1 => by
    have := plK_len rows i
    have := length_putK (plK rows i) ((rows.getD i []).map Sum.inr : List Key) (.int (i : Nat))
    rw [plK]
    omega
theorem sts_kV (row : List Str) : sts row = ((row.map Sum.inr : List Key)).map kV := by
  unfold sts
  rw [List.map_map]
  rfl
theorem true_keys (l : List Str) : (trueK l).map (fun kv => kV kv.1) = sts l := by
  unfold trueK sts
  rw [List.map_map]
  rfl
theorem lkv_keys (l : List (Str × Nat)) : (lkv l).map (fun kv => kV kv.1) = sts (l.map (·.1)) := by
  unfold lkv sts
  rw [List.map_map, List.map_map]
  rfl
theorem allPerms_len {ls mv : List Str} (h1 : ls.length ≤ 20) (h2 : mv.length ≤ 20) : (allPerms ls mv).length ≤ 1000 := by
  unfold allPerms
  have := shTo_len mv mv.length
  have := prod_le h2 h2
  simp only [List.length_append, List.length_map, showsOf_len]
  omega
theorem filter_sub {c l : List Str} (h : c.Sublist l) : l.Nodup → l.filter (fun x => decide (x ∈ c)) = c := by
  induction h with
  | slnil => intro _; rfl
  | @cons c l a h ih =>
    intro nd
    have nd' := List.nodup_cons.mp nd
    rw [List.filter_cons_of_neg (by simp; exact fun m => nd'.1 (h.subset m)), ih nd'.2]
  | @cons_cons c l a h ih =>
    intro nd
    have nd' := List.nodup_cons.mp nd
    rw [List.filter_cons_of_pos (by simp)]
    congr 1
    rw [← ih nd'.2]
    refine List.filter_congr fun x hx => ?_
    have hne : x ≠ a := fun e => nd'.1 (e ▸ hx)
    have hmem : (x ∈ (l.filter fun x => decide (x ∈ c))) ↔ x ∈ c := by rw [ih nd'.2]
    simp [hne, hmem]
/-- {x: True for x in letters if x not in fixed} -/
def tMov : TE := fun σ H Q => ∃ (s0 : Option V) (a : Addr) (s3 s4 s5 s6 s7 : Option V) (b : Addr) (ls : List (Str × Nat)) (fx : List Str), σ = [s0, some (.ref a), some (.ref b), s3, s4, s5, s6, s7] ∧ H a = some (.dK (lkv ls)) ∧ H b = some (.lst (sts fx)) ∧ (ls.map (·.1)).Nodup ∧ ls.length ≤ 1000 ∧
  ∀ l H', H l = none → Same H H' → H' l = some (.dK (trueK ((ls.map (·.1)).filter fun x => !decide (x ∈ fx)))) → Q (.ref l) H'
theorem putTrue {l : List Str} {x : Str} (h : x ∉ l) : putK (trueK l) (.inr x : Key) (.bl true) = trueK (l ++ [x]) := by
  rw [putK_new _ (by rw [trueK_in, if_neg h])]
  unfold trueK
  rw [List.map_append]
  rfl
theorem mov_weak {K : PySem.W.Frag} (σ : L2.St) (H : Hp) (Q : VK) (h : tMov σ H Q) : tLockE (tDc (iKeys (tVar 1)) (gName 5) (tTest (tOp (rIn K true) (tVar 5) (tVar 2))) (tVar 5) (tC (.bl true)) [5]) σ H Q := by
  obtain ⟨s0, a, s3, s4, s5, s6, s7, b, ls, fx, rfl, hL, hF, nd, hz, q⟩ := h
  have ab : b ≠ a := ne_of hF hL (by intro z; cases z)
  refine ⟨a, _, hL, trivial, fun od => ?_⟩
  obtain ⟨Hl, hlL, hlo, el⟩ : ∃ Hl, Hl a = some (.frz od (.dK (lkv ls))) ∧ (∀ b, b ≠ a → Hl b = H b) ∧ upd H a (.frz od (.dK (lkv ls))) = Hl := ⟨_, upd_same, fun b hb => upd_ne hb, rfl⟩
  rw [el]
  have hFl := (hlo b ab).trans hF
  refine ⟨_, rfl, a, od, rfl, .inl ⟨_, hlL, fun D nD => dcK_it walk_keys (fun i H' => Same Hl H' ∧ H' D = some (.dK (trueK (((ls.map (·.1)).take i).filter fun x => !decide (x ∈ fx))))) ⟨same_new nD, upd_same⟩ (fun i H' _ ⟨s', _⟩ => s' _ _ hlL) ?_ ?_⟩⟩
  · rintro i x H1 H1' hi ⟨s1, hD⟩ ⟨rfl, k, v, hk, rfl⟩
    obtain ⟨⟨sx, m⟩, hq, eq⟩ : ∃ q, ls[i]? = some q ∧ (Sum.inr q.1, V.int q.2) = (k, v) := by
      unfold lkv at hk
      rw [List.getElem?_map] at hk
      cases e : ls[i]? with
      | none => rw [e] at hk; cases hk
      | some q => rw [e] at hk; exact ⟨q, rfl, Option.some.inj hk⟩
    obtain ⟨rfl, rfl⟩ := Prod.mk.inj eq
    have hkx : (ls.map (·.1))[i]? = some sx := by rw [List.getElem?_map, hq]; rfl
    have ec := take_at hkx
    refine ⟨rfl, ?_⟩
    refine ⟨_, rfl, _, rfl, b, sts fx, rfl, .inl (SqL.of (s1 _ _ hFl)), rfl, flat_sts _, _, rfl, ?_⟩
    rw [show (if true = true then !inV (kV (Sum.inr sx)) (sts fx) else inV (kV (Sum.inr sx)) (sts fx)) = !decide (sx ∈ fx) from congrArg (!·) (inV_sts _ _)]
    rw [ec, List.filter_append]
    by_cases c : sx ∈ fx
    · rw [decide_eq_true c]
      refine ⟨s1, ?_⟩
      rw [List.filter_cons_of_neg (by simp [c]), List.filter_nil, List.append_nil]
      exact hD
    · rw [decide_eq_false c]
      have hn : sx ∉ ((ls.map (·.1)).take i).filter fun x => !decide (x ∈ fx) := fun z => not_in_take nd hkx (List.mem_filter.mp z).1
      refine ⟨_, rfl, _, .inr sx, rfl, hD, ?_, ?_⟩
      · unfold trueK
        rw [List.length_map, sizeLine_eq]
        have h1 := List.length_filter_le (fun x => !decide (x ∈ fx)) ((ls.map (·.1)).take i)
        rw [List.length_take, List.length_map] at h1
        omega
      · refine ⟨fun b o e => ?_, ?_⟩
        · rw [upd_ne (ne_of_none e nD)]; exact s1 _ _ e
        · rw [upd_same, putTrue hn, List.filter_cons_of_pos (by simp [c]), List.filter_nil]
  · rintro H1' ⟨s1', hD1'⟩
    refine ⟨s1' _ _ hlL, ?_⟩
    have DL : D ≠ a := fun e => by rw [e, hlL] at nD; cases nD
    have nDH : H D = none := by rw [← hlo D DL]; exact nD
    rw [List.take_of_length_le (by rw [List.length_map]; show ls.length ≤ (lkv ls).length; unfold lkv; rw [List.length_map]; exact Nat.le_refl _)] at hD1'
    refine q D _ nDH (fun b o e => ?_) (by rw [upd_ne DL]; exact hD1')
    by_cases hb : b = a
    · subst hb; rw [upd_same, ← e, hL]
    · rw [upd_ne hb]; exact s1' _ _ ((hlo b hb).trans e)
end GB
namespace K27
open PySem PySem.Spec L2 GB
abbrev sGI : Stmt := inClass (topS 31) 0
abbrev sMade : Stmt := topS 48
def giN : List Str := ["self", "letters", "fixed", "commuting", "facts", "letter", "place", "row"]
def spGI (C : Addr) : Sp := fun vs H Q _ => ∃ (x dx a b c d : Addr) (g : GD), vs = [.ref x, .ref a, .ref b, .ref c, .ref d] ∧ H x = some (.ins C dx []) ∧ H a = some (.dK (lkv g.letters)) ∧ H b = some (.lst (sts g.fixed)) ∧ H c = some (.lst (sts g.comm)) ∧ FactsAt (hid [x] H) d g.facts ∧ g.Wf ∧
  ∀ H', Bt [x] H H' → IsGr C H' x g → Q .non H'
/-- the ground of the package -/
def spMade (C : Addr) : Sp := fun vs H Q _ => ∃ (g : Addr) (gd : GD), vs = [.ref g] ∧ IsG H g gd ∧ gd.Wf ∧ ∀ G H', H G = none → Same H H' → IsGr C H' G gd → Q (.ref G) H'
section
variable {P : Program} {w : World} {K : PySem.W.Frag} {mg : Str → Option Value} {base : Heap} {C : Addr}
theorem scGI : FnScope giN ["self", "letters", "fixed", "commuting", "facts"] (defScope sGI) := ⟨rfl, rfl, rfl, by decide +kernel, rfl, by decide +kernel, by decide +kernel⟩
theorem scMade : FnScope ["_law_g"] ["_law_g"] (defScope sMade) := ⟨rfl, rfl, rfl, by decide +kernel, rfl, by decide +kernel, by decide +kernel⟩

theorem ok_gi {f : Addr} {fd : FuncData} {dvs : List V} {kws : List (Str × V)} (F : FunD K "__init__" "Ground.__init__" (defArgs sGI) (defBody sGI) (defScope sGI) dvs kws f fd) (T : Bl mg) (cl : Cls K C) (n1 : NoAttr K C "_facts") (n2 : NoAttr K C "_letters") (n3 : NoAttr K C "_order") (n4 : NoAttr K C "_fixed") (n5 : NoAttr K C "_commuting") (n6 : NoAttr K C "moving") (n7 : NoAttr K C "commutes") (n8 : NoAttr K C "known_ends") (n9 : NoAttr K C "places")
    (CL : Fns P w K mg base "_check_letters" 2 ["letters"] spCkL) (CF : Fns P w K mg base "_check_fixed" 2 ["letters", "fixed"] spCkF) (CC : Fns P w K mg base "_check_commuting" 2 ["letters", "fixed", "commuting"] spCkC)
    (FT : Fns P w K mg base "_facts_as_told" 4 ["letters", "fixed", "commuting", "facts"] spFT) (EB : Fns P w K mg base "_ends_by_values" 2 ["facts", "commutes"] (spEbv P w)) (PM : Fns P w K mg base "_all_permissions" 1 ["letters", "moving"] spPerm) : FnOk P w K mg base CX0 5 f fd ["self", "letters", "fixed", "commuting", "facts"] (spGI C) := by
  refine FX.FunD.ok0 F scGI (fun vs H Q E h => ?_) (fun cdv A outer s H vs Q E hr h => ?_)
  · obtain ⟨x, dx, a, b, c, d, g, rfl, _⟩ := h
    rfl
  · obtain ⟨x, dx, a, b, c, d, g, rfl, hx, hL, hF, hC, hA, wf, q⟩ := h
    refine ⟨_, pss_cons (ps_expr (pe_fn CL hr (by decide) rfl (pa_cons (pv 1) (pa_nil)))) (pss_cons (ps_expr (pe_fn CF hr (by decide) rfl (pa_cons (pv 1) (pa_cons (pv 2) (pa_nil))))) (pss_cons (ps_expr (pe_fn CC hr (by decide) rfl (pa_cons (pv 1) (pa_cons (pv 2) (pa_cons (pv 3) (pa_nil)))))) (pss_cons (ps_fld (pv 0) (pe_fn FT hr (by decide) rfl (pa_cons (pv 1) (pa_cons (pv 2) (pa_cons (pv 3) (pa_cons (pv 4) (pa_nil)))))) rfl) (pss_cons (ps_fld (pv 0) (pe_callTy (call_dictD) (by rfl) T.dict (by decide +kernel) (pa_cons (pv 1) (pa_nil))) rfl) (pss_cons (ps_fld (pv 0) (pe_callTy ((call_listD rfl)) (by rfl) T.list (by decide +kernel) (pa_cons (pv 1) (pa_nil))) rfl) (pss_cons (ps_fld (pv 0) (pe_weak (t' := tSel 2) (pe_lock (pe_lc (own := [("letter", 5)]) (g := gName 5) (tt := tTest (tOp (rIn K false) (tVar 5) (tVar 2))) rfl scGI.nd (pi_keys (pv 1)) (blkOk_by (own := [("letter", 5)]) (N := giN) (sc := defScope sGI) (by decide +kernel)) (fun _ _ _ _ _ => pg_name (i := 5) scGI.nd rfl (.inl rfl)) (fun _ _ _ _ _ => pts_one (pt_cmpR op_in_seq (pv 5) (pv 2) (by rfl))) (fun _ _ _ _ _ => pv 5))) sel_weak2) rfl) (pss_cons (ps_fld (pv 0) (pe_weak (t' := tSel 3) (pe_lock (pe_lc (own := [("letter", 5)]) (g := gName 5) (tt := tTest (tOp (rIn K false) (tVar 5) (tVar 3))) rfl scGI.nd (pi_keys (pv 1)) (blkOk_by (own := [("letter", 5)]) (N := giN) (sc := defScope sGI) (by decide +kernel)) (fun _ _ _ _ _ => pg_name (i := 5) scGI.nd rfl (.inl rfl)) (fun _ _ _ _ _ => pts_one (pt_cmpR op_in_seq (pv 5) (pv 3) (by rfl))) (fun _ _ _ _ _ => pv 5))) sel_weak3) rfl) (pss_cons (ps_fld (pv 0) (pe_weak (t' := tMov) (pe_lock (pe_dc (own := [("letter", 5)]) (g := gName 5) (tt := tTest (tOp (rIn K true) (tVar 5) (tVar 2))) (tk := tVar 5) (tv := tC (.bl true)) rfl scGI.nd (pi_keys (pv 1)) (blkOk_by (own := [("letter", 5)]) (N := giN) (sc := defScope sGI) (by decide +kernel)) (fun _ _ _ _ _ => pg_name (i := 5) scGI.nd rfl (.inl rfl)) (fun _ _ _ _ _ => pts_one (pt_cmpR op_notIn_seq (pv 5) (pv 2) (by rfl))) (fun _ _ _ _ _ => pv 5) (fun _ _ _ _ _ => pe_bl))) mov_weak) rfl) (pss_cons (ps_fld (pv 0) (pe_dc (own := [("letter", 5)]) (g := gName 5) (tt := tYes) (tk := tVar 5) (tv := tC (.bl true)) rfl scGI.nd (pi_seqW (pe_fld (pv 0) rfl)) (blkOk_by (own := [("letter", 5)]) (N := giN) (sc := defScope sGI) (by decide +kernel)) (fun _ _ _ _ _ => pg_name (i := 5) scGI.nd rfl (.inl rfl)) (fun _ _ _ _ _ => pts_nil) (fun _ _ _ _ _ => pv 5) (fun _ _ _ _ _ => pe_bl)) rfl) (pss_cons (ps_fld (pv 0) (pe_fn EB hr (by decide) rfl (pa_cons (pe_fld (pv 0) rfl) (pa_cons (pe_fld (pv 0) rfl) (pa_nil)))) rfl) (pss_one (ps_fld (pv 0) (DictT.pe_dcT (own := [("place", 6), ("row", 7)]) (g := gTup K 2 (gCons (gName 6) (gCons (gName 7) gNil))) (tt := tYes) (tk := tVar 7) (tv := tVar 6) .t (hu_of hr) rfl scGI.nd (pi_enumW rfl T.enum (pa_cons (pe_fn PM hr (by decide) rfl (pa_cons (pe_fld (pv 0) rfl) (pa_cons (pe_callTy (call_listD rfl) (by rfl) T.list (by decide +kernel) (pa_cons (pe_fld (pv 0) rfl) (pa_nil))) (pa_nil)))) pa_nil)) (blkOk_by (own := [("place", 6), ("row", 7)]) (N := giN) (sc := defScope sGI) (by decide +kernel)) (fun _ _ _ _ _ => pg_tup rfl (pgs_cons (pg_name (i := 6) scGI.nd rfl (.inl rfl)) (pgs_cons (pg_name (i := 7) scGI.nd rfl (.inl rfl)) (pgs_nil)))) (fun _ _ _ _ _ => pts_nil) (fun _ _ _ _ _ => pv 7) (fun _ _ _ _ _ => pv 6)) rfl)))))))))))), ?_⟩
    have nm : ∀ x ∈ nmA, nameB x = true := by decide +kernel
    refine ⟨_, rfl, a, g.letters, rfl, hL, wf.ne, fun q hq => ⟨nm _ (wf.nm q hq), wf.ar q hq⟩, fun H1 s1 => ?_⟩
    refine ⟨_, rfl, _, rfl, a, b, g.letters, g.fixed, rfl, s1 _ _ hL, wf.nd, s1 _ _ hF, wf.fx, fun H2 s2 => ?_⟩
    have S2 := s1.trans s2
    refine ⟨_, rfl, _, rfl, _, rfl, a, b, c, g.letters, g.fixed, g.comm, rfl, S2 _ _ hL, wf.nd, S2 _ _ hF, S2 _ _ hC, wf.fx.nodup wf.nd, wf.cm, wf.c2, fun H3 s3 => ?_⟩
    have S3 := S2.trans s3
    refine ⟨_, rfl, _, rfl, _, rfl, _, rfl, a, b, c, d, g, rfl, S3 _ _ hL, S3 _ _ hF, S3 _ _ hC, hA.mono ((hid_low _ _).trans S3), wf, fun l1 H4 nl1 s4 hl1 => ?_⟩
    have S4 := S3.trans s4
    have xa : a ≠ x := ne_of hL hx (fun z => nomatch z)
    have xb : b ≠ x := ne_of hF hx (fun z => nomatch z)
    have xc : c ≠ x := ne_of hC hx (fun z => nomatch z)
    refine ⟨_, rfl, x, C, dx, _, rfl, S4 _ _ hx, cl, n1, by show 0 < 1000; decide, ?_⟩
    obtain ⟨H5, b5, h5, B5, e5⟩ : ∃ H5, (∀ b o, b ≠ x → H4 b = some o → H5 b = some o) ∧ H5 x = some (.ins C dx (putF "_facts" (.ref l1) [])) ∧ Bt [x] H4 H5 ∧ upd H4 x (.ins C dx (putF "_facts" (.ref l1) [])) = H5 := ⟨_, fun b o z e => by rw [upd_ne z]; exact e, upd_same, bt_upd (by simp), rfl⟩
    rw [e5]
    have hL5 := b5 _ _ xa (S4 _ _ hL)
    refine ⟨_, rfl, a, _, rfl, .inl hL5, fun l2 nl2 => ?_⟩
    obtain ⟨H6, s6, h6, e6⟩ := lay (o := .dK (lkv g.letters)) nl2
    rw [e6]
    refine ⟨_, rfl, x, C, dx, _, rfl, s6 _ _ h5, cl, n2, by show 1 < 1000; decide, ?_⟩
    obtain ⟨H7, b7, h7, B7, e7⟩ : ∃ H7, (∀ b o, b ≠ x → H6 b = some o → H7 b = some o) ∧ H7 x = some (.ins C dx (putF "_letters" (.ref l2) (putF "_facts" (.ref l1) []))) ∧ Bt [x] H6 H7 ∧ upd H6 x (.ins C dx (putF "_letters" (.ref l2) (putF "_facts" (.ref l1) []))) = H7 := ⟨_, fun b o z e => by rw [upd_ne z]; exact e, upd_same, bt_upd (by simp), rfl⟩
    rw [e7]
    have x2 : l2 ≠ x := fun e => by rw [e, h5] at nl2; cases nl2
    have hL7 := b7 _ _ xa (s6 _ _ hL5)
    have h7l := b7 _ _ x2 h6
    refine ⟨_, rfl, a, _, rfl, .inl hL7, fun l3 nl3 => ?_⟩
    obtain ⟨H8, s8, h8, e8⟩ := lay (o := .lst ((lkv g.letters).map fun kv => kV kv.1)) nl3
    rw [e8]
    refine ⟨_, rfl, x, C, dx, _, rfl, s8 _ _ h7, cl, n3, by show 2 < 1000; decide, ?_⟩
    obtain ⟨H9, b9, h9, B9, e9⟩ : ∃ H9, (∀ b o, b ≠ x → H8 b = some o → H9 b = some o) ∧ H9 x = some (.ins C dx (putF "_order" (.ref l3) (putF "_letters" (.ref l2) (putF "_facts" (.ref l1) [])))) ∧ Bt [x] H8 H9 ∧ upd H8 x (.ins C dx (putF "_order" (.ref l3) (putF "_letters" (.ref l2) (putF "_facts" (.ref l1) [])))) = H9 := ⟨_, fun b o z e => by rw [upd_ne z]; exact e, upd_same, bt_upd (by simp), rfl⟩
    rw [e9]
    have B49 : Bt [x] H4 H9 := B5.trans ((bt_of s6).trans (B7.trans ((bt_of s8).trans B9)))
    have hL9 := bt_at B49 (ni1 xa) (S4 _ _ hL)
    have hF9 := bt_at B49 (ni1 xb) (S4 _ _ hF)
    have hC9 := bt_at B49 (ni1 xc) (S4 _ _ hC)
    have h9l := b9 _ _ x2 (s8 _ _ h7l)
    have l8 : g.letters.length ≤ 1000 := by
      have := wf.le
      omega
    refine ⟨_, a, _, _, _, _, _, _, b, g.letters, g.fixed, rfl, .inl ⟨rfl, rfl⟩, hL9, hF9, l8, fun l4 H10 nl4 s10 hl4 => ?_⟩
    refine ⟨_, rfl, x, C, dx, _, rfl, s10 _ _ h9, cl, n4, by show 3 < 1000; decide, ?_⟩
    obtain ⟨H11, b11, h11, B11, e11⟩ : ∃ H11, (∀ b o, b ≠ x → H10 b = some o → H11 b = some o) ∧ H11 x = some (.ins C dx (putF "_fixed" (.ref l4) (putF "_order" (.ref l3) (putF "_letters" (.ref l2) (putF "_facts" (.ref l1) []))))) ∧ Bt [x] H10 H11 ∧ upd H10 x (.ins C dx (putF "_fixed" (.ref l4) (putF "_order" (.ref l3) (putF "_letters" (.ref l2) (putF "_facts" (.ref l1) []))))) = H11 := ⟨_, fun b o z e => by rw [upd_ne z]; exact e, upd_same, bt_upd (by simp), rfl⟩
    rw [e11]
    refine ⟨_, a, _, _, _, _, _, _, c, g.letters, g.comm, rfl, .inr ⟨rfl, rfl⟩, b11 _ _ xa (s10 _ _ hL9), b11 _ _ xc (s10 _ _ hC9), l8, fun l5 H12 nl5 s12 hl5 => ?_⟩
    refine ⟨_, rfl, x, C, dx, _, rfl, s12 _ _ h11, cl, n5, by show 4 < 1000; decide, ?_⟩
    obtain ⟨H13, b13, h13, B13, e13⟩ : ∃ H13, (∀ b o, b ≠ x → H12 b = some o → H13 b = some o) ∧ H13 x = some (.ins C dx (putF "_commuting" (.ref l5) (putF "_fixed" (.ref l4) (putF "_order" (.ref l3) (putF "_letters" (.ref l2) (putF "_facts" (.ref l1) [])))))) ∧ Bt [x] H12 H13 ∧ upd H12 x (.ins C dx (putF "_commuting" (.ref l5) (putF "_fixed" (.ref l4) (putF "_order" (.ref l3) (putF "_letters" (.ref l2) (putF "_facts" (.ref l1) [])))))) = H13 := ⟨_, fun b o z e => by rw [upd_ne z]; exact e, upd_same, bt_upd (by simp), rfl⟩
    rw [e13]
    have B913 : Bt [x] H9 H13 := (bt_of s10).trans (B11.trans ((bt_of s12).trans B13))
    have lk5 : (putF "_commuting" (.ref l5) (putF "_fixed" (.ref l4) (putF "_order" (.ref l3) (putF "_letters" (.ref l2) (putF "_facts" (.ref l1) []))))).lookup ("_commuting" : Str) = some (.ref l5) := by rw [lookup_putF, if_pos rfl]
    have hL13 := b13 _ _ xa (s12 _ _ (b11 _ _ xa (s10 _ _ hL9)))
    have hF13 := b13 _ _ xb (s12 _ _ (b11 _ _ xb (s10 _ _ hF9)))
    refine ⟨_, a, _, _, _, _, _, b, g.letters, g.fixed, rfl, hL13, hF13, wf.nd, l8, fun l6 H14 nl6 s14 hl6 => ?_⟩
    refine ⟨_, rfl, x, C, dx, _, rfl, s14 _ _ h13, cl, n6, by show 5 < 1000; decide, ?_⟩
    obtain ⟨H15, b15, h15, B15, e15⟩ : ∃ H15, (∀ b o, b ≠ x → H14 b = some o → H15 b = some o) ∧ H15 x = some (.ins C dx (putF "moving" (.ref l6) (putF "_commuting" (.ref l5) (putF "_fixed" (.ref l4) (putF "_order" (.ref l3) (putF "_letters" (.ref l2) (putF "_facts" (.ref l1) []))))))) ∧ Bt [x] H14 H15 ∧ upd H14 x (.ins C dx (putF "moving" (.ref l6) (putF "_commuting" (.ref l5) (putF "_fixed" (.ref l4) (putF "_order" (.ref l3) (putF "_letters" (.ref l2) (putF "_facts" (.ref l1) []))))))) = H15 := ⟨_, fun b o z e => by rw [upd_ne z]; exact e, upd_same, bt_upd (by simp), rfl⟩
    rw [e15]
    have x5 : l5 ≠ x := fun e => by rw [e, h11] at nl5; cases nl5
    have hl5c : H15 l5 = some (.lst (sts g.comm)) := by
      rw [filter_sub (wf.cm.trans wf.fx) wf.nd] at hl5
      exact b15 _ _ x5 (s14 _ _ (b13 _ _ x5 hl5))
    refine ⟨_, rfl, x, C, dx, _, _, rfl, h15, cl, n5, (by rw [lookup_putF, if_neg (by decide +kernel), lookup_putF, if_pos rfl] : (putF "moving" (.ref l6) (putF "_commuting" (.ref l5) (putF "_fixed" (.ref l4) (putF "_order" (.ref l3) (putF "_letters" (.ref l2) (putF "_facts" (.ref l1) [])))))).lookup ("_commuting" : Str) = some (.ref l5)), l5, sts g.comm, true, [], rfl, SqL.of (hid_to (by simp) hl5c), fun J WJ l7 nl7 => ?_⟩
    refine dcK_it WJ (fun i H' => Same H15 H' ∧ H' l7 = some (.dK (trueK (g.comm.take i)))) ⟨same_new nl7, upd_same⟩ (fun i H' _ s => SqL.of (hid_to (by simp) (s.1 _ _ hl5c))) ?_ ?_
    · rintro i y H1' H2' hi ⟨sc, hD⟩ ⟨rfl, hy⟩
      obtain ⟨sy, hsy, rfl⟩ := sts_at hy
      refine ⟨rfl, ?_⟩
      have hn : sy ∉ g.comm.take i := not_in_take (wf.cm.nodup (wf.fx.nodup wf.nd)) hsy
      refine ⟨_, rfl, _, .inr sy, rfl, hD, ?_, ?_⟩
      · unfold trueK
        rw [List.length_map, List.length_take, sizeLine_eq]
        have := (wf.cm.trans wf.fx).length_le
        rw [List.length_map] at this
        omega
      · refine ⟨fun b o e => ?_, ?_⟩
        · rw [upd_ne (ne_of_none e nl7)]; exact sc _ _ e
        · rw [upd_same, putTrue hn, take_at hsy]
    rintro H16 ⟨s16, hl7⟩
    rw [List.take_of_length_le (by rw [sts_len]; exact Nat.le_refl _)] at hl7
    refine ⟨_, rfl, x, C, dx, _, rfl, s16 _ _ h15, cl, n7, by show 6 < 1000; decide, ?_⟩
    obtain ⟨H17, b17, h17, B17, e17⟩ : ∃ H17, (∀ b o, b ≠ x → H16 b = some o → H17 b = some o) ∧ H17 x = some (.ins C dx (putF "commutes" (.ref l7) (putF "moving" (.ref l6) (putF "_commuting" (.ref l5) (putF "_fixed" (.ref l4) (putF "_order" (.ref l3) (putF "_letters" (.ref l2) (putF "_facts" (.ref l1) [])))))))) ∧ Bt [x] H16 H17 ∧ upd H16 x (.ins C dx (putF "commutes" (.ref l7) (putF "moving" (.ref l6) (putF "_commuting" (.ref l5) (putF "_fixed" (.ref l4) (putF "_order" (.ref l3) (putF "_letters" (.ref l2) (putF "_facts" (.ref l1) [])))))))) = H17 := ⟨_, fun b o z e => by rw [upd_ne z]; exact e, upd_same, bt_upd (by simp), rfl⟩
    rw [e17]
    have x7 : l7 ≠ x := fun e => by rw [e, h15] at nl7; cases nl7
    have x6 : l6 ≠ x := fun e => by rw [e, h13] at nl6; cases nl6
    have x3 : l3 ≠ x := fun e => by rw [e, h7] at nl3; cases nl3
    have B417 : Bt [x] H4 H17 := B49.trans (B913.trans ((bt_of s14).trans (B15.trans ((bt_of s16).trans B17))))
    have hA17 : FactsAt H17 l1 g.facts := ((hl1.hidX (S4 _ _ hx)).mono B417).mono (hid_low _ _)
    have hl6c : H17 l6 = some (.dK (trueK ((g.letters.map (·.1)).filter fun x => !decide (x ∈ g.fixed)))) := b17 _ _ x6 (s16 _ _ (b15 _ _ x6 hl6))
    have hl3c : H17 l3 = some (.lst (sts (g.letters.map (·.1)))) := by
      rw [lkv_keys] at h8
      exact bt_at ((B9.trans B913).trans ((bt_of s14).trans (B15.trans ((bt_of s16).trans B17)))) (ni1 x3) h8
    refine ⟨_, rfl, x, C, dx, _, _, rfl, h17, cl, n1, (by rw [lookup_putF, if_neg (by decide +kernel), lookup_putF, if_neg (by decide +kernel), lookup_putF, if_neg (by decide +kernel), lookup_putF, if_neg (by decide +kernel), lookup_putF, if_neg (by decide +kernel), lookup_putF, if_neg (by decide +kernel), lookup_putF, if_pos rfl] : (putF "commutes" (.ref l7) (putF "moving" (.ref l6) (putF "_commuting" (.ref l5) (putF "_fixed" (.ref l4) (putF "_order" (.ref l3) (putF "_letters" (.ref l2) (putF "_facts" (.ref l1) []))))))).lookup ("_facts" : Str) = some (.ref l1)), _, rfl, x, C, dx, _, _, rfl, h17, cl, n7, (by rw [lookup_putF, if_pos rfl] : (putF "commutes" (.ref l7) (putF "moving" (.ref l6) (putF "_commuting" (.ref l5) (putF "_fixed" (.ref l4) (putF "_order" (.ref l3) (putF "_letters" (.ref l2) (putF "_facts" (.ref l1) []))))))).lookup ("commutes" : Str) = some (.ref l7)), l1, l7, g, rfl, hA17, b17 _ _ x7 hl7, wf, fun l8 xs H18 nl8 s18 h18d k18 p18 => ?_⟩
    refine ⟨_, rfl, x, C, dx, _, rfl, s18 _ _ h17, cl, n8, by show 7 < 1000; decide, ?_⟩
    obtain ⟨H19, b19, h19, B19, e19⟩ : ∃ H19, (∀ b o, b ≠ x → H18 b = some o → H19 b = some o) ∧ H19 x = some (.ins C dx (putF "known_ends" (.ref l8) (putF "commutes" (.ref l7) (putF "moving" (.ref l6) (putF "_commuting" (.ref l5) (putF "_fixed" (.ref l4) (putF "_order" (.ref l3) (putF "_letters" (.ref l2) (putF "_facts" (.ref l1) []))))))))) ∧ Bt [x] H18 H19 ∧ upd H18 x (.ins C dx (putF "known_ends" (.ref l8) (putF "commutes" (.ref l7) (putF "moving" (.ref l6) (putF "_commuting" (.ref l5) (putF "_fixed" (.ref l4) (putF "_order" (.ref l3) (putF "_letters" (.ref l2) (putF "_facts" (.ref l1) []))))))))) = H19 := ⟨_, fun b o z e => by rw [upd_ne z]; exact e, upd_same, bt_upd (by simp), rfl⟩
    rw [e19]
    have lm : (g.letters.map (·.1)).length ≤ 20 := by
      have := wf.le
      rw [List.length_map]
      omega
    have lm2 := List.length_filter_le (fun x => !decide (x ∈ g.fixed)) (g.letters.map (·.1))
    refine ⟨_, rfl, x, C, dx, _, _, rfl, h19, cl, n3, (by rw [lookup_putF, if_neg (by decide +kernel), lookup_putF, if_neg (by decide +kernel), lookup_putF, if_neg (by decide +kernel), lookup_putF, if_neg (by decide +kernel), lookup_putF, if_neg (by decide +kernel), lookup_putF, if_pos rfl] : (putF "known_ends" (.ref l8) (putF "commutes" (.ref l7) (putF "moving" (.ref l6) (putF "_commuting" (.ref l5) (putF "_fixed" (.ref l4) (putF "_order" (.ref l3) (putF "_letters" (.ref l2) (putF "_facts" (.ref l1) [])))))))).lookup ("_order" : Str) = some (.ref l3)), _, rfl, x, C, dx, _, _, rfl, h19, cl, n6, (by rw [lookup_putF, if_neg (by decide +kernel), lookup_putF, if_neg (by decide +kernel), lookup_putF, if_pos rfl] : (putF "known_ends" (.ref l8) (putF "commutes" (.ref l7) (putF "moving" (.ref l6) (putF "_commuting" (.ref l5) (putF "_fixed" (.ref l4) (putF "_order" (.ref l3) (putF "_letters" (.ref l2) (putF "_facts" (.ref l1) [])))))))).lookup ("moving" : Str) = some (.ref l6)), l6, _, rfl, .inl (b19 _ _ x6 (s18 _ _ hl6c)), fun lv nlv => ?_⟩
    rw [true_keys]
    obtain ⟨H20, s20, h20, e20⟩ := lay (o := .lst (sts ((g.letters.map (·.1)).filter fun x => !decide (x ∈ g.fixed)))) nlv
    rw [e20]
    refine ⟨l3, lv, _, _, rfl, s20 _ _ (b19 _ _ x3 (s18 _ _ hl3c)), h20, lm, by omega, fun lp ts H21 nlp s21 hlp rlp => ?_⟩
    have lrow := allPerms_len lm (show ((g.letters.map (·.1)).filter fun x => !decide (x ∈ g.fixed)).length ≤ 20 by omega)
    generalize hrows : allPerms (g.letters.map (·.1)) ((g.letters.map (·.1)).filter fun x => !decide (x ∈ g.fixed)) = rows at rlp lrow
    refine ⟨lp, ts.map V.ref, true, [], rfl, SqL.of (hid_to (by simp) hlp), fun J WJ l9 nl9 => ?_⟩
    refine DictT.dc_it WJ (fun i H' => Same H21 H' ∧ H' l9 = some (.dT (plK rows i))) ⟨same_new nl9, upd_same⟩ (fun i H' _ s => SqL.of (hid_to (by simp) (s.1 _ _ hlp))) ?_ ?_
    · rintro i y H1' H2' hi ⟨sc, hD⟩ ⟨Tp, y1, y2, rfl, nT, rfl, e1, e2⟩
      obtain rfl := Option.some.inj e1
      have e2 : (ts.map V.ref)[i]? = some y2 := e2
      rw [List.getElem?_map] at e2
      obtain ⟨t, htt, rfl⟩ := Option.map_eq_some_iff.mp e2
      have hir : i < rows.length := by rw [rlp.len]; exact (List.getElem?_eq_some_iff.mp htt).1
      obtain ⟨t', ht', hrt⟩ := paired_at' rlp (List.getElem?_eq_getElem hir)
      obtain rfl : t' = t := by rw [htt] at ht'; exact (Option.some.inj ht').symm
      obtain ⟨H3', s3', h3', e3'⟩ := lay (o := .tup [.int (i : Nat), .ref t']) nT
      rw [e3']
      have hrt : H21 t' = some (.tup (sts rows[i])) := hrt
      have hk : H3' t' = some (.tup (((rows[i].map Sum.inr : List Key)).map kV)) := by rw [← sts_kV]; exact s3' _ _ (sc _ _ hrt)
      have hl := plK_len rows i
      have eg : rows.getD i [] = rows[i] := by rw [List.getD_eq_getElem?_getD, List.getElem?_eq_getElem hir]; rfl
      refine ⟨Tp, _, rfl, SqT.of h3', rfl, _, _, rfl, _, _, rfl, rfl, ?_⟩
      refine ⟨rfl, ?_⟩
      refine ⟨_, rfl, _, rfl, _, DPut.t (s3' _ _ hD) hk (by rw [sizeLine_eq]; omega), fun b o e => ?_, ?_⟩
      · rw [upd_ne (ne_of_none e nl9)]; exact s3' _ _ (sc _ _ e)
      · rw [upd_same, plK, eg]
    rintro H22 ⟨s22, hl9⟩
    refine ⟨_, rfl, x, C, dx, _, rfl, s22 _ _ (s21 _ _ (s20 _ _ h19)), cl, n9, by show 8 < 1000; decide, ?_⟩
    obtain ⟨H23, b23, h23, B23, e23⟩ : ∃ H23, (∀ b o, b ≠ x → H22 b = some o → H23 b = some o) ∧ H23 x = some (.ins C dx (putF "places" (.ref l9) (putF "known_ends" (.ref l8) (putF "commutes" (.ref l7) (putF "moving" (.ref l6) (putF "_commuting" (.ref l5) (putF "_fixed" (.ref l4) (putF "_order" (.ref l3) (putF "_letters" (.ref l2) (putF "_facts" (.ref l1) [])))))))))) ∧ Bt [x] H22 H23 ∧ upd H22 x (.ins C dx (putF "places" (.ref l9) (putF "known_ends" (.ref l8) (putF "commutes" (.ref l7) (putF "moving" (.ref l6) (putF "_commuting" (.ref l5) (putF "_fixed" (.ref l4) (putF "_order" (.ref l3) (putF "_letters" (.ref l2) (putF "_facts" (.ref l1) [])))))))))) = H23 := ⟨_, fun b o z e => by rw [upd_ne z]; exact e, upd_same, bt_upd (by simp), rfl⟩
    rw [e23]
    have B1723 : Bt [x] H17 H23 := (bt_of s18).trans (B19.trans ((bt_of ((s20.trans s21).trans s22)).trans B23))
    have h17l := bt_at ((B913.trans ((bt_of s14).trans (B15.trans ((bt_of s16).trans B17)))).trans B1723) (ni1 x2) h9l
    refine q H23 ((bt_of S4).trans (B417.trans B1723)) ⟨dx, _, l2, h23, ?_, h17l, ?_⟩
    · exact (by rw [lookup_putF, if_neg (by decide +kernel), lookup_putF, if_neg (by decide +kernel), lookup_putF, if_neg (by decide +kernel), lookup_putF, if_neg (by decide +kernel), lookup_putF, if_neg (by decide +kernel), lookup_putF, if_neg (by decide +kernel), lookup_putF, if_neg (by decide +kernel), lookup_putF, if_pos rfl] : (putF "places" (.ref l9) (putF "known_ends" (.ref l8) (putF "commutes" (.ref l7) (putF "moving" (.ref l6) (putF "_commuting" (.ref l5) (putF "_fixed" (.ref l4) (putF "_order" (.ref l3) (putF "_letters" (.ref l2) (putF "_facts" (.ref l1) []))))))))).lookup ("_letters" : Str) = some (.ref l2))
    · exact (by rw [lookup_putF, if_neg (by decide +kernel), lookup_putF, if_neg (by decide +kernel), lookup_putF, if_neg (by decide +kernel), lookup_putF, if_neg (by decide +kernel), lookup_putF, if_neg (by decide +kernel), lookup_putF, if_neg (by decide +kernel), lookup_putF, if_neg (by decide +kernel), lookup_putF, if_neg (by decide +kernel), lookup_putF, if_neg (by decide +kernel)]; rfl : (putF "places" (.ref l9) (putF "known_ends" (.ref l8) (putF "commutes" (.ref l7) (putF "moving" (.ref l6) (putF "_commuting" (.ref l5) (putF "_fixed" (.ref l4) (putF "_order" (.ref l3) (putF "_letters" (.ref l2) (putF "_facts" (.ref l1) []))))))))).lookup ("parts_of" : Str) = none)
theorem ok_made {f fI : Addr} {fd fdI : FuncData} (F : Fun K "_law_made" "_law_made" sMade f fd) (MK : Mk K C fI) (FI : FnOk P w K mg base CX0 5 fI fdI ["self", "letters", "fixed", "commuting", "facts"] (spGI C)) (bI : Binds K fdI ["self", "letters", "fixed", "commuting", "facts"] []) (gC : mg "Ground" = some (.ref C)) :
    FnOk P w K mg base CX0 7 f fd ["_law_g"] (spMade C) := by
  refine F.ok scMade (fun vs H Q E h => ?_) (fun cdv A outer s H vs Q E hr h => ?_)
  · obtain ⟨g, gd, rfl, _⟩ := h
    rfl
  · obtain ⟨g, gd, rfl, hG, wf, q⟩ := h
    refine ⟨_, pss_one (ps_ret (pe_make MK FI hr rfl gC bI .nil pass0 (pa_cons (pe_dget (hu_of hr) (pv 0) (pe_str) (fun _ _ => rfl)) (pa_cons (pe_dget (hu_of hr) (pv 0) (pe_str) (fun _ _ => rfl)) (pa_cons (pe_dget (hu_of hr) (pv 0) (pe_str) (fun _ _ => rfl)) (pa_cons (pe_dget (hu_of hr) (pv 0) (pe_str) (fun _ _ => rfl)) (pa_nil))))))), ?_⟩
    obtain ⟨aL, aF, aC, aT, g1, g2, g3, g4, g5⟩ := hG.ex
    have v1 : valV [(.inr "letters", .ref aL), (.inr "fixed", .ref aF), (.inr "commuting", .ref aC), (.inr "facts", .ref aT)] (.inr "letters" : Key) = some (.ref aL) := by rfl
    have v2 : valV [(.inr "letters", .ref aL), (.inr "fixed", .ref aF), (.inr "commuting", .ref aC), (.inr "facts", .ref aT)] (.inr "fixed" : Key) = some (.ref aF) := by rfl
    have v3 : valV [(.inr "letters", .ref aL), (.inr "fixed", .ref aF), (.inr "commuting", .ref aC), (.inr "facts", .ref aT)] (.inr "commuting" : Key) = some (.ref aC) := by rfl
    have v4 : valV [(.inr "letters", .ref aL), (.inr "fixed", .ref aF), (.inr "commuting", .ref aC), (.inr "facts", .ref aT)] (.inr "facts" : Key) = some (.ref aT) := by rfl
    refine ⟨_, rfl, g, .ref aL, rfl, (by rw [← v1]; exact DGet.k (k := .inr "letters") g1), _, rfl, g, .ref aF, rfl, (by rw [← v2]; exact DGet.k (k := .inr "fixed") g1), _, rfl, g, .ref aC, rfl, (by rw [← v3]; exact DGet.k (k := .inr "commuting") g1), _, rfl, g, .ref aT, rfl, (by rw [← v4]; exact DGet.k (k := .inr "facts") g1), fun x dx nx ndx nex => ?_⟩
    have s0 : Same H (upd (upd H dx (.own x)) x (.ins C dx [])) := fun b o e => by
      rw [upd_ne (ne_of_none e nx), upd_ne (ne_of_none e ndx)]
      exact e
    have sx : Same H (hid [x] (upd (upd H dx (.own x)) x (.ins C dx []))) := same_hid_new nx s0
    refine ⟨x, dx, aL, aF, aC, aT, gd, rfl, upd_same, s0 _ _ g2, s0 _ _ g3, s0 _ _ g4, g5.mono sx, wf, fun H' B' gr => ⟨rfl, q x H' nx ((sx.trans B').trans (hid_low _ _)) gr⟩⟩
end
end K27
set_option Elab.async false
set_option linter.all false
set_option maxRecDepth 100000
set_option maxHeartbeats 4000000
/-! Two tuples of the very same things. -/
namespace GB
open PySem PySem.Spec L2 PyProof.Rows PySem.SeqAt
def simpV : V → Bool
  | .non => true
  | .bl _ => true
  | .int _ => true
  | .str _ => true
  | .ref _ => true
  | _ => false
theorem simp_eq {A : Around} {s : Shared} {v : V} {u u' : Value} (h : simpV v = true) (r : RelV v u) (r' : RelV v u') : EqAt A s u u' true := by
  cases v with
  | non => cases (show u = Value.none from r); cases (show u' = Value.none from r'); exact .same _
  | bl b => cases (show u = Value.bool b from r); cases (show u' = Value.bool b from r'); exact .same _
  | int i =>
    obtain ⟨t, rfl⟩ := (show ∃ t, u = Value.int i t from r)
    obtain ⟨t', rfl⟩ := (show ∃ t, u' = Value.int i t from r')
    have := EqAt.int_int (A := A) (s := s) i t i t'
    rwa [beq_self_eq_true] at this
  | str x =>
    obtain ⟨t, rfl⟩ := (show ∃ t, u = Value.str x t from r)
    obtain ⟨t', rfl⟩ := (show ∃ t, u' = Value.str x t from r')
    have := EqAt.str_str (A := A) (s := s) x t x t'
    rwa [beq_self_eq_true] at this
  | ref a => cases (show u = Value.ref a from r); cases (show u' = Value.ref a from r'); exact .same _
  | _ => cases h
theorem vals_idx : ∀ {xs : List V} {us : List Value}, Vals xs us → ∀ j (h : j < us.length), ∃ v, xs[j]? = some v ∧ RelV v us[j]
  | _, _, .cons r _, 0, _ => ⟨_, rfl, r⟩
  | _, _, .cons _ t, j + 1, h => vals_idx t j (by simpa using h)
def rNeI : R2 := fun x y H Q => ∃ p q xs, x = .ref p ∧ y = .ref q ∧ H p = some (.tup xs) ∧ H q = some (.tup xs) ∧ (∀ v ∈ xs, simpV v = true) ∧ Q (.bl false) H
theorem op_neI {X : Cx} (hu : X.A.units < cLine) : OpR X (compareOp .NotEq) rNeI := by
  intro pins s σ H x y v u Q I rx ry h
  obtain ⟨p, q, xs, rfl, rfl, hp, hq, hs, k⟩ := h
  cases rx
  cases ry
  obtain ⟨_, its, r1, t1⟩ := (show ObjOk X.prog X.w H s.heap p (.tup xs) from I.hok p _ hp)
  obtain ⟨_, its2, r2, t2⟩ := (show ObjOk X.prog X.w H s.heap q (.tup xs) from I.hok q _ hq)
  have e := RcNeAt.tuples (e := fun _ => true) t1 t2 hu fun j h1 h2 => by
    obtain ⟨v1, e1, q1⟩ := vals_idx r1 j (by simpa using h1)
    obtain ⟨v2, e2, q2⟩ := vals_idx r2 j (by simpa using h2)
    rw [e1] at e2
    obtain rfl := Option.some.inj e2
    exact simp_eq (hs _ (List.mem_of_getElem? e1)) (by simpa using q1) (by simpa using q2)
  have hsz : its.toArray.size = its2.toArray.size := by simp [← r1.length, ← r2.length]
  refine e X.prog X.w X.xe _ ?_
  have eb : (!((List.range (min its.toArray.size its2.toArray.size)).all (fun _ => true) && its.toArray.size == its2.toArray.size)) = false := by
    rw [hsz]; simp
  first
    | (rw [eb]; exact ⟨.bl false, H, I, rfl, k⟩)
    | (show EP X pins σ Q (.bool _) s; rw [eb]; exact ⟨.bl false, H, I, rfl, k⟩)
end GB
set_option Elab.async false
set_option linter.all false
set_option maxRecDepth 100000
set_option maxHeartbeats 4000000
/-! A ground's terms can be laid: their texts are plain, they are not deep. -/
namespace GB
open PySem PySem.Spec L2
theorem name_ok {z : Str} (h : nameB z = true) : PyData.strOk z = true := by
  unfold nameB at h
  have h2 := (Bool.and_eq_true_iff.mp h).2
  unfold PyData.strOk
  rw [Array.all_eq_true]
  intro i hi
  have hm : z.cps[i] ∈ z.cps.toList := Array.getElem_mem_toList hi
  have hs := List.all_eq_true.mp h2 _ hm
  unfold signB at hs
  have h3 := (Bool.and_eq_true_iff.mp hs).2
  have h4 : ¬ ([122] < [z.cps[i]]) := by
    intro hlt
    rw [decide_eq_true hlt] at h3
    cases h3
  have h5 : ¬ (122 < z.cps[i]) := fun hlt => h4 (List.Lex.rel hlt)
  exact decide_eq_true (by omega)
theorem ds_lay : ∀ {ds : List PyData} {m : Nat}, (∀ (i : Nat) d, ds[i]? = some d → PyData.canLay0 d = true ∧ PyData.depth d ≤ m) → PyData.canLayAll0 ds = true ∧ PyData.depthAll ds ≤ m
  | [], m, _ => ⟨rfl, Nat.zero_le _⟩
  | d :: r, m, h => by
    obtain ⟨a1, a2⟩ := h 0 d rfl
    obtain ⟨b1, b2⟩ := ds_lay (ds := r) (m := m) fun i e he => h (i + 1) e he
    refine ⟨?_, ?_⟩
    · show (PyData.canLay0 d && PyData.canLayAll0 r) = true
      rw [a1, b1]; rfl
    · show max (PyData.depth d) (PyData.depthAll r) ≤ m
      omega
theorem tm_lay {L : List (Str × Nat)} (hL : ∀ q ∈ L, PyData.strOk q.1 = true) {ns : List Str} {t : Tm} (h : TmOk L ns t) : PyData.canLay0 t.d = true ∧ PyData.depth t.d ≤ 2 * t.size := by
  induction h with
  | @mk ns w n ks hH hK ih =>
    have hks : PyData.canLayAll0 (ks.map Tm.d) = true ∧ PyData.depthAll (ks.map Tm.d) ≤ 2 * Tm.sizes ks := ds_lay fun i d hd => by
      rw [List.getElem?_map] at hd
      cases e : ks[i]? with
      | none => rw [e] at hd; cases hd
      | some k =>
        rw [e] at hd
        obtain rfl := Option.some.inj hd
        obtain ⟨a1, a2⟩ := ih i k e
        have := sizes_mem (List.mem_of_getElem? e)
        exact ⟨a1, by omega⟩
    obtain ⟨k1, k2⟩ := hks
    have hn : PyData.strOk n = true := by
      clear hK ih k1 k2
      generalize ks.length = m at hH
      cases hH with
      | val h => exact name_ok h
      | fail h => exact name_ok h
      | name h _ => exact name_ok h
      | use h => exact hL _ h
      | bind h _ => exact name_ok h
      | op h => decide +kernel
    have hw : PyData.strOk w = true := by
      clear hK ih k1 k2
      generalize ks.length = m at hH
      cases hH with
      | op h => exact (show ∀ q ∈ opsW, PyData.strOk q.1 = true by decide +kernel) _ h
      | _ => decide +kernel
    rw [d_node, Tm.size]
    unfold nodeT
    have cs : ∀ x : Str, PyData.canLay0 (.str x) = PyData.strOk x := fun x => by rw [PyData.canLay0]
    have ct : ∀ l : List PyData, PyData.canLay0 (.tuple l) = PyData.canLayAll0 l := fun l => by rw [PyData.canLay0]
    have cc : ∀ (d : PyData) (l : List PyData), PyData.canLayAll0 (d :: l) = (PyData.canLay0 d && PyData.canLayAll0 l) := fun d l => rfl
    have cn : PyData.canLayAll0 [] = true := rfl
    have es : ∀ x : Str, PyData.depth (.str x) = 0 := fun x => by rw [PyData.depth]
    have et : ∀ l : List PyData, PyData.depth (.tuple l) = PyData.depthAll l + 1 := fun l => by rw [PyData.depth]
    have ec : ∀ (d : PyData) (l : List PyData), PyData.depthAll (d :: l) = max (PyData.depth d) (PyData.depthAll l) := fun d l => rfl
    have en : PyData.depthAll [] = 0 := rfl
    split
    · simp only [cs, ct, cc, cn, es, et, ec, en, hn, hw, k1, Bool.and_self, true_and]
      omega
    · split
      · simp only [cs, ct, cc, cn, es, et, ec, en, hn, hw, k1, Bool.and_self, true_and]
        omega
      · split
        · simp only [cs, ct, cc, cn, es, et, ec, en, hn, hw, k1, Bool.and_self, true_and]
          omega
        · simp only [cs, ct, cc, cn, es, et, ec, en, hn, hw, Bool.and_self, true_and]
          omega
theorem tm_shaped {L : List (Str × Nat)} (hL : ∀ q ∈ L, PyData.strOk q.1 = true) {ns : List Str} {t : Tm} (h : TmOk L ns t) (hs : t.size ≤ 32) : SeqAt.shaped t.d = true := by
  obtain ⟨h1, h2⟩ := tm_lay hL h
  unfold SeqAt.shaped
  rw [h1, decide_eq_true (by omega)]
  rfl
end GB
set_option Elab.async false
set_option linter.all false
set_option autoImplicit false
set_option maxRecDepth 100000
set_option maxHeartbeats 4000000
/-! Unlike terms have unlike data and unlike texts. -/
namespace GB
open PySem PySem.Spec L2
mutual
def strO : PyData → Bool
  | .str _ => true
  | .tuple ds => strOs ds
  | _ => false
def strOs : List PyData → Bool
  | [] => true
  | d :: r => strO d && strOs r
end
mutual
theorem strO_d : ∀ t : Tm, strO t.d = true
  | .mk w n ks => by
    have h := strO_ds ks
    rw [Tm.d]
    split
    · simp [strO, strOs, h]
    · split
      · simp [strO, strOs, h]
      · split
        · simp [strO, strOs, h]
        · simp [strO, strOs]
theorem strO_ds : ∀ ks : List Tm, strOs (Tm.ds ks) = true
  | [] => rfl
  | k :: r => by rw [Tm.ds, strOs, strO_d k, strO_ds r]; rfl
end
mutual
theorem eqv_str : ∀ d e : PyData, strO d = true → strO e = true → PyData.eqv d e = true → d = e
  | .str a, .str b, _, _, h => by
    simp [PyData.eqv] at h
    rw [h]
  | .tuple xs, .tuple ys, h1, h2, h => by
    rw [strO] at h1 h2
    simp only [PyData.eqv] at h
    rw [eqv_strs xs ys h1 h2 h]
  | .str a, .tuple ys, _, _, h => by simp [PyData.eqv] at h
  | .tuple xs, .str b, _, _, h => by simp [PyData.eqv] at h
theorem eqv_strs : ∀ xs ys : List PyData, strOs xs = true → strOs ys = true → PyData.eqvAll xs ys = true → xs = ys
  | [], [], _, _, _ => rfl
  | x :: xs, y :: ys, h1, h2, h => by
    rw [strOs] at h1 h2
    obtain ⟨a1, a2⟩ := Bool.and_eq_true_iff.mp h1
    obtain ⟨b1, b2⟩ := Bool.and_eq_true_iff.mp h2
    simp only [PyData.eqvAll] at h
    obtain ⟨c1, c2⟩ := Bool.and_eq_true_iff.mp h
    rw [eqv_str x y a1 b1 c1, eqv_strs xs ys a2 b2 c2]
  | [], y :: ys, _, _, h => by simp [PyData.eqvAll] at h
  | x :: xs, [], _, _, h => by simp [PyData.eqvAll] at h
end
end GB
namespace GB
open PySem PySem.Spec L2
theorem tmOk_kids {L : List (Str × Nat)} {ns : List Str} {w n : Str} {ks : List Tm} (h : TmOk L ns (.mk w n ks)) : HeadOk L ns w n ks.length ∧ ∀ k ∈ ks, ∃ ns, TmOk L ns k := by
  cases h with
  | mk hH hK =>
    refine ⟨hH, fun k hk => ?_⟩
    obtain ⟨i, hi⟩ := List.mem_iff_getElem?.mp hk
    exact ⟨_, hK i k hi⟩
theorem head_leaf {L : List (Str × Nat)} {ns : List Str} {w n : Str} {m : Nat} (h : HeadOk L ns w n m) (h1 : w ≠ "use") (h2 : w ≠ "bind") (h3 : w ∉ opsW.map (·.1)) : m = 0 := by
  cases h with
  | val _ => rfl
  | fail _ => rfl
  | name _ _ => rfl
  | use _ => exact absurd rfl h1
  | bind _ _ => exact absurd rfl h2
  | op h => exact absurd (List.mem_map.mpr ⟨_, h, rfl⟩) h3
theorem head_op {L : List (Str × Nat)} {ns : List Str} {w n : Str} {m : Nat} (h : HeadOk L ns w n m) (h3 : w ∈ opsW.map (·.1)) : n = "" := by
  obtain ⟨⟨w', m'⟩, hm, rfl⟩ := List.mem_map.mp h3
  exact (K27.headOp h hm).2
theorem d_inj {L : List (Str × Nat)} : ∀ (z : Nat) {t t' : Tm} {ns ns' : List Str}, t.size ≤ z → TmOk L ns t → TmOk L ns' t' → t.d = t'.d → t = t' := by
  intro z
  induction z with
  | zero =>
    intro t t' ns ns' hz
    exact absurd hz (by have := size_pos t; omega)
  | succ z ih =>
    intro t t' ns ns' hz h h' e
    have lists : ∀ (ks ks' : List Tm), Tm.sizes ks ≤ z → (∀ k ∈ ks, ∃ ns, TmOk L ns k) → (∀ k ∈ ks', ∃ ns, TmOk L ns k) → Tm.ds ks = Tm.ds ks' → ks = ks' := by
      intro ks
      induction ks with
      | nil =>
        intro ks' _ _ _ e
        cases ks' with
        | nil => rfl
        | cons a b => rw [Tm.ds, Tm.ds] at e; cases e
      | cons k r ihr =>
        intro ks' hz hk hk' e
        cases ks' with
        | nil => rw [Tm.ds, Tm.ds] at e; cases e
        | cons a b =>
          rw [Tm.ds, Tm.ds] at e
          rw [Tm.sizes] at hz
          obtain ⟨ns, o⟩ := hk k List.mem_cons_self
          obtain ⟨ns', o'⟩ := hk' a List.mem_cons_self
          have e1 := ih (by omega) o o' (List.cons.inj e).1
          have e2 := ihr b (by omega) (fun x hx => hk x (List.mem_cons_of_mem _ hx)) (fun x hx => hk' x (List.mem_cons_of_mem _ hx)) (List.cons.inj e).2
          rw [e1, e2]
    cases t with
    | mk w n ks => cases t' with
      | mk w' n' ks' =>
      obtain ⟨hH, hK⟩ := tmOk_kids h
      obtain ⟨hH', hK'⟩ := tmOk_kids h'
      rw [Tm.size] at hz
      have hw : w = w' := by
        have hd : ∀ (w n : Str) (ks : List Tm), ∃ r, (Tm.mk w n ks).d = .tuple (.str w :: r) := fun w n ks => by
          rw [Tm.d]
          split
          · rename_i e; rw [e]; exact ⟨_, rfl⟩
          · split
            · rename_i e; rw [e]; exact ⟨_, rfl⟩
            · split
              · exact ⟨_, rfl⟩
              · exact ⟨_, rfl⟩
        obtain ⟨r, e1⟩ := hd w n ks
        obtain ⟨r', e2⟩ := hd w' n' ks'
        rw [e1, e2] at e
        exact PyData.str.inj (List.cons.inj (PyData.tuple.inj e)).1
      subst hw
      rw [Tm.d, Tm.d] at e
      by_cases h1 : w = "use"
      · rw [if_pos h1, if_pos h1] at e
        have e := (List.cons.inj (PyData.tuple.inj e)).2
        have en := PyData.str.inj (List.cons.inj e).1
        have ek := PyData.tuple.inj (List.cons.inj (List.cons.inj e).2).1
        rw [en, lists ks ks' (by omega) hK hK' ek]
      · rw [if_neg h1, if_neg h1] at e
        by_cases h2 : w = "bind"
        · rw [if_pos h2, if_pos h2] at e
          have e := (List.cons.inj (PyData.tuple.inj e)).2
          have en := PyData.str.inj (List.cons.inj e).1
          rw [en, lists ks ks' (by omega) hK hK' (List.cons.inj e).2]
        · rw [if_neg h2, if_neg h2] at e
          by_cases h3 : w ∈ opsW.map (·.1)
          · rw [if_pos h3, if_pos h3] at e
            have e := (List.cons.inj (PyData.tuple.inj e)).2
            rw [head_op hH h3, head_op hH' h3, lists ks ks' (by omega) hK hK' e]
          · rw [if_neg h3, if_neg h3] at e
            have e := (List.cons.inj (PyData.tuple.inj e)).2
            have en := PyData.str.inj (List.cons.inj e).1
            rw [en, List.eq_nil_of_length_eq_zero (head_leaf hH h1 h2 h3), List.eq_nil_of_length_eq_zero (head_leaf hH' h1 h2 h3)]
/-- what == tells of two terms, and of their texts -/
theorem eqv_tm {L : List (Str × Nat)} (hL : ∀ q ∈ L, nameB q.1 = true) {t t' : Tm} (h : TmOk L [] t) (h' : TmOk L [] t') : PyData.eqv t.d t'.d = decide (V.str (txS t) = V.str (txS t')) := by
  by_cases e : t = t'
  · subst e
    rw [decide_eq_true rfl]
    exact SeqAt.eqv_refl _ (tm_lay (fun q hq => name_ok (hL q hq)) h).1
  · rw [decide_eq_false fun z => e ?_]
    · cases hq : PyData.eqv t.d t'.d with
      | false => rfl
      | true => exact absurd (d_inj t.size (Nat.le_refl _) h h' (eqv_str _ _ (strO_d t) (strO_d t') hq)) e
    · have e2 : txL t = txL t' := by
        have := congrArg cl (V.str.inj z)
        exact this
      exact (txL_inj hL t.size (p := []) (p' := []) (Nat.le_refl _) h h' (fun c r e => nomatch e) (fun c r e => nomatch e) (by rw [e2])).1
end GB
set_option Elab.async false
set_option linter.all false
set_option autoImplicit false
set_option maxRecDepth 100000
set_option maxHeartbeats 16000000
namespace K27
open PySem PySem.Spec L2 GB
abbrev sLaw : Stmt := topS 52
def lawN : List Str := ["_law_script", "_law_turn", "_law_pool_here", "_law_g", "_law_ground_here", "_law_some", "_law_k", "_law_term_here", "_law_text_here", "_law_other"]
theorem scLaw : FnScope lawN ["_law_script"] (defScope sLaw) := ⟨rfl, rfl, rfl, by decide +kernel, rfl, by decide +kernel, by decide +kernel⟩
structure LawT (P : Program) (w : World) (K : PySem.W.Frag) (mg : Str → Option Value) (base : Heap) (C : Addr) : Prop where
  T : Bl mg
  CE : Fns P w K mg base "_law_cell" 1 ["_law_script", "_law_k"] (GB.spCell K)
  PL : Fns P w K mg base "_law_pool" 1 ["_law_grain"] spPool
  TK : Fns P w K mg base "_law_take" 1 ["_law_pool_here", "_law_many"] spTake
  GR : Fns P w K mg base "_law_ground" 3 ["_law_pool_here", "_law_most"] spGround
  WG : Fns P w K mg base "_law_word_ground" 3 ["_law_pool_here"] spWg
  MD : Fns P w K mg base "_law_made" 7 ["_law_g"] (spMade C)
  TM : Fns P w K mg base "_law_term" 16 ["_law_pool_here", "_law_g", "_law_names", "_law_left"] (spTerm K 14)
  WR : Fns P w K mg base "written" 34 ["ground", "term"] (spWr K C)
  RD : Fns P w K mg base "read" 34 ["ground", "text"] (spRd K C)
  LT : Fns P w K mg base "_law_text" 15 ["_law_term_here"] (spLt K 14)
theorem gr_hid27 {C : Addr} {ps : List Addr} {H : Hp} {G : Addr} {g : GD} (hl : ∀ p ∈ ps, ∃ xs, H p = some (.lst xs)) (h : IsGr C H G g) : IsGr C (hid ps H) G g := by
  obtain ⟨dx, fs, aL, h1, h2, h3, h4⟩ := h.ex
  have ni : ∀ {a : Addr} {o : HO}, H a = some o → (∀ ys, o ≠ .lst ys) → a ∉ ps := fun e n m => by
    obtain ⟨ys, e2⟩ := hl _ m
    rw [e] at e2
    exact n ys (Option.some.inj e2)
  exact ⟨dx, fs, aL, hid_to (ni h1 fun ys z => nomatch z) h1, h2, hid_to (ni h3 fun ys z => nomatch z) h3, h4⟩
section
variable {P : Program} {w : World} {K : PySem.W.Frag} {mg : Str → Option Value} {base : Heap} {C f a : Addr} {cdv : Value}
/-- the law's loop: none of its turns tells False -/
theorem ok_loop {s : Shared} {H : Hp} {ns : List Int} (Z : LawT P w K mg base C) (hr : Room 45 (callerA.deeper (PyProof.Rows.envOfC "law" (defScope sLaw) s.heap.objs.size f cdv))) (hS : SqL K H a (ns.map V.int)) :
    ∃ t, PS (cxOf CX0 P w K mg base lawN "law" (defScope sLaw) f cdv callerA [] s H (fun _ _ _ => False)).nox ((defBody sLaw).getD 0 (.Pass ⟨0, 0, 0, 0⟩)) t ∧ ∀ D : Ends, (∀ σ H', SqL K H' a (ns.map V.int) → D.nx σ H') → t D (L2.start lawN [.ref a]) H := by
  obtain ⟨T, CE, PL, TK, GR, WG, MD, TM, WR, RD, LT⟩ := Z
  refine ⟨_, ps_for PassesOwn.never rfl (pi_range1 rfl T.range (pa_cons pe_int pa_nil)) (pg_name (i := 1) scLaw.nd rfl (.inl rfl)) (pss_cons (ps_set (i := 2) scLaw.nd rfl (.inl rfl) (pe_fn PL hr (by decide) rfl (pa_cons (pe_op op_add (pe_fn CE hr (by decide) rfl (pa_cons (pv 0) (pa_cons (pv 1) (pa_nil)))) (pv 1)) (pa_nil)))) (pss_cons (ps_set (i := 3) scLaw.nd rfl (.inl rfl) (pe_ifExp (pt_cmpR op_eq (pe_fn TK hr (by decide) rfl (pa_cons (pv 2) (pa_cons (pe_int) (pa_nil)))) (pe_int) (nomark _)) (pe_fn WG hr (by decide) rfl (pa_cons (pv 2) (pa_nil))) (pe_fn GR hr (by decide) rfl (pa_cons (pv 2) (pa_cons (pe_int) (pa_nil)))))) (pss_cons (ps_par (i := 4) (j := 5) rfl scLaw.nd rfl rfl (by decide) rfl rfl (pa_cons (pe_fn MD hr (by decide) rfl (pa_cons (pv 3) (pa_nil))) (pa_cons (pe_lst pa_nil) (pa_nil))) (by rfl)) (pss_one (ps_for PassesOwn.never rfl (pi_range1 rfl T.range (pa_cons pe_int pa_nil)) (pg_name (i := 6) scLaw.nd rfl (.inl rfl)) (pss_cons (ps_set (i := 7) scLaw.nd rfl (.inr rfl) (pe_fn TM hr (by decide) rfl (pa_cons (pv 2) (pa_cons (pv 3) (pa_cons (pe_tup pa_nil) (pa_cons (pe_lst (pa_cons (pe_fn TK hr (by decide) rfl (pa_cons (pv 2) (pa_cons (pe_int) (pa_nil)))) (pa_cons (pe_int) (pa_nil)))) (pa_nil))))))) (pss_cons (ps_set (i := 8) scLaw.nd rfl (.inr rfl) (pe_fn WR hr (by decide) rfl (pa_cons (pv 4) (pa_cons (pv 7) (pa_nil))))) (pss_cons (ps_if (PW.pt (pw_or (pt_cmpR op_ne (pv 8) (pe_fn LT hr (by decide) rfl (pa_cons (pv 7) (pa_nil))) (nomark _)) (pw_or (pt_cmpR (op_neD hr.units) (pe_fn RD hr (by decide) rfl (pa_cons (pv 4) (pa_cons (pv 8) (pa_nil)))) (pv 7) (nomark _)) (pw_or1 (pt_cmpR op_ne (pe_fn WR hr (by decide) rfl (pa_cons (pv 4) (pa_cons (pe_fn RD hr (by decide) rfl (pa_cons (pv 4) (pa_cons (pv 8) (pa_nil)))) (pa_nil)))) (pv 8) (nomark _)))))) (pss_one (ps_ret pe_bl)) pss_nil) (pss_cons (ps_if (pt_val (pe_callB (cr_any rfl) (by rfl) T.any (by decide +kernel) (pa_cons (pe_lc (own := [("_law_other", 9)]) (g := gName 9) (tt := tYes) rfl scLaw.nd (pi_seqW (pv 5)) (blkOk_by (own := [("_law_other", 9)]) (N := lawN) (sc := defScope sLaw) (by decide +kernel)) (fun _ _ _ _ _ => pg_name (i := 9) scLaw.nd rfl (.inl rfl)) (fun _ _ _ _ _ => pts_nil) (fun _ _ _ _ _ => pe_cmpR op_ne (pe_cmpR (r := rEqD K) (op_eqD hr.units) (pv 7) (pv 9) (nomark _)) (pe_cmpR op_eq (pv 8) (pe_fn LT hr (by decide) rfl (pa_cons (pv 9) (pa_nil))) (nomark _)) (nomark _))) pa_nil))) (pss_one (ps_ret pe_bl)) pss_nil) (pss_one (ps_expr (pe_bm PySem.F.plainAttrs_list PySem.F.slot_list_append PySem.F.type_list_append mt_append (pv 5) (pa_cons (pv 7) pa_nil))))))))))))), fun D hD => ?_⟩
  refine ⟨8, rfl, by decide, by decide, for_range (lo := 0) (n := 8) (fun i σ H' => ∃ o1 o2 o3 o4 o5 o6 o7 o8 o9, σ = [some (.ref a), o1, o2, o3, o4, o5, o6, o7, o8, o9] ∧ SqL K H' a (ns.map V.int)) ⟨none, none, none, none, none, none, none, none, none, rfl, hS⟩ ?turn ?done⟩
  case done =>
    rintro σ H' ⟨o1, o2, o3, o4, o5, o6, o7, o8, o9, rfl, h⟩
    exact hD _ H' h
  rintro i σ H1 hi ⟨o1, o2, o3, o4, o5, o6, o7, o8, o9, rfl, hS1⟩
  refine ⟨_, rfl, _, rfl, a, ns, i, (by rw [Int.zero_add]; rfl), hS1, fun z0 => ⟨_, rfl, _, _, rfl, rfl, _, rfl, fun p H2 np s2 P2 => ?_⟩⟩
  refine ⟨_, rfl, p, 2, 0, rfl, by decide, by decide, by decide, P2, fun r H2' hr2 B2 P2' => ?_⟩
  refine ⟨rfl, _, rfl, ?_⟩
  rw [decI]
  -- the ground, either way
  obtain ⟨G1, hG1⟩ : ∃ G1 : Prop, G1 = True := ⟨_, rfl⟩
  by_cases c : (r : Int) = 0
  focus
    rw [decide_eq_true c]
    refine iteT ?_
    refine ⟨_, rfl, p, 1, rfl, by decide, P2', fun g gd H3 B3 hG3 wf P3 => ?_⟩
    have P3 : PoolIs H3 p 501 := P3.mono (Same.refl _) (by decide)
  rotate_left
  focus
    rw [decide_eq_false c]
    refine iteF ?_
    refine ⟨_, rfl, p, 5, 1, rfl, by decide, by decide, by decide, P2', fun g gd H3 B3 hG3 wf P3 => ?_⟩
    have P3 : PoolIs H3 p 501 := P3.mono (Same.refl _) (by decide)
  all_goals
    refine ⟨_, rfl, g, gd, rfl, hG3.mono (hid_low _ _), wf, fun G H4 nG s4 gr4 => ?_⟩
    refine ⟨by show 0 ≤ sizeLine; decide, fun D nD => ?_⟩
    obtain ⟨H5, s5, hD5, e5⟩ := lay (o := .lst []) nD
    rw [e5]
    refine ⟨_, _, rfl, ?_⟩
    have P5 := P3.mono (s4.trans s5) (Nat.le_refl _)
    have Dp1 : D ≠ p := (P3.mono s4 (Nat.le_refl _)).ne nD
    have toD : ∀ b o, hid [p] H4 b = some o → hid [p, D] H5 b = some o := fun b o h => by
      obtain ⟨h1, m⟩ := hid_in h
      exact hid_to (by simp only [List.mem_cons, List.not_mem_nil, or_false] at m ⊢; exact fun z => z.elim m (ne_of_none h1 nD)) (s5 _ _ h1)
    have BG : IsG (hid [p, D] H5) g gd := (hG3.mono (hid_same s4)).mono toD
    have BR : IsGr C (hid [p, D] H5) G gd := (gr_hid27 (fun q hq => by rw [List.mem_singleton.mp hq]; obtain ⟨x, y, z, e, _⟩ := P3.mono s4 (Nat.le_refl _); exact ⟨_, e⟩) gr4).mono toD
    have BA : SqL K (hid [p, D] H5) a (ns.map V.int) := Same.seq (fun b o h => by
      have bp : b ≠ p := ne_of_none h np
      exact toD _ _ (hid_to (ni1 bp) (s4 _ _ (bt_at B3 (ni1 bp) (bt_at B2 (ni1 bp) (s2 _ _ h)))))) hS1
    have nA := wf.nm
    have nL := nmA_name nA
    have okL : ∀ q ∈ gd.letters, PyData.strOk q.1 = true := fun q hq => name_ok (nL q hq)
    clear hG3 gr4 B3 B2 s2 hS1 P2 P2' P3 s4 toD
    refine ⟨5, rfl, by decide, by decide, for_range (lo := 0) (n := 5) (fun j σ H' => ∃ o6 o7 o8 o9, σ = [some (.ref a), some (.int (0 + (i : Int))), some (.ref p), some (.ref g), some (.ref G), some (.ref D), o6, o7, o8, o9] ∧ Bt [p, D] H5 H' ∧ (∃ m, m ≤ 600 + 100 * j ∧ PoolIs H' p m) ∧ ∃ xs ts, H' D = some (.lst xs) ∧ xs.length = j ∧ DpAll K (hid [p, D] H') xs (ts.map GB.Tm.d) ∧ ∀ t ∈ ts, TmOk gd.letters [] t ∧ t.size ≤ 14) ⟨_, _, _, _, rfl, Same.refl _, ⟨_, by omega, P5⟩, [], [], hD5, rfl, .nil, (fun t h => nomatch h)⟩ ?_ ?_⟩
    rotate_left
    focus
      rintro σ Ha ⟨p6, p7, p8, p9, rfl, Ba, _⟩
      exact ⟨_, _, _, _, _, _, _, _, _, rfl, Same.seq (Ba.trans (hid_low _ _)) BA⟩
    rintro j σ J0 hj ⟨p6, p7, p8, p9, rfl, B0, ⟨m0, hm0, P0⟩, xs, ts, hD0, hxl, hxs, hts⟩
    refine ⟨_, rfl, _, rfl, by show 0 ≤ sizeLine; decide, fun e ne => ?_⟩
    obtain ⟨J1, s1, h1, q1⟩ := lay (o := .tup []) ne
    rw [q1]
    have P1 := P0.mono s1 (Nat.le_refl _)
    refine ⟨_, rfl, p, 12, m0, rfl, by decide, by decide, by omega, P1, fun r12 J2 hr12 b12 P2 => ?_⟩
    have hr12 : r12 < 12 := by have := hr12; omega
    refine ⟨by show 2 ≤ sizeLine; decide, fun l nl => ?_⟩
    obtain ⟨J3, s3, h3, q3⟩ := lay (o := .lst [.int (r12 : Int), .int 5]) nl
    rw [q3]
    have P3 := P2.mono s3 (Nat.le_refl _)
    have lp : l ≠ p := P2.ne nl
    have hD2 := bt_at b12 (ni1 Dp1) (s1 _ _ hD0)
    have Dl : D ≠ l := fun z => by rw [← z, hD2] at nl; cases nl
    have hG2 : IsG (hid [p, l] J3) g gd := (BG.mono B0).mono fun b' o' e' => by
      obtain ⟨e1, m1⟩ := hid_in e'
      have bp : b' ≠ p := fun z => m1 (by simp [z])
      have e2 := bt_at b12 (ni1 bp) (s1 _ _ e1)
      exact hid_to (by simp [bp, ne_of_none e2 nl]) (s3 _ _ e2)
    have e1x : e ≠ p := fun z => by rw [z] at ne; obtain ⟨x, y, z', ez, _⟩ := P0; rw [ez] at ne; cases ne
    refine ⟨p, g, e, l, gd, [], r12, 5, m0 + 1, rfl, hG2, wf, SqT.of (s3 _ _ (bt_at b12 (ni1 e1x) h1)), (fun m h => nomatch h), by decide, lp.symm, h3, by omega, by decide, P3, by omega, fun v t x1 u1 J4 B4 hl4 hsz hok hdp P4 => ?_⟩
    have tsz : t.size ≤ 12 := by omega
    have hD4 := bt_at B4 (by simp [Dp1, Dl]) (s3 _ _ hD2)
    have B04 : Bt [p, D] J0 J4 := fun b' o' h => by
      obtain ⟨e1, m⟩ := hid_in h
      have bp : b' ≠ p := fun z => m (by simp [z])
      have e2 := bt_at b12 (ni1 bp) (s1 _ _ e1)
      exact hid_to m (bt_at B4 (by simp [bp, ne_of_none e2 nl]) (s3 _ _ e2))
    have B4' : Bt [p, D] H5 J4 := B0.trans B04
    have lists4 : ∀ q ∈ [p, D], ∃ xs, J4 q = some (.lst xs) := fun q hq => by
      simp only [List.mem_cons, List.not_mem_nil, or_false] at hq
      rcases hq with rfl | rfl
      · obtain ⟨x, y, z, e, _⟩ := P4; exact ⟨_, e⟩
      · exact ⟨_, hD4⟩
    have hv : Dp K (hid [p, D] J4) v t.d := dp_hid lists4 _ _ (tupO_d t) hdp
    have hxs4 := dps_mono B04 hxs
    have gr4 : IsGr C J4 G gd := (BR.mono B4').mono (hid_low _ _)
    have tc := (tm_lay okL hok).1
    have tsh := tm_shaped okL hok (by omega)
    clear hG2 b12 h1 h3 hl4 s1 s3 P0 P1 P2 P3 hD2 hD0 B0 B04
    refine ⟨_, rfl, _, rfl, G, v, gd, t, rfl, hdp, gr4, wf.nd, nA, hok, by omega, fun J5 s5 => ?_⟩
    refine ⟨_, rfl, _, rfl, v, gd.letters, [], t, rfl, dp_mono s5 hdp, nL, hok, by omega, by decide, fun J6 s6 => ⟨rfl, _, rfl, ?_⟩⟩
    rw [decS, decide_eq_true rfl]
    refine iteF ?_
    have S6 := s5.trans s6
    refine ⟨_, rfl, _, rfl, G, gd, t, rfl, gr4.mono S6, wf.nd, nA, wf.ar, hok, by omega, fun u J7 s7 hu => ?_⟩
    refine ⟨_, rfl, t.d, t.d, hu, dp_mono (S6.trans s7) hdp, tsh, tsh, _, rfl, ?_⟩
    rw [SeqAt.eqv_refl _ tc]
    refine iteF ?_
    have S7 := S6.trans s7
    refine ⟨_, rfl, _, rfl, _, rfl, G, gd, t, rfl, gr4.mono S7, wf.nd, nA, wf.ar, hok, by omega, fun u2 J8 s8 hu2 => ?_⟩
    refine ⟨G, u2, gd, t, rfl, hu2, gr4.mono (S7.trans s8), wf.nd, nA, hok, by omega, fun J9 s9 => ?_⟩
    refine ⟨_, rfl, rfl, _, rfl, ?_⟩
    rw [decS, decide_eq_true rfl]
    refine iteF ?_
    have S9 := (S7.trans s8).trans s9
    have hD9 := S9 _ _ hD4
    have hsq : SqA K (hid [] J9) D xs := .inl (SqL.of (hid_to (by simp) hD9))
    obtain ⟨kb, hqv⟩ := sqV hsq
    have hx9 : DpAll K J9 xs (ts.map GB.Tm.d) := dps_mono ((hid_low _ _).trans S9) hxs4
    have hv9 := dp_mono S9 hdp
    refine ⟨_, rfl, D, xs, kb, [], rfl, hqv, fun WJ0 WJ E nE => ?_⟩
    refine lc_it WJ (fun i H' => Same J9 H' ∧ H' E = some (.lst ((List.replicate i false).map V.bl))) ⟨same_new nE, upd_same⟩ (fun i H' _ h => hqv.mono (hid_same h.1)) ?_ ?_
    focus
      rintro i' y H2 H2'' hi' ⟨s2, hE⟩ ⟨rfl, hyi⟩
      refine ⟨rfl, ?_⟩
      obtain ⟨d, hdi, Dy⟩ := dps_at hx9 hyi
      rw [List.getElem?_map] at hdi
      cases hti : ts[i']? with
      | none => rw [hti] at hdi; cases hdi
      | some ti =>
      rw [hti] at hdi
      obtain rfl := Option.some.inj hdi
      obtain ⟨oi, zi⟩ := hts ti (List.mem_of_getElem? hti)
      refine ⟨_, rfl, _, rfl, t.d, ti.d, dp_mono s2 hv9, dp_mono s2 Dy, tsh, tm_shaped okL oi (by omega), ?_⟩
      refine ⟨_, rfl, _, rfl, y, gd.letters, [], ti, rfl, dp_mono s2 Dy, nL, oi, by omega, by decide, fun H3 s3 => ?_⟩
      rw [eqv_tm nL hok oi]
      refine ⟨rfl, rfl, ?_⟩
      refine ⟨_, s3 _ _ hE, by rw [List.length_map, List.length_replicate, sizeLine_eq]; omega, fun b o e => ?_, ?_⟩
      focus
        rw [upd_ne (ne_of_none e nE)]
        exact s3 _ _ (s2 _ _ e)
      rw [upd_same, List.replicate_succ', List.map_append]
      rw [show (!decide (V.bl (decide (V.str (txS t) = V.str (txS ti))) = V.bl (decide (V.str (txS t) = V.str (txS ti))))) = false from by rw [decide_eq_true rfl]; rfl]
      rfl
    focus
      rintro H3 ⟨s3, hE⟩
      refine ⟨E, _, rfl, SqL.of hE, ?_⟩
      have hF : (List.replicate xs.length false).any id = false := by simp
      rw [hF]
      refine ⟨_, rfl, ?_⟩
      refine iteF ?_
      have hD3 := s3 _ _ hD9
      have S3 : Same J4 H3 := S9.trans s3
      refine ⟨_, rfl, .inl ⟨rfl, _, SqL.of hD3⟩, _, rfl, D, xs, v, rfl, rfl, hD3, by rw [hxl, sizeLine_eq]; omega, ?_⟩
      have bu : Bt [p, D] H3 (upd H3 D (.lst (xs ++ [v]))) := bt_upd (by simp)
      have b43 : Bt [p, D] J4 H3 := bt_of S3
      obtain ⟨x, y, z, e, pr⟩ := P4.mono S3 (Nat.le_refl _)
      refine ⟨_, _, _, _, rfl, (B4'.trans b43).trans bu, ⟨m0 + 1 + 2 * t.size, by omega, x, y, z, by rw [upd_ne Dp1.symm]; exact e, pr.1, pr.2.1, pr.2.2.1, pr.2.2.2.1, by omega⟩, xs ++ [v], ts ++ [t], upd_same, by rw [List.length_append, hxl]; rfl, ?_, fun t' ht' => ?_⟩
      focus
        rw [List.map_append]
        exact dps_app (dps_mono (b43.trans bu) hxs4) (.cons (dp_mono (b43.trans bu) hv) .nil)
      rcases List.mem_append.mp ht' with h | h
      focus exact hts t' h
      rw [List.mem_singleton.mp h]
      exact ⟨hok, by omega⟩
end
end K27
set_option Elab.async false
set_option linter.all false
set_option autoImplicit false
set_option maxRecDepth 100000
set_option maxHeartbeats 8000000
namespace GB
open PySem PySem.Spec L2
theorem slTo27 {K : PySem.W.Frag} {H : Hp} {Q : VK} {p : Addr} {xs : List V} (h : SqA K H p xs) (k : Nat) (hk : k ≤ xs.length) (q : ∀ b H', Same H H' → SqA K H' b (xs.take k) → Q (.ref b) H') : rSlAny K (.ref p) none (some (k : Int)) H Q := by
  rcases h with h | h
  · refine .inl ⟨p, xs, rfl, h, fun a na => ?_⟩
    obtain ⟨H1, s1, h1, e1⟩ := lay (o := .lst (cutV xs none (some (k : Int)))) na
    rw [e1]
    exact q a H1 s1 (by rw [← cut_to _ _ hk]; exact .inl (SqL.of h1))
  · refine .inr ⟨p, xs, rfl, h, fun hw => ?_, fun _ a na => ?_⟩
    · have h0 := hw.2
      rw [HT.sIx_nat] at h0
      have e : xs.take k = xs := List.take_of_length_le (by omega)
      exact q p H (Same.refl _) (by rw [e]; exact .inr h)
    · obtain ⟨H1, s1, h1, e1⟩ := lay (o := .tup (cutV xs none (some (k : Int)))) na
      rw [e1]
      exact q a H1 s1 (by rw [← cut_to _ _ hk]; exact .inr (SqT.of h1))
end GB
namespace K27
open PySem PySem.Spec L2 GB
def spCkF2 (K : PySem.W.Frag) : Sp := fun vs H Q _ => ∃ (a b : Addr) (ls : List (Str × Nat)) (fx : List Str), vs = [.ref a, .ref b] ∧ H a = some (.dK (lkv ls)) ∧ (ls.map (·.1)).Nodup ∧ SqA K H b (sts fx) ∧ fx.Sublist (ls.map (·.1)) ∧ ∀ H', Same H H' → Q .non H'
def spCkC2 (K : PySem.W.Frag) : Sp := fun vs H Q _ => ∃ (a b c : Addr) (ls : List (Str × Nat)) (fx cm : List Str), vs = [.ref a, .ref b, .ref c] ∧ H a = some (.dK (lkv ls)) ∧ (ls.map (·.1)).Nodup ∧ SqA K H b (sts fx) ∧ SqA K H c (sts cm) ∧ fx.Nodup ∧ cm.Sublist fx ∧ (∀ x ∈ cm, (x, 2) ∈ ls) ∧ ∀ H', Same H H' → Q .non H'
section
variable {P : Program} {w : World} {K : PySem.W.Frag} {mg : Str → Option Value} {base : Heap}
theorem ok_ckF2 {f : Addr} {fd : FuncData} (F : Fun K "_check_fixed" "_check_fixed" sCkF f fd) (T : Bl mg) (IL : Fns P w K mg base "is_list" 1 ["thing"] (spIsL K)) : FnOk P w K mg base CX0 2 f fd ["letters", "fixed"] (spCkF2 K) := by
  refine F.ok scCkF (fun vs H Q E h => ?_) (fun cdv A outer s H vs Q E hr h => ?_)
  · obtain ⟨a, b, ls, fx, rfl, _⟩ := h
    rfl
  · obtain ⟨a, b, ls, fx, rfl, hL, lnd, hF, sub, q⟩ := h
    have hu := hu_of hr
    refine ⟨_, pss_cons (ps_if (pt_not (pt_val (pe_fn IL hr (by decide) rfl (pa_cons (pv 1) (pa_nil))))) (pss_one ps_never) (pss_nil)) (pss_one (ps_for PassesOwn.never rfl (pi_enumW rfl T.enum (pa_cons (pv 1) (pa_nil))) (pg_tup rfl (pgs_cons (pg_name (i := 2) scCkF.nd rfl (.inl rfl)) (pgs_cons (pg_name (i := 3) scCkF.nd rfl (.inl rfl)) (pgs_nil)))) (pss_one (ps_if (PW.pt (pw_or (pt_not (pt_val (pe_callB call_isi (by rfl) T.isi (by decide +kernel) (pa_cons (pv 3) (pa_cons (pe_bltn (v := .ty "str") (by rfl) T.str (by decide +kernel) rfl) (pa_nil)))))) (pw_or (pt_cmp (pc_dnotin hu (pv 3) (pv 0))) (pw_or1 (pt_cmpR op_in_seq (pv 3) (pe_slice sl_any (pv 1) po_none (po_some (pv 2))) (by rfl)))))) (pss_one ps_never) (pss_nil))))), ?_⟩
    obtain ⟨ty, ht, hty⟩ := tyS hF
    refine ⟨_, rfl, .ref b, _, true, rfl, hty, kit_seq ht, fun H1 s1 => ⟨_, rfl, ?_⟩⟩
    refine iteF ?_
    obtain ⟨kb, hqv⟩ := sqV ((hF.mono s1).mono (fun b o e => hid_to (ps := []) (by simp) e))
    refine ⟨_, rfl, b, sts fx, kb, [], rfl, hqv, fun J WJ => ?_⟩
    refine for_it WJ (fun i σ H' => ∃ o1 o2, σ = [some (.ref a), some (.ref b), o1, o2] ∧ Same H1 H') ⟨none, none, rfl, Same.refl _⟩ (fun i σ H' _ ⟨o1, o2, _, s'⟩ => hqv.mono (hid_same s')) ?_ ?_
    · rintro i x σ H2 H2' hi ⟨o1, o2, rfl, s2⟩ ⟨Tp, y1, y2, rfl, nT, rfl, e1, e2⟩
      obtain rfl := Option.some.inj e1
      obtain ⟨sx, hsx, rfl⟩ := sts_at e2
      obtain ⟨H3, s3, h3, e3⟩ := lay (o := .tup [.int (i : Nat), .str sx]) nT
      rw [e3]
      have S13 := s2.trans s3
      have S3 := s1.trans S13
      have mfx := List.mem_of_getElem? hsx
      obtain ⟨q1, hq1, eq1⟩ := List.mem_map.mp (sub.subset mfx)
      refine ⟨Tp, _, rfl, SqT.of h3, rfl, _, _, rfl, _, _, rfl, rfl, ?_⟩
      refine ⟨_, rfl, .str sx, .ty "str", .type "str", .type "str", true, rfl, .ty "str", .base (.str sx), kit_ty (by decide +kernel), true, rfl, ?_⟩
      refine iteF ?_
      have hv : valV (lkv ls) (.inr sx : Key) = some (.int (q1.2 : Int)) := valV_lkv lnd (by rw [← eq1]; exact hq1)
      refine ⟨_, rfl, _, rfl, a, some (.int (q1.2 : Int)), rfl, (by rw [← hv]; exact DGet.k (k := .inr sx) (S3 _ _ hL)), _, rfl, ?_⟩
      refine iteF ?_
      refine ⟨_, rfl, _, rfl, _, rfl, _, rfl, ?_⟩
      have hil : i < fx.length := (List.getElem?_eq_some_iff.mp hsx).1
      refine slTo27 (hF.mono S3) i (by rw [sts_len]; omega) fun p H4 s4 h4 => ?_
      have h4' : SqA K H4 p (sts (fx.take i)) := by
        have e : (sts fx).take i = sts (fx.take i) := by unfold sts; rw [List.map_take]
        rw [← e]
        exact h4
      refine ⟨p, sts (fx.take i), rfl, h4', rfl, flat_sts _, _, rfl, ?_⟩
      rw [show (if false = true then !inV (.str sx) (sts (fx.take i)) else inV (.str sx) (sts (fx.take i))) = false from (inV_sts _ _).trans (decide_eq_false (not_in_take (sub.nodup lnd) hsx))]
      refine iteF ?_
      exact ⟨_, _, rfl, S13.trans s4⟩
    · rintro σ H2 ⟨o1, o2, rfl, s2⟩
      exact q _ (s1.trans s2)
theorem ok_ckC2 {f : Addr} {fd : FuncData} (F : Fun K "_check_commuting" "_check_commuting" sCkC f fd) (T : Bl mg) (IL : Fns P w K mg base "is_list" 1 ["thing"] (spIsL K)) : FnOk P w K mg base CX0 2 f fd ["letters", "fixed", "commuting"] (spCkC2 K) := by
  refine F.ok scCkC (fun vs H Q E h => ?_) (fun cdv A outer s H vs Q E hr h => ?_)
  · obtain ⟨a, b, c, ls, fx, cm, rfl, _⟩ := h
    rfl
  · obtain ⟨a, b, c, ls, fx, cm, rfl, hL, lnd, hF, hC, fnd, sub, c2, q⟩ := h
    have hu := hu_of hr
    refine ⟨_, pss_cons (ps_if (pt_not (pt_val (pe_fn IL hr (by decide) rfl (pa_cons (pv 2) (pa_nil))))) (pss_one ps_never) (pss_nil)) (pss_one (ps_for PassesOwn.never rfl (pi_enumW rfl T.enum (pa_cons (pv 2) (pa_nil))) (pg_tup rfl (pgs_cons (pg_name (i := 3) scCkC.nd rfl (.inl rfl)) (pgs_cons (pg_name (i := 4) scCkC.nd rfl (.inl rfl)) (pgs_nil)))) (pss_one (ps_if (PW.pt (pw_or (pt_cmpR op_notIn_seq (pv 4) (pv 1) (by rfl)) (pw_or (pt_cmpR op_ne (pe_dget hu (pv 0) (pv 4) (fun _ _ => rfl)) (pe_int) (nomark _)) (pw_or1 (pt_cmpR op_in_seq (pv 4) (pe_slice sl_any (pv 2) po_none (po_some (pv 3))) (by rfl)))))) (pss_one ps_never) (pss_nil))))), ?_⟩
    obtain ⟨ty, ht, hty⟩ := tyS hC
    refine ⟨_, rfl, .ref c, _, true, rfl, hty, kit_seq ht, fun H1 s1 => ⟨_, rfl, ?_⟩⟩
    refine iteF ?_
    obtain ⟨kb, hqv⟩ := sqV ((hC.mono s1).mono (fun b o e => hid_to (ps := []) (by simp) e))
    refine ⟨_, rfl, c, sts cm, kb, [], rfl, hqv, fun J WJ => ?_⟩
    refine for_it WJ (fun i σ H' => ∃ o1 o2, σ = [some (.ref a), some (.ref b), some (.ref c), o1, o2] ∧ Same H1 H') ⟨none, none, rfl, Same.refl _⟩ (fun i σ H' _ ⟨o1, o2, _, s'⟩ => hqv.mono (hid_same s')) ?_ ?_
    · rintro i x σ H2 H2' hi ⟨o1, o2, rfl, s2⟩ ⟨Tp, y1, y2, rfl, nT, rfl, e1, e2⟩
      obtain rfl := Option.some.inj e1
      obtain ⟨sx, hsx, rfl⟩ := sts_at e2
      obtain ⟨H3, s3, h3, e3⟩ := lay (o := .tup [.int (i : Nat), .str sx]) nT
      rw [e3]
      have S13 := s2.trans s3
      have S3 := s1.trans S13
      have mcm := List.mem_of_getElem? hsx
      refine ⟨Tp, _, rfl, SqT.of h3, rfl, _, _, rfl, _, _, rfl, rfl, ?_⟩
      refine ⟨_, rfl, _, rfl, b, sts fx, rfl, hF.mono S3, rfl, flat_sts _, _, rfl, ?_⟩
      rw [show (if true = true then !inV (.str sx) (sts fx) else inV (.str sx) (sts fx)) = false from by rw [if_pos rfl, inV_sts, decide_eq_true (sub.subset mcm)]; rfl]
      refine iteF ?_
      have hv : valV (lkv ls) (.inr sx : Key) = some (.int ((2 : Nat) : Int)) := valV_lkv lnd (c2 _ mcm)
      refine ⟨_, rfl, _, rfl, a, .int ((2 : Nat) : Int), rfl, (by rw [← hv]; exact DGet.k (k := .inr sx) (S3 _ _ hL)), rfl, _, rfl, ?_⟩
      refine iteNS rfl ?_
      refine ⟨_, rfl, _, rfl, _, rfl, _, rfl, ?_⟩
      have hil : i < cm.length := (List.getElem?_eq_some_iff.mp hsx).1
      refine slTo27 (hC.mono S3) i (by rw [sts_len]; omega) fun p H4 s4 h4 => ?_
      have h4' : SqA K H4 p (sts (cm.take i)) := by
        have e : (sts cm).take i = sts (cm.take i) := by unfold sts; rw [List.map_take]
        rw [← e]
        exact h4
      refine ⟨p, sts (cm.take i), rfl, h4', rfl, flat_sts _, _, rfl, ?_⟩
      rw [show (if false = true then !inV (.str sx) (sts (cm.take i)) else inV (.str sx) (sts (cm.take i))) = false from (inV_sts _ _).trans (decide_eq_false (not_in_take (sub.nodup fnd) hsx))]
      refine iteF ?_
      exact ⟨_, _, rfl, S13.trans s4⟩
    · rintro σ H2 ⟨o1, o2, rfl, s2⟩
      exact q _ (s1.trans s2)
end
end K27
set_option Elab.async false
set_option linter.all false
set_option maxRecDepth 100000
set_option maxHeartbeats 8000000
namespace GB
open PySem PySem.Spec L2
def tAsk2 (K : PySem.W.Frag) : TE := fun σ H Q => ∃ (x : Str) (v c : Addr) (vals cm : List Str), σ[7]? = some (some (.str x)) ∧ σ[2]? = some (some (.ref c)) ∧ σ[8]? = some (some (.ref v)) ∧ SqA K H c (sts cm) ∧ H v = some (.tup (sts vals)) ∧ vals.length ≤ 2 ∧ (∀ x ∈ vals, x ∈ va3) ∧
  ∀ kv H6, Same H H6 → H6 kv = some (.tup (sts (if x ∈ cm then sort2 vals else vals))) → Q (.ref kv) H6
theorem ask_weak2 {K : PySem.W.Frag} (σ : L2.St) (H : Hp) (Q : VK) (h : tAsk2 K σ H Q) : tCB (fun xs H_1 Q => ∃ p ys, xs = [V.ref p] ∧ ((SqL K H_1 p ys ∧ ∀ l, H_1 l = none → Q (.ref l) (upd H_1 l (.tup ys))) ∨ (SqT K H_1 p ys ∧ Q (.ref p) H_1)))
    (tCons (tIf (tTest (tOp (rIn K false) (tVar 7) (tVar 2))) (tCB (rSortedTS K) (tCons (tVar 8) tNil)) (tVar 8)) tNil) σ H Q := by
  obtain ⟨x, v, c, vals, cm, h7, h2, h8, hc, hv, l2, v3, q⟩ := h
  refine ⟨_, h7, _, h2, c, sts cm, rfl, hc, rfl, flat_sts _, _, rfl, ?_⟩
  rw [show (if false = true then !inV (.str x) (sts cm) else inV (.str x) (sts cm)) = decide (x ∈ cm) from inV_sts _ _]
  by_cases m : x ∈ cm
  · rw [decide_eq_true m]
    refine iteT ?_
    refine ⟨_, h8, v, vals, rfl, SqT.of hv, by omega, fun ys p hperm hsrt np => ?_⟩
    obtain ⟨H1, s1, h1, e1⟩ := lay (o := .lst (sts ys)) np
    rw [e1]
    refine ⟨p, sts ys, rfl, .inl ⟨SqL.of h1, fun l nl => ?_⟩⟩
    obtain ⟨H2, s2, h2, e2⟩ := lay (o := .tup (sts ys)) nl
    rw [e2]
    exact q l H2 (s1.trans s2) (by rw [if_pos m, ← sort2_of hperm hsrt l2 v3]; exact h2)
  · rw [decide_eq_false m]
    refine iteF ?_
    exact ⟨_, h8, v, sts vals, rfl, .inr ⟨SqT.of hv, q v H (Same.refl _) (by rw [if_neg m]; exact hv)⟩⟩
end GB
namespace K27
open PySem PySem.Spec L2 GB
def spIsF2 (K : PySem.W.Frag) : Sp := fun vs H Q _ => ∃ (a b t : Addr) (ls : List (Str × Nat)) (fx : List Str) (f : Fact), vs = [.ref a, .ref b, .ref t] ∧ H a = some (.dK (lkv ls)) ∧ (ls.map (·.1)).Nodup ∧ SqA K H b (sts fx) ∧ FactAt H f t ∧ f.Ok ls fx ∧ (∀ q ∈ ls, q.2 ≤ 2) ∧ ∀ H', Same H H' → Q (.bl true) H'
def spFT2 (K : PySem.W.Frag) : Sp := fun vs H Q _ => ∃ (a b c d : Addr) (g : GD), vs = [.ref a, .ref b, .ref c, .ref d] ∧ H a = some (.dK (lkv g.letters)) ∧ SqA K H b (sts g.fixed) ∧ SqA K H c (sts g.comm) ∧ (∃ ts : List Addr, SqA K H d (ts.map V.ref) ∧ Paired (FactAt H) g.facts ts) ∧ g.Wf ∧
  ∀ l H', H l = none → Same H H' → FactsAt H' l g.facts → Q (.ref l) H'
section
variable {P : Program} {w : World} {K : PySem.W.Frag} {mg : Str → Option Value} {base : Heap}
theorem ok_isF2 {f : Addr} {fd : FuncData} (F : Fun K "_is_fact" "_is_fact" sIsF f fd) (T : Bl mg) (IL : Fns P w K mg base "is_list" 1 ["thing"] (spIsL K)) (NM : Fns P w K mg base "is_name" 1 ["thing"] (spIsNm K)) (TE : Fns P w K mg base "_is_told_end" 2 ["thing"] spTE) :
    FnOk P w K mg base CX0 3 f fd ["letters", "fixed", "thing"] (spIsF2 K) := by
  refine F.ok scIsF (fun vs H Q E h => ?_) (fun cdv A outer s H vs Q E hr h => ?_)
  · obtain ⟨a, b, t, ls, fx, fa, rfl, _⟩ := h
    rfl
  · obtain ⟨a, b, t, ls, fx, fa, rfl, hL, lnd, hF, hA, ok, har, q⟩ := h
    have hu := hu_of hr
    refine ⟨_, pss_cons (ps_if (PW.pt (pw_or (pt_not (pt_val (pe_fn IL hr (by decide) rfl (pa_cons (pv 2) (pa_nil))))) (pw_or1 (pt_cmpR op_ne (pe_callB call_len_seq (by rfl) T.len PySem.boot_len (pa_cons (pv 2) (pa_nil))) (pe_int) (nomark _))))) (pss_one (ps_ret pe_bl)) (pss_nil)) (pss_cons (ps_asg (pv 2) (pg_tup rfl (pgs_cons (pg_name (i := 3) scIsF.nd rfl (.inl rfl)) (pgs_cons (pg_name (i := 4) scIsF.nd rfl (.inl rfl)) (pgs_cons (pg_name (i := 5) scIsF.nd rfl (.inl rfl)) (pgs_nil)))))) (pss_cons (ps_if (PW.pt (pw_or (pt_cmpR op_notIn_seq (pv 3) (pv 1) (by rfl)) (pw_or (pt_not (pt_val (pe_fn IL hr (by decide) rfl (pa_cons (pv 4) (pa_nil))))) (pw_or1 (pt_cmpR op_ne (pe_callB call_len_seq (by rfl) T.len PySem.boot_len (pa_cons (pv 4) (pa_nil))) (pe_dget hu (pv 0) (pv 3) (fun _ _ => rfl)) (nomark _)))))) (pss_one (ps_ret pe_bl)) (pss_nil)) (pss_one (ps_ret (pe_and (pe_callB (cr_all rfl) (by rfl) T.all (by decide +kernel) (pa_cons (pe_lc (own := [("value", 6)]) (g := gName 6) (tt := tYes) rfl scIsF.nd (pi_seqW (pv 4)) (blkOk_by (own := [("value", 6)]) (N := isfN) (sc := defScope sIsF) (by decide +kernel)) (fun _ _ _ _ _ => pg_name (i := 6) scIsF.nd rfl (.inl rfl)) (fun _ _ _ _ _ => pts_nil) (fun _ _ _ _ _ => pe_fn NM hr (by decide) rfl (pa_cons (pv 6) (pa_nil)))) (pa_nil))) (pe_one (pe_fn TE hr (by decide) rfl (pa_cons (pv 5) (pa_nil))))))))), ?_⟩
    obtain ⟨v, e, ht, hv, he⟩ := hA.ex
    obtain ⟨k, hk, hvl⟩ := ok.len
    obtain ⟨ty, hty0, hty⟩ := tyS (K := K) (.inr (SqT.of ht) : SqA K H t [.str fa.x, .ref v, .ref e])
    refine ⟨_, rfl, .ref t, _, true, rfl, hty, kit_seq hty0, fun H1 s1 => ⟨_, rfl, ?_⟩⟩
    refine iteF ?_
    refine ⟨_, rfl, t, _, rfl, .inr (SqT.of (s1 _ _ ht)), rfl, _, rfl, ?_⟩
    refine iteF ?_
    refine ⟨_, rfl, t, _, rfl, SqT.of (s1 _ _ ht), rfl, _, _, rfl, _, _, rfl, _, _, rfl, rfl, ?_⟩
    refine ⟨_, rfl, _, rfl, b, sts fx, rfl, hF.mono s1, rfl, flat_sts _, _, rfl, ?_⟩
    rw [show (if true = true then !inV (.str fa.x) (sts fx) else inV (.str fa.x) (sts fx)) = false from by rw [if_pos rfl, inV_sts, decide_eq_true ok.x]; rfl]
    refine iteF ?_
    obtain ⟨ty2, hty2, hty3⟩ := tyS (K := K) (.inr (SqT.of (s1 _ _ hv)) : SqA K H1 v (sts fa.vals))
    refine ⟨_, rfl, .ref v, _, true, rfl, hty3, kit_seq hty2, fun H2 s2 => ⟨_, rfl, ?_⟩⟩
    refine iteF ?_
    have S2 := s1.trans s2
    have hvv : valV (lkv ls) (.inr fa.x : Key) = some (.int (k : Int)) := valV_lkv lnd hk
    refine ⟨_, rfl, v, sts fa.vals, rfl, .inr (SqT.of (S2 _ _ hv)), _, rfl, _, rfl, a, .int (k : Int), rfl, (by rw [← hvv]; exact DGet.k (k := .inr fa.x) (S2 _ _ hL)), rfl, _, rfl, ?_⟩
    rw [show (!decide (V.int ((sts fa.vals).length : Int) = V.int (k : Int))) = false from by rw [sts_len, hvl, decide_eq_true rfl]; rfl]
    refine iteF ?_
    refine ⟨_, rfl, v, sts fa.vals, false, [], rfl, SqT.of (hid_to (by simp) (S2 _ _ hv)), fun J WJ D nD => ?_⟩
    refine lc_it WJ (fun i H' => Same H2 H' ∧ H' D = some (.lst ((List.replicate i true).map V.bl))) ⟨same_new nD, upd_same⟩ (fun i H' _ ⟨s', _⟩ => SqT.of (hid_to (by simp) (s' _ _ (S2 _ _ hv)))) ?_ ?_
    · rintro i x H3 H3' hi ⟨s3, h3⟩ ⟨rfl, hx⟩
      obtain ⟨sx, hsx, rfl⟩ := sts_at hx
      have nB : nameB sx = true := (show ∀ x ∈ va3, nameB x = true by decide +kernel) _ (ok.vals _ (List.mem_of_getElem? hsx))
      have hil : i < fa.vals.length := (List.getElem?_eq_some_iff.mp hsx).1
      have kl : k ≤ 2 := har _ hk
      refine ⟨rfl, ?_⟩
      refine ⟨_, rfl, _, rfl, .inl ⟨sx, rfl, len8 nB, fun H4 s4 => ?_⟩⟩
      refine ⟨_, s4 _ _ h3, by rw [List.length_map, List.length_replicate, sizeLine_eq]; omega, fun b o e => ?_, ?_⟩
      · rw [upd_ne (ne_of_none e nD)]; exact s4 _ _ (s3 _ _ e)
      · rw [upd_same, nB, List.replicate_succ', List.map_append]; rfl
    · rintro H3 ⟨s3, h3⟩
      refine ⟨D, _, rfl, SqL.of h3, true, ?_, ?_⟩
      · rw [List.all_replicate]; simp
      · refine iteT ?_
        exact ⟨_, rfl, e, fa.kind, fa.en, rfl, (S2.trans s3) _ _ he, ok.kind, by rcases ok.en with h | h <;> rw [h] <;> decide +kernel, fun H4 s4 => q _ ((S2.trans s3).trans s4)⟩
theorem ok_ft2 {f : Addr} {fd : FuncData} (F : Fun K "_facts_as_told" "_facts_as_told" sFT f fd) (T : Bl mg) (IL : Fns P w K mg base "is_list" 1 ["thing"] (spIsL K)) (ISF : Fns P w K mg base "_is_fact" 3 ["letters", "fixed", "thing"] (spIsF2 K)) :
    FnOk P w K mg base CX0 4 f fd ["letters", "fixed", "commuting", "facts"] (spFT2 K) := by
  refine F.ok scFT (fun vs H Q E h => ?_) (fun cdv A outer s H vs Q E hr h => ?_)
  · obtain ⟨a, b, c, d, g, rfl, _⟩ := h
    rfl
  · obtain ⟨a, b, c, d, g, rfl, hL, hF, hC, ⟨ts, hd, hts⟩, wf, q⟩ := h
    have hu9 : (A.deeper (PyProof.Rows.envOfC "_facts_as_told" (defScope sFT) s.heap.objs.size f cdv)).units + 9 < cLine := by have := hr.un; omega
    refine ⟨_, pss_cons (ps_if (pt_not (pt_val (pe_fn IL hr (by decide) rfl (pa_cons (pv 3) (pa_nil))))) (pss_one ps_never) (pss_nil)) (pss_cons (ps_set (i := 4) scFT.nd rfl (.inl rfl) (pe_dnewN)) (pss_cons (ps_for PassesOwn.never rfl (pi_enumW rfl T.enum (pa_cons (pv 3) (pa_nil))) (pg_tup rfl (pgs_cons (pg_name (i := 5) scFT.nd rfl (.inl rfl)) (pgs_cons (pg_name (i := 6) scFT.nd rfl (.inl rfl)) (pgs_nil)))) (pss_cons (ps_if (pt_not (pt_val (pe_fn ISF hr (by decide) rfl (pa_cons (pv 0) (pa_cons (pv 1) (pa_cons (pv 6) (pa_nil))))))) (pss_one ps_never) (pss_nil)) (pss_cons (ps_asg (pv 6) (pg_tup rfl (pgs_cons (pg_name (i := 7) scFT.nd rfl (.inl rfl)) (pgs_cons (pg_name (i := 8) scFT.nd rfl (.inl rfl)) (pgs_cons (pg_name (i := 9) scFT.nd rfl (.inl rfl)) (pgs_nil)))))) (pss_cons (ps_set (i := 10) scFT.nd rfl (.inl rfl) (pe_tup (pa_cons (pv 7) (pa_cons (pe_weak (t' := tAsk2 K) (pe_callTy (call_tuple_of) (by rfl) T.tuple (by decide +kernel) (pa_cons (pe_ifExp (pt_cmpR op_in_seq (pv 7) (pv 2) (by rfl)) (pe_callB (cr_sortedTS) (by rfl) T.sorted (by decide +kernel) (pa_cons (pv 8) (pa_nil))) (pv 8)) (pa_nil))) ask_weak2) (pa_nil))))) (pss_cons (ps_if (pt_cmpR (op_inN hu9) (pv 10) (pv 4) (by rfl)) (pss_one ps_never) (pss_nil)) (pss_one (ps_asg (pe_tup (pa_cons (pv 7) (pa_cons (pe_callTy (call_tuple_of) (by rfl) T.tuple (by decide +kernel) (pa_cons (pv 8) (pa_nil))) (pa_cons (pe_callTy (call_tuple_of) (by rfl) T.tuple (by decide +kernel) (pa_cons (pv 9) (pa_nil))) (pa_nil))))) (pg_sub (pv 4) (pv 10) (set_dictN hu9))))))))) (pss_one (ps_ret (pe_callTy ((call_listVN rfl)) (by rfl) T.list (by decide +kernel) (pa_cons (pe_valsN (pv 4)) (pa_nil))))))), ?_⟩
    obtain ⟨ty, hty0, hty⟩ := tyS (K := K) hd
    refine ⟨_, rfl, .ref d, _, true, rfl, hty, kit_seq hty0, fun H1 s1 => ⟨_, rfl, ?_⟩⟩
    refine iteF ?_
    intro D nD
    obtain ⟨H2, s2, h2, e2⟩ := lay (o := ndO P w D []) nD
    have e2' : upd H1 D (ndO (cxOf CX0 P w K mg base ftN "_facts_as_told" (defScope sFT) f cdv A outer s H E).nox.prog (cxOf CX0 P w K mg base ftN "_facts_as_told" (defScope sFT) f cdv A outer s H E).nox.w D []) = H2 := e2
    rw [e2']
    have nDH : H D = none := s1.free nD
    have S2 : Same H (hid [D] H2) := same_hid_new nDH (s1.trans s2)
    have ltd : ts.length = g.facts.length := (Paired.length hts).symm
    obtain ⟨kb, hkv⟩ : ∃ kb, ∀ H', Same H H' → SqV K H' d (ts.map V.ref) kb := hd.elim (fun h => ⟨true, fun H' s => Same.seq s h⟩) (fun h => ⟨false, fun H' s => Same.seqT s h⟩)
    refine ⟨_, rfl, d, ts.map V.ref, kb, [D], rfl, hkv _ S2, fun J WJ => ?_⟩
    refine for_it WJ (fun i σ H' => ∃ (o5 o6 o7 o8 o9 o10 : Option V) (xs : NX) (bs : List Addr), σ = [some (.ref a), some (.ref b), some (.ref c), some (.ref d), some (.ref D), o5, o6, o7, o8, o9, o10] ∧ Same H (hid [D] H') ∧ H' D = some (ndO P w D xs) ∧ NdKeys (hid [D] H') xs ∧
      xs.map (·.1) = (g.facts.take i).map (fun f => nkO (g.asked f)) ∧ xs.map (fun x => x.2.2) = bs.map Value.ref ∧ Paired (FactAt (hid [D] H')) (g.facts.take i) bs) ⟨none, none, none, none, none, none, [], [], rfl, S2, h2, (fun e he => nomatch he), rfl, rfl, .nil⟩ (fun i σ H' _ ⟨_, _, _, _, _, _, _, _, _, S, _⟩ => hkv _ S) ?_ ?_
    · rintro i x σ H3 H3' hi ⟨o5, o6, o7, o8, o9, o10, xs, bs, rfl, S3, h3, k3, e31, e32, p3⟩ ⟨Tp, y1, y2, rfl, nT, rfl, e1, ey⟩
      obtain rfl := Option.some.inj e1
      obtain ⟨t, htt, rfl⟩ : ∃ t, ts[i]? = some t ∧ y2 = V.ref t := by
        have ey : (ts.map V.ref)[i]? = some y2 := ey
        rw [List.getElem?_map] at ey
        cases e : ts[i]? with
        | none => rw [e] at ey; cases ey
        | some y => rw [e] at ey; exact ⟨y, rfl, (Option.some.inj ey).symm⟩
      have hig : i < g.facts.length := by rw [← ltd]; exact (List.getElem?_eq_some_iff.mp htt).1
      have hfi : g.facts[i]? = some g.facts[i] := List.getElem?_eq_getElem hig
      generalize hfa : g.facts[i] = fa at hfi
      have fmem := List.mem_of_getElem? hfi
      obtain ⟨t', ht', hA⟩ : ∃ t', ts[i]? = some t' ∧ FactAt H fa t' := paired_at' hts hfi
      obtain rfl : t' = t := by rw [htt] at ht'; exact (Option.some.inj ht').symm
      have ok := wf.fa _ fmem
      obtain ⟨H4, s4, h4, e4⟩ := lay (o := .tup [.int (i : Nat), .ref t']) nT
      rw [e4]
      have S4 : Same H (hid [D] H4) := S3.trans (hid_same s4)
      have S40 : Same H H4 := S4.trans (hid_low _ _)
      refine ⟨Tp, _, rfl, SqT.of h4, rfl, _, _, rfl, _, _, rfl, rfl, ?_⟩
      refine ⟨_, rfl, _, rfl, _, rfl, a, b, t', g.letters, g.fixed, fa, rfl, S40 _ _ hL, wf.nd, hF.mono S40, hA.mono S40, ok, wf.ar, fun H5 s5 => ⟨_, rfl, ?_⟩⟩
      refine iteF ?_
      have S5 : Same H (hid [D] H5) := S4.trans (hid_same s5)
      have S50 : Same H H5 := S5.trans (hid_low _ _)
      obtain ⟨v, e, ht, hv, he⟩ := (hA.mono S5).ex
      have ht0 := (hid_in ht).1
      have hv0 := (hid_in hv).1
      have he0 := (hid_in he).1
      refine ⟨_, rfl, t', _, rfl, SqT.of ht0, rfl, _, _, rfl, _, _, rfl, _, _, rfl, rfl, ?_⟩
      have h5D : H5 D = some (ndO P w D xs) := s5 _ _ (s4 _ _ h3)
      have len2 : fa.vals.length ≤ 2 := by
        obtain ⟨k, hk, e⟩ := ok.len
        have h2 : k ≤ 2 := wf.ar _ hk
        omega
      have hask : g.asked fa = (fa.x, if fa.x ∈ g.comm then sort2 fa.vals else fa.vals) := rfl
      refine ⟨_, rfl, fa.x, v, c, fa.vals, g.comm, rfl, rfl, rfl, hC.mono S50, hv0, len2, ok.vals, fun kv H6 s6 hkv => ?_⟩
      refine ⟨by show 2 ≤ sizeLine; decide, fun ka nka => ?_⟩
      obtain ⟨H7, s7, h7, e7⟩ := lay (o := .tup [.str fa.x, .ref kv]) nka
      rw [e7]
      have S57 : Same H5 H7 := s6.trans s7
      have h7D := S57 _ _ h5D
      have nD7 : ∀ {q : Addr} {o : List V}, H7 q = some (.tup o) → hid [D] H7 q = some (.tup o) := fun h => hid_to (ni1 (ne_of h h7D (fun z => nomatch z))) h
      have k7 : NdKeys (hid [D] H7) xs := k3.mono (hid_same ((s4.trans s5).trans S57))
      have nk7 : NkV (hid [D] H7) (nkO (g.asked fa)) (.ref ka) := by
        rw [hask]
        exact .tup (nD7 h7) (.cons (.text _) (.cons (.tup (nD7 (s7 _ _ hkv)) (nk_txk _)) .nil))
      have nokey : nkO (g.asked fa) ∉ xs.map (·.1) := by
        rw [e31]
        intro m
        obtain ⟨fb, hfb, eb⟩ := List.mem_map.mp m
        have eq := nkO_inj eb
        exact not_in_take_map wf.fd hfi hfb eq
      have hnone := atKey_none nokey
      refine ⟨_, rfl, _, rfl, ka, D, nkO (g.asked fa), xs, rfl, rfl, h7D, k7.mono (hid_low _ _), NkV.mono (hid_low _ _) _ _ nk7, nkO_depth _, _, rfl, ?_⟩
      rw [hnone]
      refine iteF ?_
      have hv7 := S57 _ _ hv0
      have he7 := S57 _ _ he0
      refine ⟨_, rfl, _, rfl, v, _, rfl, .inr ⟨SqT.of hv7, _, rfl, e, _, rfl, .inr ⟨SqT.of he7, by show 3 ≤ sizeLine; decide, fun b nb => ?_⟩⟩⟩
      obtain ⟨H8, s8, h8, e8⟩ := lay (o := .tup [.str fa.x, .ref v, .ref e]) nb
      rw [e8]
      have h8D := s8 _ _ h7D
      have lxs : xs.length ≤ 6 := by
        have := congrArg List.length e31
        rw [List.length_map, List.length_map, List.length_take] at this
        have := wf.fl
        omega
      have k8 := k7.mono (hid_same s8)
      have nk8 := NkV.mono (hid_same s8) _ _ nk7
      refine ⟨_, rfl, _, rfl, D, ka, b, nkO (g.asked fa), xs, rfl, rfl, rfl, h8D, k8.mono (hid_low _ _), NkV.mono (hid_low _ _) _ _ nk8, nkO_depth _, by omega, ?_⟩
      rw [storedH_new hnone]
      have B8 : Bt [D] H8 (upd H8 D (ndO P w D (xs ++ [(nkO (g.asked fa), ka, Value.ref b)]))) := bt_upd (by simp)
      have S58 : Same (hid [D] H5) (hid [D] (upd H8 D (ndO P w D (xs ++ [(nkO (g.asked fa), ka, Value.ref b)])))) := (hid_same (S57.trans s8)).trans B8
      have bD : b ∉ [D] := ni1 (ne_of_none h7D nb).symm
      refine ⟨_, _, _, _, _, _, xs ++ [(nkO (g.asked fa), ka, Value.ref b)], bs ++ [b], rfl, S5.trans S58, upd_same, ?_, ?_, ?_, ?_⟩
      · intro en hen
        rcases List.mem_append.mp hen with h | h
        · exact (k8.mono B8) en h
        · rw [List.mem_singleton.mp h]
          exact ⟨NkV.mono B8 _ _ nk8, nkO_depth _⟩
      · rw [take_at hfi, List.map_append, List.map_append, e31]; rfl
      · rw [List.map_append, List.map_append, e32]; rfl
      · rw [take_at hfi]
        exact paired_app (Paired.mapP p3 fun _ _ r => r.mono ((hid_same (s4.trans s5)).trans S58)) (.cons ⟨v, e, B8 _ _ (hid_to bD h8), S58 _ _ hv, S58 _ _ he⟩ .nil)
    · rintro σ H3 ⟨o5, o6, o7, o8, o9, o10, xs, bs, rfl, S3, h3, k3, e31, e32, p3⟩
      have lbs : bs.length = g.facts.length := by rw [← Paired.length p3, List.length_take]; rw [List.length_map, ltd]; omega
      refine ⟨_, rfl, D, xs, rfl, h3, fun vw nvw => ?_⟩
      obtain ⟨H4, s4, h4, e4⟩ := lay (o := valsO vw D) nvw
      rw [e4]
      refine ⟨vw, D, xs, bs, rfl, h4, s4 _ _ h3, e32, by rw [lbs]; have := wf.fl; omega, fun l nl => ?_⟩
      obtain ⟨H5, s5, h5, e5⟩ := lay (o := .lst (bs.map V.ref)) nl
      rw [e5]
      have S5 : Same H H5 := (S3.trans (hid_low _ _)).trans (s4.trans s5)
      rw [List.take_of_length_le (by rw [List.length_map, ltd]; exact Nat.le_refl _)] at p3
      exact q l H5 (((S3.trans (hid_low _ _)).trans s4).free nl) S5 ⟨bs, h5, Paired.mapP p3 fun _ _ r => r.mono ((hid_low _ _).trans (s4.trans s5))⟩
end
end K27
set_option Elab.async false
set_option linter.all false
set_option maxRecDepth 100000
set_option maxHeartbeats 8000000
namespace GB
open PySem PySem.Spec L2
theorem sqA_off {K : PySem.W.Frag} {H : Hp} {a b : Addr} {xs : List V} (h1 : ∀ ys, H a ≠ some (.lst ys)) (h2 : ∀ ys, H a ≠ some (.tup ys)) (h3 : ∀ o ys, H a ≠ some (.frz o (.lst ys))) (h4 : ∀ o ys, H a ≠ some (.frz o (.tup ys))) (h : SqA K H b xs) : SqA K (hid [a] H) b xs := by
  rcases h with ((h | ⟨o, h⟩) | h) | ((h | ⟨o, h⟩) | h)
  · exact .inl (.inl (.inl (hid_to (fun m => h1 xs (by rw [← List.mem_singleton.mp m]; exact h)) h)))
  · exact .inl (.inl (.inr ⟨o, hid_to (fun m => h3 o xs (by rw [← List.mem_singleton.mp m]; exact h)) h⟩))
  · exact .inl (.inr h)
  · exact .inr (.inl (.inl (hid_to (fun m => h2 xs (by rw [← List.mem_singleton.mp m]; exact h)) h)))
  · exact .inr (.inl (.inr ⟨o, hid_to (fun m => h4 o xs (by rw [← List.mem_singleton.mp m]; exact h)) h⟩))
  · exact .inr (.inr h)
/-- [x for x in letters if x in fixed] -/
def tSel2 (K : PySem.W.Frag) (j : Nat) : TE := fun σ H Q => ∃ (s0 : Option V) (a : Addr) (s2 s3 s4 s5 s6 s7 : Option V) (b : Addr) (ls : List (Str × Nat)) (fx : List Str), σ = [s0, some (.ref a), s2, s3, s4, s5, s6, s7] ∧ ((j = 2 ∧ s2 = some (.ref b)) ∨ (j = 3 ∧ s3 = some (.ref b))) ∧ H a = some (.dK (lkv ls)) ∧ SqA K H b (sts fx) ∧ ls.length ≤ 1000 ∧
  ∀ l H', H l = none → Same H H' → H' l = some (.lst (sts ((ls.map (·.1)).filter fun x => decide (x ∈ fx)))) → Q (.ref l) H'

theorem sel_weakA {K : PySem.W.Frag} (σ : L2.St) (H : Hp) (Q : VK) (h : tSel2 K 2 σ H Q) : tLockE (tLc (iKeys (tVar 1)) (gName 5) (tTest (tOp (rIn K false) (tVar 5) (tVar 2))) (tVar 5) [5]) σ H Q := by
  obtain ⟨s0, a, s2, s3, s4, s5, s6, s7, b, ls, fx, rfl, hj, hL, hF, hz, q⟩ := h
  obtain rfl : s2 = some (.ref b) := by
    rcases hj with h | h
    · first | exact h.2 | exact absurd h.1 (by decide)
    · first | exact h.2 | exact absurd h.1 (by decide)
  refine ⟨a, _, hL, trivial, fun od => ?_⟩
  obtain ⟨Hl, hlL, hlo, el⟩ : ∃ Hl, Hl a = some (.frz od (.dK (lkv ls))) ∧ (∀ b, b ≠ a → Hl b = H b) ∧ upd H a (.frz od (.dK (lkv ls))) = Hl := ⟨_, upd_same, fun b hb => upd_ne hb, rfl⟩
  rw [el]
  have hFl : SqA K Hl b (sts fx) := (sqA_off (fun ys z => by rw [hL] at z; cases z) (fun ys z => by rw [hL] at z; cases z) (fun o ys z => by rw [hL] at z; cases z) (fun o ys z => by rw [hL] at z; cases z) hF).mono (fun b' o e => by obtain ⟨e1, m⟩ := hid_in e; rw [hlo b' (fun z => m (by simp [z]))]; exact e1)
  refine ⟨_, rfl, a, od, rfl, .inl ⟨_, hlL, fun D nD => ?_⟩⟩
  refine lc_it walk_keys (fun i H' => Same Hl H' ∧ H' D = some (.lst (sts (((ls.map (·.1)).take i).filter fun x => decide (x ∈ fx))))) ⟨same_new nD, upd_same⟩ (fun i H' _ ⟨s', _⟩ => s' _ _ hlL) ?_ ?_
  · rintro i x H1 H1' hi ⟨s1, hD⟩ ⟨rfl, k, v, hk, rfl⟩
    obtain ⟨⟨sx, m⟩, hq, eq⟩ : ∃ q, ls[i]? = some q ∧ (Sum.inr q.1, V.int q.2) = (k, v) := by
      unfold lkv at hk
      rw [List.getElem?_map] at hk
      cases e : ls[i]? with
      | none => rw [e] at hk; cases hk
      | some q => rw [e] at hk; exact ⟨q, rfl, Option.some.inj hk⟩
    obtain ⟨rfl, rfl⟩ := Prod.mk.inj eq
    have hkx : (ls.map (·.1))[i]? = some sx := by rw [List.getElem?_map, hq]; rfl
    have ec := take_at hkx
    refine ⟨rfl, ?_⟩
    refine ⟨_, rfl, _, rfl, b, sts fx, rfl, hFl.mono s1, rfl, flat_sts _, _, rfl, ?_⟩
    rw [show (if false = true then !inV (kV (Sum.inr sx)) (sts fx) else inV (kV (Sum.inr sx)) (sts fx)) = decide (sx ∈ fx) from inV_sts _ _]
    rw [ec, List.filter_append]
    by_cases c : sx ∈ fx
    · rw [decide_eq_true c]
      refine ⟨_, rfl, _, hD, ?_, fun b o e => ?_, ?_⟩
      · rw [sts_len, sizeLine_eq]
        have h1 := List.length_filter_le (fun x => decide (x ∈ fx)) ((ls.map (·.1)).take i)
        rw [List.length_take, List.length_map] at h1
        omega
      · rw [upd_ne (ne_of_none e nD)]; exact s1 _ _ e
      · rw [upd_same, List.filter_cons_of_pos (by simp [c]), List.filter_nil]
        unfold sts
        rw [List.map_append]
        rfl
    · rw [decide_eq_false c]
      refine ⟨s1, ?_⟩
      rw [List.filter_cons_of_neg (by simp [c]), List.filter_nil, List.append_nil]
      exact hD
  · rintro H1' ⟨s1', hD1'⟩
    refine ⟨s1' _ _ hlL, ?_⟩
    have DL : D ≠ a := fun e => by rw [e, hlL] at nD; cases nD
    have nDH : H D = none := by rw [← hlo D DL]; exact nD
    rw [List.take_of_length_le (by rw [List.length_map]; show ls.length ≤ (lkv ls).length; unfold lkv; rw [List.length_map]; exact Nat.le_refl _)] at hD1'
    refine q D _ nDH (fun b o e => ?_) (by rw [upd_ne DL]; exact hD1')
    by_cases hb : b = a
    · subst hb; rw [upd_same, ← e, hL]
    · rw [upd_ne hb]; exact s1' _ _ ((hlo b hb).trans e)

theorem sel_weakB {K : PySem.W.Frag} (σ : L2.St) (H : Hp) (Q : VK) (h : tSel2 K 3 σ H Q) : tLockE (tLc (iKeys (tVar 1)) (gName 5) (tTest (tOp (rIn K false) (tVar 5) (tVar 3))) (tVar 5) [5]) σ H Q := by
  obtain ⟨s0, a, s2, s3, s4, s5, s6, s7, b, ls, fx, rfl, hj, hL, hF, hz, q⟩ := h
  obtain rfl : s3 = some (.ref b) := by
    rcases hj with h | h
    · first | exact h.2 | exact absurd h.1 (by decide)
    · first | exact h.2 | exact absurd h.1 (by decide)
  refine ⟨a, _, hL, trivial, fun od => ?_⟩
  obtain ⟨Hl, hlL, hlo, el⟩ : ∃ Hl, Hl a = some (.frz od (.dK (lkv ls))) ∧ (∀ b, b ≠ a → Hl b = H b) ∧ upd H a (.frz od (.dK (lkv ls))) = Hl := ⟨_, upd_same, fun b hb => upd_ne hb, rfl⟩
  rw [el]
  have hFl : SqA K Hl b (sts fx) := (sqA_off (fun ys z => by rw [hL] at z; cases z) (fun ys z => by rw [hL] at z; cases z) (fun o ys z => by rw [hL] at z; cases z) (fun o ys z => by rw [hL] at z; cases z) hF).mono (fun b' o e => by obtain ⟨e1, m⟩ := hid_in e; rw [hlo b' (fun z => m (by simp [z]))]; exact e1)
  refine ⟨_, rfl, a, od, rfl, .inl ⟨_, hlL, fun D nD => ?_⟩⟩
  refine lc_it walk_keys (fun i H' => Same Hl H' ∧ H' D = some (.lst (sts (((ls.map (·.1)).take i).filter fun x => decide (x ∈ fx))))) ⟨same_new nD, upd_same⟩ (fun i H' _ ⟨s', _⟩ => s' _ _ hlL) ?_ ?_
  · rintro i x H1 H1' hi ⟨s1, hD⟩ ⟨rfl, k, v, hk, rfl⟩
    obtain ⟨⟨sx, m⟩, hq, eq⟩ : ∃ q, ls[i]? = some q ∧ (Sum.inr q.1, V.int q.2) = (k, v) := by
      unfold lkv at hk
      rw [List.getElem?_map] at hk
      cases e : ls[i]? with
      | none => rw [e] at hk; cases hk
      | some q => rw [e] at hk; exact ⟨q, rfl, Option.some.inj hk⟩
    obtain ⟨rfl, rfl⟩ := Prod.mk.inj eq
    have hkx : (ls.map (·.1))[i]? = some sx := by rw [List.getElem?_map, hq]; rfl
    have ec := take_at hkx
    refine ⟨rfl, ?_⟩
    refine ⟨_, rfl, _, rfl, b, sts fx, rfl, hFl.mono s1, rfl, flat_sts _, _, rfl, ?_⟩
    rw [show (if false = true then !inV (kV (Sum.inr sx)) (sts fx) else inV (kV (Sum.inr sx)) (sts fx)) = decide (sx ∈ fx) from inV_sts _ _]
    rw [ec, List.filter_append]
    by_cases c : sx ∈ fx
    · rw [decide_eq_true c]
      refine ⟨_, rfl, _, hD, ?_, fun b o e => ?_, ?_⟩
      · rw [sts_len, sizeLine_eq]
        have h1 := List.length_filter_le (fun x => decide (x ∈ fx)) ((ls.map (·.1)).take i)
        rw [List.length_take, List.length_map] at h1
        omega
      · rw [upd_ne (ne_of_none e nD)]; exact s1 _ _ e
      · rw [upd_same, List.filter_cons_of_pos (by simp [c]), List.filter_nil]
        unfold sts
        rw [List.map_append]
        rfl
    · rw [decide_eq_false c]
      refine ⟨s1, ?_⟩
      rw [List.filter_cons_of_neg (by simp [c]), List.filter_nil, List.append_nil]
      exact hD
  · rintro H1' ⟨s1', hD1'⟩
    refine ⟨s1' _ _ hlL, ?_⟩
    have DL : D ≠ a := fun e => by rw [e, hlL] at nD; cases nD
    have nDH : H D = none := by rw [← hlo D DL]; exact nD
    rw [List.take_of_length_le (by rw [List.length_map]; show ls.length ≤ (lkv ls).length; unfold lkv; rw [List.length_map]; exact Nat.le_refl _)] at hD1'
    refine q D _ nDH (fun b o e => ?_) (by rw [upd_ne DL]; exact hD1')
    by_cases hb : b = a
    · subst hb; rw [upd_same, ← e, hL]
    · rw [upd_ne hb]; exact s1' _ _ ((hlo b hb).trans e)

def tMov2 (K : PySem.W.Frag) : TE := fun σ H Q => ∃ (s0 : Option V) (a : Addr) (s3 s4 s5 s6 s7 : Option V) (b : Addr) (ls : List (Str × Nat)) (fx : List Str), σ = [s0, some (.ref a), some (.ref b), s3, s4, s5, s6, s7] ∧ H a = some (.dK (lkv ls)) ∧ SqA K H b (sts fx) ∧ (ls.map (·.1)).Nodup ∧ ls.length ≤ 1000 ∧
  ∀ l H', H l = none → Same H H' → H' l = some (.dK (trueK ((ls.map (·.1)).filter fun x => !decide (x ∈ fx)))) → Q (.ref l) H'
theorem mov_weakA {K : PySem.W.Frag} (σ : L2.St) (H : Hp) (Q : VK) (h : tMov2 K σ H Q) : tLockE (tDc (iKeys (tVar 1)) (gName 5) (tTest (tOp (rIn K true) (tVar 5) (tVar 2))) (tVar 5) (tC (.bl true)) [5]) σ H Q := by
  obtain ⟨s0, a, s3, s4, s5, s6, s7, b, ls, fx, rfl, hL, hF, nd, hz, q⟩ := h
  refine ⟨a, _, hL, trivial, fun od => ?_⟩
  obtain ⟨Hl, hlL, hlo, el⟩ : ∃ Hl, Hl a = some (.frz od (.dK (lkv ls))) ∧ (∀ b, b ≠ a → Hl b = H b) ∧ upd H a (.frz od (.dK (lkv ls))) = Hl := ⟨_, upd_same, fun b hb => upd_ne hb, rfl⟩
  rw [el]
  have hFl : SqA K Hl b (sts fx) := (sqA_off (fun ys z => by rw [hL] at z; cases z) (fun ys z => by rw [hL] at z; cases z) (fun o ys z => by rw [hL] at z; cases z) (fun o ys z => by rw [hL] at z; cases z) hF).mono (fun b' o e => by obtain ⟨e1, m⟩ := hid_in e; rw [hlo b' (fun z => m (by simp [z]))]; exact e1)
  refine ⟨_, rfl, a, od, rfl, .inl ⟨_, hlL, fun D nD => dcK_it walk_keys (fun i H' => Same Hl H' ∧ H' D = some (.dK (trueK (((ls.map (·.1)).take i).filter fun x => !decide (x ∈ fx))))) ⟨same_new nD, upd_same⟩ (fun i H' _ ⟨s', _⟩ => s' _ _ hlL) ?_ ?_⟩⟩
  · rintro i x H1 H1' hi ⟨s1, hD⟩ ⟨rfl, k, v, hk, rfl⟩
    obtain ⟨⟨sx, m⟩, hq, eq⟩ : ∃ q, ls[i]? = some q ∧ (Sum.inr q.1, V.int q.2) = (k, v) := by
      unfold lkv at hk
      rw [List.getElem?_map] at hk
      cases e : ls[i]? with
      | none => rw [e] at hk; cases hk
      | some q => rw [e] at hk; exact ⟨q, rfl, Option.some.inj hk⟩
    obtain ⟨rfl, rfl⟩ := Prod.mk.inj eq
    have hkx : (ls.map (·.1))[i]? = some sx := by rw [List.getElem?_map, hq]; rfl
    have ec := take_at hkx
    refine ⟨rfl, ?_⟩
    refine ⟨_, rfl, _, rfl, b, sts fx, rfl, hFl.mono s1, rfl, flat_sts _, _, rfl, ?_⟩
    rw [show (if true = true then !inV (kV (Sum.inr sx)) (sts fx) else inV (kV (Sum.inr sx)) (sts fx)) = !decide (sx ∈ fx) from congrArg (!·) (inV_sts _ _)]
    rw [ec, List.filter_append]
    by_cases c : sx ∈ fx
    · rw [decide_eq_true c]
      refine ⟨s1, ?_⟩
      rw [List.filter_cons_of_neg (by simp [c]), List.filter_nil, List.append_nil]
      exact hD
    · rw [decide_eq_false c]
      have hn : sx ∉ ((ls.map (·.1)).take i).filter fun x => !decide (x ∈ fx) := fun z => not_in_take nd hkx (List.mem_filter.mp z).1
      refine ⟨_, rfl, _, .inr sx, rfl, hD, ?_, ?_⟩
      · unfold trueK
        rw [List.length_map, sizeLine_eq]
        have h1 := List.length_filter_le (fun x => !decide (x ∈ fx)) ((ls.map (·.1)).take i)
        rw [List.length_take, List.length_map] at h1
        omega
      · refine ⟨fun b o e => ?_, ?_⟩
        · rw [upd_ne (ne_of_none e nD)]; exact s1 _ _ e
        · rw [upd_same, putTrue hn, List.filter_cons_of_pos (by simp [c]), List.filter_nil]
  · rintro H1' ⟨s1', hD1'⟩
    refine ⟨s1' _ _ hlL, ?_⟩
    have DL : D ≠ a := fun e => by rw [e, hlL] at nD; cases nD
    have nDH : H D = none := by rw [← hlo D DL]; exact nD
    rw [List.take_of_length_le (by rw [List.length_map]; show ls.length ≤ (lkv ls).length; unfold lkv; rw [List.length_map]; exact Nat.le_refl _)] at hD1'
    refine q D _ nDH (fun b o e => ?_) (by rw [upd_ne DL]; exact hD1')
    by_cases hb : b = a
    · subst hb; rw [upd_same, ← e, hL]
    · rw [upd_ne hb]; exact s1' _ _ ((hlo b hb).trans e)
end GB
namespace K27
open PySem PySem.Spec L2 GB
def spGI2 (K : PySem.W.Frag) (C : Addr) : Sp := fun vs H Q _ => ∃ (x dx a b c d : Addr) (g : GD), vs = [.ref x, .ref a, .ref b, .ref c, .ref d] ∧ H x = some (.ins C dx []) ∧ H a = some (.dK (lkv g.letters)) ∧ SqA K H b (sts g.fixed) ∧ SqA K H c (sts g.comm) ∧ (∃ ts : List Addr, SqA K (hid [x] H) d (ts.map V.ref) ∧ Paired (FactAt (hid [x] H)) g.facts ts) ∧ g.Wf ∧
  ∀ H', Bt [x] H H' → IsGr C H' x g → Q .non H'
section
variable {P : Program} {w : World} {K : PySem.W.Frag} {mg : Str → Option Value} {base : Heap} {C : Addr}
theorem ok_gi2 {f : Addr} {fd : FuncData} {dvs : List V} {kws : List (Str × V)} (F : FunD K "__init__" "Ground.__init__" (defArgs sGI) (defBody sGI) (defScope sGI) dvs kws f fd) (T : Bl mg) (cl : Cls K C) (n1 : NoAttr K C "_facts") (n2 : NoAttr K C "_letters") (n3 : NoAttr K C "_order") (n4 : NoAttr K C "_fixed") (n5 : NoAttr K C "_commuting") (n6 : NoAttr K C "moving") (n7 : NoAttr K C "commutes") (n8 : NoAttr K C "known_ends") (n9 : NoAttr K C "places")
    (CL : Fns P w K mg base "_check_letters" 2 ["letters"] spCkL) (CF : Fns P w K mg base "_check_fixed" 2 ["letters", "fixed"] (spCkF2 K)) (CC : Fns P w K mg base "_check_commuting" 2 ["letters", "fixed", "commuting"] (spCkC2 K))
    (FT : Fns P w K mg base "_facts_as_told" 4 ["letters", "fixed", "commuting", "facts"] (spFT2 K)) (EB : Fns P w K mg base "_ends_by_values" 2 ["facts", "commutes"] (spEbv P w)) (PM : Fns P w K mg base "_all_permissions" 1 ["letters", "moving"] spPerm) : FnOk P w K mg base CX0 5 f fd ["self", "letters", "fixed", "commuting", "facts"] (spGI2 K C) := by
  refine FX.FunD.ok0 F scGI (fun vs H Q E h => ?_) (fun cdv A outer s H vs Q E hr h => ?_)
  · obtain ⟨x, dx, a, b, c, d, g, rfl, _⟩ := h
    rfl
  · obtain ⟨x, dx, a, b, c, d, g, rfl, hx, hL, hF, hC, ⟨tsA, hAd, hAp⟩, wf, q⟩ := h
    have offx : ∀ {b' : Addr} {ys : List V}, SqA K H b' ys → SqA K (hid [x] H) b' ys := fun h => sqA_off (fun ys z => by rw [hx] at z; cases z) (fun ys z => by rw [hx] at z; cases z) (fun o ys z => by rw [hx] at z; cases z) (fun o ys z => by rw [hx] at z; cases z) h
    have hA2 : ∀ {J : Hp}, Same H J → ∃ ts : List Addr, SqA K J d (ts.map V.ref) ∧ Paired (FactAt J) g.facts ts := fun {J} s => ⟨tsA, hAd.mono ((hid_low _ _).trans s), Paired.mapP hAp fun _ _ r => r.mono ((hid_low _ _).trans s)⟩
    refine ⟨_, pss_cons (ps_expr (pe_fn CL hr (by decide) rfl (pa_cons (pv 1) (pa_nil)))) (pss_cons (ps_expr (pe_fn CF hr (by decide) rfl (pa_cons (pv 1) (pa_cons (pv 2) (pa_nil))))) (pss_cons (ps_expr (pe_fn CC hr (by decide) rfl (pa_cons (pv 1) (pa_cons (pv 2) (pa_cons (pv 3) (pa_nil)))))) (pss_cons (ps_fld (pv 0) (pe_fn FT hr (by decide) rfl (pa_cons (pv 1) (pa_cons (pv 2) (pa_cons (pv 3) (pa_cons (pv 4) (pa_nil)))))) rfl) (pss_cons (ps_fld (pv 0) (pe_callTy (call_dictD) (by rfl) T.dict (by decide +kernel) (pa_cons (pv 1) (pa_nil))) rfl) (pss_cons (ps_fld (pv 0) (pe_callTy ((call_listD rfl)) (by rfl) T.list (by decide +kernel) (pa_cons (pv 1) (pa_nil))) rfl) (pss_cons (ps_fld (pv 0) (pe_weak (t' := tSel2 K 2) (pe_lock (pe_lc (own := [("letter", 5)]) (g := gName 5) (tt := tTest (tOp (rIn K false) (tVar 5) (tVar 2))) rfl scGI.nd (pi_keys (pv 1)) (blkOk_by (own := [("letter", 5)]) (N := giN) (sc := defScope sGI) (by decide +kernel)) (fun _ _ _ _ _ => pg_name (i := 5) scGI.nd rfl (.inl rfl)) (fun _ _ _ _ _ => pts_one (pt_cmpR op_in_seq (pv 5) (pv 2) (by rfl))) (fun _ _ _ _ _ => pv 5))) sel_weakA) rfl) (pss_cons (ps_fld (pv 0) (pe_weak (t' := tSel2 K 3) (pe_lock (pe_lc (own := [("letter", 5)]) (g := gName 5) (tt := tTest (tOp (rIn K false) (tVar 5) (tVar 3))) rfl scGI.nd (pi_keys (pv 1)) (blkOk_by (own := [("letter", 5)]) (N := giN) (sc := defScope sGI) (by decide +kernel)) (fun _ _ _ _ _ => pg_name (i := 5) scGI.nd rfl (.inl rfl)) (fun _ _ _ _ _ => pts_one (pt_cmpR op_in_seq (pv 5) (pv 3) (by rfl))) (fun _ _ _ _ _ => pv 5))) sel_weakB) rfl) (pss_cons (ps_fld (pv 0) (pe_weak (t' := tMov2 K) (pe_lock (pe_dc (own := [("letter", 5)]) (g := gName 5) (tt := tTest (tOp (rIn K true) (tVar 5) (tVar 2))) (tk := tVar 5) (tv := tC (.bl true)) rfl scGI.nd (pi_keys (pv 1)) (blkOk_by (own := [("letter", 5)]) (N := giN) (sc := defScope sGI) (by decide +kernel)) (fun _ _ _ _ _ => pg_name (i := 5) scGI.nd rfl (.inl rfl)) (fun _ _ _ _ _ => pts_one (pt_cmpR op_notIn_seq (pv 5) (pv 2) (by rfl))) (fun _ _ _ _ _ => pv 5) (fun _ _ _ _ _ => pe_bl))) mov_weakA) rfl) (pss_cons (ps_fld (pv 0) (pe_dc (own := [("letter", 5)]) (g := gName 5) (tt := tYes) (tk := tVar 5) (tv := tC (.bl true)) rfl scGI.nd (pi_seqW (pe_fld (pv 0) rfl)) (blkOk_by (own := [("letter", 5)]) (N := giN) (sc := defScope sGI) (by decide +kernel)) (fun _ _ _ _ _ => pg_name (i := 5) scGI.nd rfl (.inl rfl)) (fun _ _ _ _ _ => pts_nil) (fun _ _ _ _ _ => pv 5) (fun _ _ _ _ _ => pe_bl)) rfl) (pss_cons (ps_fld (pv 0) (pe_fn EB hr (by decide) rfl (pa_cons (pe_fld (pv 0) rfl) (pa_cons (pe_fld (pv 0) rfl) (pa_nil)))) rfl) (pss_one (ps_fld (pv 0) (DictT.pe_dcT (own := [("place", 6), ("row", 7)]) (g := gTup K 2 (gCons (gName 6) (gCons (gName 7) gNil))) (tt := tYes) (tk := tVar 7) (tv := tVar 6) .t (hu_of hr) rfl scGI.nd (pi_enumW rfl T.enum (pa_cons (pe_fn PM hr (by decide) rfl (pa_cons (pe_fld (pv 0) rfl) (pa_cons (pe_callTy (call_listD rfl) (by rfl) T.list (by decide +kernel) (pa_cons (pe_fld (pv 0) rfl) (pa_nil))) (pa_nil)))) pa_nil)) (blkOk_by (own := [("place", 6), ("row", 7)]) (N := giN) (sc := defScope sGI) (by decide +kernel)) (fun _ _ _ _ _ => pg_tup rfl (pgs_cons (pg_name (i := 6) scGI.nd rfl (.inl rfl)) (pgs_cons (pg_name (i := 7) scGI.nd rfl (.inl rfl)) (pgs_nil)))) (fun _ _ _ _ _ => pts_nil) (fun _ _ _ _ _ => pv 7) (fun _ _ _ _ _ => pv 6)) rfl)))))))))))), ?_⟩
    have nm : ∀ x ∈ nmA, nameB x = true := by decide +kernel
    refine ⟨_, rfl, a, g.letters, rfl, hL, wf.ne, fun q hq => ⟨nm _ (wf.nm q hq), wf.ar q hq⟩, fun H1 s1 => ?_⟩
    refine ⟨_, rfl, _, rfl, a, b, g.letters, g.fixed, rfl, s1 _ _ hL, wf.nd, hF.mono s1, wf.fx, fun H2 s2 => ?_⟩
    have S2 := s1.trans s2
    refine ⟨_, rfl, _, rfl, _, rfl, a, b, c, g.letters, g.fixed, g.comm, rfl, S2 _ _ hL, wf.nd, hF.mono S2, hC.mono S2, wf.fx.nodup wf.nd, wf.cm, wf.c2, fun H3 s3 => ?_⟩
    have S3 := S2.trans s3
    refine ⟨_, rfl, _, rfl, _, rfl, _, rfl, a, b, c, d, g, rfl, S3 _ _ hL, hF.mono S3, hC.mono S3, hA2 S3, wf, fun l1 H4 nl1 s4 hl1 => ?_⟩
    have S4 := S3.trans s4
    have xa : a ≠ x := ne_of hL hx (fun z => nomatch z)
    refine ⟨_, rfl, x, C, dx, _, rfl, S4 _ _ hx, cl, n1, by show 0 < 1000; decide, ?_⟩
    obtain ⟨H5, b5, h5, B5, e5⟩ : ∃ H5, (∀ b o, b ≠ x → H4 b = some o → H5 b = some o) ∧ H5 x = some (.ins C dx (putF "_facts" (.ref l1) [])) ∧ Bt [x] H4 H5 ∧ upd H4 x (.ins C dx (putF "_facts" (.ref l1) [])) = H5 := ⟨_, fun b o z e => by rw [upd_ne z]; exact e, upd_same, bt_upd (by simp), rfl⟩
    rw [e5]
    have hL5 := b5 _ _ xa (S4 _ _ hL)
    refine ⟨_, rfl, a, _, rfl, .inl hL5, fun l2 nl2 => ?_⟩
    obtain ⟨H6, s6, h6, e6⟩ := lay (o := .dK (lkv g.letters)) nl2
    rw [e6]
    refine ⟨_, rfl, x, C, dx, _, rfl, s6 _ _ h5, cl, n2, by show 1 < 1000; decide, ?_⟩
    obtain ⟨H7, b7, h7, B7, e7⟩ : ∃ H7, (∀ b o, b ≠ x → H6 b = some o → H7 b = some o) ∧ H7 x = some (.ins C dx (putF "_letters" (.ref l2) (putF "_facts" (.ref l1) []))) ∧ Bt [x] H6 H7 ∧ upd H6 x (.ins C dx (putF "_letters" (.ref l2) (putF "_facts" (.ref l1) []))) = H7 := ⟨_, fun b o z e => by rw [upd_ne z]; exact e, upd_same, bt_upd (by simp), rfl⟩
    rw [e7]
    have x2 : l2 ≠ x := fun e => by rw [e, h5] at nl2; cases nl2
    have hL7 := b7 _ _ xa (s6 _ _ hL5)
    have h7l := b7 _ _ x2 h6
    refine ⟨_, rfl, a, _, rfl, .inl hL7, fun l3 nl3 => ?_⟩
    obtain ⟨H8, s8, h8, e8⟩ := lay (o := .lst ((lkv g.letters).map fun kv => kV kv.1)) nl3
    rw [e8]
    refine ⟨_, rfl, x, C, dx, _, rfl, s8 _ _ h7, cl, n3, by show 2 < 1000; decide, ?_⟩
    obtain ⟨H9, b9, h9, B9, e9⟩ : ∃ H9, (∀ b o, b ≠ x → H8 b = some o → H9 b = some o) ∧ H9 x = some (.ins C dx (putF "_order" (.ref l3) (putF "_letters" (.ref l2) (putF "_facts" (.ref l1) [])))) ∧ Bt [x] H8 H9 ∧ upd H8 x (.ins C dx (putF "_order" (.ref l3) (putF "_letters" (.ref l2) (putF "_facts" (.ref l1) [])))) = H9 := ⟨_, fun b o z e => by rw [upd_ne z]; exact e, upd_same, bt_upd (by simp), rfl⟩
    rw [e9]
    have B49 : Bt [x] H4 H9 := B5.trans ((bt_of s6).trans (B7.trans ((bt_of s8).trans B9)))
    have hL9 := bt_at B49 (ni1 xa) (S4 _ _ hL)
    have hFh9 := (offx hF).mono ((hid_same S4).trans B49)
    have hF9 := hFh9.mono (hid_low _ _)
    have hCh9 := (offx hC).mono ((hid_same S4).trans B49)
    have h9l := b9 _ _ x2 (s8 _ _ h7l)
    have l8 : g.letters.length ≤ 1000 := by
      have := wf.le
      omega
    refine ⟨_, a, _, _, _, _, _, _, b, g.letters, g.fixed, rfl, .inl ⟨rfl, rfl⟩, hL9, hF9, l8, fun l4 H10 nl4 s10 hl4 => ?_⟩
    refine ⟨_, rfl, x, C, dx, _, rfl, s10 _ _ h9, cl, n4, by show 3 < 1000; decide, ?_⟩
    obtain ⟨H11, b11, h11, B11, e11⟩ : ∃ H11, (∀ b o, b ≠ x → H10 b = some o → H11 b = some o) ∧ H11 x = some (.ins C dx (putF "_fixed" (.ref l4) (putF "_order" (.ref l3) (putF "_letters" (.ref l2) (putF "_facts" (.ref l1) []))))) ∧ Bt [x] H10 H11 ∧ upd H10 x (.ins C dx (putF "_fixed" (.ref l4) (putF "_order" (.ref l3) (putF "_letters" (.ref l2) (putF "_facts" (.ref l1) []))))) = H11 := ⟨_, fun b o z e => by rw [upd_ne z]; exact e, upd_same, bt_upd (by simp), rfl⟩
    rw [e11]
    refine ⟨_, a, _, _, _, _, _, _, c, g.letters, g.comm, rfl, .inr ⟨rfl, rfl⟩, b11 _ _ xa (s10 _ _ hL9), (hCh9.mono ((hid_same s10).trans B11)).mono (hid_low _ _), l8, fun l5 H12 nl5 s12 hl5 => ?_⟩
    refine ⟨_, rfl, x, C, dx, _, rfl, s12 _ _ h11, cl, n5, by show 4 < 1000; decide, ?_⟩
    obtain ⟨H13, b13, h13, B13, e13⟩ : ∃ H13, (∀ b o, b ≠ x → H12 b = some o → H13 b = some o) ∧ H13 x = some (.ins C dx (putF "_commuting" (.ref l5) (putF "_fixed" (.ref l4) (putF "_order" (.ref l3) (putF "_letters" (.ref l2) (putF "_facts" (.ref l1) [])))))) ∧ Bt [x] H12 H13 ∧ upd H12 x (.ins C dx (putF "_commuting" (.ref l5) (putF "_fixed" (.ref l4) (putF "_order" (.ref l3) (putF "_letters" (.ref l2) (putF "_facts" (.ref l1) [])))))) = H13 := ⟨_, fun b o z e => by rw [upd_ne z]; exact e, upd_same, bt_upd (by simp), rfl⟩
    rw [e13]
    have B913 : Bt [x] H9 H13 := (bt_of s10).trans (B11.trans ((bt_of s12).trans B13))
    have lk5 : (putF "_commuting" (.ref l5) (putF "_fixed" (.ref l4) (putF "_order" (.ref l3) (putF "_letters" (.ref l2) (putF "_facts" (.ref l1) []))))).lookup ("_commuting" : Str) = some (.ref l5) := by rw [lookup_putF, if_pos rfl]
    have hL13 := b13 _ _ xa (s12 _ _ (b11 _ _ xa (s10 _ _ hL9)))
    have hF13 := (hFh9.mono ((hid_same s10).trans (B11.trans ((hid_same s12).trans B13)))).mono (hid_low _ _)
    refine ⟨_, a, _, _, _, _, _, b, g.letters, g.fixed, rfl, hL13, hF13, wf.nd, l8, fun l6 H14 nl6 s14 hl6 => ?_⟩
    refine ⟨_, rfl, x, C, dx, _, rfl, s14 _ _ h13, cl, n6, by show 5 < 1000; decide, ?_⟩
    obtain ⟨H15, b15, h15, B15, e15⟩ : ∃ H15, (∀ b o, b ≠ x → H14 b = some o → H15 b = some o) ∧ H15 x = some (.ins C dx (putF "moving" (.ref l6) (putF "_commuting" (.ref l5) (putF "_fixed" (.ref l4) (putF "_order" (.ref l3) (putF "_letters" (.ref l2) (putF "_facts" (.ref l1) []))))))) ∧ Bt [x] H14 H15 ∧ upd H14 x (.ins C dx (putF "moving" (.ref l6) (putF "_commuting" (.ref l5) (putF "_fixed" (.ref l4) (putF "_order" (.ref l3) (putF "_letters" (.ref l2) (putF "_facts" (.ref l1) []))))))) = H15 := ⟨_, fun b o z e => by rw [upd_ne z]; exact e, upd_same, bt_upd (by simp), rfl⟩
    rw [e15]
    have x5 : l5 ≠ x := fun e => by rw [e, h11] at nl5; cases nl5
    have hl5c : H15 l5 = some (.lst (sts g.comm)) := by
      rw [filter_sub (wf.cm.trans wf.fx) wf.nd] at hl5
      exact b15 _ _ x5 (s14 _ _ (b13 _ _ x5 hl5))
    refine ⟨_, rfl, x, C, dx, _, _, rfl, h15, cl, n5, (by rw [lookup_putF, if_neg (by decide +kernel), lookup_putF, if_pos rfl] : (putF "moving" (.ref l6) (putF "_commuting" (.ref l5) (putF "_fixed" (.ref l4) (putF "_order" (.ref l3) (putF "_letters" (.ref l2) (putF "_facts" (.ref l1) [])))))).lookup ("_commuting" : Str) = some (.ref l5)), l5, sts g.comm, true, [], rfl, SqL.of (hid_to (by simp) hl5c), fun J WJ l7 nl7 => ?_⟩
    refine dcK_it WJ (fun i H' => Same H15 H' ∧ H' l7 = some (.dK (trueK (g.comm.take i)))) ⟨same_new nl7, upd_same⟩ (fun i H' _ s => SqL.of (hid_to (by simp) (s.1 _ _ hl5c))) ?_ ?_
    · rintro i y H1' H2' hi ⟨sc, hD⟩ ⟨rfl, hy⟩
      obtain ⟨sy, hsy, rfl⟩ := sts_at hy
      refine ⟨rfl, ?_⟩
      have hn : sy ∉ g.comm.take i := not_in_take (wf.cm.nodup (wf.fx.nodup wf.nd)) hsy
      refine ⟨_, rfl, _, .inr sy, rfl, hD, ?_, ?_⟩
      · unfold trueK
        rw [List.length_map, List.length_take, sizeLine_eq]
        have := (wf.cm.trans wf.fx).length_le
        rw [List.length_map] at this
        omega
      · refine ⟨fun b o e => ?_, ?_⟩
        · rw [upd_ne (ne_of_none e nl7)]; exact sc _ _ e
        · rw [upd_same, putTrue hn, take_at hsy]
    rintro H16 ⟨s16, hl7⟩
    rw [List.take_of_length_le (by rw [sts_len]; exact Nat.le_refl _)] at hl7
    refine ⟨_, rfl, x, C, dx, _, rfl, s16 _ _ h15, cl, n7, by show 6 < 1000; decide, ?_⟩
    obtain ⟨H17, b17, h17, B17, e17⟩ : ∃ H17, (∀ b o, b ≠ x → H16 b = some o → H17 b = some o) ∧ H17 x = some (.ins C dx (putF "commutes" (.ref l7) (putF "moving" (.ref l6) (putF "_commuting" (.ref l5) (putF "_fixed" (.ref l4) (putF "_order" (.ref l3) (putF "_letters" (.ref l2) (putF "_facts" (.ref l1) [])))))))) ∧ Bt [x] H16 H17 ∧ upd H16 x (.ins C dx (putF "commutes" (.ref l7) (putF "moving" (.ref l6) (putF "_commuting" (.ref l5) (putF "_fixed" (.ref l4) (putF "_order" (.ref l3) (putF "_letters" (.ref l2) (putF "_facts" (.ref l1) [])))))))) = H17 := ⟨_, fun b o z e => by rw [upd_ne z]; exact e, upd_same, bt_upd (by simp), rfl⟩
    rw [e17]
    have x7 : l7 ≠ x := fun e => by rw [e, h15] at nl7; cases nl7
    have x6 : l6 ≠ x := fun e => by rw [e, h13] at nl6; cases nl6
    have x3 : l3 ≠ x := fun e => by rw [e, h7] at nl3; cases nl3
    have B417 : Bt [x] H4 H17 := B49.trans (B913.trans ((bt_of s14).trans (B15.trans ((bt_of s16).trans B17))))
    have hA17 : FactsAt H17 l1 g.facts := ((hl1.hidX (S4 _ _ hx)).mono B417).mono (hid_low _ _)
    have hl6c : H17 l6 = some (.dK (trueK ((g.letters.map (·.1)).filter fun x => !decide (x ∈ g.fixed)))) := b17 _ _ x6 (s16 _ _ (b15 _ _ x6 hl6))
    have hl3c : H17 l3 = some (.lst (sts (g.letters.map (·.1)))) := by
      rw [lkv_keys] at h8
      exact bt_at ((B9.trans B913).trans ((bt_of s14).trans (B15.trans ((bt_of s16).trans B17)))) (ni1 x3) h8
    refine ⟨_, rfl, x, C, dx, _, _, rfl, h17, cl, n1, (by rw [lookup_putF, if_neg (by decide +kernel), lookup_putF, if_neg (by decide +kernel), lookup_putF, if_neg (by decide +kernel), lookup_putF, if_neg (by decide +kernel), lookup_putF, if_neg (by decide +kernel), lookup_putF, if_neg (by decide +kernel), lookup_putF, if_pos rfl] : (putF "commutes" (.ref l7) (putF "moving" (.ref l6) (putF "_commuting" (.ref l5) (putF "_fixed" (.ref l4) (putF "_order" (.ref l3) (putF "_letters" (.ref l2) (putF "_facts" (.ref l1) []))))))).lookup ("_facts" : Str) = some (.ref l1)), _, rfl, x, C, dx, _, _, rfl, h17, cl, n7, (by rw [lookup_putF, if_pos rfl] : (putF "commutes" (.ref l7) (putF "moving" (.ref l6) (putF "_commuting" (.ref l5) (putF "_fixed" (.ref l4) (putF "_order" (.ref l3) (putF "_letters" (.ref l2) (putF "_facts" (.ref l1) []))))))).lookup ("commutes" : Str) = some (.ref l7)), l1, l7, g, rfl, hA17, b17 _ _ x7 hl7, wf, fun l8 xs H18 nl8 s18 h18d k18 p18 => ?_⟩
    refine ⟨_, rfl, x, C, dx, _, rfl, s18 _ _ h17, cl, n8, by show 7 < 1000; decide, ?_⟩
    obtain ⟨H19, b19, h19, B19, e19⟩ : ∃ H19, (∀ b o, b ≠ x → H18 b = some o → H19 b = some o) ∧ H19 x = some (.ins C dx (putF "known_ends" (.ref l8) (putF "commutes" (.ref l7) (putF "moving" (.ref l6) (putF "_commuting" (.ref l5) (putF "_fixed" (.ref l4) (putF "_order" (.ref l3) (putF "_letters" (.ref l2) (putF "_facts" (.ref l1) []))))))))) ∧ Bt [x] H18 H19 ∧ upd H18 x (.ins C dx (putF "known_ends" (.ref l8) (putF "commutes" (.ref l7) (putF "moving" (.ref l6) (putF "_commuting" (.ref l5) (putF "_fixed" (.ref l4) (putF "_order" (.ref l3) (putF "_letters" (.ref l2) (putF "_facts" (.ref l1) []))))))))) = H19 := ⟨_, fun b o z e => by rw [upd_ne z]; exact e, upd_same, bt_upd (by simp), rfl⟩
    rw [e19]
    have lm : (g.letters.map (·.1)).length ≤ 20 := by
      have := wf.le
      rw [List.length_map]
      omega
    have lm2 := List.length_filter_le (fun x => !decide (x ∈ g.fixed)) (g.letters.map (·.1))
    refine ⟨_, rfl, x, C, dx, _, _, rfl, h19, cl, n3, (by rw [lookup_putF, if_neg (by decide +kernel), lookup_putF, if_neg (by decide +kernel), lookup_putF, if_neg (by decide +kernel), lookup_putF, if_neg (by decide +kernel), lookup_putF, if_neg (by decide +kernel), lookup_putF, if_pos rfl] : (putF "known_ends" (.ref l8) (putF "commutes" (.ref l7) (putF "moving" (.ref l6) (putF "_commuting" (.ref l5) (putF "_fixed" (.ref l4) (putF "_order" (.ref l3) (putF "_letters" (.ref l2) (putF "_facts" (.ref l1) [])))))))).lookup ("_order" : Str) = some (.ref l3)), _, rfl, x, C, dx, _, _, rfl, h19, cl, n6, (by rw [lookup_putF, if_neg (by decide +kernel), lookup_putF, if_neg (by decide +kernel), lookup_putF, if_pos rfl] : (putF "known_ends" (.ref l8) (putF "commutes" (.ref l7) (putF "moving" (.ref l6) (putF "_commuting" (.ref l5) (putF "_fixed" (.ref l4) (putF "_order" (.ref l3) (putF "_letters" (.ref l2) (putF "_facts" (.ref l1) [])))))))).lookup ("moving" : Str) = some (.ref l6)), l6, _, rfl, .inl (b19 _ _ x6 (s18 _ _ hl6c)), fun lv nlv => ?_⟩
    rw [true_keys]
    obtain ⟨H20, s20, h20, e20⟩ := lay (o := .lst (sts ((g.letters.map (·.1)).filter fun x => !decide (x ∈ g.fixed)))) nlv
    rw [e20]
    refine ⟨l3, lv, _, _, rfl, s20 _ _ (b19 _ _ x3 (s18 _ _ hl3c)), h20, lm, by omega, fun lp ts H21 nlp s21 hlp rlp => ?_⟩
    have lrow := allPerms_len lm (show ((g.letters.map (·.1)).filter fun x => !decide (x ∈ g.fixed)).length ≤ 20 by omega)
    generalize hrows : allPerms (g.letters.map (·.1)) ((g.letters.map (·.1)).filter fun x => !decide (x ∈ g.fixed)) = rows at rlp lrow
    refine ⟨lp, ts.map V.ref, true, [], rfl, SqL.of (hid_to (by simp) hlp), fun J WJ l9 nl9 => ?_⟩
    refine DictT.dc_it WJ (fun i H' => Same H21 H' ∧ H' l9 = some (.dT (plK rows i))) ⟨same_new nl9, upd_same⟩ (fun i H' _ s => SqL.of (hid_to (by simp) (s.1 _ _ hlp))) ?_ ?_
    · rintro i y H1' H2' hi ⟨sc, hD⟩ ⟨Tp, y1, y2, rfl, nT, rfl, e1, e2⟩
      obtain rfl := Option.some.inj e1
      have e2 : (ts.map V.ref)[i]? = some y2 := e2
      rw [List.getElem?_map] at e2
      obtain ⟨t, htt, rfl⟩ := Option.map_eq_some_iff.mp e2
      have hir : i < rows.length := by rw [rlp.len]; exact (List.getElem?_eq_some_iff.mp htt).1
      obtain ⟨t', ht', hrt⟩ := paired_at' rlp (List.getElem?_eq_getElem hir)
      obtain rfl : t' = t := by rw [htt] at ht'; exact (Option.some.inj ht').symm
      obtain ⟨H3', s3', h3', e3'⟩ := lay (o := .tup [.int (i : Nat), .ref t']) nT
      rw [e3']
      have hrt : H21 t' = some (.tup (sts rows[i])) := hrt
      have hk : H3' t' = some (.tup (((rows[i].map Sum.inr : List Key)).map kV)) := by rw [← sts_kV]; exact s3' _ _ (sc _ _ hrt)
      have hl := plK_len rows i
      have eg : rows.getD i [] = rows[i] := by rw [List.getD_eq_getElem?_getD, List.getElem?_eq_getElem hir]; rfl
      refine ⟨Tp, _, rfl, SqT.of h3', rfl, _, _, rfl, _, _, rfl, rfl, ?_⟩
      refine ⟨rfl, ?_⟩
      refine ⟨_, rfl, _, rfl, _, DPut.t (s3' _ _ hD) hk (by rw [sizeLine_eq]; omega), fun b o e => ?_, ?_⟩
      · rw [upd_ne (ne_of_none e nl9)]; exact s3' _ _ (sc _ _ e)
      · rw [upd_same, plK, eg]
    rintro H22 ⟨s22, hl9⟩
    refine ⟨_, rfl, x, C, dx, _, rfl, s22 _ _ (s21 _ _ (s20 _ _ h19)), cl, n9, by show 8 < 1000; decide, ?_⟩
    obtain ⟨H23, b23, h23, B23, e23⟩ : ∃ H23, (∀ b o, b ≠ x → H22 b = some o → H23 b = some o) ∧ H23 x = some (.ins C dx (putF "places" (.ref l9) (putF "known_ends" (.ref l8) (putF "commutes" (.ref l7) (putF "moving" (.ref l6) (putF "_commuting" (.ref l5) (putF "_fixed" (.ref l4) (putF "_order" (.ref l3) (putF "_letters" (.ref l2) (putF "_facts" (.ref l1) [])))))))))) ∧ Bt [x] H22 H23 ∧ upd H22 x (.ins C dx (putF "places" (.ref l9) (putF "known_ends" (.ref l8) (putF "commutes" (.ref l7) (putF "moving" (.ref l6) (putF "_commuting" (.ref l5) (putF "_fixed" (.ref l4) (putF "_order" (.ref l3) (putF "_letters" (.ref l2) (putF "_facts" (.ref l1) [])))))))))) = H23 := ⟨_, fun b o z e => by rw [upd_ne z]; exact e, upd_same, bt_upd (by simp), rfl⟩
    rw [e23]
    have B1723 : Bt [x] H17 H23 := (bt_of s18).trans (B19.trans ((bt_of ((s20.trans s21).trans s22)).trans B23))
    have h17l := bt_at ((B913.trans ((bt_of s14).trans (B15.trans ((bt_of s16).trans B17)))).trans B1723) (ni1 x2) h9l
    refine q H23 ((bt_of S4).trans (B417.trans B1723)) ⟨dx, _, l2, h23, ?_, h17l, ?_⟩
    · exact (by rw [lookup_putF, if_neg (by decide +kernel), lookup_putF, if_neg (by decide +kernel), lookup_putF, if_neg (by decide +kernel), lookup_putF, if_neg (by decide +kernel), lookup_putF, if_neg (by decide +kernel), lookup_putF, if_neg (by decide +kernel), lookup_putF, if_neg (by decide +kernel), lookup_putF, if_pos rfl] : (putF "places" (.ref l9) (putF "known_ends" (.ref l8) (putF "commutes" (.ref l7) (putF "moving" (.ref l6) (putF "_commuting" (.ref l5) (putF "_fixed" (.ref l4) (putF "_order" (.ref l3) (putF "_letters" (.ref l2) (putF "_facts" (.ref l1) []))))))))).lookup ("_letters" : Str) = some (.ref l2))
    · exact (by rw [lookup_putF, if_neg (by decide +kernel), lookup_putF, if_neg (by decide +kernel), lookup_putF, if_neg (by decide +kernel), lookup_putF, if_neg (by decide +kernel), lookup_putF, if_neg (by decide +kernel), lookup_putF, if_neg (by decide +kernel), lookup_putF, if_neg (by decide +kernel), lookup_putF, if_neg (by decide +kernel), lookup_putF, if_neg (by decide +kernel)]; rfl : (putF "places" (.ref l9) (putF "known_ends" (.ref l8) (putF "commutes" (.ref l7) (putF "moving" (.ref l6) (putF "_commuting" (.ref l5) (putF "_fixed" (.ref l4) (putF "_order" (.ref l3) (putF "_letters" (.ref l2) (putF "_facts" (.ref l1) []))))))))).lookup ("parts_of" : Str) = none)
end
end K27
set_option Elab.async false
set_option linter.all false
set_option autoImplicit false
set_option maxRecDepth 100000
set_option maxHeartbeats 16000000
namespace K27
open PySem PySem.Spec L2 GB
def lastT : GB.Tm := .mk "if" "" [.mk "use" "if" [.mk "use" "x" []], .mk "value" "if" [], .mk "fail" "fail" []]
def lastL : List (Str × Nat) := [("if", 1), ("x", 0)]
theorem lastTx : txS lastT = "if(.if(x()), 'if, fail(fail))" := cl_inj (by decide +kernel)
def lastP : PyData := .tuple [.str "use", .str "if", .tuple [.tuple [.str "use", .str "x", .tuple []]]]
theorem lastD : lastT.d = .tuple [.str "if", lastP, .tuple [.str "value", .str "if"], .tuple [.str "fail", .str "fail"]] := by rfl
theorem lastOk : TmOk lastL [] lastT := by
  refine .mk (.op (by decide +kernel)) fun i k h => ?_
  match i, h with
  | 0, h =>
    obtain rfl := Option.some.inj h
    refine .mk (.use (by decide +kernel)) fun i k h => ?_
    match i, h with
    | 0, h =>
      obtain rfl := Option.some.inj h
      exact .mk (.use (by decide +kernel)) fun i k h => nomatch h
  | 1, h =>
    obtain rfl := Option.some.inj h
    exact .mk (.val (by decide +kernel)) fun i k h => nomatch h
  | 2, h =>
    obtain rfl := Option.some.inj h
    exact .mk (.fail (by decide +kernel)) fun i k h => nomatch h
theorem lastWf : GD.Wf ⟨lastL, [], [], []⟩ := ⟨(fun e => nomatch e), by decide +kernel, by decide +kernel, by decide, by decide, List.nil_sublist _, List.nil_sublist _, (fun x h => nomatch h), by decide, (fun f h => nomatch h), .nil⟩
structure LastT (P : Program) (w : World) (K : PySem.W.Frag) (mg : Str → Option Value) (base : Heap) (C : Addr) : Prop where
  T : Bl mg
  RD : Fns P w K mg base "read" 34 ["ground", "text"] (spRd K C)
  gC : mg "Ground" = some (.ref C)
  mkd : ∃ (fI : Addr) (fdI : FuncData) (d1 d2 d3 : Addr) (ds : List Value), Mk K C fI ∧ FnOk P w K mg base CX0 5 fI fdI ["self", "letters", "fixed", "commuting", "facts"] (spGI2 K C) ∧ Binds K fdI ["self", "letters", "fixed", "commuting", "facts"] ds ∧ Vals [.ref d1, .ref d2, .ref d3] ds ∧ (∀ H, SqT K H d1 []) ∧ (∀ H, SqT K H d2 []) ∧ ∀ H, SqT K H d3 []
section
variable {P : Program} {w : World} {K : PySem.W.Frag} {mg : Str → Option Value} {base : Heap} {C f a : Addr} {cdv : Value}
theorem ok_last {s : Shared} {H : Hp} (Z : LastT P w K mg base C) (hr : Room 45 (callerA.deeper (PyProof.Rows.envOfC "law" (defScope sLaw) s.heap.objs.size f cdv))) :
    ∃ t, PS (cxOf CX0 P w K mg base lawN "law" (defScope sLaw) f cdv callerA [] s H (fun _ _ _ => False)).nox ((defBody sLaw).getD 1 (.Pass ⟨0, 0, 0, 0⟩)) t ∧ ∀ (D : Ends) (σ : L2.St) (J : Hp), (∀ J', D.rt (.bl true) J') → t D σ J := by
  obtain ⟨T, RD, gC, fI, fdI, d1, d2, d3, ds, MK, FI, bI, rd, z1, z2, z3⟩ := Z
  refine ⟨_, ps_ret (pe_cmpR (op_eqD hr.units) (pe_ix ix_seq (pe_fn RD hr (by decide) rfl (pa_cons (pe_make MK FI (hr.mono (by decide)) rfl gC bI rd pass0 (pa_cons (pe_disp (pps_cons pe_str pe_int (pps_cons pe_str pe_int pps_nil)) rfl rfl (fun e => nomatch e) (by simp)) pa_nil)) (pa_cons pe_str pa_nil))) pe_int (fun _ _ => rfl)) (pe_tup (pa_cons pe_str (pa_cons pe_str (pa_cons (pe_tup (pa_cons (pe_tup (pa_cons pe_str (pa_cons pe_str (pa_cons (pe_tup pa_nil) pa_nil)))) pa_nil)) pa_nil)))) (nomark _)), fun D σ J q => ?_⟩
  intro p np
  obtain ⟨J0, s0, h0, e0⟩ := lay (o := .dK []) np
  rw [e0]
  refine ⟨h0, [(.inr "if", .int 1), (.inr "x", .int 0)], rfl, by show (2 : Nat) ≤ 15; decide, ?_⟩
  have em : mergeK [] [((.inr "if" : Key), V.int 1), (.inr "x", .int 0)] = lkv lastL := merge_lkv lastL [] (by decide +kernel)
  rw [em]
  have S1 : Same J (upd J0 p (.dK (lkv lastL))) := fun b o e => by rw [upd_ne (ne_of_none e np)]; exact s0 _ _ e
  obtain ⟨J1, h1, S1, e1⟩ : ∃ J1, J1 p = some (.dK (lkv lastL)) ∧ Same J J1 ∧ upd J0 p (.dK (lkv lastL)) = J1 := ⟨_, upd_same, S1, rfl⟩
  rw [e1]
  intro x dx nx ndx ne
  have s2 : Same J1 (upd (upd J1 dx (.own x)) x (.ins C dx [])) := fun b o e => by
    rw [upd_ne (ne_of_none e nx), upd_ne (ne_of_none e ndx)]
    exact e
  refine ⟨x, dx, p, d1, d2, d3, ⟨lastL, [], [], []⟩, rfl, upd_same, s2 _ _ h1, .inr (z1 _), .inr (z2 _), ⟨[], .inr (z3 _), .nil⟩, lastWf, fun J2 b2 gr => ⟨rfl, ?_⟩⟩
  refine ⟨x, ⟨lastL, [], [], []⟩, lastT, by rw [lastTx]; rfl, gr, lastWf.nd, lastWf.nm, lastWf.ar, lastOk, by decide, fun v J3 s3 hv => ?_⟩
  rw [lastD] at hv
  cases hv with
  | tup hs hall =>
  cases hall with
  | cons a0 r0 =>
  cases r0 with
  | cons a1 r1 =>
  refine ixA (.inr hs) 1 rfl ?_
  refine ⟨by show 0 ≤ sizeLine; decide, fun t1 n1 => ?_⟩
  obtain ⟨L1, g1, k1, u1⟩ := lay (o := .tup []) n1
  rw [u1]
  refine ⟨by show 3 ≤ sizeLine; decide, fun t2 n2 => ?_⟩
  obtain ⟨L2', g2, k2, u2⟩ := lay (o := .tup [.str "use", .str "x", .ref t1]) n2
  rw [u2]
  refine ⟨by show 1 ≤ sizeLine; decide, fun t3 n3 => ?_⟩
  obtain ⟨L3, g3, k3, u3⟩ := lay (o := .tup [.ref t2]) n3
  rw [u3]
  refine ⟨by show 3 ≤ sizeLine; decide, fun t4 n4 => ?_⟩
  obtain ⟨L4, g4, k4, u4⟩ := lay (o := .tup [.str "use", .str "if", .ref t3]) n4
  rw [u4]
  have hd4 : Dp K L4 (.ref t4) lastP := .tup (SqT.of k4) (.cons (.str _) (.cons (.str _) (.cons (.tup (SqT.of (g4 _ _ k3)) (.cons (.tup (SqT.of ((g3.trans g4) _ _ k2)) (.cons (.str _) (.cons (.str _) (.cons (.tup (SqT.of (((g2.trans g3).trans g4) _ _ k1)) .nil) .nil)))) .nil)) .nil)))
  refine ⟨lastP, lastP, dp_mono (((g1.trans g2).trans g3).trans g4) a1, hd4, by decide +kernel, by decide +kernel, ?_⟩
  rw [SeqAt.eqv_refl _ (by decide +kernel)]
  exact q _
end
end K27
set_option Elab.async false
set_option linter.all false
set_option maxRecDepth 100000
set_option maxHeartbeats 8000000
/-! The end of a law whose own body asks repr: at the outer call it is known that no repr is under way. -/
namespace EndG
open PySem PySem.Spec PyProof.Rows L2 LamX
/-- a call of a def in one surrounding -/
theorem fn_at {CT : CXT} {P : Program} {w : World} {K : PySem.W.Frag} {mg : Str → Option Value} {base : Heap} {k : Nat} {f : Addr} {nm ql : Str} {par : Arguments} {body : List Stmt} {sc : Scope} {dV kV doc pm cdv ct oc : Value} {an od : Option Addr} {osl : Array (Option Value)} {N ps : List Str}
    (lk : K.lookup f = some ⟨oc, od, .func (PySem.W.fnOf nm ql par body sc dV kV doc pm an cdv ct), osl⟩) (hcd : PySem.W.codeIn K cdv ql = true) (S : FnScope N ps sc) {A : Around} {outer : List Env} {s : Shared} {H : Hp} {args : Args} {us : List Value} {vs : List V} {Q : VK} {E : XK}
    (hr : Room (k + 1) A) (e0 : Env0 P w K mg base A outer s H) (hb : BindsTo s (PySem.W.fnOf nm ql par body sc dV kV doc pm an cdv ct) args (ps.zip us)) (r : Vals vs us) (hl : vs.length = ps.length)
    (hbody : ∃ t, PSs (cxOf CT P w K mg base N ql sc f cdv A outer s H E) body t ∧ t { nx := fun _ J => Q .non J, rt := Q } (L2.start N vs) H) :
    codeAny (model P w) A (.call (.ref f) args) (CR CT outer P w H s Q E) s := by
  have kIn : K.In s.heap := e0.mod.kin.keeps fun b o e => (e0.bs b o e).1
  have nolim : s.heap.NoLimit := e0.mod.nolimit.keeps fun b o e => (e0.bs b o e).1
  have kinds : ∀ y ∈ ps.zip us, sc.names.lookup y.1 = some .local ∨ (sc.names.lookup y.1 = some .cell ∧ ((cellsFrom (s.heap.objs.size + 1) sc.names []).lookup y.1).isSome = true) := by
    rintro ⟨n, v⟩ hy
    exact (S.par n (List.of_mem_zip hy).1).elim .inl fun q => .inr ⟨q, PySem.W.cellsFrom_some _ _ _ (.inl q)⟩
  refine codeAny_call_function hr.depth (kIn _ _ lk) rfl S.co S.gen rfl (PySem.W.codeRec_of kIn hcd) (hb _ _ _ _ (wpAny_newFunctionEnv_cells S.kind kinds fun env he t x => ?_))
  subst he
  refine ⟨nolim.keeps x.toInCall.keep, codeAny_func ?_⟩
  obtain ⟨tb, ht, hq⟩ := hbody
  have I : Inv (cxOf CT P w K mg base N ql sc f cdv A outer s H E) [] (L2.start N vs) H t := inv_start S hr.hd e0 hl r x
  refine wpAny_mono (ht.run [] t (L2.start N vs) H _ I hq) (fun fl t2 hs => ?_) fun e t2 hs => hs
  cases fl with
  | ret u => obtain ⟨v, τ, J, I2, rv, q⟩ := hs; exact ⟨v, J, I2.os, I2.bare, I2.base, I2.hok, rv, q⟩
  | next => obtain ⟨τ, J, I2, q⟩ := hs; exact ⟨V.non, J, I2.os, I2.bare, I2.base, I2.hok, rfl, q⟩
  | brk => exact hs.elim fun _ z => z.elim fun _ z => z.2.elim
  | cont => exact hs.elim fun _ z => z.elim fun _ z => z.2.elim
section
variable {P : Program} {w : World} {K : PySem.W.Frag} {mg mb : Str → Option Value} {fa a : Addr} {cs : List (Addr × Addr)} {t0 : Shared} {vs : List Value} {ns : List Int}
/-- the outer call, from what is promised of it alone -/
theorem call_top (KX : K.In t0.heap) (hns : t0.heap.Ns mainGlobals mg) (hb : t0.heap.Ns builtinsNs mb) (hbb : ∀ x : Str, x ≠ "__name__" → mb x = bootBuiltins x) (hlim : t0.heap.NoLimit) (hg : t0.gens = #[])
    (hT : ∀ p ∈ cs, t0.heap.get? p.2 = some { cls := .none, data := .fields #[] }) (nT : ∀ p ∈ cs, K.lookup p.2 = none) (hC : ∀ p ∈ cs, PySem.W.CodeHd t0.heap p.1 p.2)
    (hbm : ∃ (bm : Addr) (ob : Obj), mg "__builtins__" = some (.ref bm) ∧ bm ≠ builtinsNs ∧ t0.heap.get? bm = some ob ∧ ob.cls = .type "module" ∧ ob.dict = some builtinsNs ∧ ob.data = .plain)
    (ha : t0.heap.get? a = some { cls := .type "list", data := .seq vs.toArray }) (hi : IntsAre vs ns) (hl : ns.length ≤ sizeLine)
    (F : ∀ (base : Heap) (H : Hp), K.In base → base.Ns mainGlobals mg → (∀ p ∈ cs, TabB base mg p.1 p.2) → Env0 P w K mg base callerA [] t0 H → (∀ p ∈ cs, H p.2 = some (.tbl #[])) → SqL K H a (ns.map V.int) →
      codeAny (model P w) callerA (.call (.ref fa) ⟨[.ref a], []⟩) (CR CX0 [] P w H t0 (fun v _ => v = .bl true) fun _ _ _ => False) t0) :
    codeAny (model P w) callerA (.call (.ref fa) ⟨[.ref a], []⟩) (fun r t => r = .ok (.ret (.bool true)) ∧ OldK t0.heap t.heap ∧ t.os = t0.os ∧ AllBare t.gens) t0 := by
  have rv := vals_ints hi
  have lenV := hi.length
  have tabAt : ∀ b : Addr, b ∈ cs.map (·.2) → t0.heap.get? b = some { cls := .none, data := .fields #[] } := by
    intro b hb
    obtain ⟨p, hp, rfl⟩ := List.mem_map.mp hb
    exact hT p hp
  have aNo : a ∉ cs.map (·.2) := by
    intro z
    have q := ha.symm.trans (tabAt a z)
    have d : Data.seq vs.toArray _ = Data.fields #[] := congrArg Obj.data (Option.some.inj q)
    cases d
  have inT : ∀ p ∈ cs, p.2 ∈ cs.map (·.2) := fun p hp => List.mem_map.mpr ⟨p, hp, rfl⟩
  have core : ∀ H : Hp, (∀ p ∈ cs, H p.2 = some (.tbl #[])) → (∀ b, H b = none ∨ b ∈ cs.map (·.2) ∨ ∃ o xs, H b = some (.frz o (.lst xs))) → SqL K H a (ns.map V.int) → HOk P w H t0.heap → (∀ b, H b ≠ none → b = a ∨ b ∈ cs.map (·.2)) → (H a ≠ none → K.lookup a = none) →
      codeAny (model P w) callerA (.call (.ref fa) ⟨[.ref a], []⟩) (fun r t => r = .ok (.ret (.bool true)) ∧ OldK t0.heap t.heap ∧ t.os = t0.os ∧ AllBare t.gens) t0 := by
    intro H hH hO hS hok hA hK
    have low : ∀ {b : Addr} {o : Obj}, t0.heap.get? b = some o → H b = none → (hidT t0.heap H).get? b = some o := fun e n => hidT_get e n
    have free : ∀ {b : Addr} {o : Obj}, t0.heap.get? b = some o → (∀ us n, o.data ≠ .seq us n) → o.data ≠ .fields #[] → H b = none := by
      intro b o e h1 h2
      by_cases q : H b = none
      · exact q
      · rcases hA b q with z | z
        · rw [z, ha] at e
          cases e
          exact absurd rfl (h1 _ _)
        · rw [tabAt b z] at e
          cases e
          exact absurd rfl h2
    have lowNs : ∀ {b : Addr} {m : Str → Option Value}, t0.heap.Ns b m → (hidT t0.heap H).Ns b m := by
      rintro b m ⟨o, es, ep, e, d, r⟩
      exact ⟨o, es, ep, low e (free e (fun us n z => by rw [d] at z; cases z) fun z => by rw [d] at z; cases z), d, r⟩
    have hKb : K.In (hidT t0.heap H) := by
      intro b o e
      refine low (KX b o e) ?_
      by_cases q : H b = none
      · exact q
      · rcases hA b q with z | z
        · subst z
          rw [hK q] at e
          cases e
        · obtain ⟨p, hp, rfl⟩ := List.mem_map.mp z
          rw [nT p hp] at e
          cases e
    have hM : L2.Mod K mg (hidT t0.heap H) := ⟨hKb, lowNs hns, ⟨mb, lowNs hb, hbb⟩, let ⟨mc, h1, h2⟩ := hlim; ⟨mc, lowNs h1, h2⟩⟩
    have TB : ∀ p ∈ cs, TabB (hidT t0.heap H) mg p.1 p.2 := by
      intro p hp
      refine ⟨?_, ?_, ?_⟩
      · obtain ⟨o, us, file, tf, flags, tg, inF, text, tt, e1, r1, r2, r3, rest⟩ := hC p hp
        refine ⟨o, us, file, tf, flags, tg, inF, text, tt, low e1 (free e1 (fun us n z => by rw [r2] at z; cases z) fun z => ?_), r1, r2, r3, rest⟩
        rw [r2] at z
        cases z
        simp at r3
      · obtain ⟨bm, ob, b1, b2, b3, b4, b5, b6⟩ := hbm
        refine ⟨bm, ob, b1, b2, fun q => ?_, fun q => ?_, low b3 (free b3 (fun us n z => by rw [b6] at z; cases z) fun z => by rw [b6] at z; cases z), b4, b5, b6⟩
        · obtain ⟨o, es, ep, e, hd, _⟩ := hns
          rw [q, e] at b3
          cases b3
          rw [hd] at b6
          cases b6
        · rw [q, hT p hp] at b3
          cases b3
          cases b6
      · intro z
        obtain ⟨o, es, ep, e, hd, _⟩ := hns
        rw [z, hT p hp] at e
        cases e
        cases hd
    have e0 : Env0 P w K mg (hidT t0.heap H) callerA [] t0 H := ⟨rfl, hM, fun b o e => of_hidT e, Nat.le_of_eq (hidT_size _ _), trivial, fun b hb => absurd (show b ∈ ([] : List Addr) from hb) (by simp), hok, .of_eq hg⟩
    refine codeAny_mono (F _ H hKb (lowNs hns) TB e0 hH hS) fun r t h => ?_
    cases r with
    | error e => exact False.elim h
    | ok fl =>
      cases fl with
      | next => exact False.elim h
      | brk => exact False.elim h
      | cont => exact False.elim h
      | ret u =>
        obtain ⟨v, J, os, bare, un, hok2, rr, q⟩ := h
        have q2 : v = .bl true := q
        subst q2
        obtain rfl : u = Value.bool true := rr
        have stays : ∀ b o, b ∉ cs.map (·.2) → t0.heap.get? b = some o → t.heap.get? b = some o := by
          intro b o nb e
          by_cases hn : H b = none
          · exact un.keep b o e hn (by intro z; exact absurd (show b ∈ ([] : List Addr) from z) (by simp)) (by simp)
          · rcases hO b with z | z | ⟨ob, xs, z⟩
            · exact absurd z hn
            · exact absurd z nb
            · obtain ⟨e1, _⟩ := hok b _ z
              obtain ⟨e2, _⟩ := hok2 b _ (un.frzs b ob _ z)
              rw [e] at e1
              cases e1
              exact e2
        have grow : ∀ p ∈ cs, ∃ more : Array Value, t.heap.get? p.2 = some { cls := .none, data := .fields more } := by
          intro p hp
          obtain ⟨more, z⟩ := un.tbls p.2 #[] (hH p hp)
          exact ⟨_, hok2 p.2 _ z⟩
        refine ⟨rfl, ⟨fun b o e => ?_, fun b o e => ?_⟩, os, bare⟩
        · by_cases hbT : b ∈ cs.map (·.2)
          · obtain ⟨p, hp, rfl⟩ := List.mem_map.mp hbT
            obtain ⟨more, hm⟩ := grow p hp
            rw [hT p hp] at e
            cases e
            exact .inr (.inl ⟨((hC p hp).tab (hT p hp)).isCodeTable, rfl, #[], more, rfl, by rw [Array.empty_append]; exact hm⟩)
          · exact .inl (stays b o hbT e)
        · by_cases hbT : b ∈ cs.map (·.2)
          · obtain ⟨p, hp, rfl⟩ := List.mem_map.mp hbT
            obtain ⟨more, hm⟩ := grow p hp
            exact ⟨_, hm⟩
          · exact ⟨o, stays b o hbT e⟩
  cases hk : K.lookup a with
  | some o =>
    have e := (KX a o hk).symm.trans ha
    cases e
    refine core (fun b => if b ∈ cs.map (·.2) then some (.tbl #[]) else none) (fun p hp => if_pos (inT p hp)) (fun b => ?_) (.inr ⟨_, vs.toArray, _, hk, rfl, rfl, rfl, by rw [List.size_toArray, lenV]; exact hl, by simpa using rv⟩) (fun b u z => ?_) (fun b z => ?_) fun z => absurd (show (if a ∈ cs.map (·.2) then some (HO.tbl #[]) else none) = none from if_neg aNo) z
    · by_cases hbT : b ∈ cs.map (·.2)
      · exact .inr (.inl hbT)
      · exact .inl (if_neg hbT)
    · by_cases hbT : b ∈ cs.map (·.2)
      · cases (if_pos hbT).symm.trans z
        exact tabAt b hbT
      · cases (if_neg hbT).symm.trans z
    · by_cases hbT : b ∈ cs.map (·.2)
      · exact .inr hbT
      · exact absurd (if_neg hbT) z
  | none =>
    refine core (fun b => if b = a then some (.frz { cls := .type "list", data := .seq vs.toArray } (.lst (ns.map V.int))) else if b ∈ cs.map (·.2) then some (.tbl #[]) else none)
      (fun p hp => (if_neg (show ¬ p.2 = a from fun z => aNo (by rw [← z]; exact inT p hp))).trans (if_pos (inT p hp))) (fun b => ?_) (.inl (.inr ⟨{ cls := .type "list", data := .seq vs.toArray }, if_pos rfl⟩)) (fun b u z => ?_) (fun b z => ?_) fun _ => hk
    · by_cases h1 : b = a
      · exact .inr (.inr ⟨_, _, if_pos h1⟩)
      · by_cases hbT : b ∈ cs.map (·.2)
        · exact .inr (.inl hbT)
        · exact .inl ((if_neg h1).trans (if_neg hbT))
    · by_cases h1 : b = a
      · cases (if_pos h1).symm.trans z
        rw [h1]
        exact ⟨ha, by rw [List.length_map]; exact hl, vs, _, rv, ha⟩
      · have z1 := (if_neg h1).symm.trans z
        by_cases hbT : b ∈ cs.map (·.2)
        · cases (if_pos hbT).symm.trans z1
          exact tabAt b hbT
        · cases (if_neg hbT).symm.trans z1
    · by_cases h1 : b = a
      · exact .inl h1
      · by_cases hbT : b ∈ cs.map (·.2)
        · exact .inr hbT
        · exact absurd ((if_neg h1).trans (if_neg hbT)) z
end
/-- what is known of the law at the head's heap h: its body's promise, in the outer call's surrounding -/
def LawG (l : PySem.W.OpenLaw) (w : World) (K : PySem.W.Frag) (k n : Nat) (x : Str) (N : List Str) (mg : Str → Option Value) (fa : Addr) (h : Heap) : Prop :=
  ∃ (cs : List (Addr × Addr)) (nm ql : Str) (par : Arguments) (body : List Stmt) (sc : Scope) (dV kV doc pm cdv ct oc : Value) (an od : Option Addr) (osl : Array (Option Value)), K.lookup fa = some ⟨oc, od, .func (PySem.W.fnOf nm ql par body sc dV kV doc pm an cdv ct), osl⟩ ∧ PySem.W.codeIn K cdv ql = true ∧ FnScope N [x] sc ∧
    (∀ p ∈ cs, h.get? p.2 = some { cls := .none, data := .fields #[] }) ∧ (∀ p ∈ cs, K.lookup p.2 = none) ∧ (∀ p ∈ cs, PySem.W.CodeHd h p.1 p.2) ∧ (∀ (s : Shared) (u : Value), BindsTo s (PySem.W.fnOf nm ql par body sc dV kV doc pm an cdv ct) ⟨[u], []⟩ [(x, u)]) ∧
    ∀ (base : Heap) (t : Shared) (H : Hp) (a : Addr) (ns : List Int), K.In base → base.Ns mainGlobals mg → (∀ p ∈ cs, TabB base mg p.1 p.2) → ns.length ≤ n → (∀ p ∈ cs, H p.2 = some (.tbl #[])) → SqL K H a (ns.map V.int) → Room k (callerA.deeper (envOfC ql sc t.heap.objs.size fa cdv)) →
      ∃ tb, PSs (cxOf CX0 l.prog w K mg base N ql sc fa cdv callerA [] t H fun _ _ _ => False) body tb ∧ tb { nx := fun _ J => (V.non : V) = .bl true, rt := fun v _ => v = .bl true } (L2.start N [.ref a]) H
theorem walk_g {l : PySem.W.OpenLaw} {n k : Nat} {q : Program} {loose : List Str} {XP : (Str → Option Value) → Heap → Prop} {YP : World → Heap → Prop} {d : DefRec} {K : Params → PySem.W.Frag} {x : Str} {N : List Str}
    (hn : l.most = some n) (hn2 : n ≤ sizeLine) (hdf : d.params.defaults = []) (hr : Room (k + 1) callerA) (hrec : ((recsOf q).any fun e => e.name == d.name) = true) (hY : ∀ (w : World) (h : Heap), YP w h → (K w.params).In h)
    (F : ∀ (w : World) (mg : Str → Option Value) (fa : Addr) (h : Heap), (K w.params).In h → h.Ns mainGlobals mg → mg d.name = some (.ref fa) → OwnTab (K w.params) fa h → LawG l w (K w.params) k n x N mg fa h) :
    PySem.W.WalkO q loose XP YP l.row.toRowW d [] (fun f vs => PySem.call f vs) := by
  refine Att.attach_callB hn hdf fun w s₀ s₁ mg mb fa o pm cd doc a vs ns G Y ho hd hcd hmg hobj hints hlen hbits hg => ?_
  have KX := hY w _ Y
  have own : OwnTab (K w.params) fa s₁.heap := by
    intro c P o1 fd1 e dd vs1 sl k1 k2 k3 k4 k5
    obtain ⟨dL, hm, hn1⟩ := List.any_eq_true.mp hrec
    obtain ⟨a', o', fd', c', P', h1, h2, h3, h4, h5, ⟨oc, vc, e1, _, e3, e4⟩, hP⟩ := G.T.tab dL hm
    rw [show dL.name = d.name from beq_iff_eq.mp hn1, hmg] at h1
    cases h1
    cases (KX _ _ k1).symm.trans h2
    cases k2.symm.trans h3
    cases k3.symm.trans h4
    cases (KX _ _ k4).symm.trans e1
    cases e3
    cases k5.symm.trans e4
    exact hP
  obtain ⟨cs, nm, ql, par, body, sc, dV, kV, doc2, pm2, cdv, ct, oc, an, od, osl, lk, hcd2, S, hT, nT, hC, hbd, hF⟩ := F w mg fa _ KX G.T.g hmg own
  refine call_top KX G.T.g G.T.b G.T.builtins G.T.nolimit hg hT nT hC G.T.bmain hobj hints (Nat.le_trans hlen hn2) fun base H KB GB TB e0 hH hS => ?_
  exact fn_at (us := [.ref a]) (vs := [.ref a]) lk hcd2 S hr e0 (hbd _ _) (.cons rfl .nil) rfl (hF base s₁ H a ns KB GB TB hlen hH hS (hr.deeper _))
end EndG
set_option Elab.async false
set_option linter.all false
set_option maxRecDepth 100000
set_option maxHeartbeats 8000000
namespace K27
open PySem PySem.Spec L2 GB LamX
def noDB (K : PySem.W.Frag) (d : Addr) (l : List Str) : Bool := l.all fun x => He.eqO (PySem.W.nsIn K d x) (some none)
def emptyT (K : PySem.W.Frag) (a : Addr) : Bool := match K.lookup a with
  | some o => (match o.cls with
    | .type t => (t == "tuple") && (match o.data with
      | .seq its _ => its.isEmpty
      | _ => false)
    | _ => false)
  | none => false
theorem emptyT_ok {K : PySem.W.Frag} {a : Addr} (h : emptyT K a = true) : ∀ H, SqT K H a [] := by
  unfold emptyT at h
  split at h
  · rename_i o ho
    split at h
    · rename_i t ht
      obtain ⟨h1, h2⟩ := Bool.and_eq_true_iff.mp h
      split at h2
      · rename_i its n hd
        have e := Array.isEmpty_iff.mp h2
        subst e
        exact fun H => .inr ⟨o, #[], n, ho, by rw [ht, beq_iff_eq.mp h1], hd, Nat.zero_le _, .nil⟩
      · cases h2
    · cases h
  · cases h
def dflE (K : PySem.W.Frag) (dV : Value) : Bool := match dV with
  | .ref T => (match K.lookup T with
    | some ⟨_, _, .seq its _, _⟩ => (match its.toList with
      | [.ref a, .ref b, .ref c] => emptyT K a && (emptyT K b && emptyT K c)
      | _ => false)
    | _ => false)
  | _ => false
theorem dflE_ok {K : PySem.W.Frag} {dV : Value} (h : dflE K dV = true) : ∃ a b c, DflV K dV [.ref a, .ref b, .ref c] ∧ (∀ H, SqT K H a []) ∧ (∀ H, SqT K H b []) ∧ ∀ H, SqT K H c [] := by
  unfold dflE at h
  split at h
  · rename_i T
    split at h
    · rename_i oc od its n sl ho
      split at h
      · rename_i a b c hi
        obtain ⟨h1, h2⟩ := Bool.and_eq_true_iff.mp h
        obtain ⟨h3, h4⟩ := Bool.and_eq_true_iff.mp h2
        refine ⟨a, b, c, .inr ⟨List.cons_ne_nil _ _, T, _, its.toList, n, rfl, ho, by simp, ?_⟩, emptyT_ok h1, emptyT_ok h3, emptyT_ok h4⟩
        rw [hi]
        exact .cons rfl (.cons rfl (.cons rfl .nil))
      · cases h
    · cases h
  · cases h
def noLet : List Str := nmA.filter fun x => !decide (x ∈ wdsW)
theorem ok_law {P : Program} {w : World} {K : PySem.W.Frag} {mg : Str → Option Value} {base : Heap} {C f a : Addr} {cdv : Value} {s : Shared} {H : Hp} {ns : List Int} (Z : LawT P w K mg base C) (Z2 : LastT P w K mg base C) (hr : Room 45 (callerA.deeper (PyProof.Rows.envOfC "law" (defScope sLaw) s.heap.objs.size f cdv))) (hS : SqL K H a (ns.map V.int)) :
    ∃ t, PSs (cxOf CX0 P w K mg base lawN "law" (defScope sLaw) f cdv callerA [] s H (fun _ _ _ => False)) (defBody sLaw) t ∧ t { nx := fun _ J => (V.non : V) = .bl true, rt := fun v _ => v = .bl true } (L2.start lawN [.ref a]) H := by
  obtain ⟨t1, p1, h1⟩ := ok_loop Z hr hS
  obtain ⟨t2, p2, h2⟩ := ok_last (s := s) (H := H) Z2 hr
  have key : PSs (cxOf CX0 P w K mg base lawN "law" (defScope sLaw) f cdv callerA [] s H (fun _ _ _ => False)).nox (defBody sLaw) _ := pss_cons p1 (pss_one p2)
  exact ⟨_, key.nox, h1 _ fun σ H' _ => h2 _ _ _ fun J' => rfl⟩
theorem sc_bt : FnScope ["self", "path"] ["self", "path"] (defScope (inClass (topS 6) 0)) := ⟨rfl, rfl, rfl, by decide +kernel, rfl, by decide +kernel, by decide +kernel⟩
theorem all_mk {l : PySem.W.OpenLaw} {w : World} {K : PySem.W.Frag} {h : Heap} {mg : Str → Option Value} {fa C CB CS a_tb f_isL f_isN f_isNm f_chd f_chk f_par f_isU f_tin f_wr f_rd f_txt f_ah f_wh f_ckL f_ckF f_ckC f_ft f_isF f_te f_ebv f_out f_perm f_cell f_pool f_take f_mixed f_one f_ground f_made f_term f_wg f_lt f_s0 f_s1 f_s2 f_s3 f_s4 f_s5 f_s6 f_s7 f_prt f_gi f_bt f_law : Addr} (X : K.In h) (G : h.Ns mainGlobals mg) (hfa : mg "law" = some (.ref fa)) (own : OwnTab K fa h)
    (aC : PySem.W.nsIn K mainGlobals "Ground" = some (some (.ref C)))
    (d_isL : PySem.W.nsIn K mainGlobals "is_list" = some (some (.ref f_isL)))
    (F_isL : ∃ fd, Fun K "is_list" "is_list" (topS 10) f_isL fd)
    (d_isN : PySem.W.nsIn K mainGlobals "is_number" = some (some (.ref f_isN)))
    (F_isN : ∃ fd, Fun K "is_number" "is_number" (topS 11) f_isN fd)
    (d_isNm : PySem.W.nsIn K mainGlobals "is_name" = some (some (.ref f_isNm)))
    (F_isNm : ∃ fd, Fun K "is_name" "is_name" (topS 12) f_isNm fd)
    (d_chd : PySem.W.nsIn K mainGlobals "checked" = some (some (.ref f_chd)))
    (F_chd : ∃ fd, Fun K "checked" "checked" (topS 16) f_chd fd)
    (d_chk : PySem.W.nsIn K mainGlobals "checked_within" = some (some (.ref f_chk)))
    (F_chk : ∃ fd, Fun K "checked_within" "checked_within" (topS 17) f_chk fd)
    (d_par : PySem.W.nsIn K mainGlobals "_checked_parts" = some (some (.ref f_par)))
    (F_par : ∃ fd, Fun K "_checked_parts" "_checked_parts" (topS 19) f_par fd)
    (d_isU : PySem.W.nsIn K mainGlobals "_is_use" = some (some (.ref f_isU)))
    (F_isU : ∃ fd, Fun K "_is_use" "_is_use" (topS 20) f_isU fd)
    (d_tin : PySem.W.nsIn K mainGlobals "terms_in" = some (some (.ref f_tin)))
    (F_tin : ∃ fd, Fun K "terms_in" "terms_in" (topS 18) f_tin fd)
    (d_wr : PySem.W.nsIn K mainGlobals "written" = some (some (.ref f_wr)))
    (F_wr : ∃ fd, Fun K "written" "written" (topS 23) f_wr fd)
    (d_rd : PySem.W.nsIn K mainGlobals "read" = some (some (.ref f_rd)))
    (F_rd : ∃ fd, Fun K "read" "read" (topS 24) f_rd fd)
    (d_txt : PySem.W.nsIn K mainGlobals "text_of" = some (some (.ref f_txt)))
    (F_txt : ∃ fd, Fun K "text_of" "text_of" (topS 25) f_txt fd)
    (d_ah : PySem.W.nsIn K mainGlobals "_ahead_of_brackets" = some (some (.ref f_ah)))
    (F_ah : ∃ fd, Fun K "_ahead_of_brackets" "_ahead_of_brackets" (topS 26) f_ah fd)
    (d_wh : PySem.W.nsIn K mainGlobals "_whole" = some (some (.ref f_wh)))
    (F_wh : ∃ fd, Fun K "_whole" "_whole" (topS 27) f_wh fd)
    (d_ckL : PySem.W.nsIn K mainGlobals "_check_letters" = some (some (.ref f_ckL)))
    (F_ckL : ∃ fd, Fun K "_check_letters" "_check_letters" (topS 35) f_ckL fd)
    (d_ckF : PySem.W.nsIn K mainGlobals "_check_fixed" = some (some (.ref f_ckF)))
    (F_ckF : ∃ fd, Fun K "_check_fixed" "_check_fixed" (topS 36) f_ckF fd)
    (d_ckC : PySem.W.nsIn K mainGlobals "_check_commuting" = some (some (.ref f_ckC)))
    (F_ckC : ∃ fd, Fun K "_check_commuting" "_check_commuting" (topS 37) f_ckC fd)
    (d_ft : PySem.W.nsIn K mainGlobals "_facts_as_told" = some (some (.ref f_ft)))
    (F_ft : ∃ fd, Fun K "_facts_as_told" "_facts_as_told" (topS 38) f_ft fd)
    (d_isF : PySem.W.nsIn K mainGlobals "_is_fact" = some (some (.ref f_isF)))
    (F_isF : ∃ fd, Fun K "_is_fact" "_is_fact" (topS 39) f_isF fd)
    (d_te : PySem.W.nsIn K mainGlobals "_is_told_end" = some (some (.ref f_te)))
    (F_te : ∃ fd, Fun K "_is_told_end" "_is_told_end" (topS 40) f_te fd)
    (d_ebv : PySem.W.nsIn K mainGlobals "_ends_by_values" = some (some (.ref f_ebv)))
    (F_ebv : ∃ fd, Fun K "_ends_by_values" "_ends_by_values" (topS 32) f_ebv fd)
    (d_out : PySem.W.nsIn K mainGlobals "as_outcome" = some (some (.ref f_out)))
    (F_out : ∃ fd, Fun K "as_outcome" "as_outcome" (topS 33) f_out fd)
    (d_perm : PySem.W.nsIn K mainGlobals "_all_permissions" = some (some (.ref f_perm)))
    (F_perm : ∃ fd, Fun K "_all_permissions" "_all_permissions" (topS 34) f_perm fd)
    (d_cell : PySem.W.nsIn K mainGlobals "_law_cell" = some (some (.ref f_cell)))
    (F_cell : ∃ fd, Fun K "_law_cell" "_law_cell" (topS 42) f_cell fd)
    (d_pool : PySem.W.nsIn K mainGlobals "_law_pool" = some (some (.ref f_pool)))
    (F_pool : ∃ fd, Fun K "_law_pool" "_law_pool" (topS 43) f_pool fd)
    (d_take : PySem.W.nsIn K mainGlobals "_law_take" = some (some (.ref f_take)))
    (F_take : ∃ fd, Fun K "_law_take" "_law_take" (topS 44) f_take fd)
    (d_mixed : PySem.W.nsIn K mainGlobals "_law_mixed" = some (some (.ref f_mixed)))
    (F_mixed : ∃ fd, Fun K "_law_mixed" "_law_mixed" (topS 45) f_mixed fd)
    (d_one : PySem.W.nsIn K mainGlobals "_law_one" = some (some (.ref f_one)))
    (F_one : ∃ fd, Fun K "_law_one" "_law_one" (topS 46) f_one fd)
    (d_ground : PySem.W.nsIn K mainGlobals "_law_ground" = some (some (.ref f_ground)))
    (F_ground : ∃ fd, Fun K "_law_ground" "_law_ground" (topS 47) f_ground fd)
    (d_made : PySem.W.nsIn K mainGlobals "_law_made" = some (some (.ref f_made)))
    (F_made : ∃ fd, Fun K "_law_made" "_law_made" (topS 48) f_made fd)
    (d_term : PySem.W.nsIn K mainGlobals "_law_term" = some (some (.ref f_term)))
    (F_term : ∃ fd, Fun K "_law_term" "_law_term" (topS 49) f_term fd)
    (d_wg : PySem.W.nsIn K mainGlobals "_law_word_ground" = some (some (.ref f_wg)))
    (F_wg : ∃ fd, Fun K "_law_word_ground" "_law_word_ground" (topS 50) f_wg fd)
    (d_lt : PySem.W.nsIn K mainGlobals "_law_text" = some (some (.ref f_lt)))
    (F_lt : ∃ fd, Fun K "_law_text" "_law_text" (topS 51) f_lt fd)
    (i_prt : PySem.W.findIn K (.ref C) "parts_of" = some (some (.ref f_prt)))
    (F_prt : ∃ fd, Fun K "parts_of" "Ground.parts_of" (inClass (topS 31) 5) f_prt fd)
    (aS : PySem.W.nsIn K mainGlobals "Signs" = some (some (.ref CS)))
    (i_s0 : PySem.W.findIn K (.ref CS) "__init__" = some (some (.ref f_s0)))
    (F_s0 : ∃ fd, Fun K "__init__" "Signs.__init__" (inClass (topS 28) 0) f_s0 fd)
    (i_s1 : PySem.W.findIn K (.ref CS) "sign" = some (some (.ref f_s1)))
    (F_s1 : ∃ fd, Fun K "sign" "Signs.sign" (inClass (topS 28) 1) f_s1 fd)
    (x_s1 : FX.methB K CS "sign" f_s1 = true)
    (i_s2 : PySem.W.findIn K (.ref CS) "take" = some (some (.ref f_s2)))
    (F_s2 : ∃ fd, Fun K "take" "Signs.take" (inClass (topS 28) 2) f_s2 fd)
    (x_s2 : FX.methB K CS "take" f_s2 = true)
    (i_s3 : PySem.W.findIn K (.ref CS) "take_name" = some (some (.ref f_s3)))
    (F_s3 : ∃ fd, Fun K "take_name" "Signs.take_name" (inClass (topS 28) 3) f_s3 fd)
    (x_s3 : FX.methB K CS "take_name" f_s3 = true)
    (i_s4 : PySem.W.findIn K (.ref CS) "take_word" = some (some (.ref f_s4)))
    (F_s4 : ∃ fd, Fun K "take_word" "Signs.take_word" (inClass (topS 28) 4) f_s4 fd)
    (x_s4 : FX.methB K CS "take_word" f_s4 = true)
    (i_s5 : PySem.W.findIn K (.ref CS) "take_term" = some (some (.ref f_s5)))
    (F_s5 : ∃ fd, Fun K "take_term" "Signs.take_term" (inClass (topS 28) 5) f_s5 fd)
    (x_s5 : FX.methB K CS "take_term" f_s5 = true)
    (i_s6 : PySem.W.findIn K (.ref CS) "take_begun" = some (some (.ref f_s6)))
    (F_s6 : ∃ fd, Fun K "take_begun" "Signs.take_begun" (inClass (topS 28) 6) f_s6 fd)
    (x_s6 : FX.methB K CS "take_begun" f_s6 = true)
    (i_s7 : PySem.W.findIn K (.ref CS) "take_behind_bracket" = some (some (.ref f_s7)))
    (F_s7 : ∃ fd, Fun K "take_behind_bracket" "Signs.take_behind_bracket" (inClass (topS 28) 7) f_s7 fd)
    (x_s7 : FX.methB K CS "take_behind_bracket" f_s7 = true)
    (x_clS : FX.clB K CS = true)
    (x_noS : FX.noB K CS ["text", "place"] = true)
    (x_mkS : FX.mkB K CS f_s0 = true)
    (x_w1 : (He.Fa.glo "WORDS").ok K = true)
    (x_w2 : He.tupB K "WORDS" (GB.wdsW.map He.Dv.str) = true)
    (i_gi : PySem.W.findIn K (.ref C) "__init__" = some (some (.ref f_gi)))
    (F_gi : ∃ (oc : Value) (od : Option Addr) (dV kV doc pm : Value) (an : Option Addr) (cdv ct : Value) (osl : Array (Option Value)), K.lookup f_gi = some ⟨oc, od, .func (PySem.W.fnOf "__init__" "Ground.__init__" (defArgs (inClass (topS 31) 0)) (defBody (inClass (topS 31) 0)) (defScope (inClass (topS 31) 0)) dV kV doc pm an cdv ct), osl⟩ ∧ PySem.W.codeIn K cdv "Ground.__init__" = true ∧ dflE K dV = true ∧ PySem.W.keepIn K (.ref f_gi) = true)
    (aB : PySem.W.nsIn K mainGlobals "BadTerm" = some (some (.ref CB)))
    (i_bt : PySem.W.findIn K (.ref CB) "__init__" = some (some (.ref f_bt)))
    (t_bt : PySem.W.typeIn K (.ref f_bt) = some (.type "function"))
    (F_bt : ∃ fd, Fun K "__init__" "BadTerm.__init__" (inClass (topS 6) 0) f_bt fd)
    (d_law : PySem.W.nsIn K mainGlobals "law" = some (some (.ref f_law)))
    (F_law : ∃ (oc : Value) (od : Option Addr) (kV doc pm : Value) (an : Option Addr) (cdv ct : Value) (osl : Array (Option Value)), K.lookup f_law = some ⟨oc, od, .func (PySem.W.fnOf "law" "law" (defArgs (topS 52)) (defBody (topS 52)) (defScope (topS 52)) .none kV doc pm an cdv ct), osl⟩ ∧ PySem.W.codeIn K cdv "law" = true ∧ PySem.W.keepIn K (.ref f_law) = true)
    (x_free : FX.freeB K FX.blts = true)
    (x_signs : (He.Fa.int "MOST_SIGNS" 8).ok K = true)
    (x_parts : (He.Fa.int "MOST_PARTS" 2).ok K = true)
    (x_named1 : (He.Fa.glo "NAMED").ok K = true)
    (x_named2 : He.tupB K "NAMED" (GB.nmd.map He.Dv.str) = true)
    (d_tb : PySem.W.nsIn K mainGlobals "TERMS_BEHIND" = some (some (.ref a_tb)))
    (x_tb1 : He.dicW K a_tb = some (He.keysIn w.params (GB.opsW.map (·.1))))
    (x_tb2 : FX.dctB K a_tb GB.opsW = true)
    (x_tb3 : noDB K a_tb GB.noW = true)
    (x_tb4 : noDB K a_tb noLet = true)
    (x_cl : FX.clB K C = true)
    (x_no : FX.noB K C ["_facts", "_letters", "_order", "_fixed", "_commuting", "moving", "commutes", "known_ends", "places"] = true)
    (x_mk : FX.mkB K C f_gi = true)
    (x_prt : FX.methB K C "parts_of" f_prt = true)
    (x_bt : FX.xfieldB K CB "path" = true)
    : EndG.LawG l w K 45 63 "_law_script" lawN mg fa h := by
  have e := hfa.symm.trans (PySem.W.mg_of X G d_law)
  cases e
  have b : Bl mg := FX.bl_of X G x_free
  have NMD : Nmd K mg := FX.tup_of X G x_named1 x_named2
  have TBH : TBh K w mg := by
    obtain ⟨es, n, kd⟩ := He.dicW_ok x_tb1
    refine ⟨a_tb, es, n, PySem.W.mg_of X G d_tb, kd, fun q hq => ?_, fun x hx => He.eqO_ok (List.all_eq_true.mp x_tb3 x hx)⟩
    obtain ⟨u, e1, e2⟩ := FX.dct_of x_tb2 hq
    exact ⟨⟨es, n, u, kd.at_, kd.lit, e1, e2⟩, u, e1⟩
  obtain ⟨oxB, xfB, noB, teB⟩ := FX.xfield_of x_bt
  have cl : Cls K C := FX.cl_of x_cl
  have no : ∀ f ∈ (["_facts", "_letters", "_order", "_fixed", "_commuting", "moving", "commutes", "known_ends", "places"] : List Str), NoAttr K C f := fun f hf => FX.no_of x_no hf
  obtain ⟨ocL, odL, kVL, docL, pmL, anL, cdvL, ctL, oslL, lkL, cL, kL⟩ := F_law
  obtain ⟨ocI, odI, dVI, kVI, docI, pmI, anI, cdvI, ctI, oslI, lkI, cI, dI, kI⟩ := F_gi
  obtain ⟨da, db, dc, dflI, em1, em2, em3⟩ := dflE_ok dI
  have FI : FunD K "__init__" "Ground.__init__" (defArgs sGI) (defBody sGI) (defScope sGI) [.ref da, .ref db, .ref dc] [] f_gi _ := ⟨⟨ocI, odI, dVI, kVI, docI, pmI, anI, cdvI, ctI, oslI, rfl, lkI, cI, dflI, .inl rfl⟩, kI⟩
  obtain ⟨ds, vds, bI⟩ := FI.binds1 (ps := ["self", "letters", "fixed", "commuting", "facts"]) 5 3 (List.cons_ne_nil _ _) rfl (fun T kV doc pm an cdv ct us its hu hi => match us, hu, its, hi with | [_, _, _, _, _], _, [_, _, _], _ => ⟨_, rfl, rfl⟩)
  cases vds
  obtain ⟨ds2, vds2, bI2⟩ := FI.binds1 (ps := ["self", "letters", "fixed", "commuting", "facts"]) 2 0 (List.cons_ne_nil _ _) rfl (fun T kV doc pm an cdv ct us its hu hi => match us, hu, its, hi with | [_, _], _, [_, _, _], _ => ⟨_, rfl, rfl⟩)
  obtain ⟨g_isL, F_isL⟩ := F_isL
  have b_isL := F_isL.binds (ps := ["thing"]) fun _ _ _ _ _ _ us hl => match us, hl with | [_], _ => rfl
  obtain ⟨g_isN, F_isN⟩ := F_isN
  have b_isN := F_isN.binds (ps := ["thing"]) fun _ _ _ _ _ _ us hl => match us, hl with | [_], _ => rfl
  obtain ⟨g_isNm, F_isNm⟩ := F_isNm
  have b_isNm := F_isNm.binds (ps := ["thing"]) fun _ _ _ _ _ _ us hl => match us, hl with | [_], _ => rfl
  obtain ⟨g_chd, F_chd⟩ := F_chd
  have b_chd := F_chd.binds (ps := ["ground", "thing"]) fun _ _ _ _ _ _ us hl => match us, hl with | [_, _], _ => rfl
  obtain ⟨g_chk, F_chk⟩ := F_chk
  have b_chk := F_chk.binds (ps := ["ground", "thing", "names", "path"]) fun _ _ _ _ _ _ us hl => match us, hl with | [_, _, _, _], _ => rfl
  obtain ⟨g_par, F_par⟩ := F_par
  have b_par := F_par.binds (ps := ["ground", "things", "names", "path"]) fun _ _ _ _ _ _ us hl => match us, hl with | [_, _, _, _], _ => rfl
  obtain ⟨g_isU, F_isU⟩ := F_isU
  have b_isU := F_isU.binds (ps := ["ground", "thing"]) fun _ _ _ _ _ _ us hl => match us, hl with | [_, _], _ => rfl
  obtain ⟨g_tin, F_tin⟩ := F_tin
  have b_tin := F_tin.binds (ps := ["term"]) fun _ _ _ _ _ _ us hl => match us, hl with | [_], _ => rfl
  obtain ⟨g_wr, F_wr⟩ := F_wr
  have b_wr := F_wr.binds (ps := ["ground", "term"]) fun _ _ _ _ _ _ us hl => match us, hl with | [_, _], _ => rfl
  obtain ⟨g_rd, F_rd⟩ := F_rd
  have b_rd := F_rd.binds (ps := ["ground", "text"]) fun _ _ _ _ _ _ us hl => match us, hl with | [_, _], _ => rfl
  obtain ⟨g_txt, F_txt⟩ := F_txt
  have b_txt := F_txt.binds (ps := ["term"]) fun _ _ _ _ _ _ us hl => match us, hl with | [_], _ => rfl
  obtain ⟨g_ah, F_ah⟩ := F_ah
  have b_ah := F_ah.binds (ps := ["letter"]) fun _ _ _ _ _ _ us hl => match us, hl with | [_], _ => rfl
  obtain ⟨g_wh, F_wh⟩ := F_wh
  have b_wh := F_wh.binds (ps := ["text"]) fun _ _ _ _ _ _ us hl => match us, hl with | [_], _ => rfl
  obtain ⟨g_ckL, F_ckL⟩ := F_ckL
  have b_ckL := F_ckL.binds (ps := ["letters"]) fun _ _ _ _ _ _ us hl => match us, hl with | [_], _ => rfl
  obtain ⟨g_ckF, F_ckF⟩ := F_ckF
  have b_ckF := F_ckF.binds (ps := ["letters", "fixed"]) fun _ _ _ _ _ _ us hl => match us, hl with | [_, _], _ => rfl
  obtain ⟨g_ckC, F_ckC⟩ := F_ckC
  have b_ckC := F_ckC.binds (ps := ["letters", "fixed", "commuting"]) fun _ _ _ _ _ _ us hl => match us, hl with | [_, _, _], _ => rfl
  obtain ⟨g_ft, F_ft⟩ := F_ft
  have b_ft := F_ft.binds (ps := ["letters", "fixed", "commuting", "facts"]) fun _ _ _ _ _ _ us hl => match us, hl with | [_, _, _, _], _ => rfl
  obtain ⟨g_isF, F_isF⟩ := F_isF
  have b_isF := F_isF.binds (ps := ["letters", "fixed", "thing"]) fun _ _ _ _ _ _ us hl => match us, hl with | [_, _, _], _ => rfl
  obtain ⟨g_te, F_te⟩ := F_te
  have b_te := F_te.binds (ps := ["thing"]) fun _ _ _ _ _ _ us hl => match us, hl with | [_], _ => rfl
  obtain ⟨g_ebv, F_ebv⟩ := F_ebv
  have b_ebv := F_ebv.binds (ps := ["facts", "commutes"]) fun _ _ _ _ _ _ us hl => match us, hl with | [_, _], _ => rfl
  obtain ⟨g_out, F_out⟩ := F_out
  have b_out := F_out.binds (ps := ["end"]) fun _ _ _ _ _ _ us hl => match us, hl with | [_], _ => rfl
  obtain ⟨g_perm, F_perm⟩ := F_perm
  have b_perm := F_perm.binds (ps := ["letters", "moving"]) fun _ _ _ _ _ _ us hl => match us, hl with | [_, _], _ => rfl
  obtain ⟨g_cell, F_cell⟩ := F_cell
  have b_cell := F_cell.binds (ps := ["_law_script", "_law_k"]) fun _ _ _ _ _ _ us hl => match us, hl with | [_, _], _ => rfl
  obtain ⟨g_pool, F_pool⟩ := F_pool
  have b_pool := F_pool.binds (ps := ["_law_grain"]) fun _ _ _ _ _ _ us hl => match us, hl with | [_], _ => rfl
  obtain ⟨g_take, F_take⟩ := F_take
  have b_take := F_take.binds (ps := ["_law_pool_here", "_law_many"]) fun _ _ _ _ _ _ us hl => match us, hl with | [_, _], _ => rfl
  obtain ⟨g_mixed, F_mixed⟩ := F_mixed
  have b_mixed := F_mixed.binds (ps := ["_law_pool_here", "_law_things"]) fun _ _ _ _ _ _ us hl => match us, hl with | [_, _], _ => rfl
  obtain ⟨g_one, F_one⟩ := F_one
  have b_one := F_one.binds (ps := ["_law_pool_here", "_law_things"]) fun _ _ _ _ _ _ us hl => match us, hl with | [_, _], _ => rfl
  obtain ⟨g_ground, F_ground⟩ := F_ground
  have b_ground := F_ground.binds (ps := ["_law_pool_here", "_law_most"]) fun _ _ _ _ _ _ us hl => match us, hl with | [_, _], _ => rfl
  obtain ⟨g_made, F_made⟩ := F_made
  have b_made := F_made.binds (ps := ["_law_g"]) fun _ _ _ _ _ _ us hl => match us, hl with | [_], _ => rfl
  obtain ⟨g_term, F_term⟩ := F_term
  have b_term := F_term.binds (ps := ["_law_pool_here", "_law_g", "_law_names", "_law_left"]) fun _ _ _ _ _ _ us hl => match us, hl with | [_, _, _, _], _ => rfl
  obtain ⟨g_wg, F_wg⟩ := F_wg
  have b_wg := F_wg.binds (ps := ["_law_pool_here"]) fun _ _ _ _ _ _ us hl => match us, hl with | [_], _ => rfl
  obtain ⟨g_lt, F_lt⟩ := F_lt
  have b_lt := F_lt.binds (ps := ["_law_term_here"]) fun _ _ _ _ _ _ us hl => match us, hl with | [_], _ => rfl
  obtain ⟨g_prt, F_prt⟩ := F_prt
  have b_prt := F_prt.binds (ps := ["self", "letter"]) fun _ _ _ _ _ _ us hl => match us, hl with | [_, _], _ => rfl
  obtain ⟨g_s0, F_s0⟩ := F_s0
  have b_s0 := F_s0.binds (ps := ["self", "text"]) fun _ _ _ _ _ _ us hl => match us, hl with | [_, _], _ => rfl
  obtain ⟨g_s1, F_s1⟩ := F_s1
  have b_s1 := F_s1.binds (ps := ["self"]) fun _ _ _ _ _ _ us hl => match us, hl with | [_], _ => rfl
  obtain ⟨g_s2, F_s2⟩ := F_s2
  have b_s2 := F_s2.binds (ps := ["self", "wanted"]) fun _ _ _ _ _ _ us hl => match us, hl with | [_, _], _ => rfl
  obtain ⟨g_s3, F_s3⟩ := F_s3
  have b_s3 := F_s3.binds (ps := ["self"]) fun _ _ _ _ _ _ us hl => match us, hl with | [_], _ => rfl
  obtain ⟨g_s4, F_s4⟩ := F_s4
  have b_s4 := F_s4.binds (ps := ["self"]) fun _ _ _ _ _ _ us hl => match us, hl with | [_], _ => rfl
  obtain ⟨g_s5, F_s5⟩ := F_s5
  have b_s5 := F_s5.binds (ps := ["self"]) fun _ _ _ _ _ _ us hl => match us, hl with | [_], _ => rfl
  obtain ⟨g_s6, F_s6⟩ := F_s6
  have b_s6 := F_s6.binds (ps := ["self"]) fun _ _ _ _ _ _ us hl => match us, hl with | [_], _ => rfl
  obtain ⟨g_s7, F_s7⟩ := F_s7
  have b_s7 := F_s7.binds (ps := ["self", "word"]) fun _ _ _ _ _ _ us hl => match us, hl with | [_, _], _ => rfl
  obtain ⟨g_bt, F_bt⟩ := F_bt
  have b_bt := F_bt.binds (ps := ["self", "path"]) fun _ _ _ _ _ _ us hl => match us, hl with | [_, _], _ => rfl
  refine ⟨[], "law", "law", defArgs sLaw, defBody sLaw, defScope sLaw, .none, kVL, docL, pmL, cdvL, ctL, ocL, anL, odL, oslL, lkL, cL, scLaw, fun p hp => (nomatch hp), fun p hp => (nomatch hp), fun p hp => (nomatch hp), fun s u => .of_eq rfl, fun base t H a ns KB GB0 HT hn hPT hS hr => ?_⟩
  have N_isL : Fns l.prog w K mg base "is_list" 1 ["thing"] (spIsL K) := ⟨f_isL, g_isL, ok_isL F_isL b, PySem.W.mg_of X G d_isL, F_isL.kp, b_isL⟩
  have N_isN : Fns l.prog w K mg base "is_number" 1 ["thing"] (spIsN K) := ⟨f_isN, g_isN, ok_isN F_isN b, PySem.W.mg_of X G d_isN, F_isN.kp, b_isN⟩
  have N_tin : Fns l.prog w K mg base "terms_in" 1 ["term"] (spTin K) := ⟨f_tin, g_tin, ok_tin F_tin NMD, PySem.W.mg_of X G d_tin, F_tin.kp, b_tin⟩
  have N_isNm : Fns l.prog w K mg base "is_name" 1 ["thing"] (spIsNm K) := ⟨f_isNm, g_isNm, ok_isNm F_isNm b (FX.int_of X G x_signs), PySem.W.mg_of X G d_isNm, F_isNm.kp, b_isNm⟩
  have GC : GrC l.prog w K mg base C := ⟨cl, ⟨f_prt, g_prt, FX.meth_of x_prt, ok_prt F_prt cl (no _ (by simp)), b_prt⟩⟩
  have N_isU : Fns l.prog w K mg base "_is_use" 2 ["ground", "thing"] (spIsU K C) := ⟨f_isU, g_isU, ok_isU F_isU b GC N_isL, PySem.W.mg_of X G d_isU, F_isU.kp, b_isU⟩
  have BT : ErrC l.prog w K mg base "BadTerm" "path" CB := by
    refine FX.err_of (PySem.W.mg_of X G aB) oxB i_bt t_bt (fI := f_bt) (fd := g_bt) ?_ b_bt
    refine F_bt.ok sc_bt (fun vs H Q E h => ?_) (fun cdv A outer s H vs Q E hr h => ?_)
    · obtain ⟨a, y, rfl, _⟩ := h
      rfl
    · obtain ⟨a, y, rfl, ha, q⟩ := h
      exact ⟨_, pss_one (ps_ost (pv 0) (pv 1)), _, rfl, _, rfl, a, CB, rfl, oxB, noB, .inl ⟨ha, q⟩⟩
  have FCK := ok_chkX (P := l.prog) (w := w) (base := base) F_chk F_par b (PySem.W.mg_of X G d_chk) F_chk.kp b_chk (PySem.W.mg_of X G d_par) F_par.kp b_par NMD TBH BT N_isL N_isNm N_isU 14
  have CKX : ∃ g gd, FnOk l.prog w K mg base (L2.CX l.prog w) 32 g gd ["ground", "thing", "names", "path"] (spChkX K C CB 14) ∧ mg "checked_within" = some (.ref g) ∧ PySem.W.keepIn K (.ref g) = true ∧ Binds K gd ["ground", "thing", "names", "path"] [] :=
    ⟨f_chk, g_chk, FCK, PySem.W.mg_of X G d_chk, F_chk.kp, b_chk⟩
  have FCD := ok_chdX F_chd CKX
  have CHX : ∃ g gd, FnOk l.prog w K mg base (L2.CX l.prog w) 33 g gd ["ground", "thing"] (spChdX K C CB) ∧ mg "checked" = some (.ref g) ∧ PySem.W.keepIn K (.ref g) = true ∧ Binds K gd ["ground", "thing"] [] :=
    ⟨f_chd, g_chd, FCD, PySem.W.mg_of X G d_chd, F_chd.kp, b_chd⟩
  have N_chd : Fns l.prog w K mg base "checked" 33 ["ground", "thing"] (spChd K C) := ⟨f_chd, g_chd, ok_chd FCD, PySem.W.mg_of X G d_chd, F_chd.kp, b_chd⟩
  have N_ckL : Fns l.prog w K mg base "_check_letters" 2 ["letters"] spCkL := ⟨f_ckL, g_ckL, ok_ckL F_ckL b (FX.int_of X G x_parts) N_isNm N_isN, PySem.W.mg_of X G d_ckL, F_ckL.kp, b_ckL⟩
  have N_ckF : Fns l.prog w K mg base "_check_fixed" 2 ["letters", "fixed"] spCkF := ⟨f_ckF, g_ckF, ok_ckF F_ckF b N_isL, PySem.W.mg_of X G d_ckF, F_ckF.kp, b_ckF⟩
  have N_ckC : Fns l.prog w K mg base "_check_commuting" 2 ["letters", "fixed", "commuting"] spCkC := ⟨f_ckC, g_ckC, ok_ckC F_ckC b N_isL, PySem.W.mg_of X G d_ckC, F_ckC.kp, b_ckC⟩
  have N_ckF2 : Fns l.prog w K mg base "_check_fixed" 2 ["letters", "fixed"] (spCkF2 K) := ⟨f_ckF, g_ckF, ok_ckF2 F_ckF b N_isL, PySem.W.mg_of X G d_ckF, F_ckF.kp, b_ckF⟩
  have N_ckC2 : Fns l.prog w K mg base "_check_commuting" 2 ["letters", "fixed", "commuting"] (spCkC2 K) := ⟨f_ckC, g_ckC, ok_ckC2 F_ckC b N_isL, PySem.W.mg_of X G d_ckC, F_ckC.kp, b_ckC⟩
  have N_te : Fns l.prog w K mg base "_is_told_end" 2 ["thing"] spTE := ⟨f_te, g_te, ok_te F_te b N_isL N_isNm, PySem.W.mg_of X G d_te, F_te.kp, b_te⟩
  have N_isF : Fns l.prog w K mg base "_is_fact" 3 ["letters", "fixed", "thing"] spIsF := ⟨f_isF, g_isF, ok_isF F_isF b N_isL N_isNm N_te, PySem.W.mg_of X G d_isF, F_isF.kp, b_isF⟩
  have N_ft : Fns l.prog w K mg base "_facts_as_told" 4 ["letters", "fixed", "commuting", "facts"] spFT := ⟨f_ft, g_ft, ok_ft F_ft b N_isL N_isF, PySem.W.mg_of X G d_ft, F_ft.kp, b_ft⟩
  have N_isF2 : Fns l.prog w K mg base "_is_fact" 3 ["letters", "fixed", "thing"] (spIsF2 K) := ⟨f_isF, g_isF, ok_isF2 F_isF b N_isL N_isNm N_te, PySem.W.mg_of X G d_isF, F_isF.kp, b_isF⟩
  have N_ft2 : Fns l.prog w K mg base "_facts_as_told" 4 ["letters", "fixed", "commuting", "facts"] (spFT2 K) := ⟨f_ft, g_ft, ok_ft2 F_ft b N_isL N_isF2, PySem.W.mg_of X G d_ft, F_ft.kp, b_ft⟩
  have N_out : Fns l.prog w K mg base "as_outcome" 1 ["end"] spOut := ⟨f_out, g_out, ok_out F_out, PySem.W.mg_of X G d_out, F_out.kp, b_out⟩
  have N_ebv : Fns l.prog w K mg base "_ends_by_values" 2 ["facts", "commutes"] (spEbv l.prog w) := ⟨f_ebv, g_ebv, ok_ebv F_ebv b N_out, PySem.W.mg_of X G d_ebv, F_ebv.kp, b_ebv⟩
  have N_perm : Fns l.prog w K mg base "_all_permissions" 1 ["letters", "moving"] spPerm := ⟨f_perm, g_perm, ok_perm F_perm b, PySem.W.mg_of X G d_perm, F_perm.kp, b_perm⟩
  have FGI := ok_gi (P := l.prog) (w := w) (mg := mg) (base := base) FI b cl (no _ (by simp)) (no _ (by simp)) (no _ (by simp)) (no _ (by simp)) (no _ (by simp)) (no _ (by simp)) (no _ (by simp)) (no _ (by simp)) (no _ (by simp)) N_ckL N_ckF N_ckC N_ft N_ebv N_perm
  have FGI2 := ok_gi2 (P := l.prog) (w := w) (mg := mg) (base := base) FI b cl (no _ (by simp)) (no _ (by simp)) (no _ (by simp)) (no _ (by simp)) (no _ (by simp)) (no _ (by simp)) (no _ (by simp)) (no _ (by simp)) (no _ (by simp)) N_ckL N_ckF2 N_ckC2 N_ft2 N_ebv N_perm
  have N_made : Fns l.prog w K mg base "_law_made" 7 ["_law_g"] (spMade C) := ⟨f_made, g_made, ok_made F_made (FX.mk_of x_mk) FGI bI (PySem.W.mg_of X G aC), PySem.W.mg_of X G d_made, F_made.kp, b_made⟩
  have N_cell : Fns l.prog w K mg base "_law_cell" 1 ["_law_script", "_law_k"] (GB.spCell K) := ⟨f_cell, g_cell, ok_cell F_cell b, PySem.W.mg_of X G d_cell, F_cell.kp, b_cell⟩
  have N_pool : Fns l.prog w K mg base "_law_pool" 1 ["_law_grain"] spPool := ⟨f_pool, g_pool, ok_pool F_pool b, PySem.W.mg_of X G d_pool, F_pool.kp, b_pool⟩
  have N_take : Fns l.prog w K mg base "_law_take" 1 ["_law_pool_here", "_law_many"] spTake := ⟨f_take, g_take, ok_take F_take b, PySem.W.mg_of X G d_take, F_take.kp, b_take⟩
  have N_mixed : Fns l.prog w K mg base "_law_mixed" 2 ["_law_pool_here", "_law_things"] (spMixed K) := ⟨f_mixed, g_mixed, ok_mixed F_mixed b N_take, PySem.W.mg_of X G d_mixed, F_mixed.kp, b_mixed⟩
  have N_one : Fns l.prog w K mg base "_law_one" 2 ["_law_pool_here", "_law_things"] (spOne K) := ⟨f_one, g_one, ok_one F_one b N_take, PySem.W.mg_of X G d_one, F_one.kp, b_one⟩
  have N_oneT : Fns l.prog w K mg base "_law_one" 2 ["_law_pool_here", "_law_things"] (spOneT K) := ⟨f_one, g_one, ok_oneT F_one b N_take, PySem.W.mg_of X G d_one, F_one.kp, b_one⟩
  have N_ground : Fns l.prog w K mg base "_law_ground" 3 ["_law_pool_here", "_law_most"] spGround := ⟨f_ground, g_ground, ok_ground F_ground b N_take N_mixed N_one, PySem.W.mg_of X G d_ground, F_ground.kp, b_ground⟩
  have N_term : Fns l.prog w K mg base "_law_term" 16 ["_law_pool_here", "_law_g", "_law_names", "_law_left"] (spTerm K 14) := ⟨f_term, g_term, ok_term F_term b (PySem.W.mg_of X G d_term) F_term.kp b_term N_one N_oneT 14, PySem.W.mg_of X G d_term, F_term.kp, b_term⟩
  have SC : SgC K CS := ⟨FX.cl_of x_clS, FX.no_of x_noS (by simp), FX.no_of x_noS (by simp)⟩
  have WD : Wds K mg := FX.tup_of X G x_w1 x_w2
  have TBL : TBl K w mg := by
    obtain ⟨es, n, kd⟩ := He.dicW_ok x_tb1
    refine ⟨a_tb, es, n, PySem.W.mg_of X G d_tb, kd, fun q hq => ?_, fun x hx hw => He.eqO_ok (List.all_eq_true.mp x_tb4 x (List.mem_filter.mpr ⟨hx, by rw [decide_eq_false hw]; rfl⟩))⟩
    obtain ⟨u, e1, e2⟩ := FX.dct_of x_tb2 hq
    exact ⟨⟨es, n, u, kd.at_, kd.lit, e1, e2⟩, u, e1⟩
  have M1 : MethOk l.prog w K mg base CS "sign" 1 ["self"] (spSign CS) := ⟨f_s1, g_s1, FX.meth_of x_s1, ok_s1 F_s1 SC, b_s1⟩
  have M2 : MethOk l.prog w K mg base CS "take" 2 ["self", "wanted"] (spTake1 CS) := ⟨f_s2, g_s2, FX.meth_of x_s2, ok_s2 F_s2 SC M1, b_s2⟩
  have M3 : MethOk l.prog w K mg base CS "take_name" 2 ["self"] (spTakeN CS) := ⟨f_s3, g_s3, FX.meth_of x_s3, ok_s3 F_s3 SC (FX.int_of X G x_signs) M1, b_s3⟩
  have M4 : MethOk l.prog w K mg base CS "take_word" 2 ["self"] (spTakeW CS) := ⟨f_s4, g_s4, FX.meth_of x_s4, ok_s4 F_s4 b SC WD M1, b_s4⟩
  have M7 : MethOk l.prog w K mg base CS "take_behind_bracket" 3 ["self", "word"] (spBb CS) := ⟨f_s7, g_s7, FX.meth_of x_s7, ok_s7 F_s7 SC TBL M2 M3, b_s7⟩
  have M6 : MethOk l.prog w K mg base CS "take_begun" 4 ["self"] (spBg CS) := ⟨f_s6, g_s6, FX.meth_of x_s6, ok_s6 F_s6 SC M1 M2 M3 M4 M7, b_s6⟩
  have N_ah : Fns l.prog w K mg base "_ahead_of_brackets" 1 ["letter"] spAh := ⟨f_ah, g_ah, ok_ah F_ah WD, PySem.W.mg_of X G d_ah, F_ah.kp, b_ah⟩
  have N_txt : Fns l.prog w K mg base "text_of" 16 ["term"] (spTxt K 14) := ⟨f_txt, g_txt, ok_txt F_txt b (PySem.W.mg_of X G d_txt) F_txt.kp b_txt N_ah N_tin 14, PySem.W.mg_of X G d_txt, F_txt.kp, b_txt⟩
  have N_wr : Fns l.prog w K mg base "written" 34 ["ground", "term"] (spWr K C) := ⟨f_wr, g_wr, ok_wr F_wr N_txt N_chd, PySem.W.mg_of X G d_wr, F_wr.kp, b_wr⟩
  have N_wh : Fns l.prog w K mg base "_whole" 21 ["text"] (spWh K) := ⟨f_wh, g_wh, ok_wh F_wh b SC (FX.mk_of x_mkS) (ok_s0 F_s0 SC) b_s0 (PySem.W.mg_of X G aS) (FX.meth_of x_s5) (ok_s5 F_s5 b SC (FX.meth_of x_s5) b_s5 M1 M2 M6 14) b_s5, PySem.W.mg_of X G d_wh, F_wh.kp, b_wh⟩
  have N_rd : Fns l.prog w K mg base "read" 34 ["ground", "text"] (spRd K C) := ⟨f_rd, g_rd, ok_rd F_rd N_wh N_chd, PySem.W.mg_of X G d_rd, F_rd.kp, b_rd⟩
  have N_lt : Fns l.prog w K mg base "_law_text" 15 ["_law_term_here"] (spLt K 14) := ⟨f_lt, g_lt, ok_lt F_lt b (PySem.W.mg_of X G d_lt) F_lt.kp b_lt 14, PySem.W.mg_of X G d_lt, F_lt.kp, b_lt⟩
  have N_wg : Fns l.prog w K mg base "_law_word_ground" 3 ["_law_pool_here"] spWg := ⟨f_wg, g_wg, ok_wg F_wg b N_take N_mixed, PySem.W.mg_of X G d_wg, F_wg.kp, b_wg⟩
  exact ok_law {
    T := b
    CE := N_cell
    PL := N_pool
    TK := N_take
    GR := N_ground
    WG := N_wg
    MD := N_made
    TM := N_term
    WR := N_wr
    RD := N_rd
    LT := N_lt } {
    T := b
    RD := N_rd
    gC := PySem.W.mg_of X G aC
    mkd := ⟨f_gi, _, da, db, dc, ds2, FX.mk_of x_mk, FGI2, bI2, vds2, em1, em2, em3⟩ } hr hS
theorem walk {l : PySem.W.OpenLaw} {q : Program} {loose : List Str} {XP : (Str → Option Value) → Heap → Prop} {YP : World → Heap → Prop} {d : DefRec} {K : Params → PySem.W.Frag} (hn : l.most = some 63) (hdf : d.params.defaults = []) (hrec : ((PyProof.Rows.recsOf q).any fun e => e.name == d.name) = true)
    (hY : ∀ (w : World) (h : Heap), YP w h → (K w.params).In h)
    (F : ∀ (w : World) (mg : Str → Option Value) (fa : Addr) (h : Heap), (K w.params).In h → h.Ns mainGlobals mg → mg d.name = some (.ref fa) → OwnTab (K w.params) fa h → EndG.LawG l w (K w.params) 45 63 "_law_script" lawN mg fa h) :
    PySem.W.WalkO q loose XP YP l.row.toRowW d [] (fun f vs => PySem.call f vs) :=
  EndG.walk_g (n := 63) (k := 45) (x := "_law_script") hn (by decide) hdf ⟨rfl, by decide, by decide⟩ hrec hY F
end K27
set_option Elab.async false
open PySem PySem.W PyProof.Rows
set_option maxRecDepth 100000 in
set_option maxHeartbeats 0 in
theorem PySem.Challenge.cw_freeworldrules_k27_texts_there_and_back_holds : PySem.Challenge.rw_freeworldrules_k27_texts_there_and_back.Holds := by
  w_on; o_law; k_headLK; (case hw => w_witness2)
  k_fill
  refine K27.walk (l := PySem.Challenge.rw_freeworldrules_k27_texts_there_and_back) rfl rfl (by kernel_rfl) (fun w h Y => PySem.W.kIn_of Y) ?F
  case F =>
    intro w mg fa h KX G hmg own
    refine' K27.all_mk KX G hmg own ?aC ?d_isL ?F_isL ?d_isN ?F_isN ?d_isNm ?F_isNm ?d_chd ?F_chd ?d_chk ?F_chk ?d_par ?F_par ?d_isU ?F_isU ?d_tin ?F_tin ?d_wr ?F_wr ?d_rd ?F_rd ?d_txt ?F_txt ?d_ah ?F_ah ?d_wh ?F_wh ?d_ckL ?F_ckL ?d_ckF ?F_ckF ?d_ckC ?F_ckC ?d_ft ?F_ft ?d_isF ?F_isF ?d_te ?F_te ?d_ebv ?F_ebv ?d_out ?F_out ?d_perm ?F_perm ?d_cell ?F_cell ?d_pool ?F_pool ?d_take ?F_take ?d_mixed ?F_mixed ?d_one ?F_one ?d_ground ?F_ground ?d_made ?F_made ?d_term ?F_term ?d_wg ?F_wg ?d_lt ?F_lt ?i_prt ?F_prt ?aS ?i_s0 ?F_s0 ?i_s1 ?F_s1 ?x_s1 ?i_s2 ?F_s2 ?x_s2 ?i_s3 ?F_s3 ?x_s3 ?i_s4 ?F_s4 ?x_s4 ?i_s5 ?F_s5 ?x_s5 ?i_s6 ?F_s6 ?x_s6 ?i_s7 ?F_s7 ?x_s7 ?x_clS ?x_noS ?x_mkS ?x_w1 ?x_w2 ?i_gi ?F_gi ?aB ?i_bt ?t_bt ?F_bt ?d_law ?F_law ?x_free ?x_signs ?x_parts ?x_named1 ?x_named2 ?d_tb ?x_tb1 ?x_tb2 ?x_tb3 ?x_tb4 ?x_cl ?x_no ?x_mk ?x_prt ?x_bt
    (case aC => k_is)
    (case d_isL => k_is)
    (case F_isL => exact ⟨_, L2.fun_mk (by k_is) (by k_is) (by k_is)⟩)
    (case d_isN => k_is)
    (case F_isN => exact ⟨_, L2.fun_mk (by k_is) (by k_is) (by k_is)⟩)
    (case d_isNm => k_is)
    (case F_isNm => exact ⟨_, L2.fun_mk (by k_is) (by k_is) (by k_is)⟩)
    (case d_chd => k_is)
    (case F_chd => exact ⟨_, L2.fun_mk (by k_is) (by k_is) (by k_is)⟩)
    (case d_chk => k_is)
    (case F_chk => exact ⟨_, L2.fun_mk (by k_is) (by k_is) (by k_is)⟩)
    (case d_par => k_is)
    (case F_par => exact ⟨_, L2.fun_mk (by k_is) (by k_is) (by k_is)⟩)
    (case d_isU => k_is)
    (case F_isU => exact ⟨_, L2.fun_mk (by k_is) (by k_is) (by k_is)⟩)
    (case d_tin => k_is)
    (case F_tin => exact ⟨_, L2.fun_mk (by k_is) (by k_is) (by k_is)⟩)
    (case d_wr => k_is)
    (case F_wr => exact ⟨_, L2.fun_mk (by k_is) (by k_is) (by k_is)⟩)
    (case d_rd => k_is)
    (case F_rd => exact ⟨_, L2.fun_mk (by k_is) (by k_is) (by k_is)⟩)
    (case d_txt => k_is)
    (case F_txt => exact ⟨_, L2.fun_mk (by k_is) (by k_is) (by k_is)⟩)
    (case d_ah => k_is)
    (case F_ah => exact ⟨_, L2.fun_mk (by k_is) (by k_is) (by k_is)⟩)
    (case d_wh => k_is)
    (case F_wh => exact ⟨_, L2.fun_mk (by k_is) (by k_is) (by k_is)⟩)
    (case d_ckL => k_is)
    (case F_ckL => exact ⟨_, L2.fun_mk (by k_is) (by k_is) (by k_is)⟩)
    (case d_ckF => k_is)
    (case F_ckF => exact ⟨_, L2.fun_mk (by k_is) (by k_is) (by k_is)⟩)
    (case d_ckC => k_is)
    (case F_ckC => exact ⟨_, L2.fun_mk (by k_is) (by k_is) (by k_is)⟩)
    (case d_ft => k_is)
    (case F_ft => exact ⟨_, L2.fun_mk (by k_is) (by k_is) (by k_is)⟩)
    (case d_isF => k_is)
    (case F_isF => exact ⟨_, L2.fun_mk (by k_is) (by k_is) (by k_is)⟩)
    (case d_te => k_is)
    (case F_te => exact ⟨_, L2.fun_mk (by k_is) (by k_is) (by k_is)⟩)
    (case d_ebv => k_is)
    (case F_ebv => exact ⟨_, L2.fun_mk (by k_is) (by k_is) (by k_is)⟩)
    (case d_out => k_is)
    (case F_out => exact ⟨_, L2.fun_mk (by k_is) (by k_is) (by k_is)⟩)
    (case d_perm => k_is)
    (case F_perm => exact ⟨_, L2.fun_mk (by k_is) (by k_is) (by k_is)⟩)
    (case d_cell => k_is)
    (case F_cell => exact ⟨_, L2.fun_mk (by k_is) (by k_is) (by k_is)⟩)
    (case d_pool => k_is)
    (case F_pool => exact ⟨_, L2.fun_mk (by k_is) (by k_is) (by k_is)⟩)
    (case d_take => k_is)
    (case F_take => exact ⟨_, L2.fun_mk (by k_is) (by k_is) (by k_is)⟩)
    (case d_mixed => k_is)
    (case F_mixed => exact ⟨_, L2.fun_mk (by k_is) (by k_is) (by k_is)⟩)
    (case d_one => k_is)
    (case F_one => exact ⟨_, L2.fun_mk (by k_is) (by k_is) (by k_is)⟩)
    (case d_ground => k_is)
    (case F_ground => exact ⟨_, L2.fun_mk (by k_is) (by k_is) (by k_is)⟩)
    (case d_made => k_is)
    (case F_made => exact ⟨_, L2.fun_mk (by k_is) (by k_is) (by k_is)⟩)
    (case d_term => k_is)
    (case F_term => exact ⟨_, L2.fun_mk (by k_is) (by k_is) (by k_is)⟩)
    (case d_wg => k_is)
    (case F_wg => exact ⟨_, L2.fun_mk (by k_is) (by k_is) (by k_is)⟩)
    (case d_lt => k_is)
    (case F_lt => exact ⟨_, L2.fun_mk (by k_is) (by k_is) (by k_is)⟩)
    (case i_prt => k_is)
    (case F_prt => exact ⟨_, L2.fun_mk (by k_is) (by k_is) (by k_is)⟩)
    (case aS => k_is)
    (case i_s0 => k_is)
    (case F_s0 => exact ⟨_, L2.fun_mk (by k_is) (by k_is) (by k_is)⟩)
    (case i_s1 => k_is)
    (case F_s1 => exact ⟨_, L2.fun_mk (by k_is) (by k_is) (by k_is)⟩)
    (case x_s1 => kernel_rfl)
    (case i_s2 => k_is)
    (case F_s2 => exact ⟨_, L2.fun_mk (by k_is) (by k_is) (by k_is)⟩)
    (case x_s2 => kernel_rfl)
    (case i_s3 => k_is)
    (case F_s3 => exact ⟨_, L2.fun_mk (by k_is) (by k_is) (by k_is)⟩)
    (case x_s3 => kernel_rfl)
    (case i_s4 => k_is)
    (case F_s4 => exact ⟨_, L2.fun_mk (by k_is) (by k_is) (by k_is)⟩)
    (case x_s4 => kernel_rfl)
    (case i_s5 => k_is)
    (case F_s5 => exact ⟨_, L2.fun_mk (by k_is) (by k_is) (by k_is)⟩)
    (case x_s5 => kernel_rfl)
    (case i_s6 => k_is)
    (case F_s6 => exact ⟨_, L2.fun_mk (by k_is) (by k_is) (by k_is)⟩)
    (case x_s6 => kernel_rfl)
    (case i_s7 => k_is)
    (case F_s7 => exact ⟨_, L2.fun_mk (by k_is) (by k_is) (by k_is)⟩)
    (case x_s7 => kernel_rfl)
    (case x_clS => kernel_rfl)
    (case x_noS => kernel_rfl)
    (case x_mkS => kernel_rfl)
    (case x_w1 => kernel_rfl)
    (case x_w2 => kernel_rfl)
    (case i_gi => k_is)
    (case F_gi => exact ⟨_, _, _, _, _, _, _, _, _, _, by k_is, by k_is, by kernel_rfl, by k_is⟩)
    (case aB => k_is)
    (case i_bt => k_is)
    (case t_bt => k_is)
    (case F_bt => exact ⟨_, L2.fun_mk (by k_is) (by k_is) (by k_is)⟩)
    (case d_law => k_is)
    (case F_law => exact ⟨_, _, _, _, _, _, _, _, _, by k_is, by k_is, by k_is⟩)
    (case x_free => kernel_rfl)
    (case x_signs => kernel_rfl)
    (case x_parts => kernel_rfl)
    (case x_named1 => kernel_rfl)
    (case x_named2 => kernel_rfl)
    (case d_tb => k_is)
    (case x_tb1 => kernel_rfl)
    (case x_tb2 => kernel_rfl)
    (case x_tb3 => kernel_rfl)
    (case x_tb4 => kernel_rfl)
    (case x_cl => kernel_rfl)
    (case x_no => kernel_rfl)
    (case x_mk => kernel_rfl)
    (case x_prt => kernel_rfl)
    (case x_bt => kernel_rfl)
