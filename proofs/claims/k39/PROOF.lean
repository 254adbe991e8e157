import PyProof.Rows.All
import Wide.All
import OpenK.AllK
import Wide.FinOn
import HandS.ForMost
import HandS.IsInst
import HandS.Exc
import HandS.Deep
import HandS.Star
import KE.GoesEnum
import HandS.Walk
import HandS.StrMore
import PyProof.TupleOfSeq
import HandS.ExcValue
import HandS.ExcOwn
import HandS.TupAny
import KE.KDictKeyed
import KE.KDictCopyH
import KE.KDictList
import KE.KeyNested
import HandS.ExcInit
import HandS.ExcField
import HandS.Dict
import HandS.Comp
import HandS.WordsExc
import HandS.HeadHook3
import HandS.EndOwn
import HandS.Defaults
import HandS.TryOnly
import HandS.DictComp
import HandS.IterVal
import KE.KOwnIter
import HandS.Text
import HandS.FStr
import PyProof.InstNe
import PyProof.NeKinds
import HandS.DictEq
import PyProof.P3Eq
import HandS.TryMany
import HandS.ListItems
import HandS.TupMul
import HandS.Style
import HandS.More
import HandS.OwnIter
import PyProof.ReprLen
import PyProof.ReprRoads
import HandS.Words
import HandS.Lambda
import KE.OsRunLaw
import PySem.Challenge.RW_freeworldrules_k39_libraries_made
set_option Elab.async false
set_option linter.all false
set_option maxRecDepth 100000
set_option maxHeartbeats 4000000
/-! What the laws' own helpers lean on: heaps with some places hidden, pools, promises. -/
namespace GB
open PySem PySem.Spec L2
/-- the heap without the places that others may change -/
def hid (ps : List Addr) (H : Hp) : Hp := fun b => if b ∈ ps then none else H b
theorem hid_in {ps : List Addr} {H : Hp} {b : Addr} {o : HO} (e : hid ps H b = some o) : H b = some o ∧ b ∉ ps := by
  unfold hid at e
  split at e
  · cases e
  · rename_i h; exact ⟨e, h⟩
theorem hid_of {ps : List Addr} {H : Hp} {b : Addr} (h : b ∉ ps) : hid ps H b = H b := if_neg h
theorem hid_to {ps : List Addr} {H : Hp} {b : Addr} {o : HO} (h : b ∉ ps) (e : H b = some o) : hid ps H b = some o := by rw [hid_of h]; exact e
theorem hid_low (ps : List Addr) (H : Hp) : Same (hid ps H) H := fun b o e => (hid_in e).1
theorem hid_less {ps qs : List Addr} {H : Hp} (h : ∀ p ∈ qs, p ∈ ps) : Same (hid ps H) (hid qs H) := fun b o e => by
  obtain ⟨e1, n⟩ := hid_in e
  exact hid_to (fun m => n (h b m)) e1
theorem hid_same {ps : List Addr} {H H' : Hp} (s : Same H H') : Same (hid ps H) (hid ps H') := fun b o e => by
  obtain ⟨e1, n⟩ := hid_in e
  exact hid_to n (s b o e1)
/-- all but these places stands as it was -/
abbrev Bt (ps : List Addr) (H H' : Hp) : Prop := Same (hid ps H) (hid ps H')
theorem bt_upd {ps : List Addr} {H : Hp} {a : Addr} {o : HO} (h : a ∈ ps) : Bt ps H (upd H a o) := fun b u e => by
  obtain ⟨e1, n⟩ := hid_in e
  have : b ≠ a := fun z => n (by rw [z]; exact h)
  exact hid_to n (by rw [upd_ne this]; exact e1)
theorem bt_weak {ps qs : List Addr} {H H' : Hp} (h : ∀ p ∈ qs, p ∈ ps) (s : Bt qs H H') : Bt ps H H' := fun b o e => by
  obtain ⟨e1, n⟩ := hid_in e
  have nq : b ∉ qs := fun m => n (h b m)
  exact hid_to n (hid_in (s b o (hid_to nq e1))).1
theorem bt_of {ps : List Addr} {H H' : Hp} (s : Same H H') : Bt ps H H' := hid_same s
theorem bt_at {ps : List Addr} {H H' : Hp} {a : Addr} {o : HO} (s : Bt ps H H') (n : a ∉ ps) (e : H a = some o) : H' a = some o := (hid_in (s a o (hid_to n e))).1
/-- a new object is laid -/
theorem lay {H : Hp} {a : Addr} {o : HO} (n : H a = none) : ∃ H', Same H H' ∧ H' a = some o ∧ upd H a o = H' := ⟨_, fun b u e => by rw [upd_ne (ne_of_none e n)]; exact e, upd_same, rfl⟩
theorem ni1 {a p : Addr} (h : a ≠ p) : a ∉ [p] := fun m => h (List.mem_singleton.mp m)
theorem Same.seqT {K : PySem.W.Frag} {H H' : Hp} {a : Addr} {xs : List V} (e : Same H H') (h : SqT K H a xs) : SqT K H' a xs := by
  rcases h with (h | ⟨o, h⟩) | h
  · exact .inl (.inl (e _ _ h))
  · exact .inl (.inr ⟨o, e _ _ h⟩)
  · exact .inr h
def poolV (a b c : Int) : List V := [.int a, .int b, .int c]
/-- a pool at p, drawn from n times at most -/
structure PoolIs (H : Hp) (p : Addr) (n : Nat) : Prop where
  ex : ∃ a b c : Int, H p = some (.lst (poolV a b c)) ∧ 0 ≤ a ∧ 0 ≤ b ∧ b < 1000000007 ∧ 0 ≤ c ∧ c ≤ n
theorem PoolIs.mono {H H' : Hp} {p : Addr} {n m : Nat} (s : Same H H') (h : n ≤ m) (P : PoolIs H p n) : PoolIs H' p m := by
  obtain ⟨a, b, c, e, h1, h2, h3, h4, h5⟩ := P
  exact ⟨a, b, c, s _ _ e, h1, h2, h3, h4, by omega⟩
theorem PoolIs.ne {H : Hp} {p a : Addr} {n : Nat} (P : PoolIs H p n) (h : H a = none) : a ≠ p := by
  obtain ⟨x, y, z, e, _⟩ := P
  exact (ne_of_none e h).symm
def spCell (K : PySem.W.Frag) : Sp := fun vs H Q _ => ∃ (a : Addr) (ns : List Int) (k : Nat), vs = [.ref a, .int k] ∧ SqL K H a (ns.map V.int) ∧ ∀ z, Q (.int z) H
def spPool : Sp := fun vs H Q _ => ∃ g : Int, vs = [.int g] ∧ ∀ p H', H p = none → Same H H' → PoolIs H' p 0 → Q (.ref p) H'
/-- a draw: below m -/
def spTake : Sp := fun vs H Q _ => ∃ (p : Addr) (m : Int) (n : Nat), vs = [.ref p, .int m] ∧ 0 < m ∧ m < 1000000 ∧ n ≤ 1000000 ∧ PoolIs H p n ∧
  ∀ (r : Nat) H', (r : Int) < m → Bt [p] H H' → PoolIs H' p (n + 1) → Q (.int r) H'
structure Fns (P : Program) (w : World) (K : PySem.W.Frag) (mg : Str → Option Value) (base : Heap) (n : Str) (k : Nat) (ps : List Str) (sp : Sp) : Prop where
  ex : ∃ (f : Addr) (fd : FuncData), FnOk P w K mg base CX0 k f fd ps sp ∧ mg n = some (.ref f) ∧ PySem.W.keepIn K (.ref f) = true ∧ Binds K fd ps []
section
variable {X : Cx} {n : Str} {k j : Nat} {ps : List Str} {sp : Sp} {e : Expr} {es : List Expr} {p pos : Pos} {t : TA}
theorem pe_fn (F : Fns X.prog X.w X.K X.mg X.base n k ps sp) (hr : Room j X.A) (hk : k ≤ j) (hg : Gl X n) (ha : PA X (e :: es) t) (hdb : (n == ("__debug__" : Str)) = false := by decide)
    (he : starEach (e :: es) X.env = (false, eval e X.env) :: starEach es X.env := by rfl) (hpl : (backTo pos (starEach es X.env)).any (·.1) = false := by rfl) : PE X (.Call (.Name n p) (e :: es) [] pos) (tCall sp [] E0 t) := by
  obtain ⟨f, fd, G, m, kp, b⟩ := F.ex
  exact pe_call G (hr.mono hk) hg m kp b .nil pass0 ha hdb he hpl
end
/-- the built-ins' names, as the module leaves them -/
structure Bl (mg : Str → Option Value) : Prop where
  len : mg "len" = none
  int : mg "int" = none
  list : mg "list" = none
  tuple : mg "tuple" = none
  dict : mg "dict" = none
  range : mg "range" = none
  sorted : mg "sorted" = none
  isi : mg "isinstance" = none
  bool : mg "bool" = none
  str : mg "str" = none
  all : mg "all" = none
  any : mg "any" = none
  enum : mg "enumerate" = none
/-- the things in an order of its own -/
def spMixed (K : PySem.W.Frag) : Sp := fun vs H Q _ => ∃ (p t : Addr) (xs : List V) (n : Nat), vs = [.ref p, .ref t] ∧ SqL K (hid [p] H) t xs ∧ xs.length ≤ 60 ∧ n + 60 ≤ 1000000 ∧ PoolIs H p n ∧
  ∀ (q : Addr) (ys : List V) H', ys.Perm xs → H q = none → Bt [p] H H' → H' q = some (.lst ys) → PoolIs H' p (n + 60) → Q (.ref q) H'
/-- one of the things -/
def spOne (K : PySem.W.Frag) : Sp := fun vs H Q _ => ∃ (p t : Addr) (xs : List V) (n : Nat), vs = [.ref p, .ref t] ∧ SqL K (hid [p] H) t xs ∧ xs ≠ [] ∧ xs.length ≤ 100000 ∧ n + 1 ≤ 1000000 ∧ PoolIs H p n ∧
  ∀ (v : V) H', v ∈ xs → Bt [p] H H' → PoolIs H' p (n + 1) → Q v H'
theorem cut_to (xs : List V) (r : Nat) (h : r ≤ xs.length) : cutV xs none (some (r : Int)) = xs.take r := by
  unfold cutV
  rw [HT.sIx_none, HT.sIx_nat, List.drop_zero, Nat.min_eq_left h, Nat.sub_zero]
theorem cut_from (xs : List V) (r : Nat) : cutV xs (some (r : Int)) none = xs.drop r := by
  unfold cutV
  rw [HT.sIx_none, HT.sIx_nat]
  by_cases h : r ≤ xs.length
  · rw [Nat.min_eq_left h, List.take_of_length_le]
    rw [List.length_drop]; exact Nat.le_refl _
  · rw [Nat.min_eq_right (by omega), List.drop_of_length_le (Nat.le_refl _), List.drop_of_length_le (by omega)]
    simp
theorem perm_out {α : Type} {left : List α} {r : Nat} {v : α} (fs : List α) (h : left[r]? = some v) : ((fs ++ [v]) ++ (left.take r ++ left.drop (r + 1))).Perm (fs ++ left) := by
  obtain ⟨hr, rfl⟩ := List.getElem?_eq_some_iff.mp h
  rw [List.append_assoc]
  refine List.Perm.append_left fs ?_
  have e : left = left.take r ++ left[r] :: left.drop (r + 1) := by
    rw [← List.drop_eq_getElem_cons hr, List.take_append_drop]
  conv => rhs; rw [e]
  show (left[r] :: (left.take r ++ left.drop (r + 1))).Perm _
  exact List.perm_middle.symm
end GB
set_option Elab.async false
set_option linter.all false
set_option maxRecDepth 100000
set_option maxHeartbeats 4000000
namespace K39
open PySem L2 GB
def topS (i : Nat) : Stmt := PySem.Challenge.pw_freeworldrules_k39_libraries_made.main.body.getD i (.Pass ⟨0, 0, 0, 0⟩)
abbrev sCell : Stmt := topS 40
abbrev sPool : Stmt := topS 41
abbrev sTake : Stmt := topS 42
abbrev sMixed : Stmt := topS 43
abbrev sOne : Stmt := topS 44
section
variable {P : Program} {w : World} {K : PySem.W.Frag} {mg : Str → Option Value} {base : Heap}
theorem plq {H : Hp} {Q : VK} {p : Addr} {a b : Int} (hp : H p = none) (q : ∀ p H', H p = none → Same H H' → PoolIs H' p 0 → Q (.ref p) H') (h1 : 0 ≤ a) (h2 : 0 ≤ b) (h3 : b < 1000000007) : Q (.ref p) (upd H p (.lst (poolV a b 0))) :=
  q p _ hp (fun c o e => by rw [upd_ne (ne_of_none e hp)]; exact e) ⟨a, b, 0, upd_same, h1, h2, h3, Int.le_refl 0, Int.le_refl 0⟩
theorem tkq {H : Hp} {Q : VK} {p : Addr} {m r a b c : Int} {n : Nat} (q : ∀ (r : Nat) H', (r : Int) < m → Bt [p] H H' → PoolIs H' p (n + 1) → Q (.int r) H') (r0 : 0 ≤ r) (r1 : r < m) (h1 : 0 ≤ a) (h2 : 0 ≤ b) (h3 : b < 1000000007) (h4 : 0 ≤ c) (h5 : c ≤ ((n + 1 : Nat) : Int)) :
    Q (.int r) (upd H p (.lst (poolV a b c))) := by
  obtain ⟨j, rfl⟩ : ∃ j : Nat, r = j := ⟨r.toNat, by omega⟩
  exact q j _ r1 (bt_upd List.mem_cons_self) ⟨a, b, c, upd_same, h1, h2, h3, h4, h5⟩
theorem scCell : FnScope ["_law_script", "_law_k"] ["_law_script", "_law_k"] (defScope sCell) := ⟨rfl, rfl, rfl, by decide +kernel, rfl, by decide +kernel, by decide +kernel⟩
theorem ok_cell {f : Addr} {fd : FuncData} (F : Fun K "_law_cell" "_law_cell" sCell f fd) (T : Bl mg) : FnOk P w K mg base CX0 1 f fd ["_law_script", "_law_k"] (GB.spCell K) := by
  refine F.ok scCell (fun vs H Q E h => ?_) (fun cdv A outer s H vs Q E hr h => ?_)
  · obtain ⟨a, ns, k, rfl, _⟩ := h
    rfl
  · obtain ⟨a, ns, k, rfl, hS, q⟩ := h
    refine ⟨_, pss_cons (ps_if (pt_cmpR op_lt (pv 1) (pe_callB call_len_seq (by rfl) T.len PySem.boot_len (pa_cons (pv 0) pa_nil)) (nomark _))
      (pss_one (ps_ret (pe_ix ix_list (pv 0) (pv 1) (fun _ _ => rfl)))) pss_nil) (pss_one (ps_ret pe_int)), ?_⟩
    refine ⟨_, rfl, _, rfl, a, _, rfl, .inl hS, _, _, rfl, rfl, _, rfl, ?_⟩
    by_cases c : (k : Int) < ((ns.map V.int).length : Int)
    · rw [decide_eq_true c]
      refine iteT ?_
      have hk : k < ns.length := by rw [List.length_map] at c; omega
      exact ⟨_, rfl, _, rfl, a, _, _, .int ns[k], rfl, rfl, hS, atI_nat (by simp [hk]), q _⟩
    · rw [decide_eq_false c]
      exact iteF (q 0)
theorem scPool : FnScope ["_law_grain", "_law_folded"] ["_law_grain"] (defScope sPool) := ⟨rfl, rfl, rfl, by decide +kernel, rfl, by decide +kernel, by decide +kernel⟩
theorem ok_pool {f : Addr} {fd : FuncData} (F : Fun K "_law_pool" "_law_pool" sPool f fd) (T : Bl mg) : FnOk P w K mg base CX0 1 f fd ["_law_grain"] spPool := by
  refine F.ok scPool (fun vs H Q E h => ?_) (fun cdv A outer s H vs Q E hr h => ?_)
  · obtain ⟨g, rfl, _⟩ := h
    rfl
  · obtain ⟨g, rfl, q⟩ := h
    refine ⟨_, pss_cons (ps_set (i := 1) scPool.nd rfl (.inl rfl) (pe_op op_mul pe_int (pv 0)))
      (pss_cons (ps_if (pt_cmpR op_lt (pv 0) pe_int (nomark _)) (pss_one (ps_set (i := 1) scPool.nd rfl (.inl rfl) (pe_op op_sub (pe_op op_sub pe_int (pe_op op_mul pe_int (pv 0))) pe_int))) pss_nil)
      (pss_cons (ps_if (pt_cmpR op_ge (pv 1) (pe_op op_pow pe_int pe_int) (nomark _))
        (pss_one (ps_ret (pe_lst (pa_cons (pv 1) (pa_cons (pe_op op_mod (pe_callTy call_int1 (by rfl) T.int (by decide +kernel) (pa_cons (pv 1) pa_nil)) pe_int) (pa_cons pe_int pa_nil)))))) pss_nil)
      (pss_one (ps_ret (pe_lst (pa_cons pe_int (pa_cons (pe_op op_mod (pe_callTy call_int1 (by rfl) T.int (by decide +kernel) (pa_cons (pv 1) pa_nil)) pe_int) (pa_cons pe_int pa_nil)))))))), ?_⟩
    have fin : ∀ f : Int, 0 ≤ f → ∀ p, H p = none → Q (.ref p) (upd H p (.lst [.int f, .int (f % 1000000007), .int 0])) := fun f hf p hp =>
      plq hp q hf (Int.emod_nonneg _ (by decide)) (Int.emod_lt_of_pos _ (by decide))
    have fin0 : ∀ f : Int, ∀ p, H p = none → Q (.ref p) (upd H p (.lst [.int 0, .int (f % 1000000007), .int 0])) := fun f p hp =>
      plq hp q (by decide) (Int.emod_nonneg _ (by decide)) (Int.emod_lt_of_pos _ (by decide))
    refine ⟨_, rfl, _, _, rfl, rfl, .inl ⟨by decide, by decide⟩, ?_⟩
    refine ⟨_, rfl, _, _, rfl, rfl, _, rfl, ?_⟩
    by_cases c0 : g < 0
    · rw [decide_eq_true c0]
      refine iteT ?_
      refine ⟨_, rfl, _, _, rfl, rfl, .inl ⟨by decide, by decide⟩, _, _, rfl, rfl, _, _, rfl, rfl, ?_⟩
      refine ⟨_, rfl, _, _, rfl, rfl, ⟨by decide, by decide, by decide⟩, _, _, rfl, rfl, _, rfl, ?_⟩
      refine ite2 (fun _ => ?_) (fun _ => ?_)
      · exact ⟨_, rfl, _, rfl, .inl ⟨_, rfl, _, _, rfl, rfl, (by show (0 : Int) < 1000000007; decide), (by show 3 ≤ sizeLine; decide), fin _ (by omega)⟩⟩
      · exact ⟨_, rfl, .inl ⟨_, rfl, _, _, rfl, rfl, (by show (0 : Int) < 1000000007; decide), (by show 3 ≤ sizeLine; decide), fin0 _⟩⟩
    · rw [decide_eq_false c0]
      refine iteF ?_
      refine ⟨_, rfl, _, _, rfl, rfl, ⟨by decide, by decide, by decide⟩, _, _, rfl, rfl, _, rfl, ?_⟩
      refine ite2 (fun _ => ?_) (fun _ => ?_)
      · exact ⟨_, rfl, _, rfl, .inl ⟨_, rfl, _, _, rfl, rfl, (by show (0 : Int) < 1000000007; decide), (by show 3 ≤ sizeLine; decide), fin _ (by omega)⟩⟩
      · exact ⟨_, rfl, .inl ⟨_, rfl, _, _, rfl, rfl, (by show (0 : Int) < 1000000007; decide), (by show 3 ≤ sizeLine; decide), fin0 _⟩⟩
theorem scTake : FnScope ["_law_pool_here", "_law_many", "_law_draw", "_law_mixed_here"] ["_law_pool_here", "_law_many"] (defScope sTake) := ⟨rfl, rfl, rfl, by decide +kernel, rfl, by decide +kernel, by decide +kernel⟩
theorem ok_take {f : Addr} {fd : FuncData} (F : Fun K "_law_take" "_law_take" sTake f fd) (T : Bl mg) : FnOk P w K mg base CX0 1 f fd ["_law_pool_here", "_law_many"] spTake := by
  refine F.ok scTake (fun vs H Q E h => ?_) (fun cdv A outer s H vs Q E hr h => ?_)
  · obtain ⟨p, m, n, rfl, _⟩ := h
    rfl
  · obtain ⟨p, m, n, rfl, m0, m1, hn, ⟨a, b, c, hp, a0, b0, b1, c0, c1⟩, q⟩ := h
    refine ⟨_, pss_cons (ps_if (pt_cmpR op_gt (pe_ix ix_list (pv 0) pe_int (fun _ _ => rfl)) pe_int (nomark _))
        (pss_cons (ps_set (i := 2) scTake.nd rfl (.inl rfl) (pe_op op_mod (pe_callTy call_int1 (by rfl) T.int (by decide +kernel) (pa_cons (pe_ix ix_list (pv 0) pe_int (fun _ _ => rfl)) pa_nil)) (pv 1)))
        (pss_cons (ps_asg (pe_op op_fdiv (pe_ix ix_list (pv 0) pe_int (fun _ _ => rfl)) (pv 1)) (pg_sub (pv 0) pe_int set_list))
        (pss_one (ps_ret (pv 2))))) pss_nil)
      (pss_cons (ps_asg (pe_op op_add (pe_ix ix_list (pv 0) pe_int (fun _ _ => rfl)) pe_int) (pg_sub (pv 0) pe_int set_list))
      (pss_cons (ps_set (i := 3) scTake.nd rfl (.inl rfl) (pe_op op_mod (pe_callTy call_int1 (by rfl) T.int (by decide +kernel) (pa_cons
          (pe_op op_pow (pe_op op_add (pe_op op_add (pe_ix ix_list (pv 0) pe_int (fun _ _ => rfl)) (pe_op op_mul pe_int (pe_ix ix_list (pv 0) pe_int (fun _ _ => rfl)))) pe_int) pe_int) pa_nil)) pe_int))
      (pss_one (ps_ret (pe_op op_mod (pe_op op_mod (pe_callTy call_int1 (by rfl) T.int (by decide +kernel) (pa_cons
          (pe_op op_mul (pe_op op_add (pv 3) (pe_ix ix_list (pv 0) pe_int (fun _ _ => rfl))) pe_int) pa_nil)) pe_int) (pv 1)))))), ?_⟩
    have g0 : ∀ {x y z : Int} {H : Hp}, H p = some (.lst (poolV x y z)) → SqL K H p (poolV x y z) := fun h => SqL.of h
    refine ⟨_, rfl, p, _, 0, _, rfl, rfl, g0 hp, atI_nat (j := 0) rfl, _, _, rfl, rfl, _, rfl, ?_⟩
    by_cases ca : 0 < a
    · rw [decide_eq_true ca]
      refine iteT ?_
      refine ⟨_, rfl, p, _, 0, _, rfl, rfl, g0 hp, atI_nat (j := 0) rfl, .inl ⟨_, rfl, _, rfl, _, _, rfl, rfl, m0, ?_⟩⟩
      refine ⟨_, rfl, p, _, 0, _, rfl, rfl, g0 hp, atI_nat (j := 0) rfl, _, rfl, _, _, rfl, rfl, ⟨m0, by omega⟩, ?_⟩
      refine ⟨_, rfl, p, _, 0, 0, rfl, rfl, hp, rfl, _, rfl, ?_⟩
      exact tkq q (Int.emod_nonneg _ (by omega)) (Int.emod_lt_of_pos _ m0) (Int.ediv_nonneg a0 (by omega)) b0 b1 c0 (by omega)
    · rw [decide_eq_false ca]
      refine iteF ?_
      refine ⟨_, rfl, p, _, 2, _, rfl, rfl, g0 hp, atI_nat (j := 2) rfl, _, _, rfl, rfl, ?_⟩
      refine ⟨_, rfl, p, _, 2, 2, rfl, rfl, hp, rfl, ?_⟩
      have h1 : (upd H p (.lst (poolV a b (c + 1)))) p = some (.lst (poolV a b (c + 1))) := upd_same
      refine ⟨_, rfl, p, _, 1, _, rfl, rfl, g0 h1, atI_nat (j := 1) rfl, _, rfl, p, _, 2, _, rfl, rfl, g0 h1, atI_nat (j := 2) rfl, _, _, rfl, rfl, .inl ⟨by decide, by decide⟩, _, _, rfl, rfl, _, _, rfl, rfl, _, _, rfl, rfl, ⟨by decide, by decide, ?_⟩, .inl ⟨_, rfl, _, _, rfl, rfl, (by show (0 : Int) < 2147483647; decide), ?_⟩⟩
      · show (b + 7919 * (c + 1) + 104729).natAbs < 2 ^ 64
        omega
      · refine ⟨_, rfl, _, rfl, p, _, 2, _, rfl, rfl, g0 h1, atI_nat (j := 2) rfl, _, _, rfl, rfl, _, _, rfl, rfl, .inr ⟨by decide, by decide⟩, .inl ⟨_, rfl, _, _, rfl, rfl, (by show (0 : Int) < 2147483629; decide), _, rfl, _, _, rfl, rfl, m0, ?_⟩⟩
        exact tkq q (Int.emod_nonneg _ (by omega)) (Int.emod_lt_of_pos _ m0) a0 b0 b1 (by omega) (by omega)
theorem scMixed : FnScope ["_law_pool_here", "_law_things", "_law_left", "_law_found", "_law_k", "_law_at"] ["_law_pool_here", "_law_things"] (defScope sMixed) := ⟨rfl, rfl, rfl, by decide +kernel, rfl, by decide +kernel, by decide +kernel⟩
theorem ok_mixed {f : Addr} {fd : FuncData} (F : Fun K "_law_mixed" "_law_mixed" sMixed f fd) (T : Bl mg) (TK : Fns P w K mg base "_law_take" 1 ["_law_pool_here", "_law_many"] spTake) : FnOk P w K mg base CX0 2 f fd ["_law_pool_here", "_law_things"] (spMixed K) := by
  refine F.ok scMixed (fun vs H Q E h => ?_) (fun cdv A outer s H vs Q E hr h => ?_)
  · obtain ⟨p, t, xs, n, rfl, _⟩ := h
    rfl
  · obtain ⟨p, t, xs, n, rfl, hS, hx, hn, hP, q⟩ := h
    refine ⟨_, pss_cons (ps_set (i := 2) scMixed.nd rfl (.inl rfl) (pe_callTy call_list_of (by rfl) T.list (by decide +kernel) (pa_cons (pv 1) pa_nil)))
      (pss_cons (ps_set (i := 3) scMixed.nd rfl (.inl rfl) (pe_lst pa_nil))
      (pss_cons (ps_for PassesOwn.never rfl (pi_range1 rfl T.range (pa_cons (pe_callB call_len_seq (by rfl) T.len PySem.boot_len (pa_cons (pv 1) pa_nil)) pa_nil)) (pg_name (i := 4) scMixed.nd rfl (.inl rfl))
        (pss_cons (ps_set (i := 5) scMixed.nd rfl (.inl rfl) (pe_fn TK hr (by decide) rfl (pa_cons (pv 0) (pa_cons (pe_callB call_len_seq (by rfl) T.len PySem.boot_len (pa_cons (pv 2) pa_nil)) pa_nil))))
        (pss_cons (ps_expr (pe_bm PySem.F.plainAttrs_list PySem.F.slot_list_append PySem.F.type_list_append mt_append (pv 3) (pa_cons (pe_ix ix_list (pv 2) (pv 5) (fun _ _ => rfl)) pa_nil)))
        (pss_one (ps_set (i := 2) scMixed.nd rfl (.inl rfl) (pe_op op_cat (pe_slice sl_list (pv 2) po_none (po_some (pv 5))) (pe_slice sl_list (pv 2) (po_some (pe_op op_add (pv 5) pe_int)) po_none)))))))
      (pss_one (ps_ret (pv 3))))), ?_⟩
    have hS0 := (hid_low [p] H).seq hS
    refine ⟨_, rfl, t, xs, rfl, .inl hS0, fun l nl => ?_⟩
    obtain ⟨H1, s1, h1, e1⟩ := lay (o := .lst xs) nl
    rw [e1]
    refine ⟨by show 0 ≤ sizeLine; decide, fun f nf => ?_⟩
    obtain ⟨H2, s2, h2, e2⟩ := lay (o := .lst []) nf
    rw [e2]
    have lf : l ≠ f := ne_of_none h1 nf
    have lp : l ≠ p := hP.ne nl
    have P2 : PoolIs H2 p n := hP.mono (s1.trans s2) (Nat.le_refl _)
    have fp : f ≠ p := (hP.mono s1 (Nat.le_refl _)).ne nf
    have nfH : H f = none := s1.free nf
    refine ⟨_, rfl, t, xs, rfl, .inl ((s1.trans s2).seq hS0), xs.length, rfl, by omega, by omega, for_range (lo := 0) (n := xs.length) (fun k σ H' => ∃ l left fs o4 o5, σ = [some (.ref p), some (.ref t), some (.ref l), some (.ref f), o4, o5] ∧ Bt [p] H H' ∧ H' f = some (.lst fs) ∧
        H' l = some (.lst left) ∧ l ≠ f ∧ l ≠ p ∧ (fs ++ left).Perm xs ∧ left.length + k = xs.length ∧ PoolIs H' p (n + k)) ⟨l, xs, [], none, none, rfl, bt_of (s1.trans s2), h2, s2 _ _ h1, lf, lp, List.Perm.refl _, rfl, P2⟩ ?_ ?_⟩
    · rintro k σ H3 hk ⟨l, left, fs, o4, o5, rfl, b3, hf, hl, lf, lp, hperm, hlen, P3⟩
      refine ⟨_, rfl, _, rfl, l, left, rfl, .inl (SqL.of hl), p, _, n + k, rfl, (by show (0 : Int) < (left.length : Int); omega), (by show (left.length : Int) < 1000000; omega), by omega, P3, fun r H4 hr' b4 P4 => ?_⟩
      have hl4 := bt_at b4 (ni1 lp) hl
      have hf4 := bt_at b4 (ni1 fp) hf
      have hr2 : r < left.length := by have := hr'; omega
      have hv : left[r]? = some left[r] := List.getElem?_eq_getElem hr2
      have hfl : fs.length ≤ 60 := by
        have := hperm.length_eq
        rw [List.length_append] at this
        omega
      refine ⟨_, rfl, .inl ⟨rfl, _, SqL.of hf4⟩, _, rfl, _, rfl, l, left, _, left[r], rfl, rfl, SqL.of hl4, atI_nat hv, f, fs, left[r], rfl, rfl, hf4, (by rw [sizeLine_eq]; omega), ?_⟩
      obtain ⟨H5, b5, h5, e5⟩ : ∃ H5, (∀ b o, b ≠ f → H4 b = some o → H5 b = some o) ∧ H5 f = some (.lst (fs ++ [left[r]])) ∧ upd H4 f (.lst (fs ++ [left[r]])) = H5 := ⟨upd H4 f (.lst (fs ++ [left[r]])), fun b o z e => by rw [upd_ne z]; exact e, upd_same, rfl⟩
      rw [e5]
      have hl5 := b5 _ _ lf hl4
      refine ⟨_, rfl, _, rfl, _, rfl, l, left, rfl, SqL.of hl5, fun c1 n1 => ?_⟩
      obtain ⟨H6, s6, h6, e6⟩ := lay (o := .lst (cutV left none (some (r : Int)))) n1
      rw [e6]
      refine ⟨_, rfl, _, rfl, _, _, rfl, rfl, _, rfl, l, left, rfl, SqL.of (s6 _ _ hl5), fun c2 n2 => ?_⟩
      obtain ⟨H7, s7, h7, e7⟩ := lay (o := .lst (cutV left (some (((r + 1 : Nat) : Int))) none)) n2
      rw [show ((r : Int) + 1) = ((r + 1 : Nat) : Int) from rfl, e7]
      rw [cut_from] at h7
      rw [cut_to _ _ (Nat.le_of_lt hr2)] at h6
      refine ⟨c1, c2, _, _, rfl, rfl, s7 _ _ h6, h7, (by rw [List.length_take, List.length_drop, sizeLine_eq]; omega), fun c3 n3 => ?_⟩
      obtain ⟨H8, s8, h8, e8⟩ := lay (o := .lst (left.take r ++ left.drop (r + 1))) n3
      rw [e8]
      have f5 : H7 f = some _ := s7 _ _ (s6 _ _ h5)
      have s58 : Same H5 H8 := (s6.trans s7).trans s8
      obtain ⟨x, y, z, hp4, pr⟩ := id P4
      have hp5 : H5 p = some (.lst (poolV x y z)) := b5 _ _ fp.symm hp4
      refine ⟨c3, left.take r ++ left.drop (r + 1), fs ++ [left[r]], _, _, rfl, ?_, s8 _ _ f5, h8, (ne_of_none f5 n3).symm, (ne_of_none (s7 _ _ (s6 _ _ hp5)) n3).symm, (perm_out fs hv).trans hperm, ?_, ⟨x, y, z, s58 _ _ hp5, pr⟩⟩
      · intro b o e
        obtain ⟨e', m⟩ := hid_in e
        have hbf : b ≠ f := ne_of_none e' nfH
        exact hid_to m (s58 _ _ (b5 _ _ hbf (bt_at b4 m (bt_at b3 m e'))))
      · rw [List.length_append, List.length_take, List.length_drop]; omega
    · rintro σ H3 ⟨l, left, fs, o4, o5, rfl, b3, hf, hl, lf, lp, hperm, hlen, P3⟩
      have : left = [] := List.eq_nil_of_length_eq_zero (by omega)
      subst this
      rw [List.append_nil] at hperm
      exact ⟨_, rfl, q f fs H3 hperm nfH b3 hf (P3.mono (Same.refl _) (by omega))⟩
theorem scOne : FnScope ["_law_pool_here", "_law_things"] ["_law_pool_here", "_law_things"] (defScope sOne) := ⟨rfl, rfl, rfl, by decide +kernel, rfl, by decide +kernel, by decide +kernel⟩
theorem ok_one {f : Addr} {fd : FuncData} (F : Fun K "_law_one" "_law_one" sOne f fd) (T : Bl mg) (TK : Fns P w K mg base "_law_take" 1 ["_law_pool_here", "_law_many"] spTake) : FnOk P w K mg base CX0 2 f fd ["_law_pool_here", "_law_things"] (spOne K) := by
  refine F.ok scOne (fun vs H Q E h => ?_) (fun cdv A outer s H vs Q E hr h => ?_)
  · obtain ⟨p, t, xs, n, rfl, _⟩ := h
    rfl
  · obtain ⟨p, t, xs, n, rfl, hS, hx, hx2, hn, hP, q⟩ := h
    refine ⟨_, pss_one (ps_ret (pe_ix ix_list (pv 1) (pe_fn TK hr (by decide) rfl (pa_cons (pv 0) (pa_cons (pe_callB call_len_seq (by rfl) T.len PySem.boot_len (pa_cons (pv 1) pa_nil)) pa_nil))) (fun _ _ => rfl))), ?_⟩
    have hS0 := (hid_low [p] H).seq hS
    have l0 : 0 < xs.length := List.length_pos_iff.mpr hx
    refine ⟨_, rfl, _, rfl, _, rfl, t, xs, rfl, .inl hS0, p, _, n, rfl, (by show (0 : Int) < (xs.length : Int); omega), (by show (xs.length : Int) < 1000000; omega), by omega, hP, fun r H4 hr' b4 P4 => ?_⟩
    have hr2 : r < xs.length := by have := hr'; omega
    exact ⟨t, xs, _, xs[r], rfl, rfl, (hid_low [p] H4).seq (b4.seq hS), atI_nat (List.getElem?_eq_getElem hr2), q _ H4 (List.getElem_mem hr2) b4 P4⟩
end
end K39
set_option Elab.async false
set_option linter.all false
set_option maxRecDepth 100000
set_option maxHeartbeats 4000000
/-! The laws' grounds as plain data, and where they stand. -/
namespace GB
open PySem PySem.Spec L2
structure Fact where
  x : Str
  vals : List Str
  kind : Str
  en : Str
structure GD where
  letters : List (Str × Nat)
  fixed : List Str
  comm : List Str
  facts : List Fact
def nm8 : List Str := ["x", "y", "z", "plus", "if", "name", "abcdefgh", "fail"]
/-- all names that letters of this law have -/
def nmA : List Str := nm8 ++ (["and", "bind", "last", "value", "use", "ifs", "an", "f", "sum", "half"] : List Str)
theorem nmA_of {x : Str} (h : x ∈ nm8) : x ∈ nmA := List.mem_append_left _ h
def va3 : List Str := ["one", "two", "false"]
def sort2 : List Str → List Str
  | [a, b] => if PyProof.Rows.sortedS [a, b] = true then [a, b] else [b, a]
  | l => l
theorem perm2 {α : Type} {a b : α} : ∀ {l : List α}, l.Perm [a, b] → l = [a, b] ∨ l = [b, a]
  | [], h => by have := h.length_eq; simp at this
  | [x], h => by have := h.length_eq; simp at this
  | [x, y], h => by
    have hx : x ∈ [a, b] := h.subset List.mem_cons_self
    rcases List.mem_cons.mp hx with rfl | hx
    · have := List.Perm.cons_inv h
      exact .inl (by rw [List.perm_singleton.mp this])
    · obtain rfl := List.mem_singleton.mp hx
      have h2 : [x, y].Perm [x, a] := h.trans (List.Perm.swap _ _ _)
      have := List.Perm.cons_inv h2
      exact .inr (by rw [List.perm_singleton.mp this])
  | x :: y :: z :: r, h => by have := h.length_eq; simp at this
theorem two_sorted : ∀ a ∈ va3, ∀ b ∈ va3, (PyProof.Rows.sortedS [a, b] = true ∧ (PyProof.Rows.sortedS [b, a] = true → [b, a] = [a, b])) ∨ (PyProof.Rows.sortedS [a, b] = false ∧ PyProof.Rows.sortedS [b, a] = true) := by decide
/-- the one order of at most two such texts -/
theorem sort2_of {ys vs : List Str} (hp : ys.Perm vs) (hs : PyProof.Rows.sortedS ys = true) (hl : vs.length ≤ 2) (hv : ∀ v ∈ vs, v ∈ va3) : ys = sort2 vs := by
  match vs, hl, hp, hv with
  | [], _, hp, _ => exact hp.eq_nil
  | [a], _, hp, _ => exact List.perm_singleton.mp hp
  | [a, b], _, hp, hv =>
    have ha := hv a List.mem_cons_self
    have hb := hv b (List.mem_cons_of_mem _ List.mem_cons_self)
    show ys = if PyProof.Rows.sortedS [a, b] = true then [a, b] else [b, a]
    rcases perm2 hp with rfl | rfl
    · rw [if_pos hs]
    · rcases two_sorted a ha b hb with ⟨h1, h2⟩ | ⟨h1, h2⟩
      · rw [if_pos h1]; exact h2 hs
      · rw [if_neg (by rw [h1]; exact Bool.false_ne_true)]
theorem sort2_perm (l : List Str) : (sort2 l).Perm l := by
  match l with
  | [] => exact List.Perm.refl _
  | [a] => exact List.Perm.refl _
  | [a, b] =>
    show (if PyProof.Rows.sortedS [a, b] = true then [a, b] else [b, a]).Perm [a, b]
    split
    · exact List.Perm.refl _
    · exact List.Perm.swap _ _ _
  | a :: b :: c :: r => exact List.Perm.refl _
theorem paired_app {α β : Type} {R : α → β → Prop} : ∀ {l l' : List α} {m m' : List β}, Paired R l m → Paired R l' m' → Paired R (l ++ l') (m ++ m')
  | _, _, _, _, .nil, s => s
  | _, _, _, _, .cons r t, s => .cons r (paired_app t s)
def GD.asked (g : GD) (f : Fact) : Str × List Str := (f.x, if f.x ∈ g.comm then sort2 f.vals else f.vals)
structure Fact.Ok (ls : List (Str × Nat)) (fx : List Str) (f : Fact) : Prop where
  x : f.x ∈ fx
  len : ∃ k, (f.x, k) ∈ ls ∧ f.vals.length = k
  vals : ∀ v ∈ f.vals, v ∈ va3
  kind : f.kind = "value" ∨ f.kind = "fail"
  en : f.en = "one" ∨ f.en = "false"
structure GD.Wf (g : GD) : Prop where
  ne : g.letters ≠ []
  nd : (g.letters.map (·.1)).Nodup
  nm : ∀ q ∈ g.letters, q.1 ∈ nmA
  le : g.letters.length ≤ 8
  ar : ∀ q ∈ g.letters, q.2 ≤ 2
  fx : g.fixed.Sublist (g.letters.map (·.1))
  cm : g.comm.Sublist g.fixed
  c2 : ∀ x ∈ g.comm, (x, 2) ∈ g.letters
  fl : g.facts.length ≤ 6
  fa : ∀ f ∈ g.facts, f.Ok g.letters g.fixed
  fd : (g.facts.map g.asked).Nodup
def lkv (ls : List (Str × Nat)) : List (Key × V) := ls.map fun q => (Sum.inr q.1, V.int q.2)
def sts (l : List Str) : List V := l.map V.str
structure FactAt (H : Hp) (f : Fact) (t : Addr) : Prop where
  ex : ∃ v e : Addr, H t = some (.tup [.str f.x, .ref v, .ref e]) ∧ H v = some (.tup (sts f.vals)) ∧ H e = some (.tup [.str f.kind, .str f.en])
def FactsAt (H : Hp) (a : Addr) (fs : List Fact) : Prop := ∃ ts : List Addr, H a = some (.lst (ts.map V.ref)) ∧ Paired (FactAt H) fs ts
theorem FactAt.mono {H H' : Hp} {f : Fact} {t : Addr} (s : Same H H') (h : FactAt H f t) : FactAt H' f t := let ⟨v, e, h1, h2, h3⟩ := h.ex; ⟨v, e, s _ _ h1, s _ _ h2, s _ _ h3⟩
/-- the law's dict of a ground -/
structure IsG (H : Hp) (g : Addr) (d : GD) : Prop where
  ex : ∃ aL aF aC aT : Addr, H g = some (.dK [(.inr "letters", .ref aL), (.inr "fixed", .ref aF), (.inr "commuting", .ref aC), (.inr "facts", .ref aT)]) ∧ H aL = some (.dK (lkv d.letters)) ∧ H aF = some (.lst (sts d.fixed)) ∧
    H aC = some (.lst (sts d.comm)) ∧ FactsAt H aT d.facts
theorem FactsAt.mono {H H' : Hp} {fs : List Fact} {t : Addr} (s : Same H H') (h : FactsAt H t fs) : FactsAt H' t fs := let ⟨ts, h1, h2⟩ := h; ⟨ts, s _ _ h1, Paired.mapP h2 fun _ _ r => r.mono s⟩
theorem IsG.mono {H H' : Hp} {d : GD} {g : Addr} (s : Same H H') (h : IsG H g d) : IsG H' g d :=
  let ⟨aL, aF, aC, aT, h1, h2, h3, h4, h5⟩ := h.ex
  ⟨aL, aF, aC, aT, s _ _ h1, s _ _ h2, s _ _ h3, s _ _ h4, h5.mono s⟩
theorem valV_lkv : ∀ {ls : List (Str × Nat)} {x : Str} {k : Nat}, (ls.map (·.1)).Nodup → (x, k) ∈ ls → valV (lkv ls) (.inr x : Key) = some (.int k)
  | [], x, k, _, h => nomatch h
  | q :: r, x, k, nd, h => by
    have nd' := List.nodup_cons.mp nd
    rcases List.mem_cons.mp h with rfl | h
    · exact valV_pos rfl
    · have ne : ¬ ((Sum.inr q.1 : Key) = .inr x) := fun e => nd'.1 (by
        have e' : q.1 = x := Sum.inr.inj e
        show q.1 ∈ r.map (·.1)
        rw [e']
        exact List.mem_map.mpr ⟨(x, k), h, rfl⟩)
      show valV ((Sum.inr q.1, V.int q.2) :: lkv r) (.inr x : Key) = some (.int k)
      rw [valV_neg ne]
      exact valV_lkv nd'.2 h
theorem valV_no : ∀ {ls : List (Str × Nat)} {x : Str}, x ∉ ls.map (·.1) → valV (lkv ls) (.inr x : Key) = none
  | [], x, _ => rfl
  | q :: r, x, h => by
    have ne : ¬ ((Sum.inr q.1 : Key) = .inr x) := fun e => h (by
      have e' : q.1 = x := Sum.inr.inj e
      rw [← e']
      exact List.mem_cons_self)
    show valV ((Sum.inr q.1, V.int q.2) :: lkv r) (.inr x : Key) = none
    rw [valV_neg ne]
    exact valV_no fun m => h (List.mem_cons_of_mem _ m)
def unstr : V → Str
  | .str s => s
  | _ => ""
theorem sts_perm {ys : List V} {l : List Str} (h : ys.Perm (sts l)) : ∃ ns : List Str, ys = sts ns ∧ ns.Perm l := by
  refine ⟨ys.map unstr, ?_, ?_⟩
  · unfold sts
    rw [List.map_map]
    conv => lhs; rw [← List.map_id ys]
    refine List.map_congr_left fun v hv => ?_
    obtain ⟨s, _, rfl⟩ := List.mem_map.mp (h.subset hv)
    rfl
  · have := h.map unstr
    unfold sts at this
    rw [List.map_map] at this
    have e : l.map (unstr ∘ V.str) = l := by
      conv => rhs; rw [← List.map_id l]
      exact List.map_congr_left fun s _ => rfl
    rwa [e] at this
theorem sts_at {l : List Str} {i : Nat} {x : V} (h : (sts l)[i]? = some x) : ∃ s, l[i]? = some s ∧ x = .str s := by
  unfold sts at h
  rw [List.getElem?_map] at h
  cases e : l[i]? with
  | none => rw [e] at h; cases h
  | some s => rw [e] at h; exact ⟨s, rfl, (Option.some.inj h).symm⟩
theorem sts_len (l : List Str) : (sts l).length = l.length := List.length_map _
theorem mem_sts {v : V} {l : List Str} (h : v ∈ sts l) : ∃ s ∈ l, v = .str s := by
  obtain ⟨s, hs, rfl⟩ := List.mem_map.mp h
  exact ⟨s, hs, rfl⟩
end GB
set_option Elab.async false
set_option linter.all false
set_option maxRecDepth 100000
set_option maxHeartbeats 4000000
/-! Data of texts, lists and pairs as the comparisons read them. -/
namespace GB
open PySem PySem.Spec L2 PyProof.Rows
def pst (l : List Str) : List PyData := l.map PyData.str
theorem eqvAll_pst : ∀ a b : List Str, PyData.eqvAll (pst a) (pst b) = decide (a = b)
  | [], [] => by simp [pst, PyData.eqvAll]
  | [], _ :: _ => by simp [pst, PyData.eqvAll]
  | _ :: _, [] => by simp [pst, PyData.eqvAll]
  | x :: a, y :: b => by
    have ih := eqvAll_pst a b
    show (PyData.eqv (.str x) (.str y) && PyData.eqvAll (pst a) (pst b)) = _
    rw [ih, PyData.eqv]
    by_cases h : x = y
    · subst h
      by_cases h2 : a = b
      · subst h2; simp
      · rw [decide_eq_false h2, decide_eq_false fun e => h2 (List.cons.inj e).2, Bool.and_false]
    · rw [decide_eq_false fun e => h (List.cons.inj e).1, (beq_eq_false_iff_ne.mpr h : (x == y) = false), Bool.false_and]
def kd (a : Str × List Str) : PyData := .tuple [.str a.1, .list (pst a.2)]
theorem kd_eqv (a b : Str × List Str) : PyData.eqv (kd a) (kd b) = decide (a = b) := by
  obtain ⟨x, l⟩ := a
  obtain ⟨y, m⟩ := b
  show PyData.eqv (.tuple [.str x, .list (pst l)]) (.tuple [.str y, .list (pst m)]) = _
  simp only [PyData.eqv, PyData.eqvAll, Bool.and_true]
  rw [eqvAll_pst]
  by_cases h : x = y
  · subst h
    by_cases h2 : l = m
    · subst h2; simp
    · rw [decide_eq_false h2, decide_eq_false fun e => h2 (Prod.mk.inj e).2, Bool.and_false]
  · rw [decide_eq_false fun e => h (Prod.mk.inj e).1, (beq_eq_false_iff_ne.mpr h : (x == y) = false), Bool.false_and]
theorem lay_pst : ∀ {l : List Str}, (∀ v ∈ l, PyData.strOk v = true) → PyData.canLayAll0 (pst l) = true
  | [], _ => rfl
  | x :: r, h => by
    show (PyData.canLay0 (.str x) && PyData.canLayAll0 (pst r)) = true
    rw [lay_pst fun v hv => h v (List.mem_cons_of_mem _ hv), PyData.canLay0, h x List.mem_cons_self]
    rfl
theorem dep_pst : ∀ l : List Str, PyData.depthAll (pst l) = 0
  | [] => rfl
  | x :: r => by
    show max (PyData.depth (.str x)) (PyData.depthAll (pst r)) = 0
    rw [dep_pst r, PyData.depth]
    rfl
/-- texts that can be laid -/
def OkS (a : Str × List Str) : Prop := PyData.strOk a.1 = true ∧ ∀ v ∈ a.2, PyData.strOk v = true
theorem lay_kd {a : Str × List Str} (h : OkS a) : PyData.canLay0 (kd a) = true := by
  show PyData.canLay0 (.tuple [.str a.1, .list (pst a.2)]) = true
  simp only [PyData.canLay0, PyData.canLayAll0, Bool.and_true]
  rw [h.1, lay_pst h.2]
  rfl
theorem dep_kd (a : Str × List Str) : PyData.depth (kd a) = 2 := by
  show PyData.depth (.tuple [.str a.1, .list (pst a.2)]) = 2
  simp only [PyData.depth, PyData.depthAll]
  rw [dep_pst]
  rfl
theorem sh_kd {a : Str × List Str} (h : OkS a) : SeqAt.shaped (kd a) = true := by
  unfold SeqAt.shaped
  rw [lay_kd h, dep_kd]
  rfl
theorem lay_kds : ∀ {l : List (Str × List Str)}, (∀ a ∈ l, OkS a) → PyData.canLayAll0 (l.map kd) = true
  | [], _ => rfl
  | a :: r, h => by
    show (PyData.canLay0 (kd a) && PyData.canLayAll0 (r.map kd)) = true
    rw [lay_kd (h a List.mem_cons_self), lay_kds fun b hb => h b (List.mem_cons_of_mem _ hb)]
    rfl
theorem dep_kds : ∀ l : List (Str × List Str), PyData.depthAll (l.map kd) ≤ 2
  | [] => by decide
  | a :: r => by
    show max (PyData.depth (kd a)) (PyData.depthAll (r.map kd)) ≤ 2
    rw [dep_kd]
    have := dep_kds r
    omega
theorem sh_kds {l : List (Str × List Str)} (h : ∀ a ∈ l, OkS a) : SeqAt.shaped (.list (l.map kd)) = true := by
  unfold SeqAt.shaped
  have e : PyData.canLay0 (.list (l.map kd)) = true := by rw [PyData.canLay0]; exact lay_kds h
  have d : PyData.depth (.list (l.map kd)) ≤ 64 := by
    rw [PyData.depth]
    have := dep_kds l
    omega
  rw [e, decide_eq_true d]
  rfl
theorem sh_pst {l : List Str} (h : ∀ v ∈ l, PyData.strOk v = true) : SeqAt.shaped (.list (pst l)) = true := by
  unfold SeqAt.shaped
  have e : PyData.canLay0 (.list (pst l)) = true := by rw [PyData.canLay0]; exact lay_pst h
  rw [e, PyData.depth, dep_pst]
  rfl
theorem any_kd (l : List (Str × List Str)) (a : Str × List Str) : ((l.map kd).any fun z => PyData.eqv z (kd a)) = decide (a ∈ l) := by
  induction l with
  | nil => rfl
  | cons b r ih =>
    rw [List.map_cons, List.any_cons, ih, kd_eqv]
    by_cases h : b = a
    · subst h; simp
    · rw [decide_eq_false h, Bool.false_or]
      have : (a ∈ b :: r) = (a ∈ r) := propext ⟨fun m => (List.mem_cons.mp m).resolve_left fun e => h e.symm, List.mem_cons_of_mem _⟩
      simp only [this]
theorem ok8 : ∀ x ∈ nmA, PyData.strOk x = true := by decide +kernel
theorem ok3 : ∀ x ∈ va3, PyData.strOk x = true := by decide +kernel
theorem dp_sts {K : PySem.W.Frag} {H : Hp} : ∀ l : List Str, DpAll K H (sts l) (pst l)
  | [] => .nil
  | x :: r => .cons (.str x) (dp_sts r)
theorem ne_nil (l : List Str) : (!PyData.eqv (.list (pst l)) (.list [])) = decide (l ≠ []) := by
  cases l with
  | nil => simp [pst, PyData.eqv, PyData.eqvAll]
  | cons x r => simp [pst, PyData.eqv, PyData.eqvAll]
theorem inV_sts (x : Str) (l : List Str) : inV (.str x) (sts l) = decide (x ∈ l) := by
  unfold inV sts
  induction l with
  | nil => rfl
  | cons y r ih =>
    rw [List.map_cons, List.any_cons, ih]
    by_cases h : y = x
    · subst h
      simp [eqV]
    · have e : eqV (.str y) (.str x) = false := by
        simp [eqV, h]
      rw [e, Bool.false_or]
      have : (x ∈ y :: r) = (x ∈ r) := propext ⟨fun m => (List.mem_cons.mp m).resolve_left fun e => h e.symm, List.mem_cons_of_mem _⟩
      simp only [this]
theorem flat_sts (l : List Str) : (sts l).all flatV = true := by
  unfold sts
  rw [List.all_map]
  exact List.all_eq_true.mpr fun x _ => rfl
end GB
set_option Elab.async false
set_option linter.all false
set_option maxRecDepth 100000
set_option maxHeartbeats 4000000
namespace GB
open PySem PySem.Spec L2
theorem dpa_mono {K : PySem.W.Frag} {H H' : Hp} (s : Same H H') : (∀ (d : PyData) (v : V), Dp K H v d → Dp K H' v d) ∧ (∀ (ds : List PyData) (vs : List V), DpAll K H vs ds → DpAll K H' vs ds) := by
  have key : ∀ n, (∀ (d : PyData) (v : V), sizeOf d ≤ n → Dp K H v d → Dp K H' v d) ∧ (∀ (ds : List PyData) (vs : List V), sizeOf ds ≤ n → DpAll K H vs ds → DpAll K H' vs ds) := by
    intro n
    induction n with
    | zero =>
      refine ⟨fun d v hn => ?_, fun ds vs hn => ?_⟩
      · cases d <;> simp at hn
      · cases ds <;> simp at hn
    | succ n ih =>
      have hl : ∀ (ds : List PyData) (vs : List V), sizeOf ds ≤ n → DpAll K H vs ds → DpAll K H' vs ds := ih.2
      have h1 : ∀ (d : PyData) (v : V), sizeOf d ≤ n + 1 → Dp K H v d → Dp K H' v d := fun d v hn h => by
        cases h with
        | non => exact .non
        | bl b => exact .bl b
        | int i => exact .int i
        | str x => exact .str x
        | lst h1 h2 => exact .lst (s.seq h1) (hl _ _ (by simp at hn; omega) h2)
        | tup h1 h2 => exact .tup (Same.seqT s h1) (hl _ _ (by simp at hn; omega) h2)
      refine ⟨h1, fun ds vs hn h => ?_⟩
      cases h with
      | nil => exact .nil
      | cons a b => exact .cons (h1 _ _ (by simp at hn; omega) a) (hl _ _ (by simp at hn; omega) b)
  exact ⟨fun d v => (key (sizeOf d)).1 d v (Nat.le_refl _), fun ds vs => (key (sizeOf ds)).2 ds vs (Nat.le_refl _)⟩
theorem dp_mono {K : PySem.W.Frag} {H H' : Hp} {d : PyData} {v : V} (s : Same H H') (h : Dp K H v d) : Dp K H' v d := (dpa_mono s).1 d v h
theorem dps_mono {K : PySem.W.Frag} {H H' : Hp} {d : List PyData} {v : List V} (s : Same H H') (h : DpAll K H v d) : DpAll K H' v d := (dpa_mono s).2 d v h
theorem dps_app {K : PySem.W.Frag} {H : Hp} : ∀ {vs ws : List V} {ds es : List PyData}, DpAll K H vs ds → DpAll K H ws es → DpAll K H (vs ++ ws) (ds ++ es)
  | _, _, _, _, .nil, h => h
  | _, _, _, _, .cons a b, h => .cons a (dps_app b h)
end GB
set_option Elab.async false
set_option linter.all false
set_option maxRecDepth 100000
set_option maxHeartbeats 4000000
/-! enumerate over a tuple, or over a list or a tuple. -/
namespace GB
open PySem PySem.Spec L2 PyProof.Rows
open Sem (wp)
theorem meets_enum1 {v : Value} {o : Obj} {H : Heap → Prop} (B : Begins v o H) :
    Meets (Builtin.«enumerate.__new__» ⟨[.type "enumerate", v], []⟩) (fun _ R s => H s.heap ∧
      R (.ok (.ret (.ref (s.heap.push o).objs.size))) { s with heap := (s.heap.push o).push { cls := .type "enumerate", data := .fields #[.none, .bool false, .ref s.heap.objs.size, rawInt 0, .none, .none] } }) :=
  .of_wp fun prog w A R s h => by
    obtain ⟨hp, g, d, tk, os⟩ := s; obtain ⟨h1, h⟩ := h
    have hsub := sub_enumerate
    have q1 : ∀ {A' : Around} {E : Value → Shared → Prop} {Q : Value → Shared → Prop}, Q (.ref hp.objs.size) ⟨hp.push o, g, d, tk, os⟩ → wpAny (model prog w) A' (pyIter v) Q E ⟨hp, g, d, tk, os⟩ :=
      fun q => B.iter prog w _ _ ⟨hp, g, d, tk, os⟩ _ h1 q
    wp_walk using q1
    refine wpAny_stack_any fun st => wpAny_pure ?_
    split
    · rename_i c _ _ _ _ _
      cases (c == Value.type "enumerate")
      · wp_walk using q1
        exact ⟨_, rfl, h⟩
      · wp_walk using q1
        exact ⟨_, rfl, h⟩
    · wp_walk using q1
      exact ⟨_, rfl, h⟩
theorem call_enum1 {prog : Program} {w : World} {A : Around} {E : Value → Shared → Prop} {s : Shared} {v : Value} {o : Obj} {H : Heap → Prop} {Q : Value → Shared → Prop} (B : Begins v o H) (h1 : H s.heap)
    (h : ∀ h', IsEnum h' (s.heap.objs.size + 1) s.heap.objs.size 0 .none → h'.get? s.heap.objs.size = some o → h'.objs.size = s.heap.objs.size + 2 →
      (∀ b o, s.heap.get? b = some o → h'.get? b = some o) → Q (.ref (s.heap.objs.size + 1)) { s with heap := h' }) :
    wpAny (model prog w) A (call (.type "enumerate") [v]) Q E s := by
  refine callType_new F.called_enumerate (by decide) (F.typeCall_enumerate_1 _) (F.newCall_enumerate_1 _) (fun obj => F.args_object_init_2 obj _) F.entry_enumerate_new
    (meets_enum1 B) ⟨h1, ?_⟩
  have hz : (s.heap.push o).objs.size = s.heap.objs.size + 1 := Heap.size_push ..
  show _ ∧ _
  rw [hz]
  have he : IsEnum ((s.heap.push o).push { cls := .type "enumerate", data := .fields #[.none, .bool false, .ref s.heap.objs.size, rawInt 0, .none, .none] }) (s.heap.objs.size + 1) s.heap.objs.size 0 .none := by
    have := Heap.get?_push_size (s.heap.push o) (o := { cls := .type "enumerate", data := .fields #[.none, .bool false, .ref s.heap.objs.size, rawInt 0, .none, .none] }) rfl
    rw [hz] at this; exact this
  refine ⟨⟨_, he, rfl⟩, h _ he (Heap.get?_push_of_some _ (Heap.get?_push_size _ B.free)) (by rw [Heap.size_push, hz]) fun b o x => Heap.get?_push_of_some _ (Heap.get?_push_of_some _ x)⟩
/-- the tuple at a as it stands at each turn, each item in a new pair -/
def Itet (K : PySem.W.Frag) (a : Addr) : It :=
  ⟨fun i H => ∃ (xs : List V) (x : V), SqT K H a xs ∧ xs[i]? = some x, fun i H v H' => ∃ T x, v = .ref T ∧ H T = none ∧ H' = upd H T (.tup [.int (i : Nat), x]) ∧ ∀ xs, SqT K H a xs → xs[i]? = some x, fun i H => ∃ xs : List V, SqT K H a xs ∧ xs.length ≤ i⟩
theorem turn_enumT {P : Program} {w : World} {K : PySem.W.Frag} {elts : List Expr} {kk : Nat} {tpos : Pos} (a e it : Addr) (hia : a ≠ it) (hea : e ≠ a) :
    Turn P w K (.Tuple elts kk tpos) (Itet K a) [e, it] e (fun i h => (∃ old, IsEnum h e it ((i : Nat) : Int) old) ∧ h.IsTupleIter it a i ∧ e ≠ it) where
  mem := by simp
  obj := fun i h st b hb => by
    obtain ⟨⟨old, he⟩, ⟨o, ho, hc, hd⟩, _⟩ := st
    have e' : b = e ∨ b = it := by simpa using hb
    rcases e' with z | z
    · rw [z]; exact ⟨_, he, fun v q => nomatch q⟩
    · rw [z]; exact ⟨o, ho, fun v q => by rw [hd] at q; cases q⟩
  keep := fun i h h' st k => let ⟨⟨old, he⟩, hi, hne⟩ := st; ⟨⟨old, k e (by simp) _ he⟩, hi.at fun o q => k it (by simp) o q, hne⟩
  item := by
    intro X hP hw hK hc i pins s σ H E I hf st hg
    subst hP hw hK
    obtain ⟨⟨old, he⟩, hit, hne⟩ := st
    obtain ⟨xs, x, hq, hx⟩ := hg
    obtain ⟨its, rv, p, hz⟩ := I.tuple hq
    obtain ⟨u, hu, ru⟩ := rv.get hx
    have hel : e < s.heap.objs.size := Heap.lt_size he
    have hil : it < s.heap.objs.size := by obtain ⟨_, q, _⟩ := hit; exact Heap.lt_size q
    have hlt : i < its.length := (List.getElem?_eq_some_iff.mp hu).1
    refine wpAny_pyNext_enum_itemD (Draws.tuple (A := X.A.in1) (I.ok.hd hc) it a hia its.toArray) he ⟨hit, (show s.heap.IsTuple a its.toArray from p)⟩ (by simpa using hlt) hne (by simp [hne, hea]) fun x' h' tk hP' ho hst' hT hsz hk => ?_
    obtain rfl : x' = u := by
      have hP2 : its[i]? = some x' := by simpa using hP'
      rw [hu] at hP2
      exact (Option.some.inj hP2).symm
    refine ⟨_, rfl, wpAny_letOwnedTupleGo_enum (s := { s with heap := h', toks := tk + 1 }) ho fun h'' he' sb => ?_⟩
    have hT2 : h''.get? s.heap.objs.size = some { cls := .type "tuple", data := .seq #[.int i tk, x'] } := (sb.2 _ (Nat.ne_of_gt hel)).trans hT
    have new : ObjOk X.prog X.w (upd H s.heap.objs.size (.tup [.int (i : Nat), x])) h'' s.heap.objs.size (.tup [.int (i : Nat), x]) :=
      ⟨by show 2 ≤ sizeLine; decide, [.int i tk, x'], .cons ⟨_, rfl⟩ (.cons ru .nil), ⟨_, hT2, rfl, _, rfl⟩⟩
    have I1 : Inv X pins σ (upd H s.heap.objs.size (.tup [.int (i : Nat), x])) { s with heap := h'', toks := tk + 1 } :=
      I.turnedNew (ch := [e, it]) (fun b ob hb q => (sb.2 b (fun z => hb (by simp [z]))).trans (hk b ob (fun z => hb (by simp [z])) (fun z => hb (by simp [z])) q)) hf (Nat.le_refl _) new
    refine ⟨.ref s.heap.objs.size, _, I1, rfl, ⟨_, x, rfl, I.hok.fresh (Nat.le_refl _), rfl, fun ys hy => by rw [I.tuple_inj hy hq]; exact hx⟩, ⟨⟨x', ?_⟩, hst'.1.at fun o q => (sb.2 it (Ne.symm hne)).trans q, hne⟩, fun b hb => ?_⟩
    · have e1 : ((i + 1 : Nat) : Int) = (i : Int) + 1 := by omega
      rw [e1]; exact he'
    · have hb' : b < s.heap.objs.size := by
        have e' : b = e ∨ b = it := by simpa using hb
        rcases e' with z | z
        · rw [z]; exact hel
        · rw [z]; exact hil
      rw [upd_ne (Nat.ne_of_lt hb')]
      exact (hf b hb).1
  done := by
    intro X hP hw hK hc i pins s σ H E I hf st hg
    subst hP hw hK
    obtain ⟨⟨old, he⟩, hit, hne⟩ := st
    obtain ⟨xs, hq, hx⟩ := hg
    obtain ⟨its, rv, p, hz⟩ := I.tuple hq
    obtain ⟨f0, f1, f2, f3, f4, f5⟩ := hf it (by simp)
    have hl := rv.length
    have D : Draws X.prog X.w X.A.in1 it [it, a] i (fun _ _ => True) (fun j h => j = i ∧ h.IsTupleIter it a j ∧ h.IsTuple a its.toArray) :=
      { live := fun _ _ st => let ⟨o, ho, _⟩ := st.2.1; ⟨o, ho⟩
        frame := fun _ _ _ st hk => ⟨st.1, st.2.1.at fun o e => hk it (by simp) o e, st.2.2.at fun o e => hk a (by simp) o e⟩
        item := fun j s' Q E' hj st hQ => absurd st.1 (Nat.ne_of_lt hj)
        done := fun s' Q E' st hE => wpAny_nextOf_tuple_end (I.ok.hd hc) st.2.1 st.2.2 (by simp; omega) hE }
    exact wpAny_pyNext_enum_endD D he ⟨rfl, hit, (show s.heap.IsTuple a its.toArray from p)⟩ fun h' eb => ⟨rfl, I.turned (t' := s.toks) (fun b o hb q => eb b o hb q) f0 f1 f3 f4 f5⟩
  self := fun A i s Q E st h => let ⟨⟨_, he⟩, _⟩ := st; wpAny_pyIter_enum he h
section
variable {K : PySem.W.Frag} {a : Addr} {xs : List V}
theorem walk_enumT : Walk (Itet K a) xs.length (fun H => SqT K H a xs) (YPair (fun i => some (.int (i : Nat))) (fun i => xs[i]?)) where
  goes := fun i H hi h => ⟨xs, xs[i], h, List.getElem?_eq_getElem hi⟩
  stops := fun H h => ⟨xs, h, Nat.le_refl _⟩
  yields := fun i H x H' _ h ⟨T, y, e1, e2, e3, e4⟩ => ⟨T, _, y, e1, e2, e3, rfl, e4 xs h⟩
end
theorem rd_at {H H' : Hp} {a : Addr} {u : HO} (h : ∀ o, H a = some o → H' a = some o) (r : Rd H a u) : Rd H' a u := r.imp (fun e => h _ e) fun ⟨ob, e⟩ => ⟨ob, h _ e⟩
/-- a list (true) or a tuple -/
def SqV (K : PySem.W.Frag) (H : Hp) (a : Addr) (xs : List V) : Bool → Prop
  | true => SqL K H a xs
  | false => SqT K H a xs
theorem SqV.mono {K : PySem.W.Frag} {H H' : Hp} {a : Addr} {xs : List V} {b : Bool} (s : Same H H') (h : SqV K H a xs b) : SqV K H' a xs b := by
  cases b with
  | true => exact s.seq h
  | false => exact Same.seqT s h
/-- enumerate of a list or of a tuple, one way on -/
def iEnumW (K : PySem.W.Frag) (ta : TA) : TI := fun σ H R => ta σ H fun vs H1 => ∃ (a : Addr) (xs : List V) (b : Bool) (ps : List Addr), vs = [.ref a] ∧ SqV K (hid ps H1) a xs b ∧ ∀ (J : It), Walk J xs.length (fun H => SqV K (hid ps H) a xs b) (YPair (fun i => some (.int (i : Nat))) (fun i => xs[i]?)) → R J H1
theorem pi_enumW {X : Cx} {e : Expr} {ta : TA} {p pos tpos : Pos} {elts : List Expr} {kk : Nat} (hg : Gl X "enumerate") (hm : X.mg "enumerate" = none) (ha : PA X [e] ta) (hs : starEach [e] X.env = [(false, eval e X.env)] := by rfl) :
    PI X (.Tuple elts kk tpos) (.Call (.Name "enumerate" p) [e] [] pos) (iEnumW X.K ta) := by
  refine ⟨fun pins s σ H R I h => ?_⟩
  refine Call_ (ld_blt I hg hm boot_enumerate (PyProof.Rows.callWith_type1 (thn (ha.run pos pins s σ H _ I h) fun us s1 ⟨vs, H1, I1, r1, q1⟩ => ?_) hs rfl))
  obtain ⟨a, xs, kb, ps, ex, hh, q⟩ := q1
  subst ex
  cases r1 with
  | cons r rr =>
    cases rr
    cases r
    have cells : ∀ b ∈ [s1.heap.objs.size + 1, s1.heap.objs.size], s1.heap.objs.size ≤ b := fun b hb => by
      have e' : b = s1.heap.objs.size + 1 ∨ b = s1.heap.objs.size := by simpa using hb
      rcases e' with z | z
      · rw [z]; exact Nat.le_add_right _ _
      · rw [z]; exact Nat.le_refl _
    cases kb with
    | true =>
      have hq := (hid_low ps H1).seq (show SqL X.K (hid ps H1) a xs from hh)
      obtain ⟨its, rv, p', hz⟩ := I1.list hq
      refine call_enumerate_list p'.isList fun h' he hit hsz hk => wpAny_pyIter_enum he ?_
      have I2 : Inv X pins σ H1 { s1 with heap := h' } := I1.kept (t' := s1.toks) hk
      exact ⟨s1.heap.objs.size + 1, [s1.heap.objs.size + 1, s1.heap.objs.size], _, _, H1, rfl, I2, turn_enum a (s1.heap.objs.size + 1) s1.heap.objs.size, ⟨⟨.none, he⟩, hit, Nat.succ_ne_self _⟩, fun b hb => I1.fpOk (cells b hb) (I1.hok.fresh (cells b hb)), q _ (walk_enum.mono (fun H' h => (hid_low ps H').seq h) fun _ _ _ _ _ _ y => y)⟩
    | false =>
      have hq := Same.seqT (hid_low ps H1) (show SqT X.K (hid ps H1) a xs from hh)
      obtain ⟨its, rv, p', hz⟩ := I1.tuple hq
      have hT : s1.heap.IsTuple a its.toArray := p'
      have hal : a < s1.heap.objs.size := by obtain ⟨o, ho, _⟩ := hT; exact Heap.lt_size ho
      refine call_enum1 (begins_tuple a its.toArray) hT fun h' he hit hsz hk => wpAny_pyIter_enum he ?_
      have I2 : Inv X pins σ H1 { s1 with heap := h' } := I1.kept (t' := s1.toks) hk
      exact ⟨s1.heap.objs.size + 1, [s1.heap.objs.size + 1, s1.heap.objs.size], _, _, H1, rfl, I2, turn_enumT a (s1.heap.objs.size + 1) s1.heap.objs.size (Nat.ne_of_lt hal) (Nat.ne_of_gt (Nat.lt_succ_of_lt hal)), ⟨⟨.none, he⟩, ⟨_, hit, rfl, rfl⟩, Nat.succ_ne_self _⟩, fun b hb => I1.fpOk (cells b hb) (I1.hok.fresh (cells b hb)), q _ (walk_enumT.mono (fun H' h => Same.seqT (hid_low ps H') h) fun _ _ _ _ _ _ y => y)⟩
end GB
set_option Elab.async false
set_option linter.all false
set_option maxRecDepth 100000
set_option maxHeartbeats 4000000
/-! Terms: a head word, a name, the terms within; their data, and what of them a ground asks. -/
namespace GB
open PySem PySem.Spec L2
inductive Tm where
  | mk (w n : Str) (ks : List Tm)
/-- the names that binds of drawn terms bind -/
def bnd : List Str := ["v", "w", "x", "if"]
def opsW : List (Str × Nat) := [("if", 3), ("and", 2), ("or", 2), ("not", 1), ("then", 2), ("try", 2), ("last", 2)]
/-- a text of one to eight letters a to z, by the package's own look -/
def signB (c : Nat) : Bool := !decide ([c] < [97]) && !decide ([122] < [c])
def nameB (s : Str) : Bool := decide (1 ≤ s.length ∧ s.length ≤ 8) && s.cps.toList.all signB
inductive HeadOk (L : List (Str × Nat)) (ns : List Str) : Str → Str → Nat → Prop
  | val {n} : nameB n = true → HeadOk L ns "value" n 0
  | fail {n} : nameB n = true → HeadOk L ns "fail" n 0
  | name {n} : nameB n = true → n ∈ ns → HeadOk L ns "name" n 0
  | use {n m} : (n, m) ∈ L → HeadOk L ns "use" n m
  | bind {n} : nameB n = true → True → HeadOk L ns "bind" n 2
  | op {w m} : (w, m) ∈ opsW → HeadOk L ns w "" m
/-- the names that are bound at a place within -/
def nsAt (w n : Str) (i : Nat) (ns : List Str) : List Str := if w = "bind" ∧ i = 1 then ns ++ [n] else ns
inductive TmOk (L : List (Str × Nat)) : List Str → Tm → Prop
  | mk {ns : List Str} {w n : Str} {ks : List Tm} : HeadOk L ns w n ks.length → (∀ (i : Nat) (k : Tm), ks[i]? = some k → TmOk L (nsAt w n i ns) k) → TmOk L ns (.mk w n ks)
def Seq (d : PyData) (ds : List PyData) : Prop := d = .list ds ∨ d = .tuple ds
/-- the data of a node of this head, over the data of the terms within -/
inductive NodeD : PyData → Str → Str → List PyData → Prop
  | val {d n} : Seq d [.str "value", .str n] → NodeD d "value" n []
  | fail {d n} : Seq d [.str "fail", .str n] → NodeD d "fail" n []
  | name {d n} : Seq d [.str "name", .str n] → NodeD d "name" n []
  | use {d e n ds} : Seq d [.str "use", .str n, e] → Seq e ds → NodeD d "use" n ds
  | bind {d n ds} : Seq d (.str "bind" :: .str n :: ds) → NodeD d "bind" n ds
  | op {d w m ds} : (w, m) ∈ opsW → Seq d (.str w :: ds) → NodeD d w "" ds
/-- data that are the term, of lists and tuples -/
inductive IsTm : PyData → Tm → Prop
  | mk {d : PyData} {w n : Str} {ds : List PyData} {ks : List Tm} : NodeD d w n ds → ds.length = ks.length → (∀ (i : Nat) (e : PyData) (k : Tm), ds[i]? = some e → ks[i]? = some k → IsTm e k) → IsTm d (.mk w n ks)
mutual
/-- the term's data, of tuples throughout -/
def Tm.d : Tm → PyData
  | .mk w n ks => if w = "use" then .tuple [.str w, .str n, .tuple (Tm.ds ks)] else if w = "bind" then .tuple (.str w :: .str n :: Tm.ds ks) else if w ∈ opsW.map (·.1) then .tuple (.str w :: Tm.ds ks) else .tuple [.str w, .str n]
def Tm.ds : List Tm → List PyData
  | [] => []
  | k :: ks => k.d :: Tm.ds ks
end
theorem ds_map : ∀ ks : List Tm, Tm.ds ks = ks.map Tm.d
  | [] => rfl
  | k :: r => by rw [Tm.ds, List.map_cons, ds_map r]
mutual
def Tm.size : Tm → Nat
  | .mk _ _ ks => Tm.sizes ks + 1
def Tm.sizes : List Tm → Nat
  | [] => 0
  | k :: r => k.size + Tm.sizes r
end
theorem sizes_mem : ∀ {ks : List Tm} {k : Tm}, k ∈ ks → k.size ≤ Tm.sizes ks
  | a :: r, k, h => by
    rw [Tm.sizes]
    rcases List.mem_cons.mp h with rfl | h
    · omega
    · have := sizes_mem h; omega
theorem size_pos (t : Tm) : 0 < t.size := by
  cases t; rw [Tm.size]; omega
theorem size_at {w n : Str} {ks : List Tm} {i : Nat} {k : Tm} (h : ks[i]? = some k) : k.size < (Tm.mk w n ks).size := by
  have := sizes_mem (List.mem_of_getElem? h)
  rw [Tm.size]; omega
/-- a node's own data are of the node -/
theorem nodeD_own {L : List (Str × Nat)} {ns : List Str} {w n : Str} {ks : List Tm} (h : HeadOk L ns w n ks.length) : NodeD (Tm.mk w n ks).d w n (ks.map Tm.d) := by
  rw [Tm.d, ds_map]
  have nil : ks.length = 0 → ks.map Tm.d = [] := fun e => by rw [List.eq_nil_of_length_eq_zero e]; rfl
  revert h nil
  generalize hm : ks.length = m
  intro h nil
  cases h with
  | val hn => rw [nil rfl]; exact .val (.inr (by simp +decide))
  | fail hn => rw [nil rfl]; exact .fail (.inr (by simp +decide))
  | name hn _ => rw [nil rfl]; exact .name (.inr (by simp +decide))
  | use hx => exact .use (.inr (by rw [if_pos rfl])) (.inr rfl)
  | bind hn _ => exact .bind (.inr (by simp +decide))
  | op ho =>
    refine .op ho (.inr ?_)
    have h1 : w ≠ "use" := fun e => by subst e; revert ho; simp +decide [opsW]
    have h2 : w ≠ "bind" := fun e => by subst e; revert ho; simp +decide [opsW]
    rw [if_neg h1, if_neg h2, if_pos (List.mem_map.mpr ⟨_, ho, rfl⟩)]
theorem isTm_own {L : List (Str × Nat)} {t : Tm} {ns : List Str} (h : TmOk L ns t) : IsTm t.d t := by
  induction h with
  | mk ho hk ih =>
    refine .mk (nodeD_own ho) (List.length_map _) fun i e k he hk' => ?_
    rw [List.getElem?_map, hk'] at he
    obtain rfl := Option.some.inj he
    exact ih i k hk'
/-! what stands in the heap -/
section
variable {K : PySem.W.Frag} {H : Hp}
def SqA (K : PySem.W.Frag) (H : Hp) (a : Addr) (xs : List V) : Prop := SqL K H a xs ∨ SqT K H a xs
theorem SqA.mono {H H' : Hp} (s : Same H H') {a : Addr} {xs : List V} (h : SqA K H a xs) : SqA K H' a xs := h.imp (fun h => s.seq h) (fun h => Same.seqT s h)
theorem dp_seq {v : V} {d : PyData} {ds : List PyData} (h : Dp K H v d) (e : Seq d ds) : ∃ p xs, v = .ref p ∧ SqA K H p xs ∧ DpAll K H xs ds := by
  rcases e with rfl | rfl
  · cases h with | lst h1 h2 => exact ⟨_, _, rfl, .inl h1, h2⟩
  · cases h with | tup h1 h2 => exact ⟨_, _, rfl, .inr h1, h2⟩
theorem dps_len : ∀ {xs : List V} {ds : List PyData}, DpAll K H xs ds → xs.length = ds.length
  | _, _, .nil => rfl
  | _, _, .cons _ h => by rw [List.length_cons, List.length_cons, dps_len h]
theorem dps_at : ∀ {xs : List V} {ds : List PyData} {i : Nat} {x : V}, DpAll K H xs ds → xs[i]? = some x → ∃ d, ds[i]? = some d ∧ Dp K H x d
  | _, _, 0, _, .cons h _, e => ⟨_, rfl, Option.some.inj e ▸ h⟩
  | _, _, i + 1, _, .cons _ h, e => dps_at (i := i) h e
theorem dps_str {xs : List V} {s : Str} {ds : List PyData} (h : DpAll K H xs (.str s :: ds)) : ∃ ys, xs = .str s :: ys ∧ DpAll K H ys ds := by
  cases h with
  | cons h1 h2 => cases h1; exact ⟨_, rfl, h2⟩
/-- what a node's value holds -/
inductive NodeV (K : PySem.W.Frag) (H : Hp) : Addr → Str → Str → List V → Prop
  | val {p n} : SqA K H p [.str "value", .str n] → NodeV K H p "value" n []
  | fail {p n} : SqA K H p [.str "fail", .str n] → NodeV K H p "fail" n []
  | name {p n} : SqA K H p [.str "name", .str n] → NodeV K H p "name" n []
  | use {p q n vs} : SqA K H p [.str "use", .str n, .ref q] → SqA K H q vs → NodeV K H p "use" n vs
  | bind {p n vs} : SqA K H p (.str "bind" :: .str n :: vs) → NodeV K H p "bind" n vs
  | op {p w m vs} : (w, m) ∈ opsW → SqA K H p (.str w :: vs) → NodeV K H p w "" vs
theorem nodeV {v : V} {d : PyData} {w n : Str} {ds : List PyData} (h : Dp K H v d) (e : NodeD d w n ds) : ∃ p vs, v = .ref p ∧ NodeV K H p w n vs ∧ DpAll K H vs ds := by
  cases e with
  | val e => obtain ⟨p, xs, rfl, hs, hd⟩ := dp_seq h e; obtain ⟨_, e1, hd1⟩ := dps_str hd; obtain ⟨_, e2, hd2⟩ := dps_str hd1; cases hd2; subst e2 e1; exact ⟨p, _, rfl, .val hs, .nil⟩
  | fail e => obtain ⟨p, xs, rfl, hs, hd⟩ := dp_seq h e; obtain ⟨_, e1, hd1⟩ := dps_str hd; obtain ⟨_, e2, hd2⟩ := dps_str hd1; cases hd2; subst e2 e1; exact ⟨p, _, rfl, .fail hs, .nil⟩
  | name e => obtain ⟨p, xs, rfl, hs, hd⟩ := dp_seq h e; obtain ⟨_, e1, hd1⟩ := dps_str hd; obtain ⟨_, e2, hd2⟩ := dps_str hd1; cases hd2; subst e2 e1; exact ⟨p, _, rfl, .name hs, .nil⟩
  | use e e2 =>
    obtain ⟨p, xs, rfl, hs, hd⟩ := dp_seq h e; obtain ⟨_, e1, hd1⟩ := dps_str hd; obtain ⟨_, e3, hd2⟩ := dps_str hd1
    subst e3 e1
    cases hd2 with
    | cons h1 h2 =>
      cases h2
      obtain ⟨q, vs, rfl, hq, hd⟩ := dp_seq h1 e2
      exact ⟨p, vs, rfl, .use hs hq, hd⟩
  | bind e => obtain ⟨p, xs, rfl, hs, hd⟩ := dp_seq h e; obtain ⟨_, e1, hd1⟩ := dps_str hd; obtain ⟨_, e2, hd2⟩ := dps_str hd1; subst e2 e1; exact ⟨p, _, rfl, .bind hs, hd2⟩
  | op ho e => obtain ⟨p, xs, rfl, hs, hd⟩ := dp_seq h e; obtain ⟨_, e1, hd1⟩ := dps_str hd; subst e1; exact ⟨p, _, rfl, .op ho hs, hd1⟩
theorem NodeV.mono {H H' : Hp} (s : Same H H') {p : Addr} {w n : Str} {vs : List V} (h : NodeV K H p w n vs) : NodeV K H' p w n vs := by
  cases h with
  | val h => exact .val (h.mono s)
  | fail h => exact .fail (h.mono s)
  | name h => exact .name (h.mono s)
  | use h h2 => exact .use (h.mono s) (h2.mono s)
  | bind h => exact .bind (h.mono s)
  | op ho h => exact .op ho (h.mono s)
end
end GB
set_option Elab.async false
set_option linter.all false
set_option maxRecDepth 100000
set_option maxHeartbeats 4000000
/-! A name by the words of texts. -/
namespace GB
open PySem PySem.Spec L2 PyProof.Rows
theorem asc : ∀ c < 128, (Unicode.isAlpha c && !(Unicode.isUpper c || Unicode.isTitle c)) = signB c ∧ (signB c = true → Unicode.isLower c = true) := by decide +kernel
theorem sign_lt {c : Nat} (h : signB c = true) : c < 128 := by
  unfold signB at h
  simp only [Bool.and_eq_true, Bool.not_eq_true', decide_eq_false_iff_not] at h
  have h2 := h.2
  simp only [List.cons_lt_cons_iff] at h2
  omega
theorem nameB_words (s : Str) : nameB s = (decide (1 ≤ s.length ∧ s.length ≤ 8) && (Txt.isascii s && (Txt.isalpha s && Txt.islower s))) := by
  unfold nameB Txt.isascii Txt.isalpha Txt.islower
  by_cases h : 1 ≤ s.length ∧ s.length ≤ 8
  · rw [decide_eq_true h, Bool.true_and, Bool.true_and]
    have hn : decide (s.length > 0) = true := decide_eq_true (by omega)
    rw [hn, Bool.true_and]
    apply Bool.eq_iff_iff.mpr
    simp only [Bool.and_eq_true, Array.all_eq_true', Array.any_eq_true', List.all_eq_true, Bool.not_eq_true', decide_eq_true_eq, Array.mem_toList_iff, Array.any_eq_false', Bool.or_eq_true, not_or]
    constructor
    · intro ha
      refine ⟨fun c hc => sign_lt (ha c hc), fun c hc => ?_, ?_, fun c hc => ?_⟩
      · have := (asc c (sign_lt (ha c hc))).1
        rw [ha c hc] at this
        exact (Bool.and_eq_true_iff.mp this).1
      · have hs : 0 < s.cps.size := h.1
        refine ⟨s.cps[0], Array.getElem_mem hs, ?_⟩
        exact (asc _ (sign_lt (ha _ (Array.getElem_mem hs)))).2 (ha _ (Array.getElem_mem hs))
      · have := (asc c (sign_lt (ha c hc))).1
        rw [ha c hc] at this
        have := (Bool.and_eq_true_iff.mp this).2
        simpa using this
    · rintro ⟨h1, h2, _, h3⟩ c hc
      rw [← (asc c (h1 c hc)).1, h2 c hc]
      have := h3 c hc
      simp [this.1, this.2]
  · rw [decide_eq_false h, Bool.false_and, Bool.false_and]
end GB
set_option Elab.async false
set_option linter.all false
set_option maxRecDepth 100000
set_option maxHeartbeats 4000000
/-! x in o, x not in o: o of a class with its own def __contains__ that gives True or False. -/
namespace GB
open PySem PySem.Spec L2 PyProof.Rows
def rInOwn (C : Addr) (sp : Sp) (n : Bool) : R2 := fun x y H Q => ∃ a dx fs, y = .ref a ∧ H a = some (.ins C dx fs) ∧ sp [y, x] H (fun z H' => ∃ b, z = .bl b ∧ Q (.bl (n != b)) H') E0
section
variable {X : Cx} {CX : CXT} {k : Nat} {f C : Addr} {fd : FuncData} {ps : List Str} {sp : Sp}
theorem op_inOwn (hs : PySem.W.findIn X.K (.ref C) "__contains__" = some (some (.ref f))) (hf : PySem.W.isFn X.K (.ref f) = true) (F : FnOk X.prog X.w X.K X.mg X.base CX0 k f fd ps sp) (hr : Room k X.A) (hb : Binds X.K fd ps []) : OpR X (compareOp .In) (rInOwn C sp false) := by
  intro pins s σ H x y v u Q I rx ry h
  obtain ⟨a, dx, fs, rfl, ha, q⟩ := h
  cases (show u = Value.ref a from ry)
  obtain ⟨mA, O, _, _, _, _⟩ := ins_get I.hok ha
  obtain ⟨od, J, _⟩ := O.look
  obtain ⟨m, hF⟩ := I.fr
  refine PySem.W.in_K hF I.ok.mod.kin J hs hf ?_
  refine wpAny_mono (run_fn (us := [.ref a, v]) (vs := [.ref a, x]) F hr hb .nil pass0 I (.cons rfl (.cons rx .nil)) q) (fun w s' z => ?_) fun _ _ x => x
  obtain ⟨z', H', I', rz, b, eb, qz⟩ := z
  subst eb
  cases (show w = Value.bool b from rz)
  exact wpAny_truthy_bool ⟨.bl b, H', I', rfl, by simpa using qz⟩
theorem op_ninOwn (hs : PySem.W.findIn X.K (.ref C) "__contains__" = some (some (.ref f))) (hf : PySem.W.isFn X.K (.ref f) = true) (F : FnOk X.prog X.w X.K X.mg X.base CX0 k f fd ps sp) (hr : Room k X.A) (hb : Binds X.K fd ps []) : OpR X (compareOp .NotIn) (rInOwn C sp true) := by
  intro pins s σ H x y v u Q I rx ry h
  obtain ⟨a, dx, fs, rfl, ha, q⟩ := h
  cases (show u = Value.ref a from ry)
  obtain ⟨mA, O, _, _, _, _⟩ := ins_get I.hok ha
  obtain ⟨od, J, _⟩ := O.look
  obtain ⟨m, hF⟩ := I.fr
  refine PySem.W.notIn_K hF I.ok.mod.kin J hs hf ?_
  refine wpAny_mono (run_fn (us := [.ref a, v]) (vs := [.ref a, x]) F hr hb .nil pass0 I (.cons rfl (.cons rx .nil)) q) (fun w s' z => ?_) fun _ _ x => x
  obtain ⟨z', H', I', rz, b, eb, qz⟩ := z
  subst eb
  cases (show w = Value.bool b from rz)
  exact wpAny_truthy_bool ⟨.bl (!b), H', I', rfl, by simpa using qz⟩
end
end GB
set_option Elab.async false
set_option linter.all false
set_option maxRecDepth 100000
set_option maxHeartbeats 8000000
namespace K39
open PySem PySem.Spec L2 GB
abbrev sIsL : Stmt := topS 11
abbrev sIsN : Stmt := topS 12
abbrev sIsNm : Stmt := topS 13
def spIsL (K : PySem.W.Frag) : Sp := fun vs H Q _ => ∃ x t b, vs = [x] ∧ (∀ H', Same H H' → TyX K H' x t) ∧ PySem.W.kitAny K t [.type "list", .type "tuple"] = some b ∧ ∀ H', Same H H' → Q (.bl b) H'
def spIsN (K : PySem.W.Frag) : Sp := fun vs H Q _ => ∃ x t b1 b2, vs = [x] ∧ TyX K H x t ∧ PySem.W.kitOne K t (.type "int") = some b1 ∧ PySem.W.kitOne K t (.type "bool") = some b2 ∧ Q (.bl (b1 && !b2)) H
def spIsNm (K : PySem.W.Frag) : Sp := fun vs H Q _ => ∃ x, vs = [x] ∧ ((∃ s : Str, x = .str s ∧ s.length ≤ sizeLine ∧ ∀ H', Same H H' → Q (.bl (nameB s)) H') ∨ (∃ t, TyX K H x t ∧ PySem.W.kitOne K t (.type "str") = some false ∧ Q (.bl false) H))
section
variable {P : Program} {w : World} {K : PySem.W.Frag} {mg : Str → Option Value} {base : Heap}
theorem scIsL : FnScope ["thing"] ["thing"] (defScope sIsL) := ⟨rfl, rfl, rfl, by decide +kernel, rfl, by decide +kernel, by decide +kernel⟩
theorem scIsN : FnScope ["thing"] ["thing"] (defScope sIsN) := ⟨rfl, rfl, rfl, by decide +kernel, rfl, by decide +kernel, by decide +kernel⟩
theorem scIsNm : FnScope ["thing"] ["thing"] (defScope sIsNm) := ⟨rfl, rfl, rfl, by decide +kernel, rfl, by decide +kernel, by decide +kernel⟩
theorem ok_isL {f : Addr} {fd : FuncData} (F : Fun K "is_list" "is_list" sIsL f fd) (T : Bl mg) : FnOk P w K mg base CX0 1 f fd ["thing"] (spIsL K) := by
  refine F.ok scIsL (fun vs H Q E h => ?_) (fun cdv A outer s H vs Q E hr h => ?_)
  · obtain ⟨x, t, b, rfl, _⟩ := h
    rfl
  · obtain ⟨x, t, b, rfl, ht, hb, q⟩ := h
    refine ⟨_, pss_one (ps_ret (pe_callB call_isiT (by rfl) T.isi (by decide +kernel) (pa_cons (pv 0) (pa_cons (pe_tup (pa_cons (pe_bltn (v := .ty "list") (by rfl) T.list (by decide +kernel) rfl) (pa_cons (pe_bltn (v := .ty "tuple") (by rfl) T.tuple (by decide +kernel) rfl) (pa_nil)))) (pa_nil))))), ?_⟩
    refine ⟨_, rfl, by show 2 ≤ sizeLine; decide, fun p np => ?_⟩
    obtain ⟨H1, s1, h1, e1⟩ := lay (o := .tup [.ty "list", .ty "tuple"]) np
    rw [e1]
    exact ⟨x, p, _, t, _, b, rfl, h1, .cons (.ty "list") (.cons (.ty "tuple") .nil), ht _ s1, hb, q _ s1⟩
theorem ok_isN {f : Addr} {fd : FuncData} (F : Fun K "is_number" "is_number" sIsN f fd) (T : Bl mg) : FnOk P w K mg base CX0 1 f fd ["thing"] (spIsN K) := by
  refine F.ok scIsN (fun vs H Q E h => ?_) (fun cdv A outer s H vs Q E hr h => ?_)
  · obtain ⟨x, t, b1, b2, rfl, _⟩ := h
    rfl
  · obtain ⟨x, t, b1, b2, rfl, ht, h1, h2, q⟩ := h
    refine ⟨_, pss_one (ps_ret (pe_and (pe_callB call_isi (by rfl) T.isi (by decide +kernel) (pa_cons (pv 0) (pa_cons (pe_bltn (v := .ty "int") (by rfl) T.int (by decide +kernel) rfl) (pa_nil)))) (pe_one (pe_not (pe_callB call_isi (by rfl) T.isi (by decide +kernel) (pa_cons (pv 0) (pa_cons (pe_bltn (v := .ty "bool") (by rfl) T.bool (by decide +kernel) rfl) (pa_nil)))))))), ?_⟩
    refine ⟨_, rfl, x, .ty "int", t, .type "int", b1, rfl, .ty "int", ht, h1, b1, rfl, ?_⟩
    cases b1 with
    | true => exact ⟨_, rfl, x, .ty "bool", t, .type "bool", b2, rfl, .ty "bool", ht, h2, b2, rfl, q⟩
    | false => exact q
theorem ok_isNm {f : Addr} {fd : FuncData} (F : Fun K "is_name" "is_name" sIsNm f fd) (T : Bl mg) (M : ∃ u, mg "MOST_SIGNS" = some u ∧ RelV (.int 8) u) : FnOk P w K mg base CX0 1 f fd ["thing"] (spIsNm K) := by
  obtain ⟨uM, gM, rM⟩ := M
  refine F.ok scIsNm (fun vs H Q E h => ?_) (fun cdv A outer s H vs Q E hr h => ?_)
  · obtain ⟨x, rfl, _⟩ := h
    rfl
  · obtain ⟨x, rfl, h⟩ := h
    refine ⟨_, pss_one (ps_ret (pe_and (pe_callB call_isi (by rfl) T.isi (by decide +kernel) (pa_cons (pv 0) (pa_cons (pe_bltn (v := .ty "str") (by rfl) T.str (by decide +kernel) rfl) (pa_nil)))) (pe_and (pe_chain op_le op_le (pe_int) (pe_callB call_len_str (by rfl) T.len PySem.boot_len (pa_cons (pv 0) (pa_nil))) (pe_glob rfl gM rM)) (pe_and (pe_bm0 PySem.F.plainAttrs_str PySem.F.slot_str_isascii PySem.F.type_str_isascii mt_isascii (pv 0)) (pe_and (pe_bm0 PySem.F.plainAttrs_str PySem.F.slot_str_isalpha PySem.F.type_str_isalpha mt_isalpha (pv 0)) (pe_one (pe_bm0 PySem.F.plainAttrs_str PySem.F.slot_str_islower PySem.F.type_str_islower mt_islower (pv 0)))))))), ?_⟩
    rcases h with ⟨z, rfl, hz, q⟩ | ⟨t, ht, hk, q⟩
    · have q := q H (Same.refl _)
      rw [nameB_words] at q
      refine ⟨_, rfl, .str z, .ty "str", .type "str", .type "str", true, rfl, .ty "str", .base (.str z), kit_ty (by decide +kernel), true, rfl, ?_⟩
      refine iteT ?_
      refine ⟨_, rfl, _, rfl, hz, _, _, rfl, rfl, _, rfl, ?_⟩
      by_cases c1 : (1 : Int) ≤ (z.length : Int)
      · rw [decide_eq_true c1]
        refine iteT ?_
        refine ⟨_, _, rfl, rfl, _, rfl, ?_⟩
        by_cases c2 : (z.length : Int) ≤ 8
        · rw [decide_eq_true c2]
          refine iteT ?_
          rw [decide_eq_true ⟨by omega, by omega⟩, Bool.true_and] at q
          refine ⟨_, rfl, rfl, _, rfl, rfl, trivial, _, rfl, ?_⟩
          cases ha : Txt.isascii z with
          | false => rw [ha] at q; exact iteF q
          | true =>
            rw [ha, Bool.true_and] at q
            refine iteT ?_
            refine ⟨_, rfl, rfl, _, rfl, rfl, trivial, _, rfl, ?_⟩
            cases hb : Txt.isalpha z with
            | false => rw [hb] at q; exact iteF q
            | true =>
              rw [hb, Bool.true_and] at q
              refine iteT ?_
              exact ⟨_, rfl, rfl, _, rfl, rfl, trivial, q⟩
        · rw [decide_eq_false c2]
          refine iteF ?_
          rw [decide_eq_false (fun h => c2 (by omega)), Bool.false_and] at q
          exact q
      · rw [decide_eq_false c1]
        refine iteF ?_
        refine ⟨_, rfl, ?_⟩
        rw [decide_eq_false (fun h => c1 (by omega)), Bool.false_and] at q
        exact iteF q
    · refine ⟨_, rfl, x, .ty "str", t, .type "str", false, rfl, .ty "str", ht, hk, false, rfl, ?_⟩
      exact iteF q
end
end K39
set_option Elab.async false
set_option linter.all false
set_option maxRecDepth 100000
set_option maxHeartbeats 4000000
namespace GB
open PySem PySem.Spec L2
def ks3 : List Str := ["value", "value", "fail"]
def en2 : List Str := ["one", "false"]
/-- a new thing behind a list's end -/
theorem ni3 {a p t e : Addr} (h1 : a ≠ p) (h2 : a ≠ t) (h3 : a ≠ e) : a ∉ [p, t, e] := by
  intro m
  simp only [List.mem_cons, List.not_mem_nil, or_false] at m
  rcases m with rfl | rfl | rfl
  · exact h1 rfl
  · exact h2 rfl
  · exact h3 rfl
theorem bt3 {p t e : Addr} {H H' : Hp} (s : Bt [p] H H') : Bt [p, t, e] H H' := bt_weak (fun q hq => by
  rw [List.mem_singleton.mp hq]; exact List.mem_cons_self) s
/-- if key not in seen: seen.append(key); end = (..); facts.append(..) -/
theorem fact_tail {K : PySem.W.Frag} {p tA eA kT L Dv : Addr} {x : Str} {l vs : List Str} {ts ks : List Addr} {as : List (Str × List Str)} {N : Nat} {s1 s2 s3 s4 s5 s7 s10 s13 s14 : Option V} {H : Hp} {D : Ends}
    (P : PoolIs H p N) (hN : N + 2 ≤ 1000000) (hT : H tA = some (.lst (ts.map V.ref))) (hE : H eA = some (.lst (ks.map V.ref))) (tp : tA ≠ p) (ep : eA ≠ p) (te : tA ≠ eA) (lt : ts.length ≤ 100) (lk : ks.length ≤ 100)
    (hk : H kT = some (.tup [.str x, .ref L])) (hL : H L = some (.lst (sts l))) (Lp : L ∉ [p, tA, eA]) (hD : H Dv = some (.lst (sts vs))) (Dp_ : Dv ∉ [p, tA, eA])
    (hs : DpAll K (hid [p, tA, eA] H) (ks.map V.ref) (as.map kd)) (oks : ∀ a ∈ as, OkS a) (okx : OkS (x, l))
    (same : (x, l) ∈ as → D.nx [some (.ref p), s1, s2, s3, s4, s5, some (.str x), s7, some (.ref tA), some (.ref eA), s10, some (.ref Dv), some (.ref kT), s13, s14] H)
    (more : (x, l) ∉ as → ∀ (H' : Hp) (t : Addr) (kk en : Str) (s13' : Option V), Bt [p, tA, eA] H H' → H' tA = some (.lst ((ts ++ [t]).map V.ref)) → H' eA = some (.lst ((ks ++ [kT]).map V.ref)) → FactAt (hid [p, tA, eA] H') ⟨x, vs, kk, en⟩ t → DpAll K (hid [p, tA, eA] H') ((ks ++ [kT]).map V.ref) ((as ++ [(x, l)]).map kd) →
      (kk = "value" ∨ kk = "fail") → (en = "one" ∨ en = "false") → PoolIs H' p (N + 2) → D.nx [some (.ref p), s1, s2, s3, s4, s5, some (.str x), s7, some (.ref tA), some (.ref eA), s10, some (.ref Dv), some (.ref kT), s13', s14] H') :
    tIfS (tTest (tOp (rNotInD K) (tVar 12) (tVar 9)))
      (tSeq (tDrop (tBM K "list" rAppend (tVar 9) (tCons (tVar 12) tNil)))
        (tSeq (tAsg (tTup (tCons (tCall (spOne K) [] E0 (tCons (tVar 0) (tCons (tLst (tCons (tC (.str "value")) (tCons (tC (.str "value")) (tCons (tC (.str "fail")) tNil)))) tNil)))
            (tCons (tCall (spOne K) [] E0 (tCons (tVar 0) (tCons (tLst (tCons (tC (.str "one")) (tCons (tC (.str "false")) tNil))) tNil))) tNil))) (gName 13))
          (tDrop (tBM K "list" rAppend (tVar 8) (tCons (tTup (tCons (tVar 6) (tCons (tCB (fun xs H Q => ∃ p ys, xs = [.ref p] ∧ ((SqL K H p ys ∧ ∀ l, H l = none → Q (.ref l) (upd H l (.tup ys))) ∨ (SqT K H p ys ∧ Q (.ref p) H))) (tCons (tVar 11) tNil)) (tCons (tVar 13) tNil)))) tNil)))))
      tNext D [some (.ref p), s1, s2, s3, s4, s5, some (.str x), s7, some (.ref tA), some (.ref eA), s10, some (.ref Dv), some (.ref kT), s13, s14] H := by
  have hk' : kT ∉ [p, tA, eA] := by
    obtain ⟨a, b, c, hp, _⟩ := P
    exact ni3 (ne_of hk hp (by intro z; cases z)) (ne_of hk hT (by intro z; cases z)) (ne_of hk hE (by intro z; cases z))
  have dk : Dp K (hid [p, tA, eA] H) (.ref kT) (kd (x, l)) := .tup (SqT.of (hid_to hk' hk)) (.cons (.str x) (.cons (.lst (SqL.of (hid_to Lp hL)) (dp_sts l)) .nil))
  refine ⟨_, rfl, _, rfl, kd (x, l), as.map kd, dp_mono (hid_low _ _) dk, .lst (SqL.of hE) (dps_mono (hid_low _ _) hs), sh_kd okx, sh_kds oks, _, rfl, ?_⟩
  rw [any_kd]
  by_cases c : (x, l) ∈ as
  · rw [decide_eq_true c]
    exact iteF (same c)
  · rw [decide_eq_false c]
    refine iteT ?_
    refine ⟨_, rfl, .inl ⟨rfl, _, SqL.of hE⟩, _, rfl, eA, _, _, rfl, rfl, hE, (by rw [List.length_map, sizeLine_eq]; omega), ?_⟩
    obtain ⟨H1, b1, h1, e1⟩ : ∃ H1, (∀ b o, b ≠ eA → H b = some o → H1 b = some o) ∧ H1 eA = some (.lst ((ks ++ [kT]).map V.ref)) ∧ upd H eA (.lst (ks.map V.ref ++ [.ref kT])) = H1 :=
      ⟨upd H eA (.lst (ks.map V.ref ++ [.ref kT])), fun b o z e => by rw [upd_ne z]; exact e, by rw [upd_same, List.map_append]; rfl, rfl⟩
    rw [e1]
    have B1 : Bt [p, tA, eA] H H1 := by rw [← e1]; exact bt_upd (by simp)
    have P1 : PoolIs H1 p N := by
      obtain ⟨a, b, c, hp, r⟩ := P
      exact ⟨a, b, c, b1 _ _ ep.symm hp, r⟩
    have hT1 := b1 _ _ te hT
    refine ⟨_, rfl, by show 3 ≤ sizeLine; decide, fun v3 n3 => ?_⟩
    obtain ⟨H2, s2', h2, e2⟩ := lay (o := .lst [.str "value", .str "value", .str "fail"]) n3
    rw [e2]
    have P2 := P1.mono s2' (Nat.le_refl _)
    refine ⟨p, v3, sts ks3, N, rfl, SqL.of (hid_to (ni1 (P1.ne n3)) h2), (fun z => nomatch z), by decide, by omega, P2, fun v H3 hv B3 P3 => ?_⟩
    obtain ⟨kk, hkk, rfl⟩ := mem_sts hv
    refine ⟨_, rfl, by show 2 ≤ sizeLine; decide, fun v2 n2 => ?_⟩
    obtain ⟨H4, s4', h4, e4⟩ := lay (o := .lst [.str "one", .str "false"]) n2
    rw [e4]
    have P4 := P3.mono s4' (Nat.le_refl _)
    refine ⟨p, v2, sts en2, N + 1, rfl, SqL.of (hid_to (ni1 (P3.ne n2)) h4), (fun z => nomatch z), by decide, by omega, P4, fun v H5 hv' B5 P5 => ?_⟩
    obtain ⟨en, hen, rfl⟩ := mem_sts hv'
    refine ⟨by show 2 ≤ sizeLine; decide, fun eT neT => ?_⟩
    obtain ⟨H6, s6, h6, e6⟩ := lay (o := .tup [.str kk, .str en]) neT
    rw [e6]
    have B16 : Bt [p] H1 H6 := ((bt_of s2').trans B3).trans (((bt_of s4').trans B5).trans (bt_of s6))
    have hT6 := bt_at B16 (ni1 tp) hT1
    have hE6 := bt_at B16 (ni1 ep) h1
    have B06 : Bt [p, tA, eA] H H6 := B1.trans (bt3 B16)
    have hD6 := bt_at B06 Dp_ hD
    refine ⟨_, rfl, .inl ⟨rfl, _, SqL.of hT6⟩, _, rfl, _, rfl, Dv, _, rfl, .inl ⟨SqL.of hD6, fun vT nvT => ?_⟩⟩
    obtain ⟨H7, s7', h7, e7⟩ := lay (o := .tup (sts vs)) nvT
    rw [e7]
    refine ⟨_, rfl, by show 3 ≤ sizeLine; decide, fun t nt => ?_⟩
    obtain ⟨H8, s8, h8, e8⟩ := lay (o := .tup [.str x, .ref vT, .ref eT]) nt
    rw [e8]
    have hT8 := s8 _ _ (s7' _ _ hT6)
    refine ⟨tA, _, _, rfl, rfl, hT8, (by rw [List.length_map, sizeLine_eq]; omega), ?_⟩
    obtain ⟨H9, b9, h9, e9⟩ : ∃ H9, (∀ b o, b ≠ tA → H8 b = some o → H9 b = some o) ∧ H9 tA = some (.lst ((ts ++ [t]).map V.ref)) ∧ upd H8 tA (.lst (ts.map V.ref ++ [.ref t])) = H9 :=
      ⟨upd H8 tA (.lst (ts.map V.ref ++ [.ref t])), fun b o z e => by rw [upd_ne z]; exact e, by rw [upd_same, List.map_append]; rfl, rfl⟩
    rw [e9]
    have B89 : Bt [p, tA, eA] H8 H9 := by rw [← e9]; exact bt_upd (by simp)
    have B09 : Bt [p, tA, eA] H H9 := B06.trans ((bt_of (s7'.trans s8)).trans B89)
    have P8 := P5.mono ((s6.trans s7').trans s8) (Nat.le_refl _)
    obtain ⟨a, b, c', hp8, pr8⟩ := id P8
    have tup_ni : ∀ {q : Addr} {o : List V}, H8 q = some (.tup o) → q ∉ [p, tA, eA] := fun h => ni3 (ne_of h hp8 (by intro z; cases z)) (ne_of h hT8 (by intro z; cases z)) (ne_of h (s8 _ _ (s7' _ _ hE6)) (by intro z; cases z))
    have up9 : ∀ {q : Addr} {o : List V}, H8 q = some (.tup o) → hid [p, tA, eA] H9 q = some (.tup o) := fun h => B89 _ _ (hid_to (tup_ni h) h)
    refine more c H9 t kk en _ B09 h9 (b9 _ _ te.symm (s8 _ _ (s7' _ _ hE6))) ⟨vT, eT, up9 h8, up9 (s8 _ _ h7), up9 (s8 _ _ (s7' _ _ h6))⟩ ?_ ?_ ?_ ⟨a, b, c', b9 _ _ tp.symm hp8, pr8⟩
    · rw [List.map_append, List.map_append]
      exact dps_app (dps_mono B09 hs) (.cons (dp_mono B09 dk) .nil)
    · simp only [ks3, List.mem_cons, List.not_mem_nil, or_false] at hkk
      rcases hkk with rfl | rfl | rfl
      · exact .inl rfl
      · exact .inl rfl
      · exact .inr rfl
    · simp only [en2, List.mem_cons, List.not_mem_nil, or_false] at hen
      exact hen
end GB
set_option Elab.async false
set_option linter.all false
set_option maxRecDepth 100000
set_option maxHeartbeats 4000000
/-! Rules that the layer lacks: sorted of a tuple of texts. -/
namespace GB
open PySem PySem.Spec PyProof.Rows L2
section
variable {prog : Program} {w : World} {A : Around} {E : Value → Shared → Prop} {s : Shared}
theorem sorted_tup {l : Addr} {o : Obj} {items : Array Value} {n : Nat} {ss : List Str} {Q : Value → Shared → Prop} (ho : s.heap.get? l = some o) (hc : o.cls = .type "tuple") (hd : o.data = .seq items n) (hS : StrsAre items.toList ss) (h64 : items.toList.length < 64)
    (h : ∀ (hh : Heap) (a : Addr) (out : Array Value) (ep : Nat) (ss' : List Str), (∀ b u, s.heap.get? b = some u → hh.get? b = some u) → s.heap.get? a = none → hh.get? a = some (seqObj "list" out ep) → StrsAre out.toList ss' → ss'.Perm ss → sortedS ss' = true → Q (.ref a) { s with heap := hh }) :
    wpAny (model prog w) A (call (.builtin "sorted") [.ref l]) Q E s := by
  refine Calls.call_function_entry kind_sorted plain_sorted entry_sorted (args_sorted1 _) ?_
  unfold Builtin.«sorted»
  refine wpAny_bind (m := checkCount "sorted" 1 1 _) (wpAny_pure ?_)
  refine wpAny_bind (wpAny_collect_seq l (.inr rfl) ho hc hd (fun h1 k1 => ?_) (by rw [sizeLine_eq]; have e := Array.length_toList (xs := items); omega))
  refine wpAny_bind (wpAny_newList ?_)
  have hoL : (h1.push (seqObj "list" items.toList.toArray 0)).get? h1.objs.size = some (seqObj "list" items.toList.toArray 0) := Heap.get?_push_size _ rfl
  have lt : s.heap.get? h1.objs.size = none := by
    cases e : s.heap.get? h1.objs.size with
    | none => rfl
    | some u => exact absurd (Heap.lt_size (k1 _ _ e)) (Nat.lt_irrefl _)
  show wpAny _ _ _ _ _ { s with heap := h1.push (seqObj "list" items.toList.toArray 0) }
  refine wpAny_bind (wpAny_holding (wpAny_call_entry slot_list_sort ⟨_, hoL, rfl⟩ entry_list_sort (list_sort_treeK strKind_oneLt hoL hS.keysOf (fun v₁ v₂ rest e => keyKind_strs (by rw [← e]; exact hS)) h64 fun st' a1 a2 => ⟨_, rfl, ?_⟩) (args_list_sort _)))
  obtain ⟨ss', z1, z2, z3⟩ := sorted_out_str hS a1 a2
  obtain ⟨ep, he⟩ := sortedHeap_at (vs := items.toList) (out := (arrOf st').map (·.2)) hoL
  refine wpAny_pure ⟨_, rfl, h _ _ _ ep ss' (fun b u hb => ?_) lt he z1 z2 z3⟩
  have hb1 := k1 b u hb
  have hl := Heap.lt_size hb1
  rw [sortedHeap_old (Nat.ne_of_lt hl) (by rw [size_push']; exact Nat.lt_succ_of_lt hl)]
  exact Heap.get?_push_of_some _ hb1
end
def rSortedTS (K : PySem.W.Frag) : List V → Hp → VK → Prop := fun vs H Q => ∃ (a : Addr) (xs : List Str), vs = [V.ref a] ∧ SqT K H a (sts xs) ∧ xs.length < 64 ∧ ∀ (ys : List Str) (p : Addr), ys.Perm xs → PyProof.Rows.sortedS ys = true → H p = none → Q (.ref p) (upd H p (.lst (sts ys)))
theorem cr_sortedTS {X : Cx} : CallR X (.builtin "sorted") (rSortedTS X.K) := by
  intro pins s σ H vs us Q I r h
  obtain ⟨a, xs, rfl, hs, h64, q⟩ := h
  obtain ⟨its, rv, ⟨o, ho, hc, n, hd⟩, _⟩ := I.tuple hs
  rw [Vals.ref1 r]
  have hlen0 := rv.length
  rw [sts_len] at hlen0
  have e1 : its.toArray.toList = its := rfl
  refine sorted_tup ho hc hd (ss := xs) (by rw [e1]; exact Vals.strs rv) (by rw [e1]; omega) fun hh b out ep ss' kk hb hob z1 z2 z3 => ?_
  have hn : H b = none := I.hok.gone hb
  have hz : (sts ss').length ≤ sizeLine := by rw [sts_len, z2.length_eq]; exact small64 h64
  exact ⟨.ref b, _, I.laidN (o := .lst (sts ss')) (t' := s.toks) kk hb hn ⟨hz, out.toList, ep, vals_of_strs z1, hob⟩, rfl, q ss' b z2 z3 hn⟩
end GB
set_option Elab.async false
set_option linter.all false
set_option maxRecDepth 100000
set_option maxHeartbeats 4000000
/-! Readings for nodes that are lists or tuples. -/
namespace GB
open PySem PySem.Spec L2
def nmd : List Str := ["value", "name", "fail"]
section
variable {K : PySem.W.Frag} {H : Hp} {Q : VK} {p : Addr} {xs : List V} {w n : Str} {vs : List V}
theorem ixA (h : SqA K H p xs) {v : V} (i : Nat) (e : xs[i]? = some v) (q : Q v H) : rIx K (.ref p) (.int (i : Int)) H Q := by
  rcases h with h | h
  · exact .inl ⟨p, xs, _, v, rfl, rfl, h, atI_nat e, q⟩
  · exact .inr (.inl ⟨p, xs, _, v, rfl, rfl, h, atI_nat e, q⟩)
/-- xs[k:] of a list or a tuple -/
def rSlAny (K : PySem.W.Frag) : V → Option Int → Option Int → Hp → VK → Prop := fun x lo hi H Q => rSlL K x lo hi H Q ∨ rSlA K x lo hi H Q
theorem sl_any {X : Cx} : SlR X (rSlAny X.K) := by
  intro pins s σ H x v vl vu lo hi sl Q I rx hs pl pu h
  rcases h with h | h
  · exact sl_list pins s σ H x v vl vu lo hi sl Q I rx hs pl pu h
  · exact sl_tupA pins s σ H x v vl vu lo hi sl Q I rx hs pl pu h
theorem slA (h : SqA K H p xs) (k : Nat) (q : ∀ b H', Same H H' → SqA K H' b (xs.drop k) → Q (.ref b) H') : rSlAny K (.ref p) (some (k : Int)) none H Q := by
  rcases h with h | h
  · refine .inl ⟨p, xs, rfl, h, fun a na => ?_⟩
    obtain ⟨H1, s1, h1, e1⟩ := lay (o := .lst (cutV xs (some (k : Int)) none)) na
    rw [e1]
    exact q a H1 s1 (by rw [← cut_from]; exact .inl (SqL.of h1))
  · refine .inr ⟨p, xs, rfl, h, fun hw => ?_, fun _ a na => ?_⟩
    · have h0 := hw.1
      rw [HT.sIx_nat] at h0
      have e : xs.drop k = xs := by
        by_cases hk : k = 0
        · rw [hk, List.drop_zero]
        · have : xs.length = 0 := by omega
          rw [List.eq_nil_of_length_eq_zero this, List.drop_nil]
      exact q p H (Same.refl _) (by rw [e]; exact .inr h)
    · obtain ⟨H1, s1, h1, e1⟩ := lay (o := .tup (cutV xs (some (k : Int)) none)) na
      rw [e1]
      exact q a H1 s1 (by rw [← cut_from]; exact .inr (SqT.of h1))
theorem same_hid0 {H : Hp} : Same H (hid [] H) := fun b o e => hid_to (by simp) e
theorem same_hid_new {H H' : Hp} {L : Addr} (n : H L = none) (s : Same H H') : Same H (hid [L] H') := fun b o e => hid_to (by
  intro m
  rw [List.mem_singleton.mp m, n] at e
  cases e) (s _ _ e)
theorem sqV {H : Hp} {a : Addr} {xs : List V} (h : SqA K H a xs) : ∃ b, SqV K H a xs b := h.elim (fun h => ⟨true, h⟩) (fun h => ⟨false, h⟩)
/-- of new objects, with some places hidden -/
theorem slH {ps : List Addr} (hp : ∀ q ∈ ps, ∃ o, H q = some o) (h : SqA K (hid ps H) p xs) (k : Nat) (q : ∀ b H', Same H H' → SqA K (hid ps H') b (xs.drop k) → Q (.ref b) H') : rSlAny K (.ref p) (some (k : Int)) none H Q := by
  have ni : ∀ {a : Addr}, H a = none → a ∉ ps := fun n m => by
    obtain ⟨o, e⟩ := hp _ m
    rw [n] at e
    cases e
  rcases h with h | h
  · refine .inl ⟨p, xs, rfl, (hid_low ps H).seq h, fun a na => ?_⟩
    obtain ⟨H1, s1, h1, e1⟩ := lay (o := .lst (cutV xs (some (k : Int)) none)) na
    rw [e1]
    exact q a H1 s1 (by rw [← cut_from]; exact .inl (SqL.of (hid_to (ni na) h1)))
  · refine .inr ⟨p, xs, rfl, Same.seqT (hid_low ps H) h, fun hw => ?_, fun _ a na => ?_⟩
    · have h0 := hw.1
      rw [HT.sIx_nat] at h0
      have e : xs.drop k = xs := by
        by_cases hk : k = 0
        · rw [hk, List.drop_zero]
        · have : xs.length = 0 := by omega
          rw [List.eq_nil_of_length_eq_zero this, List.drop_nil]
      exact q p H (Same.refl _) (by rw [e]; exact .inr h)
    · obtain ⟨H1, s1, h1, e1⟩ := lay (o := .tup (cutV xs (some (k : Int)) none)) na
      rw [e1]
      exact q a H1 s1 (by rw [← cut_from]; exact .inr (SqT.of (hid_to (ni na) h1)))
theorem NodeV.kind (h : NodeV K H p w n vs) : (w ∈ nmd ∧ vs = [] ∧ SqA K H p [.str w, .str n]) ∨ (w = "use" ∧ ∃ q, SqA K H p [.str w, .str n, .ref q] ∧ SqA K H q vs) ∨ (w = "bind" ∧ SqA K H p (.str w :: .str n :: vs)) ∨ ((∃ m, (w, m) ∈ opsW) ∧ n = "" ∧ SqA K H p (.str w :: vs)) := by
  cases h with
  | val h => exact .inl ⟨by decide, rfl, h⟩
  | fail h => exact .inl ⟨by decide, rfl, h⟩
  | name h => exact .inl ⟨by decide, rfl, h⟩
  | use h h2 => exact .inr (.inl ⟨rfl, _, h, h2⟩)
  | bind h => exact .inr (.inr (.inl ⟨rfl, h⟩))
  | op ho h => exact .inr (.inr (.inr ⟨⟨_, ho⟩, rfl, h⟩))
theorem ops_no : ∀ q ∈ opsW, q.1 ∉ nmd ∧ q.1 ≠ "use" ∧ q.1 ≠ "bind" := by decide
theorem decS (a b : Str) : decide (V.str a = V.str b) = decide (a = b) := by
  by_cases h : a = b
  · subst h; simp
  · rw [decide_eq_false h, decide_eq_false fun e => h (V.str.inj e)]
theorem decI (a b : Int) : decide (V.int a = V.int b) = decide (a = b) := by
  by_cases h : a = b
  · subst h; simp
  · rw [decide_eq_false h, decide_eq_false fun e => h (V.int.inj e)]
theorem tyS {a : Addr} {xs : List V} (h : SqA K H a xs) : ∃ t, (t = "list" ∨ t = "tuple") ∧ ∀ H', Same H H' → TyX K H' (.ref a) (.type t) := by
  rcases h with h | h
  · rcases h with (h | ⟨o, h⟩) | ⟨o, its, m, h, hc, _⟩
    · exact ⟨_, .inl rfl, fun H' s => .base (.lst (s _ _ h))⟩
    · exact ⟨_, .inl rfl, fun H' s => .base (.frz (s _ _ h))⟩
    · exact ⟨_, .inl rfl, fun H' s => .kList h hc⟩
  · rcases h with (h | ⟨o, h⟩) | ⟨o, its, m, h, hc, _⟩
    · exact ⟨_, .inr rfl, fun H' s => .base (.tup (s _ _ h))⟩
    · exact ⟨_, .inr rfl, fun H' s => .fTuple (s _ _ h)⟩
    · exact ⟨_, .inr rfl, fun H' s => .kTuple h hc⟩
theorem kit_seq {K : PySem.W.Frag} {t : String} (h : t = "list" ∨ t = "tuple") : PySem.W.kitAny K (.type t) [.type "list", .type "tuple"] = some true := by
  rcases h with rfl | rfl
  · exact kitAny_cons (b := true) (kit_ty (by decide +kernel)) (fun h => nomatch h) (fun _ => rfl)
  · exact kitAny_cons (b := false) (kit_ty (by decide +kernel)) (fun _ => kitAny_cons (b := true) (kit_ty (by decide +kernel)) (fun h => nomatch h) (fun _ => rfl)) (fun h => nomatch h)
/-- a node of this head over these terms' data, of tuples throughout -/
def nodeT (w n : Str) (ds : List PyData) : PyData := if w = "use" then .tuple [.str w, .str n, .tuple ds] else if w = "bind" then .tuple (.str w :: .str n :: ds) else if w ∈ opsW.map (·.1) then .tuple (.str w :: ds) else .tuple [.str w, .str n]
theorem d_node (w n : Str) (ks : List Tm) : (Tm.mk w n ks).d = nodeT w n (ks.map Tm.d) := by rw [Tm.d, ds_map]; rfl
end
end GB
set_option Elab.async false
set_option linter.all false
set_option maxRecDepth 100000
set_option maxHeartbeats 4000000
/-! A dict whose keys are tuples of texts and such tuples. -/
namespace GB
open PySem PySem.Spec L2 PyProof.Rows
mutual
inductive NkV (H : Hp) : NestedKey → V → Prop
  | text (x : Str) : NkV H (.text x) (.str x)
  | tup {a : Addr} {xs : List V} {ks : List NestedKey} : H a = some (.tup xs) → NkAll H ks xs → NkV H (.tup ks) (.ref a)
inductive NkAll (H : Hp) : List NestedKey → List V → Prop
  | nil : NkAll H [] []
  | cons {k v ks vs} : NkV H k v → NkAll H ks vs → NkAll H (k :: ks) (v :: vs)
end
section
variable {X : Cx} {pins : List (Addr × Obj)} {σ : L2.St} {H : Hp} {s : Shared}
mutual
theorem NkV.is (I : Inv X pins σ H s) : ∀ (k : NestedKey) (v : V) (u : Value), NkV H k v → RelV v u → NestedIs s.heap k u
  | .text x, _, _, h, r => by
    cases h
    obtain ⟨t, rfl⟩ := r
    exact .text x t
  | .tup ks, _, _, h, r => by
    cases h with
    | @tup a xs _ ha hx =>
      obtain rfl := (show _ = Value.ref a from r)
      obtain ⟨_, its, rv, o, h1, h2, n, h3⟩ := (show ObjOk X.prog X.w H s.heap a (.tup xs) from I.hok a _ ha)
      exact .tup h1 h2 h3 (NkAll.is I ks xs its hx rv)
  | .none, _, _, h, _ => nomatch h
  | .num _, _, _, h, _ => nomatch h
theorem NkAll.is (I : Inv X pins σ H s) : ∀ (ks : List NestedKey) (vs : List V) (us : List Value), NkAll H ks vs → Vals vs us → NestedAll s.heap ks us
  | [], _, _, h, r => by
    cases h
    cases r
    exact .nil
  | k :: ks, _, _, h, r => by
    cases h with
    | cons h1 h2 =>
      cases r with
      | cons r1 r2 => exact .cons (NkV.is I k _ _ h1 r1) (NkAll.is I ks _ _ h2 r2)
end
end
abbrev NX := List (NestedKey × Addr × Value)
/-- the dict at d, its entries -/
def ndO (P : Program) (w : World) (d : Addr) (xs : NX) : HO := .ext fun h => (d == sysModules) = false ∧ ∃ o es ep, h.get? d = some o ∧ o.ExactDict ∧ o.data = .dict es ep ∧ es.toList = xs.map (entryOfKey (nestedKind P w)) ∧ (xs.map (·.1)).Nodup
def NdKeys (H : Hp) (xs : NX) : Prop := ∀ e ∈ xs, NkV H e.1 (.ref e.2.1) ∧ e.1.depth ≤ 8
theorem nd_ok {P : Program} {w : World} {H : Hp} {h : Heap} {d : Addr} {xs : NX} (hd : (d == sysModules) = false) (m : h.DictOfH (nestedKind P w) d xs) : ObjOk P w H h d (ndO P w d xs) := by
  obtain ⟨o, es, ep, h1, h2, h3, h4, _, h5⟩ := m
  exact ⟨⟨hd, o, es, ep, h1, h2, h3, h4, h5⟩, ⟨o, h1⟩, fun a b ⟨q0, o', es', ep', q1, q2⟩ k => ⟨q0, o', es', ep', k _ q1, q2⟩⟩
section
variable {X : Cx} {pins : List (Addr × Obj)} {σ : L2.St} {H : Hp} {s : Shared}
theorem nd_of (I : Inv X pins σ H s) {d : Addr} {xs : NX} (e : H d = some (ndO X.prog X.w d xs)) (k : NdKeys H xs) : (d == sysModules) = false ∧ s.heap.DictOfH (nestedKind X.prog X.w) d xs := by
  obtain ⟨⟨q0, o, es, ep, q1, q2, q3, q4, q5⟩, _⟩ := (show ObjOk X.prog X.w H s.heap d (ndO X.prog X.w d xs) from I.hok d _ e)
  exact ⟨q0, o, es, ep, q1, q2, q3, q4, fun x hx => ⟨NkV.is I _ _ _ (k x hx).1 rfl, (k x hx).2⟩, q5⟩
theorem pe_dnewN {pos : Pos} : PE X (.Dict [] [] pos) (fun _ H Q => ∀ p, H p = none → Q (.ref p) (upd H p (ndO X.prog X.w p []))) := ⟨fun pins s σ H Q I h =>
  wpAny_Dict_empty ⟨.ref s.heap.objs.size, _, I.laid (a := s.heap.objs.size) (o := ndO X.prog X.w s.heap.objs.size []) (t' := s.toks) (fun _ _ q => Heap.get?_push_of_some _ q) (Nat.le_refl _)
    (nd_ok (beq_eq_false_iff_ne.mpr (Ne.symm (Nat.ne_of_lt I.big))) (Heap.DictOfH.new s.heap)), rfl, h _ (I.hok.fresh (Nat.le_refl _))⟩⟩
def rInN (P : Program) (w : World) : R2 := fun x y H Q => ∃ (a d : Addr) (k : NestedKey) (xs : NX), x = .ref a ∧ y = .ref d ∧ H d = some (ndO P w d xs) ∧ NdKeys H xs ∧ NkV H k (.ref a) ∧ k.depth ≤ 8 ∧ Q (.bl (atKey xs k).isSome) H
theorem op_inN (hu : X.A.units + 9 < cLine) : OpR X (compareOp .In) (rInN X.prog X.w) := by
  intro pins s σ H x y v u Q I rx ry h
  obtain ⟨a, d, k, xs, rfl, rfl, hd, hk, ha, h8, q⟩ := h
  cases rx
  cases ry
  obtain ⟨h0, hm⟩ := nd_of I hd hk
  exact wpAny_in_heap (knd := nestedKind X.prog X.w) (k := k) (by show X.A.in1.units + 8 < cLine; rw [Around.in1_units]; omega) ⟨NkV.is I _ _ _ ha rfl, h8⟩ h0 hm ⟨.bl (atKey xs k).isSome, H, I.tok _, rfl, q⟩
def rSetN (P : Program) (w : World) : TSet := fun o i v H Q => ∃ (d a b : Addr) (k : NestedKey) (xs : NX), o = .ref d ∧ i = .ref a ∧ v = .ref b ∧ H d = some (ndO P w d xs) ∧ NdKeys H xs ∧ NkV H k (.ref a) ∧ k.depth ≤ 8 ∧ xs.length ≤ 1000 ∧ Q (upd H d (ndO P w d (storedH xs k a (.ref b))))
theorem set_dictN (hu : X.A.units + 9 < cLine) : PSet X (rSetN X.prog X.w) := by
  intro pins s σ H o i v ov iv u Q I ro ri rv h
  obtain ⟨d, a, b, k, xs, rfl, rfl, rfl, hd, hk, ha, h8, hl, q⟩ := h
  cases ro
  cases ri
  cases rv
  obtain ⟨h0, hm⟩ := nd_of I hd hk
  refine wpAny_setItem_heap (knd := nestedKind X.prog X.w) (k := k) (hsz := by rw [sizeLine_eq]; omega) (by show X.A.in1.units + 8 < cLine; rw [Around.in1_units]; omega) ⟨NkV.is I _ _ _ ha rfl, h8⟩ hm (fun h' hm' hs => ?_)
  obtain ⟨o', es, ep, e1, _⟩ := id hm'
  exact ⟨_, d_write I (by rw [hd]; exact True.intro) hs ⟨o', e1⟩ (nd_ok h0 hm'), q⟩
theorem vals_refs : ∀ bs : List Addr, Vals (bs.map V.ref) (bs.map Value.ref)
  | [] => .nil
  | b :: r => .cons rfl (vals_refs r)
/-- the view of the values of the dict at d -/
def valsO (p d : Addr) : HO := .ext fun h => h.IsValuesView p d
def tValsN (P : Program) (w : World) (td : TE) : TE := fun σ H Q => td σ H fun x H1 => ∃ (d : Addr) (xs : NX), x = .ref d ∧ H1 d = some (ndO P w d xs) ∧ ∀ p, H1 p = none → Q (.ref p) (upd H1 p (valsO p d))
theorem pe_valsN {o : Expr} {td : TE} {apos cpos : Pos} (he : PE X o td) (hbase : attributeBase o "values" X.env (eval o X.env) = eval o X.env := by rfl) (hline : (apos.endLine == cpos.line) = true := by rfl) : PE X (.Call (.Attribute o "values" apos) [] [] cpos) (tValsN X.prog X.w td) := by
  refine ⟨fun pins s σ H Q I h => ?_⟩
  refine wpAny_Call_method (T := "dict") (id := "dict.values") hbase rfl hline F.plainAttrs_dict F.slot_dict_values F.type_dict_values (thn (he.run pins s σ H _ I h) fun u s1 ⟨x, H1, I1, rx, d, xs, ex, hd, q⟩ => ?_)
  subst ex
  obtain rfl : u = Value.ref d := rx
  obtain ⟨⟨h0, ob, es, ep, q1, q2, q3, q4, q5⟩, _⟩ := (show ObjOk X.prog X.w H1 s1.heap d (ndO X.prog X.w d xs) from I1.hok d _ hd)
  have raw : s1.heap.DictRaw d es ep := ⟨ob, q1, q2, q3⟩
  refine ⟨raw.typeIs, ?_, ?_⟩
  · intro a e
    cases e
    exact ⟨ob, q1, q2.2.1⟩
  · show wpAny _ _ (callWith cpos (.builtin "dict.values") [.ref d] [] []) _ X.xe s1
    have hf : H1 s1.heap.objs.size = none := I1.hok.fresh (Nat.le_refl _)
    exact method_meetsIn F.slot_dict_values F.entry_dict_values rfl (PySem.evalArgs_none ⟨rfl, raw.typeIs, F.args_dict_values_1 _, _, meets_dict_values_raw d h0, ⟨_, _, raw⟩, ⟨.ref s1.heap.objs.size, upd H1 s1.heap.objs.size (valsO s1.heap.objs.size d), I1.laid (t' := s1.toks) (fun b u e => Heap.get?_push_of_some _ e) (Nat.le_refl _) ⟨⟨_, Heap.get?_push_size _ rfl, rfl, rfl⟩, ⟨_, Heap.get?_push_size _ rfl⟩, fun h1 h2 ⟨o, ho, r⟩ k => ⟨o, k o ho, r⟩⟩, rfl, q _ hf⟩⟩)
/-- list(d.values()) -/
def rListVN (P : Program) (w : World) : List V → Hp → VK → Prop := fun vs H Q => ∃ (p d : Addr) (xs : NX) (bs : List Addr), vs = [.ref p] ∧ H p = some (valsO p d) ∧ H d = some (ndO P w d xs) ∧ xs.map (fun x => x.2.2) = bs.map Value.ref ∧ bs.length ≤ 1000 ∧ ∀ l, H l = none → Q (.ref l) (upd H l (.lst (bs.map V.ref)))
theorem call_listVN (hc : X.calm = true) : CallR X (.type "list") (rListVN X.prog X.w) := by
  intro pins s σ H vs us Q I r h
  obtain ⟨p, d, xs, bs, rfl, hp, hd, hv, hl, q⟩ := h
  obtain ⟨u, rfl, ru⟩ := r.one
  cases (show u = Value.ref p from ru)
  obtain ⟨⟨h0, ob, es, ep, q1, q2, q3, q4, q5⟩, _⟩ := (show ObjOk X.prog X.w H s.heap d (ndO X.prog X.w d xs) from I.hok d _ hd)
  obtain ⟨hview, _⟩ := (show ObjOk X.prog X.w H s.heap p (valsO p d) from I.hok p _ hp)
  have hes : es.size = bs.length := by
    rw [← Array.length_toList, q4, List.length_map, ← List.length_map (f := fun x : NestedKey × Addr × Value => x.2.2), hv, List.length_map]
  refine PySem.W.kdl_call (KdlSrc.rawValues) (I.ok.hd hc) ⟨hview, ob, q1, q2, q3⟩ (by rw [hes, sizeLine_eq]; omega) fun h' tk acc c hk hL hacc => ?_
  have eacc : acc.toList = bs.map Value.ref := by
    rw [← hv]
    refine List.ext_getElem? fun j => ?_
    rw [List.getElem?_map, Array.getElem?_toList]
    have hx : es[j]? = xs[j]?.map (entryOfKey (nestedKind X.prog X.w)) := by rw [← Array.getElem?_toList, q4, List.getElem?_map]
    cases e : acc[j]? with
    | none =>
      have h1 : es.size ≤ j := by rw [← hacc.1]; exact Array.getElem?_eq_none_iff.mp e
      rw [Array.getElem?_eq_none_iff.mpr h1] at hx
      cases e2 : xs[j]? with
      | none => rfl
      | some y => rw [e2] at hx; cases hx
    | some v =>
      obtain ⟨hi, ev⟩ := hacc.2 j v e
      rw [Array.getElem?_eq_getElem hi] at hx
      cases e2 : xs[j]? with
      | none => rw [e2] at hx; cases hx
      | some y =>
        rw [e2] at hx
        have := Option.some.inj hx
        rw [ev, this]
        rfl
  refine ⟨.ref s.heap.objs.size, upd H s.heap.objs.size (.lst (bs.map V.ref)), I.laid (t' := tk) hk (Nat.le_refl _) ⟨by rw [List.length_map, sizeLine_eq]; omega, bs.map Value.ref, c, ?_, by rw [hL, ← eacc]⟩, rfl, q _ (I.hok.fresh (Nat.le_refl _))⟩
  exact vals_refs bs
end
end GB
set_option Elab.async false
set_option linter.all false
set_option maxRecDepth 100000
set_option maxHeartbeats 4000000
/-! Data of tuples, texts and ints alone do not rest on lists. -/
namespace GB
open PySem PySem.Spec L2
mutual
def tupO : PyData → Bool
  | .tuple ds => tupOs ds
  | .str _ => true
  | .int _ => true
  | _ => false
def tupOs : List PyData → Bool
  | [] => true
  | d :: r => tupO d && tupOs r
end
mutual
theorem tupO_d : ∀ t : Tm, tupO t.d = true
  | .mk w n ks => by
    rw [Tm.d]
    have h := tupO_ds ks
    split
    · simp [tupO, tupOs, h]
    · split
      · simp [tupO, tupOs, h]
      · split
        · simp [tupO, tupOs, h]
        · simp [tupO, tupOs]
theorem tupO_ds : ∀ ks : List Tm, tupOs (Tm.ds ks) = true
  | [] => rfl
  | k :: r => by rw [Tm.ds, tupOs, tupO_d k, tupO_ds r]; rfl
end
section
variable {K : PySem.W.Frag} {H : Hp} {ps : List Addr}
theorem sqT_hid (hl : ∀ p ∈ ps, ∃ xs, H p = some (.lst xs)) {a : Addr} {xs : List V} (h : SqT K H a xs) : SqT K (hid ps H) a xs := by
  have ni : ∀ o, H a = some o → (∀ ys, o ≠ .lst ys) → a ∉ ps := fun o e n m => by
    obtain ⟨ys, e2⟩ := hl a m
    rw [e] at e2
    exact n ys (Option.some.inj e2)
  rcases h with (h | ⟨o, h⟩) | h
  · exact .inl (.inl (hid_to (ni _ h (fun ys z => nomatch z)) h))
  · exact .inl (.inr ⟨o, hid_to (ni _ h (fun ys z => nomatch z)) h⟩)
  · exact .inr h
mutual
theorem dp_hid (hl : ∀ p ∈ ps, ∃ xs, H p = some (.lst xs)) : ∀ (d : PyData) (v : V), tupO d = true → Dp K H v d → Dp K (hid ps H) v d
  | .tuple ds, v, t, h => by
    cases h with
    | tup h1 h2 => exact .tup (sqT_hid hl h1) (dps_hid hl ds _ t h2)
  | .str _, v, _, h => by cases h; exact .str _
  | .int _, v, _, h => by cases h; exact .int _
  | .none, v, t, h => by cases t
  | .bool _, v, t, h => by cases t
  | .list _, v, t, h => by cases t
theorem dps_hid (hl : ∀ p ∈ ps, ∃ xs, H p = some (.lst xs)) : ∀ (ds : List PyData) (vs : List V), tupOs ds = true → DpAll K H vs ds → DpAll K (hid ps H) vs ds
  | [], vs, _, h => by cases h; exact .nil
  | d :: r, vs, t, h => by
    cases h with
    | cons h1 h2 =>
      rw [tupOs] at t
      obtain ⟨t1, t2⟩ := Bool.and_eq_true_iff.mp t
      exact .cons (dp_hid hl d _ t1 h1) (dps_hid hl r _ t2 h2)
end
end
theorem len_sizes : ∀ ks : List Tm, ks.length ≤ Tm.sizes ks
  | [] => Nat.le_refl _
  | k :: r => by
    have := len_sizes r
    have := size_pos k
    rw [Tm.sizes, List.length_cons]; omega
theorem catA {K : PySem.W.Frag} {H : Hp} {Q : VK} {a b : Addr} {xs ys : List V} (h1 : SqT K H a xs) (h2 : SqT K H b ys) (hl : xs.length + ys.length ≤ sizeLine) (q : ∀ p H', Same H H' → SqT K H' p (xs ++ ys) → Q (.ref p) H') : rCatA K (.ref a) (.ref b) H Q := by
  refine ⟨a, b, xs, ys, rfl, rfl, h1, h2, hl, fun e => ?_, fun _ e => ?_, fun _ _ p np => ?_⟩
  · subst e
    exact q b H (Same.refl _) h2
  · subst e
    exact q a H (Same.refl _) (by rw [List.append_nil]; exact h1)
  · obtain ⟨H1, s1, h1, e1⟩ := lay (o := .tup (xs ++ ys)) np
    rw [e1]
    exact q p H1 s1 (SqT.of h1)
theorem same_new {H : Hp} {D : Addr} {o : HO} (n : H D = none) : Same H (upd H D o) := fun b u e => by rw [upd_ne (ne_of_none e n)]; exact e
theorem take_at {α : Type} {l : List α} {i : Nat} {x : α} (h : l[i]? = some x) : l.take (i + 1) = l.take i ++ [x] := by
  obtain ⟨hi, rfl⟩ := List.getElem?_eq_some_iff.mp h
  exact List.take_succ_eq_append_getElem hi
end GB
set_option Elab.async false
set_option linter.all false
set_option maxRecDepth 100000
set_option maxHeartbeats 8000000
namespace GB
open PySem PySem.Spec L2
mutual
/-- the paths of all parts, a part ahead of those within it -/
def Tm.paths : Tm → List Nat → List (List Nat)
  | .mk _ _ ks, p => p :: Tm.pathsL ks p 0
def Tm.pathsL : List Tm → List Nat → Nat → List (List Nat)
  | [], _, _ => []
  | k :: r, p, i => k.paths (p ++ [i]) ++ Tm.pathsL r p (i + 1)
end
mutual
theorem paths_len : ∀ (t : Tm) (p : List Nat), (t.paths p).length = t.size
  | .mk _ _ ks, p => by rw [Tm.paths, Tm.size, List.length_cons, pathsL_len ks p 0]
theorem pathsL_len : ∀ (ks : List Tm) (p : List Nat) (i : Nat), (Tm.pathsL ks p i).length = Tm.sizes ks
  | [], _, _ => rfl
  | k :: r, p, i => by rw [Tm.pathsL, Tm.sizes, List.length_append, paths_len k, pathsL_len r]
end
theorem pathsL_app : ∀ (l : List Tm) (k : Tm) (p : List Nat) (i : Nat), Tm.pathsL (l ++ [k]) p i = Tm.pathsL l p i ++ k.paths (p ++ [i + l.length])
  | [], k, p, i => by simp [Tm.pathsL]
  | a :: r, k, p, i => by
    rw [List.cons_append, Tm.pathsL, Tm.pathsL, pathsL_app r k p (i + 1), List.append_assoc, List.length_cons]
    congr 4
    simp only [List.cons.injEq, and_true]
    omega
def pin (p : List Nat) : List V := p.map fun i : Nat => V.int (i : Int)
theorem sizes_app : ∀ a b : List Tm, Tm.sizes (a ++ b) = Tm.sizes a + Tm.sizes b
  | [], b => by rw [List.nil_append, Tm.sizes, Nat.zero_add]
  | k :: r, b => by rw [List.cons_append, Tm.sizes, Tm.sizes, sizes_app r b, Nat.add_assoc]
theorem sizes_take (ks : List Tm) (i : Nat) : Tm.sizes (ks.take i) ≤ Tm.sizes ks := by
  have := sizes_app (ks.take i) (ks.drop i)
  rw [List.take_append_drop] at this
  omega
def pathD (p : List Nat) : PyData := .tuple (p.map fun i : Nat => PyData.int (i : Int))
theorem tupO_path (p : List Nat) : tupO (pathD p) = true := by
  show tupOs (p.map fun i : Nat => PyData.int (i : Int)) = true
  induction p with
  | nil => rfl
  | cons i r ih => rw [List.map_cons, tupOs, ih]; rfl
theorem tupOs_paths (l : List (List Nat)) : tupOs (l.map pathD) = true := by
  induction l with
  | nil => rfl
  | cons p r ih => rw [List.map_cons, tupOs, ih, tupO_path]; rfl
theorem dps_pin {K : PySem.W.Frag} {H : Hp} : ∀ p : List Nat, DpAll K H (pin p) (p.map fun i : Nat => PyData.int (i : Int))
  | [] => .nil
  | i :: r => .cons (.int _) (dps_pin r)
end GB
set_option Elab.async false
set_option linter.all false
set_option maxRecDepth 100000
set_option maxHeartbeats 4000000
namespace GB
open PySem PySem.Spec L2 PyProof.Rows
/-! what is walked is a list or a tuple -/
def iSeqW (K : PySem.W.Frag) (te : TE) : TI := fun σ H R => te σ H fun v H1 => ∃ (a : Addr) (xs : List V) (b : Bool) (ps : List Addr), v = .ref a ∧ SqV K (hid ps H1) a xs b ∧ ∀ (J : It), Walk J xs.length (fun H => SqV K (hid ps H) a xs b) (YAt xs) → R J H1
theorem pi_seqW {X : Cx} {tg l : Expr} {tl : TE} (hl : PE X l tl) : PI X tg l (iSeqW X.K tl) := by
  refine ⟨fun pins s σ H R I h => ?_⟩
  refine thn (hl.run pins s σ H _ I h) fun v s1 ⟨x, H1, I1, r1, q1⟩ => ?_
  obtain ⟨a, xs, kb, ps, e, hh, q⟩ := q1
  subst e
  cases r1
  cases kb with
  | true =>
    have hq := (hid_low ps H1).seq (show SqL X.K (hid ps H1) a xs from hh)
    obtain ⟨its, rv, p, hz⟩ := I1.list hq
    refine wpAny_pyIter_list p.isList ?_
    refine ⟨s1.heap.objs.size, [s1.heap.objs.size], _, _, H1, rfl, I1.kept (t' := s1.toks) fun b o e => Heap.get?_push_of_some _ e, turn_list a _, ⟨_, Heap.get?_push_size _ rfl, rfl, rfl⟩, fun b hb => ?_, q _ (walk_list.mono (fun H' h => (hid_low ps H').seq h) fun _ _ _ _ _ _ y => y)⟩
    have e : b = s1.heap.objs.size := by simpa using hb
    subst e
    exact I1.fpOk (Nat.le_refl _) (I1.hok.fresh (Nat.le_refl _))
  | false =>
    have hq := Same.seqT (hid_low ps H1) (show SqT X.K (hid ps H1) a xs from hh)
    obtain ⟨its, rv, p, hz⟩ := I1.tuple hq
    refine wpAny_pyIter_tuple (show s1.heap.IsTuple a its.toArray from p) ?_
    refine ⟨s1.heap.objs.size, [s1.heap.objs.size], _, _, H1, rfl, I1.kept (t' := s1.toks) fun b o e => Heap.get?_push_of_some _ e, turn_tuple a _, ⟨_, Heap.get?_push_size _ rfl, rfl, rfl⟩, fun b hb => ?_, q _ (walk_tup.mono (fun H' h => Same.seqT (hid_low ps H') h) fun _ _ _ _ _ _ y => y)⟩
    have e : b = s1.heap.objs.size := by simpa using hb
    subst e
    exact I1.fpOk (Nat.le_refl _) (I1.hok.fresh (Nat.le_refl _))
/-! paths -/
def atP : Tm → List V → Option Tm
  | t, [] => some t
  | .mk _ _ ks, .int i :: r => if 0 ≤ i ∧ i < ks.length then (match ks[i.toNat]? with | some k => atP k r | none => none) else none
  | _, _ :: _ => none
theorem atP_app : ∀ (a b : List V) (t : Tm), atP t (a ++ b) = (atP t a).bind fun s => atP s b
  | [], b, t => rfl
  | y :: a, b, .mk w n ks => by
    cases y with
    | int i =>
      rw [List.cons_append]
      simp only [atP]
      split
      · cases ks[i.toNat]? with
        | none => rfl
        | some k => exact atP_app a b k
      · rfl
    | _ => rfl
inductive NumV (K : PySem.W.Frag) (H : Hp) : V → Prop
  | int (i : Int) : NumV K H (.int i)
  | no {y t b1 b2} : (∀ i, y ≠ .int i) → (∀ H', Same H H' → TyX K H' y t) → PySem.W.kitOne K t (.type "int") = some b1 → PySem.W.kitOne K t (.type "bool") = some b2 → (b1 && !b2) = false → NumV K H y
inductive PathX (K : PySem.W.Frag) (H : Hp) : V → Option (List V) → Prop
  | no {x t} : (∀ H', Same H H' → TyX K H' x t) → PySem.W.kitAny K t [.type "list", .type "tuple"] = some false → PathX K H x none
  | seq {p xs} : SqA K H p xs → (∀ y ∈ xs, NumV K H y) → PathX K H (.ref p) (some xs)
def atX (t : Tm) (o : Option (List V)) : Option Tm := o.bind (atP t)
def spInitE (C : Addr) (f : Str) : Sp := fun vs H Q _ => ∃ (a : Addr) (y : V), vs = [.ref a, y] ∧ H a = some (exo a C none) ∧ ∀ d, H d = none → d ≠ a → Q .non (upd (upd H d (exd d [(f, y)])) a (exo a C (some d)))
/-- an error class of the package, n, with one field f -/
structure ErrC (P : Program) (w : World) (K : PySem.W.Frag) (mg : Str → Option Value) (base : Heap) (n f : Str) (C : Addr) : Prop where
  gC : mg n = some (.ref C)
  T : OexC K C
  ini : ∃ (fI : Addr) (fd : FuncData), PySem.W.findIn K (.ref C) "__init__" = some (some (.ref fI)) ∧ PySem.W.typeIn K (.ref fI) = some (.type "function") ∧ FnOk P w K mg base CX0 1 fI fd ["self", f] (spInitE C f) ∧ Binds K fd ["self", f] []
theorem mk_err {C : Addr} {f : Str} {x : V} {H : Hp} {Q : XK} (q : ∀ d H', Same H H' → H' d = some (.xd [(f, x)]) → Q (.ref C) (some d) H') (a : Addr) (na : H a = none) :
    spInitE C f (.ref a :: ([x] ++ [])) (upd H a (exo a C none)) (fun v H2 => v = .non ∧ ∃ (d : Addr) (fs : List (Str × V)), H2 a = some (exo a C (some d)) ∧ H2 d = some (exd d fs) ∧ H d = none ∧ Q (.ref C) (some d) (upd (del H2 a) d (.xd fs))) (fun _ _ _ => False) := by
  refine ⟨a, x, rfl, upd_same, fun d nd ne => ⟨rfl, d, [(f, x)], upd_same, by rw [upd_ne ne]; exact upd_same, ?_, q d _ (fun b o e => ?_) upd_same⟩⟩
  · rw [upd_ne ne] at nd
    exact nd
  · have ba : b ≠ a := ne_of_none e na
    rw [upd_ne ne] at nd
    have bd : b ≠ d := ne_of_none e nd
    rw [upd_ne bd, del_ne ba, upd_ne ba, upd_ne bd, upd_ne ba]
    exact e
theorem NumV.mono {K : PySem.W.Frag} {H H' : Hp} (s : Same H H') {y : V} (h : NumV K H y) : NumV K H' y := by
  cases h with
  | int i => exact .int i
  | no h1 h2 h3 h4 h5 => exact .no h1 (fun H2 s2 => h2 H2 (s.trans s2)) h3 h4 h5
theorem PathX.mono {K : PySem.W.Frag} {H H' : Hp} (s : Same H H') {x : V} {o : Option (List V)} (h : PathX K H x o) : PathX K H' x o := by
  cases h with
  | no h1 h2 => exact .no (fun H2 s2 => h1 H2 (s.trans s2)) h2
  | seq h1 h2 => exact .seq (h1.mono s) fun y hy => (h2 y hy).mono s
end GB
set_option Elab.async false
set_option linter.all false
set_option maxRecDepth 100000
set_option maxHeartbeats 8000000
namespace GB
open PySem L2
theorem not_in_take {l : List Str} {i : Nat} {x : Str} (nd : l.Nodup) (h : l[i]? = some x) : x ∉ l.take i := fun m => by
  obtain ⟨hi, e2⟩ := List.getElem?_eq_some_iff.mp h
  have e : l = l.take i ++ x :: l.drop (i + 1) := by rw [← e2, ← List.drop_eq_getElem_cons hi, List.take_append_drop]
  rw [e] at nd
  exact (List.nodup_append.mp nd).2.2 x m x List.mem_cons_self rfl
end GB
namespace K39
open PySem PySem.Spec L2 GB
abbrev sCkL : Stmt := topS 21
abbrev sCkF : Stmt := topS 22
abbrev sCkC : Stmt := topS 23
abbrev sIsF : Stmt := topS 25
abbrev sTE : Stmt := topS 26
def isfN : List Str := ["letters", "fixed", "thing", "letter", "values", "end", "value"]
def spCkL : Sp := fun vs H Q _ => ∃ (a : Addr) (ls : List (Str × Nat)), vs = [.ref a] ∧ H a = some (.dK (lkv ls)) ∧ ls ≠ [] ∧ (∀ q ∈ ls, nameB q.1 = true ∧ q.2 ≤ 2) ∧ ∀ H', Same H H' → Q .non H'
def spCkF : Sp := fun vs H Q _ => ∃ (a b : Addr) (ls : List (Str × Nat)) (fx : List Str), vs = [.ref a, .ref b] ∧ H a = some (.dK (lkv ls)) ∧ (ls.map (·.1)).Nodup ∧ H b = some (.lst (sts fx)) ∧ fx.Sublist (ls.map (·.1)) ∧ ∀ H', Same H H' → Q .non H'
def spCkC : Sp := fun vs H Q _ => ∃ (a b c : Addr) (ls : List (Str × Nat)) (fx cm : List Str), vs = [.ref a, .ref b, .ref c] ∧ H a = some (.dK (lkv ls)) ∧ (ls.map (·.1)).Nodup ∧ H b = some (.lst (sts fx)) ∧ H c = some (.lst (sts cm)) ∧ fx.Nodup ∧ cm.Sublist fx ∧ (∀ x ∈ cm, (x, 2) ∈ ls) ∧ ∀ H', Same H H' → Q .non H'
def spTE : Sp := fun vs H Q _ => ∃ (e : Addr) (k n : Str), vs = [.ref e] ∧ H e = some (.tup [.str k, .str n]) ∧ (k = "value" ∨ k = "fail") ∧ nameB n = true ∧ ∀ H', Same H H' → Q (.bl true) H'
def spIsF : Sp := fun vs H Q _ => ∃ (a b t : Addr) (ls : List (Str × Nat)) (fx : List Str) (f : Fact), vs = [.ref a, .ref b, .ref t] ∧ H a = some (.dK (lkv ls)) ∧ (ls.map (·.1)).Nodup ∧ H b = some (.lst (sts fx)) ∧ FactAt H f t ∧ f.Ok ls fx ∧ (∀ q ∈ ls, q.2 ≤ 2) ∧ ∀ H', Same H H' → Q (.bl true) H'
section
variable {P : Program} {w : World} {K : PySem.W.Frag} {mg : Str → Option Value} {base : Heap}
theorem scCkL : FnScope ["letters", "key", "many"] ["letters"] (defScope sCkL) := ⟨rfl, rfl, rfl, by decide +kernel, rfl, by decide +kernel, by decide +kernel⟩
theorem scCkF : FnScope ["letters", "fixed", "index", "letter"] ["letters", "fixed"] (defScope sCkF) := ⟨rfl, rfl, rfl, by decide +kernel, rfl, by decide +kernel, by decide +kernel⟩
theorem scCkC : FnScope ["letters", "fixed", "commuting", "index", "letter"] ["letters", "fixed", "commuting"] (defScope sCkC) := ⟨rfl, rfl, rfl, by decide +kernel, rfl, by decide +kernel, by decide +kernel⟩
theorem scTE : FnScope ["thing"] ["thing"] (defScope sTE) := ⟨rfl, rfl, rfl, by decide +kernel, rfl, by decide +kernel, by decide +kernel⟩
theorem scIsF : FnScope isfN ["letters", "fixed", "thing"] (defScope sIsF) := ⟨rfl, rfl, rfl, by decide +kernel, rfl, by decide +kernel, by decide +kernel⟩

theorem len8 {z : Str} (h : nameB z = true) : z.length ≤ sizeLine := by
  unfold nameB at h
  have := (Bool.and_eq_true_iff.mp h).1
  have := of_decide_eq_true this
  rw [sizeLine_eq]; omega
theorem ok_ckL {f : Addr} {fd : FuncData} (F : Fun K "_check_letters" "_check_letters" sCkL f fd) (T : Bl mg) (M : ∃ u, mg "MOST_PARTS" = some u ∧ RelV (.int 2) u) (NM : Fns P w K mg base "is_name" 1 ["thing"] (spIsNm K)) (NU : Fns P w K mg base "is_number" 1 ["thing"] (spIsN K)) :
    FnOk P w K mg base CX0 2 f fd ["letters"] spCkL := by
  obtain ⟨uM, gM, rM⟩ := M
  refine F.ok scCkL (fun vs H Q E h => ?_) (fun cdv A outer s H vs Q E hr h => ?_)
  · obtain ⟨a, ls, rfl, _⟩ := h
    rfl
  · obtain ⟨a, ls, rfl, hL, hne, hok, q⟩ := h
    refine ⟨_, pss_cons (ps_if (PW.pt (pw_or (pt_not (pt_val (pe_callB call_isi (by rfl) T.isi (by decide +kernel) (pa_cons (pv 0) (pa_cons (pe_bltn (v := .ty "dict") (by rfl) T.dict (by decide +kernel) rfl) (pa_nil)))))) (pw_or1 (pt_cmpR op_eq (pe_callB call_lenD (by rfl) T.len PySem.boot_len (pa_cons (pv 0) (pa_nil))) (pe_int) (nomark _))))) (pss_one ps_never) (pss_nil)) (pss_one (ps_lock (ps_for PassesOwn.never rfl (pi_items (pv 0)) (pg_tup rfl (pgs_cons (pg_name (i := 1) scCkL.nd rfl (.inl rfl)) (pgs_cons (pg_name (i := 2) scCkL.nd rfl (.inl rfl)) (pgs_nil)))) (pss_one (ps_if (PW.pt (pw_or (pt_not (pt_val (pe_fn NM hr (by decide) rfl (pa_cons (pv 1) (pa_nil))))) (pw_or (pt_not (pt_val (pe_fn NU hr (by decide) rfl (pa_cons (pv 2) (pa_nil))))) (pw_or1 (pt_not (pt_chain op_le op_le pe_int (pv 2) (pe_glob rfl gM rM))))))) (pss_one ps_never) (pss_nil)))))), ?_⟩
    refine ⟨_, rfl, .ref a, .ty "dict", .type "dict", .type "dict", true, rfl, .ty "dict", .base (.dK hL), kit_ty (by decide +kernel), true, rfl, ?_⟩
    refine iteF ?_
    refine ⟨_, rfl, a, _, rfl, hL, rfl, _, rfl, ?_⟩
    have l0 : (lkv ls).length ≠ 0 := by
      have e : (lkv ls).length = ls.length := List.length_map _
      have := List.length_pos_iff.mpr hne
      omega
    rw [decI, decide_eq_false (by omega)]
    refine iteF ?_
    refine ⟨a, _, hL, trivial, fun od => ?_⟩
    obtain ⟨Hl, hlL, hlo, el⟩ : ∃ Hl, Hl a = some (.frz od (.dK (lkv ls))) ∧ (∀ b, b ≠ a → Hl b = H b) ∧ upd H a (.frz od (.dK (lkv ls))) = Hl := ⟨_, upd_same, fun b hb => upd_ne hb, rfl⟩
    rw [el]
    refine ⟨_, rfl, a, od, _, rfl, hlL, ?_⟩
    refine for_it walk_items (fun i σ H' => ∃ o1 o2, σ = [some (.ref a), o1, o2] ∧ Same Hl H') ⟨none, none, rfl, Same.refl _⟩ (fun i σ H' _ ⟨o1, o2, _, s'⟩ => s' _ _ hlL) ?_ ?_
    · rintro i x σ H1 H1' hi ⟨o1, o2, rfl, s1⟩ ⟨Tp, y1, y2, rfl, nT, rfl, e1, e2⟩
      obtain ⟨⟨sx, m⟩, hq, ex1, ex2⟩ : ∃ q, ls[i]? = some q ∧ y1 = .str q.1 ∧ y2 = .int (q.2 : Int) := by
        have e1 : (lkv ls)[i]?.map (fun kv => kV kv.1) = some y1 := e1
        have e2 : (lkv ls)[i]?.map Prod.snd = some y2 := e2
        unfold lkv at e1 e2
        rw [List.getElem?_map] at e1 e2
        cases e : ls[i]? with
        | none => rw [e] at e1; cases e1
        | some q => rw [e] at e1 e2; exact ⟨q, rfl, (Option.some.inj e1).symm, (Option.some.inj e2).symm⟩
      subst ex1 ex2
      obtain ⟨hn, hm⟩ := hok _ (List.mem_of_getElem? hq)
      obtain ⟨H2, s2, h2, e2'⟩ := lay (o := .tup [.str sx, .int (m : Int)]) nT
      rw [e2']
      refine ⟨Tp, _, rfl, SqT.of h2, rfl, _, _, rfl, _, _, rfl, rfl, ?_⟩
      refine ⟨_, rfl, _, rfl, .inl ⟨sx, rfl, len8 hn, fun H3 s3 => ⟨true, by rw [hn], ?_⟩⟩⟩
      refine iteF ?_
      refine ⟨_, rfl, .int (m : Int), .type "int", true, false, rfl, .base (.int _), kit_ty (by decide +kernel), kit_ty (by decide +kernel), true, rfl, ?_⟩
      refine iteF ?_
      refine ⟨_, rfl, _, _, rfl, rfl, _, rfl, ?_⟩
      rw [decide_eq_true (by omega : (0 : Int) ≤ (m : Int))]
      refine iteT ?_
      refine ⟨_, _, rfl, rfl, _, rfl, ?_⟩
      rw [decide_eq_true (by show (m : Int) ≤ 2; have : m ≤ 2 := hm; omega)]
      refine iteF ?_
      exact ⟨_, _, rfl, (s1.trans s2).trans s3⟩
    · rintro σ H1 ⟨o1, o2, rfl, s1⟩
      refine ⟨s1 _ _ hlL, q _ fun b o e => ?_⟩
      by_cases hb : b = a
      · subst hb; rw [upd_same, ← e, hL]
      · rw [upd_ne hb]; exact s1 _ _ ((hlo b hb).trans e)
theorem ok_ckF {f : Addr} {fd : FuncData} (F : Fun K "_check_fixed" "_check_fixed" sCkF f fd) (T : Bl mg) (IL : Fns P w K mg base "is_list" 1 ["thing"] (spIsL K)) : FnOk P w K mg base CX0 2 f fd ["letters", "fixed"] spCkF := by
  refine F.ok scCkF (fun vs H Q E h => ?_) (fun cdv A outer s H vs Q E hr h => ?_)
  · obtain ⟨a, b, ls, fx, rfl, _⟩ := h
    rfl
  · obtain ⟨a, b, ls, fx, rfl, hL, lnd, hF, sub, q⟩ := h
    have hu := hu_of hr
    refine ⟨_, pss_cons (ps_if (pt_not (pt_val (pe_fn IL hr (by decide) rfl (pa_cons (pv 1) (pa_nil))))) (pss_one ps_never) (pss_nil)) (pss_one (ps_for PassesOwn.never rfl (pi_enumW rfl T.enum (pa_cons (pv 1) (pa_nil))) (pg_tup rfl (pgs_cons (pg_name (i := 2) scCkF.nd rfl (.inl rfl)) (pgs_cons (pg_name (i := 3) scCkF.nd rfl (.inl rfl)) (pgs_nil)))) (pss_one (ps_if (PW.pt (pw_or (pt_not (pt_val (pe_callB call_isi (by rfl) T.isi (by decide +kernel) (pa_cons (pv 3) (pa_cons (pe_bltn (v := .ty "str") (by rfl) T.str (by decide +kernel) rfl) (pa_nil)))))) (pw_or (pt_cmp (pc_dnotin hu (pv 3) (pv 0))) (pw_or1 (pt_cmpR op_in_seq (pv 3) (pe_slice sl_list (pv 1) po_none (po_some (pv 2))) (by rfl)))))) (pss_one ps_never) (pss_nil))))), ?_⟩
    obtain ⟨ty, ht, hty⟩ := tyS (K := K) (.inl (SqL.of hF) : SqA K H b (sts fx))
    refine ⟨_, rfl, .ref b, _, true, rfl, hty, kit_seq ht, fun H1 s1 => ⟨_, rfl, ?_⟩⟩
    refine iteF ?_
    refine ⟨_, rfl, b, sts fx, true, [], rfl, SqL.of (hid_to (by simp) (s1 _ _ hF)), fun J WJ => ?_⟩
    refine for_it WJ (fun i σ H' => ∃ o1 o2, σ = [some (.ref a), some (.ref b), o1, o2] ∧ Same H H') ⟨none, none, rfl, s1⟩ (fun i σ H' _ ⟨o1, o2, _, s'⟩ => SqL.of (hid_to (by simp) (s' _ _ hF))) ?_ ?_
    · rintro i x σ H2 H2' hi ⟨o1, o2, rfl, s2⟩ ⟨Tp, y1, y2, rfl, nT, rfl, e1, e2⟩
      obtain rfl := Option.some.inj e1
      obtain ⟨sx, hsx, rfl⟩ := sts_at e2
      obtain ⟨H3, s3, h3, e3⟩ := lay (o := .tup [.int (i : Nat), .str sx]) nT
      rw [e3]
      have S3 := s2.trans s3
      have mfx := List.mem_of_getElem? hsx
      obtain ⟨q1, hq1, eq1⟩ := List.mem_map.mp (sub.subset mfx)
      refine ⟨Tp, _, rfl, SqT.of h3, rfl, _, _, rfl, _, _, rfl, rfl, ?_⟩
      refine ⟨_, rfl, .str sx, .ty "str", .type "str", .type "str", true, rfl, .ty "str", .base (.str sx), kit_ty (by decide +kernel), true, rfl, ?_⟩
      refine iteF ?_
      have hv : valV (lkv ls) (.inr sx : Key) = some (.int (q1.2 : Int)) := valV_lkv lnd (by rw [← eq1]; exact hq1)
      refine ⟨_, rfl, _, rfl, a, some (.int (q1.2 : Int)), rfl, (by rw [← hv]; exact DGet.k (k := .inr sx) (S3 _ _ hL)), _, rfl, ?_⟩
      refine iteF ?_
      refine ⟨_, rfl, _, rfl, _, rfl, _, rfl, b, sts fx, rfl, SqL.of (S3 _ _ hF), fun p np => ?_⟩
      have hil : i < fx.length := (List.getElem?_eq_some_iff.mp hsx).1
      have ec : cutV (sts fx) none (some ((i : Nat) : Int)) = sts (fx.take i) := by rw [cut_to _ _ (by rw [sts_len]; omega)]; unfold sts; rw [List.map_take]
      obtain ⟨H4, s4, h4, e4⟩ := lay (o := .lst (sts (fx.take i))) np
      rw [ec, e4]
      refine ⟨p, sts (fx.take i), rfl, .inl (SqL.of h4), rfl, flat_sts _, _, rfl, ?_⟩
      rw [show (if false = true then !inV (.str sx) (sts (fx.take i)) else inV (.str sx) (sts (fx.take i))) = false from (inV_sts _ _).trans (decide_eq_false (not_in_take (sub.nodup lnd) hsx))]
      refine iteF ?_
      exact ⟨_, _, rfl, S3.trans s4⟩
    · rintro σ H2 ⟨o1, o2, rfl, s2⟩
      exact q _ s2
theorem ok_ckC {f : Addr} {fd : FuncData} (F : Fun K "_check_commuting" "_check_commuting" sCkC f fd) (T : Bl mg) (IL : Fns P w K mg base "is_list" 1 ["thing"] (spIsL K)) : FnOk P w K mg base CX0 2 f fd ["letters", "fixed", "commuting"] spCkC := by
  refine F.ok scCkC (fun vs H Q E h => ?_) (fun cdv A outer s H vs Q E hr h => ?_)
  · obtain ⟨a, b, c, ls, fx, cm, rfl, _⟩ := h
    rfl
  · obtain ⟨a, b, c, ls, fx, cm, rfl, hL, lnd, hF, hC, fnd, sub, c2, q⟩ := h
    have hu := hu_of hr
    refine ⟨_, pss_cons (ps_if (pt_not (pt_val (pe_fn IL hr (by decide) rfl (pa_cons (pv 2) (pa_nil))))) (pss_one ps_never) (pss_nil)) (pss_one (ps_for PassesOwn.never rfl (pi_enumW rfl T.enum (pa_cons (pv 2) (pa_nil))) (pg_tup rfl (pgs_cons (pg_name (i := 3) scCkC.nd rfl (.inl rfl)) (pgs_cons (pg_name (i := 4) scCkC.nd rfl (.inl rfl)) (pgs_nil)))) (pss_one (ps_if (PW.pt (pw_or (pt_cmpR op_notIn_seq (pv 4) (pv 1) (by rfl)) (pw_or (pt_cmpR op_ne (pe_dget hu (pv 0) (pv 4) (fun _ _ => rfl)) (pe_int) (nomark _)) (pw_or1 (pt_cmpR op_in_seq (pv 4) (pe_slice sl_list (pv 2) po_none (po_some (pv 3))) (by rfl)))))) (pss_one ps_never) (pss_nil))))), ?_⟩
    obtain ⟨ty, ht, hty⟩ := tyS (K := K) (.inl (SqL.of hC) : SqA K H c (sts cm))
    refine ⟨_, rfl, .ref c, _, true, rfl, hty, kit_seq ht, fun H1 s1 => ⟨_, rfl, ?_⟩⟩
    refine iteF ?_
    refine ⟨_, rfl, c, sts cm, true, [], rfl, SqL.of (hid_to (by simp) (s1 _ _ hC)), fun J WJ => ?_⟩
    refine for_it WJ (fun i σ H' => ∃ o1 o2, σ = [some (.ref a), some (.ref b), some (.ref c), o1, o2] ∧ Same H H') ⟨none, none, rfl, s1⟩ (fun i σ H' _ ⟨o1, o2, _, s'⟩ => SqL.of (hid_to (by simp) (s' _ _ hC))) ?_ ?_
    · rintro i x σ H2 H2' hi ⟨o1, o2, rfl, s2⟩ ⟨Tp, y1, y2, rfl, nT, rfl, e1, e2⟩
      obtain rfl := Option.some.inj e1
      obtain ⟨sx, hsx, rfl⟩ := sts_at e2
      obtain ⟨H3, s3, h3, e3⟩ := lay (o := .tup [.int (i : Nat), .str sx]) nT
      rw [e3]
      have S3 := s2.trans s3
      have mcm := List.mem_of_getElem? hsx
      refine ⟨Tp, _, rfl, SqT.of h3, rfl, _, _, rfl, _, _, rfl, rfl, ?_⟩
      refine ⟨_, rfl, _, rfl, b, sts fx, rfl, .inl (SqL.of (S3 _ _ hF)), rfl, flat_sts _, _, rfl, ?_⟩
      rw [show (if true = true then !inV (.str sx) (sts fx) else inV (.str sx) (sts fx)) = false from by rw [if_pos rfl, inV_sts, decide_eq_true (sub.subset mcm)]; rfl]
      refine iteF ?_
      have hv : valV (lkv ls) (.inr sx : Key) = some (.int ((2 : Nat) : Int)) := valV_lkv lnd (c2 _ mcm)
      refine ⟨_, rfl, _, rfl, a, .int ((2 : Nat) : Int), rfl, (by rw [← hv]; exact DGet.k (k := .inr sx) (S3 _ _ hL)), rfl, _, rfl, ?_⟩
      refine iteNS rfl ?_
      refine ⟨_, rfl, _, rfl, _, rfl, _, rfl, c, sts cm, rfl, SqL.of (S3 _ _ hC), fun p np => ?_⟩
      have hil : i < cm.length := (List.getElem?_eq_some_iff.mp hsx).1
      have ec : cutV (sts cm) none (some ((i : Nat) : Int)) = sts (cm.take i) := by rw [cut_to _ _ (by rw [sts_len]; omega)]; unfold sts; rw [List.map_take]
      obtain ⟨H4, s4, h4, e4⟩ := lay (o := .lst (sts (cm.take i))) np
      rw [ec, e4]
      refine ⟨p, sts (cm.take i), rfl, .inl (SqL.of h4), rfl, flat_sts _, _, rfl, ?_⟩
      rw [show (if false = true then !inV (.str sx) (sts (cm.take i)) else inV (.str sx) (sts (cm.take i))) = false from (inV_sts _ _).trans (decide_eq_false (not_in_take (sub.nodup fnd) hsx))]
      refine iteF ?_
      exact ⟨_, _, rfl, S3.trans s4⟩
    · rintro σ H2 ⟨o1, o2, rfl, s2⟩
      exact q _ s2
theorem ok_te {f : Addr} {fd : FuncData} (F : Fun K "_is_told_end" "_is_told_end" sTE f fd) (T : Bl mg) (IL : Fns P w K mg base "is_list" 1 ["thing"] (spIsL K)) (NM : Fns P w K mg base "is_name" 1 ["thing"] (spIsNm K)) : FnOk P w K mg base CX0 2 f fd ["thing"] spTE := by
  refine F.ok scTE (fun vs H Q E h => ?_) (fun cdv A outer s H vs Q E hr h => ?_)
  · obtain ⟨e, k, n, rfl, _⟩ := h
    rfl
  · obtain ⟨e, k, n, rfl, he, hk, hn, q⟩ := h
    refine ⟨_, pss_cons (ps_if (PW.pt (pw_or (pt_not (pt_val (pe_fn IL hr (by decide) rfl (pa_cons (pv 0) (pa_nil))))) (pw_or1 (pt_cmpR op_ne (pe_callB call_len_seq (by rfl) T.len PySem.boot_len (pa_cons (pv 0) (pa_nil))) (pe_int) (nomark _))))) (pss_one (ps_ret pe_bl)) (pss_nil)) (pss_one (ps_ret (pe_and (pe_cmpR op_in_seq (pe_ix ix_tup (pv 0) (pe_int) (fun _ _ => rfl)) (pe_tup (pa_cons (pe_str) (pa_cons (pe_str) (pa_nil)))) (by rfl)) (pe_one (pe_fn NM hr (by decide) rfl (pa_cons (pe_ix ix_tup (pv 0) (pe_int) (fun _ _ => rfl)) (pa_nil))))))), ?_⟩
    obtain ⟨ty, ht, hty⟩ := tyS (K := K) (.inr (SqT.of he) : SqA K H e [.str k, .str n])
    refine ⟨_, rfl, .ref e, _, true, rfl, hty, kit_seq ht, fun H1 s1 => ⟨_, rfl, ?_⟩⟩
    refine iteF ?_
    refine ⟨_, rfl, e, _, rfl, .inr (SqT.of (s1 _ _ he)), rfl, _, rfl, ?_⟩
    refine iteF ?_
    refine ⟨_, rfl, e, _, ((0 : Nat) : Int), _, rfl, rfl, SqT.of (s1 _ _ he), atI_nat (j := 0) rfl, by show 2 ≤ sizeLine; decide, fun t nt => ?_⟩
    obtain ⟨H2, s2, h2, e2⟩ := lay (o := .tup (sts ["value", "fail"])) nt
    rw [show ([V.str "value", V.str "fail"] : List V) = sts ["value", "fail"] from rfl, e2]
    refine ⟨t, sts ["value", "fail"], rfl, .inr (SqT.of h2), rfl, flat_sts _, true, ?_, ?_⟩
    · rw [show (if false = true then !inV (.str k) (sts ["value", "fail"]) else inV (.str k) (sts ["value", "fail"])) = true from (inV_sts _ _).trans (decide_eq_true (by rcases hk with rfl | rfl <;> decide))]
    · refine iteT ?_
      refine ⟨_, rfl, e, _, ((1 : Nat) : Int), _, rfl, rfl, SqT.of (s2 _ _ (s1 _ _ he)), atI_nat (j := 1) rfl, _, rfl, .inl ⟨n, rfl, len8 hn, fun H3 s3 => ?_⟩⟩
      rw [hn]
      exact q _ ((s1.trans s2).trans s3)
end
end K39
set_option Elab.async false
set_option linter.all false
set_option maxRecDepth 100000
set_option maxHeartbeats 8000000
namespace GB
open PySem PySem.Spec L2
def txk (l : List Str) : List NestedKey := l.map NestedKey.text
def nkO (a : Str × List Str) : NestedKey := .tup [.text a.1, .tup (txk a.2)]
theorem txk_inj : ∀ {l m : List Str}, txk l = txk m → l = m
  | [], [], _ => rfl
  | [], _ :: _, h => by cases h
  | _ :: _, [], h => by cases h
  | x :: l, y :: m, h => by
    have h1 : NestedKey.text x = .text y ∧ txk l = txk m := List.cons.inj h
    obtain rfl := NestedKey.text.inj h1.1
    rw [txk_inj h1.2]
theorem nkO_inj {a b : Str × List Str} (h : nkO a = nkO b) : a = b := by
  obtain ⟨x, l⟩ := a
  obtain ⟨y, m⟩ := b
  have h1 := List.cons.inj (NestedKey.tup.inj h)
  obtain rfl := NestedKey.text.inj h1.1
  have h2 := (List.cons.inj h1.2).1
  obtain rfl : l = m := txk_inj (NestedKey.tup.inj h2)
  rfl
theorem txk_depth : ∀ l : List Str, NestedKey.depthAll (txk l) = 0
  | [] => by simp [txk, NestedKey.depthAll]
  | x :: l => by
    have := txk_depth l
    unfold txk at this ⊢
    rw [List.map_cons, NestedKey.depthAll, this, NestedKey.depth]
    rfl
theorem nkO_depth (a : Str × List Str) : (nkO a).depth ≤ 8 := by
  unfold nkO
  rw [NestedKey.depth, NestedKey.depthAll, NestedKey.depthAll, NestedKey.depthAll, NestedKey.depth, NestedKey.depth, txk_depth]
  decide
theorem nk_txk {H : Hp} : ∀ l : List Str, NkAll H (txk l) (sts l)
  | [] => .nil
  | x :: l => .cons (.text x) (nk_txk l)
mutual
theorem NkV.mono {H H' : Hp} (s : Same H H') : ∀ (k : NestedKey) (v : V), NkV H k v → NkV H' k v
  | .text _, _, h => by cases h; exact .text _
  | .tup ks, _, h => by
    cases h with
    | tup ha hx => exact .tup (s _ _ ha) (NkAll.mono s ks _ hx)
  | .none, _, h => nomatch h
  | .num _, _, h => nomatch h
theorem NkAll.mono {H H' : Hp} (s : Same H H') : ∀ (ks : List NestedKey) (vs : List V), NkAll H ks vs → NkAll H' ks vs
  | [], _, h => by cases h; exact .nil
  | k :: ks, _, h => by
    cases h with
    | cons h1 h2 => exact .cons (NkV.mono s k _ h1) (NkAll.mono s ks _ h2)
end
theorem NdKeys.mono {H H' : Hp} (s : Same H H') {xs : NX} (h : NdKeys H xs) : NdKeys H' xs := fun e he => ⟨NkV.mono s _ _ (h e he).1, (h e he).2⟩
theorem paired_at' {α β : Type} {R : α → β → Prop} : ∀ {l : List α} {m : List β} {j : Nat} {c : α}, Paired R l m → l[j]? = some c → ∃ x, m[j]? = some x ∧ R c x
  | _, _, j, c, .nil, e => by simp at e
  | _, _, 0, c, .cons r _, e => by
    obtain rfl : _ = c := by simpa using e
    exact ⟨_, rfl, r⟩
  | _, _, j + 1, c, .cons _ t, e => paired_at' (j := j) t (by simpa using e)
theorem atKey_none {xs : NX} {k : NestedKey} (h : k ∉ xs.map (·.1)) : atKey xs k = none := by
  unfold atKey
  rw [Option.map_eq_none_iff, List.find?_eq_none]
  intro x hx e
  exact h (List.mem_map.mpr ⟨x, hx, of_decide_eq_true e⟩)
theorem not_in_take_map {α β : Type} {f : α → β} {l : List α} {i : Nat} {x y : α} (nd : (l.map f).Nodup) (h : l[i]? = some x) (hy : y ∈ l.take i) (e : f y = f x) : False := by
  obtain ⟨hi, e2⟩ := List.getElem?_eq_some_iff.mp h
  have el : l = l.take i ++ x :: l.drop (i + 1) := by rw [← e2, ← List.drop_eq_getElem_cons hi, List.take_append_drop]
  rw [el, List.map_append, List.map_cons] at nd
  exact (List.nodup_append.mp nd).2.2 (f y) (List.mem_map.mpr ⟨y, hy, rfl⟩) (f x) List.mem_cons_self e
/-- tuple(sorted(values) if .. else values) -/
def tAsk : TE := fun σ H Q => ∃ (x : Str) (v c : Addr) (vals cm : List Str), σ[7]? = some (some (.str x)) ∧ σ[2]? = some (some (.ref c)) ∧ σ[8]? = some (some (.ref v)) ∧ H c = some (.lst (sts cm)) ∧ H v = some (.tup (sts vals)) ∧ vals.length ≤ 2 ∧ (∀ x ∈ vals, x ∈ va3) ∧
  ∀ kv H6, Same H H6 → H6 kv = some (.tup (sts (if x ∈ cm then sort2 vals else vals))) → Q (.ref kv) H6
theorem pe_weak {X : Cx} {e : Expr} {t t' : TE} (h : PE X e t) (w : ∀ σ H Q, t' σ H Q → t σ H Q) : PE X e t' := ⟨fun pins s σ H Q I q => h.run pins s σ H Q I (w σ H Q q)⟩
theorem ask_weak {K : PySem.W.Frag} (σ : L2.St) (H : Hp) (Q : VK) (h : tAsk σ H Q) : tCB (fun xs H_1 Q => ∃ p ys, xs = [V.ref p] ∧ ((SqL K H_1 p ys ∧ ∀ l, H_1 l = none → Q (.ref l) (upd H_1 l (.tup ys))) ∨ (SqT K H_1 p ys ∧ Q (.ref p) H_1)))
    (tCons (tIf (tTest (tOp (rIn K false) (tVar 7) (tVar 2))) (tCB (rSortedTS K) (tCons (tVar 8) tNil)) (tVar 8)) tNil) σ H Q := by
  obtain ⟨x, v, c, vals, cm, h7, h2, h8, hc, hv, l2, v3, q⟩ := h
  refine ⟨_, h7, _, h2, c, sts cm, rfl, .inl (SqL.of hc), rfl, flat_sts _, _, rfl, ?_⟩
  rw [show (if false = true then !inV (.str x) (sts cm) else inV (.str x) (sts cm)) = decide (x ∈ cm) from inV_sts _ _]
  by_cases m : x ∈ cm
  · rw [decide_eq_true m]
    refine iteT ?_
    refine ⟨_, h8, v, vals, rfl, SqT.of hv, by omega, fun ys p hperm hsrt np => ?_⟩
    obtain ⟨H1, s1, h1, e1⟩ := lay (o := .lst (sts ys)) np
    rw [e1]
    refine ⟨p, sts ys, rfl, .inl ⟨SqL.of h1, fun l nl => ?_⟩⟩
    obtain ⟨H2, s2, h2, e2⟩ := lay (o := .tup (sts ys)) nl
    rw [e2]
    exact q l H2 (s1.trans s2) (by rw [if_pos m, ← sort2_of hperm hsrt l2 v3]; exact h2)
  · rw [decide_eq_false m]
    refine iteF ?_
    exact ⟨_, h8, v, sts vals, rfl, .inr ⟨SqT.of hv, q v H (Same.refl _) (by rw [if_neg m]; exact hv)⟩⟩
end GB
namespace K39
open PySem PySem.Spec L2 GB
abbrev sFT : Stmt := topS 24
def ftN : List Str := ["letters", "fixed", "commuting", "facts", "told", "index", "thing", "letter", "values", "end", "asked"]
def spFT : Sp := fun vs H Q _ => ∃ (a b c d : Addr) (g : GD), vs = [.ref a, .ref b, .ref c, .ref d] ∧ H a = some (.dK (lkv g.letters)) ∧ H b = some (.lst (sts g.fixed)) ∧ H c = some (.lst (sts g.comm)) ∧ FactsAt H d g.facts ∧ g.Wf ∧
  ∀ l H', H l = none → Same H H' → FactsAt H' l g.facts → Q (.ref l) H'
section
variable {P : Program} {w : World} {K : PySem.W.Frag} {mg : Str → Option Value} {base : Heap}
theorem scFT : FnScope ftN ["letters", "fixed", "commuting", "facts"] (defScope sFT) := ⟨rfl, rfl, rfl, by decide +kernel, rfl, by decide +kernel, by decide +kernel⟩

theorem ok_isF {f : Addr} {fd : FuncData} (F : Fun K "_is_fact" "_is_fact" sIsF f fd) (T : Bl mg) (IL : Fns P w K mg base "is_list" 1 ["thing"] (spIsL K)) (NM : Fns P w K mg base "is_name" 1 ["thing"] (spIsNm K)) (TE : Fns P w K mg base "_is_told_end" 2 ["thing"] spTE) :
    FnOk P w K mg base CX0 3 f fd ["letters", "fixed", "thing"] spIsF := by
  refine F.ok scIsF (fun vs H Q E h => ?_) (fun cdv A outer s H vs Q E hr h => ?_)
  · obtain ⟨a, b, t, ls, fx, fa, rfl, _⟩ := h
    rfl
  · obtain ⟨a, b, t, ls, fx, fa, rfl, hL, lnd, hF, hA, ok, har, q⟩ := h
    have hu := hu_of hr
    refine ⟨_, pss_cons (ps_if (PW.pt (pw_or (pt_not (pt_val (pe_fn IL hr (by decide) rfl (pa_cons (pv 2) (pa_nil))))) (pw_or1 (pt_cmpR op_ne (pe_callB call_len_seq (by rfl) T.len PySem.boot_len (pa_cons (pv 2) (pa_nil))) (pe_int) (nomark _))))) (pss_one (ps_ret pe_bl)) (pss_nil)) (pss_cons (ps_asg (pv 2) (pg_tup rfl (pgs_cons (pg_name (i := 3) scIsF.nd rfl (.inl rfl)) (pgs_cons (pg_name (i := 4) scIsF.nd rfl (.inl rfl)) (pgs_cons (pg_name (i := 5) scIsF.nd rfl (.inl rfl)) (pgs_nil)))))) (pss_cons (ps_if (PW.pt (pw_or (pt_cmpR op_notIn_seq (pv 3) (pv 1) (by rfl)) (pw_or (pt_not (pt_val (pe_fn IL hr (by decide) rfl (pa_cons (pv 4) (pa_nil))))) (pw_or1 (pt_cmpR op_ne (pe_callB call_len_seq (by rfl) T.len PySem.boot_len (pa_cons (pv 4) (pa_nil))) (pe_dget hu (pv 0) (pv 3) (fun _ _ => rfl)) (nomark _)))))) (pss_one (ps_ret pe_bl)) (pss_nil)) (pss_one (ps_ret (pe_and (pe_callB (cr_all rfl) (by rfl) T.all (by decide +kernel) (pa_cons (pe_lc (own := [("value", 6)]) (g := gName 6) (tt := tYes) rfl scIsF.nd (pi_seqW (pv 4)) (blkOk_by (own := [("value", 6)]) (N := isfN) (sc := defScope sIsF) (by decide +kernel)) (fun _ _ _ _ _ => pg_name (i := 6) scIsF.nd rfl (.inl rfl)) (fun _ _ _ _ _ => pts_nil) (fun _ _ _ _ _ => pe_fn NM hr (by decide) rfl (pa_cons (pv 6) (pa_nil)))) (pa_nil))) (pe_one (pe_fn TE hr (by decide) rfl (pa_cons (pv 5) (pa_nil))))))))), ?_⟩
    obtain ⟨v, e, ht, hv, he⟩ := hA.ex
    obtain ⟨k, hk, hvl⟩ := ok.len
    obtain ⟨ty, hty0, hty⟩ := tyS (K := K) (.inr (SqT.of ht) : SqA K H t [.str fa.x, .ref v, .ref e])
    refine ⟨_, rfl, .ref t, _, true, rfl, hty, kit_seq hty0, fun H1 s1 => ⟨_, rfl, ?_⟩⟩
    refine iteF ?_
    refine ⟨_, rfl, t, _, rfl, .inr (SqT.of (s1 _ _ ht)), rfl, _, rfl, ?_⟩
    refine iteF ?_
    refine ⟨_, rfl, t, _, rfl, SqT.of (s1 _ _ ht), rfl, _, _, rfl, _, _, rfl, _, _, rfl, rfl, ?_⟩
    refine ⟨_, rfl, _, rfl, b, sts fx, rfl, .inl (SqL.of (s1 _ _ hF)), rfl, flat_sts _, _, rfl, ?_⟩
    rw [show (if true = true then !inV (.str fa.x) (sts fx) else inV (.str fa.x) (sts fx)) = false from by rw [if_pos rfl, inV_sts, decide_eq_true ok.x]; rfl]
    refine iteF ?_
    obtain ⟨ty2, hty2, hty3⟩ := tyS (K := K) (.inr (SqT.of (s1 _ _ hv)) : SqA K H1 v (sts fa.vals))
    refine ⟨_, rfl, .ref v, _, true, rfl, hty3, kit_seq hty2, fun H2 s2 => ⟨_, rfl, ?_⟩⟩
    refine iteF ?_
    have S2 := s1.trans s2
    have hvv : valV (lkv ls) (.inr fa.x : Key) = some (.int (k : Int)) := valV_lkv lnd hk
    refine ⟨_, rfl, v, sts fa.vals, rfl, .inr (SqT.of (S2 _ _ hv)), _, rfl, _, rfl, a, .int (k : Int), rfl, (by rw [← hvv]; exact DGet.k (k := .inr fa.x) (S2 _ _ hL)), rfl, _, rfl, ?_⟩
    rw [show (!decide (V.int ((sts fa.vals).length : Int) = V.int (k : Int))) = false from by rw [sts_len, hvl, decide_eq_true rfl]; rfl]
    refine iteF ?_
    refine ⟨_, rfl, v, sts fa.vals, false, [], rfl, SqT.of (hid_to (by simp) (S2 _ _ hv)), fun J WJ D nD => ?_⟩
    refine lc_it WJ (fun i H' => Same H2 H' ∧ H' D = some (.lst ((List.replicate i true).map V.bl))) ⟨same_new nD, upd_same⟩ (fun i H' _ ⟨s', _⟩ => SqT.of (hid_to (by simp) (s' _ _ (S2 _ _ hv)))) ?_ ?_
    · rintro i x H3 H3' hi ⟨s3, h3⟩ ⟨rfl, hx⟩
      obtain ⟨sx, hsx, rfl⟩ := sts_at hx
      have nB : nameB sx = true := (show ∀ x ∈ va3, nameB x = true by decide +kernel) _ (ok.vals _ (List.mem_of_getElem? hsx))
      have hil : i < fa.vals.length := (List.getElem?_eq_some_iff.mp hsx).1
      have kl : k ≤ 2 := har _ hk
      refine ⟨rfl, ?_⟩
      refine ⟨_, rfl, _, rfl, .inl ⟨sx, rfl, len8 nB, fun H4 s4 => ?_⟩⟩
      refine ⟨_, s4 _ _ h3, by rw [List.length_map, List.length_replicate, sizeLine_eq]; omega, fun b o e => ?_, ?_⟩
      · rw [upd_ne (ne_of_none e nD)]; exact s4 _ _ (s3 _ _ e)
      · rw [upd_same, nB, List.replicate_succ', List.map_append]; rfl
    · rintro H3 ⟨s3, h3⟩
      refine ⟨D, _, rfl, SqL.of h3, true, ?_, ?_⟩
      · rw [List.all_replicate]; simp
      · refine iteT ?_
        exact ⟨_, rfl, e, fa.kind, fa.en, rfl, (S2.trans s3) _ _ he, ok.kind, by rcases ok.en with h | h <;> rw [h] <;> decide +kernel, fun H4 s4 => q _ ((S2.trans s3).trans s4)⟩
theorem ok_ft {f : Addr} {fd : FuncData} (F : Fun K "_facts_as_told" "_facts_as_told" sFT f fd) (T : Bl mg) (IL : Fns P w K mg base "is_list" 1 ["thing"] (spIsL K)) (ISF : Fns P w K mg base "_is_fact" 3 ["letters", "fixed", "thing"] spIsF) :
    FnOk P w K mg base CX0 4 f fd ["letters", "fixed", "commuting", "facts"] spFT := by
  refine F.ok scFT (fun vs H Q E h => ?_) (fun cdv A outer s H vs Q E hr h => ?_)
  · obtain ⟨a, b, c, d, g, rfl, _⟩ := h
    rfl
  · obtain ⟨a, b, c, d, g, rfl, hL, hF, hC, ⟨ts, hd, hts⟩, wf, q⟩ := h
    have hu9 : (A.deeper (PyProof.Rows.envOfC "_facts_as_told" (defScope sFT) s.heap.objs.size f cdv)).units + 9 < cLine := by have := hr.un; omega
    refine ⟨_, pss_cons (ps_if (pt_not (pt_val (pe_fn IL hr (by decide) rfl (pa_cons (pv 3) (pa_nil))))) (pss_one ps_never) (pss_nil)) (pss_cons (ps_set (i := 4) scFT.nd rfl (.inl rfl) (pe_dnewN)) (pss_cons (ps_for PassesOwn.never rfl (pi_enumW rfl T.enum (pa_cons (pv 3) (pa_nil))) (pg_tup rfl (pgs_cons (pg_name (i := 5) scFT.nd rfl (.inl rfl)) (pgs_cons (pg_name (i := 6) scFT.nd rfl (.inl rfl)) (pgs_nil)))) (pss_cons (ps_if (pt_not (pt_val (pe_fn ISF hr (by decide) rfl (pa_cons (pv 0) (pa_cons (pv 1) (pa_cons (pv 6) (pa_nil))))))) (pss_one ps_never) (pss_nil)) (pss_cons (ps_asg (pv 6) (pg_tup rfl (pgs_cons (pg_name (i := 7) scFT.nd rfl (.inl rfl)) (pgs_cons (pg_name (i := 8) scFT.nd rfl (.inl rfl)) (pgs_cons (pg_name (i := 9) scFT.nd rfl (.inl rfl)) (pgs_nil)))))) (pss_cons (ps_set (i := 10) scFT.nd rfl (.inl rfl) (pe_tup (pa_cons (pv 7) (pa_cons (pe_weak (t' := tAsk) (pe_callTy (call_tuple_of) (by rfl) T.tuple (by decide +kernel) (pa_cons (pe_ifExp (pt_cmpR op_in_seq (pv 7) (pv 2) (by rfl)) (pe_callB (cr_sortedTS) (by rfl) T.sorted (by decide +kernel) (pa_cons (pv 8) (pa_nil))) (pv 8)) (pa_nil))) ask_weak) (pa_nil))))) (pss_cons (ps_if (pt_cmpR (op_inN hu9) (pv 10) (pv 4) (by rfl)) (pss_one ps_never) (pss_nil)) (pss_one (ps_asg (pe_tup (pa_cons (pv 7) (pa_cons (pe_callTy (call_tuple_of) (by rfl) T.tuple (by decide +kernel) (pa_cons (pv 8) (pa_nil))) (pa_cons (pe_callTy (call_tuple_of) (by rfl) T.tuple (by decide +kernel) (pa_cons (pv 9) (pa_nil))) (pa_nil))))) (pg_sub (pv 4) (pv 10) (set_dictN hu9))))))))) (pss_one (ps_ret (pe_callTy ((call_listVN rfl)) (by rfl) T.list (by decide +kernel) (pa_cons (pe_valsN (pv 4)) (pa_nil))))))), ?_⟩
    obtain ⟨ty, hty0, hty⟩ := tyS (K := K) (.inl (SqL.of hd) : SqA K H d (ts.map V.ref))
    refine ⟨_, rfl, .ref d, _, true, rfl, hty, kit_seq hty0, fun H1 s1 => ⟨_, rfl, ?_⟩⟩
    refine iteF ?_
    intro D nD
    obtain ⟨H2, s2, h2, e2⟩ := lay (o := ndO P w D []) nD
    have e2' : upd H1 D (ndO (cxOf CX0 P w K mg base ftN "_facts_as_told" (defScope sFT) f cdv A outer s H E).nox.prog (cxOf CX0 P w K mg base ftN "_facts_as_told" (defScope sFT) f cdv A outer s H E).nox.w D []) = H2 := e2
    rw [e2']
    have nDH : H D = none := s1.free nD
    have S2 : Same H (hid [D] H2) := same_hid_new nDH (s1.trans s2)
    have ltd : ts.length = g.facts.length := (Paired.length hts).symm
    refine ⟨_, rfl, d, ts.map V.ref, true, [D], rfl, SqL.of (S2 _ _ hd), fun J WJ => ?_⟩
    refine for_it WJ (fun i σ H' => ∃ (o5 o6 o7 o8 o9 o10 : Option V) (xs : NX) (bs : List Addr), σ = [some (.ref a), some (.ref b), some (.ref c), some (.ref d), some (.ref D), o5, o6, o7, o8, o9, o10] ∧ Same H (hid [D] H') ∧ H' D = some (ndO P w D xs) ∧ NdKeys (hid [D] H') xs ∧
      xs.map (·.1) = (g.facts.take i).map (fun f => nkO (g.asked f)) ∧ xs.map (fun x => x.2.2) = bs.map Value.ref ∧ Paired (FactAt (hid [D] H')) (g.facts.take i) bs) ⟨none, none, none, none, none, none, [], [], rfl, S2, h2, (fun e he => nomatch he), rfl, rfl, .nil⟩ (fun i σ H' _ ⟨_, _, _, _, _, _, _, _, _, S, _⟩ => SqL.of (S _ _ hd)) ?_ ?_
    · rintro i x σ H3 H3' hi ⟨o5, o6, o7, o8, o9, o10, xs, bs, rfl, S3, h3, k3, e31, e32, p3⟩ ⟨Tp, y1, y2, rfl, nT, rfl, e1, ey⟩
      obtain rfl := Option.some.inj e1
      obtain ⟨t, htt, rfl⟩ : ∃ t, ts[i]? = some t ∧ y2 = V.ref t := by
        have ey : (ts.map V.ref)[i]? = some y2 := ey
        rw [List.getElem?_map] at ey
        cases e : ts[i]? with
        | none => rw [e] at ey; cases ey
        | some y => rw [e] at ey; exact ⟨y, rfl, (Option.some.inj ey).symm⟩
      have hig : i < g.facts.length := by rw [← ltd]; exact (List.getElem?_eq_some_iff.mp htt).1
      have hfi : g.facts[i]? = some g.facts[i] := List.getElem?_eq_getElem hig
      generalize hfa : g.facts[i] = fa at hfi
      have fmem := List.mem_of_getElem? hfi
      obtain ⟨t', ht', hA⟩ : ∃ t', ts[i]? = some t' ∧ FactAt H fa t' := paired_at' hts hfi
      obtain rfl : t' = t := by rw [htt] at ht'; exact (Option.some.inj ht').symm
      have ok := wf.fa _ fmem
      obtain ⟨H4, s4, h4, e4⟩ := lay (o := .tup [.int (i : Nat), .ref t']) nT
      rw [e4]
      have S4 : Same H (hid [D] H4) := S3.trans (hid_same s4)
      have S40 : Same H H4 := S4.trans (hid_low _ _)
      refine ⟨Tp, _, rfl, SqT.of h4, rfl, _, _, rfl, _, _, rfl, rfl, ?_⟩
      refine ⟨_, rfl, _, rfl, _, rfl, a, b, t', g.letters, g.fixed, fa, rfl, S40 _ _ hL, wf.nd, S40 _ _ hF, hA.mono S40, ok, wf.ar, fun H5 s5 => ⟨_, rfl, ?_⟩⟩
      refine iteF ?_
      have S5 : Same H (hid [D] H5) := S4.trans (hid_same s5)
      have S50 : Same H H5 := S5.trans (hid_low _ _)
      obtain ⟨v, e, ht, hv, he⟩ := (hA.mono S5).ex
      have ht0 := (hid_in ht).1
      have hv0 := (hid_in hv).1
      have he0 := (hid_in he).1
      refine ⟨_, rfl, t', _, rfl, SqT.of ht0, rfl, _, _, rfl, _, _, rfl, _, _, rfl, rfl, ?_⟩
      have h5D : H5 D = some (ndO P w D xs) := s5 _ _ (s4 _ _ h3)
      have len2 : fa.vals.length ≤ 2 := by
        obtain ⟨k, hk, e⟩ := ok.len
        have h2 : k ≤ 2 := wf.ar _ hk
        omega
      have hask : g.asked fa = (fa.x, if fa.x ∈ g.comm then sort2 fa.vals else fa.vals) := rfl
      refine ⟨_, rfl, fa.x, v, c, fa.vals, g.comm, rfl, rfl, rfl, S50 _ _ hC, hv0, len2, ok.vals, fun kv H6 s6 hkv => ?_⟩
      refine ⟨by show 2 ≤ sizeLine; decide, fun ka nka => ?_⟩
      obtain ⟨H7, s7, h7, e7⟩ := lay (o := .tup [.str fa.x, .ref kv]) nka
      rw [e7]
      have S57 : Same H5 H7 := s6.trans s7
      have h7D := S57 _ _ h5D
      have nD7 : ∀ {q : Addr} {o : List V}, H7 q = some (.tup o) → hid [D] H7 q = some (.tup o) := fun h => hid_to (ni1 (ne_of h h7D (fun z => nomatch z))) h
      have k7 : NdKeys (hid [D] H7) xs := k3.mono (hid_same ((s4.trans s5).trans S57))
      have nk7 : NkV (hid [D] H7) (nkO (g.asked fa)) (.ref ka) := by
        rw [hask]
        exact .tup (nD7 h7) (.cons (.text _) (.cons (.tup (nD7 (s7 _ _ hkv)) (nk_txk _)) .nil))
      have nokey : nkO (g.asked fa) ∉ xs.map (·.1) := by
        rw [e31]
        intro m
        obtain ⟨fb, hfb, eb⟩ := List.mem_map.mp m
        have eq := nkO_inj eb
        exact not_in_take_map wf.fd hfi hfb eq
      have hnone := atKey_none nokey
      refine ⟨_, rfl, _, rfl, ka, D, nkO (g.asked fa), xs, rfl, rfl, h7D, k7.mono (hid_low _ _), NkV.mono (hid_low _ _) _ _ nk7, nkO_depth _, _, rfl, ?_⟩
      rw [hnone]
      refine iteF ?_
      have hv7 := S57 _ _ hv0
      have he7 := S57 _ _ he0
      refine ⟨_, rfl, _, rfl, v, _, rfl, .inr ⟨SqT.of hv7, _, rfl, e, _, rfl, .inr ⟨SqT.of he7, by show 3 ≤ sizeLine; decide, fun b nb => ?_⟩⟩⟩
      obtain ⟨H8, s8, h8, e8⟩ := lay (o := .tup [.str fa.x, .ref v, .ref e]) nb
      rw [e8]
      have h8D := s8 _ _ h7D
      have lxs : xs.length ≤ 6 := by
        have := congrArg List.length e31
        rw [List.length_map, List.length_map, List.length_take] at this
        have := wf.fl
        omega
      have k8 := k7.mono (hid_same s8)
      have nk8 := NkV.mono (hid_same s8) _ _ nk7
      refine ⟨_, rfl, _, rfl, D, ka, b, nkO (g.asked fa), xs, rfl, rfl, rfl, h8D, k8.mono (hid_low _ _), NkV.mono (hid_low _ _) _ _ nk8, nkO_depth _, by omega, ?_⟩
      rw [storedH_new hnone]
      have B8 : Bt [D] H8 (upd H8 D (ndO P w D (xs ++ [(nkO (g.asked fa), ka, Value.ref b)]))) := bt_upd (by simp)
      have S58 : Same (hid [D] H5) (hid [D] (upd H8 D (ndO P w D (xs ++ [(nkO (g.asked fa), ka, Value.ref b)])))) := (hid_same (S57.trans s8)).trans B8
      have bD : b ∉ [D] := ni1 (ne_of_none h7D nb).symm
      refine ⟨_, _, _, _, _, _, xs ++ [(nkO (g.asked fa), ka, Value.ref b)], bs ++ [b], rfl, S5.trans S58, upd_same, ?_, ?_, ?_, ?_⟩
      · intro en hen
        rcases List.mem_append.mp hen with h | h
        · exact (k8.mono B8) en h
        · rw [List.mem_singleton.mp h]
          exact ⟨NkV.mono B8 _ _ nk8, nkO_depth _⟩
      · rw [take_at hfi, List.map_append, List.map_append, e31]; rfl
      · rw [List.map_append, List.map_append, e32]; rfl
      · rw [take_at hfi]
        exact paired_app (Paired.mapP p3 fun _ _ r => r.mono ((hid_same (s4.trans s5)).trans S58)) (.cons ⟨v, e, B8 _ _ (hid_to bD h8), S58 _ _ hv, S58 _ _ he⟩ .nil)
    · rintro σ H3 ⟨o5, o6, o7, o8, o9, o10, xs, bs, rfl, S3, h3, k3, e31, e32, p3⟩
      have lbs : bs.length = g.facts.length := by rw [← Paired.length p3, List.length_take]; rw [List.length_map, ltd]; omega
      refine ⟨_, rfl, D, xs, rfl, h3, fun vw nvw => ?_⟩
      obtain ⟨H4, s4, h4, e4⟩ := lay (o := valsO vw D) nvw
      rw [e4]
      refine ⟨vw, D, xs, bs, rfl, h4, s4 _ _ h3, e32, by rw [lbs]; have := wf.fl; omega, fun l nl => ?_⟩
      obtain ⟨H5, s5, h5, e5⟩ := lay (o := .lst (bs.map V.ref)) nl
      rw [e5]
      have S5 : Same H H5 := (S3.trans (hid_low _ _)).trans (s4.trans s5)
      rw [List.take_of_length_le (by rw [List.length_map, ltd]; exact Nat.le_refl _)] at p3
      exact q l H5 (((S3.trans (hid_low _ _)).trans s4).free nl) S5 ⟨bs, h5, Paired.mapP p3 fun _ _ r => r.mono ((hid_low _ _).trans (s4.trans s5))⟩
end
end K39
set_option Elab.async false
set_option linter.all false
set_option maxRecDepth 100000
set_option maxHeartbeats 8000000
namespace K39t
open PySem PySem.Spec L2 K39 GB
/-- the module's NAMED -/
def Nmd (K : PySem.W.Frag) (mg : Str → Option Value) : Prop := ∃ a, mg "NAMED" = some (.ref a) ∧ ∀ H, SqT K H a (sts nmd)
end K39t
set_option Elab.async false
set_option linter.all false
set_option maxRecDepth 100000
set_option maxHeartbeats 4000000
/-! Places in terms: the part there, the names that are bound around it, another term in its place. -/
namespace GB
open PySem PySem.Spec L2
/-- at the path r of t (within the names ns) stands s, within the names ms -/
inductive Pos : Tm → List Str → List Nat → Tm → List Str → Prop
  | here {t ns} : Pos t ns [] t ns
  | there {w n : Str} {ks : List Tm} {i : Nat} {k : Tm} {r : List Nat} {s : Tm} {ns ms : List Str} : ks[i]? = some k → Pos k (nsAt w n i ns) r s ms → Pos (.mk w n ks) ns (i :: r) s ms
def putT : Tm → List Nat → Tm → Tm
  | _, [], o => o
  | .mk w n ks, i :: r, o => match ks[i]? with
    | some k => .mk w n (ks.set i (putT k r o))
    | none => .mk w n ks
theorem putT_at {w n : Str} {ks : List Tm} {i : Nat} {k : Tm} {r : List Nat} {o : Tm} (h : ks[i]? = some k) : putT (.mk w n ks) (i :: r) o = .mk w n (ks.set i (putT k r o)) := by
  rw [putT, h]
section
variable {L : List (Str × Nat)} {t s o : Tm} {ns ms : List Str} {r : List Nat}
theorem Pos.at_ (h : Pos t ns r s ms) : atP t (pin r) = some s := by
  induction h with
  | here => rfl
  | @there w n ks i k r s ns ms hk _ ih =>
    have hi : i < ks.length := (List.getElem?_eq_some_iff.mp hk).1
    show (if 0 ≤ (i : Int) ∧ (i : Int) < ks.length then (match ks[(i : Int).toNat]? with | some k => atP k (pin r) | none => none) else none) = _
    rw [if_pos ⟨by omega, by omega⟩, Int.toNat_natCast, hk]
    exact ih
theorem Pos.ok (h : Pos t ns r s ms) (ht : TmOk L ns t) : TmOk L ms s := by
  induction h with
  | here => exact ht
  | there hk _ ih =>
    cases ht with
    | mk hH hK => exact ih (hK _ _ hk)
theorem Pos.put_ok (h : Pos t ns r s ms) (ht : TmOk L ns t) (ho : TmOk L ms o) : TmOk L ns (putT t r o) := by
  induction h with
  | here => exact ho
  | @there w n ks i k r s ns ms hk _ ih =>
    rw [putT_at hk]
    cases ht with
    | mk hH hK =>
      refine .mk (by rw [List.length_set]; exact hH) fun j c hc => ?_
      rw [List.getElem?_set] at hc
      split at hc
      · rename_i e
        subst e
        split at hc
        · obtain rfl := Option.some.inj hc
          exact ih (hK _ _ hk) ho
        · cases hc
      · exact hK _ _ hc
theorem sizes_set : ∀ {ks : List Tm} {i : Nat} {k c : Tm}, ks[i]? = some k → Tm.sizes (ks.set i c) + k.size = Tm.sizes ks + c.size
  | a :: l, 0, k, c, h => by
    obtain rfl := Option.some.inj h
    rw [List.set_cons_zero, Tm.sizes, Tm.sizes]
    omega
  | a :: l, i + 1, k, c, h => by
    have := sizes_set (ks := l) (i := i) (k := k) (c := c) h
    rw [List.set_cons_succ, Tm.sizes, Tm.sizes]
    omega
theorem Pos.put_size (h : Pos t ns r s ms) : (putT t r o).size + s.size = t.size + o.size := by
  induction h with
  | here => rw [putT]; omega
  | @there w n ks i k r s ns ms hk _ ih =>
    rw [putT_at hk, Tm.size, Tm.size]
    have := sizes_set (c := putT k r o) hk
    omega
theorem Pos.put_pos (h : Pos t ns r s ms) : Pos (putT t r o) ns r o ms := by
  induction h with
  | here => exact .here
  | @there w n ks i k r s ns ms hk _ ih =>
    rw [putT_at hk]
    exact .there (by rw [List.getElem?_set_self (List.getElem?_eq_some_iff.mp hk).1]) ih
theorem Pos.put_back (h : Pos t ns r s ms) : putT (putT t r o) r s = t := by
  induction h with
  | here => rfl
  | @there w n ks i k r s ns ms hk _ ih =>
    obtain ⟨hi, e⟩ := List.getElem?_eq_some_iff.mp hk
    rw [putT_at hk, putT_at (List.getElem?_set_self hi), ih, List.set_set]
    rw [← e, List.set_getElem_self hi]
theorem Pos.le (h : Pos t ns r s ms) : s.size + r.length ≤ t.size := by
  induction h with
  | here => simp
  | @there w n ks i k r s ns ms hk _ ih =>
    have := size_at (w := w) (n := n) hk
    rw [List.length_cons]
    omega
theorem Pos.nsl (h : Pos t ns r s ms) : ms.length ≤ ns.length + r.length := by
  induction h with
  | here => simp
  | @there w n ks i k r s ns ms hk _ ih =>
    have : (nsAt w n i ns).length ≤ ns.length + 1 := by
      unfold nsAt
      split
      · simp
      · omega
    rw [List.length_cons]
    omega
theorem Pos.snoc {w n : Str} {ks : List Tm} {i : Nat} {k : Tm} (h : Pos t ns r (.mk w n ks) ms) (hk : ks[i]? = some k) : Pos t ns (r ++ [i]) k (nsAt w n i ms) := by
  generalize e : Tm.mk w n ks = s at h
  induction h with
  | here => subst e; exact .there hk .here
  | there h1 _ ih => exact .there h1 (ih e)
/-- how a place goes on behind another one -/
theorem Pos.split : ∀ {a b : List Nat} {t s : Tm} {ns ms : List Str}, Pos t ns (a ++ b) s ms → ∃ u us, Pos t ns a u us ∧ Pos u us b s ms
  | [], _, _, _, _, _, h => ⟨_, _, .here, h⟩
  | i :: a, b, _, _, _, _, h => by
    cases h with
    | there h1 h2 =>
      obtain ⟨u, us, p1, p2⟩ := Pos.split h2
      exact ⟨u, us, .there h1 p1, p2⟩
theorem head_bind {n : Str} {m : Nat} (h : HeadOk L ns "bind" n m) : nameB n = true := by
  cases h with
  | bind h _ => exact h
  | op ho => exact absurd rfl ((show ∀ q ∈ opsW, q.1 ≠ "bind" by decide) _ ho)
theorem Pos.nstr (h : Pos t ns r s ms) (ht : TmOk L ns t) (hn : ∀ z ∈ ns, nameB z = true) : ∀ z ∈ ms, nameB z = true := by
  induction h with
  | here => exact hn
  | @there w n ks i k r s ns ms hk _ ih =>
    cases ht with
    | mk hH hK =>
      refine ih (hK _ _ hk) fun z hz => ?_
      unfold nsAt at hz
      split at hz
      · rename_i e
        rcases List.mem_append.mp hz with h | h
        · exact hn z h
        · rw [List.mem_singleton.mp h]
          obtain ⟨rfl, _⟩ := e
          exact head_bind hH
      · exact hn z hz
end
mutual
/-- all places, with the names around: a part ahead of those within it -/
def Tm.places : Tm → List Nat → List Str → List (List Nat × List Str)
  | .mk w n ks, p, ns => (p, ns) :: Tm.placesL w n ks p ns 0
def Tm.placesL : Str → Str → List Tm → List Nat → List Str → Nat → List (List Nat × List Str)
  | _, _, [], _, _, _ => []
  | w, n, k :: r, p, ns, i => k.places (p ++ [i]) (nsAt w n i ns) ++ Tm.placesL w n r p ns (i + 1)
end
mutual
theorem places_len : ∀ (t : Tm) (p : List Nat) (ns : List Str), (t.places p ns).length = t.size
  | .mk w n ks, p, ns => by rw [Tm.places, Tm.size, List.length_cons, placesL_len w n ks p ns 0]
theorem placesL_len : ∀ (w n : Str) (ks : List Tm) (p : List Nat) (ns : List Str) (i : Nat), (Tm.placesL w n ks p ns i).length = Tm.sizes ks
  | _, _, [], _, _, _ => rfl
  | w, n, k :: r, p, ns, i => by rw [Tm.placesL, Tm.sizes, List.length_append, places_len k, placesL_len w n r]
end
theorem placesL_app : ∀ (w n : Str) (l : List Tm) (k : Tm) (p : List Nat) (ns : List Str) (i : Nat), Tm.placesL w n (l ++ [k]) p ns i = Tm.placesL w n l p ns i ++ k.places (p ++ [i + l.length]) (nsAt w n (i + l.length) ns)
  | w, n, [], k, p, ns, i => by simp [Tm.placesL]
  | w, n, a :: r, k, p, ns, i => by
    have e : i + 1 + r.length = i + (r.length + 1) := by omega
    rw [List.cons_append, Tm.placesL, Tm.placesL, placesL_app w n r k p ns (i + 1), List.append_assoc, List.length_cons, e]
mutual
theorem places_pos : ∀ (t : Tm) (p : List Nat) (ns : List Str) (q : List Nat) (ms : List Str), (q, ms) ∈ t.places p ns → ∃ r s, q = p ++ r ∧ Pos t ns r s ms
  | .mk w n ks, p, ns, q, ms, h => by
    rw [Tm.places] at h
    rcases List.mem_cons.mp h with h | h
    · cases h
      exact ⟨[], _, by rw [List.append_nil], .here⟩
    · obtain ⟨j, k, r, s, hk, e, hp⟩ := placesL_pos w n ks p ns 0 q ms h
      rw [Nat.zero_add] at e hp
      exact ⟨j :: r, s, e, .there hk hp⟩
theorem placesL_pos : ∀ (w n : Str) (ks : List Tm) (p : List Nat) (ns : List Str) (i : Nat) (q : List Nat) (ms : List Str), (q, ms) ∈ Tm.placesL w n ks p ns i → ∃ j k r s, ks[j]? = some k ∧ q = p ++ (i + j) :: r ∧ Pos k (nsAt w n (i + j) ns) r s ms
  | _, _, [], _, _, _, _, _, h => by
    rw [Tm.placesL] at h
    cases h
  | w, n, k :: l, p, ns, i, q, ms, h => by
    rw [Tm.placesL] at h
    rcases List.mem_append.mp h with h | h
    · obtain ⟨r, s, e, hp⟩ := places_pos k (p ++ [i]) (nsAt w n i ns) q ms h
      exact ⟨0, k, r, s, rfl, by rw [e]; simp, hp⟩
    · obtain ⟨j, k2, r, s, hk, e, hp⟩ := placesL_pos w n l p ns (i + 1) q ms h
      have e2 : i + 1 + j = i + (j + 1) := by omega
      rw [e2] at e hp
      exact ⟨j + 1, k2, r, s, hk, e, hp⟩
end
end GB
set_option Elab.async false
set_option linter.all false
set_option maxRecDepth 100000
set_option maxHeartbeats 4000000
/-! Objects that are no terms, and where the first part stands that is none. -/
namespace GB
open PySem PySem.Spec L2
/-- one of two readings -/
theorem pe_alt {X : Cx} {e : Expr} {t1 t2 : TE} (h1 : PE X e t1) (h2 : PE X e t2) : PE X e (fun σ H Q => t1 σ H Q ∨ t2 σ H Q) := ⟨fun pins s σ H Q I h => h.elim (h1.run pins s σ H Q I) (h2.run pins s σ H Q I)⟩
/-- no name -/
inductive NotNm (K : PySem.W.Frag) (H : Hp) : V → Prop
  | str {s : Str} : nameB s = false → s.length ≤ sizeLine → NotNm K H (.str s)
  | oth {x t} : (∀ H', Same H H' → TyX K H' x t) → PySem.W.kitOne K t (.type "str") = some false → NotNm K H x
/-- no letter -/
inductive NotL (K : PySem.W.Frag) (H : Hp) (L : List (Str × Nat)) : V → Prop
  | str {s : Str} : s ∉ L.map (·.1) → NotL K H L (.str s)
  | oth {x t} : (∀ H', Same H H' → TyX K H' x t) → PySem.W.kitOne K t (.type "str") = some false → NotL K H L x
theorem NotNm.mono {K : PySem.W.Frag} {H H' : Hp} {x : V} (s : Same H H') (h : NotNm K H x) : NotNm K H' x := by
  cases h with
  | str h1 h2 => exact .str h1 h2
  | oth h1 h2 => exact .oth (fun H2 s2 => h1 H2 (s.trans s2)) h2
theorem NotL.mono {K : PySem.W.Frag} {H H' : Hp} {L : List (Str × Nat)} {x : V} (s : Same H H') (h : NotL K H L x) : NotL K H' L x := by
  cases h with
  | str h1 => exact .str h1
  | oth h1 h2 => exact .oth (fun H2 s2 => h1 H2 (s.trans s2)) h2
/-- a list, or none -/
inductive SeqOr (K : PySem.W.Frag) (H : Hp) : V → Prop
  | no {x t} : (∀ H', Same H H' → TyX K H' x t) → PySem.W.kitAny K t [.type "list", .type "tuple"] = some false → SeqOr K H x
  | seq {p xs} : SqA K H p xs → SeqOr K H (.ref p)
theorem SeqOr.mono {K : PySem.W.Frag} {H H' : Hp} {x : V} (s : Same H H') (h : SeqOr K H x) : SeqOr K H' x := by
  cases h with
  | no h1 h2 => exact .no (fun H2 s2 => h1 H2 (s.trans s2)) h2
  | seq h1 => exact .seq (h1.mono s)
/-- a use that is none -/
inductive UseV (K : PySem.W.Frag) (H : Hp) (L : List (Str × Nat)) (p : Addr) : Prop
  | len {r} : SqA K H p (.str "use" :: r) → r.length ≠ 2 → UseV K H L p
  | name {y e} : SqA K H p [.str "use", y, e] → NotL K H L y → SeqOr K H e → UseV K H L p
  | parts {n m e t} : SqA K H p [.str "use", .str n, e] → (n, m) ∈ L → (∀ H', Same H H' → TyX K H' e t) → PySem.W.kitAny K t [.type "list", .type "tuple"] = some false → UseV K H L p
  | many {n m q us} : SqA K H p [.str "use", .str n, .ref q] → (n, m) ∈ L → SqA K H q us → us.length ≠ m → UseV K H L p
theorem UseV.mono {K : PySem.W.Frag} {H H' : Hp} {L : List (Str × Nat)} {p : Addr} (s : Same H H') (h : UseV K H L p) : UseV K H' L p := by
  cases h with
  | len h1 h2 => exact .len (h1.mono s) h2
  | name h1 h2 h3 => exact .name (h1.mono s) (h2.mono s) (h3.mono s)
  | parts h1 h2 h3 h4 => exact .parts (h1.mono s) h2 (fun H2 s2 => h3 H2 (s.trans s2)) h4
  | many h1 h2 h3 h4 => exact .many (h1.mono s) h2 (h3.mono s) h4
theorem UseV.hd {K : PySem.W.Frag} {H : Hp} {L : List (Str × Nat)} {p : Addr} (h : UseV K H L p) : ∃ r, SqA K H p (.str "use" :: r) := by
  cases h with
  | len h1 _ => exact ⟨_, h1⟩
  | name h1 _ _ => exact ⟨_, h1⟩
  | parts h1 _ _ _ => exact ⟨_, h1⟩
  | many h1 _ _ _ => exact ⟨_, h1⟩
/-- a thing that is no node -/
inductive OddV (K : PySem.W.Frag) (H : Hp) (L : List (Str × Nat)) (ns : List Str) : V → Prop
  | flat {x t} : (∀ H', Same H H' → TyX K H' x t) → PySem.W.kitAny K t [.type "list", .type "tuple"] = some false → OddV K H L ns x
  | empty {p} : SqA K H p [] → OddV K H L ns (.ref p)
  | head {p y r t} : SqA K H p (y :: r) → (∀ H', Same H H' → TyX K H' y t) → PySem.W.kitOne K t (.type "str") = some false → OddV K H L ns (.ref p)
  | use {p} : UseV K H L p → OddV K H L ns (.ref p)
  | bname {p y a b} : SqA K H p [.str "bind", y, a, b] → NotNm K H y → OddV K H L ns (.ref p)
  | nlen {p w r} : w ∈ nmd → SqA K H p (.str w :: r) → r.length ≠ 1 → OddV K H L ns (.ref p)
  | nname {p w y} : w ∈ nmd → SqA K H p [.str w, y] → NotNm K H y → OddV K H L ns (.ref p)
  | free {p n} : SqA K H p [.str "name", .str n] → nameB n = true → n ∉ ns → OddV K H L ns (.ref p)
  | word {p r} : SqA K H p (.str "xor" :: r) → OddV K H L ns (.ref p)
  | olen {p w m r} : (w, m) ∈ opsW → SqA K H p (.str w :: r) → r.length ≠ m → OddV K H L ns (.ref p)
theorem OddV.mono {K : PySem.W.Frag} {H H' : Hp} {L : List (Str × Nat)} {ns : List Str} {x : V} (s : Same H H') (h : OddV K H L ns x) : OddV K H' L ns x := by
  cases h with
  | flat h1 h2 => exact .flat (fun H2 s2 => h1 H2 (s.trans s2)) h2
  | empty h => exact .empty (h.mono s)
  | head h1 h2 h3 => exact .head (h1.mono s) (fun H2 s2 => h2 H2 (s.trans s2)) h3
  | use h => exact .use (h.mono s)
  | bname h1 h2 => exact .bname (h1.mono s) (h2.mono s)
  | nlen h0 h1 h2 => exact .nlen h0 (h1.mono s) h2
  | nname h0 h1 h2 => exact .nname h0 (h1.mono s) (h2.mono s)
  | free h h1 h2 => exact .free (h.mono s) h1 h2
  | word h => exact .word (h.mono s)
  | olen h0 h1 h2 => exact .olen h0 (h1.mono s) h2
/-- words that stand ahead of no terms alone -/
def noW : List Str := ["use", "value", "name", "fail", "bind", "xor"]
/-- an odd thing that begins with a word -/
structure OddW (K : PySem.W.Frag) (H : Hp) (L : List (Str × Nat)) (ns : List Str) (p : Addr) (w : Str) (r : List V) : Prop where
  sq : SqA K H p (.str w :: r)
  ne : r ≠ []
  use : w = "use" → UseV K H L p
  ops : ∀ m, (w, m) ∈ opsW → r.length ≠ m
  nam : w ∈ nmd → r.length ≠ 1 ∨ ∃ y, r = [y] ∧ (NotNm K H y ∨ (w = "name" ∧ ∃ n, y = .str n ∧ nameB n = true ∧ n ∉ ns))
  bind : w = "bind" → ∃ y a b, r = [y, a, b] ∧ NotNm K H y
  known : (∃ m, (w, m) ∈ opsW) ∨ w ∈ noW
theorem OddW.mono {K : PySem.W.Frag} {H H' : Hp} {L : List (Str × Nat)} {ns : List Str} {p : Addr} {w : Str} {r : List V} (s : Same H H') (h : OddW K H L ns p w r) : OddW K H' L ns p w r :=
  ⟨h.sq.mono s, h.ne, fun e => (h.use e).mono s, h.ops, fun m => (h.nam m).imp id fun ⟨y, e, q⟩ => ⟨y, e, q.imp (fun n => n.mono s) id⟩, fun e => let ⟨y, a, b, e1, n⟩ := h.bind e; ⟨y, a, b, e1, n.mono s⟩, h.known⟩
theorem nmW : ∀ x ∈ nmd, x ≠ "use" ∧ x ≠ "bind" ∧ x ∉ opsW.map (·.1) ∧ x ∈ noW := by decide
theorem noOp {w : Str} (h : w ∉ opsW.map (·.1)) (m : Nat) : (w, m) ∉ opsW := fun z => h (List.mem_map.mpr ⟨_, z, rfl⟩)
theorem OddV.cases4 {K : PySem.W.Frag} {H : Hp} {L : List (Str × Nat)} {ns : List Str} {x : V} (h : OddV K H L ns x) :
    (∃ t, (∀ H', Same H H' → TyX K H' x t) ∧ PySem.W.kitAny K t [.type "list", .type "tuple"] = some false) ∨ (∃ p xs, x = .ref p ∧ SqA K H p xs ∧ xs.length < 2) ∨
    (∃ p y r t, x = .ref p ∧ SqA K H p (y :: r) ∧ (∀ H', Same H H' → TyX K H' y t) ∧ PySem.W.kitOne K t (.type "str") = some false) ∨ ∃ p w r, x = .ref p ∧ OddW K H L ns p w r := by
  have sh : ∀ {p : Addr} {y : V} {r : List V}, SqA K H p (y :: r) → (r ≠ [] → ∃ p' w r', V.ref p = .ref p' ∧ OddW K H L ns p' w r') → (∃ t, (∀ H', Same H H' → TyX K H' (.ref p) t) ∧ PySem.W.kitAny K t [.type "list", .type "tuple"] = some false) ∨ (∃ p' xs, V.ref p = .ref p' ∧ SqA K H p' xs ∧ xs.length < 2) ∨
    (∃ p' y r t, V.ref p = .ref p' ∧ SqA K H p' (y :: r) ∧ (∀ H', Same H H' → TyX K H' y t) ∧ PySem.W.kitOne K t (.type "str") = some false) ∨ ∃ p' w r, V.ref p = .ref p' ∧ OddW K H L ns p' w r := fun {p y r} hp hq => by
      by_cases e : r = []
      · subst e
        exact .inr (.inl ⟨_, _, rfl, hp, by simp⟩)
      · exact .inr (.inr (.inr (hq e)))
  cases h with
  | flat h1 h2 => exact .inl ⟨_, h1, h2⟩
  | empty h => exact .inr (.inl ⟨_, _, rfl, h, by simp⟩)
  | head h1 h2 h3 => exact .inr (.inr (.inl ⟨_, _, _, _, rfl, h1, h2, h3⟩))
  | use h =>
    obtain ⟨r, hp⟩ := h.hd
    refine sh hp fun ne => ⟨_, _, _, rfl, hp, ne, fun _ => h, fun m z => absurd z (noOp (by decide) m), fun z => absurd z (by decide), fun z => absurd z (by decide), .inr (by decide)⟩
  | @bname p y a b h1 h2 => exact sh h1 fun ne => ⟨_, _, _, rfl, h1, ne, fun z => absurd z (by decide), fun m z => absurd z (noOp (by decide) m), fun z => absurd z (by decide), fun _ => ⟨y, a, b, rfl, h2⟩, .inr (by decide)⟩
  | nlen h0 h1 h2 => exact sh h1 fun ne => ⟨_, _, _, rfl, h1, ne, fun z => absurd z (nmW _ h0).1, fun m z => absurd z (noOp (nmW _ h0).2.2.1 m), fun _ => .inl h2, fun z => absurd z (nmW _ h0).2.1, .inr (nmW _ h0).2.2.2⟩
  | nname h0 h1 h2 => exact sh h1 fun ne => ⟨_, _, _, rfl, h1, ne, fun z => absurd z (nmW _ h0).1, fun m z => absurd z (noOp (nmW _ h0).2.2.1 m), fun _ => .inr ⟨_, rfl, .inl h2⟩, fun z => absurd z (nmW _ h0).2.1, .inr (nmW _ h0).2.2.2⟩
  | free h1 h2 h3 => exact sh h1 fun ne => ⟨_, _, _, rfl, h1, ne, fun z => absurd z (by decide), fun m z => absurd z (noOp (by decide) m), fun _ => .inr ⟨_, rfl, .inr ⟨rfl, _, rfl, h2, h3⟩⟩, fun z => absurd z (by decide), .inr (by decide)⟩
  | word h1 => exact sh h1 fun ne => ⟨_, _, _, rfl, h1, ne, fun z => absurd z (by decide), fun m z => absurd z (noOp (by decide) m), fun z => absurd z (by decide), fun z => absurd z (by decide), .inr (by decide)⟩
  | @olen p w m r h0 h1 h2 =>
    have n := (show ∀ q ∈ opsW, q.1 ∉ nmd ∧ q.1 ≠ "use" ∧ q.1 ≠ "bind" by decide) _ h0
    have u : ∀ k, (w, k) ∈ opsW → k = m := fun k hk => (show ∀ q ∈ opsW, ∀ q' ∈ opsW, q.1 = q'.1 → q.2 = q'.2 by decide) _ hk _ h0 rfl
    exact sh h1 fun ne => ⟨_, _, _, rfl, h1, ne, fun z => absurd z n.2.1, fun k z => by rw [u k z]; exact h2, fun z => absurd z n.1, fun z => absurd z n.2.2, .inl ⟨m, h0⟩⟩
/-- a thing that is a term of at most so many parts -/
def GoodV (K : PySem.W.Frag) (H : Hp) (L : List (Str × Nat)) (ns : List Str) (z : Nat) (x : V) : Prop := ∃ d t, Dp K H x d ∧ IsTm d t ∧ TmOk L ns t ∧ t.size ≤ z
/-- the first part that is no term stands at this path -/
inductive BadV (K : PySem.W.Frag) (H : Hp) (L : List (Str × Nat)) : Nat → List Str → V → List Nat → Prop
  | odd {z ns x} : OddV K H L ns x → BadV K H L (z + 1) ns x []
  | within {z ns p w n us i y r} : NodeV K H p w n us → HeadOk L ns w n us.length → us[i]? = some y → (∀ j x, j < i → us[j]? = some x → GoodV K H L (nsAt w n j ns) z x) → BadV K H L z (nsAt w n i ns) y r → us.length ≤ 1000 → BadV K H L (z + 1) ns (.ref p) (i :: r)
theorem GoodV.mono {K : PySem.W.Frag} {H H' : Hp} {L : List (Str × Nat)} {ns : List Str} {z : Nat} {x : V} (s : Same H H') (h : GoodV K H L ns z x) : GoodV K H' L ns z x := let ⟨d, t, a, b⟩ := h; ⟨d, t, dp_mono s a, b⟩
theorem BadV.mono {K : PySem.W.Frag} {H H' : Hp} {L : List (Str × Nat)} {z : Nat} {ns : List Str} {x : V} {r : List Nat} (s : Same H H') (h : BadV K H L z ns x r) : BadV K H' L z ns x r := by
  induction h with
  | odd h => exact .odd (h.mono s)
  | within h1 h2 h3 h4 _ h6 ih => exact .within (h1.mono s) h2 h3 (fun j x hj hx => (h4 j x hj hx).mono s) ih h6
end GB
set_option Elab.async false
set_option linter.all false
set_option maxRecDepth 100000
set_option maxHeartbeats 8000000
namespace GB
open PySem PySem.Spec L2
/-- a ground of the package, as far as terms ask -/
structure IsGr (C : Addr) (H : Hp) (G : Addr) (g : GD) : Prop where
  ex : ∃ dx fs aL, H G = some (.ins C dx fs) ∧ fs.lookup ("_letters" : Str) = some (.ref aL) ∧ H aL = some (.dK (lkv g.letters)) ∧ fs.lookup ("parts_of" : Str) = none
theorem IsGr.mono {C : Addr} {H H' : Hp} {G : Addr} {g : GD} (s : Same H H') (h : IsGr C H G g) : IsGr C H' G g := let ⟨dx, fs, aL, h1, h2, h3, h4⟩ := h.ex; ⟨dx, fs, aL, s _ _ h1, h2, s _ _ h3, h4⟩
theorem NodeV.head {K : PySem.W.Frag} {H : Hp} {p : Addr} {w n : Str} {vs : List V} (h : NodeV K H p w n vs) : ∃ rest, SqA K H p (.str w :: rest) := by
  rcases h.kind with ⟨_, _, hs⟩ | ⟨_, _, hs, _⟩ | ⟨_, hs⟩ | ⟨_, _, hs⟩
  · exact ⟨_, hs⟩
  · exact ⟨_, hs⟩
  · exact ⟨_, hs⟩
  · exact ⟨_, hs⟩
section
variable {L : List (Str × Nat)} {ns : List Str} {w n : Str} {m : Nat}
theorem HeadOk.nmd (h : HeadOk L ns w n m) (hw : w ∈ nmd) : nameB n = true ∧ (w = "name" → n ∈ ns) := by
  cases h with
  | val h => exact ⟨h, fun e => absurd e (by decide)⟩
  | fail h => exact ⟨h, fun e => absurd e (by decide)⟩
  | name h hn => exact ⟨h, fun _ => hn⟩
  | use h => exact absurd hw (by decide)
  | bind h _ => exact absurd hw (by decide)
  | op ho => exact absurd hw (ops_no _ ho).1
theorem HeadOk.toUse (h : HeadOk L ns "use" n m) : (n, m) ∈ L := by
  cases h with
  | use h => exact h
  | op ho => exact absurd rfl (ops_no _ ho).2.1
theorem HeadOk.toBind (h : HeadOk L ns "bind" n m) : nameB n = true ∧ m = 2 := by
  cases h with
  | bind h _ => exact ⟨h, rfl⟩
  | op ho => exact absurd rfl (ops_no _ ho).2.2
theorem HeadOk.toOp (h : HeadOk L ns w n m) (ho : ∃ k, (w, k) ∈ opsW) : (w, m) ∈ opsW := by
  obtain ⟨k, ho⟩ := ho
  cases h with
  | val h => exact absurd (show ("value" : Str) ∈ GB.nmd by decide) (ops_no _ ho).1
  | fail h => exact absurd (show ("fail" : Str) ∈ GB.nmd by decide) (ops_no _ ho).1
  | name h hn => exact absurd (show ("name" : Str) ∈ GB.nmd by decide) (ops_no _ ho).1
  | use h => exact absurd rfl (ops_no _ ho).2.1
  | bind h _ => exact absurd rfl (ops_no _ ho).2.2
  | op h => exact h
end
def spHas (K : PySem.W.Frag) (C : Addr) : Sp := fun vs H Q _ => ∃ (G : Addr) (x : V) (g : GD), vs = [.ref G, x] ∧ IsGr C H G g ∧ ((∃ s : Str, x = .str s ∧ (g.letters.map (·.1)).Nodup ∧ Q (.bl (decide (s ∈ g.letters.map (·.1)))) H) ∨ (∃ t, TyX K H x t ∧ PySem.W.kitOne K t (.type "str") = some false ∧ Q (.bl false) H))
def spPrt (C : Addr) : Sp := fun vs H Q _ => ∃ (G : Addr) (x : Str) (g : GD), vs = [.ref G, .str x] ∧ IsGr C H G g ∧ (g.letters.map (·.1)).Nodup ∧ ((∃ k, (x, k) ∈ g.letters ∧ Q (.int (k : Nat)) H) ∨ (x ∉ g.letters.map (·.1) ∧ Q .non H))
structure GrC (P : Program) (w : World) (K : PySem.W.Frag) (mg : Str → Option Value) (base : Heap) (C : Addr) : Prop where
  cl : Cls K C
  prt : ∃ f fd, Meth K C "parts_of" f ∧ FnOk P w K mg base CX0 1 f fd ["self", "letter"] (spPrt C) ∧ Binds K fd ["self", "letter"] []
end GB
namespace K39t
open PySem PySem.Spec L2 K39 GB
abbrev sHas : Stmt := inClass (topS 17) 7
abbrev sPrt : Stmt := inClass (topS 17) 5
abbrev sIsU : Stmt := topS 32
def spIsU (K : PySem.W.Frag) (C : Addr) : Sp := fun vs H Q _ => ∃ (G p : Addr) (g : GD), vs = [.ref G, .ref p] ∧ IsGr C H G g ∧ (g.letters.map (·.1)).Nodup ∧
  ((∃ (q : Addr) (n : Str) (us : List V), SqA K H p [.str "use", .str n, .ref q] ∧ SqA K H q us ∧ (n, us.length) ∈ g.letters ∧ ∀ H', Same H H' → Q (.bl true) H') ∨ (UseV K H g.letters p ∧ ∀ H', Same H H' → Q (.bl false) H'))
/-- the module's TERMS_BEHIND -/
def TBh (K : PySem.W.Frag) (w : World) (mg : Str → Option Value) : Prop := ∃ d es n, mg "TERMS_BEHIND" = some (.ref d) ∧ KDict K w d es n ∧ (∀ q ∈ opsW, KDct K w d q.1 (.int (q.2 : Int)) ∧ ∃ u, PySem.W.nsIn K d q.1 = some (some u)) ∧ ∀ x ∈ noW, PySem.W.nsIn K d x = some none
section
variable {P : Program} {w : World} {K : PySem.W.Frag} {mg : Str → Option Value} {base : Heap} {C : Addr}
theorem scHas : FnScope ["self", "letter"] ["self", "letter"] (defScope sHas) := ⟨rfl, rfl, rfl, by decide +kernel, rfl, by decide +kernel, by decide +kernel⟩
theorem scPrt : FnScope ["self", "letter"] ["self", "letter"] (defScope sPrt) := ⟨rfl, rfl, rfl, by decide +kernel, rfl, by decide +kernel, by decide +kernel⟩
theorem scIsU : FnScope ["ground", "thing"] ["ground", "thing"] (defScope sIsU) := ⟨rfl, rfl, rfl, by decide +kernel, rfl, by decide +kernel, by decide +kernel⟩
theorem ok_has {f : Addr} {fd : FuncData} (F : Fun K "__contains__" "Ground.__contains__" sHas f fd) (T : Bl mg) (c : Cls K C) (nL : NoAttr K C "_letters") : FnOk P w K mg base CX0 1 f fd ["self", "letter"] (spHas K C) := by
  refine F.ok scHas (fun vs H Q E h => ?_) (fun cdv A outer s H vs Q E hr h => ?_)
  · obtain ⟨G, x, g, rfl, _⟩ := h
    rfl
  · obtain ⟨G, x, g, rfl, ⟨dx, fs, aL, hG, hl, hL, _⟩, h⟩ := h
    have hu := hu_of hr
    refine ⟨_, pss_one (ps_ret (pe_and (pe_callB call_isi (by rfl) T.isi (by decide +kernel) (pa_cons (pv 1) (pa_cons (pe_bltn (v := .ty "str") (by rfl) T.str (by decide +kernel) rfl) (pa_nil)))) (pe_one (pe_cmp (pc_din hu (pv 1) (pe_fld (pv 0) rfl)) rfl)))), ?_⟩
    rcases h with ⟨z, rfl, nd, q⟩ | ⟨t, ht, hk, q⟩
    · refine ⟨_, rfl, .str z, .ty "str", .type "str", .type "str", true, rfl, .ty "str", .base (.str z), kit_ty (by decide +kernel), true, rfl, ?_⟩
      by_cases m : z ∈ g.letters.map (·.1)
      · obtain ⟨q1, hq1, e1⟩ := List.mem_map.mp m
        rw [decide_eq_true m] at q
        have hv : valV (lkv g.letters) (.inr z : Key) = some (.int (q1.2 : Int)) := valV_lkv nd (by rw [← e1]; exact hq1)
        refine ⟨_, rfl, _, rfl, G, C, dx, fs, _, rfl, hG, c, nL, hl, aL, some (.int (q1.2 : Int)), rfl, (by rw [← hv]; exact DGet.k (k := .inr z) hL), ?_⟩
        exact q
      · rw [decide_eq_false m] at q
        have hv : valV (lkv g.letters) (.inr z : Key) = none := valV_no m
        refine ⟨_, rfl, _, rfl, G, C, dx, fs, _, rfl, hG, c, nL, hl, aL, none, rfl, (by rw [← hv]; exact DGet.k (k := .inr z) hL), ?_⟩
        exact q
    · exact ⟨_, rfl, x, .ty "str", t, .type "str", false, rfl, .ty "str", ht, hk, false, rfl, q⟩
theorem ok_prt {f : Addr} {fd : FuncData} (F : Fun K "parts_of" "Ground.parts_of" sPrt f fd) (c : Cls K C) (nL : NoAttr K C "_letters") : FnOk P w K mg base CX0 1 f fd ["self", "letter"] (spPrt C) := by
  refine F.ok scPrt (fun vs H Q E h => ?_) (fun cdv A outer s H vs Q E hr h => ?_)
  · obtain ⟨G, x, g, rfl, _⟩ := h
    rfl
  · obtain ⟨G, x, g, rfl, ⟨dx, fs, aL, hG, hl, hL, _⟩, nd, h⟩ := h
    have hu := hu_of hr
    refine ⟨_, pss_one (ps_ret (pe_dget1 hu (pe_fld (pv 0) rfl) (pv 1) ⟨rfl, rfl, rfl, rfl⟩)), ?_⟩
    rcases h with ⟨k, hk, q⟩ | ⟨hn, q⟩
    · have hv := valV_lkv nd hk
      exact ⟨_, rfl, G, C, dx, fs, _, rfl, hG, c, nL, hl, aL, rfl, .inl ⟨_, .inl hL⟩, _, rfl, some (.int (k : Int)), (by rw [← hv]; exact DGet.k (k := .inr x) hL), q⟩
    · have hv := valV_no hn
      exact ⟨_, rfl, G, C, dx, fs, _, rfl, hG, c, nL, hl, aL, rfl, .inl ⟨_, .inl hL⟩, _, rfl, none, (by rw [← hv]; exact DGet.k (k := .inr x) hL), q⟩
theorem ok_isU {f : Addr} {fd : FuncData} (F : Fun K "_is_use" "_is_use" sIsU f fd) (T : Bl mg) (GC : GrC P w K mg base C) (IL : Fns P w K mg base "is_list" 1 ["thing"] (spIsL K)) : FnOk P w K mg base CX0 2 f fd ["ground", "thing"] (spIsU K C) := by
  obtain ⟨fP, dP, mP, FP, bP⟩ := GC.prt
  refine F.ok scIsU (fun vs H Q E h => ?_) (fun cdv A outer s H vs Q E hr h => ?_)
  · obtain ⟨G, p, g, rfl, _⟩ := h
    rfl
  · obtain ⟨G, p, g, rfl, hG, nd, h⟩ := h
    refine ⟨_, pss_cons (ps_if (PW.pt (pw_or (pt_cmpR op_ne (pe_callB call_len_seq (by rfl) T.len PySem.boot_len (pa_cons (pv 1) (pa_nil))) (pe_int) (nomark _)) (pw_or (pt_not (pt_val (pe_callB call_isi (by rfl) T.isi (by decide +kernel) (pa_cons (pe_ix ix_seq (pv 1) (pe_int) (fun _ _ => rfl)) (pa_cons (pe_bltn (v := .ty "str") (by rfl) T.str (by decide +kernel) rfl) (pa_nil)))))) (pw_or1 (pt_not (pt_val (pe_fn IL hr (by decide) rfl (pa_cons (pe_ix ix_seq (pv 1) (pe_int) (fun _ _ => rfl)) (pa_nil))))))))) (pss_one (ps_ret (pe_bl))) (pss_nil)) (pss_one (ps_ret (pe_cmpR op_eq (pe_meth (pv 0) GC.cl mP FP (hr.mono (by decide)) bP .nil pass0 (pa_cons (pe_ix ix_seq (pv 1) (pe_int) (fun _ _ => rfl)) (pa_nil))) (pe_callB call_len_seq (by rfl) T.len PySem.boot_len (pa_cons (pe_ix ix_seq (pv 1) (pe_int) (fun _ _ => rfl)) (pa_nil))) (nomark _)))), ?_⟩
    obtain ⟨dx, fs, aL, h1, h2, h3, h4⟩ := hG.ex
    rcases h with ⟨q, n, us, hp, hq, hn, k⟩ | ⟨hU, k⟩
    · refine ⟨_, rfl, p, _, rfl, hp, rfl, _, rfl, ?_⟩
      refine iteF ?_
      refine ⟨_, rfl, ixA hp 1 rfl ⟨.str n, .ty "str", .type "str", .type "str", true, rfl, .ty "str", .base (.str n), kit_ty (by decide +kernel), true, rfl, ?_⟩⟩
      refine iteF ?_
      obtain ⟨t, ht, hty⟩ := tyS hq
      refine ⟨_, rfl, ixA hp 2 rfl ⟨.ref q, _, true, rfl, hty, kit_seq ht, fun H1 s1 => ⟨_, rfl, ?_⟩⟩⟩
      refine iteF ?_
      refine ⟨_, rfl, G, dx, fs, rfl, s1 _ _ h1, h4, _, rfl, ixA (hp.mono s1) 1 rfl ⟨G, n, g, rfl, hG.mono s1, nd, .inl ⟨us.length, hn, ?_⟩⟩⟩
      refine ⟨_, rfl, ixA (hp.mono s1) 2 rfl ⟨q, us, rfl, hq.mono s1, rfl, ?_⟩⟩
      rw [decI, decide_eq_true rfl]
      exact k _ s1
    · cases hU with
      | @len r hp hl =>
        refine ⟨_, rfl, p, _, rfl, hp, rfl, _, rfl, ?_⟩
        rw [decI, decide_eq_false (by rw [List.length_cons]; omega)]
        exact iteT (k _ (Same.refl _))
      | @name y e hp hn he =>
        refine ⟨_, rfl, p, _, rfl, hp, rfl, _, rfl, ?_⟩
        refine iteF ?_
        cases hn with
        | @str n hn =>
          refine ⟨_, rfl, ixA hp 1 rfl ⟨.str n, .ty "str", .type "str", .type "str", true, rfl, .ty "str", .base (.str n), kit_ty (by decide +kernel), true, rfl, ?_⟩⟩
          refine iteF ?_
          cases he with
          | no h5 h6 =>
            refine ⟨_, rfl, ixA hp 2 rfl ⟨_, _, false, rfl, h5, h6, fun H1 s1 => ⟨_, rfl, ?_⟩⟩⟩
            exact iteT (k _ s1)
          | @seq q us hq =>
            obtain ⟨t, ht, hty⟩ := tyS hq
            refine ⟨_, rfl, ixA hp 2 rfl ⟨.ref q, _, true, rfl, hty, kit_seq ht, fun H1 s1 => ⟨_, rfl, ?_⟩⟩⟩
            refine iteF ?_
            refine ⟨_, rfl, G, dx, fs, rfl, s1 _ _ h1, h4, _, rfl, ixA (hp.mono s1) 1 rfl ⟨G, n, g, rfl, hG.mono s1, nd, .inr ⟨hn, ?_⟩⟩⟩
            exact ⟨_, rfl, ixA (hp.mono s1) 2 rfl ⟨q, us, rfl, hq.mono s1, rfl, k _ s1⟩⟩
        | oth h5 h6 =>
          refine ⟨_, rfl, ixA hp 1 rfl ⟨y, .ty "str", _, .type "str", false, rfl, .ty "str", h5 _ (Same.refl _), h6, false, rfl, ?_⟩⟩
          exact iteT (k _ (Same.refl _))
      | @parts n m e t hp hn h5 h6 =>
        refine ⟨_, rfl, p, _, rfl, hp, rfl, _, rfl, ?_⟩
        refine iteF ?_
        refine ⟨_, rfl, ixA hp 1 rfl ⟨.str n, .ty "str", .type "str", .type "str", true, rfl, .ty "str", .base (.str n), kit_ty (by decide +kernel), true, rfl, ?_⟩⟩
        refine iteF ?_
        refine ⟨_, rfl, ixA hp 2 rfl ⟨e, t, false, rfl, h5, h6, fun H1 s1 => ⟨_, rfl, ?_⟩⟩⟩
        exact iteT (k _ s1)
      | @many n m q us hp hn hq hm =>
        refine ⟨_, rfl, p, _, rfl, hp, rfl, _, rfl, ?_⟩
        refine iteF ?_
        refine ⟨_, rfl, ixA hp 1 rfl ⟨.str n, .ty "str", .type "str", .type "str", true, rfl, .ty "str", .base (.str n), kit_ty (by decide +kernel), true, rfl, ?_⟩⟩
        refine iteF ?_
        obtain ⟨t, ht, hty⟩ := tyS hq
        refine ⟨_, rfl, ixA hp 2 rfl ⟨.ref q, _, true, rfl, hty, kit_seq ht, fun H1 s1 => ⟨_, rfl, ?_⟩⟩⟩
        refine iteF ?_
        refine ⟨_, rfl, G, dx, fs, rfl, s1 _ _ h1, h4, _, rfl, ixA (hp.mono s1) 1 rfl ⟨G, n, g, rfl, hG.mono s1, nd, .inl ⟨m, hn, ?_⟩⟩⟩
        refine ⟨_, rfl, ixA (hp.mono s1) 2 rfl ⟨q, us, rfl, hq.mono s1, rfl, ?_⟩⟩
        rw [decI, decide_eq_false (by omega)]
        exact k _ s1
end
end K39t
set_option Elab.async false
set_option linter.all false
set_option maxRecDepth 100000
set_option maxHeartbeats 8000000
/-! A list comprehension whose elements' calls may raise. -/
namespace CompX
open PySem PySem.Spec PyProof.Rows L2
/-- behind a block: as the library has it where it ran through; where it raised, what is left to be done by the block's own environment -/
def post (M : Model) (A : Around) (E : Value → Shared → Prop) (use : Option (Value → Sem Unit)) (Q : Value → Shared → Prop) (acc : Value) (be : Env) : Result → Shared → Prop
  | .ok f, t => compPost M A E use Q acc be.locals (.ok f) t
  | .error x, t => ∃ m, t.heap.Ns be.locals m ∧ ∀ hp, Heap.SameBut be.locals t.heap hp → wpAny M A (PySem.passOn "comprehension.variables-let-go" x be : Sem Value) (fun _ _ => False) E { t with heap := hp }
section
variable {M : Model} {A : Around} {E : Value → Shared → Prop} {s : Shared} {env : Env}
theorem comp_free {ex : Expr} {sc : Scope} {pos : Pos} {mk fst : Sem Value} {c1 : Comprehension} {cs : List Comprehension} {clo : List (Str × Addr)} {use : Option (Value → Sem Unit)} {Q : Value → Shared → Prop}
    (h1 : clausesOf ex = c1 :: cs) (h2 : ∀ x, foldedSetIterable c1.iter env x = pure x) (h3 : closureFor sc env = pure clo) (h4 : sc.kind = .function) (h5 : ∀ y ∈ sc.names, y.2 = .local → sc.names.lookup y.1 = some .local)
    (h : wpAny M A fst (fun x t1 => wpAny M A (pyIter x) (fun it t2 => wpAny M A mk (fun acc t3 => wpAny M A (newFunctionEnv sc env.globals clo [] env.qual none .none (some env)) (fun be t4 =>
      codeAny M A (.compStart ex 0 it acc { be with scope := relabel sc env }) (post M A E use Q acc { be with scope := relabel sc env }) t4) E t3) E t2) E t1) E s) :
    wpAny M A (comprehension ex sc env pos mk false fst use) Q E s := by
  unfold comprehension
  rw [h3, h1]
  refine wpAny_bind (wpAny_mono h (fun x t1 g1 => ?_) fun _ _ z => z)
  refine wpAny_bind (wpAny_standAt (wpAny_bind (wpAny_of_eq (h2 x) (wpAny_bind (wpAny_holding (wpAny_mono g1 (fun it t2 g2 => ?_) fun _ _ z => z))))))
  refine wpAny_standIf (wpAny_bind (wpAny_mono g2 (fun acc t3 g3 => ?_) fun _ _ z => z))
  refine wpAny_bind (wpAny_pure (wpAny_bind (wpAny_mono g3 (fun be t4 g4 => ?_) fun _ _ z => z)))
  dsimp only
  have own : ∀ (l : List (Str × NameKind)), (∀ y ∈ l, y ∈ sc.names) → ∀ y ∈ l, y.2 = .local → Env.kindOf { be with scope := relabel sc env } y.1 = some .local := fun l hl y hy e => lookup_relabel_local (h5 y (hl y hy) e)
  have in1 : ∀ y ∈ (sc.names.filter fun y => (y.2 == .local || y.2 == .cell) && y.1 != (".0" : Str)).reverse, y ∈ sc.names := fun y hy => (List.mem_filter.mp (List.mem_reverse.mp hy)).1
  have in2 : ∀ y ∈ (sc.names.filter fun y => (y.2 == .local || y.2 == .cell) && y.1 != (".0" : Str)).reverse.drop 1 ++ (sc.names.filter fun y => (y.2 == .local || y.2 == .cell) && y.1 != (".0" : Str)).reverse.take 1, y ∈ sc.names := fun y hy =>
    (List.mem_append.mp hy).elim (fun z => in1 y (List.mem_of_mem_drop z)) fun z => in1 y (List.mem_of_mem_take z)
  refine wpAny_holding (wpAny_bind (wpAny_attempt (wpAny_holding (wpAny_run (codeAny_mono g4 fun r t5 g5 => ?_)))))
  cases r with
  | ok f =>
    cases use with
    | none =>
      obtain ⟨m, hn, g6⟩ := g5
      exact wpAny_bind (wpAny_holding (wpAny_comp_letGo (cenv := { be with scope := relabel sc env }) h4 _ t5 m (own _ in1) hn fun hp _ _ sb => wpAny_pure (g6 hp sb)))
    | some u =>
      refine wpAny_bind (wpAny_rule (wpAny_bind (wpAny_holding (wpAny_mono g5 (fun _ t6 g6 => ?_) fun _ _ z => z))))
      obtain ⟨m, hn, g7⟩ := g6
      exact wpAny_bind (wpAny_comp_letGo (cenv := { be with scope := relabel sc env }) h4 _ t6 m (own _ in2) hn fun hp _ _ sb => wpAny_pure (g7 hp sb))
  | error x =>
    obtain ⟨m, hn, g6⟩ := g5
    exact wpAny_bind (wpAny_holding (wpAny_comp_letGo (cenv := { be with scope := relabel sc env }) h4 _ t5 m (own _ in1) hn fun hp _ _ sb => wpAny_mono (g6 hp sb) (fun _ _ z => z.elim) fun _ _ z => z))
end
section
variable {X : Cx} {pins : List (Addr × Obj)} {σ : L2.St} {H : Hp} {s s' : Shared} {W : WX}
/-- an exception that this frame noted is in the air: the state without it -/
theorem held (I : Inv X pins σ H s) {a : Addr} {B : Heap} {H' : Hp} {cls : Value} {d : Option Addr} (fl : HandSPX.HeldZ B X.stack a (Zc cls d) X.env.locals s'.heap) (hok : HOk X.prog X.w H' B) (ub : UB (frs X.stack) H H' s.heap B s'.heap) (na : H' a = none)
    (os : s'.os = s.os) (ag : AllBare s'.gens) (w : W cls d σ H') : XE X W (.ref a) s' := by
  obtain ⟨G, gIn, gOut⟩ := restrict s'.heap (fun b => (B.get? b).isSome || decide (b ∈ frs X.stack))
  have st := fl.1
  have fromB : ∀ b o, B.get? b = some o → G.get? b = some o := fun b o e => (gIn b (by simp [e])).trans (st b o e)
  have fromF : ∀ b, b ∈ frs X.stack → G.get? b = s'.heap.get? b := fun b hb => gIn b (by simp [hb])
  have back : ∀ b o, G.get? b = some o → s'.heap.get? b = some o ∧ ((B.get? b).isSome = true ∨ b ∈ frs X.stack) := by
    intro b o e
    by_cases q : ((B.get? b).isSome || decide (b ∈ frs X.stack)) = true
    · rw [gIn b q] at e
      exact ⟨e, by simpa using q⟩
    · rw [gOut b (by simpa using q)] at e
      cases e
  refine ⟨a, B, { s with heap := G, gens := s'.gens, drawn := s'.drawn, toks := s'.toks }, pins, σ, H', cls, d, rfl, ?_, fun b o e nf => ?_, Heap.UpToSlots.of_keeps (fun b o e => (back b o e).1), .inr (.inr fl), na, os, ag, w⟩
  · have slot : ∀ b o, s.heap.get? b = some o → b ∈ frs X.stack → ∃ sl, G.get? b = some { o with slots := sl } := fun b o e hb => by
      obtain ⟨sl, z⟩ := ub.slot b o e hb
      exact ⟨sl, (fromF b hb).trans z⟩
    refine I.call (ch := []) ⟨fun b o e n nf _ => fromB b o (ub.keep b o e n nf), fun b o e n hb _ => slot b o e hb, fun b o e n _ => ub.free b o e n, fun b o e _ => ?_, ub.tups, ub.frzs, ub.tbls⟩ (hok.kept fromB) ag (fun _ z => nomatch z)
    by_cases hb : b ∈ frs X.stack
    · obtain ⟨sl, z⟩ := slot b o e hb
      exact ⟨_, z⟩
    · obtain ⟨o2, z⟩ := ub.there b o e hb
      exact ⟨o2, fromB b o2 z⟩
  · obtain ⟨e2, hB⟩ := back b o e
    rcases hB with hB | hB
    · obtain ⟨o2, z⟩ := Option.isSome_iff_exists.mp hB
      have z2 := st b o2 z
      rw [e2] at z2
      cases z2
      exact z
    · exact absurd hB nf
end
section
variable {X : Cx} {pins pb : List (Addr × Obj)} {σ σb : L2.St} {H1 H3 : Hp} {s1 s3 s' : Shared} {W : WX} {E0 : XK}
/-- what a call in the block let out goes on to the def -/
theorem out {scope : Scope} {fp : List Addr} {ce : Env} {u : Value} {E1 : Value → Shared → Prop} (I3 : Inv X pins σ H3 s3) (hce : ce.locals = s3.heap.objs.size) (hfr : ce.frame = X.env.frame) (f3 : ∀ b ∈ fp, FpOk X pins H3 b) (hs : X.stack = X.env :: X.outer) (hf : X.env.frame = some X.env.locals)
    (tk : Takes X W) (hW : ∀ cls d H', E0 cls d H' → W cls d σ H') (Ib : Inv (X.blk s3 H3 scope ce fp) pb σb H1 s1) (c : CX X.prog X.w X.stack H1 s1 E0 u s') :
    wpAny (model X.prog X.w) X.A (noteFrame u ce) (fun _ t => ∃ m, t.heap.Ns ce.locals m ∧ ∀ hp, Heap.SameBut ce.locals t.heap hp → wpAny (model X.prog X.w) X.A (PySem.passOn "comprehension.variables-let-go" u ce : Sem Value) (fun _ _ => False) X.xe { t with heap := hp }) E1 s' := by
  obtain ⟨a, B, H', cls, d, rfl, fl, hokB, ub, na, os, ag, hE⟩ := c
  have I7 : Inv X pins σ H1 s1 := I3.call' (ch := fp) Ib.os Ib.base Ib.hok Ib.bare fun b hb => ⟨(f3 b hb).2.2.2.1, (f3 b hb).2.1, (f3 b hb).2.2.2.2.1, (f3 b hb).2.2.2.2.2⟩
  obtain ⟨m, hn, _⟩ := Ib.loc
  have hn : s1.heap.Ns ce.locals m := hn
  have nC : H1 ce.locals = none := Ib.free
  have fC : FpOk X pins H1 ce.locals := by
    rw [hce] at nC ⊢
    exact I3.fpOk (Nat.le_refl _) nC
  have nfC : ce.locals ∉ frs X.stack := by
    rw [hs]
    intro hm
    unfold frs at hm
    rw [List.filterMap_cons, hf] at hm
    rcases List.mem_cons.mp hm with z | z
    · exact fC.2.1 z
    · exact fC.2.2.1 z
  obtain ⟨oC, es, ep, hoC, hdC, hk, hm⟩ := hn
  have BC : B.get? ce.locals = some oC := ub.keep _ _ hoC nC nfC
  have nC' : H' ce.locals = none := ub.free _ _ hoC nC
  have hC' : s'.heap.get? ce.locals = some oC := fl.1 _ _ BC
  have ndC : ∀ vs, oC.data ≠ .fields vs := fun vs z => by rw [hdC] at z; cases z
  have hA : X.A.frames = some (X.env :: X.outer) := by rw [I7.ok.frames, hs]
  have fl' : HandSPX.FlyingZ B (X.env :: X.outer) a (Zc cls d) s'.heap := by rw [← hs]; exact fl
  have e1 : noteFrame (.ref a) ce = noteFrame (.ref a) X.env := by
    unfold noteFrame PySem.frameOf
    rw [hfr]
  rw [e1]
  refine HandSPX.looks_onZ Zc.steady hA hf fl' fun h1 hld up1 => ?_
  obtain ⟨sl, h1C⟩ := up1 _ _ hC' ndC
  refine ⟨m, ⟨_, es, ep, h1C, hdC, hk, hm⟩, fun h2 sb => ?_⟩
  obtain ⟨k1, k2, k3, oe, vs, T, oT, ts, he, hz, hd, hv1, hnT, hTe, hT, hdT, hT3⟩ := hld
  have aC : a ≠ ce.locals := fun z => by
    rw [z, h1C] at he
    cases he
    exact ndC _ hd
  have TC : T ≠ ce.locals := fun z => by
    rw [z, h1C] at hT
    cases hT
    exact ndC _ hdT
  have he2 := (sb.2 a aC).trans he
  have hB3 : ∀ b o, (PySem.W.hideAll B [ce.locals]).get? b = some o → b ≠ ce.locals ∧ B.get? b = some o := fun b o e => by
    refine ⟨fun z => ?_, PySem.W.of_hideAll _ e⟩
    rw [z, PySem.W.hideAll_none [ce.locals] (by simp)] at e
    cases e
  have noB3 : ∀ b, B.get? b = none → (PySem.W.hideAll B [ce.locals]).get? b = none := fun b hb => by
    cases q : (PySem.W.hideAll B [ce.locals]).get? b with
    | none => rfl
    | some o => rw [(hB3 b o q).2] at hb; cases hb
  have inB3 : ∀ b o, B.get? b = some o → b ≠ ce.locals → (PySem.W.hideAll B [ce.locals]).get? b = some o := fun b o e n => PySem.W.hideAll_get _ e (by simpa using n)
  have fr2 : h2.FunFrames (PySem.W.hideAll B [ce.locals]) (X.env :: X.outer) := by
    have k4 : ∀ L ∈ frs (X.env :: X.outer), (PySem.W.hideAll B [ce.locals]).get? L = none := fun L hL => noB3 L (k3.mem hL).1
    have gen : ∀ l : List Env, (∀ L ∈ frs l, L ∈ frs X.stack) → h1.FunFrames B l → h2.FunFrames B l := by
      intro l
      induction l with
      | nil => intro _ _; trivial
      | cons en l ih =>
        intro hsub hl
        obtain ⟨x1, ⟨L, o, x2, x3, x4, x5⟩, x6⟩ := hl
        have hL : L ∈ frs (en :: l) := by unfold frs; rw [List.filterMap_cons, x2]; exact List.mem_cons_self
        refine ⟨x1, ⟨L, o, x2, x3, ?_, x5⟩, ih (fun L2 h2 => hsub L2 ?_) x6⟩
        · rw [sb.2 L fun z => nfC (by rw [← z]; exact hsub L hL)]
          exact x4
        · unfold frs at h2 ⊢
          rw [List.filterMap_cons, x2]
          exact List.mem_cons_of_mem _ h2
    exact funFrames_none (gen _ (fun L hL => by rw [hs]; exact hL) k3) k4
  have held2 : HandSPX.HeldZ (PySem.W.hideAll B [ce.locals]) (X.env :: X.outer) a (Zc cls d) X.env.locals h2 :=
    ⟨fun b o e => (sb.2 b (hB3 b o e).1).trans (k1 b o (hB3 b o e).2), noB3 _ k2, fr2, oe, vs, T, oT, ts, he2, hz, hd, hv1, noB3 _ hnT, hTe, (sb.2 T TC).trans hT, hdT, hT3⟩
  unfold PySem.passOn
  refine wpAny_bind (wpAny_field he2 hd hv1 ?_)
  rw [if_neg (show ¬ ((Value.ref T == Value.none) = true) from by simp), hfr, hf]
  refine wpAny_bind (HandSPX.setFlight_onZ held2 fun h3 held3 up3 => ?_)
  refine wpAny_throw (tk _ _ ?_)
  rw [← hs] at held3
  -- the state without the block's names
  have I8 : Inv X pins σ H1 { s1 with heap := PySem.W.hideAll s1.heap [ce.locals] } := I7.turned (t' := s1.toks) (fun b o n e => PySem.W.hideAll_get _ e (by simpa using n)) fC.1 fC.2.1 fC.2.2.2.1 fC.2.2.2.2.1 fC.2.2.2.2.2
  have old : ∀ b o, (PySem.W.hideAll s1.heap [ce.locals]).get? b = some o → b ≠ ce.locals ∧ s1.heap.get? b = some o := fun b o e => by
    refine ⟨fun z => ?_, PySem.W.of_hideAll _ e⟩
    rw [z, PySem.W.hideAll_none [ce.locals] (by simp)] at e
    cases e
  refine held I8 held3 (fun b o q => (hokB b o q).stay (fun b2 u2 hc r => inB3 b2 u2 r fun z => ?_) (fun _ r => r) fun _ _ r => r) ⟨fun b o e n nf => inB3 b o (ub.keep b o (old b o e).2 n nf) (old b o e).1, fun b o e hb => ?_, fun b o e n => ub.free b o (old b o e).2 n, fun b o e nf => ?_, ub.tups, ub.frzs, ub.tbls⟩ na os ag (hW _ _ _ hE)
  · rcases hc with hc | hc
    · rw [← hc, z, nC'] at q
      cases q
    · rw [z, nC'] at hc
      cases hc
  · obtain ⟨sl1, z1⟩ := ub.slot b o (old b o e).2 hb
    have nd : ∀ vs, o.data ≠ .fields vs := by
      obtain ⟨_, o2, e2, hd2⟩ := I7.stack.mem hb
      rw [(old b o e).2] at e2
      cases e2
      exact hd2
    obtain ⟨sl2, z2⟩ := up1 b _ z1 nd
    have z3 := (sb.2 b (old b o e).1).trans z2
    obtain ⟨sl3, z4⟩ := up3 b _ z3 nd
    exact ⟨sl3, z4⟩
  · obtain ⟨o2, z⟩ := ub.there b o (old b o e).2 nf
    exact ⟨o2, inB3 b o2 z (old b o e).1⟩
end
section
variable {X : Cx}
theorem lcX_core {pins : List (Addr × Obj)} {s : Shared} {σ : L2.St} {H : Hp} {Q : VK} {elt tg iter : Expr} {ifs : List Expr} {sc : Scope} {own : List (Str × Nat)} {pos pos2 : Pos} {wi : TI} {g : TG} {tt : TT} {te : TE} {use : Option (Value → Sem Unit)} {Qf : Value → Shared → Prop} {E0 : XK} {W : WX}
    (hc : X.calm = true) (hN : X.N.Nodup) (I : Inv X pins σ H s) (hi : PI X tg iter wi) (ok : BlkOk X.N X.env.scope sc own)
    (hg : ∀ (t : Shared) (J : Hp) (C : Addr) (cl : List (Str × Addr)) (fp : List Addr), PG (X.blk t J sc (compEnvC sc cl C X.env) fp) tg g) (ht : ∀ (t : Shared) (J : Hp) (C : Addr) (cl : List (Str × Addr)) (fp : List Addr), PTs (X.blk t J sc (compEnvC sc cl C X.env) fp) ifs tt)
    (he : ∀ (t : Shared) (J : Hp) (C : Addr) (cl : List (Str × Addr)) (fp : List Addr) (pn : List (Addr × Obj)) (xe : Value → Shared → Prop), Passes (CX X.prog X.w) ((X.blk t J sc (compEnvC sc cl C X.env) fp).tr pn xe) E0 → PE ((X.blk t J sc (compEnvC sc cl C X.env) fp).tr pn xe) elt te)
    (hfs : ∀ x, foldedSetIterable iter X.env x = pure x) (hs : X.stack = X.env :: X.outer) (hf : X.env.frame = some X.env.locals) (tk : Takes X W) (hW : ∀ cls d J, E0 cls d J → W cls d σ J) (h : tLc wi g tt te (own.map (·.2)) σ H Q)
    (done : ∀ D C t m J, Inv X pins σ J t → Q (.ref D) J → t.heap.Ns C m → FpOk X pins J C → compPost (model X.prog X.w) X.A X.xe use Qf (.ref D) C (.ok .next) t) :
    wpAny (model X.prog X.w) X.A (comprehension (.ListComp elt [⟨tg, iter, ifs, 0⟩] sc pos) sc X.env pos2 (newList []) false (eval iter X.env) use) Qf X.xe s := by
  have cap : ∀ y ∈ sc.names, y.2 = .free → ∃ c, X.env.cells.lookup y.1 = some c := fun y hy e => (ok.free y hy e).elim (fun k => I.ok.has _ (.inl k)) fun k => I.ok.has _ (.inr k)
  refine comp_free rfl hfs (closure_ok cap) ok.kind (fun y hy e => by rw [ok.uniq y hy, e]) (thn (hi.run pins s σ H _ I h) fun xv t1 hx => thn hx fun itv t2 h2 => ?_)
  obtain ⟨it, fp, tn, J, H2, e, I2, T, st2, f2, q⟩ := h2
  subst e
  refine wpAny_newObj_type (newEnv_comp ?_) (by show 0 ≤ sizeLine; decide)
  generalize hD : t2.heap.objs.size = D
  have nD : H2 D = none := I2.hok.fresh (Nat.le_of_eq hD)
  obtain ⟨Wv, ⟨m0, w0⟩, turn⟩ := q D nD
  generalize ht3 : ({ t2 with heap := t2.heap.push { cls := .type "list", data := .seq ([] : List Value).toArray } } : Shared) = t3
  have hp3 : t3.heap = t2.heap.push { cls := .type "list", data := .seq ([] : List Value).toArray } := by rw [← ht3]
  have I3 : Inv X pins σ (upd H2 D (.lst [])) t3 := by
    rw [← ht3]
    refine I2.laid (t' := t2.toks) (fun b o e => Heap.get?_push_of_some _ e) (Nat.le_of_eq hD) ⟨Nat.zero_le _, [], 0, .nil, ?_⟩
    rw [← hD]
    exact Heap.get?_push_size _ rfl
  have lt2 : ∀ b ∈ fp, b < t2.heap.objs.size := fun b hb => let ⟨_, e, _⟩ := T.obj _ _ st2 b hb; Heap.lt_size e
  have f3 : ∀ b ∈ fp, FpOk X pins (upd H2 D (.lst [])) b ∧ b < t3.heap.objs.size := fun b hb => by
    refine ⟨⟨?_, (f2 b hb).2⟩, by rw [hp3, Heap.size_push]; exact Nat.lt_succ_of_lt (lt2 b hb)⟩
    rw [upd_ne (by rw [← hD]; exact Nat.ne_of_lt (lt2 b hb))]
    exact (f2 b hb).1
  have st3 : tn 0 t3.heap := T.keep _ _ _ st2 fun b _ o e => by rw [hp3]; exact Heap.get?_push_of_some _ e
  have I4 := block_start I3 ok hN f3
  have pg := hg t3 (upd H2 D (.lst [])) t3.heap.objs.size (cellsFrom (t3.heap.objs.size + 1) sc.names (cloFrom X.env.cells sc.names [])) fp
  have pt := ht t3 (upd H2 D (.lst [])) t3.heap.objs.size (cellsFrom (t3.heap.objs.size + 1) sc.names (cloFrom X.env.cells sc.names [])) fp
  have pe := he t3 (upd H2 D (.lst [])) t3.heap.objs.size (cellsFrom (t3.heap.objs.size + 1) sc.names (cloFrom X.env.cells sc.names [])) fp
  show codeAny _ _ (.compStart (.ListComp elt [⟨tg, iter, ifs, 0⟩] sc pos) 0 (.ref it) (.ref D) (compEnvC sc (cellsFrom (t3.heap.objs.size + 1) sc.names (cloFrom X.env.cells sc.names [])) t3.heap.objs.size X.env))
    (post (model X.prog X.w) X.A X.xe use Qf (.ref D) (compEnvC sc (cellsFrom (t3.heap.objs.size + 1) sc.names (cloFrom X.env.cells sc.names [])) t3.heap.objs.size X.env)) { t3 with heap := pushCells (t3.heap.push { cls := .type "dict", data := .dict #[] }) sc.names }
  have nfp : ∀ b ∈ fp, (upd H2 D (.lst [])) b = none := fun b hb => (f3 b hb).1.1
  generalize hce : compEnvC sc (cellsFrom (t3.heap.objs.size + 1) sc.names (cloFrom X.env.cells sc.names [])) t3.heap.objs.size X.env = ce at I4 pg pt pe ⊢
  have cL : ce.locals = t3.heap.objs.size := by rw [← hce]; rfl
  have cF : ce.frame = X.env.frame := by rw [← hce]; rfl
  generalize hH3 : upd H2 D (.lst []) = H3 at I3 I4 pg pt pe w0 nfp f3
  generalize ht4 : ({ t3 with heap := pushCells (t3.heap.push { cls := .type "dict", data := .dict #[] }) sc.names } : Shared) = t4 at I4 ⊢
  have st4 : tn 0 t4.heap := T.keep _ _ _ st3 fun b _ o e => by rw [← ht4]; exact pushCells_keeps _ _ _ _ (Heap.get?_push_of_some _ e)
  have stat : ∀ {τ : L2.St} {J' : Hp} {t : Shared}, Inv (X.blk t3 H3 sc ce fp) [] τ J' t → (∀ b ∈ fp, J' b = none) → ∀ b ∈ fp, FpOk (X.blk t3 H3 sc ce fp) [] J' b := fun {τ J' t} I' hn b hb =>
    ⟨hn b hb, (I'.ok.exf b hb).1, I'.ok.exfs b hb, .inl hb, fun x c e => (I'.ok.exf b hb).2 x c e, fun p hp => absurd (show p ∈ ([] : List (Addr × Obj)) ++ [] from hp) (by simp)⟩
  have loop : codeAny (model X.prog X.w) X.A (.compLoop (.ListComp elt [⟨tg, iter, ifs, 0⟩] sc pos) 0 (.ref it) (.ref D) ce) (post (model X.prog X.w) X.A X.xe use Qf (.ref D) ce) t4 := by
    refine compLoop_any (fun n t => ∃ i J', Inv (X.blk t3 H3 sc ce fp) [] (wipe σ (own.map (·.2))) J' t ∧ tn i t.heap ∧ (∀ b ∈ fp, J' b = none) ∧ Wv i n J') ?_ m0 ⟨0, H3, I4, st4, nfp, w0⟩
    rintro n t5 ⟨i, H5, I5, st5, n5, w5⟩
    rcases turn i n H5 w5 with ⟨stop, qq⟩ | ⟨go, Nx, hNx, step⟩
    · refine thnF (T.done (X.blk t3 H3 sc ce fp) rfl rfl rfl hc i [] t5 _ H5 (fun _ _ => False) I5 (stat I5 n5) st5 stop) fun r t6 ⟨hr, I6⟩ => ?_
      subst hr
      have I7 : Inv X pins σ H5 t6 := I3.call' (ch := fp) I6.os I6.base I6.hok I6.bare fun b hb => ⟨(f3 b hb).1.2.2.2.1, (f3 b hb).1.2.1, (f3 b hb).1.2.2.2.2.1, (f3 b hb).1.2.2.2.2.2⟩
      have nC : H5 ce.locals = none := I6.free
      obtain ⟨m, hn, _⟩ := I6.loc
      have hn : t6.heap.Ns ce.locals m := hn
      show compPost (model X.prog X.w) X.A X.xe use Qf (.ref D) ce.locals (.ok .next) t6
      refine done D ce.locals t6 m H5 I7 qq hn ?_
      rw [cL] at nC ⊢
      exact I3.fpOk (Nat.le_refl _) nC
    · refine thnF (T.item (X.blk t3 H3 sc ce fp) rfl rfl rfl hc i [] t5 _ H5 (fun _ _ => False) I5 (stat I5 n5) st5 go) fun r t6 ⟨u, hr, h6⟩ => ?_
      subst hr
      refine thnF h6 fun _ t7 ⟨x, H7, I7, r7, y7, st7, n7⟩ => ?_
      have I7p := I7.pinned (stat I7 n7) (T.obj _ _ st7)
      refine thnF (pg.run _ t7 _ H7 x u _ I7p r7 (step x H7 y7)) fun _ t8 ⟨σ8, H8, I8, hw8, q8⟩ => ?_
      refine thnF (pt.run _ t8 σ8 H8 _ I8 q8) fun b t9 ⟨H9, I9, q9⟩ => ?_
      have fin : ∀ {t : Shared} {J' : Hp}, Inv (X.blk t3 H3 sc ce fp) ([] ++ pinsAt fp t7.heap) σ8 J' t → Nx J' → ∃ m, m < n ∧ ∃ i J', Inv (X.blk t3 H3 sc ce fp) [] (wipe σ (own.map (·.2))) J' t ∧ tn i t.heap ∧ (∀ b ∈ fp, J' b = none) ∧ Wv i m J' := fun {t J'} I' nx => by
        obtain ⟨m', hm, w'⟩ := hNx J' nx
        have pin' : ∀ b ∈ fp, ∀ o, t7.heap.get? b = some o → t.heap.get? b = some o ∧ J' b = none := fun b hb o e =>
          let z := I'.pin (b, o) (List.mem_append_right _ (List.mem_append_right _ (mem_pinsAt hb e)))
          ⟨z.1, z.2.1⟩
        have hl : (wipe σ (own.map (·.2))).length = σ8.length := by rw [← hw8, wipe_length]
        refine ⟨m', hm, i + 1, J', (I'.unpinned (pins := [])).weak hl (fun j v e => by rw [← hw8] at e; exact (wipe_some e).1), T.keep _ _ _ st7 fun b hb o e => (pin' b hb o e).1, fun b hb => ?_, w'⟩
        obtain ⟨o, e, _⟩ := T.obj _ _ st7 b hb
        exact (pin' b hb o e).2
      cases b with
      | false =>
        simp only [Bool.false_eq_true, if_false] at q9 ⊢
        exact fin I9 q9
      | true =>
        simp only [if_true] at q9 ⊢
        have pex := pe ((X.blk t3 H3 sc ce fp).pn ++ ([] ++ pinsAt fp t7.heap)) (fun u t => ∃ (pb : List (Addr × Obj)) (σb : L2.St) (J1 : Hp) (t1 : Shared), Inv (X.blk t3 H3 sc ce fp) pb σb J1 t1 ∧ CX X.prog X.w X.stack J1 t1 E0 u t)
          (fun pins2 τ J1 t1 u t I' c => ⟨_, τ, J1, t1, ⟨I9.ok, I'.os, I'.bare, I'.base, I'.loc, I'.cell, I'.free, I'.freeC, (fun p hp => I'.pin p hp), I'.hok, I'.len⟩, c⟩)
        refine wpAny_mono (pex.run [] t9 σ8 H9 _ (I9.toTry _) q9) (fun z t10 ⟨yv, H10, I10, r10, acc, hD10, hz10, nx⟩ => ?_) fun u t ⟨pb, σb, J1, t1, Ib, c⟩ => out I3 cL cF (fun b hb => (f3 b hb).1) hs hf tk hW Ib c
        have I10' : Inv (X.blk t3 H3 sc ce fp) ([] ++ pinsAt fp t7.heap) σ8 H10 t10 := ⟨I9.ok, I10.os, I10.bare, I10.base, I10.loc, I10.cell, I10.free, I10.freeC, (fun p hp => I10.pin p (by rw [List.append_nil]; exact hp)), I10.hok, I10.len⟩
        exact app_ok (X := X.blk t3 H3 sc ce fp) I10' hD10 hz10 r10 fun t11 I11 => fin I11 nx
  exact codeAny_compStart_list loop (T.self X.A 0 _ _ _ st4 loop)
/-- [..] as a value -/
theorem pe_lcX {elt tg iter : Expr} {ifs : List Expr} {sc : Scope} {own : List (Str × Nat)} {pos : Pos} {wi : TI} {g : TG} {tt : TT} {te : TE} {E0 : XK} (hc : X.calm = true) (hN : X.N.Nodup) (hi : PI X tg iter wi) (ok : BlkOk X.N X.env.scope sc own)
    (hg : ∀ (t : Shared) (J : Hp) (C : Addr) (cl : List (Str × Addr)) (fp : List Addr), PG (X.blk t J sc (compEnvC sc cl C X.env) fp) tg g) (ht : ∀ (t : Shared) (J : Hp) (C : Addr) (cl : List (Str × Addr)) (fp : List Addr), PTs (X.blk t J sc (compEnvC sc cl C X.env) fp) ifs tt)
    (he : ∀ (t : Shared) (J : Hp) (C : Addr) (cl : List (Str × Addr)) (fp : List Addr) (pn : List (Addr × Obj)) (xe : Value → Shared → Prop), Passes (CX X.prog X.w) ((X.blk t J sc (compEnvC sc cl C X.env) fp).tr pn xe) E0 → PE ((X.blk t J sc (compEnvC sc cl C X.env) fp).tr pn xe) elt te)
    (hs : X.stack = X.env :: X.outer) (hf : X.env.frame = some X.env.locals) (tk : Takes X fun cls d _ J => E0 cls d J) (hfs : ∀ x, foldedSetIterable iter X.env x = pure x := by intro _; rfl) :
    PE X (.ListComp elt [⟨tg, iter, ifs, 0⟩] sc pos) (tLc wi g tt te (own.map (·.2))) := by
  refine ⟨fun pins s σ H Q I h => ?_⟩
  rw [eval_ListComp]
  refine lcX_core hc hN I hi ok hg ht he hfs hs hf tk (fun _ _ _ z => z) h fun D C t m J I' q hn f => ⟨m, hn, fun h2 sb => ?_⟩
  obtain ⟨f0, f1, f2, f3, f4, f5⟩ := f
  exact ⟨.ref D, J, I'.turned (t' := t.toks) (fun b o hb e => (sb.2 b hb).trans e) f0 f1 f3 f4 f5, rfl, q⟩
/-- name = [..] on one line, the name a local -/
theorem ps_setLcX {i : Nat} {y : Str} {py : Pos} {elt tg iter : Expr} {ifs : List Expr} {sc : Scope} {own : List (Str × Nat)} {pos spos : Pos} {wi : TI} {g : TG} {tt : TT} {te : TE} {E0 : XK} (hc : X.calm = true) (hN : X.N.Nodup) (hy : X.N[i]? = some y) (hyl : X.env.scope.names.lookup y = some .local)
    (hsw : swapsWith (.ListComp elt [⟨tg, iter, ifs, 0⟩] sc pos) (some (.Name y py)) spos.line X.env = pure true) (hi : PI X tg iter wi) (ok : BlkOk X.N X.env.scope sc own)
    (hg : ∀ (t : Shared) (J : Hp) (C : Addr) (cl : List (Str × Addr)) (fp : List Addr), PG (X.blk t J sc (compEnvC sc cl C X.env) fp) tg g) (ht : ∀ (t : Shared) (J : Hp) (C : Addr) (cl : List (Str × Addr)) (fp : List Addr), PTs (X.blk t J sc (compEnvC sc cl C X.env) fp) ifs tt)
    (he : ∀ (t : Shared) (J : Hp) (C : Addr) (cl : List (Str × Addr)) (fp : List Addr) (pn : List (Addr × Obj)) (xe : Value → Shared → Prop), Passes (CX X.prog X.w) ((X.blk t J sc (compEnvC sc cl C X.env) fp).tr pn xe) E0 → PE ((X.blk t J sc (compEnvC sc cl C X.env) fp).tr pn xe) elt te)
    (hs : X.stack = X.env :: X.outer) (hf : X.env.frame = some X.env.locals) (tk : Takes X fun cls d _ J => E0 cls d J) (hfs : ∀ x, foldedSetIterable iter X.env x = pure x := by intro _; rfl) :
    PS X (.Assign [.Name y py] (.ListComp elt [⟨tg, iter, ifs, 0⟩] sc pos) spos) (tAsg (tLc wi g tt te (own.map (·.2))) (gName i)) := by
  refine ⟨fun pins s σ H D I h => ?_⟩
  rw [exec_Assign_Name_used _ _ _ _ hsw]
  refine wpAny_bind (wpAny_standAt (wpAny_bind ?_))
  show wpAny _ X.A (do let _ ← comprehension (.ListComp elt [⟨tg, iter, ifs, 0⟩] sc pos) sc X.env (firstIterPos [⟨tg, iter, ifs, 0⟩] pos) (newList []) false (eval iter X.env) (some (assign (.Name y py) X.env))) _ _ s
  have h : tLc wi g tt te (own.map (·.2)) σ H (fun x H1 => gName i x σ H1 D.nx) := h
  refine wpAny_bind (thn (lcX_core (Qf := fun _ t => SP X pins D .next t) hc hN I hi ok hg ht he hfs hs hf tk (fun _ _ _ z => z) h fun L C t m J I' q hn f => ?_) fun _ t hq => wpAny_pure (wpAny_pure hq))
  show wpAny _ _ (assign (.Name y py) X.env (.ref L)) _ _ _
  refine wpAny_assign_Name (store_ok2 (v := V.ref L) I' hN hy (.inl hyl) rfl (fun t2 I2 ⟨a, sb, ha⟩ => ?_) (.inr hyl))
  obtain ⟨f0, f1, f2, f3, f4, f5⟩ := f
  have nCa : C ≠ a := by
    rcases ha with z | z
    · rw [z]; exact f1
    · exact fun e => f4 y a z e.symm
  refine ⟨m, hn.sameBut sb nCa, fun h3 sb3 => ?_⟩
  exact ⟨_, J, I2.turned (t' := t2.toks) (fun b o hb e => (sb3.2 b hb).trans e) f0 f1 f3 f4 f5, q⟩
end
end CompX
set_option Elab.async false
set_option linter.all false
set_option maxRecDepth 100000
set_option maxHeartbeats 8000000
namespace K39t
open PySem PySem.Spec L2 K39 GB
abbrev sChk : Stmt := topS 30
abbrev sPar : Stmt := topS 31
abbrev sChecked : Stmt := topS 999
def chkN : List Str := ["ground", "thing", "names", "path", "word", "bound"]
def parN : List Str := ["ground", "things", "names", "path", "place", "thing"]
/-- a term, or a thing whose first part that is none stands at a path -/
def spChkX (K : PySem.W.Frag) (C CB : Addr) (z : Nat) : Sp := fun vs H Q E => ∃ (G a b : Addr) (x : V) (ns : List Str) (g : GD) (path : List V), vs = [.ref G, x, .ref a, .ref b] ∧ IsGr C H G g ∧ (g.letters.map (·.1)).Nodup ∧ z ≤ 1000 ∧
  SqT K H a (sts ns) ∧ ns.length + z ≤ 1000 ∧ SqT K H b path ∧ path.length + z ≤ 1000 ∧
  ((∃ d t, Dp K H x d ∧ IsTm d t ∧ TmOk g.letters ns t ∧ t.size ≤ z ∧ ∀ u H', Same H H' → Dp K H' u t.d → Q u H') ∨
   (∃ r, BadV K H g.letters z ns x r ∧ ∀ pb d H', Same H H' → SqT K H' pb (path ++ pin r) → H' d = some (.xd [("path", .ref pb)]) → E (.ref CB) (some d) H'))
def spParX (K : PySem.W.Frag) (C CB : Addr) (z : Nat) : Sp := fun vs H Q E => ∃ (G q a b : Addr) (us : List V) (ns : List Str) (g : GD) (path : List V), vs = [.ref G, .ref q, .ref a, .ref b] ∧ IsGr C H G g ∧ (g.letters.map (·.1)).Nodup ∧ z ≤ 999 ∧ SqA K H q us ∧ us.length ≤ 1000 ∧
  SqT K H a (sts ns) ∧ ns.length + z ≤ 999 ∧ SqT K H b path ∧ path.length + z ≤ 999 ∧
  ((∃ (ds : List PyData) (ks : List GB.Tm), DpAll K H us ds ∧ ds.length = ks.length ∧ (∀ (i : Nat) (d : PyData) (k : GB.Tm), ds[i]? = some d → ks[i]? = some k → IsTm d k) ∧ (∀ (i : Nat) (k : GB.Tm), ks[i]? = some k → TmOk g.letters ns k ∧ k.size ≤ z) ∧
      ∀ l ys H', Same H H' → H' l = some (.lst ys) → DpAll K (hid [l] H') ys (ks.map GB.Tm.d) → Q (.ref l) H') ∨
   (∃ (i : Nat) (y : V) (r : List Nat), us[i]? = some y ∧ (∀ j x, j < i → us[j]? = some x → GoodV K H g.letters ns z x) ∧ BadV K H g.letters z ns y r ∧ ∀ pb d H', Same H H' → SqT K H' pb (path ++ pin (i :: r)) → H' d = some (.xd [("path", .ref pb)]) → E (.ref CB) (some d) H'))
theorem nsAt_no {w n : Str} (i : Nat) (ns : List Str) (h : w ≠ "bind") : nsAt w n i ns = ns := by
  unfold nsAt
  rw [if_neg (fun z => h z.1)]
theorem FnOk.quiet {P : Program} {w : World} {K : PySem.W.Frag} {mg : Str → Option Value} {base : Heap} {k : Nat} {f : Addr} {fd : FuncData} {ps : List Str} {sp sp' : Sp} (F : FnOk P w K mg base (L2.CX P w) k f fd ps sp)
    (h : ∀ vs H Q E, sp' vs H Q E → sp vs H Q (fun _ _ _ => False)) : FnOk P w K mg base CX0 k f fd ps sp' :=
  ⟨fun vs H Q E q => F.len vs H Q _ (h _ _ _ _ q), fun A outer s H args us vs Q E hr he hb hv hs => codeAny_mono (F.run A outer s H args us vs Q (fun _ _ _ => False) hr he hb hv (h _ _ _ _ hs)) fun r s' hR => by
    cases r with
    | ok c => cases c <;> exact hR
    | error e => obtain ⟨_, _, _, _, _, _, _, _, _, _, _, _, z⟩ := hR; exact z⟩
section
variable {P : Program} {w : World} {K : PySem.W.Frag} {mg : Str → Option Value} {base : Heap} {C CB : Addr}
theorem scChk : FnScope chkN ["ground", "thing", "names", "path"] (defScope sChk) := ⟨rfl, rfl, rfl, by decide +kernel, rfl, by decide +kernel, by decide +kernel⟩
theorem scPar : FnScope parN ["ground", "things", "names", "path"] (defScope sPar) := ⟨rfl, rfl, rfl, by decide +kernel, rfl, by decide +kernel, by decide +kernel⟩
theorem ok_par {f f2 : Addr} {fd fd2 : FuncData} (F : Fun K "_checked_parts" "_checked_parts" sPar f fd) (T : Bl mg) {z : Nat} (ihC : FnOk P w K mg base (L2.CX P w) (4 + 2 * z) f2 fd2 ["ground", "thing", "names", "path"] (spChkX K C CB z))
    (mgC : mg "checked_within" = some (.ref f2)) (kC : PySem.W.keepIn K (.ref f2) = true) (bC : Binds K fd2 ["ground", "thing", "names", "path"] []) : FnOk P w K mg base (L2.CX P w) (4 + 2 * z + 1) f fd ["ground", "things", "names", "path"] (spParX K C CB z) := by
  refine F.okX scPar (fun vs H Q E h => ?_) (fun cdv A outer s H vs Q E hr h => ?_)
  · obtain ⟨G, q, a, b, us, ns, g, path, rfl, _⟩ := h
    rfl
  · obtain ⟨G, q, a, b, us, ns, g, path, rfl, hG, nd, hz, hq, hul, ha, hna, hb, hnb, h⟩ := h
    refine ⟨_, pss_one (ps_ret (CompX.pe_lcX (own := [("place", 4), ("thing", 5)]) (g := gTup K 2 (gCons (gName 4) (gCons (gName 5) gNil))) (tt := tYes) rfl scPar.nd (pi_enumW rfl T.enum (pa_cons (pv 1) (pa_nil))) (blkOk_by (own := [("place", 4), ("thing", 5)]) (N := parN) (sc := defScope sPar) (by decide +kernel)) (fun _ _ _ _ _ => pg_tup rfl (pgs_cons (pg_name (i := 4) scPar.nd rfl (.inl rfl)) (pgs_cons (pg_name (i := 5) scPar.nd rfl (.inl rfl)) (pgs_nil)))) (fun _ _ _ _ _ => pts_nil) (fun _ _ _ _ _ pn xe hx => pe_call ihC hr rfl mgC kC bC .nil hx (pa_cons (pv 0) (pa_cons (pv 5) (pa_cons (pv 2) (pa_cons (pe_op (r := rCatA K) op_catA (pv 3) (pe_tup (pa_cons (pv 4) (pa_nil)))) (pa_nil)))))) rfl rfl (takes_of rfl rfl rfl rfl))), ?_⟩
    obtain ⟨kb, hc⟩ := sqV (hq.mono same_hid0)
    refine ⟨_, rfl, q, us, kb, [], rfl, hc, fun J WJ D nD => ?_⟩
    rcases h with ⟨ds, ks, hD, hlen, hT, hO, k⟩ | ⟨i0, y, r, hy, hgood, hbad, qe⟩
    · have hul2 : us.length = ks.length := (dps_len hD).trans hlen
      refine lc_it WJ (fun i H' => ∃ acc, Same H H' ∧ H' D = some (.lst acc) ∧ acc.length = i ∧ DpAll K (hid [D] H') acc ((ks.take i).map GB.Tm.d)) ⟨[], same_new nD, upd_same, rfl, .nil⟩ (fun i H' _ ⟨acc, s', _⟩ => hc.mono (hid_same s')) ?_ ?_
      · rintro i x H3 H3' hi ⟨acc, s3, h3, hl3, d3⟩ ⟨Tp, y1, y2, rfl, nT, rfl, e1, e2⟩
        obtain rfl := Option.some.inj e1
        obtain ⟨H4, s4, h4, e4⟩ := lay (o := .tup [.int (i : Nat), y2]) nT
        rw [e4]
        obtain ⟨dk, hdk, Dk⟩ := dps_at hD e2
        have hik : i < ks.length := by rw [← hul2]; exact hi
        have hki : ks[i]? = some ks[i] := List.getElem?_eq_getElem hik
        refine ⟨Tp, _, rfl, SqT.of h4, rfl, _, _, rfl, _, _, rfl, rfl, ?_⟩
        refine ⟨rfl, ?_⟩
        refine ⟨_, rfl, _, rfl, _, rfl, _, rfl, _, rfl, by show 1 ≤ sizeLine; decide, fun pt npt => ?_⟩
        obtain ⟨H6, s6, h6, e6⟩ := lay (o := .tup [.int (i : Nat)]) npt
        rw [e6]
        have S6 : Same H H6 := (s3.trans s4).trans s6
        refine catA (Same.seqT S6 hb) (SqT.of h6) (by rw [sizeLine_eq]; simp; omega) fun pb H7 s7 hpb => ?_
        have S7 := S6.trans s7
        obtain ⟨ok, zk⟩ := hO i _ hki
        refine ⟨G, a, pb, y2, ns, g, _, rfl, hG.mono S7, nd, by omega, Same.seqT S7 ha, by omega, hpb, by simp; omega, .inl ⟨dk, ks[i], dp_mono S7 Dk, hT i dk _ hdk hki, ok, zk, fun u H8 s8 hu => ?_⟩⟩
        have S38 : Same H3 H8 := ((s4.trans s6).trans s7).trans s8
        refine ⟨acc, S38 _ _ h3, by rw [sizeLine_eq]; omega, acc ++ [u], fun c o e => ?_, upd_same, by rw [List.length_append, hl3]; rfl, ?_⟩
        · rw [upd_ne (ne_of_none e nD)]
          exact S38 _ _ (s3 _ _ e)
        · rw [take_at hki, List.map_append]
          refine dps_mono (bt_upd (ps := [D]) (H := H8) (a := D) (by simp)) (dps_app (dps_mono (hid_same S38) d3) (.cons (dp_hid (fun q hq => ?_) _ _ (tupO_d _) hu) .nil))
          rw [List.mem_singleton.mp hq]
          exact ⟨_, S38 _ _ h3⟩
      · rintro H3 ⟨acc, s3, h3, hl3, d3⟩
        rw [List.take_of_length_le (by rw [hul2]; exact Nat.le_refl _)] at d3
        exact k D acc H3 s3 h3 d3
    · refine lc_it WJ (fun i H' => ∃ acc, Same H H' ∧ H' D = some (.lst acc) ∧ acc.length = i ∧ i ≤ i0) ⟨[], same_new nD, upd_same, rfl, Nat.zero_le _⟩ (fun i H' _ ⟨acc, s', _⟩ => hc.mono (hid_same s')) ?_ ?_
      · rintro i x H3 H3' hi ⟨acc, s3, h3, hl3, hi0⟩ ⟨Tp, y1, y2, rfl, nT, rfl, e1, e2⟩
        obtain rfl := Option.some.inj e1
        obtain ⟨H4, s4, h4, e4⟩ := lay (o := .tup [.int (i : Nat), y2]) nT
        rw [e4]
        refine ⟨Tp, _, rfl, SqT.of h4, rfl, _, _, rfl, _, _, rfl, rfl, ?_⟩
        refine ⟨rfl, ?_⟩
        refine ⟨_, rfl, _, rfl, _, rfl, _, rfl, _, rfl, by show 1 ≤ sizeLine; decide, fun pt npt => ?_⟩
        obtain ⟨H6, s6, h6, e6⟩ := lay (o := .tup [.int (i : Nat)]) npt
        rw [e6]
        have S6 : Same H H6 := (s3.trans s4).trans s6
        refine catA (Same.seqT S6 hb) (SqT.of h6) (by rw [sizeLine_eq]; simp; omega) fun pb H7 s7 hpb => ?_
        have S7 := S6.trans s7
        by_cases ci : i = i0
        · subst ci
          have e2 : us[i]? = some y2 := e2
          rw [hy] at e2
          obtain rfl := Option.some.inj e2
          refine ⟨G, a, pb, y, ns, g, _, rfl, hG.mono S7, nd, by omega, Same.seqT S7 ha, by omega, hpb, by simp; omega, .inr ⟨r, hbad.mono S7, fun pb2 d H8 s8 hpb2 hx => qe pb2 d H8 (S7.trans s8) ?_ hx⟩⟩
          rw [List.append_assoc] at hpb2
          exact hpb2
        · have hlt : i < i0 := by omega
          obtain ⟨dk, tk, Dk, Tk, Ok, zk⟩ := hgood i y2 hlt e2
          refine ⟨G, a, pb, y2, ns, g, _, rfl, hG.mono S7, nd, by omega, Same.seqT S7 ha, by omega, hpb, by simp; omega, .inl ⟨dk, tk, dp_mono S7 Dk, Tk, Ok, zk, fun u H8 s8 hu => ?_⟩⟩
          have S38 : Same H3 H8 := ((s4.trans s6).trans s7).trans s8
          refine ⟨acc, S38 _ _ h3, by rw [sizeLine_eq]; omega, acc ++ [u], fun c o e => ?_, upd_same, by rw [List.length_append, hl3]; rfl, hlt⟩
          rw [upd_ne (ne_of_none e nD)]
          exact S38 _ _ (s3 _ _ e)
      · rintro H3 ⟨acc, s3, h3, hl3, hi0⟩
        have := (List.getElem?_eq_some_iff.mp hy).1
        omega
theorem ok_chkX {f f2 : Addr} {fd fd2 : FuncData} (F : Fun K "checked_within" "checked_within" sChk f fd) (F2 : Fun K "_checked_parts" "_checked_parts" sPar f2 fd2) (T : Bl mg) (mgC : mg "checked_within" = some (.ref f)) (kC : PySem.W.keepIn K (.ref f) = true) (bC : Binds K fd ["ground", "thing", "names", "path"] [])
    (mgP : mg "_checked_parts" = some (.ref f2)) (kP : PySem.W.keepIn K (.ref f2) = true) (bP : Binds K fd2 ["ground", "things", "names", "path"] []) (NM : Nmd K mg) (TB : TBh K w mg) (BT : ErrC P w K mg base "BadTerm" "path" CB)
    (IL : Fns P w K mg base "is_list" 1 ["thing"] (spIsL K)) (INm : Fns P w K mg base "is_name" 1 ["thing"] (spIsNm K)) (IU : Fns P w K mg base "_is_use" 2 ["ground", "thing"] (spIsU K C)) :
    ∀ z : Nat, FnOk P w K mg base (L2.CX P w) (4 + 2 * z) f fd ["ground", "thing", "names", "path"] (spChkX K C CB z) := by
  obtain ⟨fI, dI, iI, tI, FI, bI⟩ := BT.ini
  obtain ⟨aN, gN, hN⟩ := NM
  obtain ⟨dT, es, nT, gT, D, hT, hno⟩ := TB
  have len8 : ∀ {z : Str}, nameB z = true → z.length ≤ sizeLine := fun {z} h => by
    unfold nameB at h
    have := (Bool.and_eq_true_iff.mp h).1
    have := of_decide_eq_true this
    rw [sizeLine_eq]; omega
  intro z
  induction z with
  | zero =>
    refine F.okX scChk (fun vs H Q E h => ?_) (fun cdv A outer s H vs Q E hr h => ?_)
    · obtain ⟨G, a, b, x, ns, g, path, rfl, _⟩ := h
      rfl
    · obtain ⟨G, a, b, x, ns, g, path, rfl, _, _, _, _, _, _, _, h⟩ := h
      rcases h with ⟨d, t, _, _, _, hz, _⟩ | ⟨r, hb, _⟩
      · exact absurd hz (by have := size_pos t; omega)
      · cases hb
  | succ z ihC =>
    have ihP := ok_par (f2 := f) (fd2 := fd) F2 T ihC mgC kC bC
    show FnOk P w K mg base (L2.CX P w) (4 + 2 * z + 1 + 1) f fd ["ground", "thing", "names", "path"] (spChkX K C CB (z + 1))
    have l1 : 1 ≤ 4 + 2 * z + 1 := by omega
    have l2 : 2 ≤ 4 + 2 * z + 1 := by omega
    have lC : 4 + 2 * z ≤ 4 + 2 * z + 1 := by omega
    have lP : 4 + 2 * z + 1 ≤ 4 + 2 * z + 1 := by omega
    refine F.okX scChk (fun vs H Q E h => ?_) (fun cdv A outer s H vs Q E hr h => ?_)
    · obtain ⟨G, a, b, x, ns, g, path, rfl, _⟩ := h
      rfl
    · obtain ⟨G, a, b, x, ns, g, path, rfl, hG, nd, hz1, ha, hna, hb, hnb, h⟩ := h
      refine ⟨_, pss_cons (ps_if (PW.pt (pw_or (pt_not (pt_val (pe_fn IL hr l1 rfl (pa_cons (pv 1) (pa_nil))))) (pw_or (pt_cmpR op_lt (pe_callB call_len_seq (by rfl) T.len PySem.boot_len (pa_cons (pv 1) (pa_nil))) (pe_int) (nomark _)) (pw_or1 (pt_not (pt_val (pe_callB call_isi (by rfl) T.isi (by decide +kernel) (pa_cons (pe_ix ix_seq (pv 1) (pe_int) (fun _ _ => rfl)) (pa_cons (pe_bltn (v := .ty "str") (by rfl) T.str (by decide +kernel) rfl) (pa_nil)))))))))) (pss_one (ps_raise rfl (takes_of rfl rfl rfl rfl) (pmk_oex BT.T iI tI FI (hr.mono (show 1 + 1 ≤ 4 + 2 * z + 1 by omega)) bI .nil pass0 rfl BT.gC (pa_cons (pv 3) (pa_nil))))) (pss_nil)) (pss_cons (ps_set (i := 4) scChk.nd rfl (.inl rfl) (pe_ix ix_seq (pv 1) (pe_int) (fun _ _ => rfl))) (pss_cons (ps_if (PW.pt (pw_and (pt_cmpR op_eq (pv 4) (pe_str) (nomark _)) (pw_and1 (pt_val (pe_fn IU hr l2 rfl (pa_cons (pv 0) (pa_cons (pv 1) (pa_nil)))))))) (pss_one (ps_ret (pe_tup (pa_cons (pe_str) (pa_cons (pe_ix ix_seq (pv 1) (pe_int) (fun _ _ => rfl)) (pa_cons (pe_callTy (call_tuple_of) (by rfl) T.tuple (by decide +kernel) (pa_cons (pe_call ihP (hr.mono lP) rfl mgP kP bP .nil (passes_call (takes_of rfl rfl rfl rfl) (fun _ _ _ _ h => h)) (pa_cons (pv 0) (pa_cons (pe_ix ix_seq (pv 1) (pe_int) (fun _ _ => rfl)) (pa_cons (pv 2) (pa_cons (pv 3) (pa_nil)))))) (pa_nil))) (pa_nil))))))) (pss_nil)) (pss_cons (ps_if (PW.pt (pw_and (pt_cmpR (op_in_kd D) (pv 4) (pe_glob (v := .ref dT) rfl gT rfl) (by rfl)) (pw_and1 (pt_cmpR op_eq (pe_callB call_len_seq (by rfl) T.len PySem.boot_len (pa_cons (pv 1) (pa_nil))) (pe_op op_add (pe_int) (pe_ix ix_kdict (pe_glob (v := .ref dT) rfl gT rfl) (pv 4) (fun _ _ => rfl))) (nomark _))))) (pss_one (ps_ret (pe_tup (pa_cons (pv 4) (StX.pa_star (pe_call ihP (hr.mono lP) rfl mgP kP bP .nil (passes_call (takes_of rfl rfl rfl rfl) (fun _ _ _ _ h => h)) (pa_cons (pv 0) (pa_cons (pe_slice sl_any (pv 1) (po_some pe_int) po_none) (pa_cons (pv 2) (pa_cons (pv 3) (pa_nil)))))) pa_nil))))) (pss_nil)) (pss_cons (ps_if (PW.pt (pw_and (pt_cmpR op_in_seq (pv 4) (pe_glob (v := .ref aN) rfl gN rfl) (by rfl)) (pw_and (pt_cmpR op_eq (pe_callB call_len_seq (by rfl) T.len PySem.boot_len (pa_cons (pv 1) (pa_nil))) (pe_int) (nomark _)) (pw_and (pt_val (pe_fn INm hr l1 rfl (pa_cons (pe_ix ix_seq (pv 1) (pe_int) (fun _ _ => rfl)) (pa_nil)))) (pw_and1 (PW.pt (pw_or (pt_cmpR op_ne (pv 4) (pe_str) (nomark _)) (pw_or1 (pt_cmpR op_in_seq (pe_ix ix_seq (pv 1) (pe_int) (fun _ _ => rfl)) (pv 2) (by rfl)))))))))) (pss_one (ps_ret (pe_tup (pa_cons (pv 4) (pa_cons (pe_ix ix_seq (pv 1) (pe_int) (fun _ _ => rfl)) (pa_nil)))))) (pss_nil)) (pss_cons (ps_if (PW.pt (pw_and (pt_cmpR op_eq (pv 4) (pe_str) (nomark _)) (pw_and (pt_cmpR op_eq (pe_callB call_len_seq (by rfl) T.len PySem.boot_len (pa_cons (pv 1) (pa_nil))) (pe_int) (nomark _)) (pw_and1 (pt_val (pe_fn INm hr l1 rfl (pa_cons (pe_ix ix_seq (pv 1) (pe_int) (fun _ _ => rfl)) (pa_nil)))))))) (pss_cons (ps_set (i := 5) scChk.nd rfl (.inl rfl) (pe_call ihC (hr.mono lC) rfl mgC kC bC .nil (passes_call (takes_of rfl rfl rfl rfl) (fun _ _ _ _ h => h)) (pa_cons (pv 0) (pa_cons (pe_ix ix_seq (pv 1) (pe_int) (fun _ _ => rfl)) (pa_cons (pv 2) (pa_cons (pe_op (r := rCatA K) op_catA (pv 3) (pe_tup (pa_cons (pe_int) (pa_nil)))) (pa_nil))))))) (pss_one (ps_ret (pe_tup (pa_cons (pe_str) (pa_cons (pe_ix ix_seq (pv 1) (pe_int) (fun _ _ => rfl)) (pa_cons (pv 5) (pa_cons (pe_call ihC (hr.mono lC) rfl mgC kC bC .nil (passes_call (takes_of rfl rfl rfl rfl) (fun _ _ _ _ h => h)) (pa_cons (pv 0) (pa_cons (pe_ix ix_seq (pv 1) (pe_int) (fun _ _ => rfl)) (pa_cons (pe_tup (StX.pa_star (pv 2) (pa_cons (pe_ix ix_seq (pv 1) (pe_int) (fun _ _ => rfl)) pa_nil))) (pa_cons (pe_op (r := rCatA K) op_catA (pv 3) (pe_tup (pa_cons (pe_int) (pa_nil)))) (pa_nil)))))) (pa_nil))))))))) (pss_nil)) (pss_one (ps_raise rfl (takes_of rfl rfl rfl rfl) (pmk_oex BT.T iI tI FI (hr.mono (show 1 + 1 ≤ 4 + 2 * z + 1 by omega)) bI .nil pass0 rfl BT.gC (pa_cons (pv 3) (pa_nil)))))))))), ?_⟩
      rcases h with ⟨d, t, hd, hT2, hO, hz, q⟩ | ⟨r, hB, qe⟩
      · cases hT2 with
        | @mk d wd n ds ks hN2 hlen hk =>
        cases hO with
        | mk hH hK =>
        obtain ⟨p, us, rfl, hV, hD⟩ := nodeV hd hN2
        have hul : us.length = ks.length := (dps_len hD).trans hlen
        have hks := len_sizes ks
        have hz' := hz
        rw [GB.Tm.size] at hz'
        rw [← hul] at hH
        rcases hV.kind with ⟨hw, rfl, hs⟩ | ⟨rfl, qq, hs, hq⟩ | ⟨rfl, hs⟩ | ⟨⟨m, ho⟩, rfl, hs⟩
        · obtain ⟨t', ht, hty⟩ := tyS hs
          refine ⟨_, rfl, .ref p, _, true, rfl, hty, kit_seq ht, fun H1 s1 => ⟨_, rfl, ?_⟩⟩
          refine iteF ?_
          refine ⟨_, rfl, p, _, rfl, hs.mono s1, _, _, rfl, rfl, _, rfl, ?_⟩
          rw [decide_eq_false (by simp only [List.length_cons, List.length_nil]; omega)]
          refine iteF ?_
          refine ⟨_, rfl, ixA (hs.mono s1) 0 rfl ⟨.str wd, .ty "str", .type "str", .type "str", true, rfl, .ty "str", .base (.str wd), kit_ty (by decide +kernel), true, rfl, ?_⟩⟩
          refine iteF ?_
          refine ⟨_, rfl, ixA (hs.mono s1) 0 rfl ?_⟩
          refine ⟨_, rfl, rfl, _, rfl, ?_⟩
          rw [decS]
          rw [decide_eq_false ((nmW _ hw).1)]
          refine iteF ?_
          refine ⟨_, rfl, wd, none, rfl, rfl, hno _ ((nmW _ hw).2.2.2), false, rfl, ?_⟩
          refine iteF ?_
          refine ⟨_, rfl, aN, sts nmd, rfl, .inr (hN _), rfl, flat_sts _, _, rfl, ?_⟩
          rw [show (if false = true then !inV (.str wd) (sts nmd) else inV (.str wd) (sts nmd)) = true from (inV_sts wd nmd).trans (decide_eq_true (hw))]
          refine iteT ?_

          refine ⟨_, rfl, p, _, rfl, hs.mono s1, rfl, _, rfl, ?_⟩
          refine iteT ?_
          obtain ⟨hn, hin⟩ := hH.nmd hw
          refine ⟨_, rfl, ixA (hs.mono s1) 1 rfl ⟨_, rfl, .inl ⟨n, rfl, len8 hn, fun H2 s2 => ⟨true, by rw [hn], ?_⟩⟩⟩⟩
          refine iteT ?_
          have S := s1.trans s2
          have e0 : nodeT wd n ds = .tuple [.str wd, .str n] := by
            unfold nodeT
            rw [if_neg (nmW _ hw).1, if_neg (nmW _ hw).2.1, if_neg (nmW _ hw).2.2.1]
          have e1 : ds = [] := by cases hD; rfl
          refine ⟨_, rfl, rfl, _, rfl, ?_⟩
          rw [decS]
          by_cases c : wd = "name"
          · rw [decide_eq_true c]
            refine iteF ?_
            refine ⟨_, rfl, ixA (hs.mono S) 1 rfl ⟨_, rfl, a, sts ns, rfl, .inr (Same.seqT S ha), rfl, flat_sts _, _, rfl, ?_⟩⟩
            rw [show (if false = true then !inV (.str n) (sts ns) else inV (.str n) (sts ns)) = true from (inV_sts n ns).trans (decide_eq_true (hin c))]
            refine iteT ?_
            refine ⟨_, rfl, _, rfl, ixA (hs.mono S) 1 rfl ⟨by show 2 ≤ sizeLine; decide, fun pt np5 => ?_⟩⟩
            obtain ⟨H5, s5, h5, e5⟩ := lay (o := .tup [.str wd, .str n]) np5
            rw [e5]
            refine q _ H5 (S.trans s5) ?_
            rw [d_node]
            have ek : ks.map GB.Tm.d = [] := by rw [List.eq_nil_of_length_eq_zero (by rw [← hul]; rfl : ks.length = 0)]; rfl
            rw [ek, ← e1, e0]
            exact .tup (SqT.of h5) (.cons (.str _) (.cons (.str _) .nil))
          · rw [decide_eq_false c]
            refine iteT ?_
            refine ⟨_, rfl, _, rfl, ixA (hs.mono S) 1 rfl ⟨by show 2 ≤ sizeLine; decide, fun pt np5 => ?_⟩⟩
            obtain ⟨H5, s5, h5, e5⟩ := lay (o := .tup [.str wd, .str n]) np5
            rw [e5]
            refine q _ H5 (S.trans s5) ?_
            rw [d_node]
            have ek : ks.map GB.Tm.d = [] := by rw [List.eq_nil_of_length_eq_zero (by rw [← hul]; rfl : ks.length = 0)]; rfl
            rw [ek, ← e1, e0]
            exact .tup (SqT.of h5) (.cons (.str _) (.cons (.str _) .nil))

        · obtain ⟨t', ht, hty⟩ := tyS hs
          have wd : Str := "use"
          refine ⟨_, rfl, .ref p, _, true, rfl, hty, kit_seq ht, fun H1 s1 => ⟨_, rfl, ?_⟩⟩
          refine iteF ?_
          refine ⟨_, rfl, p, _, rfl, hs.mono s1, _, _, rfl, rfl, _, rfl, ?_⟩
          rw [decide_eq_false (by simp only [List.length_cons, List.length_nil]; omega)]
          refine iteF ?_
          refine ⟨_, rfl, ixA (hs.mono s1) 0 rfl ⟨.str "use", .ty "str", .type "str", .type "str", true, rfl, .ty "str", .base (.str "use"), kit_ty (by decide +kernel), true, rfl, ?_⟩⟩
          refine iteF ?_
          refine ⟨_, rfl, ixA (hs.mono s1) 0 rfl ?_⟩
          refine ⟨_, rfl, rfl, _, rfl, ?_⟩
          rw [decS]

          refine iteT ?_
          refine ⟨_, rfl, _, rfl, G, p, g, rfl, hG.mono s1, nd, .inl ⟨qq, n, us, hs.mono s1, hq.mono s1, hH.toUse, fun H2 s2 => ⟨_, rfl, ?_⟩⟩⟩
          refine iteT ?_
          have S := s1.trans s2
          refine ⟨_, rfl, ixA (hs.mono S) 1 rfl ⟨_, rfl, _, rfl, ixA (hs.mono S) 2 rfl ⟨_, rfl, _, rfl, G, qq, a, b, us, ns, g, path, rfl, hG.mono S, nd, by omega, hq.mono S, by omega, Same.seqT S ha, by omega, Same.seqT S hb, by omega, .inl ⟨ds, ks, dps_mono S hD, hlen, hk, fun i k hi => ⟨by have := hK i k hi; rw [nsAt_no i ns (by decide)] at this; exact this, by have := size_at (w := "use") (n := n) hi; omega⟩, fun l ys H6 s6 h6 hy6 => ?_⟩⟩⟩⟩
          refine ⟨l, ys, rfl, .inl ⟨SqL.of h6, fun tb np7 => ?_⟩⟩
          obtain ⟨H7, s7, h7, e7⟩ := lay (o := .tup ys) np7
          rw [e7]
          refine ⟨by show 3 ≤ sizeLine; decide, fun tt np8 => ?_⟩
          obtain ⟨H8, s8, h8, e8⟩ := lay (o := .tup [.str "use", .str n, .ref tb]) np8
          rw [e8]
          refine q _ H8 (((S.trans s6).trans s7).trans s8) ?_
          rw [d_node]
          exact .tup (SqT.of h8) (.cons (.str _) (.cons (.str _) (.cons (.tup (SqT.of (s8 _ _ h7)) (dps_mono ((hid_low _ _).trans (s7.trans s8)) hy6)) .nil)))

        · obtain ⟨t', ht, hty⟩ := tyS hs
          refine ⟨_, rfl, .ref p, _, true, rfl, hty, kit_seq ht, fun H1 s1 => ⟨_, rfl, ?_⟩⟩
          refine iteF ?_
          refine ⟨_, rfl, p, _, rfl, hs.mono s1, _, _, rfl, rfl, _, rfl, ?_⟩
          rw [decide_eq_false (by simp only [List.length_cons, List.length_nil]; omega)]
          refine iteF ?_
          refine ⟨_, rfl, ixA (hs.mono s1) 0 rfl ⟨.str "bind", .ty "str", .type "str", .type "str", true, rfl, .ty "str", .base (.str "bind"), kit_ty (by decide +kernel), true, rfl, ?_⟩⟩
          refine iteF ?_
          refine ⟨_, rfl, ixA (hs.mono s1) 0 rfl ?_⟩
          refine ⟨_, rfl, rfl, _, rfl, ?_⟩
          rw [decS]
          rw [decide_eq_false (by decide)]
          refine iteF ?_
          refine ⟨_, rfl, "bind", none, rfl, rfl, hno _ (by decide), false, rfl, ?_⟩
          refine iteF ?_
          refine ⟨_, rfl, aN, sts nmd, rfl, .inr (hN _), rfl, flat_sts _, _, rfl, ?_⟩
          rw [show (if false = true then !inV (.str "bind") (sts nmd) else inV (.str "bind") (sts nmd)) = false from (inV_sts "bind" nmd).trans (decide_eq_false (by decide))]
          refine iteF ?_

          obtain ⟨hn, h2⟩ := hH.toBind
          obtain ⟨u0, u1, rfl⟩ : ∃ u0 u1, us = [u0, u1] := by
            match us, h2 with
            | [u0, u1], _ => exact ⟨u0, u1, rfl⟩
          obtain ⟨k0, k1, rfl⟩ : ∃ k0 k1, ks = [k0, k1] := by
            match ks, hul with
            | [k0, k1], _ => exact ⟨k0, k1, rfl⟩
          obtain ⟨d0, d1, rfl⟩ : ∃ d0 d1, ds = [d0, d1] := by
            match ds, hlen with
            | [d0, d1], _ => exact ⟨d0, d1, rfl⟩
          have hD0 : Dp K H u0 d0 := by cases hD with | cons h _ => exact h
          have hD1 : Dp K H u1 d1 := by cases hD with | cons _ h => cases h with | cons h _ => exact h
          refine ⟨_, rfl, rfl, _, rfl, ?_⟩
          refine iteT ?_
          refine ⟨_, rfl, p, _, rfl, hs.mono s1, rfl, _, rfl, ?_⟩
          refine iteT ?_
          refine ⟨_, rfl, ixA (hs.mono s1) 1 rfl ⟨_, rfl, .inl ⟨n, rfl, len8 hn, fun H2 s2 => ⟨true, by rw [hn], ?_⟩⟩⟩⟩
          refine iteT ?_
          have S := s1.trans s2
          have z0 := size_at (w := "bind") (n := n) (ks := [k0, k1]) (i := 0) rfl
          have z1 := size_at (w := "bind") (n := n) (ks := [k0, k1]) (i := 1) rfl
          refine ⟨_, rfl, _, rfl, ixA (hs.mono S) 2 rfl ⟨_, rfl, _, rfl, by show 1 ≤ sizeLine; decide, fun pt np3 => ?_⟩⟩
          obtain ⟨H3, s3, h3, e3⟩ := lay (o := .tup [.int 0]) np3
          rw [e3]
          refine catA (Same.seqT (S.trans s3) hb) (SqT.of h3) (by rw [sizeLine_eq]; simp; omega) fun pb0 H4 s4 hpb0 => ?_
          have S4 := (S.trans s3).trans s4
          refine ⟨G, a, pb0, u0, ns, g, _, rfl, hG.mono S4, nd, by omega, Same.seqT S4 ha, by omega, hpb0, by simp; omega, .inl ⟨d0, k0, dp_mono S4 hD0, hk 0 _ _ rfl rfl, hK 0 _ rfl, by omega, fun v0 H5 s5 hv0 => ?_⟩⟩
          have S5 := S4.trans s5
          refine ⟨_, rfl, ixA (hs.mono S5) 1 rfl ⟨_, rfl, _, rfl, _, rfl, ixA (hs.mono S5) 3 rfl ⟨_, rfl, a, sts ns, rfl, .inl (Same.seqT S5 ha), _, rfl, ixA (hs.mono S5) 1 rfl ⟨by rw [sizeLine_eq]; simp [sts]; omega, fun nb np6 => ?_⟩⟩⟩⟩
          obtain ⟨H6, s6, h6, e6⟩ := lay (o := .tup (sts ns ++ [.str n])) np6
          rw [e6]

          refine ⟨_, rfl, by show 1 ≤ sizeLine; decide, fun pt np7 => ?_⟩
          obtain ⟨H7, s7, h7, e7⟩ := lay (o := .tup [.int 1]) np7
          rw [e7]
          refine catA (Same.seqT ((S5.trans s6).trans s7) hb) (SqT.of h7) (by rw [sizeLine_eq]; simp; omega) fun pb1 H8 s8 hpb1 => ?_
          have S8 := ((S5.trans s6).trans s7).trans s8
          refine ⟨G, nb, pb1, u1, nsAt "bind" n 1 ns, g, _, rfl, hG.mono S8, nd, by omega, by rw [show sts (nsAt "bind" n 1 ns) = sts ns ++ [.str n] from by simp [nsAt, sts]]; exact SqT.of (s8 _ _ (s7 _ _ h6)), by simp [nsAt]; omega, hpb1, by simp; omega, .inl ⟨d1, k1, dp_mono S8 hD1, hk 1 _ _ rfl rfl, hK 1 _ rfl, by omega, fun v1 H9 s9 hv1 => ?_⟩⟩
          refine ⟨by show 4 ≤ sizeLine; decide, fun tt np10 => ?_⟩
          obtain ⟨H10, s10, h10, e10⟩ := lay (o := .tup [.str "bind", .str n, v0, v1]) np10
          rw [e10]
          refine q _ H10 ((S8.trans s9).trans s10) ?_
          rw [d_node]
          have SS := (((s6.trans s7).trans s8).trans s9).trans s10
          exact .tup (SqT.of h10) (.cons (.str _) (.cons (.str _) (.cons (dp_mono SS hv0) (.cons (dp_mono s10 hv1) .nil))))

        · obtain ⟨t', ht, hty⟩ := tyS hs
          have hm := hH.toOp ⟨m, ho⟩
          obtain ⟨hk2, u, hu⟩ := hT _ hm
          have n3 := ops_no _ ho
          have h1 : 1 ≤ us.length := by
            have := (show ∀ q ∈ opsW, 1 ≤ q.2 by decide) _ hm
            exact this
          refine ⟨_, rfl, .ref p, _, true, rfl, hty, kit_seq ht, fun H1 s1 => ⟨_, rfl, ?_⟩⟩
          refine iteF ?_
          refine ⟨_, rfl, p, _, rfl, hs.mono s1, _, _, rfl, rfl, _, rfl, ?_⟩
          rw [decide_eq_false (by simp only [List.length_cons, List.length_nil]; omega)]
          refine iteF ?_
          refine ⟨_, rfl, ixA (hs.mono s1) 0 rfl ⟨.str wd, .ty "str", .type "str", .type "str", true, rfl, .ty "str", .base (.str wd), kit_ty (by decide +kernel), true, rfl, ?_⟩⟩
          refine iteF ?_
          refine ⟨_, rfl, ixA (hs.mono s1) 0 rfl ?_⟩
          refine ⟨_, rfl, rfl, _, rfl, ?_⟩
          rw [decS]
          rw [decide_eq_false (n3.2.1)]
          refine iteF ?_

          refine ⟨_, rfl, wd, some u, rfl, rfl, hu, true, rfl, ?_⟩
          refine iteT ?_
          refine ⟨_, rfl, p, _, rfl, hs.mono s1, ⟨_, rfl, dT, wd, _, rfl, rfl, hk2, _, _, rfl, rfl, rfl, _, rfl, ?_⟩⟩
          rw [decI, decide_eq_true (by rw [List.length_cons]; omega)]
          refine iteT ?_
          refine ⟨_, rfl, _, rfl, _, rfl, _, rfl, ?_⟩
          refine slA (hs.mono s1) 1 fun qq H2 s2 hq => ?_
          have hq : SqA K H2 qq us := hq
          have S := s1.trans s2
          refine ⟨_, rfl, _, rfl, G, qq, a, b, us, ns, g, path, rfl, hG.mono S, nd, by omega, hq, by omega, Same.seqT S ha, by omega, Same.seqT S hb, by omega, .inl ⟨ds, ks, dps_mono S hD, hlen, hk, fun i k hi => ⟨by have := hK i k hi; rw [nsAt_no i ns n3.2.2] at this; exact this, by have := size_at (w := wd) (n := "") hi; omega⟩, fun l ys H6 s6 h6 hy6 => ?_⟩⟩
          refine ⟨l, ys, rfl, .inr (SqL.of h6), ?_⟩
          have hyl : ys.length = ks.length := by have := dps_len hy6; rw [List.length_map] at this; exact this
          refine ⟨by rw [sizeLine_eq]; simp; omega, fun tt np8 => ?_⟩
          obtain ⟨H8, s8, h8, e8⟩ := lay (o := .tup (.str wd :: ys)) np8
          rw [List.append_nil, e8]
          refine q _ H8 ((S.trans s6).trans s8) ?_
          have e : nodeT wd "" (ks.map GB.Tm.d) = .tuple (.str wd :: ks.map GB.Tm.d) := by
            unfold nodeT
            rw [if_neg n3.2.1, if_neg n3.2.2, if_pos (List.mem_map.mpr ⟨_, ho, rfl⟩)]
          rw [d_node, e]
          exact .tup (SqT.of h8) (.cons (.str _) (dps_mono ((hid_low _ _).trans s8) hy6))
      · cases hB with
        | odd hOd =>
          rcases hOd.cases4 with ⟨t, hty, hk⟩ | ⟨p, xs, rfl, hs, hl⟩ | ⟨p, y, r, t, rfl, hs, hyt, hk⟩ | ⟨p, wd, r, rfl, O⟩
          · refine ⟨_, rfl, x, _, false, rfl, hty, hk, fun H1 s1 => ⟨_, rfl, ?_⟩⟩
            refine iteT ?_
            exact ⟨_, rfl, by show 1 ≤ 1000; decide, fun e ne => mk_err (fun d H' s' h' => qe b d H' (s1.trans s') (by rw [show pin [] = [] from rfl, List.append_nil]; exact Same.seqT (s1.trans s') hb) h') e ne⟩
          · obtain ⟨t', ht, hty⟩ := tyS hs
            refine ⟨_, rfl, .ref p, _, true, rfl, hty, kit_seq ht, fun H1 s1 => ⟨_, rfl, ?_⟩⟩
            refine iteF ?_
            refine ⟨_, rfl, p, _, rfl, hs.mono s1, _, _, rfl, rfl, _, rfl, ?_⟩
            rw [decide_eq_true (by omega)]
            refine iteT ?_
            exact ⟨_, rfl, by show 1 ≤ 1000; decide, fun e ne => mk_err (fun d H' s' h' => qe b d H' (s1.trans s') (by rw [show pin [] = [] from rfl, List.append_nil]; exact Same.seqT (s1.trans s') hb) h') e ne⟩
          · obtain ⟨t', ht, hty⟩ := tyS hs
            refine ⟨_, rfl, .ref p, _, true, rfl, hty, kit_seq ht, fun H1 s1 => ⟨_, rfl, ?_⟩⟩
            refine iteF ?_
            refine ⟨_, rfl, p, _, rfl, hs.mono s1, _, _, rfl, rfl, _, rfl, ?_⟩
            refine ite2 (fun _ => ?_) (fun _ => ?_)
            · exact ⟨_, rfl, by show 1 ≤ 1000; decide, fun e ne => mk_err (fun d H' s' h' => qe b d H' (s1.trans s') (by rw [show pin [] = [] from rfl, List.append_nil]; exact Same.seqT (s1.trans s') hb) h') e ne⟩
            · refine ⟨_, rfl, ixA (hs.mono s1) 0 rfl ⟨y, .ty "str", t, .type "str", false, rfl, .ty "str", hyt _ s1, hk, false, rfl, ?_⟩⟩
              refine iteT ?_
              exact ⟨_, rfl, by show 1 ≤ 1000; decide, fun e ne => mk_err (fun d H' s' h' => qe b d H' (s1.trans s') (by rw [show pin [] = [] from rfl, List.append_nil]; exact Same.seqT (s1.trans s') hb) h') e ne⟩
          · have hs := O.sq
            obtain ⟨t', ht, hty⟩ := tyS hs
            have r1 : 1 ≤ r.length := List.length_pos_iff.mpr O.ne
            by_cases cU : wd = "use"
            · subst cU
              refine ⟨_, rfl, .ref p, _, true, rfl, hty, kit_seq ht, fun H1 s1 => ⟨_, rfl, ?_⟩⟩
              refine iteF ?_
              refine ⟨_, rfl, p, _, rfl, hs.mono s1, _, _, rfl, rfl, _, rfl, ?_⟩
              rw [decide_eq_false (by simp only [List.length_cons, List.length_nil]; omega)]
              refine iteF ?_
              refine ⟨_, rfl, ixA (hs.mono s1) 0 rfl ⟨.str "use", .ty "str", .type "str", .type "str", true, rfl, .ty "str", .base (.str "use"), kit_ty (by decide +kernel), true, rfl, ?_⟩⟩
              refine iteF ?_
              refine ⟨_, rfl, ixA (hs.mono s1) 0 rfl ?_⟩
              refine ⟨_, rfl, rfl, _, rfl, ?_⟩
              rw [decS]

              refine iteT ?_
              refine ⟨_, rfl, _, rfl, G, p, g, rfl, hG.mono s1, nd, .inr ⟨(O.use rfl).mono s1, fun H2 s2 => ⟨_, rfl, ?_⟩⟩⟩
              refine iteF ?_
              have S := s1.trans s2
              refine ⟨_, rfl, "use", none, rfl, rfl, hno _ (by decide), false, rfl, ?_⟩
              refine iteF ?_
              refine ⟨_, rfl, aN, sts nmd, rfl, .inr (hN _), rfl, flat_sts _, _, rfl, ?_⟩
              rw [show (if false = true then !inV (.str "use") (sts nmd) else inV (.str "use") (sts nmd)) = false from (inV_sts "use" nmd).trans (decide_eq_false (by decide))]
              refine iteF ?_
              refine ⟨_, rfl, rfl, _, rfl, ?_⟩
              rw [decS]
              rw [decide_eq_false (by decide)]
              refine iteF ?_
              exact ⟨_, rfl, by show 1 ≤ 1000; decide, fun e ne => mk_err (fun d H' s' h' => qe b d H' (S.trans s') (by rw [show pin [] = [] from rfl, List.append_nil]; exact Same.seqT (S.trans s') hb) h') e ne⟩

            by_cases cB : wd = "bind"
            · subst cB
              obtain ⟨y, a1, a2, rfl, hn⟩ := O.bind rfl
              refine ⟨_, rfl, .ref p, _, true, rfl, hty, kit_seq ht, fun H1 s1 => ⟨_, rfl, ?_⟩⟩
              refine iteF ?_
              refine ⟨_, rfl, p, _, rfl, hs.mono s1, _, _, rfl, rfl, _, rfl, ?_⟩
              rw [decide_eq_false (by simp only [List.length_cons, List.length_nil]; omega)]
              refine iteF ?_
              refine ⟨_, rfl, ixA (hs.mono s1) 0 rfl ⟨.str "bind", .ty "str", .type "str", .type "str", true, rfl, .ty "str", .base (.str "bind"), kit_ty (by decide +kernel), true, rfl, ?_⟩⟩
              refine iteF ?_
              refine ⟨_, rfl, ixA (hs.mono s1) 0 rfl ?_⟩
              refine ⟨_, rfl, rfl, _, rfl, ?_⟩
              rw [decS]
              rw [decide_eq_false (by decide)]
              refine iteF ?_
              refine ⟨_, rfl, "bind", none, rfl, rfl, hno _ (by decide), false, rfl, ?_⟩
              refine iteF ?_
              refine ⟨_, rfl, aN, sts nmd, rfl, .inr (hN _), rfl, flat_sts _, _, rfl, ?_⟩
              rw [show (if false = true then !inV (.str "bind") (sts nmd) else inV (.str "bind") (sts nmd)) = false from (inV_sts "bind" nmd).trans (decide_eq_false (by decide))]
              refine iteF ?_

              refine ⟨_, rfl, rfl, _, rfl, ?_⟩
              refine iteT ?_
              refine ⟨_, rfl, p, _, rfl, hs.mono s1, rfl, _, rfl, ?_⟩
              refine iteT ?_
              refine ⟨_, rfl, ixA (hs.mono s1) 1 rfl ⟨_, rfl, ?_⟩⟩
              cases hn.mono s1 with
              | @str z hz hl =>
                refine .inl ⟨z, rfl, hl, fun H2 s2 => ⟨false, by rw [hz], ?_⟩⟩
                refine iteF ?_
                have S := s1.trans s2
                exact ⟨_, rfl, by show 1 ≤ 1000; decide, fun e ne => mk_err (fun d H' s' h' => qe b d H' (S.trans s') (by rw [show pin [] = [] from rfl, List.append_nil]; exact Same.seqT (S.trans s') hb) h') e ne⟩
              | oth h5 h6 =>
                refine .inr ⟨_, h5 _ (Same.refl _), h6, ⟨false, rfl, ?_⟩⟩
                refine iteF ?_
                exact ⟨_, rfl, by show 1 ≤ 1000; decide, fun e ne => mk_err (fun d H' s' h' => qe b d H' (s1.trans s') (by rw [show pin [] = [] from rfl, List.append_nil]; exact Same.seqT (s1.trans s') hb) h') e ne⟩

            by_cases cN : wd ∈ nmd
            · rcases O.nam cN with hl | ⟨y, rfl, hn⟩
              · refine ⟨_, rfl, .ref p, _, true, rfl, hty, kit_seq ht, fun H1 s1 => ⟨_, rfl, ?_⟩⟩
                refine iteF ?_
                refine ⟨_, rfl, p, _, rfl, hs.mono s1, _, _, rfl, rfl, _, rfl, ?_⟩
                rw [decide_eq_false (by simp only [List.length_cons, List.length_nil]; omega)]
                refine iteF ?_
                refine ⟨_, rfl, ixA (hs.mono s1) 0 rfl ⟨.str wd, .ty "str", .type "str", .type "str", true, rfl, .ty "str", .base (.str wd), kit_ty (by decide +kernel), true, rfl, ?_⟩⟩
                refine iteF ?_
                refine ⟨_, rfl, ixA (hs.mono s1) 0 rfl ?_⟩
                refine ⟨_, rfl, rfl, _, rfl, ?_⟩
                rw [decS]
                rw [decide_eq_false (cU)]
                refine iteF ?_
                refine ⟨_, rfl, wd, none, rfl, rfl, hno _ ((nmW _ cN).2.2.2), false, rfl, ?_⟩
                refine iteF ?_
                refine ⟨_, rfl, aN, sts nmd, rfl, .inr (hN _), rfl, flat_sts _, _, rfl, ?_⟩
                rw [show (if false = true then !inV (.str wd) (sts nmd) else inV (.str wd) (sts nmd)) = true from (inV_sts wd nmd).trans (decide_eq_true (cN))]
                refine iteT ?_

                refine ⟨_, rfl, p, _, rfl, hs.mono s1, rfl, false, by rw [decI, decide_eq_false (by rw [List.length_cons]; omega)], ?_⟩
                refine iteF ?_
                refine ⟨_, rfl, rfl, _, rfl, ?_⟩
                rw [decS]
                rw [decide_eq_false (cB)]
                refine iteF ?_
                exact ⟨_, rfl, by show 1 ≤ 1000; decide, fun e ne => mk_err (fun d H' s' h' => qe b d H' (s1.trans s') (by rw [show pin [] = [] from rfl, List.append_nil]; exact Same.seqT (s1.trans s') hb) h') e ne⟩
              · refine ⟨_, rfl, .ref p, _, true, rfl, hty, kit_seq ht, fun H1 s1 => ⟨_, rfl, ?_⟩⟩
                refine iteF ?_
                refine ⟨_, rfl, p, _, rfl, hs.mono s1, _, _, rfl, rfl, _, rfl, ?_⟩
                rw [decide_eq_false (by simp only [List.length_cons, List.length_nil]; omega)]
                refine iteF ?_
                refine ⟨_, rfl, ixA (hs.mono s1) 0 rfl ⟨.str wd, .ty "str", .type "str", .type "str", true, rfl, .ty "str", .base (.str wd), kit_ty (by decide +kernel), true, rfl, ?_⟩⟩
                refine iteF ?_
                refine ⟨_, rfl, ixA (hs.mono s1) 0 rfl ?_⟩
                refine ⟨_, rfl, rfl, _, rfl, ?_⟩
                rw [decS]
                rw [decide_eq_false (cU)]
                refine iteF ?_
                refine ⟨_, rfl, wd, none, rfl, rfl, hno _ ((nmW _ cN).2.2.2), false, rfl, ?_⟩
                refine iteF ?_
                refine ⟨_, rfl, aN, sts nmd, rfl, .inr (hN _), rfl, flat_sts _, _, rfl, ?_⟩
                rw [show (if false = true then !inV (.str wd) (sts nmd) else inV (.str wd) (sts nmd)) = true from (inV_sts wd nmd).trans (decide_eq_true (cN))]
                refine iteT ?_

                refine ⟨_, rfl, p, _, rfl, hs.mono s1, rfl, true, rfl, ?_⟩
                refine iteT ?_
                refine ⟨_, rfl, ixA (hs.mono s1) 1 rfl ⟨_, rfl, ?_⟩⟩
                rcases hn with hn | ⟨rfl, n, rfl, hn, hni⟩
                · cases hn.mono s1 with
                  | @str z hz hl =>
                    refine .inl ⟨z, rfl, hl, fun H2 s2 => ⟨false, by rw [hz], ?_⟩⟩
                    refine iteF ?_
                    have S := s1.trans s2
                    refine ⟨_, rfl, rfl, _, rfl, ?_⟩
                    rw [decS]
                    rw [decide_eq_false (cB)]
                    refine iteF ?_
                    exact ⟨_, rfl, by show 1 ≤ 1000; decide, fun e ne => mk_err (fun d H' s' h' => qe b d H' (S.trans s') (by rw [show pin [] = [] from rfl, List.append_nil]; exact Same.seqT (S.trans s') hb) h') e ne⟩
                  | oth h5 h6 =>
                    refine .inr ⟨_, h5 _ (Same.refl _), h6, ⟨false, rfl, ?_⟩⟩
                    refine iteF ?_
                    refine ⟨_, rfl, rfl, _, rfl, ?_⟩
                    rw [decS]
                    rw [decide_eq_false (cB)]
                    refine iteF ?_
                    exact ⟨_, rfl, by show 1 ≤ 1000; decide, fun e ne => mk_err (fun d H' s' h' => qe b d H' (s1.trans s') (by rw [show pin [] = [] from rfl, List.append_nil]; exact Same.seqT (s1.trans s') hb) h') e ne⟩
                · refine .inl ⟨n, rfl, len8 hn, fun H2 s2 => ⟨true, by rw [hn], ?_⟩⟩
                  refine iteT ?_
                  have S := s1.trans s2
                  refine ⟨_, rfl, rfl, _, rfl, ?_⟩
                  rw [decS, decide_eq_true rfl]
                  refine iteF ?_
                  refine ⟨_, rfl, ixA (hs.mono S) 1 rfl ⟨_, rfl, a, sts ns, rfl, .inr (Same.seqT S ha), rfl, flat_sts _, _, rfl, ?_⟩⟩
                  rw [show (if false = true then !inV (.str n) (sts ns) else inV (.str n) (sts ns)) = false from (inV_sts n ns).trans (decide_eq_false hni)]
                  refine iteF ?_
                  refine ⟨_, rfl, rfl, _, rfl, ?_⟩
                  rw [decS]
                  rw [decide_eq_false (by decide)]
                  refine iteF ?_
                  exact ⟨_, rfl, by show 1 ≤ 1000; decide, fun e ne => mk_err (fun d H' s' h' => qe b d H' (S.trans s') (by rw [show pin [] = [] from rfl, List.append_nil]; exact Same.seqT (S.trans s') hb) h') e ne⟩
            rcases O.known with ⟨m, ho⟩ | hk
            · obtain ⟨hk2, u, hu⟩ := hT _ ho
              have hl := O.ops m ho
              refine ⟨_, rfl, .ref p, _, true, rfl, hty, kit_seq ht, fun H1 s1 => ⟨_, rfl, ?_⟩⟩
              refine iteF ?_
              refine ⟨_, rfl, p, _, rfl, hs.mono s1, _, _, rfl, rfl, _, rfl, ?_⟩
              rw [decide_eq_false (by simp only [List.length_cons, List.length_nil]; omega)]
              refine iteF ?_
              refine ⟨_, rfl, ixA (hs.mono s1) 0 rfl ⟨.str wd, .ty "str", .type "str", .type "str", true, rfl, .ty "str", .base (.str wd), kit_ty (by decide +kernel), true, rfl, ?_⟩⟩
              refine iteF ?_
              refine ⟨_, rfl, ixA (hs.mono s1) 0 rfl ?_⟩
              refine ⟨_, rfl, rfl, _, rfl, ?_⟩
              rw [decS]
              rw [decide_eq_false (cU)]
              refine iteF ?_

              refine ⟨_, rfl, wd, some u, rfl, rfl, hu, true, rfl, ?_⟩
              refine iteT ?_
              refine ⟨_, rfl, p, _, rfl, hs.mono s1, ⟨_, rfl, dT, wd, _, rfl, rfl, hk2, _, _, rfl, rfl, rfl, _, rfl, ?_⟩⟩
              rw [decI, decide_eq_false (by rw [List.length_cons]; omega)]
              refine iteF ?_
              refine ⟨_, rfl, aN, sts nmd, rfl, .inr (hN _), rfl, flat_sts _, _, rfl, ?_⟩
              rw [show (if false = true then !inV (.str wd) (sts nmd) else inV (.str wd) (sts nmd)) = false from (inV_sts wd nmd).trans (decide_eq_false (cN))]
              refine iteF ?_
              refine ⟨_, rfl, rfl, _, rfl, ?_⟩
              rw [decS]
              rw [decide_eq_false (cB)]
              refine iteF ?_
              exact ⟨_, rfl, by show 1 ≤ 1000; decide, fun e ne => mk_err (fun d H' s' h' => qe b d H' (s1.trans s') (by rw [show pin [] = [] from rfl, List.append_nil]; exact Same.seqT (s1.trans s') hb) h') e ne⟩

            · refine ⟨_, rfl, .ref p, _, true, rfl, hty, kit_seq ht, fun H1 s1 => ⟨_, rfl, ?_⟩⟩
              refine iteF ?_
              refine ⟨_, rfl, p, _, rfl, hs.mono s1, _, _, rfl, rfl, _, rfl, ?_⟩
              rw [decide_eq_false (by simp only [List.length_cons, List.length_nil]; omega)]
              refine iteF ?_
              refine ⟨_, rfl, ixA (hs.mono s1) 0 rfl ⟨.str wd, .ty "str", .type "str", .type "str", true, rfl, .ty "str", .base (.str wd), kit_ty (by decide +kernel), true, rfl, ?_⟩⟩
              refine iteF ?_
              refine ⟨_, rfl, ixA (hs.mono s1) 0 rfl ?_⟩
              refine ⟨_, rfl, rfl, _, rfl, ?_⟩
              rw [decS]
              rw [decide_eq_false (cU)]
              refine iteF ?_
              refine ⟨_, rfl, wd, none, rfl, rfl, hno _ (hk), false, rfl, ?_⟩
              refine iteF ?_
              refine ⟨_, rfl, aN, sts nmd, rfl, .inr (hN _), rfl, flat_sts _, _, rfl, ?_⟩
              rw [show (if false = true then !inV (.str wd) (sts nmd) else inV (.str wd) (sts nmd)) = false from (inV_sts wd nmd).trans (decide_eq_false (cN))]
              refine iteF ?_
              refine ⟨_, rfl, rfl, _, rfl, ?_⟩
              rw [decS]
              rw [decide_eq_false (cB)]
              refine iteF ?_
              exact ⟨_, rfl, by show 1 ≤ 1000; decide, fun e ne => mk_err (fun d H' s' h' => qe b d H' (s1.trans s') (by rw [show pin [] = [] from rfl, List.append_nil]; exact Same.seqT (s1.trans s') hb) h') e ne⟩
        | @within _ _ p wd n us i0 y r hV hH hy hgood hbad hul =>
          rcases hV.kind with ⟨hw, rfl, hs⟩ | ⟨rfl, qq, hs, hq⟩ | ⟨rfl, hs⟩ | ⟨⟨m, ho⟩, rfl, hs⟩
          · cases hy
          · obtain ⟨t', ht, hty⟩ := tyS hs
            refine ⟨_, rfl, .ref p, _, true, rfl, hty, kit_seq ht, fun H1 s1 => ⟨_, rfl, ?_⟩⟩
            refine iteF ?_
            refine ⟨_, rfl, p, _, rfl, hs.mono s1, _, _, rfl, rfl, _, rfl, ?_⟩
            rw [decide_eq_false (by simp only [List.length_cons, List.length_nil]; omega)]
            refine iteF ?_
            refine ⟨_, rfl, ixA (hs.mono s1) 0 rfl ⟨.str "use", .ty "str", .type "str", .type "str", true, rfl, .ty "str", .base (.str "use"), kit_ty (by decide +kernel), true, rfl, ?_⟩⟩
            refine iteF ?_
            refine ⟨_, rfl, ixA (hs.mono s1) 0 rfl ?_⟩
            refine ⟨_, rfl, rfl, _, rfl, ?_⟩
            rw [decS]

            refine iteT ?_
            refine ⟨_, rfl, _, rfl, G, p, g, rfl, hG.mono s1, nd, .inl ⟨qq, n, us, hs.mono s1, hq.mono s1, hH.toUse, fun H2 s2 => ⟨_, rfl, ?_⟩⟩⟩
            refine iteT ?_
            have S := s1.trans s2
            refine ⟨_, rfl, ixA (hs.mono S) 1 rfl ⟨_, rfl, _, rfl, ixA (hs.mono S) 2 rfl ⟨_, rfl, _, rfl, G, qq, a, b, us, ns, g, path, rfl, hG.mono S, nd, by omega, hq.mono S, hul, Same.seqT S ha, by omega, Same.seqT S hb, by omega, .inr ⟨i0, y, r, hy, fun j x hj hx => (by have := hgood j x hj hx; rw [nsAt_no j ns (by decide)] at this; exact this.mono S), (by have := hbad; rw [nsAt_no i0 ns (by decide)] at this; exact this.mono S), fun pb d H' s' hp hx => qe pb d H' (S.trans s') hp hx⟩⟩⟩⟩

          · obtain ⟨t', ht, hty⟩ := tyS hs
            refine ⟨_, rfl, .ref p, _, true, rfl, hty, kit_seq ht, fun H1 s1 => ⟨_, rfl, ?_⟩⟩
            refine iteF ?_
            refine ⟨_, rfl, p, _, rfl, hs.mono s1, _, _, rfl, rfl, _, rfl, ?_⟩
            rw [decide_eq_false (by simp only [List.length_cons, List.length_nil]; omega)]
            refine iteF ?_
            refine ⟨_, rfl, ixA (hs.mono s1) 0 rfl ⟨.str "bind", .ty "str", .type "str", .type "str", true, rfl, .ty "str", .base (.str "bind"), kit_ty (by decide +kernel), true, rfl, ?_⟩⟩
            refine iteF ?_
            refine ⟨_, rfl, ixA (hs.mono s1) 0 rfl ?_⟩
            refine ⟨_, rfl, rfl, _, rfl, ?_⟩
            rw [decS]
            rw [decide_eq_false (by decide)]
            refine iteF ?_
            refine ⟨_, rfl, "bind", none, rfl, rfl, hno _ (by decide), false, rfl, ?_⟩
            refine iteF ?_
            refine ⟨_, rfl, aN, sts nmd, rfl, .inr (hN _), rfl, flat_sts _, _, rfl, ?_⟩
            rw [show (if false = true then !inV (.str "bind") (sts nmd) else inV (.str "bind") (sts nmd)) = false from (inV_sts "bind" nmd).trans (decide_eq_false (by decide))]
            refine iteF ?_

            obtain ⟨hn, h2⟩ := hH.toBind
            obtain ⟨u0, u1, rfl⟩ : ∃ u0 u1, us = [u0, u1] := by
              match us, h2 with
              | [u0, u1], _ => exact ⟨u0, u1, rfl⟩
            refine ⟨_, rfl, rfl, _, rfl, ?_⟩
            refine iteT ?_
            refine ⟨_, rfl, p, _, rfl, hs.mono s1, rfl, _, rfl, ?_⟩
            refine iteT ?_
            refine ⟨_, rfl, ixA (hs.mono s1) 1 rfl ⟨_, rfl, .inl ⟨n, rfl, len8 hn, fun H2 s2 => ⟨true, by rw [hn], ?_⟩⟩⟩⟩
            refine iteT ?_
            have S := s1.trans s2
            refine ⟨_, rfl, _, rfl, ixA (hs.mono S) 2 rfl ⟨_, rfl, _, rfl, by show 1 ≤ sizeLine; decide, fun pt np3 => ?_⟩⟩
            obtain ⟨H3, s3, h3, e3⟩ := lay (o := .tup [.int 0]) np3
            rw [e3]
            refine catA (Same.seqT (S.trans s3) hb) (SqT.of h3) (by rw [sizeLine_eq]; simp; omega) fun pb0 H4 s4 hpb0 => ?_
            have S4 := (S.trans s3).trans s4
            match i0, hy, hgood, hbad, qe with
            | 0, hy, hgood, hbad, qe =>
              obtain rfl := Option.some.inj hy
              refine ⟨G, a, pb0, u0, ns, g, _, rfl, hG.mono S4, nd, by omega, Same.seqT S4 ha, by omega, hpb0, by simp; omega, .inr ⟨r, hbad.mono S4, fun pb2 d H8 s8 hpb2 hx => qe pb2 d H8 (S4.trans s8) ?_ hx⟩⟩
              rw [List.append_assoc] at hpb2
              exact hpb2
            | 1, hy, hgood, hbad, qe =>
              obtain rfl := Option.some.inj hy
              obtain ⟨d0, k0, D0, T0, O0, z0⟩ := hgood 0 u0 (by omega) rfl
              refine ⟨G, a, pb0, u0, ns, g, _, rfl, hG.mono S4, nd, by omega, Same.seqT S4 ha, by omega, hpb0, by simp; omega, .inl ⟨d0, k0, dp_mono S4 D0, T0, O0, z0, fun v0 H5 s5 hv0 => ?_⟩⟩
              have S5 := S4.trans s5
              refine ⟨_, rfl, ixA (hs.mono S5) 1 rfl ⟨_, rfl, _, rfl, _, rfl, ixA (hs.mono S5) 3 rfl ⟨_, rfl, a, sts ns, rfl, .inl (Same.seqT S5 ha), _, rfl, ixA (hs.mono S5) 1 rfl ⟨by rw [sizeLine_eq]; simp [sts]; omega, fun nb np6 => ?_⟩⟩⟩⟩
              obtain ⟨H6, s6, h6, e6⟩ := lay (o := .tup (sts ns ++ [.str n])) np6
              rw [e6]
              refine ⟨_, rfl, by show 1 ≤ sizeLine; decide, fun pt np7 => ?_⟩
              obtain ⟨H7, s7, h7, e7⟩ := lay (o := .tup [.int 1]) np7
              rw [e7]
              refine catA (Same.seqT ((S5.trans s6).trans s7) hb) (SqT.of h7) (by rw [sizeLine_eq]; simp; omega) fun pb1 H8 s8 hpb1 => ?_
              have S8 := ((S5.trans s6).trans s7).trans s8
              refine ⟨G, nb, pb1, u1, nsAt "bind" n 1 ns, g, _, rfl, hG.mono S8, nd, by omega, by rw [show sts (nsAt "bind" n 1 ns) = sts ns ++ [.str n] from by simp [nsAt, sts]]; exact SqT.of (s8 _ _ (s7 _ _ h6)), by simp [nsAt]; omega, hpb1, by simp; omega, .inr ⟨r, hbad.mono S8, fun pb2 d H9 s9 hpb2 hx => qe pb2 d H9 (S8.trans s9) ?_ hx⟩⟩
              rw [List.append_assoc] at hpb2
              exact hpb2
            | i + 2, hy, _, _, _ => cases hy

          · obtain ⟨t', ht, hty⟩ := tyS hs
            have hm := hH.toOp ⟨m, ho⟩
            obtain ⟨hk2, u, hu⟩ := hT _ hm
            have n3 := ops_no _ ho
            have h1 : 1 ≤ us.length := by
              have := (show ∀ q ∈ opsW, 1 ≤ q.2 by decide) _ hm
              exact this
            refine ⟨_, rfl, .ref p, _, true, rfl, hty, kit_seq ht, fun H1 s1 => ⟨_, rfl, ?_⟩⟩
            refine iteF ?_
            refine ⟨_, rfl, p, _, rfl, hs.mono s1, _, _, rfl, rfl, _, rfl, ?_⟩
            rw [decide_eq_false (by simp only [List.length_cons, List.length_nil]; omega)]
            refine iteF ?_
            refine ⟨_, rfl, ixA (hs.mono s1) 0 rfl ⟨.str wd, .ty "str", .type "str", .type "str", true, rfl, .ty "str", .base (.str wd), kit_ty (by decide +kernel), true, rfl, ?_⟩⟩
            refine iteF ?_
            refine ⟨_, rfl, ixA (hs.mono s1) 0 rfl ?_⟩
            refine ⟨_, rfl, rfl, _, rfl, ?_⟩
            rw [decS]
            rw [decide_eq_false (n3.2.1)]
            refine iteF ?_

            refine ⟨_, rfl, wd, some u, rfl, rfl, hu, true, rfl, ?_⟩
            refine iteT ?_
            refine ⟨_, rfl, p, _, rfl, hs.mono s1, ⟨_, rfl, dT, wd, _, rfl, rfl, hk2, _, _, rfl, rfl, rfl, _, rfl, ?_⟩⟩
            rw [decI, decide_eq_true (by rw [List.length_cons]; omega)]
            refine iteT ?_
            refine ⟨_, rfl, _, rfl, _, rfl, _, rfl, ?_⟩
            refine slA (hs.mono s1) 1 fun qq H2 s2 hq => ?_
            have hq : SqA K H2 qq us := hq
            have S := s1.trans s2
            exact ⟨_, rfl, _, rfl, G, qq, a, b, us, ns, g, path, rfl, hG.mono S, nd, by omega, hq, hul, Same.seqT S ha, by omega, Same.seqT S hb, by omega, .inr ⟨i0, y, r, hy, fun j x hj hx => (by have := hgood j x hj hx; rw [nsAt_no j ns n3.2.2] at this; exact this.mono S), (by have := hbad; rw [nsAt_no i0 ns n3.2.2] at this; exact this.mono S), fun pb d H' s' hp hx => qe pb d H' (S.trans s') hp hx⟩⟩
end
end K39t
set_option Elab.async false
set_option linter.all false
set_option autoImplicit false
set_option maxRecDepth 100000
set_option maxHeartbeats 8000000
namespace K39
open PySem PySem.Spec L2 GB
abbrev sAN : Stmt := topS 14
def anN : List Str := ["thing", "name", "place"]
/-- whether a value is a name -/
def NmB (K : PySem.W.Frag) (H : Hp) (x : V) (b : Bool) : Prop := (∃ s : Str, x = .str s ∧ s.length ≤ sizeLine ∧ nameB s = b) ∨ (b = false ∧ ∃ t, (∀ H', Same H H' → TyX K H' x t) ∧ PySem.W.kitOne K t (.type "str") = some false)
theorem NmB.mono {K : PySem.W.Frag} {H H' : Hp} {x : V} {b : Bool} (s : Same H H') (h : NmB K H x b) : NmB K H' x b := by
  rcases h with h | ⟨h1, t, h2, h3⟩
  · exact .inl h
  · exact .inr ⟨h1, t, fun J sJ => h2 J (s.trans sJ), h3⟩
def spAN (K : PySem.W.Frag) : Sp := fun vs H Q _ => ∃ x : V, vs = [x] ∧
  ((∃ a xs bs, x = .ref a ∧ SqA K H a xs ∧ xs.length ≤ 1000 ∧ Paired (NmB K H) xs bs ∧ bs.all id = false ∧ ∀ H', Same H H' → Q (.bl false) H') ∨
   (∃ a ns, x = .ref a ∧ SqA K H a (sts ns) ∧ ns.length ≤ 1000 ∧ (∀ s ∈ ns, nameB s = true ∧ s.length ≤ sizeLine) ∧ ∀ H', Same H H' → Q (.bl (decide ns.Nodup)) H') ∨
   (∃ t, (∀ H', Same H H' → TyX K H' x t) ∧ PySem.W.kitAny K t [.type "list", .type "tuple"] = some false ∧ ∀ H', Same H H' → Q (.bl false) H'))
section
variable {P : Program} {w : World} {K : PySem.W.Frag} {mg : Str → Option Value} {base : Heap}
theorem scAN : FnScope anN ["thing"] (defScope sAN) := ⟨rfl, rfl, rfl, by decide +kernel, rfl, by decide +kernel, by decide +kernel⟩
theorem slB {H : Hp} {Q : VK} {p : Addr} {xs : List V} (h : SqA K H p xs) (k : Nat) (hk : k ≤ xs.length) (q : ∀ b H', Same H H' → SqA K H' b (xs.take k) → Q (.ref b) H') : rSlAny K (.ref p) none (some (k : Int)) H Q := by
  have ct : cutV xs none (some (k : Int)) = xs.take k := cut_to _ _ hk
  rcases h with h | h
  · refine .inl ⟨p, xs, rfl, h, fun a na => ?_⟩
    obtain ⟨H1, s1, h1, e1⟩ := lay (o := .lst (cutV xs none (some (k : Int)))) na
    rw [e1]
    exact q a H1 s1 (by rw [← ct]; exact .inl (SqL.of h1))
  · refine .inr ⟨p, xs, rfl, h, fun hw => ?_, fun _ a na => ?_⟩
    · have h0 := hw.2
      rw [HT.sIx_nat] at h0
      have e : xs.take k = xs := List.take_of_length_le (by omega)
      exact q p H (Same.refl _) (by rw [e]; exact .inr h)
    · obtain ⟨H1, s1, h1, e1⟩ := lay (o := .tup (cutV xs none (some (k : Int)))) na
      rw [e1]
      exact q a H1 s1 (by rw [← ct]; exact .inr (SqT.of h1))
/-- all([is_name(name) for name in thing]) -/
def tAN1 (K : PySem.W.Frag) : TE := fun σ H Q => ∃ (a : Addr) (xs : List V) (bs : List Bool), σ[0]? = some (some (.ref a)) ∧ 1 < σ.length ∧ SqA K H a xs ∧ xs.length ≤ 1000 ∧ Paired (NmB K H) xs bs ∧ ∀ H', Same H H' → Q (.bl (bs.all id)) H'
theorem an1_weak (σ : L2.St) (H : Hp) (Q : VK) (h : tAN1 K σ H Q) : tCB (rAll K) (tCons (tLc (iSeqW K (tVar 0)) (gName 1) tYes (tCall (spIsNm K) [] E0 (tCons (tVar 1) tNil)) [1]) tNil) σ H Q := by
  obtain ⟨a, xs, bs, h0, h1, hS, hl, hb, q⟩ := h
  have lb := Paired.length hb
  obtain ⟨kb, hqv⟩ := sqV (hS.mono same_hid0)
  refine ⟨_, h0, a, xs, kb, [], rfl, hqv, fun J WJ D nD => ?_⟩
  refine lc_it WJ (fun i H' => Same H H' ∧ H' D = some (.lst ((bs.take i).map V.bl))) ⟨same_new nD, upd_same⟩ (fun i H' _ s' => hqv.mono (hid_same s'.1)) ?_ ?_
  · rintro i y H1' H1 hi ⟨s1, k1⟩ ⟨rfl, hy⟩
    obtain ⟨b, hbi, hV⟩ := paired_at' hb hy
    have fin : ∀ H', Same H1 H' → ∃ acc, H' D = some (.lst acc) ∧ acc.length < sizeLine ∧ Same H (upd H' D (.lst (acc ++ [V.bl b]))) ∧ (upd H' D (.lst (acc ++ [V.bl b]))) D = some (.lst ((bs.take (i + 1)).map V.bl)) := fun H' s' => by
      refine ⟨_, s' _ _ k1, ?_, fun c o e => ?_, ?_⟩
      · rw [List.length_map, List.length_take, sizeLine_eq]; omega
      · rw [upd_ne (ne_of_none e nD)]; exact s' _ _ (s1 _ _ e)
      · rw [upd_same, take_at hbi, List.map_append]; rfl
    refine ⟨by simp [wipe, List.set_set], ⟨_, by unfold wipe wipe; rw [List.getElem?_set_self (by rw [List.length_set]; exact h1)], y, rfl, ?_⟩⟩
    rcases hV.mono s1 with ⟨s, rfl, ls, rfl⟩ | ⟨rfl, t, ht, hk⟩
    · exact .inl ⟨s, rfl, ls, fun H' s' => fin H' s'⟩
    · exact .inr ⟨t, ht _ (Same.refl _), hk, fin _ (Same.refl _)⟩
  · rintro H1 ⟨s1, k1⟩
    rw [lb, List.take_length] at k1
    exact ⟨D, _, rfl, SqL.of k1, q H1 s1⟩
theorem nd_snoc (l : List Str) (s : Str) : decide (l ++ [s]).Nodup = (decide l.Nodup && !decide (s ∈ l)) := by
  by_cases h : l.Nodup
  · by_cases c : s ∈ l
    · rw [decide_eq_true c, decide_eq_false fun e => (List.nodup_append.mp e).2.2 s c s List.mem_cons_self rfl]
      simp
    · rw [decide_eq_false c, decide_eq_true h, decide_eq_true (List.nodup_append.mpr ⟨h, by simp, fun a ha b hb e => c (by rw [← List.mem_singleton.mp hb, ← e]; exact ha)⟩)]
      rfl
  · rw [decide_eq_false h, decide_eq_false fun e => h (List.nodup_append.mp e).1]
    rfl
/-- all([name not in thing[:place] for place, name in enumerate(thing)]) -/
def tAN2 (K : PySem.W.Frag) : TE := fun σ H Q => ∃ (a : Addr) (ns : List Str), σ[0]? = some (some (.ref a)) ∧ 2 < σ.length ∧ SqA K H a (sts ns) ∧ ns.length ≤ 1000 ∧ ∀ H', Same H H' → Q (.bl (decide ns.Nodup)) H'
theorem an2_weak {K : PySem.W.Frag} (σ : L2.St) (H : Hp) (Q : VK) (h : tAN2 K σ H Q) : tCB (rAll K) (tCons (tLc (iEnumW K (tCons (tVar 0) tNil)) (gTup K 2 (gCons (gName 2) (gCons (gName 1) gNil))) tYes (tOp (rIn K true) (tVar 1) (tSl (rSlAny K) (tVar 0) tNoPart (tPart (tVar 2)))) [2, 1]) tNil) σ H Q := by
  obtain ⟨a, ns, h0, h2, hS, hl, q⟩ := h
  obtain ⟨kb, hqv⟩ := sqV (hS.mono same_hid0)
  refine ⟨_, h0, a, sts ns, kb, [], rfl, hqv, fun J WJ D nD => ?_⟩
  refine lc_it WJ (fun i H' => Same H H' ∧ ∃ bs : List Bool, bs.length = i ∧ bs.all id = decide (ns.take i).Nodup ∧ H' D = some (.lst (bs.map V.bl))) ⟨same_new nD, [], rfl, by simp, upd_same⟩ (fun i H' _ s' => hqv.mono (hid_same s'.1)) ?_ ?_
  · rintro i y H1 H1' hi ⟨s1, bs, lb, ab, k1⟩ ⟨Tp, y1, y2, rfl, nT, rfl, q1, q2⟩
    obtain rfl := Option.some.inj q1
    obtain ⟨s, hs, rfl⟩ := sts_at q2
    obtain ⟨H3, s3, h3, e3⟩ := lay (o := .tup [.int (i : Nat), .str s]) nT
    rw [e3]
    have il := (List.getElem?_eq_some_iff.mp hs).1
    have S3 := s1.trans s3
    have e2 : ((((wipe σ [2, 1]).set 2 (some (V.int ((i : Nat) : Int)))).set 1 (some (V.str s))))[1]? = some (some (.str s)) := by
      rw [List.getElem?_set_self]
      unfold wipe wipe wipe
      simp only [List.length_set]
      omega
    have e4 : ((((wipe σ [2, 1]).set 2 (some (V.int ((i : Nat) : Int)))).set 1 (some (V.str s))))[2]? = some (some (.int ((i : Nat) : Int))) := by
      rw [List.getElem?_set_ne (by decide), List.getElem?_set_self]
      unfold wipe wipe wipe
      simp only [List.length_set]
      omega
    have e5 : ((((wipe σ [2, 1]).set 2 (some (V.int ((i : Nat) : Int)))).set 1 (some (V.str s))))[0]? = some (some (.ref a)) := by
      rw [List.getElem?_set_ne (by decide), List.getElem?_set_ne (by decide)]
      unfold wipe wipe wipe
      rw [List.getElem?_set_ne (by decide), List.getElem?_set_ne (by decide)]
      exact h0
    refine ⟨Tp, _, rfl, SqT.of h3, rfl, _, _, rfl, _, _, rfl, rfl, ?_⟩
    refine ⟨?_, ⟨_, e2, _, e5, _, e4, ?_⟩⟩
    · refine List.ext_getElem? fun j => ?_
      simp only [wipe, List.getElem?_set, List.length_set]
      by_cases j1 : 1 = j
      · subst j1; simp
      · by_cases j2 : 2 = j
        · subst j2; simp
        · simp [j1, j2]
    · refine ⟨_, rfl, slB (hS.mono S3) i (by rw [sts_len]; omega) fun b H4 s4 hb => ?_⟩
      have et : (sts ns).take i = sts (ns.take i) := by unfold sts; rw [List.map_take]
      rw [et] at hb
      refine ⟨b, sts (ns.take i), rfl, hb, rfl, flat_sts _, _, s4 _ _ (s3 _ _ k1), ?_, fun c o e => ?_, bs ++ [!decide (s ∈ ns.take i)], ?_, ?_, ?_⟩
      · rw [List.length_map, sizeLine_eq]; omega
      · rw [upd_ne (ne_of_none e nD)]; exact s4 _ _ (S3 _ _ e)
      · rw [List.length_append, lb]; rfl
      · rw [List.all_append, ab, take_at hs, nd_snoc]
        simp
      · rw [upd_same, List.map_append]
        rw [show (if true = true then !inV (.str s) (sts (ns.take i)) else inV (.str s) (sts (ns.take i))) = !decide (s ∈ ns.take i) from congrArg (!·) (inV_sts _ _)]
        rfl
  · rintro H1 ⟨s1, bs, lb, ab, k1⟩
    rw [sts_len, List.take_length] at ab
    refine ⟨D, _, rfl, SqL.of k1, ?_⟩
    rw [ab]
    exact q H1 s1
theorem ok_an {f : Addr} {fd : FuncData} (F : Fun K "are_names" "are_names" sAN f fd) (T : Bl mg) (IL : Fns P w K mg base "is_list" 1 ["thing"] (spIsL K)) (NM : Fns P w K mg base "is_name" 1 ["thing"] (spIsNm K)) : FnOk P w K mg base CX0 2 f fd ["thing"] (spAN K) := by
  refine F.ok scAN (fun vs H Q E h => ?_) (fun cdv A outer s H vs Q E hr h => ?_)
  · obtain ⟨x, rfl, _⟩ := h
    rfl
  · obtain ⟨x, rfl, h⟩ := h
    refine ⟨_, pss_cons (ps_if (PW.pt (pw_or (pt_not (pt_val (pe_fn IL hr (by decide) rfl (pa_cons (pv 0) (pa_nil))))) (pw_or1 (pt_not (pt_val (pe_weak (t' := tAN1 K) (pe_callB (r := rAll K) (cr_all rfl) (by rfl) T.all (by decide +kernel) (pa_cons (pe_lc (own := [("name", 1)]) (g := gName 1) (tt := tYes) rfl scAN.nd (pi_seqW (pv 0)) (blkOk_by (own := [("name", 1)]) (N := anN) (sc := defScope sAN) (by decide +kernel)) (fun _ _ _ _ _ => pg_name (i := 1) scAN.nd rfl (.inl rfl)) (fun _ _ _ _ _ => pts_nil) (fun _ _ _ _ _ => pe_fn (sp := spIsNm K) (k := 1) NM hr (by decide) rfl (pa_cons (pv 1) pa_nil))) pa_nil)) an1_weak)))))) (pss_one (ps_ret (pe_bl))) (pss_nil)) (pss_one (ps_ret (pe_weak (t' := tAN2 K) (pe_callB (r := rAll K) (cr_all rfl) (by rfl) T.all (by decide +kernel) (pa_cons (pe_lc (own := [("place", 2), ("name", 1)]) (g := gTup K 2 (gCons (gName 2) (gCons (gName 1) (gNil)))) (tt := tYes) rfl scAN.nd (pi_enumW rfl T.enum (pa_cons (pv 0) (pa_nil))) (blkOk_by (own := [("place", 2), ("name", 1)]) (N := anN) (sc := defScope sAN) (by decide +kernel)) (fun _ _ _ _ _ => pg_tup rfl (pgs_cons (pg_name (i := 2) scAN.nd rfl (.inl rfl)) (pgs_cons (pg_name (i := 1) scAN.nd rfl (.inl rfl)) (pgs_nil)))) (fun _ _ _ _ _ => pts_nil) (fun _ _ _ _ _ => pe_cmpR (r := rIn K true) op_notIn_seq (pv 1) (pe_slice (r := rSlAny K) sl_any (pv 0) po_none (po_some (pv 2))) (by rfl))) pa_nil)) an2_weak))), ?_⟩
    rcases h with ⟨a, xs, bs, rfl, hS, hl, hb, hall, q⟩ | ⟨a, ns, rfl, hS, hl, hn, q⟩ | ⟨t, ht, hk, q⟩
    · obtain ⟨ty, ht, hty⟩ := tyS hS
      refine ⟨_, rfl, .ref a, _, true, rfl, hty, kit_seq ht, fun H1 s1 => ⟨_, rfl, ?_⟩⟩
      refine iteF ?_
      refine ⟨a, xs, bs, rfl, by show 1 < 3; decide, hS.mono s1, hl, Paired.mapP hb fun _ _ z => z.mono s1, fun H2 s2 => ⟨_, rfl, ?_⟩⟩
      rw [hall]
      refine iteT ?_
      exact q H2 (s1.trans s2)
    · obtain ⟨ty, ht, hty⟩ := tyS hS
      refine ⟨_, rfl, .ref a, _, true, rfl, hty, kit_seq ht, fun H1 s1 => ⟨_, rfl, ?_⟩⟩
      refine iteF ?_
      have hb : Paired (NmB K H1) (sts ns) (ns.map fun _ => true) := by
        clear hS hl q hty ht
        induction ns with
        | nil => exact .nil
        | cons s r ih =>
          obtain ⟨h1, h2⟩ := hn s List.mem_cons_self
          exact .cons (.inl ⟨s, rfl, h2, h1⟩) (ih fun z hz => hn z (List.mem_cons_of_mem _ hz))
      refine ⟨a, sts ns, _, rfl, by show 1 < 3; decide, hS.mono s1, by rw [sts_len]; exact hl, hb, fun H2 s2 => ⟨_, rfl, ?_⟩⟩
      rw [show (ns.map fun _ => true).all id = true by simp]
      refine iteF ?_
      exact ⟨a, ns, rfl, by show 2 < 3; decide, hS.mono (s1.trans s2), hl, fun H3 s3 => q H3 ((s1.trans s2).trans s3)⟩
    · refine ⟨_, rfl, x, t, false, rfl, ht, hk, fun H1 s1 => ⟨_, rfl, ?_⟩⟩
      refine iteT ?_
      exact q H1 s1
end
end K39
set_option Elab.async false
set_option linter.all false
set_option maxRecDepth 100000
set_option maxHeartbeats 8000000
/-! what is looked up in the part of the heap behind the top, each kind of fact by one function to Bool -/
namespace FX
open PySem PySem.Spec PyProof.Rows L2 He GB
open PySem.W (findIn subIn typeIn keepIn nsIn Frag)
/-- an own error's class object -/
def errObj (K : Frag) (C : Addr) : Bool := match K.lookup C with
  | some ⟨.type "type", _, .cls cd, sl⟩ => (match cd.mro, sl.toList with
    | .ref D :: bm, [_, _, _, _, some (.builtin m), _] => D == C && (m == "ValueError.__new__" && (!cd.hasDel && (cd.hasDict && PySem.HandSPX.refsVE bm)))
    | _, _ => false)
  | _ => false
theorem errObj_ok {K : Frag} {C : Addr} (q : errObj K C = true) : ∃ nm qn N bs bm sn sub ab col dd k0 k1 k2 k3 k5, K.lookup C = some (excClassObj nm qn C N bs bm true sn sub ab col dd k0 k1 k2 k3 k5 "ValueError.__new__") ∧ PySem.HandSPX.refsVE bm = true := by
  unfold errObj at q
  split at q
  · rename_i dd cd sl ho
    split at q
    · rename_i D bm k0 k1 k2 k3 m k5 hm hs
      simp only [Bool.and_eq_true, beq_iff_eq, Bool.not_eq_true'] at q
      obtain ⟨e1, e2, e3, e4, e5⟩ := q
      subst e1 e2
      obtain ⟨nm, bs, mro, ns, qn, hd, sn, sub, ab, col, del⟩ := cd
      dsimp only at hm e3 e4
      subst hm e3 e4
      have hsl : sl = #[k0, k1, k2, k3, some (.builtin "ValueError.__new__"), k5] := by
        obtain ⟨l⟩ := sl
        simp only at hs
        rw [hs]
      subst hsl
      exact ⟨_, _, _, _, _, _, _, _, _, _, _, _, _, _, _, ho, e5⟩
    · cases q
  · cases q
def oexB (K : Frag) (C : Addr) : Bool := errObj K C && (eqO (findIn K (.ref C) "__setattr__") (some (some (.builtin "object.__setattr__"))) && (decide (subIn K (.ref C) (.type "BaseException") = some true) && (decide (typeIn K (.ref C) = some (.type "type")) && keepIn K (.ref C))))
theorem oex_of {K : Frag} {C : Addr} (q : oexB K C = true) : OexC K C := by
  obtain ⟨a1, q⟩ := ba q
  obtain ⟨a2, q⟩ := ba q
  obtain ⟨a3, q⟩ := ba q
  obtain ⟨a4, a5⟩ := ba q
  exact ⟨errObj_ok a1, eqO_ok a2, of_decide_eq_true a3, of_decide_eq_true a4, a5⟩
def blts : List Str := ["len", "int", "list", "tuple", "dict", "range", "sorted", "isinstance", "bool", "str", "all", "any", "enumerate"]
def freeB (K : Frag) (l : List Str) : Bool := l.all fun x => (Fa.free x).ok K
theorem free_of {K : Frag} {h : Heap} {mg : Str → Option Value} (X : K.In h) (G : h.Ns mainGlobals mg) {l : List Str} (q : freeB K l = true) {x : Str} (hx : x ∈ l) : mg x = none := free_ok X G (List.all_eq_true.mp q x hx)
theorem bl_of {K : Frag} {h : Heap} {mg : Str → Option Value} (X : K.In h) (G : h.Ns mainGlobals mg) (q : freeB K blts = true) : Bl mg := by
  have f : ∀ x ∈ blts, mg x = none := fun x hx => free_of X G q hx
  exact ⟨f _ (by simp [blts]), f _ (by simp [blts]), f _ (by simp [blts]), f _ (by simp [blts]), f _ (by simp [blts]), f _ (by simp [blts]), f _ (by simp [blts]), f _ (by simp [blts]), f _ (by simp [blts]), f _ (by simp [blts]), f _ (by simp [blts]), f _ (by simp [blts]), f _ (by simp [blts])⟩
theorem int_of {K : Frag} {h : Heap} {mg : Str → Option Value} (X : K.In h) (G : h.Ns mainGlobals mg) {x : Str} {i : Int} (q : (Fa.int x i).ok K = true) : ∃ u, mg x = some u ∧ RelV (.int i) u := by
  obtain ⟨t, e⟩ := int_ok X G q
  exact ⟨_, e, t, rfl⟩
/-- an own error's class with the field f -/
def xfieldB (K : Frag) (C : Addr) (f : Str) : Bool := oexB K C && (xfB K C && (eqO (findIn K (.ref C) f) (some none) && decide (PySem.W.exmOne K (.ref C) (.ref C) = some true)))
theorem xfield_of {K : Frag} {C : Addr} {f : Str} (q : xfieldB K C f = true) : OexC K C ∧ XfC K C ∧ findIn K (.ref C) f = some none ∧ PySem.W.exmOne K (.ref C) (.ref C) = some true := by
  obtain ⟨a1, q⟩ := ba q
  obtain ⟨a2, q⟩ := ba q
  obtain ⟨a3, a4⟩ := ba q
  exact ⟨oex_of a1, xfB_ok a2, eqO_ok a3, of_decide_eq_true a4⟩
/-- a plain class of the package -/
def clB (K : Frag) (C : Addr) : Bool := PySem.W.plainGet K C Str.empty && (PySem.W.hasDictIn K C && (PySem.W.plainOver K C && eqO (findIn K (.ref C) "__setattr__") (some (some (.builtin "object.__setattr__")))))
theorem cl_of {K : Frag} {C : Addr} (q : clB K C = true) : Cls K C := by
  obtain ⟨c1, q⟩ := ba q
  obtain ⟨c2, q⟩ := ba q
  obtain ⟨c3, c4⟩ := ba q
  exact ⟨c1, c2, c3, eqO_ok c4⟩
def noB (K : Frag) (C : Addr) (l : List Str) : Bool := l.all fun f => eqO (findIn K (.ref C) f) (some none)
theorem no_of {K : Frag} {C : Addr} {l : List Str} (q : noB K C l = true) {f : Str} (hf : f ∈ l) : NoAttr K C f := eqO_ok (List.all_eq_true.mp q f hf)
def mkB (K : Frag) (C f : Addr) : Bool := PySem.W.makesIn K C && (eqO (findIn K (.ref C) "__init__") (some (some (.ref f))) && (PySem.W.isFn K (.ref f) && keepIn K (.ref C)))
theorem mk_of {K : Frag} {C f : Addr} (q : mkB K C f = true) : Mk K C f := by
  obtain ⟨c1, q⟩ := ba q
  obtain ⟨c2, q⟩ := ba q
  obtain ⟨c3, c4⟩ := ba q
  exact ⟨c1, eqO_ok c2, c3, c4⟩
def methB (K : Frag) (C : Addr) (m : Str) (f : Addr) : Bool := eqO (findIn K (.ref C) m) (some (some (.ref f))) && (PySem.W.isFn K (.ref f) && keepIn K (.ref f))
theorem meth_of {K : Frag} {C : Addr} {m : Str} {f : Addr} (q : methB K C m f = true) : Meth K C m f := by
  obtain ⟨c1, q⟩ := ba q
  obtain ⟨c2, c3⟩ := ba q
  exact ⟨eqO_ok c1, c2, c3⟩
/-- a table of the module: its keys' words, their numbers -/
def dctB (K : Frag) (a : Addr) (l : List (Str × Nat)) : Bool := l.all fun q => match nsIn K a q.1 with
  | some (some u) => relB (.int (q.2 : Int)) u
  | _ => false
theorem dct_of {K : Frag} {a : Addr} {l : List (Str × Nat)} (h : dctB K a l = true) {q : Str × Nat} (hq : q ∈ l) : ∃ u, nsIn K a q.1 = some (some u) ∧ RelV (.int (q.2 : Int)) u := by
  have h2 := List.all_eq_true.mp h q hq
  cases e : nsIn K a q.1 with
  | none =>
    rw [e] at h2
    cases h2
  | some r =>
    rw [e] at h2
    cases r with
    | none => cases h2
    | some u => exact ⟨u, rfl, relB_ok h2⟩
/-- three defaults that are objects -/
def dfl3 (K : Frag) (dV : Value) : Option (Addr × Addr × Addr) := match dV with
  | .ref T => (match K.lookup T with
    | some ⟨_, _, .seq its _, _⟩ => (match its.toList with
      | [.ref a, .ref b, .ref c] => some (a, b, c)
      | _ => none)
    | _ => none)
  | _ => none
theorem dfl3_ok {K : Frag} {dV : Value} (h : (dfl3 K dV).isSome = true) : ∃ a b c, DflV K dV [.ref a, .ref b, .ref c] := by
  unfold dfl3 at h
  split at h
  · rename_i T
    split at h
    · rename_i oc od its n sl ho
      split at h
      · rename_i a b c hi
        refine ⟨a, b, c, .inr ⟨List.cons_ne_nil _ _, T, _, its.toList, n, rfl, ho, by simp, ?_⟩⟩
        rw [hi]
        exact .cons rfl (.cons rfl (.cons rfl .nil))
      · cases h
    · cases h
  · cases h
/-- the table of a code object that makes others -/
def ptOf (K : Frag) (c : Addr) : Addr := match K.lookup c with
  | some ⟨_, _, .fields vs, _⟩ => (match (vs[11]? : Option Value) with
    | some (Value.ref P) => P
    | _ => 0)
  | _ => 0
def isS : Value → Bool
  | .str _ _ => true
  | _ => false
def isI : Value → Bool
  | .int _ _ => true
  | _ => false
def isB : Value → Bool
  | .bool _ => true
  | _ => false
def codeB (K : Frag) (c P : Addr) : Bool := match K.lookup c with
  | some ⟨.type t, _, .fields vs, _⟩ => t == "code" && (decide (vs[11]? = some (.ref P)) && (isS (vs.getD 18 .none) && (isI (vs.getD 7 .none) && (isB (vs.getD 9 .none) && (isI (vs.getD 10 .none) && (!(c == P) && (K.lookup P).isNone))))))
  | _ => false
theorem codeB_ok {K : Frag} {h : Heap} (X : K.In h) {c P : Addr} (q : codeB K c P = true) : PySem.W.CodeHd h c P ∧ K.lookup P = none ∧ ∃ (e : Value) (dd : Option Addr) (vs : Array Value) (sl : Array (Option Value)), K.lookup c = some ⟨e, dd, .fields vs, sl⟩ ∧ vs[11]? = some (.ref P) := by
  unfold codeB at q
  split at q
  · rename_i t dd vs sl ho
    obtain ⟨a1, q⟩ := ba q
    obtain ⟨a2, q⟩ := ba q
    obtain ⟨a3, q⟩ := ba q
    obtain ⟨a4, q⟩ := ba q
    obtain ⟨a5, q⟩ := ba q
    obtain ⟨a6, q⟩ := ba q
    obtain ⟨a7, a8⟩ := ba q
    have e1 : t = "code" := beq_iff_eq.mp a1
    subst e1
    have e2 : vs[11]? = some (.ref P) := of_decide_eq_true a2
    have s3 : ∃ x tk, vs.getD 18 .none = .str x tk := by
      cases e : vs.getD 18 .none with
      | str x tk => exact ⟨x, tk, rfl⟩
      | _ => rw [e] at a3; cases a3
    have s4 : ∃ x tk, vs.getD 7 .none = .int x tk := by
      cases e : vs.getD 7 .none with
      | int x tk => exact ⟨x, tk, rfl⟩
      | _ => rw [e] at a4; cases a4
    have s5 : ∃ x, vs.getD 9 .none = .bool x := by
      cases e : vs.getD 9 .none with
      | bool x => exact ⟨x, rfl⟩
      | _ => rw [e] at a5; cases a5
    have s6 : ∃ x tk, vs.getD 10 .none = .int x tk := by
      cases e : vs.getD 10 .none with
      | int x tk => exact ⟨x, tk, rfl⟩
      | _ => rw [e] at a6; cases a6
    obtain ⟨x3, t3, h3⟩ := s3
    obtain ⟨x4, t4, h4⟩ := s4
    obtain ⟨x5, h5⟩ := s5
    obtain ⟨x6, t6, h6⟩ := s6
    have e7 : c ≠ P := fun z => by
      subst z
      rw [show (c == c) = true from beq_self_eq_true c] at a7
      cases a7
    have e8 : K.lookup P = none := Option.isNone_iff_eq_none.mp a8
    refine ⟨⟨_, vs, x3, t3, x4, t4, x5, x6, t6, X _ _ ho, rfl, rfl, e2, ?_, h3, h4, h5, h6, e7⟩, e8, _, _, vs, _, ho, e2⟩
    rw [Array.getD_eq_getD_getElem?, e2]
    rfl
  · cases q
/-- an own error's class whose __init__ keeps its one argument -/
theorem err_of {P : Program} {w : World} {K : Frag} {mg : Str → Option Value} {base : Heap} {n f : Str} {C fI : Addr} {fd : FuncData} (gC : mg n = some (.ref C)) (T : OexC K C) (iC : findIn K (.ref C) "__init__" = some (some (.ref fI))) (tI : typeIn K (.ref fI) = some (.type "function"))
    (F : FnOk P w K mg base CX0 1 fI fd ["self", f] (spInitE C f)) (b : Binds K fd ["self", f] []) : ErrC P w K mg base n f C := ⟨gC, T, fI, fd, iC, tI, F, b⟩
theorem FunD.ok0 {P : Program} {w : World} {K : Frag} {mg : Str → Option Value} {base : Heap} {x qual : Str} {params : Arguments} {body : List Stmt} {scope : Scope} {dvs : List V} {kws : List (Str × V)} {f : Addr} {fd : FuncData} {N ps : List Str} {k : Nat} {sp : Sp}
    (F : FunD K x qual params body scope dvs kws f fd) (S : FnScope N ps scope) (len : ∀ vs H Q E, sp vs H Q E → vs.length = ps.length)
    (hbody : ∀ (cdv : Value) (A : Around) (outer : List Env) (s : Shared) (H : Hp) (vs : List V) (Q : VK) (E : XK), Room k (A.deeper (envOfC qual scope s.heap.objs.size f cdv)) → sp vs H Q E →
      ∃ t, PSs (cxOf CX0 P w K mg base N qual scope f cdv A outer s H E).nox body t ∧ t { nx := fun _ H' => Q .non H', rt := Q } (start N vs) H) : FnOk P w K mg base CX0 (k + 1) f fd ps sp :=
  F.ok S len fun cdv A outer s H vs Q E hr hsp => let ⟨t, h, q⟩ := hbody cdv A outer s H vs Q E hr hsp; ⟨t, h.nox, q⟩
theorem tup_of {K : Frag} {h : Heap} {mg : Str → Option Value} (X : K.In h) (G : h.Ns mainGlobals mg) {x : Str} {vs : List Str} (q1 : (Fa.glo x).ok K = true) (q2 : tupB K x (vs.map Dv.str) = true) : ∃ a, mg x = some (.ref a) ∧ ∀ H, SqT K H a (sts vs) :=
  ⟨ga K x, glo_ok X G q1, fun H => by
    have e := tupB_ok q2 H
    rw [List.map_map] at e
    exact e⟩
end FX
set_option Elab.async false
set_option linter.all false
set_option maxRecDepth 100000
set_option maxHeartbeats 4000000
/-! Grounds as Ground takes them (fixed and commuting in any order, facts as lists or tuples), and as it keeps them. -/
namespace GB
open PySem PySem.Spec L2
theorem nodup_le : ∀ {l m : List Str}, l.Nodup → (∀ x ∈ l, x ∈ m) → l.length ≤ m.length
  | [], _, _, _ => Nat.zero_le _
  | x :: l, m, h, s => by
    have hx := s x List.mem_cons_self
    have h' := List.nodup_cons.mp h
    have := nodup_le (l := l) (m := m.erase x) h'.2 fun y hy => (List.mem_erase_of_ne (fun e => h'.1 (by rw [← e]; exact hy))).mpr (s y (List.mem_cons_of_mem _ hy))
    rw [List.length_erase_of_mem hx] at this
    have := List.length_pos_of_mem hx
    rw [List.length_cons]
    omega
/-- what Ground asks of its parts -/
structure GD.Fit (g : GD) : Prop where
  ne : g.letters ≠ []
  nd : (g.letters.map (·.1)).Nodup
  nm : ∀ q ∈ g.letters, nameB q.1 = true
  le : g.letters.length ≤ 12
  ar : ∀ q ∈ g.letters, q.2 ≤ 2
  fx : g.fixed.Nodup
  fs : ∀ x ∈ g.fixed, x ∈ g.letters.map (·.1)
  cm : g.comm.Nodup
  cs : ∀ x ∈ g.comm, x ∈ g.fixed
  c2 : ∀ x ∈ g.comm, (x, 2) ∈ g.letters
  fl : g.facts.length ≤ 6
  fa : ∀ f ∈ g.facts, f.Ok g.letters g.fixed
  fd : (g.facts.map g.asked).Nodup
theorem GD.Wf.fit {g : GD} (h : g.Wf) : g.Fit :=
  ⟨h.ne, h.nd, fun q hq => (show ∀ x ∈ nmA, nameB x = true by decide +kernel) _ (h.nm q hq), by have := h.le; omega, h.ar, h.fx.nodup h.nd, fun x hx => h.fx.subset hx, h.cm.nodup (h.fx.nodup h.nd), fun x hx => h.cm.subset hx, h.c2, h.fl, h.fa, h.fd⟩
/-- the letters that stand in xs, in their order -/
def GD.sel (g : GD) (xs : List Str) : List Str := (g.letters.map (·.1)).filter fun x => decide (x ∈ xs)
theorem GD.mem_sel {g : GD} {xs : List Str} (h : ∀ x ∈ xs, x ∈ g.letters.map (·.1)) {x : Str} : x ∈ g.sel xs ↔ x ∈ xs := by
  unfold GD.sel
  rw [List.mem_filter]
  simp only [decide_eq_true_eq]
  exact ⟨fun z => z.2, fun z => ⟨h x z, z⟩⟩
/-- the same, fixed and commuting in the order of letters -/
def GD.norm (g : GD) : GD := ⟨g.letters, g.sel g.fixed, g.sel g.comm, g.facts⟩
theorem GD.Fit.cl {g : GD} (h : g.Fit) : ∀ x ∈ g.comm, x ∈ g.letters.map (·.1) := fun x hx => h.fs x (h.cs x hx)
theorem GD.Fit.asked {g : GD} (h : g.Fit) (f : Fact) : g.norm.asked f = g.asked f := by
  have e : (f.x ∈ g.norm.comm) = (f.x ∈ g.comm) := propext (GD.mem_sel h.cl)
  unfold GD.asked
  by_cases m : f.x ∈ g.comm
  · rw [if_pos m, if_pos (by rw [e]; exact m)]
  · rw [if_neg m, if_neg (by rw [e]; exact m)]
theorem GD.Fit.norm {g : GD} (h : g.Fit) : g.norm.Fit where
  ne := h.ne
  nd := h.nd
  nm := h.nm
  le := h.le
  ar := h.ar
  fx := h.nd.filter _
  fs := fun x hx => (List.mem_filter.mp hx).1
  cm := h.nd.filter _
  cs := fun x hx => (GD.mem_sel h.fs).mpr (h.cs x ((GD.mem_sel h.cl).mp hx))
  c2 := fun x hx => h.c2 x ((GD.mem_sel h.cl).mp hx)
  fl := h.fl
  fa := fun f hf => let o := h.fa f hf; ⟨(GD.mem_sel h.fs).mpr o.x, o.len, o.vals, o.kind, o.en⟩
  fd := by
    have e : g.norm.facts.map g.norm.asked = g.facts.map g.asked := List.map_congr_left fun f _ => h.asked f
    rw [e]
    exact h.fd
/-- a list or a tuple of one's own -/
def PlA (H : Hp) (a : Addr) (xs : List V) : Prop := H a = some (.lst xs) ∨ H a = some (.tup xs)
theorem PlA.mono {H H' : Hp} {a : Addr} {xs : List V} (s : Same H H') (h : PlA H a xs) : PlA H' a xs := h.imp (s _ _) (s _ _)
theorem PlA.sq {K : PySem.W.Frag} {H : Hp} {a : Addr} {xs : List V} (h : PlA H a xs) : SqA K H a xs := h.imp SqL.of SqT.of
/-- a fact as it is handed over: lists or tuples -/
structure FactA (H : Hp) (f : Fact) (t : Addr) : Prop where
  ex : ∃ v e : Addr, PlA H t [.str f.x, .ref v, .ref e] ∧ PlA H v (sts f.vals) ∧ PlA H e [.str f.kind, .str f.en]
theorem FactA.mono {H H' : Hp} {f : Fact} {t : Addr} (s : Same H H') (h : FactA H f t) : FactA H' f t := let ⟨v, e, h1, h2, h3⟩ := h.ex; ⟨v, e, h1.mono s, h2.mono s, h3.mono s⟩
theorem FactAt.any {H : Hp} {f : Fact} {t : Addr} (h : FactAt H f t) : FactA H f t := let ⟨v, e, h1, h2, h3⟩ := h.ex; ⟨v, e, .inr h1, .inr h2, .inr h3⟩
/-- tuple(x) of such a one -/
theorem tupP {K : PySem.W.Frag} {H : Hp} {Q : VK} {p : Addr} {ys : List V} (h : PlA H p ys) (q : ∀ l H', Same H H' → H' l = some (.tup ys) → Q (.ref l) H') : (SqL K H p ys ∧ ∀ l, H l = none → Q (.ref l) (upd H l (.tup ys))) ∨ (SqT K H p ys ∧ Q (.ref p) H) := by
  rcases h with h | h
  · refine .inl ⟨SqL.of h, fun l nl => ?_⟩
    obtain ⟨H1, s1, h1, e1⟩ := lay (o := .tup ys) nl
    rw [e1]
    exact q l H1 s1 h1
  · exact .inr ⟨SqT.of h, q p H (Same.refl _) h⟩
/-- a ground of the package, all that it tells -/
structure IsGr2 (C : Addr) (H : Hp) (G : Addr) (g : GD) : Prop where
  ex : ∃ dx fs l1 l2 l3 l4 l5, H G = some (.ins C dx fs) ∧ (fs.lookup ("_facts" : Str) = some (.ref l1) ∧ FactsAt H l1 g.facts) ∧ (fs.lookup ("_letters" : Str) = some (.ref l2) ∧ H l2 = some (.dK (lkv g.letters))) ∧
    (fs.lookup ("_order" : Str) = some (.ref l3) ∧ H l3 = some (.lst (sts (g.letters.map (·.1))))) ∧ (fs.lookup ("_fixed" : Str) = some (.ref l4) ∧ H l4 = some (.lst (sts (g.sel g.fixed)))) ∧
    (fs.lookup ("_commuting" : Str) = some (.ref l5) ∧ H l5 = some (.lst (sts (g.sel g.comm)))) ∧ ∀ m ∈ (["letters", "fixed", "commuting", "facts", "parts_of"] : List Str), fs.lookup m = none
theorem IsGr2.mono {C : Addr} {H H' : Hp} {G : Addr} {g : GD} (s : Same H H') (h : IsGr2 C H G g) : IsGr2 C H' G g :=
  let ⟨dx, fs, l1, l2, l3, l4, l5, h0, h1, h2, h3, h4, h5, h6⟩ := h.ex
  ⟨dx, fs, l1, l2, l3, l4, l5, s _ _ h0, ⟨h1.1, h1.2.mono s⟩, ⟨h2.1, s _ _ h2.2⟩, ⟨h3.1, s _ _ h3.2⟩, ⟨h4.1, s _ _ h4.2⟩, ⟨h5.1, s _ _ h5.2⟩, h6⟩
/-- (a, b, ..) = a list or a tuple of that length -/
def gSqA (K : PySem.W.Frag) (n : Nat) (t : TGs) : TG := fun v σ H Q => ∃ a xs, v = .ref a ∧ SqA K H a xs ∧ xs.length = n ∧ t xs σ H Q
theorem pg_sqA {X : Cx} {pos : PySem.Pos} {es : List Expr} {k : Nat} {t : TGs} {n : Nat} (hc : X.calm = true) (h : PGs X es t)
    (hn : (assignEach es X.env).length = n := by rfl) (hst : (assignEach es X.env).findIdx? (·.1) = none := by rfl) : PG X (.Tuple es k pos) (gSqA X.K n t) := by
  refine ⟨fun pins s σ H v u Q I r hw => ?_⟩
  obtain ⟨a, xs, e, hq | hq, hl, hw⟩ := hw
  · exact (pg_lst hc h hn hst).run pins s σ H v u Q I r ⟨a, xs, e, hq, hl, hw⟩
  · exact (pg_tup hc h hn hst).run pins s σ H v u Q I r ⟨a, xs, e, hq, hl, hw⟩
def rSrtA (K : PySem.W.Frag) : List V → Hp → VK → Prop := fun vs H Q => rSortedTS K vs H Q ∨ rSortedS K vs H Q
theorem cr_srtA {X : Cx} : CallR X (.builtin "sorted") (rSrtA X.K) := CallR.or cr_sortedTS cr_sortedS
theorem srtA {K : PySem.W.Frag} {H : Hp} {Q : VK} {a : Addr} {xs : List Str} (h : SqA K H a (sts xs)) (hl : xs.length < 64) (q : ∀ (ys : List Str) (p : Addr), ys.Perm xs → PyProof.Rows.sortedS ys = true → H p = none → Q (.ref p) (upd H p (.lst (sts ys)))) : rSrtA K [.ref a] H Q := by
  rcases h with h | h
  · exact .inr ⟨a, xs, rfl, h, hl, q⟩
  · exact .inl ⟨a, xs, rfl, h, hl, q⟩
end GB
set_option Elab.async false
set_option linter.all false
set_option maxRecDepth 100000
set_option maxHeartbeats 8000000
/-! A dict comprehension whose keys are texts, or tuples of texts. -/
namespace DictT
open PySem PySem.Spec PyProof.Rows L2
/-- what its reading asks: the new dict is o0 first -/
def tDcT (o0 : HO) (wi : TI) (g : TG) (tt : TT) (tk tv : TE) (vs : List Nat) : TE := fun σ H Q => wi σ H fun J H1 => ∀ D, H1 D = none → ∃ Wv : Nat → Nat → Hp → Prop, (∃ m, Wv 0 m (upd H1 D o0)) ∧ ∀ i m H, Wv i m H →
  (J.stop i H ∧ Q (.ref D) H) ∨ (J.go i H ∧ ∃ Nx : Hp → Prop, (∀ H', Nx H' → ∃ m', m' < m ∧ Wv (i + 1) m' H') ∧ ∀ x H', J.yld i H x H' → g x (wipe σ vs) H' fun σ2 H2 => wipe σ2 vs = wipe σ vs ∧ tt σ2 H2 fun b H3 =>
    if b = true then tk σ2 H3 fun y H4 => tv σ2 H4 fun z H5 => ∃ H6, DPut H5 D y z H6 ∧ Nx H6 else Nx H3)
section
variable {X : Cx} {pins : List (Addr × Obj)} {σ : L2.St} {H : Hp} {s : Shared}
theorem put_ok {D : Addr} {y v : V} {u r : Value} {H' : Hp} {Q : Unit → Shared → Prop} {E : Value → Shared → Prop} (hu : X.A.units + 1 < cLine) (I : Inv X pins σ H s) (g : DPut H D y v H') (ry : RelV y u) (rv : RelV v r)
    (h : ∀ t, Inv X pins σ H' t → Q () t) : wpAny (model X.prog X.w) X.A (dictSet D u r) Q E s := by
  rcases g with ⟨kvs, k, e, rfl, l, rfl⟩ | ⟨kvs, k, b, e, rfl, eb, l, rfl⟩
  · exact d_dictSet I e l ry rv h
  · obtain rfl : u = Value.ref b := ry
    obtain ⟨z1, z2, xs, rel, dd⟩ := dt_of I.hok e
    have lx := Paired.length rel
    refine wpAny_dictSet_heap (hsz := by rw [← lx]; exact z1) (by show X.A.units < cLine; omega) (key_of I.hok eb) dd fun h' dd' sb => h _ ?_
    obtain ⟨q, es, ep, g1, g2, g3, g4, _, g5⟩ := dd'
    refine d_write I (by rw [e]; trivial) sb ⟨q, g1⟩ ⟨by have := length_putK kvs k v; omega, z2, _, (rel.put k eb rv).keeps fun c ys ec => ?_, q, es, ep, g1, g2, g3, g4, g5⟩
    rw [upd_ne (ne_of ec e (fun z => nomatch z))]
    exact ec
end
section
variable {X : Cx}
/-- {} as the dict that is wanted -/
inductive Fresh : HO → Prop
  | k : Fresh (.dK [])
  | t : Fresh (.dT [])
theorem Fresh.ok {o0 : HO} (f : Fresh o0) {P : Program} {w : World} {H : Hp} (h : Heap) (hb : sysModules < h.objs.size) : ObjOk P w H (h.push { cls := .type "dict", data := .dict #[] }) h.objs.size o0 := by
  cases f with
  | k => exact dk_empty h hb
  | t => exact dt_empty h hb
theorem dcT_core {pins : List (Addr × Obj)} {s : Shared} {σ : L2.St} {H : Hp} {Q : VK} {o0 : HO} {kx vx tg iter : Expr} {ifs : List Expr} {sc : Scope} {own : List (Str × Nat)} {pos pos2 : Pos} {wi : TI} {g : TG} {tt : TT} {tk tv : TE} {use : Option (Value → Sem Unit)} {Qf : Value → Shared → Prop}
    (fr : Fresh o0) (hu : X.A.units + 1 < cLine) (hc : X.calm = true) (hN : X.N.Nodup) (I : Inv X pins σ H s) (hi : PI X tg iter wi) (ok : BlkOk X.N X.env.scope sc own)
    (hg : ∀ (t : Shared) (J : Hp) (C : Addr) (cl : List (Str × Addr)) (fp : List Addr), PG (X.blk t J sc (compEnvC sc cl C X.env) fp) tg g) (ht : ∀ (t : Shared) (J : Hp) (C : Addr) (cl : List (Str × Addr)) (fp : List Addr), PTs (X.blk t J sc (compEnvC sc cl C X.env) fp) ifs tt)
    (hk : ∀ (t : Shared) (J : Hp) (C : Addr) (cl : List (Str × Addr)) (fp : List Addr), PE (X.blk t J sc (compEnvC sc cl C X.env) fp) kx tk) (hv : ∀ (t : Shared) (J : Hp) (C : Addr) (cl : List (Str × Addr)) (fp : List Addr), PE (X.blk t J sc (compEnvC sc cl C X.env) fp) vx tv)
    (hfs : ∀ x, foldedSetIterable iter X.env x = pure x) (h : tDcT o0 wi g tt tk tv (own.map (·.2)) σ H Q)
    (done : ∀ D C t m J, Inv X pins σ J t → Q (.ref D) J → t.heap.Ns C m → FpOk X pins J C → compPost (model X.prog X.w) X.A X.xe use Qf (.ref D) C (.ok .next) t) :
    wpAny (model X.prog X.w) X.A (comprehension (.DictComp kx vx [⟨tg, iter, ifs, 0⟩] sc pos) sc X.env pos2 newDict false (eval iter X.env) use) Qf X.xe s := by
  have cap : ∀ y ∈ sc.names, y.2 = .free → ∃ c, X.env.cells.lookup y.1 = some c := fun y hy e => (ok.free y hy e).elim (fun k => I.ok.has _ (.inl k)) fun k => I.ok.has _ (.inr k)
  refine wpAny_comprehension_free (use := use) rfl hfs (closure_ok cap) ok.kind (fun y hy e => by rw [ok.uniq y hy, e]) (thn (hi.run pins s σ H _ I h) fun xv t1 hx => thn hx fun itv t2 h2 => ?_)
  obtain ⟨it, fp, tn, J, H2, e, I2, T, st2, f2, q⟩ := h2
  subst e
  refine wpAny_newObj_type (newEnv_comp ?_)
  generalize hD : t2.heap.objs.size = D
  have nD : H2 D = none := I2.hok.fresh (Nat.le_of_eq hD)
  obtain ⟨Wv, ⟨m0, w0⟩, turn⟩ := q D nD
  generalize ht3 : ({ t2 with heap := t2.heap.push { cls := .type "dict", data := .dict #[] } } : Shared) = t3
  have hp3 : t3.heap = t2.heap.push { cls := .type "dict", data := .dict #[] } := by rw [← ht3]
  have I3 : Inv X pins σ (upd H2 D o0) t3 := by
    rw [← ht3]
    refine I2.laid (t' := t2.toks) (fun b o e => Heap.get?_push_of_some _ e) (Nat.le_of_eq hD) ?_
    rw [← hD]
    exact fr.ok t2.heap I2.big
  have lt2 : ∀ b ∈ fp, b < t2.heap.objs.size := fun b hb => let ⟨_, e, _⟩ := T.obj _ _ st2 b hb; Heap.lt_size e
  have f3 : ∀ b ∈ fp, FpOk X pins (upd H2 D o0) b ∧ b < t3.heap.objs.size := fun b hb => by
    refine ⟨⟨?_, (f2 b hb).2⟩, by rw [hp3, Heap.size_push]; exact Nat.lt_succ_of_lt (lt2 b hb)⟩
    rw [upd_ne (by rw [← hD]; exact Nat.ne_of_lt (lt2 b hb))]
    exact (f2 b hb).1
  have st3 : tn 0 t3.heap := T.keep _ _ _ st2 fun b _ o e => by rw [hp3]; exact Heap.get?_push_of_some _ e
  have I4 := block_start I3 ok hN f3
  have pg := hg t3 (upd H2 D o0) t3.heap.objs.size (cellsFrom (t3.heap.objs.size + 1) sc.names (cloFrom X.env.cells sc.names [])) fp
  have pt := ht t3 (upd H2 D o0) t3.heap.objs.size (cellsFrom (t3.heap.objs.size + 1) sc.names (cloFrom X.env.cells sc.names [])) fp
  have pk := hk t3 (upd H2 D o0) t3.heap.objs.size (cellsFrom (t3.heap.objs.size + 1) sc.names (cloFrom X.env.cells sc.names [])) fp
  have pe := hv t3 (upd H2 D o0) t3.heap.objs.size (cellsFrom (t3.heap.objs.size + 1) sc.names (cloFrom X.env.cells sc.names [])) fp
  show codeAny _ _ (.compStart (.DictComp kx vx [⟨tg, iter, ifs, 0⟩] sc pos) 0 (.ref it) (.ref D) (compEnvC sc (cellsFrom (t3.heap.objs.size + 1) sc.names (cloFrom X.env.cells sc.names [])) t3.heap.objs.size X.env))
    (compPost (model X.prog X.w) X.A X.xe use Qf (.ref D) t3.heap.objs.size) { t3 with heap := pushCells (t3.heap.push { cls := .type "dict", data := .dict #[] }) sc.names }
  have nfp : ∀ b ∈ fp, (upd H2 D o0) b = none := fun b hb => (f3 b hb).1.1
  generalize hce : compEnvC sc (cellsFrom (t3.heap.objs.size + 1) sc.names (cloFrom X.env.cells sc.names [])) t3.heap.objs.size X.env = ce at I4 pg pt pk pe ⊢
  have cL : ce.locals = t3.heap.objs.size := by rw [← hce]; rfl
  generalize hH3 : upd H2 D o0 = H3 at I3 I4 pg pt pk pe w0 nfp f3
  generalize ht4 : ({ t3 with heap := pushCells (t3.heap.push { cls := .type "dict", data := .dict #[] }) sc.names } : Shared) = t4 at I4 ⊢
  have st4 : tn 0 t4.heap := T.keep _ _ _ st3 fun b _ o e => by rw [← ht4]; exact pushCells_keeps _ _ _ _ (Heap.get?_push_of_some _ e)
  have stat : ∀ {τ : L2.St} {J' : Hp} {t : Shared}, Inv (X.blk t3 H3 sc ce fp) [] τ J' t → (∀ b ∈ fp, J' b = none) → ∀ b ∈ fp, FpOk (X.blk t3 H3 sc ce fp) [] J' b := fun {τ J' t} I' hn b hb =>
    ⟨hn b hb, (I'.ok.exf b hb).1, I'.ok.exfs b hb, .inl hb, fun x c e => (I'.ok.exf b hb).2 x c e, fun p hp => absurd (show p ∈ ([] : List (Addr × Obj)) ++ [] from hp) (by simp)⟩
  have loop : codeAny (model X.prog X.w) X.A (.compLoop (.DictComp kx vx [⟨tg, iter, ifs, 0⟩] sc pos) 0 (.ref it) (.ref D) ce) (compPost (model X.prog X.w) X.A X.xe use Qf (.ref D) t3.heap.objs.size) t4 := by
    refine compLoop_anyD (fun n t => ∃ i J', Inv (X.blk t3 H3 sc ce fp) [] (wipe σ (own.map (·.2))) J' t ∧ tn i t.heap ∧ (∀ b ∈ fp, J' b = none) ∧ Wv i n J') ?_ m0 ⟨0, H3, I4, st4, nfp, w0⟩
    rintro n t5 ⟨i, H5, I5, st5, n5, w5⟩
    rcases turn i n H5 w5 with ⟨stop, qq⟩ | ⟨go, Nx, hNx, step⟩
    · refine thnF (T.done (X.blk t3 H3 sc ce fp) rfl rfl rfl hc i [] t5 _ H5 (fun _ _ => False) I5 (stat I5 n5) st5 stop) fun r t6 ⟨hr, I6⟩ => ?_
      subst hr
      have I7 : Inv X pins σ H5 t6 := I3.call' (ch := fp) I6.os I6.base I6.hok I6.bare fun b hb => ⟨(f3 b hb).1.2.2.2.1, (f3 b hb).1.2.1, (f3 b hb).1.2.2.2.2.1, (f3 b hb).1.2.2.2.2.2⟩
      have nC : H5 ce.locals = none := I6.free
      obtain ⟨m, hn, _⟩ := I6.loc
      have hn : t6.heap.Ns ce.locals m := hn
      rw [cL] at nC hn
      exact done D t3.heap.objs.size t6 m H5 I7 qq hn (I3.fpOk (Nat.le_refl _) nC)
    · refine thnF (T.item (X.blk t3 H3 sc ce fp) rfl rfl rfl hc i [] t5 _ H5 (fun _ _ => False) I5 (stat I5 n5) st5 go) fun r t6 ⟨u, hr, h6⟩ => ?_
      subst hr
      refine thnF h6 fun _ t7 ⟨x, H7, I7, r7, y7, st7, n7⟩ => ?_
      have I7p := I7.pinned (stat I7 n7) (T.obj _ _ st7)
      refine thnF (pg.run _ t7 _ H7 x u _ I7p r7 (step x H7 y7)) fun _ t8 ⟨σ8, H8, I8, hw8, q8⟩ => ?_
      refine thnF (pt.run _ t8 σ8 H8 _ I8 q8) fun b t9 ⟨H9, I9, q9⟩ => ?_
      have fin : ∀ {t : Shared} {J' : Hp}, Inv (X.blk t3 H3 sc ce fp) ([] ++ pinsAt fp t7.heap) σ8 J' t → Nx J' → ∃ m, m < n ∧ ∃ i J', Inv (X.blk t3 H3 sc ce fp) [] (wipe σ (own.map (·.2))) J' t ∧ tn i t.heap ∧ (∀ b ∈ fp, J' b = none) ∧ Wv i m J' := fun {t J'} I' nx => by
        obtain ⟨m', hm, w'⟩ := hNx J' nx
        have pin' : ∀ b ∈ fp, ∀ o, t7.heap.get? b = some o → t.heap.get? b = some o ∧ J' b = none := fun b hb o e =>
          let z := I'.pin (b, o) (List.mem_append_right _ (List.mem_append_right _ (mem_pinsAt hb e)))
          ⟨z.1, z.2.1⟩
        have hl : (wipe σ (own.map (·.2))).length = σ8.length := by rw [← hw8, wipe_length]
        refine ⟨m', hm, i + 1, J', (I'.unpinned (pins := [])).weak hl (fun j v e => by rw [← hw8] at e; exact (wipe_some e).1), T.keep _ _ _ st7 fun b hb o e => (pin' b hb o e).1, fun b hb => ?_, w'⟩
        obtain ⟨o, e, _⟩ := T.obj _ _ st7 b hb
        exact (pin' b hb o e).2
      cases b with
      | false =>
        simp only [Bool.false_eq_true, if_false] at q9 ⊢
        exact fin I9 q9
      | true =>
        simp only [if_true] at q9 ⊢
        refine thnF (pk.run _ t9 σ8 H9 _ I9 q9) fun kv t10 ⟨yk, H10, I10, r10, q10⟩ => ?_
        refine thnF (pe.run _ t10 σ8 H10 _ I10 q10) fun vv t11 ⟨yv, H11, I11, r11, H12, dp, nx⟩ => ?_
        exact put_ok (X := X.blk t3 H3 sc ce fp) hu I11 dp r10 r11 fun t12 I12 => fin I12 nx
  exact codeAny_compStart_dict loop (T.self X.A 0 _ _ _ st4 loop)
/-- {..: ..} as a value -/
theorem pe_dcT {o0 : HO} (fr : Fresh o0) {kx vx tg iter : Expr} {ifs : List Expr} {sc : Scope} {own : List (Str × Nat)} {pos : Pos} {wi : TI} {g : TG} {tt : TT} {tk tv : TE} (hu : X.A.units + 1 < cLine) (hc : X.calm = true) (hN : X.N.Nodup) (hi : PI X tg iter wi) (ok : BlkOk X.N X.env.scope sc own)
    (hg : ∀ (t : Shared) (J : Hp) (C : Addr) (cl : List (Str × Addr)) (fp : List Addr), PG (X.blk t J sc (compEnvC sc cl C X.env) fp) tg g) (ht : ∀ (t : Shared) (J : Hp) (C : Addr) (cl : List (Str × Addr)) (fp : List Addr), PTs (X.blk t J sc (compEnvC sc cl C X.env) fp) ifs tt)
    (hk : ∀ (t : Shared) (J : Hp) (C : Addr) (cl : List (Str × Addr)) (fp : List Addr), PE (X.blk t J sc (compEnvC sc cl C X.env) fp) kx tk) (hv : ∀ (t : Shared) (J : Hp) (C : Addr) (cl : List (Str × Addr)) (fp : List Addr), PE (X.blk t J sc (compEnvC sc cl C X.env) fp) vx tv)
    (hfs : ∀ x, foldedSetIterable iter X.env x = pure x := by intro _; rfl) : PE X (.DictComp kx vx [⟨tg, iter, ifs, 0⟩] sc pos) (tDcT o0 wi g tt tk tv (own.map (·.2))) := by
  refine ⟨fun pins s σ H Q I h => ?_⟩
  rw [arm_eval_DictComp]
  refine dcT_core fr hu hc hN I hi ok hg ht hk hv hfs h fun D C t m J I' q hn f => ⟨m, hn, fun h2 sb => ?_⟩
  obtain ⟨f0, f1, f2, f3, f4, f5⟩ := f
  exact ⟨.ref D, J, I'.turned (t' := t.toks) (fun b o hb e => (sb.2 b hb).trans e) f0 f1 f3 f4 f5, rfl, q⟩
/-- its loop over what a walk gives -/
theorem dc_it {J : It} {n : Nat} {G : Hp → Prop} {Y : Nat → Hp → V → Hp → Prop} (w : Walk J n G Y) {g : TG} {tt : TT} {tk tv : TE} {vs : List Nat} {σ : L2.St} {H1 : Hp} {D : Addr} {o0 : HO} {Qd : Hp → Prop} (Pv : Nat → Hp → Prop) (h0 : Pv 0 (upd H1 D o0)) (hG : ∀ i H, i ≤ n → Pv i H → G H)
    (hs : ∀ i x H H', i < n → Pv i H → Y i H x H' → g x (wipe σ vs) H' fun σ2 H2 => wipe σ2 vs = wipe σ vs ∧ tt σ2 H2 fun b H3 => if b = true then tk σ2 H3 fun y H4 => tv σ2 H4 fun z H5 => ∃ H6, DPut H5 D y z H6 ∧ Pv (i + 1) H6 else Pv (i + 1) H3) (hd : ∀ H, Pv n H → Qd H) :
    ∃ Wv : Nat → Nat → Hp → Prop, (∃ m, Wv 0 m (upd H1 D o0)) ∧ ∀ i m H, Wv i m H → (J.stop i H ∧ Qd H) ∨ (J.go i H ∧ ∃ Nx : Hp → Prop, (∀ H', Nx H' → ∃ m', m' < m ∧ Wv (i + 1) m' H') ∧ ∀ x H', J.yld i H x H' → g x (wipe σ vs) H' fun σ2 H2 =>
      wipe σ2 vs = wipe σ vs ∧ tt σ2 H2 fun b H3 => if b = true then tk σ2 H3 fun y H4 => tv σ2 H4 fun z H5 => ∃ H6, DPut H5 D y z H6 ∧ Nx H6 else Nx H3) := by
  refine ⟨fun i m H => m = n - i ∧ i ≤ n ∧ Pv i H, ⟨n, by simp, Nat.zero_le _, h0⟩, ?_⟩
  rintro i m H ⟨rfl, hi, p⟩
  rcases Nat.lt_or_ge i n with lt | ge
  · exact .inr ⟨w.goes i H lt (hG i H hi p), Pv (i + 1), fun H' p' => ⟨n - (i + 1), by omega, rfl, lt, p'⟩, fun x H' y => hs i x H H' lt p (w.yields i H x H' lt (hG i H hi p) y)⟩
  · obtain rfl : i = n := by omega
    exact .inl ⟨w.stops H (hG i H hi p), hd H p⟩
end
end DictT
set_option Elab.async false
set_option linter.all false
set_option autoImplicit false
set_option maxRecDepth 100000
set_option maxHeartbeats 8000000
/-! Rows of texts, and the loops of comprehensions with two walks. -/
namespace GB
open PySem PySem.Spec L2
/-- the row of texts stands at t -/
def RowAt (H : Hp) (row : List Str) (t : Addr) : Prop := H t = some (.tup (sts row))
def RowsAt (H : Hp) (rows : List (List Str)) (ts : List Addr) : Prop := Paired (RowAt H) rows ts
theorem RowsAt.mono {H H' : Hp} {rows : List (List Str)} {ts : List Addr} (s : Same H H') (h : RowsAt H rows ts) : RowsAt H' rows ts := Paired.mapP h fun _ _ r => s _ _ r
theorem RowsAt.app {H : Hp} {r1 r2 : List (List Str)} {t1 t2 : List Addr} (h1 : RowsAt H r1 t1) (h2 : RowsAt H r2 t2) : RowsAt H (r1 ++ r2) (t1 ++ t2) := paired_app h1 h2
theorem RowsAt.len {H : Hp} {rows : List (List Str)} {ts : List Addr} (h : RowsAt H rows ts) : rows.length = ts.length := Paired.length h
section
variable {J J1 : It} {n n1 : Nat} {G G1 : Hp → Prop} {Y Y1 : Nat → Hp → V → Hp → Prop} {g g1 : TG} {tt tt1 : TT} {te : TE} {vs vs1 : List Nat} {σ σ2 : L2.St} {D : Addr}
/-- the outer walk of a comprehension with two -/
theorem lc2_it (w : Walk J n G Y) {wi1 : TI} {H1 : Hp} {Qd : Hp → Prop} (Pv : Nat → Hp → Prop) (h0 : Pv 0 (upd H1 D (.lst []))) (hG : ∀ i H, i ≤ n → Pv i H → G H)
    (hs : ∀ i x H H', i < n → Pv i H → Y i H x H' → g x (wipe σ vs) H' fun σ2 H2 => wipe σ2 vs = wipe σ vs ∧ tt σ2 H2 fun b H3 =>
      if b = true then wi1 σ2 H3 fun J1 H4 => ∃ W1 : Nat → Nat → Hp → Prop, (∃ m, W1 0 m H4) ∧ ∀ j k H, W1 j k H → (J1.stop j H ∧ Pv (i + 1) H) ∨ (J1.go j H ∧ ∃ Nx1 : Hp → Prop, (∀ H', Nx1 H' → ∃ k', k' < k ∧ W1 (j + 1) k' H') ∧ ∀ x H', J1.yld j H x H' → g1 x (wipe σ2 vs1) H' fun σ3 H5 => wipe σ3 vs1 = wipe σ2 vs1 ∧ tt1 σ3 H5 fun b H6 =>
        if b = true then te σ3 H6 fun y H7 => ∃ acc, H7 D = some (.lst acc) ∧ acc.length < sizeLine ∧ Nx1 (upd H7 D (.lst (acc ++ [y]))) else Nx1 H6)
      else Pv (i + 1) H3) (hd : ∀ H, Pv n H → Qd H) :
    ∃ W : Nat → Nat → Hp → Prop, (∃ m, W 0 m (upd H1 D (.lst []))) ∧ ∀ i m H, W i m H →
      (J.stop i H ∧ Qd H) ∨ (J.go i H ∧ ∃ Nx : Hp → Prop, (∀ H', Nx H' → ∃ m', m' < m ∧ W (i + 1) m' H') ∧ ∀ x H', J.yld i H x H' → g x (wipe σ vs) H' fun σ2 H2 => wipe σ2 vs = wipe σ vs ∧ tt σ2 H2 fun b H3 =>
        if b = true then wi1 σ2 H3 fun J1 H4 => ∃ W1 : Nat → Nat → Hp → Prop, (∃ m, W1 0 m H4) ∧ ∀ j k H, W1 j k H →
          (J1.stop j H ∧ Nx H) ∨ (J1.go j H ∧ ∃ Nx1 : Hp → Prop, (∀ H', Nx1 H' → ∃ k', k' < k ∧ W1 (j + 1) k' H') ∧ ∀ x H', J1.yld j H x H' → g1 x (wipe σ2 vs1) H' fun σ3 H5 => wipe σ3 vs1 = wipe σ2 vs1 ∧ tt1 σ3 H5 fun b H6 =>
            if b = true then te σ3 H6 fun y H7 => ∃ acc, H7 D = some (.lst acc) ∧ acc.length < sizeLine ∧ Nx1 (upd H7 D (.lst (acc ++ [y]))) else Nx1 H6)
        else Nx H3) := by
  refine ⟨fun i m H => m = n - i ∧ i ≤ n ∧ Pv i H, ⟨n, by simp, Nat.zero_le _, h0⟩, ?_⟩
  rintro i m H ⟨rfl, hi, p⟩
  rcases Nat.lt_or_ge i n with lt | ge
  · exact .inr ⟨w.goes i H lt (hG i H hi p), Pv (i + 1), fun H' p' => ⟨n - (i + 1), by omega, rfl, lt, p'⟩, fun x H' y => hs i x H H' lt p (w.yields i H x H' lt (hG i H hi p) y)⟩
  · obtain rfl : i = n := by omega
    exact .inl ⟨w.stops H (hG i H hi p), hd H p⟩
/-- the inner one -/
theorem in_it (w : Walk J1 n1 G1 Y1) {H4 : Hp} {Nx : Hp → Prop} (Pw : Nat → Hp → Prop) (h0 : Pw 0 H4) (hG : ∀ i H, i ≤ n1 → Pw i H → G1 H)
    (hs : ∀ j x H H', j < n1 → Pw j H → Y1 j H x H' → g1 x (wipe σ2 vs1) H' fun σ3 H5 => wipe σ3 vs1 = wipe σ2 vs1 ∧ tt1 σ3 H5 fun b H6 => if b = true then te σ3 H6 fun y H7 => ∃ acc, H7 D = some (.lst acc) ∧ acc.length < sizeLine ∧ Pw (j + 1) (upd H7 D (.lst (acc ++ [y]))) else Pw (j + 1) H6)
    (hd : ∀ H, Pw n1 H → Nx H) :
    ∃ W1 : Nat → Nat → Hp → Prop, (∃ m, W1 0 m H4) ∧ ∀ j k H, W1 j k H → (J1.stop j H ∧ Nx H) ∨ (J1.go j H ∧ ∃ Nx1 : Hp → Prop, (∀ H', Nx1 H' → ∃ k', k' < k ∧ W1 (j + 1) k' H') ∧ ∀ x H', J1.yld j H x H' → g1 x (wipe σ2 vs1) H' fun σ3 H5 => wipe σ3 vs1 = wipe σ2 vs1 ∧ tt1 σ3 H5 fun b H6 =>
        if b = true then te σ3 H6 fun y H7 => ∃ acc, H7 D = some (.lst acc) ∧ acc.length < sizeLine ∧ Nx1 (upd H7 D (.lst (acc ++ [y]))) else Nx1 H6) := by
  refine ⟨fun i m H => m = n1 - i ∧ i ≤ n1 ∧ Pw i H, ⟨n1, by simp, Nat.zero_le _, h0⟩, ?_⟩
  rintro i m H ⟨rfl, hi, p⟩
  rcases Nat.lt_or_ge i n1 with lt | ge
  · exact .inr ⟨w.goes i H lt (hG i H hi p), Pw (i + 1), fun H' p' => ⟨n1 - (i + 1), by omega, rfl, lt, p'⟩, fun x H' y => hs i x H H' lt p (w.yields i H x H' lt (hG i H hi p) y)⟩
  · obtain rfl : i = n1 := by omega
    exact .inl ⟨w.stops H (hG i H hi p), hd H p⟩
end
/-- a new list of rows at D, over H -/
structure RowsIn (H H' : Hp) (D : Addr) (rows : List (List Str)) : Prop where
  nw : H D = none
  same : Same H H'
  ex : ∃ ts : List Addr, H' D = some (.lst (ts.map V.ref)) ∧ RowsAt (hid [D] H') rows ts
theorem RowsIn.start {H : Hp} {D : Addr} (n : H D = none) : RowsIn H (upd H D (.lst [])) D [] := ⟨n, same_new n, [], upd_same, .nil⟩
theorem RowsIn.next {H H2 H3 : Hp} {D : Addr} {rows : List (List Str)} (r : RowsIn H H2 D rows) (s : Same H2 H3) : RowsIn H H3 D rows := let ⟨n, s1, ts, h1, h2⟩ := r; ⟨n, s1.trans s, ts, s _ _ h1, h2.mono (hid_same s)⟩
/-- one row more -/
theorem RowsIn.moreB {H H2 H3 : Hp} {D : Addr} {rows : List (List Str)} {row : List Str} (r : RowsIn H H2 D rows) (s : Same H2 H3) (hl : rows.length ≤ 1000) {t : Addr} (nt : H3 t = none) :
    ∃ acc, (upd H3 t (.tup (sts row))) D = some (.lst acc) ∧ acc.length < sizeLine ∧ RowsIn H (upd (upd H3 t (.tup (sts row))) D (.lst (acc ++ [.ref t]))) D (rows ++ [row]) ∧ Bt [D] H2 (upd (upd H3 t (.tup (sts row))) D (.lst (acc ++ [.ref t]))) := by
  obtain ⟨n, s1, ts, h1, h2⟩ := r
  obtain ⟨H4, s4, h4, e4⟩ := lay (o := .tup (sts row)) nt
  rw [e4]
  have h14 := s4 _ _ (s _ _ h1)
  have tD : t ≠ D := ne_of h4 h14 (fun z => nomatch z)
  have B : Bt [D] H4 (upd H4 D (.lst (ts.map V.ref ++ [.ref t]))) := bt_upd (by simp)
  refine ⟨_, h14, ?_, ⟨n, fun c o e => ?_, ts ++ [t], by rw [upd_same, List.map_append]; rfl, ?_⟩, (bt_of (s.trans s4)).trans B⟩
  · rw [List.length_map, sizeLine_eq]
    have := h2.len
    omega
  · rw [upd_ne (ne_of_none e n)]
    exact s4 _ _ (s _ _ (s1 _ _ e))
  · exact RowsAt.app (h2.mono ((hid_same (s.trans s4)).trans B)) (.cons (B _ _ (hid_to (ni1 tD) h4)) .nil)
theorem RowsIn.more {H H2 H3 : Hp} {D : Addr} {rows : List (List Str)} {row : List Str} (r : RowsIn H H2 D rows) (s : Same H2 H3) (hl : rows.length ≤ 1000) {t : Addr} (nt : H3 t = none) :
    ∃ acc, (upd H3 t (.tup (sts row))) D = some (.lst acc) ∧ acc.length < sizeLine ∧ RowsIn H (upd (upd H3 t (.tup (sts row))) D (.lst (acc ++ [.ref t]))) D (rows ++ [row]) :=
  let ⟨acc, a, b, c, _⟩ := r.moreB s hl nt
  ⟨acc, a, b, c⟩
theorem RowsIn.done {H H' : Hp} {D : Addr} {rows : List (List Str)} (r : RowsIn H H' D rows) : ∃ ts : List Addr, H' D = some (.lst (ts.map V.ref)) ∧ RowsAt H' rows ts := let ⟨ts, a, b⟩ := r.ex; ⟨ts, a, b.mono (hid_low _ _)⟩
/-- a comprehension behind its walk -/
def tLcJ (J : It) (g : TG) (tt : TT) (te : TE) (vs : List Nat) : TE := fun σ H1 Q => ∀ D, H1 D = none → ∃ Wv : Nat → Nat → Hp → Prop, (∃ m, Wv 0 m (upd H1 D (.lst []))) ∧ ∀ i m H, Wv i m H →
  (J.stop i H ∧ Q (.ref D) H) ∨ (J.go i H ∧ ∃ Nx : Hp → Prop, (∀ H', Nx H' → ∃ m', m' < m ∧ Wv (i + 1) m' H') ∧ ∀ x H', J.yld i H x H' → g x (wipe σ vs) H' fun σ2 H2 => wipe σ2 vs = wipe σ vs ∧ tt σ2 H2 fun b H3 =>
    if b = true then te σ2 H3 fun y H4 => ∃ acc, H4 D = some (.lst acc) ∧ acc.length < sizeLine ∧ Nx (upd H4 D (.lst (acc ++ [y]))) else Nx H3)
theorem rows1J {K : PySem.W.Frag} {k : Nat} {wd : Str} {σ : L2.St} {H : Hp} {Q : VK} {a : Addr} {xs : List Str} {kb : Bool} {J : It} (WJ : Walk J (sts xs).length (fun H => SqV K (hid [] H) a (sts xs) kb) (YAt (sts xs))) (hk : k < σ.length) (hS : SqV K (hid [] H) a (sts xs) kb) (hl : xs.length ≤ 100)
    (q : ∀ D H', RowsIn H H' D (xs.map fun x => ([wd, x] : List Str)) → Q (.ref D) H') : tLcJ J (gName k) tYes (tTup (tCons (tC (.str wd)) (tCons (tVar k) tNil))) [k] σ H Q := by
  intro D nD
  have hA : SqA K (hid [] H) a (sts xs) := by
    cases kb with
    | true => exact .inl hS
    | false => exact .inr hS
  refine lc_it WJ (fun j H' => RowsIn H H' D ((xs.take j).map fun x => ([wd, x] : List Str))) (RowsIn.start nD) (fun j H' _ r => hS.mono (hid_same r.same)) ?_ ?_
  · rintro j x H2 H3 hj r ⟨rfl, hx⟩
    obtain ⟨sx, hsx, rfl⟩ := sts_at hx
    have hlen : ((xs.take j).map fun x => ([wd, x] : List Str)).length ≤ 1000 := by rw [List.length_map, List.length_take]; omega
    have hw : (wipe σ [k]).length = σ.length := wipe_length _ _
    refine ⟨?_, ?_⟩
    · simp [wipe, List.set_set]
    · refine ⟨V.str sx, by rw [List.getElem?_set_self (by rw [hw]; exact hk)], by show 2 ≤ sizeLine; decide, fun t nt => ?_⟩
      have := r.more (row := [wd, sx]) (Same.refl _) hlen nt
      rw [take_at hsx, List.map_append]
      exact this
  · intro H' r
    rw [List.take_of_length_le (by rw [sts_len]; exact Nat.le_refl _)] at r
    exact q D H' r
/-- [(word, x) for x in xs] -/
theorem rows1 {K : PySem.W.Frag} {i k : Nat} {wd : Str} {σ : L2.St} {H : Hp} {Q : VK} {a : Addr} {xs : List Str} (hi : σ[i]? = some (some (.ref a))) (hk : k < σ.length) (hS : SqL K H a (sts xs)) (hl : xs.length ≤ 100)
    (q : ∀ D H', RowsIn H H' D (xs.map fun x => ([wd, x] : List Str)) → Q (.ref D) H') : tLc (iSeqW K (tVar i)) (gName k) tYes (tTup (tCons (tC (.str wd)) (tCons (tVar k) tNil))) [k] σ H Q :=
  ⟨_, hi, a, sts xs, true, [], rfl, same_hid0.seq hS, fun J WJ => rows1J (kb := true) WJ hk (same_hid0.seq hS) hl q⟩
/-- the same as a statement -/
theorem rows1S {K : PySem.W.Frag} {i k m : Nat} {wd y : Str} {u : TS} {E : Ends} {σ : L2.St} {H : Hp} {a : Addr} {xs : List Str} (hi : σ[i]? = some (some (.ref a))) (hk : k < σ.length) (hS : SqL K H a (sts xs)) (hl : xs.length ≤ 100)
    (q : ∀ D H', RowsIn H H' D (xs.map fun x => ([wd, x] : List Str)) → u E (σ.set m (some (.ref D))) H') : tSeq (tAsg (tLc (iSeqW K (tVar i)) (gName k) tYes (tTup (tCons (tC (.str wd)) (tCons (tVar k) tNil))) ([(y, k)].map (·.2))) (gName m)) u E σ H := by
  unfold tSeq tAsg
  exact rows1 (Q := fun x H1 => gName m x σ H1 (u E)) hi hk hS hl fun D H' r => q D H' r
end GB
set_option Elab.async false
set_option linter.all false
set_option autoImplicit false
set_option maxRecDepth 100000
set_option maxHeartbeats 8000000
namespace GB
open PySem PySem.Spec L2
def shTo (xs : List Str) : Nat → List (List Str)
  | 0 => []
  | i + 1 => shTo xs i ++ (xs.drop (i + 1)).map fun y => (["shares", xs.getD i "", y] : List Str)
theorem shTo_len (xs : List Str) : ∀ i, (shTo xs i).length ≤ i * xs.length
  | 0 => by simp [shTo]
  | i + 1 => by
    have := shTo_len xs i
    rw [shTo, List.length_append, List.length_map, List.length_drop, Nat.succ_mul]
    omega
def showsOf (a xs : List Str) : List (List Str) := a.flatMap fun x => xs.map fun y => (["shows", x, y] : List Str)
theorem showsOf_len (xs : List Str) : ∀ a : List Str, (showsOf a xs).length = a.length * xs.length
  | [] => by simp [showsOf]
  | x :: r => by
    have := showsOf_len xs r
    unfold showsOf at this ⊢
    rw [List.flatMap_cons, List.length_append, this, List.length_map, List.length_cons, Nat.succ_mul]
    omega
/-- all permissions of these letters, those that move -/
def allPerms (ls mv : List Str) : List (List Str) := (((ls.map fun x => (["fails", x] : List Str)) ++ (ls.map fun x => (["stays", x] : List Str))) ++ (mv.map fun x => (["writes", x] : List Str))) ++ showsOf mv mv ++ shTo mv mv.length
def endS (k : Str) : Str := if k = "fail" then "fails" else "value"
/-- the dict that maps these to True -/
def trueK (l : List Str) : List (Key × V) := l.map fun x => (Sum.inr x, V.bl true)
theorem trueK_in (l : List Str) (x : Str) : valV (trueK l) (.inr x : Key) = if x ∈ l then some (.bl true) else none := by
  induction l with
  | nil => rfl
  | cons y r ih =>
    by_cases h : y = x
    · subst h
      rw [if_pos List.mem_cons_self]
      exact valV_pos rfl
    · show valV ((Sum.inr y, V.bl true) :: trueK r) (.inr x : Key) = _
      rw [valV_neg (fun e => h (Sum.inr.inj e)), ih]
      have : (x ∈ y :: r) = (x ∈ r) := propext ⟨fun m => (List.mem_cons.mp m).resolve_left fun e => h e.symm, List.mem_cons_of_mem _⟩
      simp only [this]
/-- tuple([("value", name) for name in (sorted(names) if .. else names)]) -/
def tVals : TE := fun σ H Q => ∃ (x : Str) (v c : Addr) (vals cm : List Str), σ.length = 8 ∧ σ[3]? = some (some (.str x)) ∧ σ[1]? = some (some (.ref c)) ∧ σ[4]? = some (some (.ref v)) ∧ H c = some (.dK (trueK cm)) ∧ H v = some (.tup (sts vals)) ∧ vals.length ≤ 2 ∧ (∀ x ∈ vals, x ∈ va3) ∧
  ∀ (t : Addr) (ts : List Addr) (H6 : Hp), H t = none → Same H H6 → H6 t = some (.tup (ts.map V.ref)) → RowsAt H6 ((if x ∈ cm then sort2 vals else vals).map fun y => (["value", y] : List Str)) ts → Q (.ref t) H6
theorem vals_weak {K : PySem.W.Frag} (σ : L2.St) (H : Hp) (Q : VK) (h : tVals σ H Q) : tCB (fun xs H_1 Q => ∃ p ys, xs = [V.ref p] ∧ ((SqL K H_1 p ys ∧ ∀ l, H_1 l = none → Q (.ref l) (upd H_1 l (.tup ys))) ∨ (SqT K H_1 p ys ∧ Q (.ref p) H_1)))
    (tCons (tLc (iSeqW K (tIf (tB (tDIn (tVar 3) (tVar 1))) (tCB (rSortedTS K) (tCons (tVar 4) tNil)) (tVar 4))) (gName 7) tYes (tTup (tCons (tC (.str "value")) (tCons (tVar 7) tNil))) [7]) tNil) σ H Q := by
  obtain ⟨x, v, c, vals, cm, hl, h3, h1, h4, hc, hv, l2, v3, q⟩ := h
  have fin : ∀ (L : Addr) (H1 H2 : Hp), Same H H1 → RowsIn H1 H2 L ((if x ∈ cm then sort2 vals else vals).map fun y => (["value", y] : List Str)) → ∃ p ys, ([V.ref L] : List V) = [V.ref p] ∧ ((SqL K H2 p ys ∧ ∀ l, H2 l = none → Q (.ref l) (upd H2 l (.tup ys))) ∨ (SqT K H2 p ys ∧ Q (.ref p) H2)) := fun L H1 H2 s r => by
    obtain ⟨ts, g1, g2⟩ := r.done
    refine ⟨L, _, rfl, .inl ⟨SqL.of g1, fun t nt => ?_⟩⟩
    obtain ⟨H3, s3, g3, e3⟩ := lay (o := .tup (ts.map V.ref)) nt
    rw [e3]
    exact q t ts H3 ((s.trans r.same).free nt) ((s.trans r.same).trans s3) g3 (g2.mono s3)
  refine ⟨_, h3, _, h1, c, _, rfl, DGet.k (k := .inr x) hc, _, rfl, ?_⟩
  rw [trueK_in]
  by_cases m : x ∈ cm
  · rw [if_pos m]
    refine iteT ?_
    refine ⟨_, h4, v, vals, rfl, SqT.of hv, by omega, fun ys p hperm hsrt np => ?_⟩
    obtain ⟨H1, s1, g1, e1⟩ := lay (o := .lst (sts ys)) np
    rw [e1]
    refine ⟨p, sts ys, true, [], rfl, same_hid0.seq (SqL.of g1), fun J WJ => ?_⟩
    refine rows1J (wd := "value") (Q := fun z H2 => ∃ p ys, ([z] : List V) = [V.ref p] ∧ ((SqL K H2 p ys ∧ ∀ l, H2 l = none → Q (.ref l) (upd H2 l (.tup ys))) ∨ (SqT K H2 p ys ∧ Q (.ref p) H2))) (kb := true) WJ (by rw [hl]; decide : 7 < σ.length) (same_hid0.seq (SqL.of g1)) (by have := hperm.length_eq; omega) fun L H2 r => ?_
    refine fin L H1 H2 s1 ?_
    rw [if_pos m, ← sort2_of hperm hsrt l2 v3]
    exact r
  · rw [if_neg m]
    refine iteF ?_
    refine ⟨_, h4, v, sts vals, false, [], rfl, (Same.seqT same_hid0 (SqT.of hv) : SqT K _ v _), fun J WJ => ?_⟩
    refine rows1J (wd := "value") (Q := fun z H2 => ∃ p ys, ([z] : List V) = [V.ref p] ∧ ((SqL K H2 p ys ∧ ∀ l, H2 l = none → Q (.ref l) (upd H2 l (.tup ys))) ∨ (SqT K H2 p ys ∧ Q (.ref p) H2))) (kb := false) WJ (by rw [hl]; decide : 7 < σ.length) (Same.seqT same_hid0 (SqT.of hv) : SqT K _ v _) (by omega) fun L H2 r => ?_
    refine fin L H H2 (Same.refl _) ?_
    rw [if_neg m]
    exact r
def nkV (n : Str) : NestedKey := .tup [.text "value", .text n]
def nkE (a : Str × List Str) : NestedKey := .tup [.text a.1, .tup (a.2.map nkV)]
theorem nkVs_inj : ∀ {l m : List Str}, l.map nkV = m.map nkV → l = m
  | [], [], _ => rfl
  | [], _ :: _, h => by cases h
  | _ :: _, [], h => by cases h
  | x :: l, y :: m, h => by
    have h1 : nkV x = nkV y ∧ l.map nkV = m.map nkV := List.cons.inj h
    have h2 := (List.cons.inj (List.cons.inj (NestedKey.tup.inj h1.1)).2).1
    obtain rfl := NestedKey.text.inj h2
    rw [nkVs_inj h1.2]
theorem nkE_inj {a b : Str × List Str} (h : nkE a = nkE b) : a = b := by
  obtain ⟨x, l⟩ := a
  obtain ⟨y, m⟩ := b
  have h1 := List.cons.inj (NestedKey.tup.inj h)
  obtain rfl := NestedKey.text.inj h1.1
  have h2 := (List.cons.inj h1.2).1
  obtain rfl : l = m := nkVs_inj (NestedKey.tup.inj h2)
  rfl
theorem nkVs_depth : ∀ l : List Str, NestedKey.depthAll (l.map nkV) ≤ 1
  | [] => by simp [NestedKey.depthAll]
  | x :: l => by
    have := nkVs_depth l
    have e : (nkV x).depth = 1 := by simp [nkV, NestedKey.depth, NestedKey.depthAll]
    rw [List.map_cons, NestedKey.depthAll, e]
    omega
theorem nkE_depth (a : Str × List Str) : (nkE a).depth ≤ 8 := by
  have := nkVs_depth a.2
  unfold nkE
  simp only [NestedKey.depth, NestedKey.depthAll]
  omega
/-- a fact's end stands in the dict of ends -/
structure EndAt (H : Hp) (g : GD) (f : Fact) (x : NestedKey × Addr × Value) : Prop where
  key : x.1 = nkE (g.asked f)
  ex : ∃ b e : Addr, x.2.2 = .ref b ∧ H b = some (.tup [.str (endS f.kind), .ref e]) ∧ H e = some (.tup [.str f.kind, .str f.en])
theorem EndAt.mono {H H' : Hp} {g : GD} {f : Fact} {x : NestedKey × Addr × Value} (s : Same H H') (h : EndAt H g f x) : EndAt H' g f x := let ⟨b, e, h1, h2, h3⟩ := h.ex; ⟨h.key, b, e, h1, s _ _ h2, s _ _ h3⟩
theorem paired_mem {α β : Type} {R : α → β → Prop} {y : β} : ∀ {l : List α} {m : List β}, Paired R l m → y ∈ m → ∃ x ∈ l, R x y
  | _, _, .cons r t, h => by
    rcases List.mem_cons.mp h with rfl | h
    · exact ⟨_, List.mem_cons_self, r⟩
    · obtain ⟨x, hx, hr⟩ := paired_mem t h
      exact ⟨x, List.mem_cons_of_mem _ hx, hr⟩
theorem nk_rows {H : Hp} : ∀ {xs : List Str} {ts : List Addr}, RowsAt H (xs.map fun x => (["value", x] : List Str)) ts → NkAll H (xs.map nkV) (ts.map V.ref)
  | [], [], _ => .nil
  | x :: xs, t :: ts, h => by
    cases h with
    | cons a b => exact .cons (.tup a (.cons (.text _) (.cons (.text _) .nil))) (nk_rows b)
  | [], _ :: _, h => by cases h
  | _ :: _, [], h => by cases h
theorem prod_le {a b : Nat} (h : a ≤ 20) (h2 : b ≤ 20) : a * b ≤ 400 := Nat.le_trans (Nat.mul_le_mul h h2) (by decide)
end GB
namespace K39
open PySem PySem.Spec L2 GB
abbrev sPerm : Stmt := topS 20
abbrev sOut : Stmt := topS 19
abbrev sEbv : Stmt := topS 18
def ebvN : List Str := ["facts", "commutes", "ends", "letter", "names", "end", "values", "name"]
def permN : List Str := ["letters", "moving", "fails", "stays", "writes", "shows", "shares", "letter", "one", "other", "place"]
def spPerm : Sp := fun vs H Q _ => ∃ (a b : Addr) (ls mv : List Str), vs = [.ref a, .ref b] ∧ H a = some (.lst (sts ls)) ∧ H b = some (.lst (sts mv)) ∧ ls.length ≤ 20 ∧ mv.length ≤ 20 ∧
  ∀ (D : Addr) (ts : List Addr) (H' : Hp), H D = none → Same H H' → H' D = some (.lst (ts.map V.ref)) → RowsAt H' (allPerms ls mv) ts → Q (.ref D) H'
def spEbv (P : Program) (w : World) : Sp := fun vs H Q _ => ∃ (a c : Addr) (g : GD), vs = [.ref a, .ref c] ∧ FactsAt H a g.facts ∧ H c = some (.dK (trueK g.comm)) ∧ g.Fit ∧
  ∀ (D : Addr) (xs : NX) (H' : Hp), H D = none → Same H H' → H' D = some (ndO P w D xs) → NdKeys (hid [D] H') xs → Paired (EndAt (hid [D] H') g) g.facts xs → Q (.ref D) H'
def spOut : Sp := fun vs H Q _ => ∃ (e : Addr) (k n : Str), vs = [.ref e] ∧ H e = some (.tup [.str k, .str n]) ∧ ∀ (t : Addr) (H' : Hp), H t = none → Same H H' → H' t = some (.tup [.str (endS k), .ref e]) → Q (.ref t) H'
section
variable {P : Program} {w : World} {K : PySem.W.Frag} {mg : Str → Option Value} {base : Heap}
theorem scPerm : FnScope permN ["letters", "moving"] (defScope sPerm) := ⟨rfl, rfl, rfl, by decide +kernel, rfl, by decide +kernel, by decide +kernel⟩
theorem scOut : FnScope ["end"] ["end"] (defScope sOut) := ⟨rfl, rfl, rfl, by decide +kernel, rfl, by decide +kernel, by decide +kernel⟩
theorem ok_out {f : Addr} {fd : FuncData} (F : Fun K "as_outcome" "as_outcome" sOut f fd) : FnOk P w K mg base CX0 1 f fd ["end"] spOut := by
  refine F.ok scOut (fun vs H Q E h => ?_) (fun cdv A outer s H vs Q E hr h => ?_)
  · obtain ⟨e, k, n, rfl, _⟩ := h
    rfl
  · obtain ⟨e, k, n, rfl, he, q⟩ := h
    refine ⟨_, pss_one (ps_ret (pe_tup (pa_cons (pe_ifExp (pt_cmpR op_eq (pe_ix ix_tup (pv 0) (pe_int) (fun _ _ => rfl)) (pe_str) (nomark _)) (pe_str) (pe_str)) (pa_cons (pv 0) (pa_nil))))), ?_⟩
    refine ⟨_, rfl, e, _, ((0 : Nat) : Int), _, rfl, rfl, SqT.of he, atI_nat (j := 0) rfl, rfl, _, rfl, ?_⟩
    rw [decS]
    by_cases c : k = "fail"
    · rw [decide_eq_true c]
      refine iteT ?_
      refine ⟨_, rfl, by show 2 ≤ sizeLine; decide, fun t nt => ?_⟩
      obtain ⟨H1, s1, h1, e1⟩ := lay (o := .tup [.str "fails", .ref e]) nt
      rw [e1]
      exact q t H1 nt s1 (by unfold endS; rw [if_pos c]; exact h1)
    · rw [decide_eq_false c]
      refine iteF ?_
      refine ⟨_, rfl, by show 2 ≤ sizeLine; decide, fun t nt => ?_⟩
      obtain ⟨H1, s1, h1, e1⟩ := lay (o := .tup [.str "value", .ref e]) nt
      rw [e1]
      exact q t H1 nt s1 (by unfold endS; rw [if_neg c]; exact h1)
theorem ok_perm {f : Addr} {fd : FuncData} (F : Fun K "_all_permissions" "_all_permissions" sPerm f fd) (T : Bl mg) : FnOk P w K mg base CX0 1 f fd ["letters", "moving"] spPerm := by
  refine F.ok scPerm (fun vs H Q E h => ?_) (fun cdv A outer s H vs Q E hr h => ?_)
  · obtain ⟨a, b, ls, mv, rfl, _⟩ := h
    rfl
  · obtain ⟨a, b, ls, mv, rfl, ha, hb, hls, hmv, q⟩ := h
    refine ⟨_, pss_cons (ps_setLc (i := 2) (own := [("letter", 7)]) (g := gName 7) (tt := tYes) rfl scPerm.nd rfl rfl (sw_true rfl rfl rfl (by decide +kernel)) (pi_seqW (pv 0)) (blkOk_by (own := [("letter", 7)]) (N := permN) (sc := defScope sPerm) (by decide +kernel)) (fun _ _ _ _ _ => pg_name (i := 7) scPerm.nd rfl (.inl rfl)) (fun _ _ _ _ _ => pts_nil) (fun _ _ _ _ _ => pe_tup (pa_cons (pe_str) (pa_cons (pv 7) (pa_nil))))) (pss_cons (ps_setLc (i := 3) (own := [("letter", 7)]) (g := gName 7) (tt := tYes) rfl scPerm.nd rfl rfl (sw_true rfl rfl rfl (by decide +kernel)) (pi_seqW (pv 0)) (blkOk_by (own := [("letter", 7)]) (N := permN) (sc := defScope sPerm) (by decide +kernel)) (fun _ _ _ _ _ => pg_name (i := 7) scPerm.nd rfl (.inl rfl)) (fun _ _ _ _ _ => pts_nil) (fun _ _ _ _ _ => pe_tup (pa_cons (pe_str) (pa_cons (pv 7) (pa_nil))))) (pss_cons (ps_setLc (i := 4) (own := [("letter", 7)]) (g := gName 7) (tt := tYes) rfl scPerm.nd rfl rfl (sw_true rfl rfl rfl (by decide +kernel)) (pi_seqW (pv 1)) (blkOk_by (own := [("letter", 7)]) (N := permN) (sc := defScope sPerm) (by decide +kernel)) (fun _ _ _ _ _ => pg_name (i := 7) scPerm.nd rfl (.inl rfl)) (fun _ _ _ _ _ => pts_nil) (fun _ _ _ _ _ => pe_tup (pa_cons (pe_str) (pa_cons (pv 7) (pa_nil))))) (pss_cons (ps_setLc2 (i := 5) (own := [("one", 8), ("other", 9)]) (vs1 := [9]) (wi1 := iSeqW K (tVar 1)) (g := gName 8) (g1 := gName 9) (tt := tYes) (tt1 := tYes) rfl scPerm.nd rfl rfl (sw_true rfl rfl rfl (by decide +kernel)) (pi_seqW (pv 1)) (blkOk_by (own := [("one", 8), ("other", 9)]) (N := permN) (sc := defScope sPerm) (by decide +kernel)) (by decide) (fun _ _ _ _ _ => pg_name (i := 8) scPerm.nd rfl (.inl rfl)) (fun _ _ _ _ _ => pts_nil) (fun _ _ _ _ _ => pi_seqW (pv 1)) (fun _ _ _ _ _ => pg_name (i := 9) scPerm.nd rfl (.inl rfl)) (fun _ _ _ _ _ => pts_nil) (fun _ _ _ _ _ => pe_tup (pa_cons (pe_str) (pa_cons (pv 8) (pa_cons (pv 9) (pa_nil)))))) (pss_cons (ps_setLc2 (i := 6) (own := [("place", 10), ("one", 8), ("other", 9)]) (vs1 := [9]) (wi1 := iSeqW K (tSl (rSlL K) (tVar 1) (tPart (tOp (rI0 fun i j => .int (i + j)) (tVar 10) (tC (.int 1)))) tNoPart)) (g := gTup K 2 (gCons (gName 10) (gCons (gName 8) gNil))) (g1 := gName 9) (tt := tYes) (tt1 := tYes) rfl scPerm.nd rfl rfl (sw_true rfl rfl rfl (by decide +kernel)) (pi_enumW rfl T.enum (pa_cons (pv 1) pa_nil)) (blkOk_by (own := [("place", 10), ("one", 8), ("other", 9)]) (N := permN) (sc := defScope sPerm) (by decide +kernel)) (by decide) (fun _ _ _ _ _ => pg_tup rfl (pgs_cons (pg_name (i := 10) scPerm.nd rfl (.inl rfl)) (pgs_cons (pg_name (i := 8) scPerm.nd rfl (.inl rfl)) (pgs_nil)))) (fun _ _ _ _ _ => pts_nil) (fun _ _ _ _ _ => pi_seqW (pe_slice (r := rSlL K) sl_list (pv 1) (po_some (pe_op op_add (pv 10) (pe_int))) po_none)) (fun _ _ _ _ _ => pg_name (i := 9) scPerm.nd rfl (.inl rfl)) (fun _ _ _ _ _ => pts_nil) (fun _ _ _ _ _ => pe_tup (pa_cons (pe_str) (pa_cons (pv 8) (pa_cons (pv 9) (pa_nil)))))) (pss_one (ps_ret (pe_op op_cat (pe_op op_cat (pe_op op_cat (pe_op op_cat (pv 2) (pv 3)) (pv 4)) (pv 5)) (pv 6)))))))), ?_⟩
    refine rows1S rfl (by simp [L2.start, permN]) (SqL.of ha) (by omega) fun D1 H1 r1 => ?_
    have s1 := r1.same
    refine rows1S rfl (by simp [L2.start, permN]) (SqL.of (s1 _ _ ha)) (by omega) fun D2 H2 r2 => ?_
    have s2 := s1.trans r2.same
    refine rows1S rfl (by simp [L2.start, permN]) (SqL.of (s2 _ _ hb)) (by omega) fun D3 H3 r3 => ?_
    have s3 := s2.trans r3.same
    have hb3 := s3 _ _ hb
    refine ⟨_, rfl, b, sts mv, true, [], rfl, same_hid0.seq (SqL.of hb3), fun J WJ D4 nD4 => ?_⟩
    refine lc2_it WJ (fun j H' => RowsIn H3 H' D4 (showsOf (mv.take j) mv)) (RowsIn.start nD4) (fun j H' _ r => (r.same.trans same_hid0).seq (SqL.of hb3)) ?_ ?_
    · rintro i x H5 H5' hi r ⟨rfl, hx⟩
      obtain ⟨sx, hsx, rfl⟩ := sts_at hx
      have hi' : i < mv.length := (List.getElem?_eq_some_iff.mp hsx).1
      refine ⟨rfl, ?_⟩
      refine ⟨_, rfl, b, sts mv, true, [], rfl, same_hid0.seq (SqL.of (r.same _ _ hb3)), fun J1 WJ1 => ?_⟩
      refine in_it WJ1 (fun j H' => RowsIn H3 H' D4 (showsOf (mv.take i) mv ++ (mv.take j).map fun y => (["shows", sx, y] : List Str))) (by rw [List.take_zero, List.map_nil, List.append_nil]; exact r) (fun j H' _ r => (r.same.trans same_hid0).seq (SqL.of hb3)) ?_ ?_
      · rintro j y H6 H6' hj r6 ⟨rfl, hy⟩
        obtain ⟨sy, hsy, rfl⟩ := sts_at hy
        refine ⟨rfl, ?_⟩
        refine ⟨_, rfl, _, rfl, by show 3 ≤ sizeLine; decide, fun t nt => ?_⟩
        rw [take_at hsy, List.map_append, ← List.append_assoc]
        refine r6.more (row := ["shows", sx, sy]) (Same.refl _) ?_ nt
        rw [List.length_append, showsOf_len, List.length_map, List.length_take, List.length_take]
        have := prod_le (show min i mv.length ≤ 20 by omega) hmv
        omega
      · intro H6 r6
        rw [show mv.take (sts mv).length = mv from List.take_of_length_le (by rw [sts_len]; exact Nat.le_refl _)] at r6
        rw [take_at hsx]
        unfold showsOf at r6 ⊢
        rw [List.flatMap_append, List.flatMap_cons, List.flatMap_nil, List.append_nil]
        exact r6
    intro H4 r4
    rw [List.take_of_length_le (by rw [sts_len]; exact Nat.le_refl _)] at r4
    have s4 := s3.trans r4.same
    have hb4 := s4 _ _ hb
    refine ⟨_, rfl, b, sts mv, true, [], rfl, same_hid0.seq (SqL.of hb4), fun J WJ D5 nD5 => ?_⟩
    refine lc2_it WJ (fun j H' => RowsIn H4 H' D5 (shTo mv j)) (RowsIn.start nD5) (fun j H' _ r => (r.same.trans same_hid0).seq (SqL.of hb4)) ?_ ?_
    · rintro i x H5 H5' hi r ⟨Tp, y1, y2, rfl, nT, rfl, e1, e2⟩
      obtain rfl := Option.some.inj e1
      obtain ⟨sx, hsx, rfl⟩ := sts_at e2
      have hi' : i < mv.length := (List.getElem?_eq_some_iff.mp hsx).1
      obtain ⟨H6, s6, h6, e6⟩ := lay (o := .tup [.int (i : Nat), .str sx]) nT
      rw [e6]
      refine ⟨Tp, _, rfl, SqT.of h6, rfl, _, _, rfl, _, _, rfl, rfl, ?_⟩
      refine ⟨rfl, ?_⟩
      refine ⟨_, rfl, _, rfl, _, _, rfl, rfl, _, rfl, b, sts mv, rfl, SqL.of (s6 _ _ (r.same _ _ hb4)), fun c nc => ?_⟩
      rw [show (((i : Nat) : Int) + 1) = ((i + 1 : Nat) : Int) from rfl, cut_from, show (sts mv).drop (i + 1) = sts (mv.drop (i + 1)) from (List.map_drop).symm]
      obtain ⟨H7, s7, h7, e7⟩ := lay (o := .lst (sts (mv.drop (i + 1)))) nc
      rw [e7]
      have r7 : RowsIn H4 H7 D5 (shTo mv i) := r.next (s6.trans s7)
      have cD : c ≠ D5 := fun z => by
        obtain ⟨ts, q1, _⟩ := r.next s6 |>.ex
        rw [← z, nc] at q1
        cases q1
      refine ⟨c, sts (mv.drop (i + 1)), true, [D5], rfl, SqL.of (hid_to (ni1 cD) h7), fun J1 WJ1 => ?_⟩
      have hc7 : hid [D5] H7 c = some (.lst (sts (mv.drop (i + 1)))) := hid_to (ni1 cD) h7
      refine in_it WJ1 (fun j H' => Bt [D5] H7 H' ∧ RowsIn H4 H' D5 (shTo mv i ++ ((mv.drop (i + 1)).take j).map fun y => (["shares", sx, y] : List Str))) ⟨Same.refl _, by rw [List.take_zero, List.map_nil, List.append_nil]; exact r7⟩ (fun j H' _ r => SqL.of (r.1 _ _ hc7)) ?_ ?_
      · rintro j y H8 H8' hj ⟨B8, r8⟩ ⟨rfl, hy⟩
        obtain ⟨sy, hsy, rfl⟩ := sts_at hy
        refine ⟨rfl, ?_⟩
        refine ⟨_, rfl, _, rfl, by show 3 ≤ sizeLine; decide, fun t nt => ?_⟩
        rw [take_at hsy, List.map_append, ← List.append_assoc]
        obtain ⟨acc, a1, a2, a3, a4⟩ := r8.moreB (row := ["shares", sx, sy]) (Same.refl _) (by
          rw [List.length_append, List.length_map, List.length_take, List.length_drop]
          have := shTo_len mv i
          have := prod_le (show i ≤ 20 by omega) hmv
          omega) nt
        exact ⟨acc, a1, a2, B8.trans a4, a3⟩
      · rintro H8 ⟨B8, r8⟩
        rw [show (mv.drop (i + 1)).take (sts (mv.drop (i + 1))).length = mv.drop (i + 1) from List.take_of_length_le (by rw [sts_len]; exact Nat.le_refl _)] at r8
        rw [shTo, show mv.getD i "" = sx from by rw [List.getD_eq_getElem?_getD, hsx]; rfl]
        exact r8
    intro H5 r5
    rw [sts_len] at r5
    have s5 := s4.trans r5.same
    obtain ⟨t1, g1, p1⟩ := r1.done
    obtain ⟨t2, g2, p2⟩ := r2.done
    obtain ⟨t3, g3, p3⟩ := r3.done
    obtain ⟨t4, g4, p4⟩ := r4.done
    obtain ⟨t5, g5, p5⟩ := r5.done
    have s45 := r5.same
    have s35 := r4.same.trans s45
    have s25 := r3.same.trans s35
    have s15 := r2.same.trans s25
    have l1 := p1.len
    have l2 := p2.len
    have l3 := p3.len
    have l4 := p4.len
    have l5 := p5.len
    rw [List.length_map] at l1 l2 l3
    rw [showsOf_len] at l4
    have l5b := shTo_len mv mv.length
    have l45 := prod_le hmv hmv
    refine ⟨_, rfl, _, rfl, D1, D2, _, _, rfl, rfl, s15 _ _ g1, s25 _ _ g2, by rw [List.length_map, List.length_map, sizeLine_eq]; omega, fun u6 n6 => ?_⟩
    obtain ⟨H6, s6, h6, e6⟩ := lay (o := .lst (t1.map V.ref ++ t2.map V.ref)) n6
    rw [e6]
    refine ⟨_, rfl, u6, D3, _, _, rfl, rfl, h6, s6 _ _ (s35 _ _ g3), by rw [List.length_append, List.length_map, List.length_map, List.length_map, sizeLine_eq]; omega, fun u7 n7 => ?_⟩
    obtain ⟨H7, s7, h7, e7⟩ := lay (o := .lst (t1.map V.ref ++ t2.map V.ref ++ t3.map V.ref)) n7
    rw [e7]
    refine ⟨_, rfl, u7, D4, _, _, rfl, rfl, h7, s7 _ _ (s6 _ _ (s45 _ _ g4)), by rw [List.length_append, List.length_append, List.length_map, List.length_map, List.length_map, List.length_map, sizeLine_eq]; omega, fun u8 n8 => ?_⟩
    obtain ⟨H8, s8, h8, e8⟩ := lay (o := .lst (t1.map V.ref ++ t2.map V.ref ++ t3.map V.ref ++ t4.map V.ref)) n8
    rw [e8]
    refine ⟨_, rfl, u8, D5, _, _, rfl, rfl, h8, s8 _ _ (s7 _ _ (s6 _ _ g5)), by rw [List.length_append, List.length_append, List.length_append, List.length_map, List.length_map, List.length_map, List.length_map, List.length_map, sizeLine_eq]; omega, fun u9 n9 => ?_⟩
    obtain ⟨H9, s9, h9, e9⟩ := lay (o := .lst (t1.map V.ref ++ t2.map V.ref ++ t3.map V.ref ++ t4.map V.ref ++ t5.map V.ref)) n9
    rw [e9]
    have s59 := ((s6.trans s7).trans s8).trans s9
    refine q u9 (t1 ++ t2 ++ t3 ++ t4 ++ t5) H9 ((s5.trans ((s6.trans s7).trans s8)).free n9) (s5.trans s59) (by rw [h9]; simp) ?_
    have b1 := p1.mono (s15.trans s59)
    have b2 := p2.mono (s25.trans s59)
    have b3 := p3.mono (s35.trans s59)
    have b4 := p4.mono (s45.trans s59)
    have b5 := p5.mono s59
    exact (((b1.app b2).app b3).app b4).app b5
theorem scEbv : FnScope ebvN ["facts", "commutes"] (defScope sEbv) := ⟨rfl, rfl, rfl, by decide +kernel, rfl, by decide +kernel, by decide +kernel⟩
theorem ok_ebv {f : Addr} {fd : FuncData} (F : Fun K "_ends_by_values" "_ends_by_values" sEbv f fd) (T : Bl mg) (OUT : Fns P w K mg base "as_outcome" 1 ["end"] spOut) : FnOk P w K mg base CX0 2 f fd ["facts", "commutes"] (spEbv P w) := by
  refine F.ok scEbv (fun vs H Q E h => ?_) (fun cdv A outer s H vs Q E hr h => ?_)
  · obtain ⟨a, c, g, rfl, _⟩ := h
    rfl
  · obtain ⟨a, c, g, rfl, ⟨tsF, ha, hF⟩, hc, wf, q⟩ := h
    have hu := hu_of hr
    have hu9 : (A.deeper (PyProof.Rows.envOfC "_ends_by_values" (defScope sEbv) s.heap.objs.size f cdv)).units + 9 < cLine := by have := hr.un; omega
    refine ⟨_, pss_cons (ps_set (i := 2) scEbv.nd rfl (.inl rfl) (pe_dnewN)) (pss_cons (ps_for PassesOwn.never rfl (pi_seqW (pv 0)) (pg_tup rfl (pgs_cons (pg_name (i := 3) scEbv.nd rfl (.inl rfl)) (pgs_cons (pg_name (i := 4) scEbv.nd rfl (.inl rfl)) (pgs_cons (pg_name (i := 5) scEbv.nd rfl (.inl rfl)) (pgs_nil))))) (pss_cons (ps_set (i := 6) scEbv.nd rfl (.inl rfl) (pe_weak (t' := tVals) (pe_callTy (call_tuple_of) (by rfl) T.tuple (by decide +kernel) (pa_cons (pe_lc (own := [("name", 7)]) (g := gName 7) (tt := tYes) rfl scEbv.nd (pi_seqW (pe_ifExp (pt_cmp (pc_din hu (pv 3) (pv 1))) (pe_callB (cr_sortedTS) (by rfl) T.sorted (by decide +kernel) (pa_cons (pv 4) (pa_nil))) (pv 4))) (blkOk_by (own := [("name", 7)]) (N := ebvN) (sc := defScope sEbv) (by decide +kernel)) (fun _ _ _ _ _ => pg_name (i := 7) scEbv.nd rfl (.inl rfl)) (fun _ _ _ _ _ => pts_nil) (fun _ _ _ _ _ => pe_tup (pa_cons (pe_str) (pa_cons (pv 7) (pa_nil))))) (pa_nil))) vals_weak)) (pss_one (ps_asg (pe_fn OUT hr (by decide) rfl (pa_cons (pv 5) pa_nil)) (pg_sub (pv 2) (pe_tup (pa_cons (pv 3) (pa_cons (pv 6) (pa_nil)))) (set_dictN hu9)))))) (pss_one (ps_ret (pv 2)))), ?_⟩
    refine fun D nD => ?_
    obtain ⟨H1, s1, h1, e1⟩ := lay (o := ndO P w D []) nD
    have e1' : upd H D (ndO (cxOf CX0 P w K mg base ebvN "_ends_by_values" (defScope sEbv) f cdv A outer s H E).nox.prog (cxOf CX0 P w K mg base ebvN "_ends_by_values" (defScope sEbv) f cdv A outer s H E).nox.w D []) = H1 := e1
    rw [e1']
    have S1 : Same H (hid [D] H1) := same_hid_new nD s1
    have ltd : tsF.length = g.facts.length := (Paired.length hF).symm
    refine ⟨_, rfl, a, tsF.map V.ref, true, [D], rfl, SqL.of (S1 _ _ ha), fun J WJ => ?_⟩
    refine for_it WJ (fun i σ H' => ∃ (o3 o4 o5 o6 : Option V) (xs : NX), σ = [some (.ref a), some (.ref c), some (.ref D), o3, o4, o5, o6, none] ∧ Same H (hid [D] H') ∧ H' D = some (ndO P w D xs) ∧ NdKeys (hid [D] H') xs ∧ Paired (EndAt (hid [D] H') g) (g.facts.take i) xs)
      ⟨none, none, none, none, [], rfl, S1, h1, (fun e he => nomatch he), .nil⟩ (fun i σ H' _ ⟨_, _, _, _, _, _, S, _⟩ => SqL.of (S _ _ ha)) ?_ ?_
    · rintro i x σ H0 H3 hi ⟨o3, o4, o5, o6, xs, rfl, S3, h3, k3, p3⟩ ⟨rfl, ey⟩
      obtain ⟨t, htt, rfl⟩ : ∃ t, tsF[i]? = some t ∧ x = V.ref t := by
        have ey : (tsF.map V.ref)[i]? = some x := ey
        rw [List.getElem?_map] at ey
        cases e : tsF[i]? with
        | none => rw [e] at ey; cases ey
        | some y => rw [e] at ey; exact ⟨y, rfl, (Option.some.inj ey).symm⟩
      have hig : i < g.facts.length := by rw [← ltd]; exact (List.getElem?_eq_some_iff.mp htt).1
      have hfi : g.facts[i]? = some g.facts[i] := List.getElem?_eq_getElem hig
      generalize hfa : g.facts[i] = fa at hfi
      have fmem := List.mem_of_getElem? hfi
      obtain ⟨t', ht', hA⟩ : ∃ t', tsF[i]? = some t' ∧ FactAt H fa t' := paired_at' hF hfi
      obtain rfl : t' = t := by rw [htt] at ht'; exact (Option.some.inj ht').symm
      have ok := wf.fa _ fmem
      obtain ⟨v, e, ht0, hv0, he0⟩ := hA.ex
      obtain ⟨k, hk, hvl⟩ := ok.len
      have har := wf.ar _ hk
      have S3l : Same H H3 := S3.trans (hid_low _ _)
      refine ⟨t', _, rfl, SqT.of (S3l _ _ ht0), rfl, _, _, rfl, _, _, rfl, _, _, rfl, rfl, ?_⟩
      refine ⟨fa.x, v, c, fa.vals, g.comm, rfl, rfl, rfl, rfl, S3l _ _ hc, S3l _ _ hv0, by rw [hvl]; exact har, ok.vals, fun u tsu H4 nu s4 hu4 hru => ?_⟩
      refine ⟨_, rfl, e, fa.kind, fa.en, rfl, s4 _ _ (S3l _ _ he0), fun b H5 nb s5 hb5 => ?_⟩
      refine ⟨_, rfl, _, rfl, _, rfl, by show 2 ≤ sizeLine; decide, fun ka nka => ?_⟩
      obtain ⟨H6, s6, h6, e6⟩ := lay (o := .tup [.str fa.x, .ref u]) nka
      rw [e6]
      have S46 : Same H3 H6 := (s4.trans s5).trans s6
      have h6D := S46 _ _ h3
      have nD6 : ∀ {q : Addr} {o : List V}, H6 q = some (.tup o) → hid [D] H6 q = some (.tup o) := fun h => hid_to (ni1 (ne_of h h6D (fun z => nomatch z))) h
      have k6 : NdKeys (hid [D] H6) xs := k3.mono (hid_same S46)
      have hru6 : RowsAt (hid [D] H6) ((if fa.x ∈ g.comm then sort2 fa.vals else fa.vals).map fun y => (["value", y] : List Str)) tsu := Paired.mapP (hru.mono (s5.trans s6)) fun _ _ r => nD6 r
      have nk6 : NkV (hid [D] H6) (nkE (g.asked fa)) (.ref ka) := .tup (nD6 h6) (.cons (.text _) (.cons (.tup (nD6 (s6 _ _ (s5 _ _ hu4))) (nk_rows hru6)) .nil))
      have lxs : xs.length ≤ 6 := by
        have := Paired.length p3
        rw [List.length_take] at this
        have := wf.fl
        omega
      have nokey : nkE (g.asked fa) ∉ xs.map (·.1) := by
        intro m
        obtain ⟨en, hen, ee⟩ := List.mem_map.mp m
        obtain ⟨fb, hfb, hE⟩ := paired_mem p3 hen
        have := nkE_inj (hE.key.symm.trans ee)
        exact not_in_take_map wf.fd hfi hfb this
      have hnone := atKey_none nokey
      refine ⟨D, ka, b, nkE (g.asked fa), xs, rfl, rfl, rfl, h6D, k6.mono (hid_low _ _), NkV.mono (hid_low _ _) _ _ nk6, nkE_depth _, by omega, ?_⟩
      rw [storedH_new hnone]
      have B8 : Bt [D] H6 (upd H6 D (ndO P w D (xs ++ [(nkE (g.asked fa), ka, Value.ref b)]))) := bt_upd (by simp)
      have S58 : Same (hid [D] H3) (hid [D] (upd H6 D (ndO P w D (xs ++ [(nkE (g.asked fa), ka, Value.ref b)])))) := (hid_same S46).trans B8
      refine ⟨_, _, _, _, xs ++ [(nkE (g.asked fa), ka, Value.ref b)], rfl, S3.trans S58, upd_same, ?_, ?_⟩
      · intro en hen
        rcases List.mem_append.mp hen with h | h
        · exact (k6.mono B8) en h
        · rw [List.mem_singleton.mp h]
          exact ⟨NkV.mono B8 _ _ nk6, nkE_depth _⟩
      · rw [take_at hfi]
        exact paired_app (Paired.mapP p3 fun _ _ r => r.mono S58) (.cons ⟨rfl, b, e, rfl, B8 _ _ (nD6 (s6 _ _ hb5)), S58 _ _ (S3 _ _ he0)⟩ .nil)
    · rintro σ H3 ⟨o3, o4, o5, o6, xs, rfl, S3, h3, k3, p3⟩
      rw [List.take_of_length_le (by rw [List.length_map, ltd]; exact Nat.le_refl _)] at p3
      exact ⟨_, rfl, q D xs H3 nD (S3.trans (hid_low _ _)) h3 k3 p3⟩
end
end K39
set_option Elab.async false
set_option linter.all false
set_option maxRecDepth 100000
set_option maxHeartbeats 8000000
namespace GB
open PySem PySem.Spec L2
/-- [x for x in letters if x in fixed] -/
def tSel (j : Nat) : TE := fun σ H Q => ∃ (s0 : Option V) (a : Addr) (s2 s3 s4 s5 s6 s7 : Option V) (b : Addr) (ls : List (Str × Nat)) (fx : List Str), σ = [s0, some (.ref a), s2, s3, s4, s5, s6, s7] ∧ ((j = 2 ∧ s2 = some (.ref b)) ∨ (j = 3 ∧ s3 = some (.ref b))) ∧ H a = some (.dK (lkv ls)) ∧ H b = some (.lst (sts fx)) ∧ ls.length ≤ 1000 ∧
  ∀ l H', H l = none → Same H H' → H' l = some (.lst (sts ((ls.map (·.1)).filter fun x => decide (x ∈ fx)))) → Q (.ref l) H'

theorem sel_weak2 {K : PySem.W.Frag} (σ : L2.St) (H : Hp) (Q : VK) (h : tSel 2 σ H Q) : tLockE (tLc (iKeys (tVar 1)) (gName 5) (tTest (tOp (rIn K false) (tVar 5) (tVar 2))) (tVar 5) [5]) σ H Q := by
  obtain ⟨s0, a, s2, s3, s4, s5, s6, s7, b, ls, fx, rfl, hj, hL, hF, hz, q⟩ := h
  obtain rfl : s2 = some (.ref b) := by
    rcases hj with h | h
    · first | exact h.2 | exact absurd h.1 (by decide)
    · first | exact h.2 | exact absurd h.1 (by decide)
  have ab : b ≠ a := ne_of hF hL (by intro z; cases z)
  refine ⟨a, _, hL, trivial, fun od => ?_⟩
  obtain ⟨Hl, hlL, hlo, el⟩ : ∃ Hl, Hl a = some (.frz od (.dK (lkv ls))) ∧ (∀ b, b ≠ a → Hl b = H b) ∧ upd H a (.frz od (.dK (lkv ls))) = Hl := ⟨_, upd_same, fun b hb => upd_ne hb, rfl⟩
  rw [el]
  have hFl := (hlo b ab).trans hF
  refine ⟨_, rfl, a, od, rfl, .inl ⟨_, hlL, fun D nD => ?_⟩⟩
  refine lc_it walk_keys (fun i H' => Same Hl H' ∧ H' D = some (.lst (sts (((ls.map (·.1)).take i).filter fun x => decide (x ∈ fx))))) ⟨same_new nD, upd_same⟩ (fun i H' _ ⟨s', _⟩ => s' _ _ hlL) ?_ ?_
  · rintro i x H1 H1' hi ⟨s1, hD⟩ ⟨rfl, k, v, hk, rfl⟩
    obtain ⟨⟨sx, m⟩, hq, eq⟩ : ∃ q, ls[i]? = some q ∧ (Sum.inr q.1, V.int q.2) = (k, v) := by
      unfold lkv at hk
      rw [List.getElem?_map] at hk
      cases e : ls[i]? with
      | none => rw [e] at hk; cases hk
      | some q => rw [e] at hk; exact ⟨q, rfl, Option.some.inj hk⟩
    obtain ⟨rfl, rfl⟩ := Prod.mk.inj eq
    have hkx : (ls.map (·.1))[i]? = some sx := by rw [List.getElem?_map, hq]; rfl
    have ec := take_at hkx
    refine ⟨rfl, ?_⟩
    refine ⟨_, rfl, _, rfl, b, sts fx, rfl, .inl (SqL.of (s1 _ _ hFl)), rfl, flat_sts _, _, rfl, ?_⟩
    rw [show (if false = true then !inV (kV (Sum.inr sx)) (sts fx) else inV (kV (Sum.inr sx)) (sts fx)) = decide (sx ∈ fx) from inV_sts _ _]
    rw [ec, List.filter_append]
    by_cases c : sx ∈ fx
    · rw [decide_eq_true c]
      refine ⟨_, rfl, _, hD, ?_, fun b o e => ?_, ?_⟩
      · rw [sts_len, sizeLine_eq]
        have h1 := List.length_filter_le (fun x => decide (x ∈ fx)) ((ls.map (·.1)).take i)
        rw [List.length_take, List.length_map] at h1
        omega
      · rw [upd_ne (ne_of_none e nD)]; exact s1 _ _ e
      · rw [upd_same, List.filter_cons_of_pos (by simp [c]), List.filter_nil]
        unfold sts
        rw [List.map_append]
        rfl
    · rw [decide_eq_false c]
      refine ⟨s1, ?_⟩
      rw [List.filter_cons_of_neg (by simp [c]), List.filter_nil, List.append_nil]
      exact hD
  · rintro H1' ⟨s1', hD1'⟩
    refine ⟨s1' _ _ hlL, ?_⟩
    have DL : D ≠ a := fun e => by rw [e, hlL] at nD; cases nD
    have nDH : H D = none := by rw [← hlo D DL]; exact nD
    rw [List.take_of_length_le (by rw [List.length_map]; show ls.length ≤ (lkv ls).length; unfold lkv; rw [List.length_map]; exact Nat.le_refl _)] at hD1'
    refine q D _ nDH (fun b o e => ?_) (by rw [upd_ne DL]; exact hD1')
    by_cases hb : b = a
    · subst hb; rw [upd_same, ← e, hL]
    · rw [upd_ne hb]; exact s1' _ _ ((hlo b hb).trans e)

theorem sel_weak3 {K : PySem.W.Frag} (σ : L2.St) (H : Hp) (Q : VK) (h : tSel 3 σ H Q) : tLockE (tLc (iKeys (tVar 1)) (gName 5) (tTest (tOp (rIn K false) (tVar 5) (tVar 3))) (tVar 5) [5]) σ H Q := by
  obtain ⟨s0, a, s2, s3, s4, s5, s6, s7, b, ls, fx, rfl, hj, hL, hF, hz, q⟩ := h
  obtain rfl : s3 = some (.ref b) := by
    rcases hj with h | h
    · first | exact h.2 | exact absurd h.1 (by decide)
    · first | exact h.2 | exact absurd h.1 (by decide)
  have ab : b ≠ a := ne_of hF hL (by intro z; cases z)
  refine ⟨a, _, hL, trivial, fun od => ?_⟩
  obtain ⟨Hl, hlL, hlo, el⟩ : ∃ Hl, Hl a = some (.frz od (.dK (lkv ls))) ∧ (∀ b, b ≠ a → Hl b = H b) ∧ upd H a (.frz od (.dK (lkv ls))) = Hl := ⟨_, upd_same, fun b hb => upd_ne hb, rfl⟩
  rw [el]
  have hFl := (hlo b ab).trans hF
  refine ⟨_, rfl, a, od, rfl, .inl ⟨_, hlL, fun D nD => ?_⟩⟩
  refine lc_it walk_keys (fun i H' => Same Hl H' ∧ H' D = some (.lst (sts (((ls.map (·.1)).take i).filter fun x => decide (x ∈ fx))))) ⟨same_new nD, upd_same⟩ (fun i H' _ ⟨s', _⟩ => s' _ _ hlL) ?_ ?_
  · rintro i x H1 H1' hi ⟨s1, hD⟩ ⟨rfl, k, v, hk, rfl⟩
    obtain ⟨⟨sx, m⟩, hq, eq⟩ : ∃ q, ls[i]? = some q ∧ (Sum.inr q.1, V.int q.2) = (k, v) := by
      unfold lkv at hk
      rw [List.getElem?_map] at hk
      cases e : ls[i]? with
      | none => rw [e] at hk; cases hk
      | some q => rw [e] at hk; exact ⟨q, rfl, Option.some.inj hk⟩
    obtain ⟨rfl, rfl⟩ := Prod.mk.inj eq
    have hkx : (ls.map (·.1))[i]? = some sx := by rw [List.getElem?_map, hq]; rfl
    have ec := take_at hkx
    refine ⟨rfl, ?_⟩
    refine ⟨_, rfl, _, rfl, b, sts fx, rfl, .inl (SqL.of (s1 _ _ hFl)), rfl, flat_sts _, _, rfl, ?_⟩
    rw [show (if false = true then !inV (kV (Sum.inr sx)) (sts fx) else inV (kV (Sum.inr sx)) (sts fx)) = decide (sx ∈ fx) from inV_sts _ _]
    rw [ec, List.filter_append]
    by_cases c : sx ∈ fx
    · rw [decide_eq_true c]
      refine ⟨_, rfl, _, hD, ?_, fun b o e => ?_, ?_⟩
      · rw [sts_len, sizeLine_eq]
        have h1 := List.length_filter_le (fun x => decide (x ∈ fx)) ((ls.map (·.1)).take i)
        rw [List.length_take, List.length_map] at h1
        omega
      · rw [upd_ne (ne_of_none e nD)]; exact s1 _ _ e
      · rw [upd_same, List.filter_cons_of_pos (by simp [c]), List.filter_nil]
        unfold sts
        rw [List.map_append]
        rfl
    · rw [decide_eq_false c]
      refine ⟨s1, ?_⟩
      rw [List.filter_cons_of_neg (by simp [c]), List.filter_nil, List.append_nil]
      exact hD
  · rintro H1' ⟨s1', hD1'⟩
    refine ⟨s1' _ _ hlL, ?_⟩
    have DL : D ≠ a := fun e => by rw [e, hlL] at nD; cases nD
    have nDH : H D = none := by rw [← hlo D DL]; exact nD
    rw [List.take_of_length_le (by rw [List.length_map]; show ls.length ≤ (lkv ls).length; unfold lkv; rw [List.length_map]; exact Nat.le_refl _)] at hD1'
    refine q D _ nDH (fun b o e => ?_) (by rw [upd_ne DL]; exact hD1')
    by_cases hb : b = a
    · subst hb; rw [upd_same, ← e, hL]
    · rw [upd_ne hb]; exact s1' _ _ ((hlo b hb).trans e)

theorem dcK_it {J : It} {n : Nat} {G : Hp → Prop} {Y : Nat → Hp → V → Hp → Prop} (w : Walk J n G Y) {g : TG} {tt : TT} {tk tv : TE} {vs : List Nat} {σ : L2.St} {H1 : Hp} {D : Addr} {Qd : Hp → Prop} (Pv : Nat → Hp → Prop) (h0 : Pv 0 (upd H1 D (.dK []))) (hG : ∀ i H, i ≤ n → Pv i H → G H)
    (hs : ∀ i x H H', i < n → Pv i H → Y i H x H' → g x (wipe σ vs) H' fun σ2 H2 => wipe σ2 vs = wipe σ vs ∧ tt σ2 H2 fun b H3 => if b = true then tk σ2 H3 fun y H4 => tv σ2 H4 fun z H5 => ∃ kvs k, y = kV k ∧ H5 D = some (.dK kvs) ∧ kvs.length < sizeLine ∧ Pv (i + 1) (upd H5 D (.dK (putK kvs k z))) else Pv (i + 1) H3) (hd : ∀ H, Pv n H → Qd H) :
    ∃ Wv : Nat → Nat → Hp → Prop, (∃ m, Wv 0 m (upd H1 D (.dK []))) ∧ ∀ i m H, Wv i m H → (J.stop i H ∧ Qd H) ∨ (J.go i H ∧ ∃ Nx : Hp → Prop, (∀ H', Nx H' → ∃ m', m' < m ∧ Wv (i + 1) m' H') ∧ ∀ x H', J.yld i H x H' → g x (wipe σ vs) H' fun σ2 H2 =>
      wipe σ2 vs = wipe σ vs ∧ tt σ2 H2 fun b H3 => if b = true then tk σ2 H3 fun y H4 => tv σ2 H4 fun z H5 => ∃ kvs k, y = kV k ∧ H5 D = some (.dK kvs) ∧ kvs.length < sizeLine ∧ Nx (upd H5 D (.dK (putK kvs k z))) else Nx H3) := by
  refine ⟨fun i m H => m = n - i ∧ i ≤ n ∧ Pv i H, ⟨n, by simp, Nat.zero_le _, h0⟩, ?_⟩
  rintro i m H ⟨rfl, hi, p⟩
  rcases Nat.lt_or_ge i n with lt | ge
  · exact .inr ⟨w.goes i H lt (hG i H hi p), Pv (i + 1), fun H' p' => ⟨n - (i + 1), by omega, rfl, lt, p'⟩, fun x H' y => hs i x H H' lt p (w.yields i H x H' lt (hG i H hi p) y)⟩
  · obtain rfl : i = n := by omega
    exact .inl ⟨w.stops H (hG i H hi p), hd H p⟩
theorem FactsAt.hidX {H : Hp} {x l C dx : Addr} {u : List (Str × V)} {fs : List Fact} (hx : H x = some (.ins C dx u)) (h : FactsAt H l fs) : FactsAt (hid [x] H) l fs := by
  obtain ⟨ts, h1, h2⟩ := h
  refine ⟨ts, hid_to (ni1 (ne_of h1 hx (fun z => nomatch z))) h1, Paired.mapP h2 fun f t r => ?_⟩
  obtain ⟨v, e, a1, a2, a3⟩ := r.ex
  exact ⟨v, e, hid_to (ni1 (ne_of a1 hx (fun z => nomatch z))) a1, hid_to (ni1 (ne_of a2 hx (fun z => nomatch z))) a2, hid_to (ni1 (ne_of a3 hx (fun z => nomatch z))) a3⟩
/-- the places of rows, from 0 -/
def plK (rows : List (List Str)) : Nat → List (List Key × V)
  | 0 => []
  | i + 1 => putK (plK rows i) ((rows.getD i []).map Sum.inr) (.int (i : Nat))
theorem plK_len (rows : List (List Str)) : ∀ i, (plK rows i).length ≤ i
  | 0 => Nat.le_refl _
  | i + 1 => by
    have := plK_len rows i
    have := length_putK (plK rows i) ((rows.getD i []).map Sum.inr : List Key) (.int (i : Nat))
    rw [plK]
    omega
theorem sts_kV (row : List Str) : sts row = ((row.map Sum.inr : List Key)).map kV := by
  unfold sts
  rw [List.map_map]
  rfl
theorem true_keys (l : List Str) : (trueK l).map (fun kv => kV kv.1) = sts l := by
  unfold trueK sts
  rw [List.map_map]
  rfl
theorem lkv_keys (l : List (Str × Nat)) : (lkv l).map (fun kv => kV kv.1) = sts (l.map (·.1)) := by
  unfold lkv sts
  rw [List.map_map, List.map_map]
  rfl
theorem allPerms_len {ls mv : List Str} (h1 : ls.length ≤ 20) (h2 : mv.length ≤ 20) : (allPerms ls mv).length ≤ 1000 := by
  unfold allPerms
  have := shTo_len mv mv.length
  have := prod_le h2 h2
  simp only [List.length_append, List.length_map, showsOf_len]
  omega
theorem filter_sub {c l : List Str} (h : c.Sublist l) : l.Nodup → l.filter (fun x => decide (x ∈ c)) = c := by
  induction h with
  | slnil => intro _; rfl
  | @cons c l a h ih =>
    intro nd
    have nd' := List.nodup_cons.mp nd
    rw [List.filter_cons_of_neg (by simp; exact fun m => nd'.1 (h.subset m)), ih nd'.2]
  | @cons_cons c l a h ih =>
    intro nd
    have nd' := List.nodup_cons.mp nd
    rw [List.filter_cons_of_pos (by simp)]
    congr 1
    rw [← ih nd'.2]
    refine List.filter_congr fun x hx => ?_
    have hne : x ≠ a := fun e => nd'.1 (e ▸ hx)
    have hmem : (x ∈ (l.filter fun x => decide (x ∈ c))) ↔ x ∈ c := by rw [ih nd'.2]
    simp [hne, hmem]
/-- {x: True for x in letters if x not in fixed} -/
def tMov : TE := fun σ H Q => ∃ (s0 : Option V) (a : Addr) (s3 s4 s5 s6 s7 : Option V) (b : Addr) (ls : List (Str × Nat)) (fx : List Str), σ = [s0, some (.ref a), some (.ref b), s3, s4, s5, s6, s7] ∧ H a = some (.dK (lkv ls)) ∧ H b = some (.lst (sts fx)) ∧ (ls.map (·.1)).Nodup ∧ ls.length ≤ 1000 ∧
  ∀ l H', H l = none → Same H H' → H' l = some (.dK (trueK ((ls.map (·.1)).filter fun x => !decide (x ∈ fx)))) → Q (.ref l) H'
theorem putTrue {l : List Str} {x : Str} (h : x ∉ l) : putK (trueK l) (.inr x : Key) (.bl true) = trueK (l ++ [x]) := by
  rw [putK_new _ (by rw [trueK_in, if_neg h])]
  unfold trueK
  rw [List.map_append]
  rfl
theorem mov_weak {K : PySem.W.Frag} (σ : L2.St) (H : Hp) (Q : VK) (h : tMov σ H Q) : tLockE (tDc (iKeys (tVar 1)) (gName 5) (tTest (tOp (rIn K true) (tVar 5) (tVar 2))) (tVar 5) (tC (.bl true)) [5]) σ H Q := by
  obtain ⟨s0, a, s3, s4, s5, s6, s7, b, ls, fx, rfl, hL, hF, nd, hz, q⟩ := h
  have ab : b ≠ a := ne_of hF hL (by intro z; cases z)
  refine ⟨a, _, hL, trivial, fun od => ?_⟩
  obtain ⟨Hl, hlL, hlo, el⟩ : ∃ Hl, Hl a = some (.frz od (.dK (lkv ls))) ∧ (∀ b, b ≠ a → Hl b = H b) ∧ upd H a (.frz od (.dK (lkv ls))) = Hl := ⟨_, upd_same, fun b hb => upd_ne hb, rfl⟩
  rw [el]
  have hFl := (hlo b ab).trans hF
  refine ⟨_, rfl, a, od, rfl, .inl ⟨_, hlL, fun D nD => dcK_it walk_keys (fun i H' => Same Hl H' ∧ H' D = some (.dK (trueK (((ls.map (·.1)).take i).filter fun x => !decide (x ∈ fx))))) ⟨same_new nD, upd_same⟩ (fun i H' _ ⟨s', _⟩ => s' _ _ hlL) ?_ ?_⟩⟩
  · rintro i x H1 H1' hi ⟨s1, hD⟩ ⟨rfl, k, v, hk, rfl⟩
    obtain ⟨⟨sx, m⟩, hq, eq⟩ : ∃ q, ls[i]? = some q ∧ (Sum.inr q.1, V.int q.2) = (k, v) := by
      unfold lkv at hk
      rw [List.getElem?_map] at hk
      cases e : ls[i]? with
      | none => rw [e] at hk; cases hk
      | some q => rw [e] at hk; exact ⟨q, rfl, Option.some.inj hk⟩
    obtain ⟨rfl, rfl⟩ := Prod.mk.inj eq
    have hkx : (ls.map (·.1))[i]? = some sx := by rw [List.getElem?_map, hq]; rfl
    have ec := take_at hkx
    refine ⟨rfl, ?_⟩
    refine ⟨_, rfl, _, rfl, b, sts fx, rfl, .inl (SqL.of (s1 _ _ hFl)), rfl, flat_sts _, _, rfl, ?_⟩
    rw [show (if true = true then !inV (kV (Sum.inr sx)) (sts fx) else inV (kV (Sum.inr sx)) (sts fx)) = !decide (sx ∈ fx) from congrArg (!·) (inV_sts _ _)]
    rw [ec, List.filter_append]
    by_cases c : sx ∈ fx
    · rw [decide_eq_true c]
      refine ⟨s1, ?_⟩
      rw [List.filter_cons_of_neg (by simp [c]), List.filter_nil, List.append_nil]
      exact hD
    · rw [decide_eq_false c]
      have hn : sx ∉ ((ls.map (·.1)).take i).filter fun x => !decide (x ∈ fx) := fun z => not_in_take nd hkx (List.mem_filter.mp z).1
      refine ⟨_, rfl, _, .inr sx, rfl, hD, ?_, ?_⟩
      · unfold trueK
        rw [List.length_map, sizeLine_eq]
        have h1 := List.length_filter_le (fun x => !decide (x ∈ fx)) ((ls.map (·.1)).take i)
        rw [List.length_take, List.length_map] at h1
        omega
      · refine ⟨fun b o e => ?_, ?_⟩
        · rw [upd_ne (ne_of_none e nD)]; exact s1 _ _ e
        · rw [upd_same, putTrue hn, List.filter_cons_of_pos (by simp [c]), List.filter_nil]
  · rintro H1' ⟨s1', hD1'⟩
    refine ⟨s1' _ _ hlL, ?_⟩
    have DL : D ≠ a := fun e => by rw [e, hlL] at nD; cases nD
    have nDH : H D = none := by rw [← hlo D DL]; exact nD
    rw [List.take_of_length_le (by rw [List.length_map]; show ls.length ≤ (lkv ls).length; unfold lkv; rw [List.length_map]; exact Nat.le_refl _)] at hD1'
    refine q D _ nDH (fun b o e => ?_) (by rw [upd_ne DL]; exact hD1')
    by_cases hb : b = a
    · subst hb; rw [upd_same, ← e, hL]
    · rw [upd_ne hb]; exact s1' _ _ ((hlo b hb).trans e)
end GB
namespace K39
open PySem PySem.Spec L2 GB
abbrev sGI : Stmt := inClass (topS 17) 0
abbrev sMade : Stmt := topS 46
def giN : List Str := ["self", "letters", "fixed", "commuting", "facts", "letter", "place", "row"]
section
variable {P : Program} {w : World} {K : PySem.W.Frag} {mg : Str → Option Value} {base : Heap} {C : Addr}
theorem scGI : FnScope giN ["self", "letters", "fixed", "commuting", "facts"] (defScope sGI) := ⟨rfl, rfl, rfl, by decide +kernel, rfl, by decide +kernel, by decide +kernel⟩
theorem scMade : FnScope ["_law_g"] ["_law_g"] (defScope sMade) := ⟨rfl, rfl, rfl, by decide +kernel, rfl, by decide +kernel, by decide +kernel⟩

end
end K39
set_option Elab.async false
set_option linter.all false
set_option autoImplicit false
set_option maxRecDepth 100000
set_option maxHeartbeats 8000000
namespace GB
open PySem PySem.Spec L2
theorem slTo27 {K : PySem.W.Frag} {H : Hp} {Q : VK} {p : Addr} {xs : List V} (h : SqA K H p xs) (k : Nat) (hk : k ≤ xs.length) (q : ∀ b H', Same H H' → SqA K H' b (xs.take k) → Q (.ref b) H') : rSlAny K (.ref p) none (some (k : Int)) H Q := by
  rcases h with h | h
  · refine .inl ⟨p, xs, rfl, h, fun a na => ?_⟩
    obtain ⟨H1, s1, h1, e1⟩ := lay (o := .lst (cutV xs none (some (k : Int)))) na
    rw [e1]
    exact q a H1 s1 (by rw [← cut_to _ _ hk]; exact .inl (SqL.of h1))
  · refine .inr ⟨p, xs, rfl, h, fun hw => ?_, fun _ a na => ?_⟩
    · have h0 := hw.2
      rw [HT.sIx_nat] at h0
      have e : xs.take k = xs := List.take_of_length_le (by omega)
      exact q p H (Same.refl _) (by rw [e]; exact .inr h)
    · obtain ⟨H1, s1, h1, e1⟩ := lay (o := .tup (cutV xs none (some (k : Int)))) na
      rw [e1]
      exact q a H1 s1 (by rw [← cut_to _ _ hk]; exact .inr (SqT.of h1))
end GB
namespace K39
open PySem PySem.Spec L2 GB
def spCkF2 (K : PySem.W.Frag) : Sp := fun vs H Q _ => ∃ (a b : Addr) (ls : List (Str × Nat)) (fx : List Str), vs = [.ref a, .ref b] ∧ H a = some (.dK (lkv ls)) ∧ (ls.map (·.1)).Nodup ∧ SqA K H b (sts fx) ∧ fx.Nodup ∧ (∀ x ∈ fx, x ∈ ls.map (·.1)) ∧ ∀ H', Same H H' → Q .non H'
def spCkC2 (K : PySem.W.Frag) : Sp := fun vs H Q _ => ∃ (a b c : Addr) (ls : List (Str × Nat)) (fx cm : List Str), vs = [.ref a, .ref b, .ref c] ∧ H a = some (.dK (lkv ls)) ∧ (ls.map (·.1)).Nodup ∧ SqA K H b (sts fx) ∧ SqA K H c (sts cm) ∧ cm.Nodup ∧ (∀ x ∈ cm, x ∈ fx) ∧ (∀ x ∈ cm, (x, 2) ∈ ls) ∧ ∀ H', Same H H' → Q .non H'
def spTE2 (K : PySem.W.Frag) : Sp := fun vs H Q _ => ∃ (e : Addr) (k n : Str), vs = [.ref e] ∧ SqA K H e [.str k, .str n] ∧ (k = "value" ∨ k = "fail") ∧ nameB n = true ∧ ∀ H', Same H H' → Q (.bl true) H'
section
variable {P : Program} {w : World} {K : PySem.W.Frag} {mg : Str → Option Value} {base : Heap}
theorem ok_ckF2 {f : Addr} {fd : FuncData} (F : Fun K "_check_fixed" "_check_fixed" sCkF f fd) (T : Bl mg) (IL : Fns P w K mg base "is_list" 1 ["thing"] (spIsL K)) : FnOk P w K mg base CX0 2 f fd ["letters", "fixed"] (spCkF2 K) := by
  refine F.ok scCkF (fun vs H Q E h => ?_) (fun cdv A outer s H vs Q E hr h => ?_)
  · obtain ⟨a, b, ls, fx, rfl, _⟩ := h
    rfl
  · obtain ⟨a, b, ls, fx, rfl, hL, lnd, hF, fnd, sub, q⟩ := h
    have hu := hu_of hr
    refine ⟨_, pss_cons (ps_if (pt_not (pt_val (pe_fn IL hr (by decide) rfl (pa_cons (pv 1) (pa_nil))))) (pss_one ps_never) (pss_nil)) (pss_one (ps_for PassesOwn.never rfl (pi_enumW rfl T.enum (pa_cons (pv 1) (pa_nil))) (pg_tup rfl (pgs_cons (pg_name (i := 2) scCkF.nd rfl (.inl rfl)) (pgs_cons (pg_name (i := 3) scCkF.nd rfl (.inl rfl)) (pgs_nil)))) (pss_one (ps_if (PW.pt (pw_or (pt_not (pt_val (pe_callB call_isi (by rfl) T.isi (by decide +kernel) (pa_cons (pv 3) (pa_cons (pe_bltn (v := .ty "str") (by rfl) T.str (by decide +kernel) rfl) (pa_nil)))))) (pw_or (pt_cmp (pc_dnotin hu (pv 3) (pv 0))) (pw_or1 (pt_cmpR op_in_seq (pv 3) (pe_slice sl_any (pv 1) po_none (po_some (pv 2))) (by rfl)))))) (pss_one ps_never) (pss_nil))))), ?_⟩
    obtain ⟨ty, ht, hty⟩ := tyS hF
    refine ⟨_, rfl, .ref b, _, true, rfl, hty, kit_seq ht, fun H1 s1 => ⟨_, rfl, ?_⟩⟩
    refine iteF ?_
    obtain ⟨kb, hqv⟩ := sqV ((hF.mono s1).mono (fun b o e => hid_to (ps := []) (by simp) e))
    refine ⟨_, rfl, b, sts fx, kb, [], rfl, hqv, fun J WJ => ?_⟩
    refine for_it WJ (fun i σ H' => ∃ o1 o2, σ = [some (.ref a), some (.ref b), o1, o2] ∧ Same H1 H') ⟨none, none, rfl, Same.refl _⟩ (fun i σ H' _ ⟨o1, o2, _, s'⟩ => hqv.mono (hid_same s')) ?_ ?_
    · rintro i x σ H2 H2' hi ⟨o1, o2, rfl, s2⟩ ⟨Tp, y1, y2, rfl, nT, rfl, e1, e2⟩
      obtain rfl := Option.some.inj e1
      obtain ⟨sx, hsx, rfl⟩ := sts_at e2
      obtain ⟨H3, s3, h3, e3⟩ := lay (o := .tup [.int (i : Nat), .str sx]) nT
      rw [e3]
      have S13 := s2.trans s3
      have S3 := s1.trans S13
      have mfx := List.mem_of_getElem? hsx
      obtain ⟨q1, hq1, eq1⟩ := List.mem_map.mp (sub _ mfx)
      refine ⟨Tp, _, rfl, SqT.of h3, rfl, _, _, rfl, _, _, rfl, rfl, ?_⟩
      refine ⟨_, rfl, .str sx, .ty "str", .type "str", .type "str", true, rfl, .ty "str", .base (.str sx), kit_ty (by decide +kernel), true, rfl, ?_⟩
      refine iteF ?_
      have hv : valV (lkv ls) (.inr sx : Key) = some (.int (q1.2 : Int)) := valV_lkv lnd (by rw [← eq1]; exact hq1)
      refine ⟨_, rfl, _, rfl, a, some (.int (q1.2 : Int)), rfl, (by rw [← hv]; exact DGet.k (k := .inr sx) (S3 _ _ hL)), _, rfl, ?_⟩
      refine iteF ?_
      refine ⟨_, rfl, _, rfl, _, rfl, _, rfl, ?_⟩
      have hil : i < fx.length := (List.getElem?_eq_some_iff.mp hsx).1
      refine slTo27 (hF.mono S3) i (by rw [sts_len]; omega) fun p H4 s4 h4 => ?_
      have h4' : SqA K H4 p (sts (fx.take i)) := by
        have e : (sts fx).take i = sts (fx.take i) := by unfold sts; rw [List.map_take]
        rw [← e]
        exact h4
      refine ⟨p, sts (fx.take i), rfl, h4', rfl, flat_sts _, _, rfl, ?_⟩
      rw [show (if false = true then !inV (.str sx) (sts (fx.take i)) else inV (.str sx) (sts (fx.take i))) = false from (inV_sts _ _).trans (decide_eq_false (not_in_take fnd hsx))]
      refine iteF ?_
      exact ⟨_, _, rfl, S13.trans s4⟩
    · rintro σ H2 ⟨o1, o2, rfl, s2⟩
      exact q _ (s1.trans s2)
theorem ok_ckC2 {f : Addr} {fd : FuncData} (F : Fun K "_check_commuting" "_check_commuting" sCkC f fd) (T : Bl mg) (IL : Fns P w K mg base "is_list" 1 ["thing"] (spIsL K)) : FnOk P w K mg base CX0 2 f fd ["letters", "fixed", "commuting"] (spCkC2 K) := by
  refine F.ok scCkC (fun vs H Q E h => ?_) (fun cdv A outer s H vs Q E hr h => ?_)
  · obtain ⟨a, b, c, ls, fx, cm, rfl, _⟩ := h
    rfl
  · obtain ⟨a, b, c, ls, fx, cm, rfl, hL, lnd, hF, hC, cnd, sub, c2, q⟩ := h
    have hu := hu_of hr
    refine ⟨_, pss_cons (ps_if (pt_not (pt_val (pe_fn IL hr (by decide) rfl (pa_cons (pv 2) (pa_nil))))) (pss_one ps_never) (pss_nil)) (pss_one (ps_for PassesOwn.never rfl (pi_enumW rfl T.enum (pa_cons (pv 2) (pa_nil))) (pg_tup rfl (pgs_cons (pg_name (i := 3) scCkC.nd rfl (.inl rfl)) (pgs_cons (pg_name (i := 4) scCkC.nd rfl (.inl rfl)) (pgs_nil)))) (pss_one (ps_if (PW.pt (pw_or (pt_cmpR op_notIn_seq (pv 4) (pv 1) (by rfl)) (pw_or (pt_cmpR op_ne (pe_dget hu (pv 0) (pv 4) (fun _ _ => rfl)) (pe_int) (nomark _)) (pw_or1 (pt_cmpR op_in_seq (pv 4) (pe_slice sl_any (pv 2) po_none (po_some (pv 3))) (by rfl)))))) (pss_one ps_never) (pss_nil))))), ?_⟩
    obtain ⟨ty, ht, hty⟩ := tyS hC
    refine ⟨_, rfl, .ref c, _, true, rfl, hty, kit_seq ht, fun H1 s1 => ⟨_, rfl, ?_⟩⟩
    refine iteF ?_
    obtain ⟨kb, hqv⟩ := sqV ((hC.mono s1).mono (fun b o e => hid_to (ps := []) (by simp) e))
    refine ⟨_, rfl, c, sts cm, kb, [], rfl, hqv, fun J WJ => ?_⟩
    refine for_it WJ (fun i σ H' => ∃ o1 o2, σ = [some (.ref a), some (.ref b), some (.ref c), o1, o2] ∧ Same H1 H') ⟨none, none, rfl, Same.refl _⟩ (fun i σ H' _ ⟨o1, o2, _, s'⟩ => hqv.mono (hid_same s')) ?_ ?_
    · rintro i x σ H2 H2' hi ⟨o1, o2, rfl, s2⟩ ⟨Tp, y1, y2, rfl, nT, rfl, e1, e2⟩
      obtain rfl := Option.some.inj e1
      obtain ⟨sx, hsx, rfl⟩ := sts_at e2
      obtain ⟨H3, s3, h3, e3⟩ := lay (o := .tup [.int (i : Nat), .str sx]) nT
      rw [e3]
      have S13 := s2.trans s3
      have S3 := s1.trans S13
      have mcm := List.mem_of_getElem? hsx
      refine ⟨Tp, _, rfl, SqT.of h3, rfl, _, _, rfl, _, _, rfl, rfl, ?_⟩
      refine ⟨_, rfl, _, rfl, b, sts fx, rfl, hF.mono S3, rfl, flat_sts _, _, rfl, ?_⟩
      rw [show (if true = true then !inV (.str sx) (sts fx) else inV (.str sx) (sts fx)) = false from by rw [if_pos rfl, inV_sts, decide_eq_true (sub _ mcm)]; rfl]
      refine iteF ?_
      have hv : valV (lkv ls) (.inr sx : Key) = some (.int ((2 : Nat) : Int)) := valV_lkv lnd (c2 _ mcm)
      refine ⟨_, rfl, _, rfl, a, .int ((2 : Nat) : Int), rfl, (by rw [← hv]; exact DGet.k (k := .inr sx) (S3 _ _ hL)), rfl, _, rfl, ?_⟩
      refine iteNS rfl ?_
      refine ⟨_, rfl, _, rfl, _, rfl, _, rfl, ?_⟩
      have hil : i < cm.length := (List.getElem?_eq_some_iff.mp hsx).1
      refine slTo27 (hC.mono S3) i (by rw [sts_len]; omega) fun p H4 s4 h4 => ?_
      have h4' : SqA K H4 p (sts (cm.take i)) := by
        have e : (sts cm).take i = sts (cm.take i) := by unfold sts; rw [List.map_take]
        rw [← e]
        exact h4
      refine ⟨p, sts (cm.take i), rfl, h4', rfl, flat_sts _, _, rfl, ?_⟩
      rw [show (if false = true then !inV (.str sx) (sts (cm.take i)) else inV (.str sx) (sts (cm.take i))) = false from (inV_sts _ _).trans (decide_eq_false (not_in_take cnd hsx))]
      refine iteF ?_
      exact ⟨_, _, rfl, S13.trans s4⟩
    · rintro σ H2 ⟨o1, o2, rfl, s2⟩
      exact q _ (s1.trans s2)
theorem ok_te2 {f : Addr} {fd : FuncData} (F : Fun K "_is_told_end" "_is_told_end" sTE f fd) (T : Bl mg) (IL : Fns P w K mg base "is_list" 1 ["thing"] (spIsL K)) (NM : Fns P w K mg base "is_name" 1 ["thing"] (spIsNm K)) : FnOk P w K mg base CX0 2 f fd ["thing"] (spTE2 K) := by
  refine F.ok scTE (fun vs H Q E h => ?_) (fun cdv A outer s H vs Q E hr h => ?_)
  · obtain ⟨e, k, n, rfl, _⟩ := h
    rfl
  · obtain ⟨e, k, n, rfl, he, hk, hn, q⟩ := h
    refine ⟨_, pss_cons (ps_if (PW.pt (pw_or (pt_not (pt_val (pe_fn IL hr (by decide) rfl (pa_cons (pv 0) (pa_nil))))) (pw_or1 (pt_cmpR op_ne (pe_callB call_len_seq (by rfl) T.len PySem.boot_len (pa_cons (pv 0) (pa_nil))) (pe_int) (nomark _))))) (pss_one (ps_ret pe_bl)) (pss_nil)) (pss_one (ps_ret (pe_and (pe_cmpR op_in_seq (pe_ix ix_seq (pv 0) (pe_int) (fun _ _ => rfl)) (pe_tup (pa_cons (pe_str) (pa_cons (pe_str) (pa_nil)))) (by rfl)) (pe_one (pe_fn NM hr (by decide) rfl (pa_cons (pe_ix ix_seq (pv 0) (pe_int) (fun _ _ => rfl)) (pa_nil))))))), ?_⟩
    obtain ⟨ty, ht, hty⟩ := tyS he
    refine ⟨_, rfl, .ref e, _, true, rfl, hty, kit_seq ht, fun H1 s1 => ⟨_, rfl, ?_⟩⟩
    refine iteF ?_
    refine ⟨_, rfl, e, _, rfl, he.mono s1, rfl, _, rfl, ?_⟩
    refine iteF ?_
    refine ⟨_, rfl, ixA (he.mono s1) 0 rfl ⟨by show 2 ≤ sizeLine; decide, fun t nt => ?_⟩⟩
    obtain ⟨H2, s2, h2, e2⟩ := lay (o := .tup (sts ["value", "fail"])) nt
    rw [show ([V.str "value", V.str "fail"] : List V) = sts ["value", "fail"] from rfl, e2]
    refine ⟨t, sts ["value", "fail"], rfl, .inr (SqT.of h2), rfl, flat_sts _, true, ?_, ?_⟩
    · rw [show (if false = true then !inV (.str k) (sts ["value", "fail"]) else inV (.str k) (sts ["value", "fail"])) = true from (inV_sts _ _).trans (decide_eq_true (by rcases hk with rfl | rfl <;> decide))]
    · refine iteT ?_
      refine ⟨_, rfl, ixA (he.mono (s1.trans s2)) 1 rfl ⟨_, rfl, .inl ⟨n, rfl, len8 hn, fun H3 s3 => ?_⟩⟩⟩
      rw [hn]
      exact q _ ((s1.trans s2).trans s3)
end
end K39
set_option Elab.async false
set_option linter.all false
set_option maxRecDepth 100000
set_option maxHeartbeats 8000000
namespace GB
open PySem PySem.Spec L2
def tAsk2 (K : PySem.W.Frag) : TE := fun σ H Q => ∃ (x : Str) (v c : Addr) (vals cm : List Str), σ[7]? = some (some (.str x)) ∧ σ[2]? = some (some (.ref c)) ∧ σ[8]? = some (some (.ref v)) ∧ SqA K H c (sts cm) ∧ PlA H v (sts vals) ∧ vals.length ≤ 2 ∧ (∀ x ∈ vals, x ∈ va3) ∧
  ∀ kv H6, Same H H6 → H6 kv = some (.tup (sts (if x ∈ cm then sort2 vals else vals))) → Q (.ref kv) H6
theorem ask_weak2 {K : PySem.W.Frag} (σ : L2.St) (H : Hp) (Q : VK) (h : tAsk2 K σ H Q) : tCB (fun xs H_1 Q => ∃ p ys, xs = [V.ref p] ∧ ((SqL K H_1 p ys ∧ ∀ l, H_1 l = none → Q (.ref l) (upd H_1 l (.tup ys))) ∨ (SqT K H_1 p ys ∧ Q (.ref p) H_1)))
    (tCons (tIf (tTest (tOp (rIn K false) (tVar 7) (tVar 2))) (tCB (rSrtA K) (tCons (tVar 8) tNil)) (tVar 8)) tNil) σ H Q := by
  obtain ⟨x, v, c, vals, cm, h7, h2, h8, hc, hv, l2, v3, q⟩ := h
  refine ⟨_, h7, _, h2, c, sts cm, rfl, hc, rfl, flat_sts _, _, rfl, ?_⟩
  rw [show (if false = true then !inV (.str x) (sts cm) else inV (.str x) (sts cm)) = decide (x ∈ cm) from inV_sts _ _]
  by_cases m : x ∈ cm
  · rw [decide_eq_true m]
    refine iteT ?_
    refine ⟨_, h8, srtA hv.sq (by omega) fun ys p hperm hsrt np => ?_⟩
    obtain ⟨H1, s1, h1, e1⟩ := lay (o := .lst (sts ys)) np
    rw [e1]
    refine ⟨p, sts ys, rfl, .inl ⟨SqL.of h1, fun l nl => ?_⟩⟩
    obtain ⟨H2, s2, h2, e2⟩ := lay (o := .tup (sts ys)) nl
    rw [e2]
    exact q l H2 (s1.trans s2) (by rw [if_pos m, ← sort2_of hperm hsrt l2 v3]; exact h2)
  · rw [decide_eq_false m]
    refine iteF ?_
    exact ⟨_, h8, v, sts vals, rfl, tupP hv fun l H' s' h' => q l H' s' (by rw [if_neg m]; exact h')⟩
def tTupV (k : Nat) : TE := fun σ H Q => ∃ (p : Addr) (ys : List V), σ[k]? = some (some (.ref p)) ∧ PlA H p ys ∧ ∀ l H', Same H H' → H' l = some (.tup ys) → Q (.ref l) H'
theorem tupV_weak {K : PySem.W.Frag} (k : Nat) (σ : L2.St) (H : Hp) (Q : VK) (h : tTupV k σ H Q) : tCB (fun xs H_1 Q => ∃ p ys, xs = [V.ref p] ∧ ((SqL K H_1 p ys ∧ ∀ l, H_1 l = none → Q (.ref l) (upd H_1 l (.tup ys))) ∨ (SqT K H_1 p ys ∧ Q (.ref p) H_1)))
    (tCons (tVar k) tNil) σ H Q := by
  obtain ⟨p, ys, hk, hp, q⟩ := h
  exact ⟨_, hk, p, ys, rfl, tupP hp q⟩
end GB
namespace K39
open PySem PySem.Spec L2 GB
def spIsF2 (K : PySem.W.Frag) : Sp := fun vs H Q _ => ∃ (a b t : Addr) (ls : List (Str × Nat)) (fx : List Str) (f : Fact), vs = [.ref a, .ref b, .ref t] ∧ H a = some (.dK (lkv ls)) ∧ (ls.map (·.1)).Nodup ∧ SqA K H b (sts fx) ∧ FactA H f t ∧ f.Ok ls fx ∧ (∀ q ∈ ls, q.2 ≤ 2) ∧ ∀ H', Same H H' → Q (.bl true) H'
def spFT2 (K : PySem.W.Frag) : Sp := fun vs H Q _ => ∃ (a b c d : Addr) (g : GD), vs = [.ref a, .ref b, .ref c, .ref d] ∧ H a = some (.dK (lkv g.letters)) ∧ SqA K H b (sts g.fixed) ∧ SqA K H c (sts g.comm) ∧ (∃ ts : List Addr, SqA K H d (ts.map V.ref) ∧ Paired (FactA H) g.facts ts) ∧ g.Fit ∧
  ∀ l H', H l = none → Same H H' → FactsAt H' l g.facts → Q (.ref l) H'
section
variable {P : Program} {w : World} {K : PySem.W.Frag} {mg : Str → Option Value} {base : Heap}
theorem ok_isF2 {f : Addr} {fd : FuncData} (F : Fun K "_is_fact" "_is_fact" sIsF f fd) (T : Bl mg) (IL : Fns P w K mg base "is_list" 1 ["thing"] (spIsL K)) (NM : Fns P w K mg base "is_name" 1 ["thing"] (spIsNm K)) (TE : Fns P w K mg base "_is_told_end" 2 ["thing"] (spTE2 K)) :
    FnOk P w K mg base CX0 3 f fd ["letters", "fixed", "thing"] (spIsF2 K) := by
  refine F.ok scIsF (fun vs H Q E h => ?_) (fun cdv A outer s H vs Q E hr h => ?_)
  · obtain ⟨a, b, t, ls, fx, fa, rfl, _⟩ := h
    rfl
  · obtain ⟨a, b, t, ls, fx, fa, rfl, hL, lnd, hF, hA, ok, har, q⟩ := h
    have hu := hu_of hr
    refine ⟨_, pss_cons (ps_if (PW.pt (pw_or (pt_not (pt_val (pe_fn IL hr (by decide) rfl (pa_cons (pv 2) (pa_nil))))) (pw_or1 (pt_cmpR op_ne (pe_callB call_len_seq (by rfl) T.len PySem.boot_len (pa_cons (pv 2) (pa_nil))) (pe_int) (nomark _))))) (pss_one (ps_ret pe_bl)) (pss_nil)) (pss_cons (ps_asg (pv 2) (pg_sqA rfl (pgs_cons (pg_name (i := 3) scIsF.nd rfl (.inl rfl)) (pgs_cons (pg_name (i := 4) scIsF.nd rfl (.inl rfl)) (pgs_cons (pg_name (i := 5) scIsF.nd rfl (.inl rfl)) (pgs_nil)))))) (pss_cons (ps_if (PW.pt (pw_or (pt_cmpR op_notIn_seq (pv 3) (pv 1) (by rfl)) (pw_or (pt_not (pt_val (pe_fn IL hr (by decide) rfl (pa_cons (pv 4) (pa_nil))))) (pw_or1 (pt_cmpR op_ne (pe_callB call_len_seq (by rfl) T.len PySem.boot_len (pa_cons (pv 4) (pa_nil))) (pe_dget hu (pv 0) (pv 3) (fun _ _ => rfl)) (nomark _)))))) (pss_one (ps_ret pe_bl)) (pss_nil)) (pss_one (ps_ret (pe_and (pe_callB (cr_all rfl) (by rfl) T.all (by decide +kernel) (pa_cons (pe_lc (own := [("value", 6)]) (g := gName 6) (tt := tYes) rfl scIsF.nd (pi_seqW (pv 4)) (blkOk_by (own := [("value", 6)]) (N := isfN) (sc := defScope sIsF) (by decide +kernel)) (fun _ _ _ _ _ => pg_name (i := 6) scIsF.nd rfl (.inl rfl)) (fun _ _ _ _ _ => pts_nil) (fun _ _ _ _ _ => pe_fn NM hr (by decide) rfl (pa_cons (pv 6) (pa_nil)))) (pa_nil))) (pe_one (pe_fn TE hr (by decide) rfl (pa_cons (pv 5) (pa_nil))))))))), ?_⟩
    obtain ⟨v, e, ht, hv, he⟩ := hA.ex
    obtain ⟨k, hk, hvl⟩ := ok.len
    obtain ⟨ty, hty0, hty⟩ := tyS ht.sq
    refine ⟨_, rfl, .ref t, _, true, rfl, hty, kit_seq hty0, fun H1 s1 => ⟨_, rfl, ?_⟩⟩
    refine iteF ?_
    refine ⟨_, rfl, t, _, rfl, (ht.mono s1).sq, rfl, _, rfl, ?_⟩
    refine iteF ?_
    refine ⟨_, rfl, t, _, rfl, (ht.mono s1).sq, rfl, _, _, rfl, _, _, rfl, _, _, rfl, rfl, ?_⟩
    refine ⟨_, rfl, _, rfl, b, sts fx, rfl, hF.mono s1, rfl, flat_sts _, _, rfl, ?_⟩
    rw [show (if true = true then !inV (.str fa.x) (sts fx) else inV (.str fa.x) (sts fx)) = false from by rw [if_pos rfl, inV_sts, decide_eq_true ok.x]; rfl]
    refine iteF ?_
    obtain ⟨ty2, hty2, hty3⟩ := tyS (hv.mono s1).sq
    refine ⟨_, rfl, .ref v, _, true, rfl, hty3, kit_seq hty2, fun H2 s2 => ⟨_, rfl, ?_⟩⟩
    refine iteF ?_
    have S2 := s1.trans s2
    have hvv : valV (lkv ls) (.inr fa.x : Key) = some (.int (k : Int)) := valV_lkv lnd hk
    refine ⟨_, rfl, v, sts fa.vals, rfl, (hv.mono S2).sq, _, rfl, _, rfl, a, .int (k : Int), rfl, (by rw [← hvv]; exact DGet.k (k := .inr fa.x) (S2 _ _ hL)), rfl, _, rfl, ?_⟩
    rw [show (!decide (V.int ((sts fa.vals).length : Int) = V.int (k : Int))) = false from by rw [sts_len, hvl, decide_eq_true rfl]; rfl]
    refine iteF ?_
    obtain ⟨kb, hqv⟩ := sqV ((hv.mono S2).sq.mono (fun b o e => hid_to (ps := []) (by simp) e))
    refine ⟨_, rfl, v, sts fa.vals, kb, [], rfl, hqv, fun J WJ D nD => ?_⟩
    refine lc_it WJ (fun i H' => Same H2 H' ∧ H' D = some (.lst ((List.replicate i true).map V.bl))) ⟨same_new nD, upd_same⟩ (fun i H' _ ⟨s', _⟩ => hqv.mono (hid_same s')) ?_ ?_
    · rintro i x H3 H3' hi ⟨s3, h3⟩ ⟨rfl, hx⟩
      obtain ⟨sx, hsx, rfl⟩ := sts_at hx
      have nB : nameB sx = true := (show ∀ x ∈ va3, nameB x = true by decide +kernel) _ (ok.vals _ (List.mem_of_getElem? hsx))
      have hil : i < fa.vals.length := (List.getElem?_eq_some_iff.mp hsx).1
      have kl : k ≤ 2 := har _ hk
      refine ⟨rfl, ?_⟩
      refine ⟨_, rfl, _, rfl, .inl ⟨sx, rfl, len8 nB, fun H4 s4 => ?_⟩⟩
      refine ⟨_, s4 _ _ h3, by rw [List.length_map, List.length_replicate, sizeLine_eq]; omega, fun b o e => ?_, ?_⟩
      · rw [upd_ne (ne_of_none e nD)]; exact s4 _ _ (s3 _ _ e)
      · rw [upd_same, nB, List.replicate_succ', List.map_append]; rfl
    · rintro H3 ⟨s3, h3⟩
      refine ⟨D, _, rfl, SqL.of h3, true, ?_, ?_⟩
      · rw [List.all_replicate]; simp
      · refine iteT ?_
        exact ⟨_, rfl, e, fa.kind, fa.en, rfl, (he.mono (S2.trans s3)).sq, ok.kind, by rcases ok.en with h | h <;> rw [h] <;> decide +kernel, fun H4 s4 => q _ ((S2.trans s3).trans s4)⟩
theorem ok_ft2 {f : Addr} {fd : FuncData} (F : Fun K "_facts_as_told" "_facts_as_told" sFT f fd) (T : Bl mg) (IL : Fns P w K mg base "is_list" 1 ["thing"] (spIsL K)) (ISF : Fns P w K mg base "_is_fact" 3 ["letters", "fixed", "thing"] (spIsF2 K)) :
    FnOk P w K mg base CX0 4 f fd ["letters", "fixed", "commuting", "facts"] (spFT2 K) := by
  refine F.ok scFT (fun vs H Q E h => ?_) (fun cdv A outer s H vs Q E hr h => ?_)
  · obtain ⟨a, b, c, d, g, rfl, _⟩ := h
    rfl
  · obtain ⟨a, b, c, d, g, rfl, hL, hF, hC, ⟨ts, hd, hts⟩, wf, q⟩ := h
    have hu9 : (A.deeper (PyProof.Rows.envOfC "_facts_as_told" (defScope sFT) s.heap.objs.size f cdv)).units + 9 < cLine := by have := hr.un; omega
    refine ⟨_, pss_cons (ps_if (pt_not (pt_val (pe_fn IL hr (by decide) rfl (pa_cons (pv 3) (pa_nil))))) (pss_one ps_never) (pss_nil)) (pss_cons (ps_set (i := 4) scFT.nd rfl (.inl rfl) (pe_dnewN)) (pss_cons (ps_for PassesOwn.never rfl (pi_enumW rfl T.enum (pa_cons (pv 3) (pa_nil))) (pg_tup rfl (pgs_cons (pg_name (i := 5) scFT.nd rfl (.inl rfl)) (pgs_cons (pg_name (i := 6) scFT.nd rfl (.inl rfl)) (pgs_nil)))) (pss_cons (ps_if (pt_not (pt_val (pe_fn ISF hr (by decide) rfl (pa_cons (pv 0) (pa_cons (pv 1) (pa_cons (pv 6) (pa_nil))))))) (pss_one ps_never) (pss_nil)) (pss_cons (ps_asg (pv 6) (pg_sqA rfl (pgs_cons (pg_name (i := 7) scFT.nd rfl (.inl rfl)) (pgs_cons (pg_name (i := 8) scFT.nd rfl (.inl rfl)) (pgs_cons (pg_name (i := 9) scFT.nd rfl (.inl rfl)) (pgs_nil)))))) (pss_cons (ps_set (i := 10) scFT.nd rfl (.inl rfl) (pe_tup (pa_cons (pv 7) (pa_cons (pe_weak (t' := tAsk2 K) (pe_callTy (call_tuple_of) (by rfl) T.tuple (by decide +kernel) (pa_cons (pe_ifExp (pt_cmpR op_in_seq (pv 7) (pv 2) (by rfl)) (pe_callB (cr_srtA) (by rfl) T.sorted (by decide +kernel) (pa_cons (pv 8) (pa_nil))) (pv 8)) (pa_nil))) ask_weak2) (pa_nil))))) (pss_cons (ps_if (pt_cmpR (op_inN hu9) (pv 10) (pv 4) (by rfl)) (pss_one ps_never) (pss_nil)) (pss_one (ps_asg (pe_tup (pa_cons (pv 7) (pa_cons (pe_weak (t' := tTupV 8) (pe_callTy (call_tuple_of) (by rfl) T.tuple (by decide +kernel) (pa_cons (pv 8) (pa_nil))) (tupV_weak 8)) (pa_cons (pe_weak (t' := tTupV 9) (pe_callTy (call_tuple_of) (by rfl) T.tuple (by decide +kernel) (pa_cons (pv 9) (pa_nil))) (tupV_weak 9)) (pa_nil))))) (pg_sub (pv 4) (pv 10) (set_dictN hu9))))))))) (pss_one (ps_ret (pe_callTy ((call_listVN rfl)) (by rfl) T.list (by decide +kernel) (pa_cons (pe_valsN (pv 4)) (pa_nil))))))), ?_⟩
    obtain ⟨ty, hty0, hty⟩ := tyS (K := K) hd
    refine ⟨_, rfl, .ref d, _, true, rfl, hty, kit_seq hty0, fun H1 s1 => ⟨_, rfl, ?_⟩⟩
    refine iteF ?_
    intro D nD
    obtain ⟨H2, s2, h2, e2⟩ := lay (o := ndO P w D []) nD
    have e2' : upd H1 D (ndO (cxOf CX0 P w K mg base ftN "_facts_as_told" (defScope sFT) f cdv A outer s H E).nox.prog (cxOf CX0 P w K mg base ftN "_facts_as_told" (defScope sFT) f cdv A outer s H E).nox.w D []) = H2 := e2
    rw [e2']
    have nDH : H D = none := s1.free nD
    have S2 : Same H (hid [D] H2) := same_hid_new nDH (s1.trans s2)
    have ltd : ts.length = g.facts.length := (Paired.length hts).symm
    obtain ⟨kb, hkv⟩ : ∃ kb, ∀ H', Same H H' → SqV K H' d (ts.map V.ref) kb := hd.elim (fun h => ⟨true, fun H' s => Same.seq s h⟩) (fun h => ⟨false, fun H' s => Same.seqT s h⟩)
    refine ⟨_, rfl, d, ts.map V.ref, kb, [D], rfl, hkv _ S2, fun J WJ => ?_⟩
    refine for_it WJ (fun i σ H' => ∃ (o5 o6 o7 o8 o9 o10 : Option V) (xs : NX) (bs : List Addr), σ = [some (.ref a), some (.ref b), some (.ref c), some (.ref d), some (.ref D), o5, o6, o7, o8, o9, o10] ∧ Same H (hid [D] H') ∧ H' D = some (ndO P w D xs) ∧ NdKeys (hid [D] H') xs ∧
      xs.map (·.1) = (g.facts.take i).map (fun f => nkO (g.asked f)) ∧ xs.map (fun x => x.2.2) = bs.map Value.ref ∧ Paired (FactAt (hid [D] H')) (g.facts.take i) bs) ⟨none, none, none, none, none, none, [], [], rfl, S2, h2, (fun e he => nomatch he), rfl, rfl, .nil⟩ (fun i σ H' _ ⟨_, _, _, _, _, _, _, _, _, S, _⟩ => hkv _ S) ?_ ?_
    · rintro i x σ H3 H3' hi ⟨o5, o6, o7, o8, o9, o10, xs, bs, rfl, S3, h3, k3, e31, e32, p3⟩ ⟨Tp, y1, y2, rfl, nT, rfl, e1, ey⟩
      obtain rfl := Option.some.inj e1
      obtain ⟨t, htt, rfl⟩ : ∃ t, ts[i]? = some t ∧ y2 = V.ref t := by
        have ey : (ts.map V.ref)[i]? = some y2 := ey
        rw [List.getElem?_map] at ey
        cases e : ts[i]? with
        | none => rw [e] at ey; cases ey
        | some y => rw [e] at ey; exact ⟨y, rfl, (Option.some.inj ey).symm⟩
      have hig : i < g.facts.length := by rw [← ltd]; exact (List.getElem?_eq_some_iff.mp htt).1
      have hfi : g.facts[i]? = some g.facts[i] := List.getElem?_eq_getElem hig
      generalize hfa : g.facts[i] = fa at hfi
      have fmem := List.mem_of_getElem? hfi
      obtain ⟨t', ht', hA⟩ : ∃ t', ts[i]? = some t' ∧ FactA H fa t' := paired_at' hts hfi
      obtain rfl : t' = t := by rw [htt] at ht'; exact (Option.some.inj ht').symm
      have ok := wf.fa _ fmem
      obtain ⟨H4, s4, h4, e4⟩ := lay (o := .tup [.int (i : Nat), .ref t']) nT
      rw [e4]
      have S4 : Same H (hid [D] H4) := S3.trans (hid_same s4)
      have S40 : Same H H4 := S4.trans (hid_low _ _)
      refine ⟨Tp, _, rfl, SqT.of h4, rfl, _, _, rfl, _, _, rfl, rfl, ?_⟩
      refine ⟨_, rfl, _, rfl, _, rfl, a, b, t', g.letters, g.fixed, fa, rfl, S40 _ _ hL, wf.nd, hF.mono S40, hA.mono S40, ok, wf.ar, fun H5 s5 => ⟨_, rfl, ?_⟩⟩
      refine iteF ?_
      have S5 : Same H (hid [D] H5) := S4.trans (hid_same s5)
      have S50 : Same H H5 := S5.trans (hid_low _ _)
      obtain ⟨v, e, ht0, hv0, he0⟩ := (hA.mono S50).ex
      refine ⟨_, rfl, t', _, rfl, ht0.sq, rfl, _, _, rfl, _, _, rfl, _, _, rfl, rfl, ?_⟩
      have h5D : H5 D = some (ndO P w D xs) := s5 _ _ (s4 _ _ h3)
      have len2 : fa.vals.length ≤ 2 := by
        obtain ⟨k, hk, e⟩ := ok.len
        have h2 : k ≤ 2 := wf.ar _ hk
        omega
      have hask : g.asked fa = (fa.x, if fa.x ∈ g.comm then sort2 fa.vals else fa.vals) := rfl
      refine ⟨_, rfl, fa.x, v, c, fa.vals, g.comm, rfl, rfl, rfl, hC.mono S50, hv0, len2, ok.vals, fun kv H6 s6 hkv => ?_⟩
      refine ⟨by show 2 ≤ sizeLine; decide, fun ka nka => ?_⟩
      obtain ⟨H7, s7, h7, e7⟩ := lay (o := .tup [.str fa.x, .ref kv]) nka
      rw [e7]
      have S57 : Same H5 H7 := s6.trans s7
      have h7D := S57 _ _ h5D
      have nD7 : ∀ {q : Addr} {o : List V}, H7 q = some (.tup o) → hid [D] H7 q = some (.tup o) := fun h => hid_to (ni1 (ne_of h h7D (fun z => nomatch z))) h
      have k7 : NdKeys (hid [D] H7) xs := k3.mono (hid_same ((s4.trans s5).trans S57))
      have nk7 : NkV (hid [D] H7) (nkO (g.asked fa)) (.ref ka) := by
        rw [hask]
        exact .tup (nD7 h7) (.cons (.text _) (.cons (.tup (nD7 (s7 _ _ hkv)) (nk_txk _)) .nil))
      have nokey : nkO (g.asked fa) ∉ xs.map (·.1) := by
        rw [e31]
        intro m
        obtain ⟨fb, hfb, eb⟩ := List.mem_map.mp m
        have eq := nkO_inj eb
        exact not_in_take_map wf.fd hfi hfb eq
      have hnone := atKey_none nokey
      refine ⟨_, rfl, _, rfl, ka, D, nkO (g.asked fa), xs, rfl, rfl, h7D, k7.mono (hid_low _ _), NkV.mono (hid_low _ _) _ _ nk7, nkO_depth _, _, rfl, ?_⟩
      rw [hnone]
      refine iteF ?_
      have hv7 := hv0.mono S57
      have he7 := he0.mono S57
      refine ⟨_, rfl, v, sts fa.vals, rfl, hv7, fun v2 Hv sv hv2 => ?_⟩
      refine ⟨e, _, rfl, he7.mono sv, fun e2 He se he2 => ?_⟩
      refine ⟨by show 3 ≤ sizeLine; decide, fun b nb => ?_⟩
      obtain ⟨H8, s80, h8, e8⟩ := lay (o := .tup [.str fa.x, .ref v2, .ref e2]) nb
      rw [e8]
      have s8 : Same H7 H8 := (sv.trans se).trans s80
      have h8D := s8 _ _ h7D
      have lxs : xs.length ≤ 6 := by
        have := congrArg List.length e31
        rw [List.length_map, List.length_map, List.length_take] at this
        have := wf.fl
        omega
      have k8 := k7.mono (hid_same s8)
      have nk8 := NkV.mono (hid_same s8) _ _ nk7
      refine ⟨_, rfl, _, rfl, D, ka, b, nkO (g.asked fa), xs, rfl, rfl, rfl, h8D, k8.mono (hid_low _ _), NkV.mono (hid_low _ _) _ _ nk8, nkO_depth _, by omega, ?_⟩
      rw [storedH_new hnone]
      have B8 : Bt [D] H8 (upd H8 D (ndO P w D (xs ++ [(nkO (g.asked fa), ka, Value.ref b)]))) := bt_upd (by simp)
      have S58 : Same (hid [D] H5) (hid [D] (upd H8 D (ndO P w D (xs ++ [(nkO (g.asked fa), ka, Value.ref b)])))) := (hid_same (S57.trans s8)).trans B8
      have bD : b ∉ [D] := ni1 (ne_of_none ((sv.trans se) _ _ h7D) nb).symm
      have hv8 := s80 _ _ (se _ _ hv2)
      have he8 := s80 _ _ he2
      have vD : v2 ∉ [D] := ni1 (ne_of hv8 h8D (fun z => nomatch z))
      have eD : e2 ∉ [D] := ni1 (ne_of he8 h8D (fun z => nomatch z))
      refine ⟨_, _, _, _, _, _, xs ++ [(nkO (g.asked fa), ka, Value.ref b)], bs ++ [b], rfl, S5.trans S58, upd_same, ?_, ?_, ?_, ?_⟩
      · intro en hen
        rcases List.mem_append.mp hen with h | h
        · exact (k8.mono B8) en h
        · rw [List.mem_singleton.mp h]
          exact ⟨NkV.mono B8 _ _ nk8, nkO_depth _⟩
      · rw [take_at hfi, List.map_append, List.map_append, e31]; rfl
      · rw [List.map_append, List.map_append, e32]; rfl
      · rw [take_at hfi]
        exact paired_app (Paired.mapP p3 fun _ _ r => r.mono ((hid_same (s4.trans s5)).trans S58)) (.cons ⟨v2, e2, B8 _ _ (hid_to bD h8), B8 _ _ (hid_to vD hv8), B8 _ _ (hid_to eD he8)⟩ .nil)
    · rintro σ H3 ⟨o5, o6, o7, o8, o9, o10, xs, bs, rfl, S3, h3, k3, e31, e32, p3⟩
      have lbs : bs.length = g.facts.length := by rw [← Paired.length p3, List.length_take]; rw [List.length_map, ltd]; omega
      refine ⟨_, rfl, D, xs, rfl, h3, fun vw nvw => ?_⟩
      obtain ⟨H4, s4, h4, e4⟩ := lay (o := valsO vw D) nvw
      rw [e4]
      refine ⟨vw, D, xs, bs, rfl, h4, s4 _ _ h3, e32, by rw [lbs]; have := wf.fl; omega, fun l nl => ?_⟩
      obtain ⟨H5, s5, h5, e5⟩ := lay (o := .lst (bs.map V.ref)) nl
      rw [e5]
      have S5 : Same H H5 := (S3.trans (hid_low _ _)).trans (s4.trans s5)
      rw [List.take_of_length_le (by rw [List.length_map, ltd]; exact Nat.le_refl _)] at p3
      exact q l H5 (((S3.trans (hid_low _ _)).trans s4).free nl) S5 ⟨bs, h5, Paired.mapP p3 fun _ _ r => r.mono ((hid_low _ _).trans (s4.trans s5))⟩
end
end K39
set_option Elab.async false
set_option linter.all false
set_option maxRecDepth 100000
set_option maxHeartbeats 8000000
namespace GB
open PySem PySem.Spec L2
theorem sqA_off {K : PySem.W.Frag} {H : Hp} {a b : Addr} {xs : List V} (h1 : ∀ ys, H a ≠ some (.lst ys)) (h2 : ∀ ys, H a ≠ some (.tup ys)) (h3 : ∀ o ys, H a ≠ some (.frz o (.lst ys))) (h4 : ∀ o ys, H a ≠ some (.frz o (.tup ys))) (h : SqA K H b xs) : SqA K (hid [a] H) b xs := by
  rcases h with ((h | ⟨o, h⟩) | h) | ((h | ⟨o, h⟩) | h)
  · exact .inl (.inl (.inl (hid_to (fun m => h1 xs (by rw [← List.mem_singleton.mp m]; exact h)) h)))
  · exact .inl (.inl (.inr ⟨o, hid_to (fun m => h3 o xs (by rw [← List.mem_singleton.mp m]; exact h)) h⟩))
  · exact .inl (.inr h)
  · exact .inr (.inl (.inl (hid_to (fun m => h2 xs (by rw [← List.mem_singleton.mp m]; exact h)) h)))
  · exact .inr (.inl (.inr ⟨o, hid_to (fun m => h4 o xs (by rw [← List.mem_singleton.mp m]; exact h)) h⟩))
  · exact .inr (.inr h)
/-- [x for x in letters if x in fixed] -/
def tSel2 (K : PySem.W.Frag) (j : Nat) : TE := fun σ H Q => ∃ (s0 : Option V) (a : Addr) (s2 s3 s4 s5 s6 s7 : Option V) (b : Addr) (ls : List (Str × Nat)) (fx : List Str), σ = [s0, some (.ref a), s2, s3, s4, s5, s6, s7] ∧ ((j = 2 ∧ s2 = some (.ref b)) ∨ (j = 3 ∧ s3 = some (.ref b))) ∧ H a = some (.dK (lkv ls)) ∧ SqA K H b (sts fx) ∧ ls.length ≤ 1000 ∧
  ∀ l H', H l = none → Same H H' → H' l = some (.lst (sts ((ls.map (·.1)).filter fun x => decide (x ∈ fx)))) → Q (.ref l) H'

theorem sel_weakA {K : PySem.W.Frag} (σ : L2.St) (H : Hp) (Q : VK) (h : tSel2 K 2 σ H Q) : tLockE (tLc (iKeys (tVar 1)) (gName 5) (tTest (tOp (rIn K false) (tVar 5) (tVar 2))) (tVar 5) [5]) σ H Q := by
  obtain ⟨s0, a, s2, s3, s4, s5, s6, s7, b, ls, fx, rfl, hj, hL, hF, hz, q⟩ := h
  obtain rfl : s2 = some (.ref b) := by
    rcases hj with h | h
    · first | exact h.2 | exact absurd h.1 (by decide)
    · first | exact h.2 | exact absurd h.1 (by decide)
  refine ⟨a, _, hL, trivial, fun od => ?_⟩
  obtain ⟨Hl, hlL, hlo, el⟩ : ∃ Hl, Hl a = some (.frz od (.dK (lkv ls))) ∧ (∀ b, b ≠ a → Hl b = H b) ∧ upd H a (.frz od (.dK (lkv ls))) = Hl := ⟨_, upd_same, fun b hb => upd_ne hb, rfl⟩
  rw [el]
  have hFl : SqA K Hl b (sts fx) := (sqA_off (fun ys z => by rw [hL] at z; cases z) (fun ys z => by rw [hL] at z; cases z) (fun o ys z => by rw [hL] at z; cases z) (fun o ys z => by rw [hL] at z; cases z) hF).mono (fun b' o e => by obtain ⟨e1, m⟩ := hid_in e; rw [hlo b' (fun z => m (by simp [z]))]; exact e1)
  refine ⟨_, rfl, a, od, rfl, .inl ⟨_, hlL, fun D nD => ?_⟩⟩
  refine lc_it walk_keys (fun i H' => Same Hl H' ∧ H' D = some (.lst (sts (((ls.map (·.1)).take i).filter fun x => decide (x ∈ fx))))) ⟨same_new nD, upd_same⟩ (fun i H' _ ⟨s', _⟩ => s' _ _ hlL) ?_ ?_
  · rintro i x H1 H1' hi ⟨s1, hD⟩ ⟨rfl, k, v, hk, rfl⟩
    obtain ⟨⟨sx, m⟩, hq, eq⟩ : ∃ q, ls[i]? = some q ∧ (Sum.inr q.1, V.int q.2) = (k, v) := by
      unfold lkv at hk
      rw [List.getElem?_map] at hk
      cases e : ls[i]? with
      | none => rw [e] at hk; cases hk
      | some q => rw [e] at hk; exact ⟨q, rfl, Option.some.inj hk⟩
    obtain ⟨rfl, rfl⟩ := Prod.mk.inj eq
    have hkx : (ls.map (·.1))[i]? = some sx := by rw [List.getElem?_map, hq]; rfl
    have ec := take_at hkx
    refine ⟨rfl, ?_⟩
    refine ⟨_, rfl, _, rfl, b, sts fx, rfl, hFl.mono s1, rfl, flat_sts _, _, rfl, ?_⟩
    rw [show (if false = true then !inV (kV (Sum.inr sx)) (sts fx) else inV (kV (Sum.inr sx)) (sts fx)) = decide (sx ∈ fx) from inV_sts _ _]
    rw [ec, List.filter_append]
    by_cases c : sx ∈ fx
    · rw [decide_eq_true c]
      refine ⟨_, rfl, _, hD, ?_, fun b o e => ?_, ?_⟩
      · rw [sts_len, sizeLine_eq]
        have h1 := List.length_filter_le (fun x => decide (x ∈ fx)) ((ls.map (·.1)).take i)
        rw [List.length_take, List.length_map] at h1
        omega
      · rw [upd_ne (ne_of_none e nD)]; exact s1 _ _ e
      · rw [upd_same, List.filter_cons_of_pos (by simp [c]), List.filter_nil]
        unfold sts
        rw [List.map_append]
        rfl
    · rw [decide_eq_false c]
      refine ⟨s1, ?_⟩
      rw [List.filter_cons_of_neg (by simp [c]), List.filter_nil, List.append_nil]
      exact hD
  · rintro H1' ⟨s1', hD1'⟩
    refine ⟨s1' _ _ hlL, ?_⟩
    have DL : D ≠ a := fun e => by rw [e, hlL] at nD; cases nD
    have nDH : H D = none := by rw [← hlo D DL]; exact nD
    rw [List.take_of_length_le (by rw [List.length_map]; show ls.length ≤ (lkv ls).length; unfold lkv; rw [List.length_map]; exact Nat.le_refl _)] at hD1'
    refine q D _ nDH (fun b o e => ?_) (by rw [upd_ne DL]; exact hD1')
    by_cases hb : b = a
    · subst hb; rw [upd_same, ← e, hL]
    · rw [upd_ne hb]; exact s1' _ _ ((hlo b hb).trans e)

theorem sel_weakB {K : PySem.W.Frag} (σ : L2.St) (H : Hp) (Q : VK) (h : tSel2 K 3 σ H Q) : tLockE (tLc (iKeys (tVar 1)) (gName 5) (tTest (tOp (rIn K false) (tVar 5) (tVar 3))) (tVar 5) [5]) σ H Q := by
  obtain ⟨s0, a, s2, s3, s4, s5, s6, s7, b, ls, fx, rfl, hj, hL, hF, hz, q⟩ := h
  obtain rfl : s3 = some (.ref b) := by
    rcases hj with h | h
    · first | exact h.2 | exact absurd h.1 (by decide)
    · first | exact h.2 | exact absurd h.1 (by decide)
  refine ⟨a, _, hL, trivial, fun od => ?_⟩
  obtain ⟨Hl, hlL, hlo, el⟩ : ∃ Hl, Hl a = some (.frz od (.dK (lkv ls))) ∧ (∀ b, b ≠ a → Hl b = H b) ∧ upd H a (.frz od (.dK (lkv ls))) = Hl := ⟨_, upd_same, fun b hb => upd_ne hb, rfl⟩
  rw [el]
  have hFl : SqA K Hl b (sts fx) := (sqA_off (fun ys z => by rw [hL] at z; cases z) (fun ys z => by rw [hL] at z; cases z) (fun o ys z => by rw [hL] at z; cases z) (fun o ys z => by rw [hL] at z; cases z) hF).mono (fun b' o e => by obtain ⟨e1, m⟩ := hid_in e; rw [hlo b' (fun z => m (by simp [z]))]; exact e1)
  refine ⟨_, rfl, a, od, rfl, .inl ⟨_, hlL, fun D nD => ?_⟩⟩
  refine lc_it walk_keys (fun i H' => Same Hl H' ∧ H' D = some (.lst (sts (((ls.map (·.1)).take i).filter fun x => decide (x ∈ fx))))) ⟨same_new nD, upd_same⟩ (fun i H' _ ⟨s', _⟩ => s' _ _ hlL) ?_ ?_
  · rintro i x H1 H1' hi ⟨s1, hD⟩ ⟨rfl, k, v, hk, rfl⟩
    obtain ⟨⟨sx, m⟩, hq, eq⟩ : ∃ q, ls[i]? = some q ∧ (Sum.inr q.1, V.int q.2) = (k, v) := by
      unfold lkv at hk
      rw [List.getElem?_map] at hk
      cases e : ls[i]? with
      | none => rw [e] at hk; cases hk
      | some q => rw [e] at hk; exact ⟨q, rfl, Option.some.inj hk⟩
    obtain ⟨rfl, rfl⟩ := Prod.mk.inj eq
    have hkx : (ls.map (·.1))[i]? = some sx := by rw [List.getElem?_map, hq]; rfl
    have ec := take_at hkx
    refine ⟨rfl, ?_⟩
    refine ⟨_, rfl, _, rfl, b, sts fx, rfl, hFl.mono s1, rfl, flat_sts _, _, rfl, ?_⟩
    rw [show (if false = true then !inV (kV (Sum.inr sx)) (sts fx) else inV (kV (Sum.inr sx)) (sts fx)) = decide (sx ∈ fx) from inV_sts _ _]
    rw [ec, List.filter_append]
    by_cases c : sx ∈ fx
    · rw [decide_eq_true c]
      refine ⟨_, rfl, _, hD, ?_, fun b o e => ?_, ?_⟩
      · rw [sts_len, sizeLine_eq]
        have h1 := List.length_filter_le (fun x => decide (x ∈ fx)) ((ls.map (·.1)).take i)
        rw [List.length_take, List.length_map] at h1
        omega
      · rw [upd_ne (ne_of_none e nD)]; exact s1 _ _ e
      · rw [upd_same, List.filter_cons_of_pos (by simp [c]), List.filter_nil]
        unfold sts
        rw [List.map_append]
        rfl
    · rw [decide_eq_false c]
      refine ⟨s1, ?_⟩
      rw [List.filter_cons_of_neg (by simp [c]), List.filter_nil, List.append_nil]
      exact hD
  · rintro H1' ⟨s1', hD1'⟩
    refine ⟨s1' _ _ hlL, ?_⟩
    have DL : D ≠ a := fun e => by rw [e, hlL] at nD; cases nD
    have nDH : H D = none := by rw [← hlo D DL]; exact nD
    rw [List.take_of_length_le (by rw [List.length_map]; show ls.length ≤ (lkv ls).length; unfold lkv; rw [List.length_map]; exact Nat.le_refl _)] at hD1'
    refine q D _ nDH (fun b o e => ?_) (by rw [upd_ne DL]; exact hD1')
    by_cases hb : b = a
    · subst hb; rw [upd_same, ← e, hL]
    · rw [upd_ne hb]; exact s1' _ _ ((hlo b hb).trans e)

def tMov2 (K : PySem.W.Frag) : TE := fun σ H Q => ∃ (s0 : Option V) (a : Addr) (s3 s4 s5 s6 s7 : Option V) (b : Addr) (ls : List (Str × Nat)) (fx : List Str), σ = [s0, some (.ref a), some (.ref b), s3, s4, s5, s6, s7] ∧ H a = some (.dK (lkv ls)) ∧ SqA K H b (sts fx) ∧ (ls.map (·.1)).Nodup ∧ ls.length ≤ 1000 ∧
  ∀ l H', H l = none → Same H H' → H' l = some (.dK (trueK ((ls.map (·.1)).filter fun x => !decide (x ∈ fx)))) → Q (.ref l) H'
theorem mov_weakA {K : PySem.W.Frag} (σ : L2.St) (H : Hp) (Q : VK) (h : tMov2 K σ H Q) : tLockE (tDc (iKeys (tVar 1)) (gName 5) (tTest (tOp (rIn K true) (tVar 5) (tVar 2))) (tVar 5) (tC (.bl true)) [5]) σ H Q := by
  obtain ⟨s0, a, s3, s4, s5, s6, s7, b, ls, fx, rfl, hL, hF, nd, hz, q⟩ := h
  refine ⟨a, _, hL, trivial, fun od => ?_⟩
  obtain ⟨Hl, hlL, hlo, el⟩ : ∃ Hl, Hl a = some (.frz od (.dK (lkv ls))) ∧ (∀ b, b ≠ a → Hl b = H b) ∧ upd H a (.frz od (.dK (lkv ls))) = Hl := ⟨_, upd_same, fun b hb => upd_ne hb, rfl⟩
  rw [el]
  have hFl : SqA K Hl b (sts fx) := (sqA_off (fun ys z => by rw [hL] at z; cases z) (fun ys z => by rw [hL] at z; cases z) (fun o ys z => by rw [hL] at z; cases z) (fun o ys z => by rw [hL] at z; cases z) hF).mono (fun b' o e => by obtain ⟨e1, m⟩ := hid_in e; rw [hlo b' (fun z => m (by simp [z]))]; exact e1)
  refine ⟨_, rfl, a, od, rfl, .inl ⟨_, hlL, fun D nD => dcK_it walk_keys (fun i H' => Same Hl H' ∧ H' D = some (.dK (trueK (((ls.map (·.1)).take i).filter fun x => !decide (x ∈ fx))))) ⟨same_new nD, upd_same⟩ (fun i H' _ ⟨s', _⟩ => s' _ _ hlL) ?_ ?_⟩⟩
  · rintro i x H1 H1' hi ⟨s1, hD⟩ ⟨rfl, k, v, hk, rfl⟩
    obtain ⟨⟨sx, m⟩, hq, eq⟩ : ∃ q, ls[i]? = some q ∧ (Sum.inr q.1, V.int q.2) = (k, v) := by
      unfold lkv at hk
      rw [List.getElem?_map] at hk
      cases e : ls[i]? with
      | none => rw [e] at hk; cases hk
      | some q => rw [e] at hk; exact ⟨q, rfl, Option.some.inj hk⟩
    obtain ⟨rfl, rfl⟩ := Prod.mk.inj eq
    have hkx : (ls.map (·.1))[i]? = some sx := by rw [List.getElem?_map, hq]; rfl
    have ec := take_at hkx
    refine ⟨rfl, ?_⟩
    refine ⟨_, rfl, _, rfl, b, sts fx, rfl, hFl.mono s1, rfl, flat_sts _, _, rfl, ?_⟩
    rw [show (if true = true then !inV (kV (Sum.inr sx)) (sts fx) else inV (kV (Sum.inr sx)) (sts fx)) = !decide (sx ∈ fx) from congrArg (!·) (inV_sts _ _)]
    rw [ec, List.filter_append]
    by_cases c : sx ∈ fx
    · rw [decide_eq_true c]
      refine ⟨s1, ?_⟩
      rw [List.filter_cons_of_neg (by simp [c]), List.filter_nil, List.append_nil]
      exact hD
    · rw [decide_eq_false c]
      have hn : sx ∉ ((ls.map (·.1)).take i).filter fun x => !decide (x ∈ fx) := fun z => not_in_take nd hkx (List.mem_filter.mp z).1
      refine ⟨_, rfl, _, .inr sx, rfl, hD, ?_, ?_⟩
      · unfold trueK
        rw [List.length_map, sizeLine_eq]
        have h1 := List.length_filter_le (fun x => !decide (x ∈ fx)) ((ls.map (·.1)).take i)
        rw [List.length_take, List.length_map] at h1
        omega
      · refine ⟨fun b o e => ?_, ?_⟩
        · rw [upd_ne (ne_of_none e nD)]; exact s1 _ _ e
        · rw [upd_same, putTrue hn, List.filter_cons_of_pos (by simp [c]), List.filter_nil]
  · rintro H1' ⟨s1', hD1'⟩
    refine ⟨s1' _ _ hlL, ?_⟩
    have DL : D ≠ a := fun e => by rw [e, hlL] at nD; cases nD
    have nDH : H D = none := by rw [← hlo D DL]; exact nD
    rw [List.take_of_length_le (by rw [List.length_map]; show ls.length ≤ (lkv ls).length; unfold lkv; rw [List.length_map]; exact Nat.le_refl _)] at hD1'
    refine q D _ nDH (fun b o e => ?_) (by rw [upd_ne DL]; exact hD1')
    by_cases hb : b = a
    · subst hb; rw [upd_same, ← e, hL]
    · rw [upd_ne hb]; exact s1' _ _ ((hlo b hb).trans e)
end GB
namespace K39
open PySem PySem.Spec L2 GB
def spGI2 (K : PySem.W.Frag) (C : Addr) : Sp := fun vs H Q _ => ∃ (x dx a b c d : Addr) (g : GD), vs = [.ref x, .ref a, .ref b, .ref c, .ref d] ∧ H x = some (.ins C dx []) ∧ H a = some (.dK (lkv g.letters)) ∧ SqA K H b (sts g.fixed) ∧ SqA K H c (sts g.comm) ∧ (∃ ts : List Addr, SqA K (hid [x] H) d (ts.map V.ref) ∧ Paired (FactA (hid [x] H)) g.facts ts) ∧ g.Fit ∧
  ∀ H', Bt [x] H H' → (∀ N : List Addr, (∀ n ∈ N, n ≠ x ∧ H n ≠ none ∧ ∀ ts, H n ≠ some (.tup ts)) → IsGr2 C (hid N H') x g) → Q .non H'
section
variable {P : Program} {w : World} {K : PySem.W.Frag} {mg : Str → Option Value} {base : Heap} {C : Addr}
theorem ok_gi2 {f : Addr} {fd : FuncData} {dvs : List V} {kws : List (Str × V)} (F : FunD K "__init__" "Ground.__init__" (defArgs sGI) (defBody sGI) (defScope sGI) dvs kws f fd) (T : Bl mg) (cl : Cls K C) (n1 : NoAttr K C "_facts") (n2 : NoAttr K C "_letters") (n3 : NoAttr K C "_order") (n4 : NoAttr K C "_fixed") (n5 : NoAttr K C "_commuting") (n6 : NoAttr K C "moving") (n7 : NoAttr K C "commutes") (n8 : NoAttr K C "known_ends") (n9 : NoAttr K C "places")
    (CL : Fns P w K mg base "_check_letters" 2 ["letters"] spCkL) (CF : Fns P w K mg base "_check_fixed" 2 ["letters", "fixed"] (spCkF2 K)) (CC : Fns P w K mg base "_check_commuting" 2 ["letters", "fixed", "commuting"] (spCkC2 K))
    (FT : Fns P w K mg base "_facts_as_told" 4 ["letters", "fixed", "commuting", "facts"] (spFT2 K)) (EB : Fns P w K mg base "_ends_by_values" 2 ["facts", "commutes"] (spEbv P w)) (PM : Fns P w K mg base "_all_permissions" 1 ["letters", "moving"] spPerm) : FnOk P w K mg base CX0 5 f fd ["self", "letters", "fixed", "commuting", "facts"] (spGI2 K C) := by
  refine FX.FunD.ok0 F scGI (fun vs H Q E h => ?_) (fun cdv A outer s H vs Q E hr h => ?_)
  · obtain ⟨x, dx, a, b, c, d, g, rfl, _⟩ := h
    rfl
  · obtain ⟨x, dx, a, b, c, d, g, rfl, hx, hL, hF, hC, ⟨tsA, hAd, hAp⟩, wf, q⟩ := h
    have offx : ∀ {b' : Addr} {ys : List V}, SqA K H b' ys → SqA K (hid [x] H) b' ys := fun h => sqA_off (fun ys z => by rw [hx] at z; cases z) (fun ys z => by rw [hx] at z; cases z) (fun o ys z => by rw [hx] at z; cases z) (fun o ys z => by rw [hx] at z; cases z) h
    have hA2 : ∀ {J : Hp}, Same H J → ∃ ts : List Addr, SqA K J d (ts.map V.ref) ∧ Paired (FactA J) g.facts ts := fun {J} s => ⟨tsA, hAd.mono ((hid_low _ _).trans s), Paired.mapP hAp fun _ _ r => r.mono ((hid_low _ _).trans s)⟩
    refine ⟨_, pss_cons (ps_expr (pe_fn CL hr (by decide) rfl (pa_cons (pv 1) (pa_nil)))) (pss_cons (ps_expr (pe_fn CF hr (by decide) rfl (pa_cons (pv 1) (pa_cons (pv 2) (pa_nil))))) (pss_cons (ps_expr (pe_fn CC hr (by decide) rfl (pa_cons (pv 1) (pa_cons (pv 2) (pa_cons (pv 3) (pa_nil)))))) (pss_cons (ps_fld (pv 0) (pe_fn FT hr (by decide) rfl (pa_cons (pv 1) (pa_cons (pv 2) (pa_cons (pv 3) (pa_cons (pv 4) (pa_nil)))))) rfl) (pss_cons (ps_fld (pv 0) (pe_callTy (call_dictD) (by rfl) T.dict (by decide +kernel) (pa_cons (pv 1) (pa_nil))) rfl) (pss_cons (ps_fld (pv 0) (pe_callTy ((call_listD rfl)) (by rfl) T.list (by decide +kernel) (pa_cons (pv 1) (pa_nil))) rfl) (pss_cons (ps_fld (pv 0) (pe_weak (t' := tSel2 K 2) (pe_lock (pe_lc (own := [("letter", 5)]) (g := gName 5) (tt := tTest (tOp (rIn K false) (tVar 5) (tVar 2))) rfl scGI.nd (pi_keys (pv 1)) (blkOk_by (own := [("letter", 5)]) (N := giN) (sc := defScope sGI) (by decide +kernel)) (fun _ _ _ _ _ => pg_name (i := 5) scGI.nd rfl (.inl rfl)) (fun _ _ _ _ _ => pts_one (pt_cmpR op_in_seq (pv 5) (pv 2) (by rfl))) (fun _ _ _ _ _ => pv 5))) sel_weakA) rfl) (pss_cons (ps_fld (pv 0) (pe_weak (t' := tSel2 K 3) (pe_lock (pe_lc (own := [("letter", 5)]) (g := gName 5) (tt := tTest (tOp (rIn K false) (tVar 5) (tVar 3))) rfl scGI.nd (pi_keys (pv 1)) (blkOk_by (own := [("letter", 5)]) (N := giN) (sc := defScope sGI) (by decide +kernel)) (fun _ _ _ _ _ => pg_name (i := 5) scGI.nd rfl (.inl rfl)) (fun _ _ _ _ _ => pts_one (pt_cmpR op_in_seq (pv 5) (pv 3) (by rfl))) (fun _ _ _ _ _ => pv 5))) sel_weakB) rfl) (pss_cons (ps_fld (pv 0) (pe_weak (t' := tMov2 K) (pe_lock (pe_dc (own := [("letter", 5)]) (g := gName 5) (tt := tTest (tOp (rIn K true) (tVar 5) (tVar 2))) (tk := tVar 5) (tv := tC (.bl true)) rfl scGI.nd (pi_keys (pv 1)) (blkOk_by (own := [("letter", 5)]) (N := giN) (sc := defScope sGI) (by decide +kernel)) (fun _ _ _ _ _ => pg_name (i := 5) scGI.nd rfl (.inl rfl)) (fun _ _ _ _ _ => pts_one (pt_cmpR op_notIn_seq (pv 5) (pv 2) (by rfl))) (fun _ _ _ _ _ => pv 5) (fun _ _ _ _ _ => pe_bl))) mov_weakA) rfl) (pss_cons (ps_fld (pv 0) (pe_dc (own := [("letter", 5)]) (g := gName 5) (tt := tYes) (tk := tVar 5) (tv := tC (.bl true)) rfl scGI.nd (pi_seqW (pe_fld (pv 0) rfl)) (blkOk_by (own := [("letter", 5)]) (N := giN) (sc := defScope sGI) (by decide +kernel)) (fun _ _ _ _ _ => pg_name (i := 5) scGI.nd rfl (.inl rfl)) (fun _ _ _ _ _ => pts_nil) (fun _ _ _ _ _ => pv 5) (fun _ _ _ _ _ => pe_bl)) rfl) (pss_cons (ps_fld (pv 0) (pe_fn EB hr (by decide) rfl (pa_cons (pe_fld (pv 0) rfl) (pa_cons (pe_fld (pv 0) rfl) (pa_nil)))) rfl) (pss_one (ps_fld (pv 0) (DictT.pe_dcT (own := [("place", 6), ("row", 7)]) (g := gTup K 2 (gCons (gName 6) (gCons (gName 7) gNil))) (tt := tYes) (tk := tVar 7) (tv := tVar 6) .t (hu_of hr) rfl scGI.nd (pi_enumW rfl T.enum (pa_cons (pe_fn PM hr (by decide) rfl (pa_cons (pe_fld (pv 0) rfl) (pa_cons (pe_callTy (call_listD rfl) (by rfl) T.list (by decide +kernel) (pa_cons (pe_fld (pv 0) rfl) (pa_nil))) (pa_nil)))) pa_nil)) (blkOk_by (own := [("place", 6), ("row", 7)]) (N := giN) (sc := defScope sGI) (by decide +kernel)) (fun _ _ _ _ _ => pg_tup rfl (pgs_cons (pg_name (i := 6) scGI.nd rfl (.inl rfl)) (pgs_cons (pg_name (i := 7) scGI.nd rfl (.inl rfl)) (pgs_nil)))) (fun _ _ _ _ _ => pts_nil) (fun _ _ _ _ _ => pv 7) (fun _ _ _ _ _ => pv 6)) rfl)))))))))))), ?_⟩
    have nm : ∀ x ∈ nmA, nameB x = true := by decide +kernel
    refine ⟨_, rfl, a, g.letters, rfl, hL, wf.ne, fun q hq => ⟨wf.nm q hq, wf.ar q hq⟩, fun H1 s1 => ?_⟩
    refine ⟨_, rfl, _, rfl, a, b, g.letters, g.fixed, rfl, s1 _ _ hL, wf.nd, hF.mono s1, wf.fx, wf.fs, fun H2 s2 => ?_⟩
    have S2 := s1.trans s2
    refine ⟨_, rfl, _, rfl, _, rfl, a, b, c, g.letters, g.fixed, g.comm, rfl, S2 _ _ hL, wf.nd, hF.mono S2, hC.mono S2, wf.cm, wf.cs, wf.c2, fun H3 s3 => ?_⟩
    have S3 := S2.trans s3
    refine ⟨_, rfl, _, rfl, _, rfl, _, rfl, a, b, c, d, g, rfl, S3 _ _ hL, hF.mono S3, hC.mono S3, hA2 S3, wf, fun l1 H4 nl1 s4 hl1 => ?_⟩
    have S4 := S3.trans s4
    have xa : a ≠ x := ne_of hL hx (fun z => nomatch z)
    refine ⟨_, rfl, x, C, dx, _, rfl, S4 _ _ hx, cl, n1, by show 0 < 1000; decide, ?_⟩
    obtain ⟨H5, b5, h5, B5, e5⟩ : ∃ H5, (∀ b o, b ≠ x → H4 b = some o → H5 b = some o) ∧ H5 x = some (.ins C dx (putF "_facts" (.ref l1) [])) ∧ Bt [x] H4 H5 ∧ upd H4 x (.ins C dx (putF "_facts" (.ref l1) [])) = H5 := ⟨_, fun b o z e => by rw [upd_ne z]; exact e, upd_same, bt_upd (by simp), rfl⟩
    rw [e5]
    have hL5 := b5 _ _ xa (S4 _ _ hL)
    refine ⟨_, rfl, a, _, rfl, .inl hL5, fun l2 nl2 => ?_⟩
    obtain ⟨H6, s6, h6, e6⟩ := lay (o := .dK (lkv g.letters)) nl2
    rw [e6]
    refine ⟨_, rfl, x, C, dx, _, rfl, s6 _ _ h5, cl, n2, by show 1 < 1000; decide, ?_⟩
    obtain ⟨H7, b7, h7, B7, e7⟩ : ∃ H7, (∀ b o, b ≠ x → H6 b = some o → H7 b = some o) ∧ H7 x = some (.ins C dx (putF "_letters" (.ref l2) (putF "_facts" (.ref l1) []))) ∧ Bt [x] H6 H7 ∧ upd H6 x (.ins C dx (putF "_letters" (.ref l2) (putF "_facts" (.ref l1) []))) = H7 := ⟨_, fun b o z e => by rw [upd_ne z]; exact e, upd_same, bt_upd (by simp), rfl⟩
    rw [e7]
    have x2 : l2 ≠ x := fun e => by rw [e, h5] at nl2; cases nl2
    have hL7 := b7 _ _ xa (s6 _ _ hL5)
    have h7l := b7 _ _ x2 h6
    refine ⟨_, rfl, a, _, rfl, .inl hL7, fun l3 nl3 => ?_⟩
    obtain ⟨H8, s8, h8, e8⟩ := lay (o := .lst ((lkv g.letters).map fun kv => kV kv.1)) nl3
    rw [e8]
    refine ⟨_, rfl, x, C, dx, _, rfl, s8 _ _ h7, cl, n3, by show 2 < 1000; decide, ?_⟩
    obtain ⟨H9, b9, h9, B9, e9⟩ : ∃ H9, (∀ b o, b ≠ x → H8 b = some o → H9 b = some o) ∧ H9 x = some (.ins C dx (putF "_order" (.ref l3) (putF "_letters" (.ref l2) (putF "_facts" (.ref l1) [])))) ∧ Bt [x] H8 H9 ∧ upd H8 x (.ins C dx (putF "_order" (.ref l3) (putF "_letters" (.ref l2) (putF "_facts" (.ref l1) [])))) = H9 := ⟨_, fun b o z e => by rw [upd_ne z]; exact e, upd_same, bt_upd (by simp), rfl⟩
    rw [e9]
    have B49 : Bt [x] H4 H9 := B5.trans ((bt_of s6).trans (B7.trans ((bt_of s8).trans B9)))
    have hL9 := bt_at B49 (ni1 xa) (S4 _ _ hL)
    have hFh9 := (offx hF).mono ((hid_same S4).trans B49)
    have hF9 := hFh9.mono (hid_low _ _)
    have hCh9 := (offx hC).mono ((hid_same S4).trans B49)
    have h9l := b9 _ _ x2 (s8 _ _ h7l)
    have l8 : g.letters.length ≤ 1000 := by
      have := wf.le
      omega
    refine ⟨_, a, _, _, _, _, _, _, b, g.letters, g.fixed, rfl, .inl ⟨rfl, rfl⟩, hL9, hF9, l8, fun l4 H10 nl4 s10 hl4 => ?_⟩
    refine ⟨_, rfl, x, C, dx, _, rfl, s10 _ _ h9, cl, n4, by show 3 < 1000; decide, ?_⟩
    obtain ⟨H11, b11, h11, B11, e11⟩ : ∃ H11, (∀ b o, b ≠ x → H10 b = some o → H11 b = some o) ∧ H11 x = some (.ins C dx (putF "_fixed" (.ref l4) (putF "_order" (.ref l3) (putF "_letters" (.ref l2) (putF "_facts" (.ref l1) []))))) ∧ Bt [x] H10 H11 ∧ upd H10 x (.ins C dx (putF "_fixed" (.ref l4) (putF "_order" (.ref l3) (putF "_letters" (.ref l2) (putF "_facts" (.ref l1) []))))) = H11 := ⟨_, fun b o z e => by rw [upd_ne z]; exact e, upd_same, bt_upd (by simp), rfl⟩
    rw [e11]
    refine ⟨_, a, _, _, _, _, _, _, c, g.letters, g.comm, rfl, .inr ⟨rfl, rfl⟩, b11 _ _ xa (s10 _ _ hL9), (hCh9.mono ((hid_same s10).trans B11)).mono (hid_low _ _), l8, fun l5 H12 nl5 s12 hl5 => ?_⟩
    refine ⟨_, rfl, x, C, dx, _, rfl, s12 _ _ h11, cl, n5, by show 4 < 1000; decide, ?_⟩
    obtain ⟨H13, b13, h13, B13, e13⟩ : ∃ H13, (∀ b o, b ≠ x → H12 b = some o → H13 b = some o) ∧ H13 x = some (.ins C dx (putF "_commuting" (.ref l5) (putF "_fixed" (.ref l4) (putF "_order" (.ref l3) (putF "_letters" (.ref l2) (putF "_facts" (.ref l1) [])))))) ∧ Bt [x] H12 H13 ∧ upd H12 x (.ins C dx (putF "_commuting" (.ref l5) (putF "_fixed" (.ref l4) (putF "_order" (.ref l3) (putF "_letters" (.ref l2) (putF "_facts" (.ref l1) [])))))) = H13 := ⟨_, fun b o z e => by rw [upd_ne z]; exact e, upd_same, bt_upd (by simp), rfl⟩
    rw [e13]
    have B913 : Bt [x] H9 H13 := (bt_of s10).trans (B11.trans ((bt_of s12).trans B13))
    have lk5 : (putF "_commuting" (.ref l5) (putF "_fixed" (.ref l4) (putF "_order" (.ref l3) (putF "_letters" (.ref l2) (putF "_facts" (.ref l1) []))))).lookup ("_commuting" : Str) = some (.ref l5) := by rw [lookup_putF, if_pos rfl]
    have hL13 := b13 _ _ xa (s12 _ _ (b11 _ _ xa (s10 _ _ hL9)))
    have hF13 := (hFh9.mono ((hid_same s10).trans (B11.trans ((hid_same s12).trans B13)))).mono (hid_low _ _)
    refine ⟨_, a, _, _, _, _, _, b, g.letters, g.fixed, rfl, hL13, hF13, wf.nd, l8, fun l6 H14 nl6 s14 hl6 => ?_⟩
    refine ⟨_, rfl, x, C, dx, _, rfl, s14 _ _ h13, cl, n6, by show 5 < 1000; decide, ?_⟩
    obtain ⟨H15, b15, h15, B15, e15⟩ : ∃ H15, (∀ b o, b ≠ x → H14 b = some o → H15 b = some o) ∧ H15 x = some (.ins C dx (putF "moving" (.ref l6) (putF "_commuting" (.ref l5) (putF "_fixed" (.ref l4) (putF "_order" (.ref l3) (putF "_letters" (.ref l2) (putF "_facts" (.ref l1) []))))))) ∧ Bt [x] H14 H15 ∧ upd H14 x (.ins C dx (putF "moving" (.ref l6) (putF "_commuting" (.ref l5) (putF "_fixed" (.ref l4) (putF "_order" (.ref l3) (putF "_letters" (.ref l2) (putF "_facts" (.ref l1) []))))))) = H15 := ⟨_, fun b o z e => by rw [upd_ne z]; exact e, upd_same, bt_upd (by simp), rfl⟩
    rw [e15]
    have x5 : l5 ≠ x := fun e => by rw [e, h11] at nl5; cases nl5
    have hl5c : H15 l5 = some (.lst (sts (g.sel g.comm))) := by
      exact b15 _ _ x5 (s14 _ _ (b13 _ _ x5 hl5))
    refine ⟨_, rfl, x, C, dx, _, _, rfl, h15, cl, n5, (by rw [lookup_putF, if_neg (by decide +kernel), lookup_putF, if_pos rfl] : (putF "moving" (.ref l6) (putF "_commuting" (.ref l5) (putF "_fixed" (.ref l4) (putF "_order" (.ref l3) (putF "_letters" (.ref l2) (putF "_facts" (.ref l1) [])))))).lookup ("_commuting" : Str) = some (.ref l5)), l5, sts (g.sel g.comm), true, [], rfl, SqL.of (hid_to (by simp) hl5c), fun J WJ l7 nl7 => ?_⟩
    refine dcK_it WJ (fun i H' => Same H15 H' ∧ H' l7 = some (.dK (trueK ((g.sel g.comm).take i)))) ⟨same_new nl7, upd_same⟩ (fun i H' _ s => SqL.of (hid_to (by simp) (s.1 _ _ hl5c))) ?_ ?_
    · rintro i y H1' H2' hi ⟨sc, hD⟩ ⟨rfl, hy⟩
      obtain ⟨sy, hsy, rfl⟩ := sts_at hy
      refine ⟨rfl, ?_⟩
      have hn : sy ∉ (g.sel g.comm).take i := not_in_take wf.norm.cm hsy
      refine ⟨_, rfl, _, .inr sy, rfl, hD, ?_, ?_⟩
      · unfold trueK
        rw [List.length_map, List.length_take, sizeLine_eq]
        have : (g.sel g.comm).length ≤ (g.letters.map (·.1)).length := List.length_filter_le _ _
        rw [List.length_map] at this
        omega
      · refine ⟨fun b o e => ?_, ?_⟩
        · rw [upd_ne (ne_of_none e nl7)]; exact sc _ _ e
        · rw [upd_same, putTrue hn, take_at hsy]
    rintro H16 ⟨s16, hl7⟩
    rw [List.take_of_length_le (by rw [sts_len]; exact Nat.le_refl _)] at hl7
    refine ⟨_, rfl, x, C, dx, _, rfl, s16 _ _ h15, cl, n7, by show 6 < 1000; decide, ?_⟩
    obtain ⟨H17, b17, h17, B17, e17⟩ : ∃ H17, (∀ b o, b ≠ x → H16 b = some o → H17 b = some o) ∧ H17 x = some (.ins C dx (putF "commutes" (.ref l7) (putF "moving" (.ref l6) (putF "_commuting" (.ref l5) (putF "_fixed" (.ref l4) (putF "_order" (.ref l3) (putF "_letters" (.ref l2) (putF "_facts" (.ref l1) [])))))))) ∧ Bt [x] H16 H17 ∧ upd H16 x (.ins C dx (putF "commutes" (.ref l7) (putF "moving" (.ref l6) (putF "_commuting" (.ref l5) (putF "_fixed" (.ref l4) (putF "_order" (.ref l3) (putF "_letters" (.ref l2) (putF "_facts" (.ref l1) [])))))))) = H17 := ⟨_, fun b o z e => by rw [upd_ne z]; exact e, upd_same, bt_upd (by simp), rfl⟩
    rw [e17]
    have x7 : l7 ≠ x := fun e => by rw [e, h15] at nl7; cases nl7
    have x6 : l6 ≠ x := fun e => by rw [e, h13] at nl6; cases nl6
    have x3 : l3 ≠ x := fun e => by rw [e, h7] at nl3; cases nl3
    have B417 : Bt [x] H4 H17 := B49.trans (B913.trans ((bt_of s14).trans (B15.trans ((bt_of s16).trans B17))))
    have hA17 : FactsAt H17 l1 g.facts := ((hl1.hidX (S4 _ _ hx)).mono B417).mono (hid_low _ _)
    have hl6c : H17 l6 = some (.dK (trueK ((g.letters.map (·.1)).filter fun x => !decide (x ∈ g.fixed)))) := b17 _ _ x6 (s16 _ _ (b15 _ _ x6 hl6))
    have hl3c : H17 l3 = some (.lst (sts (g.letters.map (·.1)))) := by
      rw [lkv_keys] at h8
      exact bt_at ((B9.trans B913).trans ((bt_of s14).trans (B15.trans ((bt_of s16).trans B17)))) (ni1 x3) h8
    refine ⟨_, rfl, x, C, dx, _, _, rfl, h17, cl, n1, (by rw [lookup_putF, if_neg (by decide +kernel), lookup_putF, if_neg (by decide +kernel), lookup_putF, if_neg (by decide +kernel), lookup_putF, if_neg (by decide +kernel), lookup_putF, if_neg (by decide +kernel), lookup_putF, if_neg (by decide +kernel), lookup_putF, if_pos rfl] : (putF "commutes" (.ref l7) (putF "moving" (.ref l6) (putF "_commuting" (.ref l5) (putF "_fixed" (.ref l4) (putF "_order" (.ref l3) (putF "_letters" (.ref l2) (putF "_facts" (.ref l1) []))))))).lookup ("_facts" : Str) = some (.ref l1)), _, rfl, x, C, dx, _, _, rfl, h17, cl, n7, (by rw [lookup_putF, if_pos rfl] : (putF "commutes" (.ref l7) (putF "moving" (.ref l6) (putF "_commuting" (.ref l5) (putF "_fixed" (.ref l4) (putF "_order" (.ref l3) (putF "_letters" (.ref l2) (putF "_facts" (.ref l1) []))))))).lookup ("commutes" : Str) = some (.ref l7)), l1, l7, g.norm, rfl, hA17, b17 _ _ x7 hl7, wf.norm, fun l8 xs H18 nl8 s18 h18d k18 p18 => ?_⟩
    refine ⟨_, rfl, x, C, dx, _, rfl, s18 _ _ h17, cl, n8, by show 7 < 1000; decide, ?_⟩
    obtain ⟨H19, b19, h19, B19, e19⟩ : ∃ H19, (∀ b o, b ≠ x → H18 b = some o → H19 b = some o) ∧ H19 x = some (.ins C dx (putF "known_ends" (.ref l8) (putF "commutes" (.ref l7) (putF "moving" (.ref l6) (putF "_commuting" (.ref l5) (putF "_fixed" (.ref l4) (putF "_order" (.ref l3) (putF "_letters" (.ref l2) (putF "_facts" (.ref l1) []))))))))) ∧ Bt [x] H18 H19 ∧ upd H18 x (.ins C dx (putF "known_ends" (.ref l8) (putF "commutes" (.ref l7) (putF "moving" (.ref l6) (putF "_commuting" (.ref l5) (putF "_fixed" (.ref l4) (putF "_order" (.ref l3) (putF "_letters" (.ref l2) (putF "_facts" (.ref l1) []))))))))) = H19 := ⟨_, fun b o z e => by rw [upd_ne z]; exact e, upd_same, bt_upd (by simp), rfl⟩
    rw [e19]
    have lm : (g.letters.map (·.1)).length ≤ 20 := by
      have := wf.le
      rw [List.length_map]
      omega
    have lm2 := List.length_filter_le (fun x => !decide (x ∈ g.fixed)) (g.letters.map (·.1))
    refine ⟨_, rfl, x, C, dx, _, _, rfl, h19, cl, n3, (by rw [lookup_putF, if_neg (by decide +kernel), lookup_putF, if_neg (by decide +kernel), lookup_putF, if_neg (by decide +kernel), lookup_putF, if_neg (by decide +kernel), lookup_putF, if_neg (by decide +kernel), lookup_putF, if_pos rfl] : (putF "known_ends" (.ref l8) (putF "commutes" (.ref l7) (putF "moving" (.ref l6) (putF "_commuting" (.ref l5) (putF "_fixed" (.ref l4) (putF "_order" (.ref l3) (putF "_letters" (.ref l2) (putF "_facts" (.ref l1) [])))))))).lookup ("_order" : Str) = some (.ref l3)), _, rfl, x, C, dx, _, _, rfl, h19, cl, n6, (by rw [lookup_putF, if_neg (by decide +kernel), lookup_putF, if_neg (by decide +kernel), lookup_putF, if_pos rfl] : (putF "known_ends" (.ref l8) (putF "commutes" (.ref l7) (putF "moving" (.ref l6) (putF "_commuting" (.ref l5) (putF "_fixed" (.ref l4) (putF "_order" (.ref l3) (putF "_letters" (.ref l2) (putF "_facts" (.ref l1) [])))))))).lookup ("moving" : Str) = some (.ref l6)), l6, _, rfl, .inl (b19 _ _ x6 (s18 _ _ hl6c)), fun lv nlv => ?_⟩
    rw [true_keys]
    obtain ⟨H20, s20, h20, e20⟩ := lay (o := .lst (sts ((g.letters.map (·.1)).filter fun x => !decide (x ∈ g.fixed)))) nlv
    rw [e20]
    refine ⟨l3, lv, _, _, rfl, s20 _ _ (b19 _ _ x3 (s18 _ _ hl3c)), h20, lm, by omega, fun lp ts H21 nlp s21 hlp rlp => ?_⟩
    have lrow := allPerms_len lm (show ((g.letters.map (·.1)).filter fun x => !decide (x ∈ g.fixed)).length ≤ 20 by omega)
    generalize hrows : allPerms (g.letters.map (·.1)) ((g.letters.map (·.1)).filter fun x => !decide (x ∈ g.fixed)) = rows at rlp lrow
    refine ⟨lp, ts.map V.ref, true, [], rfl, SqL.of (hid_to (by simp) hlp), fun J WJ l9 nl9 => ?_⟩
    refine DictT.dc_it WJ (fun i H' => Same H21 H' ∧ H' l9 = some (.dT (plK rows i))) ⟨same_new nl9, upd_same⟩ (fun i H' _ s => SqL.of (hid_to (by simp) (s.1 _ _ hlp))) ?_ ?_
    · rintro i y H1' H2' hi ⟨sc, hD⟩ ⟨Tp, y1, y2, rfl, nT, rfl, e1, e2⟩
      obtain rfl := Option.some.inj e1
      have e2 : (ts.map V.ref)[i]? = some y2 := e2
      rw [List.getElem?_map] at e2
      obtain ⟨t, htt, rfl⟩ := Option.map_eq_some_iff.mp e2
      have hir : i < rows.length := by rw [rlp.len]; exact (List.getElem?_eq_some_iff.mp htt).1
      obtain ⟨t', ht', hrt⟩ := paired_at' rlp (List.getElem?_eq_getElem hir)
      obtain rfl : t' = t := by rw [htt] at ht'; exact (Option.some.inj ht').symm
      obtain ⟨H3', s3', h3', e3'⟩ := lay (o := .tup [.int (i : Nat), .ref t']) nT
      rw [e3']
      have hrt : H21 t' = some (.tup (sts rows[i])) := hrt
      have hk : H3' t' = some (.tup (((rows[i].map Sum.inr : List Key)).map kV)) := by rw [← sts_kV]; exact s3' _ _ (sc _ _ hrt)
      have hl := plK_len rows i
      have eg : rows.getD i [] = rows[i] := by rw [List.getD_eq_getElem?_getD, List.getElem?_eq_getElem hir]; rfl
      refine ⟨Tp, _, rfl, SqT.of h3', rfl, _, _, rfl, _, _, rfl, rfl, ?_⟩
      refine ⟨rfl, ?_⟩
      refine ⟨_, rfl, _, rfl, _, DPut.t (s3' _ _ hD) hk (by rw [sizeLine_eq]; omega), fun b o e => ?_, ?_⟩
      · rw [upd_ne (ne_of_none e nl9)]; exact s3' _ _ (sc _ _ e)
      · rw [upd_same, plK, eg]
    rintro H22 ⟨s22, hl9⟩
    refine ⟨_, rfl, x, C, dx, _, rfl, s22 _ _ (s21 _ _ (s20 _ _ h19)), cl, n9, by show 8 < 1000; decide, ?_⟩
    obtain ⟨H23, b23, h23, B23, e23⟩ : ∃ H23, (∀ b o, b ≠ x → H22 b = some o → H23 b = some o) ∧ H23 x = some (.ins C dx (putF "places" (.ref l9) (putF "known_ends" (.ref l8) (putF "commutes" (.ref l7) (putF "moving" (.ref l6) (putF "_commuting" (.ref l5) (putF "_fixed" (.ref l4) (putF "_order" (.ref l3) (putF "_letters" (.ref l2) (putF "_facts" (.ref l1) [])))))))))) ∧ Bt [x] H22 H23 ∧ upd H22 x (.ins C dx (putF "places" (.ref l9) (putF "known_ends" (.ref l8) (putF "commutes" (.ref l7) (putF "moving" (.ref l6) (putF "_commuting" (.ref l5) (putF "_fixed" (.ref l4) (putF "_order" (.ref l3) (putF "_letters" (.ref l2) (putF "_facts" (.ref l1) [])))))))))) = H23 := ⟨_, fun b o z e => by rw [upd_ne z]; exact e, upd_same, bt_upd (by simp), rfl⟩
    rw [e23]
    have B1723 : Bt [x] H17 H23 := (bt_of s18).trans (B19.trans ((bt_of ((s20.trans s21).trans s22)).trans B23))
    have h17l := bt_at ((B913.trans ((bt_of s14).trans (B15.trans ((bt_of s16).trans B17)))).trans B1723) (ni1 x2) h9l
    have x4 : l4 ≠ x := fun e => by rw [e, h9] at nl4; cases nl4
    have hA23 : FactsAt H23 l1 g.facts := ((hl1.hidX (S4 _ _ hx)).mono (B417.trans B1723)).mono (hid_low _ _)
    have B1323 : Bt [x] H13 H23 := ((bt_of s14).trans (B15.trans ((bt_of s16).trans B17))).trans B1723
    have hl4c := bt_at ((B11.trans ((bt_of s12).trans B13)).trans B1323) (ni1 x4) hl4
    have hl5d := bt_at (((bt_of s16).trans B17).trans B1723) (ni1 x5) hl5c
    have hl3d := bt_at B1723 (ni1 x3) hl3c
    have gone : ∀ {J : Hp} {l : Addr}, Bt [x] H J → J l = none → l ≠ x → H l = none := fun {J l} B e n => by
      cases h : H l with
      | none => rfl
      | some o =>
        have := bt_at B (ni1 n) h
        rw [e] at this
        cases this
    have B4 : Bt [x] H H4 := bt_of S4
    have x1 : l1 ≠ x := fun e => by
      have := S3 _ _ hx
      rw [← e, nl1] at this
      cases this
    have f1 : H l1 = none := S3.free nl1
    have f2 : H l2 = none := gone (B4.trans B5) nl2 x2
    have f3 : H l3 = none := gone (B4.trans (B5.trans ((bt_of s6).trans B7))) nl3 x3
    have f4 : H l4 = none := gone (B4.trans B49) nl4 x4
    have f5 : H l5 = none := gone (B4.trans (B49.trans ((bt_of s10).trans B11))) nl5 x5
    have B023 : Bt [x] H H23 := B4.trans (B417.trans B1723)
    refine q H23 B023 fun N hN => ?_
    have off : ∀ {l : Addr}, H l = none → l ∉ N := fun e m => (hN _ m).2.1 e
    have offT : ∀ {t : Addr} {ys : List V}, H23 t = some (.tup ys) → t ∉ N := fun {t ys} e m => by
      obtain ⟨n1, n2, n3⟩ := hN t m
      cases h : H t with
      | none => exact n2 h
      | some o =>
        have := bt_at B023 (ni1 n1) h
        rw [e] at this
        rw [← this] at h
        exact n3 ys h
    have hA23 : FactsAt (hid N H23) l1 g.facts := by
      obtain ⟨ts, k1, k2⟩ := hA23
      refine ⟨ts, hid_to (off f1) k1, Paired.mapP k2 fun f t r => ?_⟩
      obtain ⟨v, e, r1, r2, r3⟩ := r.ex
      exact ⟨v, e, hid_to (offT r1) r1, hid_to (offT r2) r2, hid_to (offT r3) r3⟩
    refine ⟨dx, _, l1, l2, l3, l4, l5, hid_to (fun m => (hN x m).1 rfl) h23, ⟨?_, hA23⟩, ⟨?_, hid_to (off f2) h17l⟩, ⟨?_, hid_to (off f3) hl3d⟩, ⟨?_, hid_to (off f4) hl4c⟩, ⟨?_, hid_to (off f5) hl5d⟩, ?_⟩
    all_goals try (repeat (rw [lookup_putF]; first | rw [if_neg (by decide +kernel)] | rw [if_pos rfl]))
    intro m hm
    have : m = "letters" ∨ m = "fixed" ∨ m = "commuting" ∨ m = "facts" ∨ m = "parts_of" := by simpa using hm
    rcases this with rfl | rfl | rfl | rfl | rfl
    all_goals (repeat (rw [lookup_putF]; rw [if_neg (by decide +kernel)])); rfl
/-- what Ground(a, b, c, d) asks, and what it gives -/
theorem gr_make {H : Hp} {Q : VK} {a b c d : Addr} {g : GD} (hL : H a = some (.dK (lkv g.letters))) (hF : SqA K H b (sts g.fixed)) (hC : SqA K H c (sts g.comm)) (hT : ∃ ts : List Addr, SqA K H d (ts.map V.ref) ∧ Paired (FactA H) g.facts ts) (fit : g.Fit)
    (q : ∀ G H', H G = none → Same H H' → (∀ N : List Addr, (∀ n ∈ N, H n ≠ none ∧ ∀ ts, H n ≠ some (.tup ts)) → IsGr2 C (hid N H') G g) → Q (.ref G) H') (x dx : Addr) (nx : H x = none) (ndx : H dx = none) (ne : dx ≠ x) :
    spGI2 K C [.ref x, .ref a, .ref b, .ref c, .ref d] (upd (upd H dx (.own x)) x (.ins C dx [])) (fun v H' => v = .non ∧ Q (.ref x) H') E0 := by
  have s0 : Same H (upd (upd H dx (.own x)) x (.ins C dx [])) := fun b o e => by
    rw [upd_ne (ne_of_none e nx), upd_ne (ne_of_none e ndx)]
    exact e
  have sx : Same H (hid [x] (upd (upd H dx (.own x)) x (.ins C dx []))) := same_hid_new nx s0
  obtain ⟨ts, t1, t2⟩ := hT
  refine ⟨x, dx, a, b, c, d, g, rfl, upd_same, s0 _ _ hL, hF.mono s0, hC.mono s0, ⟨ts, t1.mono sx, Paired.mapP t2 fun _ _ r => r.mono sx⟩, fit, fun H' B' gr => ⟨rfl, q x H' nx ((sx.trans B').trans (hid_low _ _)) fun N hN => gr N fun n m => ?_⟩⟩
  obtain ⟨n1, n2⟩ := hN n m
  cases h : H n with
  | none => exact absurd h n1
  | some o =>
    refine ⟨fun e => ?_, ?_, fun ts e => ?_⟩
    · rw [e, nx] at h; cases h
    · rw [s0 _ _ h]; exact fun z => nomatch z
    · rw [s0 _ _ h] at e
      exact n2 ts (by rw [h]; exact e)
theorem gr_make2 {H : Hp} {R : Hp → Prop} {a b c d : Addr} {g : GD} {x dx : Addr} (nx : H x = none) (ndx : H dx = none) (ne : dx ≠ x) (hL : H a = some (.dK (lkv g.letters))) (hF : SqA K H b (sts g.fixed)) (hC : SqA K H c (sts g.comm)) (hT : ∃ ts : List Addr, SqA K H d (ts.map V.ref) ∧ Paired (FactA H) g.facts ts) (fit : g.Fit)
    (q : ∀ H', Same H H' → (∀ N : List Addr, (∀ n ∈ N, H n ≠ none ∧ ∀ ts, H n ≠ some (.tup ts)) → IsGr2 C (hid N H') x g) → R H') :
    spGI2 K C [.ref x, .ref a, .ref b, .ref c, .ref d] (upd (upd H dx (.own x)) x (.ins C dx [])) (fun v H' => v = .non ∧ R H') E0 := by
  obtain ⟨x', dx', a', b', c', d', g', e, h1, h2, h3, h4, h5, h6, h7⟩ := gr_make (C := C) (Q := fun v H' => v = .ref x → R H') hL hF hC hT fit (fun G H' _ s gr => fun eg => by
    cases eg
    exact q H' s gr) x dx nx ndx ne
  exact ⟨x', dx', a', b', c', d', g', e, h1, h2, h3, h4, h5, h6, fun H' B' gr => let z := h7 H' B' gr; ⟨z.1, z.2 rfl⟩⟩
end
end K39
set_option Elab.async false
set_option linter.all false
set_option autoImplicit false
set_option maxRecDepth 100000
set_option maxHeartbeats 4000000
/-! Plain data of texts and truths, compared: equal just if the very same. -/
namespace GB
open PySem PySem.Spec L2
mutual
def plO : PyData → Bool
  | .str _ => true
  | .bool _ => true
  | .list ds => plOs ds
  | .tuple ds => plOs ds
  | _ => false
def plOs : List PyData → Bool
  | [] => true
  | d :: r => plO d && plOs r
end
mutual
theorem eqv_pl : ∀ d e : PyData, plO d = true → plO e = true → PyData.eqv d e = true → d = e
  | .str a, .str b, _, _, h => by simp [PyData.eqv] at h; rw [h]
  | .bool a, .bool b, _, _, h => by simp [PyData.eqv] at h; rw [h]
  | .tuple xs, .tuple ys, h1, h2, h => by
    rw [plO] at h1 h2
    simp only [PyData.eqv] at h
    rw [eqv_pls xs ys h1 h2 h]
  | .list xs, .list ys, h1, h2, h => by
    rw [plO] at h1 h2
    simp only [PyData.eqv] at h
    rw [eqv_pls xs ys h1 h2 h]
  | .str a, .bool b, _, _, h => by simp [PyData.eqv] at h
  | .str a, .list b, _, _, h => by simp [PyData.eqv] at h
  | .str a, .tuple b, _, _, h => by simp [PyData.eqv] at h
  | .bool a, .str b, _, _, h => by simp [PyData.eqv] at h
  | .bool a, .list b, _, _, h => by simp [PyData.eqv] at h
  | .bool a, .tuple b, _, _, h => by simp [PyData.eqv] at h
  | .list a, .str b, _, _, h => by simp [PyData.eqv] at h
  | .list a, .bool b, _, _, h => by simp [PyData.eqv] at h
  | .list a, .tuple b, _, _, h => by simp [PyData.eqv] at h
  | .tuple a, .str b, _, _, h => by simp [PyData.eqv] at h
  | .tuple a, .bool b, _, _, h => by simp [PyData.eqv] at h
  | .tuple a, .list b, _, _, h => by simp [PyData.eqv] at h
theorem eqv_pls : ∀ xs ys : List PyData, plOs xs = true → plOs ys = true → PyData.eqvAll xs ys = true → xs = ys
  | [], [], _, _, _ => rfl
  | x :: xs, y :: ys, h1, h2, h => by
    rw [plOs] at h1 h2
    obtain ⟨a1, a2⟩ := Bool.and_eq_true_iff.mp h1
    obtain ⟨b1, b2⟩ := Bool.and_eq_true_iff.mp h2
    simp only [PyData.eqvAll] at h
    obtain ⟨c1, c2⟩ := Bool.and_eq_true_iff.mp h
    rw [eqv_pl x y a1 b1 c1, eqv_pls xs ys a2 b2 c2]
  | [], y :: ys, _, _, h => by simp [PyData.eqvAll] at h
  | x :: xs, [], _, _, h => by simp [PyData.eqvAll] at h
end
mutual
theorem eqv_self : ∀ d : PyData, plO d = true → PyData.eqv d d = true
  | .str a, _ => by simp [PyData.eqv]
  | .bool a, _ => by simp [PyData.eqv]
  | .tuple xs, h => by
    rw [plO] at h
    simp only [PyData.eqv]
    exact eqv_selfs xs h
  | .list xs, h => by
    rw [plO] at h
    simp only [PyData.eqv]
    exact eqv_selfs xs h
theorem eqv_selfs : ∀ xs : List PyData, plOs xs = true → PyData.eqvAll xs xs = true
  | [], _ => by simp [PyData.eqvAll]
  | x :: xs, h => by
    rw [plOs] at h
    obtain ⟨a1, a2⟩ := Bool.and_eq_true_iff.mp h
    simp only [PyData.eqvAll]
    rw [eqv_self x a1, eqv_selfs xs a2]
    rfl
end
/-- a list of texts -/
def strD (l : List Str) : PyData := .list (l.map .str)
def strT (l : List Str) : PyData := .tuple (l.map .str)
def factD (f : Fact) : PyData := .tuple [.str f.x, strT f.vals, .tuple [.str f.kind, .str f.en]]
def factsD (fs : List Fact) : PyData := .list (fs.map factD)
theorem pl_strs (l : List Str) : plOs (l.map PyData.str) = true := by
  induction l with
  | nil => rfl
  | cons x r ih => rw [List.map_cons, plOs, ih]; rfl
theorem pl_strD (l : List Str) : plO (strD l) = true := by rw [strD, plO]; exact pl_strs l
theorem pl_factD (f : Fact) : plO (factD f) = true := by
  simp only [factD, strT, plO, plOs, pl_strs, Bool.and_true, Bool.true_and]
theorem pl_factsD (fs : List Fact) : plO (factsD fs) = true := by
  rw [factsD, plO]
  induction fs with
  | nil => rfl
  | cons f r ih => rw [List.map_cons, plOs, ih, pl_factD]; rfl
theorem strs_inj : ∀ {a b : List Str}, a.map PyData.str = b.map PyData.str → a = b
  | [], [], _ => rfl
  | [], _ :: _, h => nomatch h
  | _ :: _, [], h => nomatch h
  | x :: a, y :: b, h => by
    rw [List.map_cons, List.map_cons] at h
    injection h with h1 h2
    injection h1 with h1
    rw [h1, strs_inj h2]
theorem factD_inj {f f' : Fact} (h : factD f = factD f') : f = f' := by
  obtain ⟨x, vs, k, n⟩ := f
  obtain ⟨x', vs', k', n'⟩ := f'
  simp only [factD, strT] at h
  injection h with h
  injection h with h1 h
  injection h with h2 h
  injection h with h3 h
  injection h1 with h1
  injection h2 with h2
  injection h3 with h3
  injection h3 with h4 h5
  injection h5 with h5 h6
  injection h4 with h4
  injection h5 with h5
  rw [h1, strs_inj h2, h4, h5]
theorem factsD_inj : ∀ {a b : List Fact}, a.map factD = b.map factD → a = b
  | [], [], _ => rfl
  | [], _ :: _, h => nomatch h
  | _ :: _, [], h => nomatch h
  | x :: a, y :: b, h => by
    rw [List.map_cons, List.map_cons] at h
    injection h with h1 h2
    rw [factD_inj h1, factsD_inj h2]
instance : DecidableEq Fact := fun a b =>
  if h : a.x = b.x ∧ a.vals = b.vals ∧ a.kind = b.kind ∧ a.en = b.en then .isTrue (by
    obtain ⟨x, vs, k, n⟩ := a
    obtain ⟨x', vs', k', n'⟩ := b
    obtain ⟨h1, h2, h3, h4⟩ := h
    simp only at h1 h2 h3 h4
    subst h1 h2 h3 h4
    rfl) else .isFalse fun e => h (by subst e; exact ⟨rfl, rfl, rfl, rfl⟩)
theorem eqv_strD (a b : List Str) : PyData.eqv (strD a) (strD b) = decide (a = b) := by
  by_cases h : a = b
  · subst h
    rw [decide_eq_true rfl]
    exact eqv_self _ (pl_strD a)
  · rw [decide_eq_false h]
    refine Bool.eq_false_iff.mpr fun e => h ?_
    have := eqv_pl _ _ (pl_strD a) (pl_strD b) e
    simp only [strD] at this
    injection this with this
    exact strs_inj this
theorem eqv_factsD (a b : List Fact) : PyData.eqv (factsD a) (factsD b) = decide (a = b) := by
  by_cases h : a = b
  · subst h
    rw [decide_eq_true rfl]
    exact eqv_self _ (pl_factsD a)
  · rw [decide_eq_false h]
    refine Bool.eq_false_iff.mpr fun e => h ?_
    have := eqv_pl _ _ (pl_factsD a) (pl_factsD b) e
    simp only [factsD] at this
    injection this with this
    exact factsD_inj this
/-! ### where they stand -/
section
variable {K : PySem.W.Frag} {H : Hp}
theorem dps_sts : ∀ l : List Str, DpAll K H (sts l) (l.map PyData.str)
  | [] => .nil
  | x :: r => .cons (.str x) (dps_sts r)
theorem dp_strD {a : Addr} {l : List Str} (h : SqL K H a (sts l)) : Dp K H (.ref a) (strD l) := .lst h (dps_sts l)
theorem dp_factD {f : Fact} {t : Addr} (h : FactAt H f t) : Dp K H (.ref t) (factD f) := by
  obtain ⟨v, e, h1, h2, h3⟩ := h.ex
  exact .tup (SqT.of h1) (.cons (.str _) (.cons (.tup (SqT.of h2) (dps_sts _)) (.cons (.tup (SqT.of h3) (dps_sts [f.kind, f.en])) .nil)))
theorem dps_facts : ∀ {fs : List Fact} {ts : List Addr}, Paired (FactAt H) fs ts → DpAll K H (ts.map V.ref) (fs.map factD)
  | _, _, .nil => .nil
  | _, _, .cons h t => .cons (dp_factD h) (dps_facts t)
theorem dp_factsD {a : Addr} {fs : List Fact} (h : FactsAt H a fs) : Dp K H (.ref a) (factsD fs) := by
  obtain ⟨ts, h1, h2⟩ := h
  exact .lst (SqL.of h1) (dps_facts h2)
end
/-! ### they can be compared -/
theorem dep_strs (l : List Str) : PyData.depthAll (l.map PyData.str) = 0 := by
  induction l with
  | nil => simp [PyData.depthAll]
  | cons x r ih => simp [PyData.depthAll, PyData.depth, ih]
theorem dep_facts (fs : List Fact) : PyData.depthAll (fs.map factD) ≤ 2 := by
  induction fs with
  | nil => simp [PyData.depthAll]
  | cons f r ih =>
    have : PyData.depth (factD f) ≤ 2 := by simp [factD, strT, PyData.depth, PyData.depthAll, dep_strs]
    simp only [List.map_cons, PyData.depthAll]
    omega
theorem lay_strs : ∀ l : List Str, (∀ x ∈ l, PyData.strOk x = true) → PyData.canLayAll0 (l.map PyData.str) = true
  | [], _ => by simp [PyData.canLayAll0]
  | x :: r, h => by
    simp only [List.map_cons, PyData.canLayAll0, PyData.canLay0, h x List.mem_cons_self, lay_strs r fun y hy => h y (List.mem_cons_of_mem _ hy), Bool.and_true]
theorem shp_strD {l : List Str} (h : ∀ x ∈ l, PyData.strOk x = true) : SeqAt.shaped (strD l) = true := by
  have d := dep_strs l
  simp only [SeqAt.shaped, strD, PyData.canLay0, PyData.depth, lay_strs l h, d]
  rfl
theorem lay_facts : ∀ fs : List Fact, (∀ f ∈ fs, PyData.strOk f.x = true ∧ (∀ v ∈ f.vals, PyData.strOk v = true) ∧ PyData.strOk f.kind = true ∧ PyData.strOk f.en = true) → PyData.canLayAll0 (fs.map factD) = true
  | [], _ => by simp [PyData.canLayAll0]
  | f :: r, h => by
    obtain ⟨h1, h2, h3, h4⟩ := h f List.mem_cons_self
    simp only [List.map_cons, PyData.canLayAll0, factD, strT, PyData.canLay0, h1, lay_strs _ h2, h3, h4, lay_facts r fun y hy => h y (List.mem_cons_of_mem _ hy), Bool.and_true]
theorem shp_factsD {fs : List Fact} (h : ∀ f ∈ fs, PyData.strOk f.x = true ∧ (∀ v ∈ f.vals, PyData.strOk v = true) ∧ PyData.strOk f.kind = true ∧ PyData.strOk f.en = true) : SeqAt.shaped (factsD fs) = true := by
  have d := dep_facts fs
  simp only [SeqAt.shaped, factsD, PyData.canLay0, PyData.depth, lay_facts fs h, Bool.true_and, decide_eq_true_eq]
  omega
end GB
set_option Elab.async false
set_option linter.all false
set_option maxRecDepth 100000
set_option maxHeartbeats 4000000
/-! for x in o, [.. for x in o]: o of a class with its own def __iter__ that gives a new iterator over a list. -/
namespace GB
open PySem PySem.Spec L2 PyProof.Rows ItX
/-- a def's promise, told by the number of objects that there were -/
structure FnN (P : Program) (w : World) (K : PySem.W.Frag) (mg : Str → Option Value) (base : Heap) (k : Nat) (f : Addr) (fd : FuncData) (ps : List Str) (sp : Nat → Sp) : Prop where
  len : ∀ n vs H Q E, sp n vs H Q E → vs.length = ps.length
  run : ∀ (A : Around) (outer : List Env) (s : Shared) (H : Hp) (args : Args) (us : List Value) (vs : List V) (Q : VK) (E : XK), Room k A → Env0 P w K mg base A outer s H → BindsTo s fd args (ps.zip us) → Vals vs us → sp s.heap.objs.size vs H Q E →
    codeAny (model P w) A (.call (.ref f) args) (CR CX0 outer P w H s Q E) s
section
variable {P : Program} {w : World} {K : PySem.W.Frag} {mg : Str → Option Value} {base : Heap}
theorem okN {x qual : Str} {st : Stmt} {f : Addr} {fd : FuncData} {N ps : List Str} {k : Nat} {sp : Nat → Sp} (F : Fun K x qual st f fd) (S : FnScope N ps (defScope st)) (len : ∀ n vs H Q E, sp n vs H Q E → vs.length = ps.length)
    (go : ∀ (cdv : Value) (A : Around) (outer : List Env) (s : Shared) (H : Hp) (vs : List V) (Q : VK) (E : XK), Room k (A.deeper (envOfC qual (defScope st) s.heap.objs.size f cdv)) → sp s.heap.objs.size vs H Q E →
      ∃ t, PSs (cxOf CX0 P w K mg base N qual (defScope st) f cdv A outer s H E).nox (defBody st) t ∧ t { nx := fun _ H' => Q .non H', rt := Q } (start N vs) H) : FnN P w K mg base (k + 1) f fd ps sp := by
  obtain ⟨oc, od, kV, doc, pm, an, cdv, ct, osl, rfl, lk, cd⟩ := F.ex
  refine ⟨len, fun A up s H args us vs Q E room e0 bnd rel h => ?_⟩
  have hl := len _ _ _ _ _ h
  have kx : K.In s.heap := e0.mod.kin.keeps fun b o e => (e0.bs b o e).1
  have nl : s.heap.NoLimit := e0.mod.nolimit.keeps fun b o e => (e0.bs b o e).1
  have kinds : ∀ y ∈ ps.zip us, (defScope st).names.lookup y.1 = some .local ∨ ((defScope st).names.lookup y.1 = some .cell ∧ ((cellsFrom (s.heap.objs.size + 1) (defScope st).names []).lookup y.1).isSome = true) := by
    rintro ⟨n, v⟩ hy
    exact (S.par n (List.of_mem_zip hy).1).imp id fun q => ⟨q, PySem.W.cellsFrom_some _ _ _ (.inl q)⟩
  refine codeAny_call_function room.depth (kx _ _ lk) rfl S.co S.gen rfl (PySem.W.codeRec_of kx cd) (bnd _ _ _ _ ?_)
  refine wpAny_newFunctionEnv_cells S.kind kinds fun env he s1 z => ?_
  cases he
  obtain ⟨t, ht, hq⟩ := go cdv A up s H vs Q E (room.deeper _) h
  have I : Inv (cxOf CX0 P w K mg base N qual (defScope st) f cdv A up s H E) [] (start N vs) H s1 := inv_start S room.hd e0 hl rel z
  refine ⟨nl.keeps z.toInCall.keep, codeAny_func (wpAny_mono (ht.nox.run [] s1 (start N vs) H _ I hq) (fun fl s' hs => ?_) fun _ _ hs => hs)⟩
  cases fl with
  | ret u =>
    obtain ⟨v, σ', H', J, rv, q⟩ := hs
    exact ⟨v, H', J.os, J.bare, J.base, J.hok, rv, q⟩
  | next =>
    obtain ⟨σ', H', J, q⟩ := hs
    exact ⟨V.non, H', J.os, J.bare, J.base, J.hok, rfl, q⟩
  | brk => exact hs.elim fun _ z => z.elim fun _ z => z.2.elim
  | cont => exact hs.elim fun _ z => z.elim fun _ z => z.2.elim
end
/-- a walk over o: its __iter__ is asked -/
def iItOwn (K : PySem.W.Frag) (C : Addr) (sp : Nat → Sp) (n0 : Nat) (tl : TE) : TI := fun σ H R => tl σ H fun x H1 => ∃ a dx fs, x = .ref a ∧ H1 a = some (.ins C dx fs) ∧ ∀ n, n0 ≤ n → sp n [.ref a] H1 (fun z H' => ∃ l it, z = .ref it ∧ n0 ≤ it ∧ H' it = some (ItO l it 0) ∧ R (Itl K l) (dropH H' it)) E0
section
variable {X : Cx} {k : Nat} {f C : Addr} {fd : FuncData} {ps : List Str} {sp : Nat → Sp} {tg l : Expr} {tl : TE}
theorem pi_itOwn (hs : PySem.W.findIn X.K (.ref C) "__iter__" = some (some (.ref f))) (hf : PySem.W.isFn X.K (.ref f) = true) (F : FnN X.prog X.w X.K X.mg X.base k f fd ps sp) (hr : Room k X.A) (hb : Binds X.K fd ps []) (hl : PE X l tl) : PI X tg l (iItOwn X.K C sp X.s_0.heap.objs.size tl) := by
  refine ⟨fun pins s σ H R I h => ?_⟩
  refine thn (hl.run pins s σ H _ I h) fun v s1 ⟨x, H1, I1, r1, a, dx, fs, ex, ha, q⟩ => ?_
  subst ex
  cases (show v = Value.ref a from r1)
  obtain ⟨mA, O, _, _, _, _⟩ := ins_get I1.hok ha
  obtain ⟨od, J, _⟩ := O.look
  obtain ⟨m, hF⟩ := I1.fr
  have q := q _ I1.sz
  have r2 : Vals [.ref a] [.ref a] := .cons rfl .nil
  have hl : ([Value.ref a] ++ ([] : List Value)).length = ps.length := by
    rw [List.append_nil, ← r2.length]; exact F.len _ _ _ _ _ q
  refine PySem.W.owit_iter hF I1.ok.mod.kin J hs hf (wpAny_call (codeAny_mono (F.run X.A X.stack s1 H1 ⟨[.ref a], []⟩ ([.ref a] ++ []) ([.ref a] ++ []) _ E0 hr I1.env0 (hb s1 [.ref a] I1.kIn hl) (r2.append .nil) q) fun r s' hq => ?_))
  cases r with
  | error e => exact (pass0 pins σ H1 s1 e s' I1 hq)
  | ok fl =>
    cases fl with
    | ret w =>
      obtain ⟨z', H', I', rz, l, it, ez, hn, hi, qz⟩ := I1.after hq
      subst ez
      cases (show w = Value.ref it from rz)
      have eo := itO_get I' hi
      have hT : s'.TypeIs (.ref it) "list_iterator" := ⟨_, eo, rfl⟩
      have st : s'.heap.IsListIter it l 0 := ⟨_, eo, rfl, rfl⟩
      unfold ItO at hi
      show PySem.W.OwitIt _ _ _ _ _ _
      unfold PySem.W.OwitIt
      refine wpAny_specialOf (name := Str.ofString "__next__") hT slot_listiter_next.lookup ?_
      refine ⟨it, [it], _, _, dropH H' it, rfl, inv_drop I' hi, turn_list l it, st, fun b hb => ?_, qz⟩
      have e : b = it := by simpa using hb
      rw [e]
      exact inv_fp I' hi hn
    | next => exact False.elim hq
    | brk => exact False.elim hq
    | cont => exact False.elim hq
end
end GB
set_option Elab.async false
set_option linter.all false
set_option autoImplicit false
set_option maxRecDepth 100000
set_option maxHeartbeats 4000000
/-! Texts of terms as lists of signs, and that unlike terms have unlike texts. -/
namespace GB
open PySem PySem.Spec L2
def cl (s : Str) : List Nat := s.cps.toList
def wdsW : List Str := ["if", "and", "or", "not", "then", "bind", "try", "last", "fail"]
mutual
def txL : Tm → List Nat
  | .mk w n ks =>
    if w = "value" then 39 :: cl n
    else if w = "name" then cl n
    else if w = "fail" then cl "fail" ++ 40 :: (cl n ++ [41])
    else if w = "use" then (if n ∈ wdsW then [46] else []) ++ (cl n ++ 40 :: (txA ks ++ [41]))
    else if w = "bind" then cl "bind" ++ 40 :: (cl n ++ (txR ks ++ [41]))
    else cl w ++ 40 :: (txA ks ++ [41])
def txA : List Tm → List Nat
  | [] => []
  | k :: r => txL k ++ txR r
def txR : List Tm → List Nat
  | [] => []
  | k :: r => 44 :: 32 :: (txL k ++ txR r)
end
theorem cl_inj {a b : Str} (h : cl a = cl b) : a = b := by
  cases a with
  | mk a => cases b with
    | mk b => exact congrArg Str.mk (Array.toList_inj.mp h)
def ltr (c : Nat) : Prop := 97 ≤ c ∧ c ≤ 122
theorem signB_iff {c : Nat} : signB c = true ↔ ltr c := by
  unfold signB ltr
  have h1 : ([c] < [97]) ↔ c < 97 := by simp [List.cons_lt_cons_iff]
  have h2 : ([122] < [c]) ↔ 122 < c := by simp [List.cons_lt_cons_iff]
  simp only [h1, h2, Bool.and_eq_true, Bool.not_eq_true', decide_eq_false_iff_not]
  omega
theorem nameB_ltr {n : Str} (h : nameB n = true) : (∀ c ∈ cl n, ltr c) ∧ 1 ≤ (cl n).length ∧ (cl n).length ≤ 8 := by
  unfold nameB at h
  obtain ⟨h1, h2⟩ := Bool.and_eq_true_iff.mp h
  have h1 := of_decide_eq_true h1
  refine ⟨fun c hc => signB_iff.mp (List.all_eq_true.mp h2 c hc), ?_⟩
  have e : (cl n).length = n.length := by unfold cl; rw [Array.length_toList]; rfl
  omega
def NoL (q : List Nat) : Prop := ∀ c r, q = c :: r → ¬ ltr c
def Stop (q : List Nat) : Prop := ∀ c r, q = c :: r → c = 41 ∨ c = 44
theorem Stop.nol {q : List Nat} (h : Stop q) : NoL q := fun c r e l => by
  unfold ltr at l
  rcases h c r e with z | z <;> omega
theorem stop41 (q : List Nat) : Stop (41 :: q) := fun c r e => by cases e; exact .inl rfl
theorem nol40 (q : List Nat) : NoL (40 :: q) := fun c r e l => by cases e; unfold ltr at l; omega
theorem name_split : ∀ {a b q q' : List Nat}, (∀ c ∈ a, ltr c) → (∀ c ∈ b, ltr c) → NoL q → NoL q' → a ++ q = b ++ q' → a = b ∧ q = q'
  | [], [], _, _, _, _, _, _, e => ⟨rfl, e⟩
  | [], y :: b, q, q', _, hb, hq, _, e => absurd (hb y List.mem_cons_self) (hq y _ e)
  | x :: a, [], q, q', ha, _, _, hq', e => absurd (ha x List.mem_cons_self) (hq' x _ e.symm)
  | x :: a, y :: b, q, q', ha, hb, hq, hq', e => by
    have e1 : x = y := (List.cons.inj e).1
    obtain ⟨i, j⟩ := name_split (fun c hc => ha c (List.mem_cons_of_mem _ hc)) (fun c hc => hb c (List.mem_cons_of_mem _ hc)) hq hq' (List.cons.inj e).2
    exact ⟨by rw [e1, i], j⟩
/-- what stands ahead of a bracket, and what behind it -/
structure Call (t : Tm) (a : Str) (rest : List Nat) : Prop where
  tx : txL t = cl a ++ 40 :: rest
  lt : ∀ c ∈ cl a, ltr c
  ne : cl a ≠ []
inductive Shp (L : List (Str × Nat)) (t : Tm) : Prop
  | val {n} : t = .mk "value" n [] → nameB n = true → txL t = 39 :: cl n → Shp L t
  | name {n} : t = .mk "name" n [] → nameB n = true → txL t = cl n → Shp L t
  | fail {n} : t = .mk "fail" n [] → nameB n = true → Call t "fail" (cl n ++ [41]) → Shp L t
  | dot {n ks} : t = .mk "use" n ks → nameB n = true → n ∈ wdsW → txL t = 46 :: (cl n ++ 40 :: (txA ks ++ [41])) → Shp L t
  | use {n ks} : t = .mk "use" n ks → nameB n = true → n ∉ wdsW → Call t n (txA ks ++ [41]) → Shp L t
  | bind {n ks} : t = .mk "bind" n ks → nameB n = true → Call t "bind" (cl n ++ (txR ks ++ [41])) → Shp L t
  | op {w m ks} : t = .mk w "" ks → (w, m) ∈ opsW → Call t w (txA ks ++ [41]) → Shp L t
theorem shp {L : List (Str × Nat)} (hL : ∀ q ∈ L, nameB q.1 = true) {ns : List Str} {t : Tm} (h : TmOk L ns t) : Shp L t := by
  cases h with
  | @mk _ w n ks hH hK =>
  have nil : ks.length = 0 → ks = [] := List.eq_nil_of_length_eq_zero
  have op' : ∀ {m : Nat}, (w, m) ∈ opsW → w ≠ "value" ∧ w ≠ "name" ∧ w ≠ "fail" ∧ w ≠ "use" ∧ w ≠ "bind" ∧ nameB w = true := fun hm => (show ∀ q ∈ opsW, q.1 ≠ "value" ∧ q.1 ≠ "name" ∧ q.1 ≠ "fail" ∧ q.1 ≠ "use" ∧ q.1 ≠ "bind" ∧ nameB q.1 = true by decide +kernel) _ hm
  generalize hm : ks.length = m at hH
  have ne : ∀ {x : Str}, nameB x = true → cl x ≠ [] := fun h e => by
    have := (nameB_ltr h).2.1
    rw [e] at this
    simp at this
  cases hH with
  | val h => obtain rfl := nil hm; exact .val rfl h (by rw [txL, if_pos rfl])
  | name h _ => obtain rfl := nil hm; exact .name rfl h (by rw [txL, if_neg (by decide), if_pos rfl])
  | fail h => obtain rfl := nil hm; exact .fail rfl h ⟨by rw [txL, if_neg (by decide), if_neg (by decide), if_pos rfl], (nameB_ltr (by decide +kernel)).1, ne (by decide +kernel)⟩
  | use h =>
    have nb := hL _ h
    by_cases hw : n ∈ wdsW
    · exact .dot rfl nb hw (by rw [txL, if_neg (by decide), if_neg (by decide), if_neg (by decide), if_pos rfl, if_pos hw]; rfl)
    · exact .use rfl nb hw ⟨by rw [txL, if_neg (by decide), if_neg (by decide), if_neg (by decide), if_pos rfl, if_neg hw]; rfl, (nameB_ltr nb).1, ne nb⟩
  | bind h _ => exact .bind rfl h ⟨by rw [txL, if_neg (by decide), if_neg (by decide), if_neg (by decide), if_neg (by decide), if_pos rfl], (nameB_ltr (by decide +kernel)).1, ne (by decide +kernel)⟩
  | op h =>
    obtain ⟨h1, h2, h3, h4, h5, h6⟩ := op' h
    exact .op rfl h ⟨by rw [txL, if_neg h1, if_neg h2, if_neg h3, if_neg h4, if_neg h5], (nameB_ltr h6).1, ne h6⟩
/-- the first sign -/
theorem Shp.first {L : List (Str × Nat)} {t : Tm} (h : Shp L t) : ∃ c r, txL t = c :: r ∧ c ≠ 41 ∧ c ≠ 44 := by
  have lt : ∀ {l : List Nat} {q : List Nat}, (∀ c ∈ l, ltr c) → l ≠ [] → ∃ c r, l ++ q = c :: r ∧ c ≠ 41 ∧ c ≠ 44 := fun {l q} h n => by
    cases l with
    | nil => exact absurd rfl n
    | cons c r =>
      have := h c List.mem_cons_self
      unfold ltr at this
      exact ⟨c, r ++ q, rfl, by omega, by omega⟩
  have ne : ∀ {x : Str}, nameB x = true → cl x ≠ [] := fun h e => by
    have := (nameB_ltr h).2.1
    rw [e] at this
    simp at this
  cases h with
  | val e hn tx => exact ⟨39, _, tx, by decide, by decide⟩
  | name e hn tx =>
    rw [tx]
    have := lt (q := []) (nameB_ltr hn).1 (ne hn)
    rwa [List.append_nil] at this
  | fail e hn c => rw [c.tx]; exact lt c.lt c.ne
  | dot e hn hw tx => exact ⟨46, _, tx, by decide, by decide⟩
  | use e hn hw c => rw [c.tx]; exact lt c.lt c.ne
  | bind e hn c => rw [c.tx]; exact lt c.lt c.ne
  | op e hm c => rw [c.tx]; exact lt c.lt c.ne
end GB
namespace GB
open PySem PySem.Spec L2
theorem call_eq {L : List (Str × Nat)} {t t' : Tm} {a a' : Str} {r r' p p' : List Nat} (c : Call t a r) (c' : Call t' a' r') (e : txL t ++ p = txL t' ++ p') : a = a' ∧ r ++ p = r' ++ p' := by
  rw [c.tx, c'.tx, List.append_assoc, List.append_assoc] at e
  obtain ⟨h1, h2⟩ := name_split c.lt c'.lt (nol40 _) (nol40 _) e
  exact ⟨cl_inj h1, (List.cons.inj h2).2⟩
theorem args_inj {L : List (Str × Nat)} (hL : ∀ q ∈ L, nameB q.1 = true) {z : Nat} (ih : ∀ {t t' : Tm} {ns ns' : List Str} {p p' : List Nat}, t.size ≤ z → TmOk L ns t → TmOk L ns' t' → Stop p → Stop p' → txL t ++ p = txL t' ++ p' → t = t' ∧ p = p') :
    ∀ (ks ks' : List Tm) {p p' : List Nat}, Tm.sizes ks ≤ z → (∀ k ∈ ks, ∃ ns, TmOk L ns k) → (∀ k ∈ ks', ∃ ns, TmOk L ns k) → txR ks ++ 41 :: p = txR ks' ++ 41 :: p' → ks = ks' ∧ p = p'
  | [], [], p, p', _, _, _, e => ⟨rfl, (List.cons.inj e).2⟩
  | [], k' :: r', p, p', _, _, _, e => by
    rw [txR, txR] at e
    exact absurd (List.cons.inj e).1 (by decide)
  | k :: r, [], p, p', _, _, _, e => by
    rw [txR, txR] at e
    exact absurd (List.cons.inj e).1 (by decide)
  | k :: r, k' :: r', p, p', hz, hk, hk', e => by
    rw [txR, txR] at e
    have e1 : (txL k ++ txR r) ++ 41 :: p = (txL k' ++ txR r') ++ 41 :: p' := (List.cons.inj (List.cons.inj e).2).2
    rw [List.append_assoc, List.append_assoc] at e1
    obtain ⟨ns, o⟩ := hk k List.mem_cons_self
    obtain ⟨ns', o'⟩ := hk' k' List.mem_cons_self
    rw [Tm.sizes] at hz
    have st : ∀ (l : List Tm) (q : List Nat), Stop (txR l ++ 41 :: q) := fun l q => by
      cases l with
      | nil => rw [txR]; exact stop41 q
      | cons x y => rw [txR]; exact fun c r e => by cases e; exact .inr rfl
    obtain ⟨h1, h2⟩ := ih (by omega) o o' (st r p) (st r' p') e1
    obtain ⟨h3, h4⟩ := args_inj hL ih r r' (by omega) (fun x hx => hk x (List.mem_cons_of_mem _ hx)) (fun x hx => hk' x (List.mem_cons_of_mem _ hx)) h2
    exact ⟨by rw [h1, h3], h4⟩
theorem argsA_inj {L : List (Str × Nat)} (hL : ∀ q ∈ L, nameB q.1 = true) {z : Nat} (ih : ∀ {t t' : Tm} {ns ns' : List Str} {p p' : List Nat}, t.size ≤ z → TmOk L ns t → TmOk L ns' t' → Stop p → Stop p' → txL t ++ p = txL t' ++ p' → t = t' ∧ p = p') :
    ∀ (ks ks' : List Tm) {p p' : List Nat}, Tm.sizes ks ≤ z → (∀ k ∈ ks, ∃ ns, TmOk L ns k) → (∀ k ∈ ks', ∃ ns, TmOk L ns k) → txA ks ++ 41 :: p = txA ks' ++ 41 :: p' → ks = ks' ∧ p = p'
  | [], [], p, p', _, _, _, e => ⟨rfl, (List.cons.inj e).2⟩
  | [], k' :: r', p, p', _, _, hk', e => by
    obtain ⟨ns', o'⟩ := hk' k' List.mem_cons_self
    obtain ⟨c, r, e1, n1, n2⟩ := (shp hL o').first
    rw [txA, txA, e1] at e
    exact absurd (List.cons.inj e).1.symm n1
  | k :: r, [], p, p', _, hk, _, e => by
    obtain ⟨ns, o⟩ := hk k List.mem_cons_self
    obtain ⟨c, r, e1, n1, n2⟩ := (shp hL o).first
    rw [txA, txA, e1] at e
    exact absurd (List.cons.inj e).1 n1
  | k :: r, k' :: r', p, p', hz, hk, hk', e => by
    rw [txA, txA, List.append_assoc, List.append_assoc] at e
    have h : txR (k :: r) ++ 41 :: p = txR (k' :: r') ++ 41 :: p' := by
      rw [txR, txR, List.cons_append, List.cons_append, List.cons_append, List.cons_append, List.append_assoc, List.append_assoc, e]
    exact args_inj hL ih _ _ hz hk hk' h
theorem txL_inj {L : List (Str × Nat)} (hL : ∀ q ∈ L, nameB q.1 = true) : ∀ (z : Nat) {t t' : Tm} {ns ns' : List Str} {p p' : List Nat}, t.size ≤ z → TmOk L ns t → TmOk L ns' t' → Stop p → Stop p' → txL t ++ p = txL t' ++ p' → t = t' ∧ p = p' := by
  intro z
  induction z with
  | zero =>
    intro t t' ns ns' p p' hz
    exact absurd hz (by have := size_pos t; omega)
  | succ z ih =>
    intro t t' ns ns' p p' hz h h' hp hp' e
    have kids : ∀ {t : Tm} {ns : List Str} {w n : Str} {ks : List Tm}, TmOk L ns t → t = .mk w n ks → ∀ k ∈ ks, ∃ ns, TmOk L ns k := fun h e k hk => by
      subst e
      cases h with
      | mk _ hK =>
        obtain ⟨i, hi⟩ := List.mem_iff_getElem?.mp hk
        exact ⟨_, hK i k hi⟩
    have sz : ∀ {w n : Str} {ks : List Tm}, t = .mk w n ks → Tm.sizes ks ≤ z := fun e => by
      rw [e, Tm.size] at hz
      omega
    have lt : ∀ {l l' : List Nat} {q q' : List Nat} {c : Nat}, (∀ c ∈ l, ltr c) → l ≠ [] → ¬ ltr c → l ++ q = c :: q' → False := fun {l l' q q' c} h n nc e => by
      cases l with
      | nil => exact n rfl
      | cons x r => exact nc ((List.cons.inj e).1 ▸ h x List.mem_cons_self)
    have ne : ∀ {x : Str}, nameB x = true → cl x ≠ [] := fun h e => by
      have := (nameB_ltr h).2.1
      rw [e] at this
      simp at this
    have n39 : ¬ ltr 39 := by unfold ltr; omega
    have n46 : ¬ ltr 46 := by unfold ltr; omega
    -- a name and a call
    have nc : ∀ {n a : Str} {t : Tm} {r q q' : List Nat}, nameB n = true → Call t a r → Stop q → cl n ++ q = txL t ++ q' → False := fun {n a t r q q'} hn c hq e => by
      rw [c.tx, List.append_assoc] at e
      have := (name_split (nameB_ltr hn).1 c.lt hq.nol (nol40 _) e).2
      rcases hq _ _ this with z | z <;> omega
    -- a call and a quote or a dot
    have cq : ∀ {a : Str} {t : Tm} {r q q' : List Nat} {c : Nat}, Call t a r → ¬ ltr c → txL t ++ q = c :: q' → False := fun {a t r q q' c} h hc e => by
      rw [h.tx, List.append_assoc] at e
      exact lt (l' := []) h.lt h.ne hc e
    -- two calls
    have cc : ∀ {a a' : Str} {r r' : List Nat}, Call t a r → Call t' a' r' → a = a' ∧ r ++ p = r' ++ p' := fun c c' => call_eq (L := L) c c' e
    have wd : ∀ {w : Str} {m : Nat}, (w, m) ∈ opsW → w ∈ wdsW ∧ w ≠ "fail" ∧ w ≠ "bind" := fun hm => (show ∀ q ∈ opsW, q.1 ∈ wdsW ∧ q.1 ≠ "fail" ∧ q.1 ≠ "bind" by decide +kernel) _ hm
    have fw : ("fail" : Str) ∈ wdsW := by decide +kernel
    have bw : ("bind" : Str) ∈ wdsW := by decide +kernel
    have aA : ∀ {ks ks' : List Tm}, Tm.sizes ks ≤ z → (∀ k ∈ ks, ∃ ns, TmOk L ns k) → (∀ k ∈ ks', ∃ ns, TmOk L ns k) → (txA ks ++ [41]) ++ p = (txA ks' ++ [41]) ++ p' → ks = ks' ∧ p = p' := fun hz k1 k2 e => by
      rw [List.append_assoc, List.append_assoc] at e
      exact argsA_inj hL ih _ _ hz k1 k2 e
    have s1 := shp hL h
    have s2 := shp hL h'
    cases s1 with
    | val e1 n1 x1 =>
      rw [x1] at e
      cases s2 with
      | val e2 n2 x2 =>
        rw [x2] at e
        obtain ⟨i, j⟩ := name_split (nameB_ltr n1).1 (nameB_ltr n2).1 hp.nol hp'.nol (List.cons.inj e).2
        exact ⟨by rw [e1, e2, cl_inj i], j⟩
      | name e2 n2 x2 => rw [x2] at e; exact (lt (l' := []) (nameB_ltr n2).1 (ne n2) n39 e.symm).elim
      | fail e2 n2 c2 => exact (cq c2 n39 e.symm).elim
      | dot e2 n2 w2 x2 => rw [x2] at e; exact absurd (List.cons.inj e).1 (by decide)
      | use e2 n2 w2 c2 => exact (cq c2 n39 e.symm).elim
      | bind e2 n2 c2 => exact (cq c2 n39 e.symm).elim
      | op e2 m2 c2 => exact (cq c2 n39 e.symm).elim
    | name e1 n1 x1 =>
      rw [x1] at e
      cases s2 with
      | val e2 n2 x2 => rw [x2] at e; exact (lt (l' := []) (nameB_ltr n1).1 (ne n1) n39 e).elim
      | name e2 n2 x2 =>
        rw [x2] at e
        obtain ⟨i, j⟩ := name_split (nameB_ltr n1).1 (nameB_ltr n2).1 hp.nol hp'.nol e
        exact ⟨by rw [e1, e2, cl_inj i], j⟩
      | fail e2 n2 c2 => exact (nc n1 c2 hp e).elim
      | dot e2 n2 w2 x2 => rw [x2] at e; exact (lt (l' := []) (nameB_ltr n1).1 (ne n1) n46 e).elim
      | use e2 n2 w2 c2 => exact (nc n1 c2 hp e).elim
      | bind e2 n2 c2 => exact (nc n1 c2 hp e).elim
      | op e2 m2 c2 => exact (nc n1 c2 hp e).elim
    | dot e1 n1 w1 x1 =>
      rw [x1] at e
      cases s2 with
      | val e2 n2 x2 => rw [x2] at e; exact absurd (List.cons.inj e).1 (by decide)
      | name e2 n2 x2 => rw [x2] at e; exact (lt (l' := []) (nameB_ltr n2).1 (ne n2) n46 e.symm).elim
      | fail e2 n2 c2 => exact (cq c2 n46 e.symm).elim
      | dot e2 n2 w2 x2 =>
        rw [x2, List.cons_append, List.cons_append] at e
        have e3 := (List.cons.inj e).2
        rw [List.append_assoc, List.append_assoc] at e3
        obtain ⟨i, j⟩ := name_split (nameB_ltr n1).1 (nameB_ltr n2).1 (nol40 _) (nol40 _) e3
        obtain ⟨k1, k2⟩ := aA (sz e1) (kids h e1) (kids h' e2) (List.cons.inj j).2
        exact ⟨by rw [e1, e2, cl_inj i, k1], k2⟩
      | use e2 n2 w2 c2 => exact (cq c2 n46 e.symm).elim
      | bind e2 n2 c2 => exact (cq c2 n46 e.symm).elim
      | op e2 m2 c2 => exact (cq c2 n46 e.symm).elim
    | fail e1 n1 c1 =>
      cases s2 with
      | val e2 n2 x2 => rw [x2] at e; exact (cq c1 n39 e).elim
      | name e2 n2 x2 => rw [x2] at e; exact (nc n2 c1 hp' e.symm).elim
      | fail e2 n2 c2 =>
        have e3 := (cc c1 c2).2
        rw [List.append_assoc, List.append_assoc] at e3
        obtain ⟨i, j⟩ := name_split (nameB_ltr n1).1 (nameB_ltr n2).1 (stop41 _).nol (stop41 _).nol e3
        exact ⟨by rw [e1, e2, cl_inj i], (List.cons.inj j).2⟩
      | dot e2 n2 w2 x2 => rw [x2] at e; exact (cq c1 n46 e).elim
      | use e2 n2 w2 c2 => exact absurd ((cc c1 c2).1 ▸ fw) w2
      | bind e2 n2 c2 => exact absurd (cc c1 c2).1 (by decide)
      | op e2 m2 c2 => exact absurd (cc c1 c2).1.symm (wd m2).2.1
    | use e1 n1 w1 c1 =>
      cases s2 with
      | val e2 n2 x2 => rw [x2] at e; exact (cq c1 n39 e).elim
      | name e2 n2 x2 => rw [x2] at e; exact (nc n2 c1 hp' e.symm).elim
      | fail e2 n2 c2 => exact absurd ((cc c1 c2).1 ▸ fw) w1
      | dot e2 n2 w2 x2 => rw [x2] at e; exact (cq c1 n46 e).elim
      | use e2 n2 w2 c2 =>
        obtain ⟨i, j⟩ := cc c1 c2
        obtain ⟨k1, k2⟩ := aA (sz e1) (kids h e1) (kids h' e2) j
        exact ⟨by rw [e1, e2, i, k1], k2⟩
      | bind e2 n2 c2 => exact absurd ((cc c1 c2).1 ▸ bw) w1
      | op e2 m2 c2 => exact absurd ((cc c1 c2).1 ▸ (wd m2).1) w1
    | bind e1 n1 c1 =>
      cases s2 with
      | val e2 n2 x2 => rw [x2] at e; exact (cq c1 n39 e).elim
      | name e2 n2 x2 => rw [x2] at e; exact (nc n2 c1 hp' e.symm).elim
      | fail e2 n2 c2 => exact absurd (cc c1 c2).1 (by decide)
      | dot e2 n2 w2 x2 => rw [x2] at e; exact (cq c1 n46 e).elim
      | use e2 n2 w2 c2 => exact absurd ((cc c1 c2).1 ▸ bw) w2
      | bind e2 n2 c2 =>
        have e3 := (cc c1 c2).2
        rw [List.append_assoc, List.append_assoc, List.append_assoc, List.append_assoc] at e3
        have st : ∀ (l : List Tm) (q : List Nat), Stop (txR l ++ ([41] ++ q)) := fun l q => by
          cases l with
          | nil => rw [txR]; exact stop41 q
          | cons x y => rw [txR]; exact fun c r e => by cases e; exact .inr rfl
        obtain ⟨i, j⟩ := name_split (nameB_ltr n1).1 (nameB_ltr n2).1 (st _ _).nol (st _ _).nol e3
        obtain ⟨k1, k2⟩ := args_inj hL ih _ _ (sz e1) (kids h e1) (kids h' e2) j
        exact ⟨by rw [e1, e2, cl_inj i, k1], k2⟩
      | op e2 m2 c2 => exact absurd (cc c1 c2).1.symm (wd m2).2.2
    | op e1 m1 c1 =>
      cases s2 with
      | val e2 n2 x2 => rw [x2] at e; exact (cq c1 n39 e).elim
      | name e2 n2 x2 => rw [x2] at e; exact (nc n2 c1 hp' e.symm).elim
      | fail e2 n2 c2 => exact absurd (cc c1 c2).1 (wd m1).2.1
      | dot e2 n2 w2 x2 => rw [x2] at e; exact (cq c1 n46 e).elim
      | use e2 n2 w2 c2 => exact absurd ((cc c1 c2).1 ▸ (wd m1).1) w2
      | bind e2 n2 c2 => exact absurd (cc c1 c2).1 (wd m1).2.2
      | op e2 m2 c2 =>
        obtain ⟨i, j⟩ := cc c1 c2
        obtain ⟨k1, k2⟩ := aA (sz e1) (kids h e1) (kids h' e2) j
        exact ⟨by rw [e1, e2, i, k1], k2⟩
end GB
set_option Elab.async false
set_option linter.all false
set_option autoImplicit false
set_option maxRecDepth 100000
set_option maxHeartbeats 4000000
namespace GB
open PySem PySem.Spec L2
def txS (t : Tm) : Str := ⟨(txL t).toArray⟩
theorem cl_txS (t : Tm) : cl (txS t) = txL t := rfl
theorem cl_mk (l : List Nat) : cl ⟨l.toArray⟩ = l := rfl
theorem cl_app (a b : Str) : cl (a ++ b) = cl a ++ cl b := TL.tl_append a b
theorem mk_cl (s : Str) : (⟨(cl s).toArray⟩ : Str) = s := cl_inj rfl
theorem cl_len (s : Str) : s.length = (cl s).length := by unfold cl; rw [Array.length_toList]; rfl
theorem eq_txS {s : Str} {t : Tm} (h : cl s = txL t) : s = txS t := cl_inj h
theorem cl_join1 : ∀ (s : Str) (ks : List Tm), cl (Txt.join ", " (s :: ks.map txS)) = cl s ++ txR ks
  | s, [] => by rw [TL.join_eq]; show cl s = cl s ++ txR []; rw [txR, List.append_nil]
  | s, k :: r => by
    have h := cl_join1 (txS k) r
    rw [TL.join_eq] at h ⊢
    show cl (s ++ (", " : Str) ++ Str.join ", " (txS k :: r.map txS)) = _
    rw [cl_app, cl_app, h, cl_txS, txR, List.append_assoc]
    rfl
theorem cl_join : ∀ ks : List Tm, cl (Txt.join ", " (ks.map txS)) = txA ks
  | [] => by rw [TL.join_eq, txA]; rfl
  | k :: r => by rw [List.map_cons, cl_join1, txA]; rfl
mutual
theorem txL_len {L : List (Str × Nat)} (hL : ∀ q ∈ L, nameB q.1 = true) : ∀ (t : Tm) {ns : List Str}, TmOk L ns t → (txL t).length + 2 ≤ 20 * t.size
  | .mk w n ks, ns, h => by
    have hk : ∀ k ∈ ks, ∃ ns, TmOk L ns k := fun k hk => by
      cases h with
      | mk _ hK =>
        obtain ⟨i, hi⟩ := List.mem_iff_getElem?.mp hk
        exact ⟨_, hK i k hi⟩
    obtain ⟨a1, a2⟩ := txs_len hL ks hk
    rw [Tm.size]
    have l8 : ∀ {x : Str}, nameB x = true → (cl x).length ≤ 8 := fun h => (nameB_ltr h).2.2
    have wl : ∀ {w : Str} {m : Nat}, (w, m) ∈ opsW → (cl w).length ≤ 4 := fun hm => (show ∀ q ∈ opsW, (cl q.1).length ≤ 4 by decide +kernel) _ hm
    have f4 : (cl "fail").length = 4 := by decide +kernel
    have b4 : (cl "bind").length = 4 := by decide +kernel
    cases shp hL h with
    | val e hn tx => rw [tx]; cases e; have := l8 hn; rw [List.length_cons]; omega
    | name e hn tx => rw [tx]; cases e; have := l8 hn; omega
    | fail e hn c => rw [c.tx]; cases e; have := l8 hn; rw [List.length_append, List.length_cons, List.length_append, f4]; simp only [List.length_singleton]; omega
    | dot e hn hw tx => rw [tx]; cases e; have := l8 hn; rw [List.length_cons, List.length_append, List.length_cons, List.length_append]; simp only [List.length_singleton]; omega
    | use e hn hw c => rw [c.tx]; cases e; have := l8 hn; rw [List.length_append, List.length_cons, List.length_append]; simp only [List.length_singleton]; omega
    | bind e hn c => rw [c.tx]; cases e; have := l8 hn; rw [List.length_append, List.length_cons, List.length_append, List.length_append, b4]; simp only [List.length_singleton]; omega
    | op e hm c => rw [c.tx]; cases e; have := wl hm; rw [List.length_append, List.length_cons, List.length_append]; simp only [List.length_singleton]; omega
theorem txs_len {L : List (Str × Nat)} (hL : ∀ q ∈ L, nameB q.1 = true) : ∀ (ks : List Tm), (∀ k ∈ ks, ∃ ns, TmOk L ns k) → (txA ks).length ≤ 20 * Tm.sizes ks ∧ (txR ks).length ≤ 20 * Tm.sizes ks
  | [], _ => by rw [txA, txR]; exact ⟨Nat.zero_le _, Nat.zero_le _⟩
  | k :: r, h => by
    obtain ⟨ns, o⟩ := h k List.mem_cons_self
    have a := txL_len hL k o
    obtain ⟨b1, b2⟩ := txs_len hL r fun x hx => h x (List.mem_cons_of_mem _ hx)
    rw [txA, txR, Tm.sizes, List.length_cons, List.length_cons, List.length_append]
    omega
end
theorem sum_len {L : List (Str × Nat)} (hL : ∀ q ∈ L, nameB q.1 = true) : ∀ (ks : List Tm), (∀ k ∈ ks, ∃ ns, TmOk L ns k) → ((ks.map txS).map (·.length)).sum ≤ 20 * Tm.sizes ks
  | [], _ => Nat.zero_le _
  | k :: r, h => by
    obtain ⟨ns, o⟩ := h k List.mem_cons_self
    have a := txL_len hL k o
    have b := sum_len hL r fun x hx => h x (List.mem_cons_of_mem _ hx)
    rw [Tm.sizes]
    show (txS k).length + ((r.map txS).map (·.length)).sum ≤ _
    rw [cl_len, cl_txS]
    omega
theorem nameB_of {L : List (Str × Nat)} (hL : ∀ q ∈ L, nameB q.1 = true) {ns : List Str} {w n : Str} {m : Nat} (h : HeadOk L ns w n m) (hw : w ∉ opsW.map (·.1)) : nameB n = true := by
  cases h with
  | val h => exact h
  | fail h => exact h
  | name h _ => exact h
  | use h => exact hL _ h
  | bind h _ => exact h
  | op h => exact absurd (List.mem_map.mpr ⟨_, h, rfl⟩) hw
end GB
set_option Elab.async false
set_option linter.all false
set_option maxRecDepth 100000
set_option maxHeartbeats 4000000
/-! o == x, o != x: o of a class with its own def __eq__ that gives True or False, and no __ne__ of its own. -/
namespace GB
open PySem PySem.Spec L2 PyProof.Rows
/-- x is no instance of a class below C -/
def NotBelow (K : PySem.W.Frag) (C : Addr) (H : Hp) (y : V) : Prop := ∃ t, TyX K H y t ∧ PySem.W.notFirst K C t = true
def rEqOwn (K : PySem.W.Frag) (C : Addr) (sp : Sp) (n : Bool) : R2 := fun x y H Q => ∃ a dx fs, x = .ref a ∧ H a = some (.ins C dx fs) ∧ NotBelow K C H y ∧ sp [x, y] H (fun z H' => ∃ b, z = .bl b ∧ Q (.bl (n != b)) H') E0
section
variable {prog : Program} {w : World} {A : Around} {E : Value → Shared → Prop} {s : Shared} {K : PySem.W.Frag} {x C L f : Addr} {h₀ : Heap} {m : Str → Option Value} {ox : Obj} {od : Option Obj} {b tb : Value}
open PySem.W Builtin in
theorem ne_entry {Q : Fin → Shared → Prop} (hu : A.units < cLine) (X : K.In s.heap) (I : PySem.W.InstAt s.heap x ox C od) (he : findIn K (.ref C) "__eq__" = some (some (.ref f))) (hf : isFn K (.ref f) = true)
    (h : wpAny (model prog w) A (call (.ref f) [.ref x, b]) (fun v s' => ∃ c, v = .bool c ∧ Q (.done (.ret (.bool (!c)))) s') E s) :
    wpAny (model prog w) A (Builtin.«object.__ne__» ⟨[.ref x, b], []⟩) Q E s := by
  unfold Builtin.«object.__ne__»
  repeat (first
    | with_reducible refine wpAny_cRoomFor hu ?_
    | (refine wpAny_bind (m := callSpecialIfBound? (.ref x) (Str.ofString "__eq__") [b])
        (ifBound_K X I he hf (wpAny_mono h (fun r s' hr => by
          obtain ⟨c, rfl, hq⟩ := hr
          repeat (first | exact hq | exact wpAny_pure hq | exact wpAny_truthy_bool hq | (refine wpAny_bind (m := truthy (.bool _)) (wpAny_truthy_bool ?_)) | wp_step)) fun _ _ e => e)))
    | wp_step)
open PySem.W Builtin in
theorem ne_K {Q : Value → Shared → Prop} (hu : A.units + 1 < cLine) (X : K.In s.heap) (I : PySem.W.InstAt s.heap x ox C od) (hb : Looks (model prog w) s.heap (typeOf b) tb) (hn : notFirst K C tb = true)
    (hs : findIn K (.ref C) "__ne__" = some (some (.builtin "object.__ne__"))) (hm : mroIn K C (.type "object") = some true) (he : findIn K (.ref C) "__eq__" = some (some (.ref f))) (hf : isFn K (.ref f) = true)
    (h : wpAny (model prog w) A.in1 (call (.ref f) [.ref x, b]) (fun v s' => ∃ c, v = .bool c ∧ Q (.bool (!c)) s') E s) : wpAny (model prog w) A (richCompare .NotEq (.ref x) b) Q E s := by
  have S := PySem.F.cmp_object.ne
  have one : wpAny (model prog w) A (tryCompare (.ref x) "__ne__" b) (fun r s' => ∃ v, r = some v ∧ Q v s') E s := by
    unfold tryCompare
    have go : wpAny (model prog w) A (call (.builtin "object.__ne__") ([.ref x] ++ [b])) (fun r s' => ∃ c, r = .bool (!c) ∧ Q (.bool (!c)) s') E s := by
      refine wpAny_call (codeAny_call_builtin S.plain PySem.F.cmpEntry_ne (@check_slot (model prog w) _ _ s "object.__ne__" "object" "__ne__" (.ref x) [b] [] _ PySem.F.cmpKind_ne PySem.F.cmpSplit_ne (I.type.andThen (looks_mroIn X hm)) (PySem.F.cmpArgs_ne _ _) ?_))
      refine ne_entry (A := A.in1) hu X I he hf (wpAny_mono h (fun v s' hv => ?_) fun _ _ e => e)
      obtain ⟨c, rfl, hq⟩ := hv
      exact ⟨c, rfl, c, rfl, hq⟩
    simp only [callSpecialIfBound?, bindSpecialIfBound?]
    refine wpAny_bind (wpAny_holding (wpAny_bind (wpAny_bind (wpAny_bind (I.type.here ((looks_findIn X hs).here ?_))))))
    simp only [S.bind]
    have fin : wpAny (model prog w) A (call (.builtin "object.__ne__") ([.ref x] ++ [b]) >>= fun v => pure (some v)) (fun r s' => ∃ c, r = some (Value.bool (!c)) ∧ Q (.bool (!c)) s') E s := by
      refine wpAny_bind (wpAny_mono go (fun v s' h' => wpAny_pure ?_) fun _ _ h' => h')
      obtain ⟨c, rfl, hq⟩ := h'
      exact ⟨c, rfl, hq⟩
    refine wpAny_bind (wpAny_askSetting (wpAny_ite ?_))
    split
    · refine wpAny_bind (wpAny_pure (wpAny_pure (wpAny_mono fin (fun v s' h' => ?_) fun _ _ h' => h')))
      obtain ⟨c, rfl, hq⟩ := h'
      exact wpAny_pure ⟨_, rfl, hq⟩
    · refine wpAny_tryCatch (wpAny_bind (wpAny_pure (wpAny_pure (wpAny_mono fin (fun v s' h' => ?_) fun _ _ h' => h'))))
      obtain ⟨c, rfl, hq⟩ := h'
      exact wpAny_pure ⟨_, rfl, hq⟩
  unfold richCompare
  simp only [oneThing_ref]
  refine wpAny_holding (wpAny_bind (wpAny_cRoomFor (Nat.lt_of_succ_lt hu) ?_))
  refine wpAny_bind (I.type.here (wpAny_bind (hb.here ?_)))
  split
  · rename_i q
    have e : subIn K tb (.ref C) = some false := by
      rcases Bool.or_eq_true_iff.mp hn with e | e
      · rw [beq_iff_eq.mp e] at q; simp at q
      · exact beq_iff_eq.mp e
    refine wpAny_bind ((looks_subIn X e).here ?_)
    simp only [Bool.false_eq_true, if_false]
    refine wpAny_bind (wpAny_mono one (fun r s' z => ?_) fun _ _ e => e)
    obtain ⟨v, rfl, hq⟩ := z
    exact wpAny_pure hq
  · refine wpAny_bind (wpAny_pure ?_)
    simp only [Bool.false_eq_true, if_false]
    refine wpAny_bind (wpAny_mono one (fun r s' z => ?_) fun _ _ e => e)
    obtain ⟨v, rfl, hq⟩ := z
    exact wpAny_pure hq
end
section
variable {X : Cx} {CX : CXT} {k : Nat} {f C : Addr} {fd : FuncData} {ps : List Str} {sp : Sp}
theorem op_eqOwn (hs : PySem.W.findIn X.K (.ref C) "__eq__" = some (some (.ref f))) (hf : PySem.W.isFn X.K (.ref f) = true) (F : FnOk X.prog X.w X.K X.mg X.base CX0 k f fd ps sp) (hr : Room k X.A) (hb : Binds X.K fd ps []) : OpR X (compareOp .Eq) (rEqOwn X.K C sp false) := by
  intro pins s σ H x y v u Q I rx ry h
  obtain ⟨a, dx, fs, rfl, ha, ⟨t, ty, nf⟩, q⟩ := h
  cases (show v = Value.ref a from rx)
  obtain ⟨mA, O, _, _, _, _⟩ := ins_get I.hok ha
  obtain ⟨od, J, _⟩ := O.look
  obtain ⟨m, hF⟩ := I.fr
  obtain ⟨P, Z, p, _⟩ := kit_of I ry ty
  have lt := Z.ty (model X.prog X.w) s.heap I.kIn p
  rw [show compareOp .Eq (.ref a) u = richCompare .Eq (.ref a) u from rfl]
  refine PySem.W.cmp_K (op := .Eq) (tb := t) hr.units0 hF I.ok.mod.kin J lt nf hs hf ?_
  refine wpAny_mono (run_fn (us := [.ref a, u]) (vs := [.ref a, y]) F hr hb .nil pass0 I (.cons rfl (.cons ry .nil)) q) (fun w s' z => ?_) fun _ _ x => x
  obtain ⟨z', H', I', rz, b, eb, qz⟩ := z
  subst eb
  cases (show w = Value.bool b from rz)
  exact ⟨.bl b, H', I', rfl, by simpa using qz⟩
theorem op_neOwn (hs : PySem.W.findIn X.K (.ref C) "__eq__" = some (some (.ref f))) (hf : PySem.W.isFn X.K (.ref f) = true) (hne : PySem.W.findIn X.K (.ref C) "__ne__" = some (some (.builtin "object.__ne__"))) (hm : PySem.W.mroIn X.K C (.type "object") = some true) (F : FnOk X.prog X.w X.K X.mg X.base CX0 k f fd ps sp) (hr : Room (k + 1) X.A) (hb : Binds X.K fd ps []) : OpR X (compareOp .NotEq) (rEqOwn X.K C sp true) := by
  intro pins s σ H x y v u Q I rx ry h
  obtain ⟨a, dx, fs, rfl, ha, ⟨t, ty, nf⟩, q⟩ := h
  cases (show v = Value.ref a from rx)
  obtain ⟨mA, O, _, _, _, _⟩ := ins_get I.hok ha
  obtain ⟨od, J, _⟩ := O.look
  obtain ⟨m, hF⟩ := I.fr
  obtain ⟨P, Z, p, _⟩ := kit_of I ry ty
  have lt := Z.ty (model X.prog X.w) s.heap I.kIn p
  rw [show compareOp .NotEq (.ref a) u = richCompare .NotEq (.ref a) u from rfl]
  have hu : X.A.units + 1 < cLine := (show Room k X.A.in1 from hr.in1).units0
  refine ne_K (tb := t) hu I.kIn J lt nf hne hm hs hf ?_
  have r2 : Vals [.ref a, y] [.ref a, u] := .cons rfl (.cons ry .nil)
  have hl : ([Value.ref a, u] ++ ([] : List Value)).length = ps.length := by
    rw [List.append_nil, ← r2.length]; exact F.len _ _ _ _ q
  refine wpAny_call (codeAny_mono (F.run X.A.in1 X.stack s H ⟨[.ref a, u], []⟩ ([.ref a, u] ++ []) ([.ref a, y] ++ []) _ E0 hr.in1 I.env0.in1 (hb s [.ref a, u] I.kIn hl) (r2.append .nil) q) fun r s' hq => ?_)
  cases r with
  | error e => exact (pass0 pins σ H s e s' I hq)
  | ok fl =>
    cases fl with
    | ret w =>
      obtain ⟨z', H', I', rz, b, eb, qz⟩ := I.after hq
      subst eb
      cases (show w = Value.bool b from rz)
      exact ⟨b, rfl, .bl (!b), H', I', rfl, by simpa using qz⟩
    | next => exact False.elim hq
    | brk => exact False.elim hq
    | cont => exact False.elim hq
/-- the def runs below a built-in -/
theorem run_in1 {pins : List (Addr × Obj)} {σ : L2.St} {H : Hp} {s : Shared} {Q : VK} {us : List Value} {vs : List V} (F : FnOk X.prog X.w X.K X.mg X.base CX0 k f fd ps sp) (hr : Room (k + 1) X.A) (hb : Binds X.K fd ps []) (I : Inv X pins σ H s) (r : Vals vs us) (h : sp vs H Q E0) :
    wpAny (model X.prog X.w) X.A.in1 (call (.ref f) us) (EP X pins σ Q) X.xe s := by
  have hl : (us ++ ([] : List Value)).length = ps.length := by
    rw [List.append_nil, ← r.length]; exact F.len _ _ _ _ h
  refine wpAny_call (codeAny_mono (F.run X.A.in1 X.stack s H ⟨us, []⟩ (us ++ []) (vs ++ []) Q E0 hr.in1 I.env0.in1 (hb s us I.kIn hl) (r.append .nil) (by rw [List.append_nil]; exact h)) fun r s' hq => ?_)
  cases r with
  | error e => exact (pass0 pins σ H s e s' I hq)
  | ok fl =>
    cases fl with
    | ret w => exact I.after hq
    | next => exact False.elim hq
    | brk => exact False.elim hq
    | cont => exact False.elim hq
/-- len(o) -/
def rLenOwn (C : Addr) (sp : Sp) : List V → Hp → VK → Prop := fun xs H Q => ∃ a dx fs, xs = [.ref a] ∧ H a = some (.ins C dx fs) ∧ sp [.ref a] H (fun z H' => ∃ n : Nat, z = .int n ∧ n ≤ sizeLine ∧ Q (.int n) H') E0
theorem call_lenOwn (hs : PySem.W.findIn X.K (.ref C) "__len__" = some (some (.ref f))) (hf : PySem.W.isFn X.K (.ref f) = true) (F : FnOk X.prog X.w X.K X.mg X.base CX0 k f fd ps sp) (hr : Room (k + 1) X.A) (hb : Binds X.K fd ps []) : CallR X (.builtin "len") (rLenOwn C sp) := by
  intro pins s σ H xs us Q I r h
  obtain ⟨a, dx, fs, rfl, ha, q⟩ := h
  obtain ⟨u, rfl, ru⟩ := vals1 r
  cases (show u = Value.ref a from ru)
  obtain ⟨mA, O, _, _, _, _⟩ := ins_get I.hok ha
  obtain ⟨od, J, _⟩ := O.look
  obtain ⟨m, hF⟩ := I.fr
  have hl := line63
  refine PySem.W.len_K hF I.ok.mod.kin J hs hf (wpAny_mono (run_in1 (us := [.ref a]) (vs := [.ref a]) F hr hb I (.cons rfl .nil) q) (fun w s' z => ?_) fun _ _ x => x)
  obtain ⟨z', H', I', rz, n, e, hn, qz⟩ := z
  subst e
  obtain ⟨t, e⟩ := (show ∃ t, w = Value.int n t from rz)
  subst e
  exact ⟨⟨by omega, by omega⟩, .int n, H', I'.tok _, ⟨_, rfl⟩, qz⟩
end
end GB
set_option Elab.async false
set_option linter.all false
set_option maxRecDepth 100000
set_option maxHeartbeats 8000000
namespace GB
open PySem PySem.Spec L2 PyProof.Rows ItX
/-- the class of grounds, as its methods ask -/
structure GrK (K : PySem.W.Frag) (C : Addr) : Prop where
  cl : Cls K C
  n1 : NoAttr K C "_facts"
  n2 : NoAttr K C "_letters"
  n3 : NoAttr K C "_order"
  n4 : NoAttr K C "_fixed"
  n5 : NoAttr K C "_commuting"
  ty : ∀ (H : Hp) (a dx : Addr) (fs : List (Str × V)), H a = some (.ins C dx fs) → TyX K H (.ref a) (.ref C)
/-- whether two grounds tell the same -/
def eqG (g h : GD) : Bool := decide (g.letters.map (·.1) = h.letters.map (·.1)) && (decide (g.sel g.fixed = h.sel h.fixed) && (decide (g.sel g.comm = h.sel h.comm) && decide (g.facts = h.facts)))
def spLetM (C : Addr) : Sp := fun vs H Q _ => ∃ (G : Addr) (g : GD), vs = [.ref G] ∧ IsGr2 C H G g ∧ ∀ l H', H l = none → Same H H' → H' l = some (.dK (lkv g.letters)) → Q (.ref l) H'
def spFixM (C : Addr) : Sp := fun vs H Q _ => ∃ (G : Addr) (g : GD), vs = [.ref G] ∧ IsGr2 C H G g ∧ ∀ l H', H l = none → Same H H' → H' l = some (.lst (sts (g.sel g.fixed))) → Q (.ref l) H'
def spComM (C : Addr) : Sp := fun vs H Q _ => ∃ (G : Addr) (g : GD), vs = [.ref G] ∧ IsGr2 C H G g ∧ ∀ l H', H l = none → Same H H' → H' l = some (.lst (sts (g.sel g.comm))) → Q (.ref l) H'
def spFacM (C : Addr) : Sp := fun vs H Q _ => ∃ (G : Addr) (g : GD), vs = [.ref G] ∧ IsGr2 C H G g ∧ ∀ l H', H l = none → Same H H' → FactsAt H' l g.facts → Q (.ref l) H'
def spLenM (C : Addr) : Sp := fun vs H Q _ => ∃ (G : Addr) (g : GD), vs = [.ref G] ∧ IsGr2 C H G g ∧ Q (.int ((g.letters.length : Nat) : Int)) H
def spHasM (K : PySem.W.Frag) (C : Addr) : Sp := fun vs H Q _ => ∃ (G : Addr) (x : V) (g : GD), vs = [.ref G, x] ∧ IsGr2 C H G g ∧ ((∃ s : Str, x = .str s ∧ (g.letters.map (·.1)).Nodup ∧ Q (.bl (decide (s ∈ g.letters.map (·.1)))) H) ∨ (∃ t, TyX K H x t ∧ PySem.W.kitOne K t (.type "str") = some false ∧ Q (.bl false) H))
def spItM (C : Addr) : Nat → Sp := fun n vs H Q _ => ∃ (G : Addr) (g : GD), vs = [.ref G] ∧ IsGr2 C H G g ∧ ∀ l it, H l = some (.lst (sts (g.letters.map (·.1)))) → H it = none → n ≤ it → Q (.ref it) (upd H it (ItO l it 0))
def spEqM (K : PySem.W.Frag) (C : Addr) : Sp := fun vs H Q _ => ∃ (G : Addr) (y : V) (g : GD), vs = [.ref G, y] ∧ IsGr2 C H G g ∧ g.Fit ∧
  ((∃ G2 g2, y = .ref G2 ∧ IsGr2 C H G2 g2 ∧ g2.Fit ∧ (g.letters.map (·.1) = g2.letters.map (·.1) → g.letters = g2.letters) ∧ Q (.bl (eqG g g2)) H) ∨ (∃ t, TyX K H y t ∧ PySem.W.kitOne K t (.ref C) = some false ∧ Q (.bl false) H))
end GB
namespace K39
open PySem PySem.Spec L2 GB ItX
abbrev sLet : Stmt := inClass (topS 17) 1
abbrev sFix : Stmt := inClass (topS 17) 2
abbrev sCom : Stmt := inClass (topS 17) 3
abbrev sFac : Stmt := inClass (topS 17) 4
abbrev sLen : Stmt := inClass (topS 17) 6
abbrev sHas : Stmt := inClass (topS 17) 7
abbrev sIt : Stmt := inClass (topS 17) 8
abbrev sEq : Stmt := inClass (topS 17) 9
section
variable {P : Program} {w : World} {K : PySem.W.Frag} {mg : Str → Option Value} {base : Heap} {C : Addr}
theorem scLet : FnScope ["self"] ["self"] (defScope sLet) := ⟨rfl, rfl, rfl, by decide +kernel, rfl, by decide +kernel, by decide +kernel⟩
theorem scFix : FnScope ["self"] ["self"] (defScope sFix) := ⟨rfl, rfl, rfl, by decide +kernel, rfl, by decide +kernel, by decide +kernel⟩
theorem scCom : FnScope ["self"] ["self"] (defScope sCom) := ⟨rfl, rfl, rfl, by decide +kernel, rfl, by decide +kernel, by decide +kernel⟩
theorem scFac : FnScope ["self"] ["self"] (defScope sFac) := ⟨rfl, rfl, rfl, by decide +kernel, rfl, by decide +kernel, by decide +kernel⟩
theorem scLen : FnScope ["self"] ["self"] (defScope sLen) := ⟨rfl, rfl, rfl, by decide +kernel, rfl, by decide +kernel, by decide +kernel⟩
theorem scIt : FnScope ["self"] ["self"] (defScope sIt) := ⟨rfl, rfl, rfl, by decide +kernel, rfl, by decide +kernel, by decide +kernel⟩
theorem scHas : FnScope ["self", "letter"] ["self", "letter"] (defScope sHas) := ⟨rfl, rfl, rfl, by decide +kernel, rfl, by decide +kernel, by decide +kernel⟩
theorem scEq : FnScope ["self", "other"] ["self", "other"] (defScope sEq) := ⟨rfl, rfl, rfl, by decide +kernel, rfl, by decide +kernel, by decide +kernel⟩
theorem ok_let {f : Addr} {fd : FuncData} (F : Fun K "letters" "Ground.letters" sLet f fd) (T : Bl mg) (c : GrK K C) : FnOk P w K mg base CX0 1 f fd ["self"] (spLetM C) := by
  refine F.ok scLet (fun vs H Q E h => ?_) (fun cdv A outer s H vs Q E hr h => ?_)
  · obtain ⟨G, g, rfl, _⟩ := h
    rfl
  · obtain ⟨G, g, rfl, hG, q⟩ := h
    obtain ⟨dx, fs, l1, l2, l3, l4, l5, h0, h1, h2, h3, h4, h5, h6⟩ := hG.ex
    refine ⟨_, pss_one (ps_ret (pe_callTy call_dictD (by rfl) T.dict (by decide +kernel) (pa_cons (pe_fld (pv 0) rfl) pa_nil))), ?_⟩
    refine ⟨_, rfl, G, C, dx, fs, _, rfl, h0, c.cl, c.n2, h2.1, l2, _, rfl, .inl h2.2, fun l nl => ?_⟩
    obtain ⟨H1, s1, k1, e1⟩ := lay (o := .dK (lkv g.letters)) nl
    rw [e1]
    exact q l H1 nl s1 k1
theorem ok_fix {f : Addr} {fd : FuncData} (F : Fun K "fixed" "Ground.fixed" sFix f fd) (T : Bl mg) (c : GrK K C) : FnOk P w K mg base CX0 1 f fd ["self"] (spFixM C) := by
  refine F.ok scFix (fun vs H Q E h => ?_) (fun cdv A outer s H vs Q E hr h => ?_)
  · obtain ⟨G, g, rfl, _⟩ := h
    rfl
  · obtain ⟨G, g, rfl, hG, q⟩ := h
    obtain ⟨dx, fs, l1, l2, l3, l4, l5, h0, h1, h2, h3, h4, h5, h6⟩ := hG.ex
    refine ⟨_, pss_one (ps_ret (pe_callTy call_list_of (by rfl) T.list (by decide +kernel) (pa_cons (pe_fld (pv 0) rfl) pa_nil))), ?_⟩
    refine ⟨_, rfl, G, C, dx, fs, _, rfl, h0, c.cl, c.n4, h4.1, l4, _, rfl, .inl (SqL.of h4.2), fun l nl => ?_⟩
    obtain ⟨H1, s1, k1, e1⟩ := lay (o := .lst (sts (g.sel g.fixed))) nl
    rw [e1]
    exact q l H1 nl s1 k1
theorem ok_com {f : Addr} {fd : FuncData} (F : Fun K "commuting" "Ground.commuting" sCom f fd) (T : Bl mg) (c : GrK K C) : FnOk P w K mg base CX0 1 f fd ["self"] (spComM C) := by
  refine F.ok scCom (fun vs H Q E h => ?_) (fun cdv A outer s H vs Q E hr h => ?_)
  · obtain ⟨G, g, rfl, _⟩ := h
    rfl
  · obtain ⟨G, g, rfl, hG, q⟩ := h
    obtain ⟨dx, fs, l1, l2, l3, l4, l5, h0, h1, h2, h3, h4, h5, h6⟩ := hG.ex
    refine ⟨_, pss_one (ps_ret (pe_callTy call_list_of (by rfl) T.list (by decide +kernel) (pa_cons (pe_fld (pv 0) rfl) pa_nil))), ?_⟩
    refine ⟨_, rfl, G, C, dx, fs, _, rfl, h0, c.cl, c.n5, h5.1, l5, _, rfl, .inl (SqL.of h5.2), fun l nl => ?_⟩
    obtain ⟨H1, s1, k1, e1⟩ := lay (o := .lst (sts (g.sel g.comm))) nl
    rw [e1]
    exact q l H1 nl s1 k1
theorem ok_fac {f : Addr} {fd : FuncData} (F : Fun K "facts" "Ground.facts" sFac f fd) (T : Bl mg) (c : GrK K C) : FnOk P w K mg base CX0 1 f fd ["self"] (spFacM C) := by
  refine F.ok scFac (fun vs H Q E h => ?_) (fun cdv A outer s H vs Q E hr h => ?_)
  · obtain ⟨G, g, rfl, _⟩ := h
    rfl
  · obtain ⟨G, g, rfl, hG, q⟩ := h
    obtain ⟨dx, fs, l1, l2, l3, l4, l5, h0, h1, h2, h3, h4, h5, h6⟩ := hG.ex
    obtain ⟨ts, ht, hp⟩ := h1.2
    refine ⟨_, pss_one (ps_ret (pe_callTy call_list_of (by rfl) T.list (by decide +kernel) (pa_cons (pe_fld (pv 0) rfl) pa_nil))), ?_⟩
    refine ⟨_, rfl, G, C, dx, fs, _, rfl, h0, c.cl, c.n1, h1.1, l1, _, rfl, .inl (SqL.of ht), fun l nl => ?_⟩
    obtain ⟨H1, s1, k1, e1⟩ := lay (o := .lst (ts.map V.ref)) nl
    rw [e1]
    exact q l H1 nl s1 ⟨ts, k1, Paired.mapP hp fun _ _ r => r.mono s1⟩
theorem ok_len {f : Addr} {fd : FuncData} (F : Fun K "__len__" "Ground.__len__" sLen f fd) (T : Bl mg) (c : GrK K C) : FnOk P w K mg base CX0 1 f fd ["self"] (spLenM C) := by
  refine F.ok scLen (fun vs H Q E h => ?_) (fun cdv A outer s H vs Q E hr h => ?_)
  · obtain ⟨G, g, rfl, _⟩ := h
    rfl
  · obtain ⟨G, g, rfl, hG, q⟩ := h
    obtain ⟨dx, fs, l1, l2, l3, l4, l5, h0, h1, h2, h3, h4, h5, h6⟩ := hG.ex
    refine ⟨_, pss_one (ps_ret (pe_callB call_len_seq (by rfl) T.len PySem.boot_len (pa_cons (pe_fld (pv 0) rfl) pa_nil))), ?_⟩
    refine ⟨_, rfl, G, C, dx, fs, _, rfl, h0, c.cl, c.n3, h3.1, l3, _, rfl, .inl (SqL.of h3.2), ?_⟩
    rw [sts_len, List.length_map]
    exact q
theorem ok_it {f : Addr} {fd : FuncData} (F : Fun K "__iter__" "Ground.__iter__" sIt f fd) (TI : mg "iter" = none) (c : GrK K C) : FnN P w K mg base 1 f fd ["self"] (spItM C) := by
  refine okN F scIt (fun n vs H Q E h => ?_) (fun cdv A outer s H vs Q E hr h => ?_)
  · obtain ⟨G, g, rfl, _⟩ := h
    rfl
  · obtain ⟨G, g, rfl, hG, q⟩ := h
    obtain ⟨dx, fs, l1, l2, l3, l4, l5, h0, h1, h2, h3, h4, h5, h6⟩ := hG.ex
    refine ⟨_, pss_one (ps_ret (pe_callB call_iterN (by rfl) TI (by decide +kernel) (pa_cons (pe_fld (pv 0) rfl) pa_nil))), ?_⟩
    exact ⟨_, rfl, G, C, dx, fs, _, rfl, h0, c.cl, c.n3, h3.1, l3, _, rfl, SqL.of h3.2, fun it ni hn => q l3 it h3.2 ni hn⟩
theorem ok_has {f : Addr} {fd : FuncData} (F : Fun K "__contains__" "Ground.__contains__" sHas f fd) (T : Bl mg) (c : GrK K C) : FnOk P w K mg base CX0 1 f fd ["self", "letter"] (spHasM K C) := by
  refine F.ok scHas (fun vs H Q E h => ?_) (fun cdv A outer s H vs Q E hr h => ?_)
  · obtain ⟨G, x, g, rfl, _⟩ := h
    rfl
  · obtain ⟨G, x, g, rfl, hG, h⟩ := h
    obtain ⟨dx, fs, l1, aL, l3, l4, l5, h0, h1, ⟨hl, hL⟩, h3, h4, h5, h6⟩ := hG.ex
    have hu := hu_of hr
    refine ⟨_, pss_one (ps_ret (pe_and (pe_callB call_isi (by rfl) T.isi (by decide +kernel) (pa_cons (pv 1) (pa_cons (pe_bltn (v := .ty "str") (by rfl) T.str (by decide +kernel) rfl) (pa_nil)))) (pe_one (pe_cmp (pc_din hu (pv 1) (pe_fld (pv 0) rfl)) rfl)))), ?_⟩
    rcases h with ⟨z, rfl, nd, q⟩ | ⟨t, ht, hk, q⟩
    · refine ⟨_, rfl, .str z, .ty "str", .type "str", .type "str", true, rfl, .ty "str", .base (.str z), kit_ty (by decide +kernel), true, rfl, ?_⟩
      by_cases m : z ∈ g.letters.map (·.1)
      · obtain ⟨q1, hq1, e1⟩ := List.mem_map.mp m
        rw [decide_eq_true m] at q
        have hv : valV (lkv g.letters) (.inr z : Key) = some (.int (q1.2 : Int)) := valV_lkv nd (by rw [← e1]; exact hq1)
        refine ⟨_, rfl, _, rfl, G, C, dx, fs, _, rfl, h0, c.cl, c.n2, hl, aL, some (.int (q1.2 : Int)), rfl, (by rw [← hv]; exact DGet.k (k := .inr z) hL), ?_⟩
        exact q
      · rw [decide_eq_false m] at q
        have hv : valV (lkv g.letters) (.inr z : Key) = none := valV_no m
        refine ⟨_, rfl, _, rfl, G, C, dx, fs, _, rfl, h0, c.cl, c.n2, hl, aL, none, rfl, (by rw [← hv]; exact DGet.k (k := .inr z) hL), ?_⟩
        exact q
    · exact ⟨_, rfl, x, .ty "str", t, .type "str", false, rfl, .ty "str", ht, hk, false, rfl, q⟩
end
end K39
set_option Elab.async false
set_option linter.all false
set_option maxRecDepth 100000
set_option maxHeartbeats 4000000
/-! Two tuples of the very same things. -/
namespace GB
open PySem PySem.Spec L2 PyProof.Rows PySem.SeqAt
def simpV : V → Bool
  | .non => true
  | .bl _ => true
  | .int _ => true
  | .str _ => true
  | .ref _ => true
  | _ => false
theorem simp_eq {A : Around} {s : Shared} {v : V} {u u' : Value} (h : simpV v = true) (r : RelV v u) (r' : RelV v u') : EqAt A s u u' true := by
  cases v with
  | non => cases (show u = Value.none from r); cases (show u' = Value.none from r'); exact .same _
  | bl b => cases (show u = Value.bool b from r); cases (show u' = Value.bool b from r'); exact .same _
  | int i =>
    obtain ⟨t, rfl⟩ := (show ∃ t, u = Value.int i t from r)
    obtain ⟨t', rfl⟩ := (show ∃ t, u' = Value.int i t from r')
    have := EqAt.int_int (A := A) (s := s) i t i t'
    rwa [beq_self_eq_true] at this
  | str x =>
    obtain ⟨t, rfl⟩ := (show ∃ t, u = Value.str x t from r)
    obtain ⟨t', rfl⟩ := (show ∃ t, u' = Value.str x t from r')
    have := EqAt.str_str (A := A) (s := s) x t x t'
    rwa [beq_self_eq_true] at this
  | ref a => cases (show u = Value.ref a from r); cases (show u' = Value.ref a from r'); exact .same _
  | _ => cases h
theorem vals_idx : ∀ {xs : List V} {us : List Value}, Vals xs us → ∀ j (h : j < us.length), ∃ v, xs[j]? = some v ∧ RelV v us[j]
  | _, _, .cons r _, 0, _ => ⟨_, rfl, r⟩
  | _, _, .cons _ t, j + 1, h => vals_idx t j (by simpa using h)
def rNeI : R2 := fun x y H Q => ∃ p q xs, x = .ref p ∧ y = .ref q ∧ H p = some (.tup xs) ∧ H q = some (.tup xs) ∧ (∀ v ∈ xs, simpV v = true) ∧ Q (.bl false) H
theorem op_neI {X : Cx} (hu : X.A.units < cLine) : OpR X (compareOp .NotEq) rNeI := by
  intro pins s σ H x y v u Q I rx ry h
  obtain ⟨p, q, xs, rfl, rfl, hp, hq, hs, k⟩ := h
  cases rx
  cases ry
  obtain ⟨_, its, r1, t1⟩ := (show ObjOk X.prog X.w H s.heap p (.tup xs) from I.hok p _ hp)
  obtain ⟨_, its2, r2, t2⟩ := (show ObjOk X.prog X.w H s.heap q (.tup xs) from I.hok q _ hq)
  have e := RcNeAt.tuples (e := fun _ => true) t1 t2 hu fun j h1 h2 => by
    obtain ⟨v1, e1, q1⟩ := vals_idx r1 j (by simpa using h1)
    obtain ⟨v2, e2, q2⟩ := vals_idx r2 j (by simpa using h2)
    rw [e1] at e2
    obtain rfl := Option.some.inj e2
    exact simp_eq (hs _ (List.mem_of_getElem? e1)) (by simpa using q1) (by simpa using q2)
  have hsz : its.toArray.size = its2.toArray.size := by simp [← r1.length, ← r2.length]
  refine e X.prog X.w X.xe _ ?_
  have eb : (!((List.range (min its.toArray.size its2.toArray.size)).all (fun _ => true) && its.toArray.size == its2.toArray.size)) = false := by
    rw [hsz]; simp
  first
    | (rw [eb]; exact ⟨.bl false, H, I, rfl, k⟩)
    | (show EP X pins σ Q (.bool _) s; rw [eb]; exact ⟨.bl false, H, I, rfl, k⟩)
end GB
set_option Elab.async false
set_option linter.all false
set_option maxRecDepth 100000
set_option maxHeartbeats 4000000
/-! A ground's terms can be laid: their texts are plain, they are not deep. -/
namespace GB
open PySem PySem.Spec L2
theorem name_ok {z : Str} (h : nameB z = true) : PyData.strOk z = true := by
  unfold nameB at h
  have h2 := (Bool.and_eq_true_iff.mp h).2
  unfold PyData.strOk
  rw [Array.all_eq_true]
  intro i hi
  have hm : z.cps[i] ∈ z.cps.toList := Array.getElem_mem_toList hi
  have hs := List.all_eq_true.mp h2 _ hm
  unfold signB at hs
  have h3 := (Bool.and_eq_true_iff.mp hs).2
  have h4 : ¬ ([122] < [z.cps[i]]) := by
    intro hlt
    rw [decide_eq_true hlt] at h3
    cases h3
  have h5 : ¬ (122 < z.cps[i]) := fun hlt => h4 (List.Lex.rel hlt)
  exact decide_eq_true (by omega)
theorem ds_lay : ∀ {ds : List PyData} {m : Nat}, (∀ (i : Nat) d, ds[i]? = some d → PyData.canLay0 d = true ∧ PyData.depth d ≤ m) → PyData.canLayAll0 ds = true ∧ PyData.depthAll ds ≤ m
  | [], m, _ => ⟨rfl, Nat.zero_le _⟩
  | d :: r, m, h => by
    obtain ⟨a1, a2⟩ := h 0 d rfl
    obtain ⟨b1, b2⟩ := ds_lay (ds := r) (m := m) fun i e he => h (i + 1) e he
    refine ⟨?_, ?_⟩
    · show (PyData.canLay0 d && PyData.canLayAll0 r) = true
      rw [a1, b1]; rfl
    · show max (PyData.depth d) (PyData.depthAll r) ≤ m
      omega
theorem tm_lay {L : List (Str × Nat)} (hL : ∀ q ∈ L, PyData.strOk q.1 = true) {ns : List Str} {t : Tm} (h : TmOk L ns t) : PyData.canLay0 t.d = true ∧ PyData.depth t.d ≤ 2 * t.size := by
  induction h with
  | @mk ns w n ks hH hK ih =>
    have hks : PyData.canLayAll0 (ks.map Tm.d) = true ∧ PyData.depthAll (ks.map Tm.d) ≤ 2 * Tm.sizes ks := ds_lay fun i d hd => by
      rw [List.getElem?_map] at hd
      cases e : ks[i]? with
      | none => rw [e] at hd; cases hd
      | some k =>
        rw [e] at hd
        obtain rfl := Option.some.inj hd
        obtain ⟨a1, a2⟩ := ih i k e
        have := sizes_mem (List.mem_of_getElem? e)
        exact ⟨a1, by omega⟩
    obtain ⟨k1, k2⟩ := hks
    have hn : PyData.strOk n = true := by
      clear hK ih k1 k2
      generalize ks.length = m at hH
      cases hH with
      | val h => exact name_ok h
      | fail h => exact name_ok h
      | name h _ => exact name_ok h
      | use h => exact hL _ h
      | bind h _ => exact name_ok h
      | op h => decide +kernel
    have hw : PyData.strOk w = true := by
      clear hK ih k1 k2
      generalize ks.length = m at hH
      cases hH with
      | op h => exact (show ∀ q ∈ opsW, PyData.strOk q.1 = true by decide +kernel) _ h
      | _ => decide +kernel
    rw [d_node, Tm.size]
    unfold nodeT
    have cs : ∀ x : Str, PyData.canLay0 (.str x) = PyData.strOk x := fun x => by rw [PyData.canLay0]
    have ct : ∀ l : List PyData, PyData.canLay0 (.tuple l) = PyData.canLayAll0 l := fun l => by rw [PyData.canLay0]
    have cc : ∀ (d : PyData) (l : List PyData), PyData.canLayAll0 (d :: l) = (PyData.canLay0 d && PyData.canLayAll0 l) := fun d l => rfl
    have cn : PyData.canLayAll0 [] = true := rfl
    have es : ∀ x : Str, PyData.depth (.str x) = 0 := fun x => by rw [PyData.depth]
    have et : ∀ l : List PyData, PyData.depth (.tuple l) = PyData.depthAll l + 1 := fun l => by rw [PyData.depth]
    have ec : ∀ (d : PyData) (l : List PyData), PyData.depthAll (d :: l) = max (PyData.depth d) (PyData.depthAll l) := fun d l => rfl
    have en : PyData.depthAll [] = 0 := rfl
    split
    · simp only [cs, ct, cc, cn, es, et, ec, en, hn, hw, k1, Bool.and_self, true_and]
      omega
    · split
      · simp only [cs, ct, cc, cn, es, et, ec, en, hn, hw, k1, Bool.and_self, true_and]
        omega
      · split
        · simp only [cs, ct, cc, cn, es, et, ec, en, hn, hw, k1, Bool.and_self, true_and]
          omega
        · simp only [cs, ct, cc, cn, es, et, ec, en, hn, hw, Bool.and_self, true_and]
          omega
theorem tm_shaped {L : List (Str × Nat)} (hL : ∀ q ∈ L, PyData.strOk q.1 = true) {ns : List Str} {t : Tm} (h : TmOk L ns t) (hs : t.size ≤ 32) : SeqAt.shaped t.d = true := by
  obtain ⟨h1, h2⟩ := tm_lay hL h
  unfold SeqAt.shaped
  rw [h1, decide_eq_true (by omega)]
  rfl
end GB
set_option Elab.async false
set_option linter.all false
set_option maxRecDepth 100000
set_option maxHeartbeats 8000000
namespace GB
open PySem PySem.Spec L2 PyProof.Rows
theorem GD.Fit.okl {g : GD} (h : g.Fit) : ∀ x ∈ g.letters.map (·.1), PyData.strOk x = true := fun x hx => by
  obtain ⟨q, hq, rfl⟩ := List.mem_map.mp hx
  exact name_ok (h.nm q hq)
theorem GD.Fit.oks {g : GD} (h : g.Fit) (xs : List Str) : ∀ x ∈ g.sel xs, PyData.strOk x = true := fun x hx => h.okl x (List.mem_filter.mp hx).1
theorem GD.Fit.okf {g : GD} (h : g.Fit) : ∀ f ∈ g.facts, PyData.strOk f.x = true ∧ (∀ v ∈ f.vals, PyData.strOk v = true) ∧ PyData.strOk f.kind = true ∧ PyData.strOk f.en = true := fun f hf =>
  have o := h.fa f hf
  ⟨h.okl _ (h.fs _ o.x), fun v hv => ok3 v (o.vals v hv), by rcases o.kind with e | e <;> rw [e] <;> decide +kernel, by rcases o.en with e | e <;> rw [e] <;> decide +kernel⟩
theorem lkv_same {ls : List (Str × Nat)} (nd : (ls.map (·.1)).Nodup) : ∀ p ∈ lkv ls, valV (lkv ls) p.1 = some p.2 ∧ flatB p.2 = true := fun p hp => by
  obtain ⟨q, hq, rfl⟩ := List.mem_map.mp hp
  exact ⟨valV_lkv nd hq, rfl⟩
end GB
namespace K39
open PySem PySem.Spec L2 GB
section
variable {P : Program} {w : World} {K : PySem.W.Frag} {mg : Str → Option Value} {base : Heap} {C : Addr}
theorem ok_eq {f : Addr} {fd : FuncData} (F : Fun K "__eq__" "Ground.__eq__" sEq f fd) (T : Bl mg) (mG : mg "Ground" = some (.ref C)) (kO : PySem.W.kitOne K (.ref C) (.ref C) = some true) (c : GrK K C) : FnOk P w K mg base CX0 1 f fd ["self", "other"] (spEqM K C) := by
  refine F.ok scEq (fun vs H Q E h => ?_) (fun cdv A outer s H vs Q E hr h => ?_)
  · obtain ⟨G, y, g, rfl, _⟩ := h
    rfl
  · obtain ⟨G, y, g, rfl, hG, fit, h⟩ := h
    have hu : (A.deeper (PyProof.Rows.envOfC "Ground.__eq__" (defScope sEq) s.heap.objs.size f cdv)).units + 64 < cLine := by have := hr.un; omega
    have hu0 : (A.deeper (PyProof.Rows.envOfC "Ground.__eq__" (defScope sEq) s.heap.objs.size f cdv)).units < cLine := by omega
    refine ⟨_, pss_one (ps_ret (pe_and (pe_callB call_isi (by rfl) T.isi (by decide +kernel) (pa_cons (pv 1) (pa_cons (pe_glob (v := .ref C) rfl mG rfl) (pa_nil))))
      (pe_and (pe_cmpR (op_eqD hu) (pe_fld (pv 0) rfl) (pe_fld (pv 1) rfl) (nomark _)) (pe_and (pe_cmpR (op_eq_dictA hu0) (pe_fld (pv 0) rfl) (pe_fld (pv 1) rfl) (nomark _))
      (pe_and (pe_cmpR (op_eqD hu) (pe_fld (pv 0) rfl) (pe_fld (pv 1) rfl) (nomark _)) (pe_and (pe_cmpR (op_eqD hu) (pe_fld (pv 0) rfl) (pe_fld (pv 1) rfl) (nomark _)) (pe_one (pe_cmpR (op_eqD hu) (pe_fld (pv 0) rfl) (pe_fld (pv 1) rfl) (nomark _))))))))), ?_⟩
    rcases h with ⟨G2, g2, rfl, hG2, fit2, cond, q⟩ | ⟨t, ht, hk, q⟩
    · obtain ⟨dx, fs, l1, l2, l3, l4, l5, h0, h1, h2, h3, h4, h5, h6⟩ := hG.ex
      obtain ⟨dx', fs', m1, m2, m3, m4, m5, k0, k1, k2, k3, k4, k5, k6⟩ := hG2.ex
      refine ⟨_, rfl, .ref G2, .ref C, .ref C, .ref C, true, rfl, .own C, c.ty H G2 dx' fs' k0, kO, true, rfl, ?_⟩
      refine iteT ?_
      refine ⟨_, rfl, G, C, dx, fs, _, rfl, h0, c.cl, c.n3, h3.1, _, rfl, G2, C, dx', fs', _, rfl, k0, c.cl, c.n3, k3.1, strD (g.letters.map (·.1)), strD (g2.letters.map (·.1)), dp_strD (SqL.of h3.2), dp_strD (SqL.of k3.2), shp_strD fit.okl, shp_strD fit2.okl, ?_⟩
      rw [eqv_strD]
      unfold eqG at q
      by_cases e1 : g.letters.map (·.1) = g2.letters.map (·.1)
      · rw [decide_eq_true e1] at q ⊢
        refine ⟨true, rfl, ?_⟩
        refine iteT ?_
        have eL := cond e1
        refine ⟨_, rfl, G, C, dx, fs, _, rfl, h0, c.cl, c.n2, h2.1, _, rfl, G2, C, dx', fs', _, rfl, k0, c.cl, c.n2, k2.1, l2, m2, lkv g.letters, lkv g2.letters, rfl, rfl, h2.2, k2.2, by rw [eL], by rw [← eL]; exact lkv_same fit.nd, ?_⟩
        refine ⟨true, rfl, ?_⟩
        refine iteT ?_
        refine ⟨_, rfl, G, C, dx, fs, _, rfl, h0, c.cl, c.n4, h4.1, _, rfl, G2, C, dx', fs', _, rfl, k0, c.cl, c.n4, k4.1, strD (g.sel g.fixed), strD (g2.sel g2.fixed), dp_strD (SqL.of h4.2), dp_strD (SqL.of k4.2), shp_strD (fit.oks _), shp_strD (fit2.oks _), ?_⟩
        rw [eqv_strD]
        by_cases e2 : g.sel g.fixed = g2.sel g2.fixed
        · rw [decide_eq_true e2] at q ⊢
          refine ⟨true, rfl, ?_⟩
          refine iteT ?_
          refine ⟨_, rfl, G, C, dx, fs, _, rfl, h0, c.cl, c.n5, h5.1, _, rfl, G2, C, dx', fs', _, rfl, k0, c.cl, c.n5, k5.1, strD (g.sel g.comm), strD (g2.sel g2.comm), dp_strD (SqL.of h5.2), dp_strD (SqL.of k5.2), shp_strD (fit.oks _), shp_strD (fit2.oks _), ?_⟩
          rw [eqv_strD]
          by_cases e3 : g.sel g.comm = g2.sel g2.comm
          · rw [decide_eq_true e3] at q ⊢
            refine ⟨true, rfl, ?_⟩
            refine iteT ?_
            refine ⟨_, rfl, G, C, dx, fs, _, rfl, h0, c.cl, c.n1, h1.1, _, rfl, G2, C, dx', fs', _, rfl, k0, c.cl, c.n1, k1.1, factsD g.facts, factsD g2.facts, dp_factsD h1.2, dp_factsD k1.2, shp_factsD fit.okf, shp_factsD fit2.okf, ?_⟩
            rw [eqv_factsD]
            exact q
          · rw [decide_eq_false e3] at q ⊢
            refine ⟨false, rfl, ?_⟩
            refine iteF ?_
            exact q
        · rw [decide_eq_false e2] at q ⊢
          refine ⟨false, rfl, ?_⟩
          refine iteF ?_
          exact q
      · rw [decide_eq_false e1] at q ⊢
        refine ⟨false, rfl, ?_⟩
        refine iteF ?_
        exact q
    · refine ⟨_, rfl, y, .ref C, t, .ref C, false, rfl, .own C, ht, hk, false, rfl, ?_⟩
      exact q
end
end K39
set_option Elab.async false
set_option linter.all false
set_option maxRecDepth 100000
set_option maxHeartbeats 4000000
/-! a != b, two lists whose items are equal: each pair of items plain data, or two dicts of plain values. -/
namespace PySem.SeqAt
open AutoSeq1 (wpAny_loadPart')
open MeetsSeq MeetsSeq2 MeetsSeq3 SeqRoads2
section
variable {prog : Program} {w : World}
theorem gb_ne_turns (l b : Addr) (us ws : Array Value) (n n2 : Nat) (dd dd2 : Option Addr) (sl sl2 : Array (Option Value)) (hsz : us.size = ws.size) (k : Nat) :
    ∀ i : Nat, us.size - i = k → MeetsIn prog w (Builtin.«list.__eq__.loop» ⟨[.ref l, .ref b, rawInt i, rawInt 3], []⟩)
      (fun A R s => s.heap.get? l = some { cls := .type "list", dict := dd, data := .seq us n, slots := sl } ∧ s.heap.get? b = some { cls := .type "list", dict := dd2, data := .seq ws n2, slots := sl2 } ∧
        (∀ j (h1 : j < us.size) (h2 : j < ws.size), EqP prog w A.in1 s us[j] ws[j] true) ∧ R (.ok (.ret (.bool false))) s) := by
  induction k with
  | zero =>
    intro i hk A R s h
    obtain ⟨hp, g, d, tk, os⟩ := s
    obtain ⟨hl, hb, he, h⟩ := h
    wp_walk using wpAny_loadPart' hl, wpAny_loadPart' hb
    have e1 : us[((i : Nat) : Int).toNat]? = none := by simp; omega
    have e2 : ws[((i : Nat) : Int).toNat]? = none := by simp; omega
    rw [e1, e2]
    wp_walk using wpAny_loadPart' hl, wpAny_loadPart' hb
    show R (.ok (.ret (.bool (us.size != ws.size)))) _
    rw [hsz]
    simpa using h
  | succ k ih =>
    intro i hk A R s h
    obtain ⟨hp, g, d, tk, os⟩ := s
    obtain ⟨hl, hb, he, h⟩ := h
    wp_walk using wpAny_loadPart' hl, wpAny_loadPart' hb
    have l1 : i < us.size := by omega
    have l2 : i < ws.size := by omega
    have e1 : us[((i : Nat) : Int).toNat]? = some us[i] := by simp [l1]
    have e2 : ws[((i : Nat) : Int).toNat]? = some ws[i] := by simp [l2]
    have ec : ((i : Int) + 1) = ((i + 1 : Nat) : Int) := by push_cast; rfl
    rw [e1, e2]
    refine wpAny_bind (he i l1 l2 _ _ ?_)
    wp_walk
    rw [ec]
    exact ⟨plainId_quiet plain_eq_loop _, codeAny_builtin entry_eq_loop (by
      rw [Around.under_plainId plain_eq_loop _]
      exact ih (i + 1) (by omega) A R _ ⟨hl, hb, he, h⟩)⟩
theorem gb_ne_lists (l b : Addr) (us ws : Array Value) (n n2 : Nat) (dd dd2 : Option Addr) (sl sl2 : Array (Option Value)) (hsz : us.size = ws.size) :
    MeetsIn prog w (Builtin.«list.__ne__» ⟨[.ref l, .ref b], []⟩)
      (fun A R s => s.heap.get? l = some { cls := .type "list", dict := dd, data := .seq us n, slots := sl } ∧ s.heap.get? b = some { cls := .type "list", dict := dd2, data := .seq ws n2, slots := sl2 } ∧
        (∀ j (h1 : j < us.size) (h2 : j < ws.size), EqP prog w A.in1 s us[j] ws[j] true) ∧ R (.ok (.ret (.bool false))) s) := by
  intro A R s h
  obtain ⟨hp, g, d, tk, os⟩ := s
  obtain ⟨hl, hb, he, h⟩ := h
  have f3 := AutoSeq1.sub_list_list
  have hne : ¬ (us.size != ws.size) = true := by simp [hsz]
  wp_walk using wpAny_loadPart' hl, wpAny_loadPart' hb
  exact ⟨plainId_quiet plain_eq_loop _, codeAny_builtin entry_eq_loop (by
    rw [Around.under_plainId plain_eq_loop _]
    exact gb_ne_turns l b us ws n n2 dd dd2 sl sl2 hsz _ 0 rfl A R _ ⟨hl, hb, he, h⟩)⟩
theorem gb_rc_ne {A : Around} {s : Shared} {l b : Addr} {us ws : Array Value} (hl : s.heap.IsList l us) (hb : s.heap.IsList b ws) (hsz : us.size = ws.size) (hu : A.units < cLine)
    (he : ∀ j (h1 : j < us.size) (h2 : j < ws.size), EqP prog w A.in1 s us[j] ws[j] true) (E Q : Value → Shared → Prop) (h : Q (.bool false) s) : wpAny (model prog w) A (richCompare .NotEq (.ref l) (.ref b)) Q E s := by
  obtain ⟨⟨c, dd, da, sl⟩, ho, hc, n, hd⟩ := id hl
  obtain ⟨⟨c2, dd2, da2, sl2⟩, ho2, hc2, n2, hd2⟩ := id hb
  simp only at hc hd hc2 hd2
  subst hc hd hc2 hd2
  have ta : s.TypeIs (.ref l) "list" := ⟨_, ho, rfl⟩
  have tb : s.TypeIs (.ref b) "list" := ⟨_, ho2, rfl⟩
  exact wpAny_richCompare_same_room (op := .NotEq) ta tb F.slot_list_ne (call_meetsIn F.slot_list_ne ta F.entry_list_ne (F.args_list_ne_2 _ _) (gb_ne_lists l b us ws n n2 dd dd2 sl sl2 hsz)
    ⟨ho, ho2, he, show Value.bool false ≠ Value.notImplemented ∧ Q (.bool false) s from ⟨(fun x => nomatch x), h⟩⟩) hu
end
end PySem.SeqAt
namespace GB
open PySem PySem.Spec L2 PyProof.Rows
/-- two equal things: plain data, or two dicts of plain values -/
def EqI (K : PySem.W.Frag) (H : Hp) (x y : V) : Prop := (∃ d e, Dp K H x d ∧ Dp K H y e ∧ SeqAt.shaped d = true ∧ SeqAt.shaped e = true ∧ PyData.eqv d e = true) ∨
  ∃ a b ks ls, x = .ref a ∧ y = .ref b ∧ a ≠ b ∧ H a = some (.dK ks) ∧ H b = some (.dK ls) ∧ ks.length = ls.length ∧ ∀ p ∈ ks, valV ls p.1 = some p.2 ∧ flatB p.2 = true
def rNeLE (K : PySem.W.Frag) : R2 := fun x y H Q => ∃ a b xs ys, x = .ref a ∧ y = .ref b ∧ SqL K H a xs ∧ SqL K H b ys ∧ Paired (EqI K H) xs ys ∧ Q (.bl false) H
section
variable {X : Cx} {pins : List (Addr × Obj)} {σ : L2.St} {H : Hp} {s : Shared}
theorem eqI_run (I : Inv X pins σ H s) {A : Around} (hu : A.units + 64 < cLine) : ∀ (x y : V) (v u : Value), EqI X.K H x y → RelV x v → RelV y u → SeqAt.EqP X.prog X.w A s v u true := by
  intro x y v u h rx ry
  rcases h with ⟨d, e, hd, he, sd, se, q⟩ | ⟨a, b, ks, ls, rfl, rfl, ne, ea, eb, hl, hp⟩
  · obtain ⟨as, r1⟩ := Dp.reads I d x v hd rx
    obtain ⟨bs, r2⟩ := Dp.reads I e y u he ry
    have := SeqAt.eqAt_reads d e A s v u as bs r1 r2 (SeqAt.canLay_of_shaped sd) (SeqAt.canLay_of_shaped se) (SeqAt.room_of_shaped sd hu)
    rw [q] at this
    exact this.eqP
  · cases (show v = Value.ref a from rx)
    cases (show u = Value.ref b from ry)
    obtain ⟨_, ya, va, ra, da⟩ := (show ObjOk X.prog X.w H s.heap a (.dK ks) from I.hok a _ ea)
    obtain ⟨_, yb, vb, rb, db⟩ := (show ObjOk X.prog X.w H s.heap b (.dK ls) from I.hok b _ eb)
    have e : va.length = vb.length := by rw [← ra.length, ← rb.length]; exact hl
    refine SeqAt.eqP_refs ne fun E Q h => ?_
    refine PySem.W.keq_eq (knd := mixKind X.prog X.w) (r := true) ya yb da db (by omega) (fun _ => hits_all rb ra hp) ?_
    simpa [e] using h
theorem eqIs_run (I : Inv X pins σ H s) {A : Around} (hu : A.units + 64 < cLine) {xs ys : List V} (hp : Paired (EqI X.K H) xs ys) :
    ∀ {us ws : List Value}, Vals xs us → Vals ys ws → ∀ j (h1 : j < us.length) (h2 : j < ws.length), SeqAt.EqP X.prog X.w A s us[j] ws[j] true := by
  induction hp with
  | nil =>
    intro us ws r1 r2 j h1 h2
    cases r1
    exact absurd h1 (Nat.not_lt_zero j)
  | cons h _ k =>
    intro us ws r1 r2 j h1 h2
    cases r1 with
    | cons a1 b1 =>
      cases r2 with
      | cons a2 b2 =>
        cases j with
        | zero => exact eqI_run I hu _ _ _ _ h a1 a2
        | succ j => exact k b1 b2 j (Nat.lt_of_succ_lt_succ h1) (Nat.lt_of_succ_lt_succ h2)
end
section
variable {X : Cx}
theorem op_neLE (hu : X.A.units + 65 < cLine) : OpR X (compareOp .NotEq) (rNeLE X.K) := by
  intro pins s σ H x y v u Q I rx ry h
  obtain ⟨a, b, xs, ys, rfl, rfl, ha, hb, hp, q⟩ := h
  cases (show v = Value.ref a from rx)
  cases (show u = Value.ref b from ry)
  obtain ⟨us, r1, p1, _⟩ := I.list ha
  obtain ⟨ws, r2, p2, _⟩ := I.list hb
  have hsz : us.toArray.size = ws.toArray.size := by
    rw [List.size_toArray, List.size_toArray, ← r1.length, ← r2.length]
    exact Paired.length hp
  rw [show compareOp .NotEq (.ref a) (.ref b) = richCompare .NotEq (.ref a) (.ref b) from rfl]
  refine SeqAt.gb_rc_ne p1.isList p2.isList hsz (by omega) (fun j h1 h2 => ?_) _ _ ⟨.bl false, H, I, rfl, q⟩
  have k := eqIs_run I (A := X.A.in1) (show X.A.units + 1 + 64 < cLine by omega) hp r1 r2 j (by simpa using h1) (by simpa using h2)
  simpa using k
end
end GB
set_option Elab.async false
set_option linter.all false
set_option maxRecDepth 100000
set_option maxHeartbeats 8000000
namespace GB
open PySem PySem.Spec L2 K39
/-- the same list of texts several times -/
def repD (l : List Str) (n : Nat) : PyData := .list (List.replicate n (strD l))
theorem dps_rep {K : PySem.W.Frag} {H : Hp} {l : List Str} : ∀ {ws : List Addr} {n : Nat}, ws.length = n → (∀ w ∈ ws, H w = some (.lst (sts l))) → DpAll K H (ws.map V.ref) (List.replicate n (strD l))
  | [], n, h, _ => by subst h; exact .nil
  | w :: ws, n, h, k => by
    subst h
    rw [List.length_cons, List.replicate_succ]
    exact .cons (dp_strD (SqL.of (k w List.mem_cons_self))) (dps_rep rfl fun x hx => k x (List.mem_cons_of_mem _ hx))
theorem pl_rep (l : List Str) (n : Nat) : plO (repD l n) = true := by
  rw [repD, plO]
  induction n with
  | zero => rfl
  | succ n ih => rw [List.replicate_succ, plOs, ih, pl_strD]; rfl
theorem shp_rep {l : List Str} (h : ∀ x ∈ l, PyData.strOk x = true) (n : Nat) : SeqAt.shaped (repD l n) = true := by
  have h1 : PyData.canLayAll0 (List.replicate n (strD l)) = true := by
    induction n with
    | zero => simp [PyData.canLayAll0]
    | succ n ih =>
      have c0 : PyData.canLay0 (strD l) = true := by simp only [strD, PyData.canLay0, lay_strs l h]
      simp only [List.replicate_succ, PyData.canLayAll0, ih, c0, Bool.and_true]
  have h2 : PyData.depthAll (List.replicate n (strD l)) ≤ 1 := by
    induction n with
    | zero => simp [PyData.depthAll]
    | succ n ih =>
      have : PyData.depth (strD l) = 1 := by simp [strD, PyData.depth, dep_strs]
      have ih' := ih (by
        simp only [List.replicate_succ, PyData.canLayAll0, Bool.and_eq_true] at h1
        exact h1.2)
      simp only [List.replicate_succ, PyData.depthAll]
      omega
  simp only [SeqAt.shaped, repD, PyData.canLay0, PyData.depth, h1, Bool.true_and, decide_eq_true_eq]
  omega
/-- a list of truths -/
def bolD (l : List Bool) : PyData := .list (l.map .bool)
theorem dps_bol {K : PySem.W.Frag} {H : Hp} : ∀ l : List Bool, DpAll K H (l.map V.bl) (l.map PyData.bool)
  | [] => .nil
  | b :: r => .cons (.bl b) (dps_bol r)
theorem pl_bol (l : List Bool) : plO (bolD l) = true := by
  rw [bolD, plO]
  induction l with
  | nil => rfl
  | cons b r ih => rw [List.map_cons, plOs, ih]; rfl
theorem shp_bol (l : List Bool) : SeqAt.shaped (bolD l) = true := by
  have h1 : PyData.canLayAll0 (l.map PyData.bool) = true := by
    induction l with
    | nil => simp [PyData.canLayAll0]
    | cons b r ih => simp only [List.map_cons, PyData.canLayAll0, ih, PyData.canLay0, Bool.and_true]
  have h2 : PyData.depthAll (l.map PyData.bool) = 0 := by
    induction l with
    | nil => simp [PyData.depthAll]
    | cons b r ih => simp [PyData.depthAll, PyData.depth, ih (by simp only [List.map_cons, PyData.canLayAll0, Bool.and_eq_true] at h1; exact h1.2)]
  simp only [SeqAt.shaped, bolD, PyData.canLay0, PyData.depth, h1, h2]
  rfl
theorem rep1 {α : Type} (n : Nat) (x : α) : (List.replicate n [x]).flatten = List.replicate n x := by
  induction n with
  | zero => rfl
  | succ n ih => rw [List.replicate_succ, List.flatten_cons, ih]; rfl
/-- the class of grounds, all that laws ask of it -/
structure GrM (P : Program) (w : World) (K : PySem.W.Frag) (mg : Str → Option Value) (base : Heap) (C : Addr) : Prop where
  k : GrK K C
  let_ : ∃ f fd, Meth K C "letters" f ∧ FnOk P w K mg base CX0 1 f fd ["self"] (spLetM C) ∧ Binds K fd ["self"] []
  fix_ : ∃ f fd, Meth K C "fixed" f ∧ FnOk P w K mg base CX0 1 f fd ["self"] (spFixM C) ∧ Binds K fd ["self"] []
  com_ : ∃ f fd, Meth K C "commuting" f ∧ FnOk P w K mg base CX0 1 f fd ["self"] (spComM C) ∧ Binds K fd ["self"] []
  fac_ : ∃ f fd, Meth K C "facts" f ∧ FnOk P w K mg base CX0 1 f fd ["self"] (spFacM C) ∧ Binds K fd ["self"] []
  len_ : ∃ f fd, PySem.W.findIn K (.ref C) "__len__" = some (some (.ref f)) ∧ PySem.W.isFn K (.ref f) = true ∧ FnOk P w K mg base CX0 1 f fd ["self"] (spLenM C) ∧ Binds K fd ["self"] []
  has_ : ∃ f fd, PySem.W.findIn K (.ref C) "__contains__" = some (some (.ref f)) ∧ PySem.W.isFn K (.ref f) = true ∧ FnOk P w K mg base CX0 1 f fd ["self", "letter"] (spHasM K C) ∧ Binds K fd ["self", "letter"] []
  it_ : ∃ f fd, PySem.W.findIn K (.ref C) "__iter__" = some (some (.ref f)) ∧ PySem.W.isFn K (.ref f) = true ∧ FnN P w K mg base 1 f fd ["self"] (spItM C) ∧ Binds K fd ["self"] []
  eq_ : ∃ f fd, PySem.W.findIn K (.ref C) "__eq__" = some (some (.ref f)) ∧ PySem.W.isFn K (.ref f) = true ∧ FnOk P w K mg base CX0 1 f fd ["self", "other"] (spEqM K C) ∧ Binds K fd ["self", "other"] []
  ne_ : PySem.W.findIn K (.ref C) "__ne__" = some (some (.builtin "object.__ne__"))
  mro : PySem.W.mroIn K C (.type "object") = some true
/-- a drawn ground's order is the letters' own -/
structure GD.Own (g : GD) : Prop where
  fit : g.Fit
  f : g.sel g.fixed = g.fixed
  c : g.sel g.comm = g.comm
end GB
set_option Elab.async false
set_option linter.all false
set_option autoImplicit false
set_option maxRecDepth 100000
set_option maxHeartbeats 8000000
namespace GB
open PySem PySem.Spec L2
/-- a function of a library, as it is kept: its name, its letters' names, its body anywhere -/
def FunAt (K : PySem.W.Frag) (H : Hp) (f : Str × List Str) (t : Addr) : Prop := ∃ (u : Addr) (b : V), H t = some (.tup [.str f.1, .ref u, b]) ∧ SqT K H u (sts f.2)
theorem FunAt.mono {K : PySem.W.Frag} {H H' : Hp} {f : Str × List Str} {t : Addr} (s : Same H H') (h : FunAt K H f t) : FunAt K H' f t := let ⟨u, b, h1, h2⟩ := h; ⟨u, b, s _ _ h1, Same.seqT s h2⟩
/-- what terms ask of a ground -/
theorem gr_of2 {C : Addr} {H : Hp} {G : Addr} {g : GD} (h : IsGr2 C H G g) : IsGr C H G g :=
  let ⟨dx, fs, l1, l2, l3, l4, l5, h0, h1, h2, h3, h4, h5, h6⟩ := h.ex
  ⟨dx, fs, l2, h0, h2.1, h2.2, h6 _ (by simp)⟩
/-- the ground with these functions for letters -/
def GD.wide (g : GD) (fs : List (Str × List Str)) : GD := ⟨g.letters ++ fs.map fun f => (f.1, f.2.length), g.fixed, g.comm, g.facts⟩
theorem putK_snoc {l : List (Str × Nat)} {x : Str} {k : Nat} (h : x ∉ l.map (·.1)) : putK (lkv l) (.inr x : Key) (.int ((k : Nat) : Int)) = lkv (l ++ [(x, k)]) := by
  rw [putK_new _ (valV_no h)]
  unfold lkv
  rw [List.map_append]
  rfl
end GB
namespace K39
open PySem PySem.Spec L2 GB
abbrev sWd : Stmt := topS 38
def wdN : List Str := ["ground", "functions", "letters", "name", "names", "_"]
def spWd (K : PySem.W.Frag) (C : Addr) : Sp := fun vs H Q _ => ∃ (G F : Addr) (g : GD) (fs : List (Str × List Str)) (ts : List Addr), vs = [.ref G, .ref F] ∧ IsGr2 C H G g ∧ g.Own ∧ SqA K H F (ts.map V.ref) ∧ Paired (FunAt K H) fs ts ∧ (g.wide fs).Fit ∧
  ∀ x H', H x = none → Same H H' → IsGr2 C H' x (g.wide fs) → Q (.ref x) H'
section
variable {P : Program} {w : World} {K : PySem.W.Frag} {mg : Str → Option Value} {base : Heap} {C : Addr}
theorem scWd : FnScope wdN ["ground", "functions"] (defScope sWd) := ⟨rfl, rfl, rfl, by decide +kernel, rfl, by decide +kernel, by decide +kernel⟩
theorem ok_wd {f fI : Addr} {fd fdI : FuncData} (F : Fun K "_wide" "_wide" sWd f fd) (T : Bl mg) (M : GrM P w K mg base C) (MK : Mk K C fI) (FI : FnOk P w K mg base CX0 5 fI fdI ["self", "letters", "fixed", "commuting", "facts"] (spGI2 K C)) (bI : Binds K fdI ["self", "letters", "fixed", "commuting", "facts"] []) (gC : mg "Ground" = some (.ref C)) : FnOk P w K mg base CX0 7 f fd ["ground", "functions"] (spWd K C) := by
  obtain ⟨gk, ⟨f1, d1, m1, F1, b1⟩, ⟨f2, d2, m2, F2, b2⟩, ⟨f3, d3, m3, F3, b3⟩, ⟨f4, d4, m4, F4, b4⟩, _, _, _, _, _, _⟩ := M
  refine F.ok scWd (fun vs H Q E h => ?_) (fun cdv A outer s H vs Q E hr h => ?_)
  · obtain ⟨G, F, g, fs, ts, rfl, _⟩ := h
    rfl
  · obtain ⟨G, F, g, fs, ts, rfl, hR, own, hF, hp, fit, q⟩ := h
    have hr1 : Room 1 (A.deeper (PyProof.Rows.envOfC "_wide" (defScope sWd) s.heap.objs.size f cdv)) := hr.mono (by decide)
    refine ⟨_, pss_cons (ps_set (i := 2) scWd.nd rfl (.inl rfl) (pe_meth0 (pv 0) gk.cl m1 F1 hr1 b1 .nil pass0)) (pss_cons (ps_for PassesOwn.never rfl (pi_seqW (pv 1)) (pg_tup rfl (pgs_cons (pg_name (i := 3) scWd.nd rfl (.inl rfl)) (pgs_cons (pg_name (i := 4) scWd.nd rfl (.inl rfl)) (pgs_cons (pg_name (i := 5) scWd.nd rfl (.inl rfl)) (pgs_nil))))) (pss_one (ps_dput (hu_of hr) (pv 2) (pv 3) (pe_callB call_len_seq (by rfl) T.len PySem.boot_len (pa_cons (pv 4) pa_nil)) rfl))) (pss_one (ps_ret (pe_make MK FI (hr.mono (by decide)) rfl gC bI .nil pass0 (pa_cons (pv 2) (pa_cons (pe_meth0 (pv 0) gk.cl m2 F2 hr1 b2 .nil pass0) (pa_cons (pe_meth0 (pv 0) gk.cl m3 F3 hr1 b3 .nil pass0) (pa_cons (pe_meth0 (pv 0) gk.cl m4 F4 hr1 b4 .nil pass0) (pa_nil))))))))), ?_⟩
    have ins : ∃ dx fs, (∀ J, Same H J → J G = some (.ins C dx fs)) ∧ (∀ m ∈ (["letters", "fixed", "commuting", "facts", "parts_of"] : List Str), fs.lookup m = none) := by
      obtain ⟨dx, fs, l1, l2, l3, l4, l5, k0, k1, k2, k3, k4, k5, k6⟩ := hR.ex
      exact ⟨dx, fs, fun J s => s _ _ k0, k6⟩
    obtain ⟨dx, gs, iG, nm⟩ := ins
    have lF : g.letters.length + fs.length ≤ 12 := by
      have := fit.le
      unfold GD.wide at this
      simpa using this
    have lts := Paired.length hp
    refine ⟨_, rfl, G, dx, gs, rfl, iG _ (Same.refl _), nm _ (by simp), G, g, rfl, hR, fun D H1 nD s1 k1 => ?_⟩
    have D0 : H D = none := nD
    have S1 : Same H (hid [D] H1) := same_hid_new nD s1
    obtain ⟨kb, hqv⟩ := sqV (hF.mono S1)
    refine ⟨_, rfl, F, ts.map V.ref, kb, [D], rfl, hqv, fun J WJ => ?_⟩
    refine for_it WJ (fun i σ H' => ∃ (o3 o4 o5 : Option V), σ = [some (.ref G), some (.ref F), some (.ref D), o3, o4, o5] ∧ Same (hid [D] H1) (hid [D] H') ∧ H' D = some (.dK (lkv (g.letters ++ (fs.take i).map fun f => (f.1, f.2.length)))))
      ⟨none, none, none, rfl, Same.refl _, by rw [List.take_zero, List.map_nil, List.append_nil]; exact k1⟩ (fun i σ H' _ ⟨_, _, _, _, S, _⟩ => hqv.mono S) ?_ ?_
    · rintro i y σ H2' H2 hi ⟨o3, o4, o5, rfl, S2, h2⟩ ⟨rfl, hy⟩
      have hy : (ts.map V.ref)[i]? = some y := hy
      rw [List.getElem?_map] at hy
      obtain ⟨t, htt, rfl⟩ := Option.map_eq_some_iff.mp hy
      have il : i < fs.length := by rw [lts]; exact (List.getElem?_eq_some_iff.mp htt).1
      have hfi : fs[i]? = some fs[i] := List.getElem?_eq_getElem il
      generalize fs[i] = fn at hfi
      obtain ⟨t', ht', u, b, h1, h3⟩ := paired_at' hp hfi
      obtain rfl : t' = t := by rw [htt] at ht'; exact (Option.some.inj ht').symm
      have SH2 : Same H H2 := (S1.trans S2).trans (hid_low _ _)
      have no : fn.1 ∉ (g.letters ++ (fs.take i).map fun f => (f.1, f.2.length)).map (·.1) := fun m => by
        have nd := fit.nd
        unfold GD.wide at nd
        have e : fs = fs.take i ++ fn :: fs.drop (i + 1) := by
          obtain ⟨k1, k2⟩ := List.getElem?_eq_some_iff.mp hfi
          rw [← k2, ← List.drop_eq_getElem_cons k1, List.take_append_drop]
        have nd' : ((g.letters ++ (fs.take i).map fun f => (f.1, f.2.length)).map (·.1) ++ (fn :: fs.drop (i + 1)).map fun f => f.1).Nodup := by
          have e2 : ((g.letters ++ (fs.take i).map fun f => (f.1, f.2.length)).map (·.1) ++ (fn :: fs.drop (i + 1)).map fun f => f.1) = (g.letters ++ fs.map fun f => (f.1, f.2.length)).map (·.1) := by
            conv => rhs; rw [e]
            simp [List.map_append, Function.comp_def]
          rw [e2]
          exact nd
        exact (List.nodup_append.mp nd').2.2 _ m _ (by rw [List.map_cons]; exact List.mem_cons_self) rfl
      have lk : (g.letters ++ (fs.take i).map fun f => (f.1, f.2.length)).length ≤ 12 := by
        rw [List.length_append, List.length_map, List.length_take]; omega
      refine ⟨t', _, rfl, SqT.of (SH2 _ _ h1), rfl, _, _, rfl, _, _, rfl, _, _, rfl, rfl, ?_⟩
      refine ⟨_, rfl, u, sts fn.2, rfl, .inr (Same.seqT SH2 h3), _, rfl, _, rfl, D, _, rfl, DPut.k (k := .inr fn.1) h2 (by unfold lkv; rw [List.length_map, sizeLine_eq]; omega), _, _, _, rfl, S2.trans (bt_upd (by simp)), ?_⟩
      rw [upd_same, sts_len, putK_snoc no, take_at hfi, List.map_append, List.append_assoc]
      rfl
    · rintro σ H2 ⟨o3, o4, o5, rfl, S2, h2⟩
      rw [List.take_of_length_le (by rw [List.length_map, lts]; exact Nat.le_refl _)] at h2
      have SH2 : Same H H2 := (S1.trans S2).trans (hid_low _ _)
      refine ⟨_, rfl, _, rfl, G, dx, gs, rfl, iG _ SH2, nm _ (by simp), G, g, rfl, hR.mono SH2, fun t2 H3 n2 s3 k2 => ?_⟩
      have S3 := SH2.trans s3
      refine ⟨_, rfl, G, dx, gs, rfl, iG _ S3, nm _ (by simp), G, g, rfl, hR.mono S3, fun t3 H4 n3 s4 k3 => ?_⟩
      have S4 := S3.trans s4
      refine ⟨_, rfl, G, dx, gs, rfl, iG _ S4, nm _ (by simp), G, g, rfl, hR.mono S4, fun t4 H5 n4 s5 k4 => ?_⟩
      have S5 := S4.trans s5
      obtain ⟨tsF, f1, f2⟩ := k4
      intro x dx2 nx ndx nex
      rw [own.f] at k2
      rw [own.c] at k3
      refine gr_make2 (g := g.wide fs) nx ndx nex (((s3.trans s4).trans s5) _ _ h2) (.inl (SqL.of ((s4.trans s5) _ _ k2))) (.inl (SqL.of (s5 _ _ k3))) ⟨tsF, .inl (SqL.of f1), Paired.mapP f2 fun _ _ r => r.any⟩ fit fun H6 s6 i2 => ?_
      exact q x H6 (S5.free nx) (S5.trans s6) ((i2 [] (fun n hn => nomatch hn)).mono (hid_low _ _))
end
end K39
set_option Elab.async false
set_option linter.all false
set_option maxRecDepth 100000
set_option maxHeartbeats 8000000
/-! try with several clauses «except X as n», one name for all. -/
namespace TryAs
open PySem PySem.Spec PyProof.Rows L2
/-- what the clauses wish, one behind the other -/
def wsh (K : PySem.W.Frag) (i : Nat) (Wo : WX) (D : Ends) : List (Value × (Addr → Value → Option Addr → TS)) → WX
  | [] => Wo
  | p :: r => wAs K p.1 i p.2 (wsh K i Wo D r) D
inductive Hds (X : Cx) (n : Str) : List ExceptHandler → List (Value × (Addr → Value → Option Addr → TS)) → Prop
  | nil : Hds X n [] []
  | cons {x : Str} {c : Value} {ts : Addr → Value → Option Addr → TS} {b1 : Stmt} {su : List Stmt} {p1 p2 : Pos} {hs : List ExceptHandler} {l : List (Value × (Addr → Value → Option Addr → TS))} : Names X x c →
      (∀ (a : Addr) (oe : Obj) (cls : Value) (d : Option Addr) (pn : List (Addr × Obj)), Zc cls d oe → (∃ vs, oe.data = .fields vs) → PSs (X.suite a ((a, oe) :: pn)) (b1 :: su) (ts a cls d)) → Hds X n hs l →
      Hds X n (.ExceptHandler (some (.Name x p1)) (some n) (b1 :: su) p2 :: hs) ((c, ts) :: l)
section
variable {X : Cx} {n : Str} {i : Nat} {body : List Stmt} {g1 : ExceptHandler} {gs : List ExceptHandler} {l : List (Value × (Addr → Value → Option Addr → TS))} {pos : Pos} {tb : WX → TS} {Wo : WX}
theorem ps_try_asM (hs : X.stack = X.env :: X.outer) (hf : X.env.frame = some X.env.locals) (hN : X.N.Nodup) (hi : X.N[i]? = some n) (hln : X.env.kindOf n = some .local) (tk : Takes X Wo)
    (hb : ∀ (W : WX) (pn : List (Addr × Obj)) (xe : Value → Shared → Prop), Takes (X.tr pn xe) W → PassesOwn (model X.prog X.w) X.A X.env xe → PSs (X.tr pn xe) body (tb W)) (hh : Hds X n (g1 :: gs) l) :
    PS X (.Try body (g1 :: gs) [] [] pos) (fun D σ H => tb (wsh X.K i Wo D l) D σ H) := by
  refine ⟨fun pins s σ H D I h => ?_⟩
  have ok := I.ok
  have hA : X.A.frames = some (X.env :: X.outer) := by rw [ok.frames, hs]
  have hloc : Loc X.env.scope n := .inl hln
  refine wpAny_Try_except ?_
  refine wpAny_mono ((hb (wsh X.K i Wo D l) (X.pn ++ pins) (fun e t1 => wpAny (model X.prog X.w) X.A (noteFrame e X.env) (fun _ t2 => wpAny (model X.prog X.w) X.A (setFlight e none) (fun _ t3 =>
    wpAny (model X.prog X.w) X.A (handleBy e X.env (g1 :: gs)) (SP X pins D) X.xe t3) X.xe t2) X.xe t1) (fun u t xx => ?_) PassesOwn.looking).run [] s σ H D (I.toTry _) h) (fun f t1 hsp => ?_) (fun e t1 he => he)
  · obtain ⟨a, B, sI, pins2, σ2, H2, cls, d, rfl, J0, nb, up, sky, na, os, ag, wi⟩ := xx
    have J : Inv X pins σ2 H2 sI := J0.ofTry ok
    rw [hs] at sky
    show wpAny (model X.prog X.w) X.A (noteFrame (.ref a) X.env) _ _ _
    refine Sky.land Zc.steady hA hf sky fun h3 fl3 up3 => ?_
    have J3 : Inv X pins σ2 H2 { t with heap := h3 } := J.landed nb fl3.1 (up.trans up3) os ag
    obtain ⟨o3, v3, e3, z3, d3⟩ := fl3.there
    have nst : a ∉ frs (X.env :: X.outer) := fun hm => by
      obtain ⟨_, o', e', hnf⟩ := fl3.2.2.1.mem hm
      rw [e3] at e'
      cases e'
      exact hnf _ d3
    have nL : a ≠ X.env.locals := fun z => nst (List.mem_filterMap.mpr ⟨X.env, List.mem_cons_self, by rw [hf, z]⟩)
    have nF : a ∉ X.fs := fun hm => by
      obtain ⟨e, he, q⟩ := List.mem_filterMap.mp hm
      exact nst (List.mem_filterMap.mpr ⟨e, List.mem_cons_of_mem _ he, q⟩)
    have S3 := J3.suite e3 d3 na nL nF
    have go : ∀ {gs' : List ExceptHandler} {l' : List (Value × (Addr → Value → Option Addr → TS))}, Hds X n gs' l' → wsh X.K i Wo D l' cls d σ2 H2 → wpAny (model X.prog X.w) X.A (handleBy (.ref a) X.env gs') (SP X pins D) X.xe { t with heap := h3 } := by
      intro gs' l' hk
      induction hk with
      | nil =>
        intro w
        refine wpAny_handleBy_nil ?_
        obtain ⟨k1, k2, k3, o5, v5, T, oT, ts', f1, f2, f3, f4, f5⟩ := id fl3
        unfold PySem.passOn
        refine wpAny_bind (wpAny_field f1 f3 f4 ?_)
        rw [if_neg (show ¬ ((Value.ref T == Value.none) = true) from by simp)]
        have fin : wpAny (model X.prog X.w) X.A (setFlight (.ref a) X.env.frame) (fun _ t4 => wpAny (model X.prog X.w) X.A (throw (.ref a) : Sem Flow) (SP X pins D) X.xe t4) X.xe { t with heap := h3 } := by
          rw [hf]
          refine HandSPX.setFlight_upZ fl3 fun h4 hh4 up4 => wpAny_throw (tk _ _ ?_)
          exact ⟨a, B, sI, pins, σ2, H2, cls, d, rfl, J, nb, (up.trans up3).trans up4, .inr (.inr (by rw [hs]; exact hh4)), na, os, ag, w⟩
        first
          | exact wpAny_bind (wpAny_pure (wpAny_bind fin))
          | exact wpAny_bind fin
      | @cons x c ts b1 su p1 p2 gs2 l2 hc hsu r ih =>
        intro w
        obtain ⟨b, hb1, hyes, hno⟩ := w
        refine wpAny_handleBy_cons (codeAny_handlers_test ?_) (by intro q; cases q)
        have LT : PySem.W.Looks (model X.prog X.w) h3 (typeOf (.ref a)) cls := fun A Q E t0 k q => wpAny_typeOf_ref (k _ _ e3) (by rw [z3.1]; exact q)
        have LM := PySem.W.exm_one (M := model X.prog X.w) (J3.kIn) LT hb1
        have test : ∀ {Q : Value → Shared → Prop} {E : Value → Shared → Prop}, Q c { t with heap := h3 } → wpAny (model X.prog X.w) (X.A.mark (some (.ref a))) (eval (.Name x p1) X.env) Q E { t with heap := h3 } := by
          intro Q E q
          obtain ⟨hg, hdbg, hm | ⟨hm, hv, hnn⟩⟩ := hc
          · exact ld_glob (X := X.suite a ((a, o3) :: (X.pn ++ pins))) S3 hg hm q hdbg
          · exact ld_blt (X := X.suite a ((a, o3) :: (X.pn ++ pins))) S3 hg hm hv q hnn hdbg
        refine test (LM.here ?_)
        cases b with
        | true =>
          refine codeAny_handlers_suite_as ?_
          refine HandSPX.lands_againZ fl3 fun h4 fl4 up4 => ?_
          have J4 : Inv X pins σ2 H2 { t with heap := h4 } := J.landed nb fl4.1 ((up.trans up3).trans up4) os ag
          obtain ⟨o4, v4, e4, z4, d4⟩ := fl4.there
          refine store_ok (X := X.suite a ((a, o4) :: (X.pn ++ pins))) (v := .ref a) (J4.suite e4 d4 na nL nF) hN hi hloc rfl (fun t5 S5 => ?_) (.inr hln)
          refine wpAny_mono ((hsu a o4 cls d (X.pn ++ pins) z4 ⟨_, d4⟩).run [] t5 _ H2 _ S5 (hyes rfl a na)) (fun f t6 hsp => ?_) (fun _ _ z => False.elim z)
          have behind : ∀ {τ : L2.St} {H6 : Hp} {Q : Shared → Prop}, Inv (X.suite a ((a, o4) :: (X.pn ++ pins))) [] τ H6 t6 → (∀ t7, Inv X pins (τ.set i none) H6 t7 → Q t7) →
              wpAny (model X.prog X.w) X.A (do bindName X.env n .none; unbindBehindTheSuite X.env n p2) (fun _ t7 => Q t7) X.xe t6 := fun {τ H6 Q} S6 hq => gone_ok (S6.unsuite ok) hN hi hln hq
          cases f with
          | next => obtain ⟨τ, H6, S6, q6⟩ := hsp; exact behind S6 fun t7 J7 => ⟨_, _, J7, q6⟩
          | brk => obtain ⟨τ, H6, S6, q6⟩ := hsp; exact behind S6 fun t7 J7 => ⟨_, _, J7, q6⟩
          | cont => obtain ⟨τ, H6, S6, q6⟩ := hsp; exact behind S6 fun t7 J7 => ⟨_, _, J7, q6⟩
          | ret u => obtain ⟨v6, τ, H6, S6, r6, q6⟩ := hsp; exact behind S6 fun t7 J7 => ⟨_, _, _, J7, r6, q6⟩
        | false => exact ih (hno rfl)
    exact go hh wi
  · cases f with
    | next => obtain ⟨τ, H6, J6, q⟩ := hsp; exact wpAny_execs_nil ⟨τ, H6, J6.ofTry ok, q⟩
    | brk => obtain ⟨τ, H6, J6, q⟩ := hsp; exact ⟨τ, H6, J6.ofTry ok, q⟩
    | cont => obtain ⟨τ, H6, J6, q⟩ := hsp; exact ⟨τ, H6, J6.ofTry ok, q⟩
    | ret u => obtain ⟨v, τ, H6, J6, r, q⟩ := hsp; exact ⟨v, τ, H6, J6.ofTry ok, r, q⟩
end
end TryAs
set_option Elab.async false
set_option linter.all false
set_option autoImplicit false
set_option maxRecDepth 100000
set_option maxHeartbeats 8000000
namespace K39
open PySem PySem.Spec L2 GB K39t
def rTof (K : PySem.W.Frag) : List V → Hp → VK → Prop := fun xs H Q => ∃ p ys, xs = [.ref p] ∧ ((SqL K H p ys ∧ ∀ l, H l = none → Q (.ref l) (upd H l (.tup ys))) ∨ (SqT K H p ys ∧ Q (.ref p) H))
theorem call_tof {X : Cx} : CallR X (.type "tuple") (rTof X.K) := call_tuple_of
theorem tofA {K : PySem.W.Frag} {H : Hp} {Q : VK} {b : Addr} {ys : List V} (h : SqA K H b ys) (q : ∀ u H', Same H H' → SqT K H' u ys → Q (.ref u) H') : rTof K [.ref b] H Q := by
  rcases h with h | h
  · refine ⟨b, ys, rfl, .inl ⟨h, fun l nl => ?_⟩⟩
    obtain ⟨H1, s1, h1, e1⟩ := lay (o := .tup ys) nl
    rw [e1]
    exact q l H1 s1 (SqT.of h1)
  · exact ⟨b, ys, rfl, .inr ⟨h, q b H (Same.refl _) h⟩⟩
/-- tuple(x), x a list or a tuple in a slot -/
def tTofS (K : PySem.W.Frag) (i : Nat) : TE := fun σ H Q => ∃ b ys, σ[i]? = some (some (.ref b)) ∧ SqA K H b ys ∧ ∀ u H', Same H H' → SqT K H' u ys → Q (.ref u) H'
theorem tof_weak {K : PySem.W.Frag} {i : Nat} (σ : L2.St) (H : Hp) (Q : VK) (h : tTofS K i σ H Q) : tCB (rTof K) (tCons (tVar i) tNil) σ H Q := by
  obtain ⟨b, ys, hi, hS, q⟩ := h
  exact ⟨_, hi, tofA (Q := Q) hS q⟩
abbrev sFn : Stmt := topS 37
def fnN : List Str := ["wide", "thing", "name", "names", "body"]
section
variable {P : Program} {w : World} {K : PySem.W.Frag} {mg : Str → Option Value} {base : Heap} {C CB : Addr}
theorem scFn : FnScope fnN ["wide", "thing"] (defScope sFn) := ⟨rfl, rfl, rfl, by decide +kernel, rfl, by decide +kernel, by decide +kernel⟩
/-- what are no names -/
def BadNs (K : PySem.W.Frag) (H : Hp) (y : V) : Prop :=
  (∃ b xs bs, y = .ref b ∧ SqA K H b xs ∧ xs.length ≤ 1000 ∧ Paired (NmB K H) xs bs ∧ bs.all id = false) ∨
  (∃ b ns, y = .ref b ∧ SqA K H b (sts ns) ∧ ns.length ≤ 1000 ∧ (∀ s ∈ ns, nameB s = true ∧ s.length ≤ sizeLine) ∧ ¬ ns.Nodup) ∨
  (∃ t, (∀ H', Same H H' → TyX K H' y t) ∧ PySem.W.kitAny K t [.type "list", .type "tuple"] = some false)
theorem BadNs.mono {K : PySem.W.Frag} {H H' : Hp} {y : V} (s : Same H H') (h : BadNs K H y) : BadNs K H' y := by
  rcases h with ⟨b, xs, bs, h1, h2, h3, h4, h5⟩ | ⟨b, ns, h1, h2, h3⟩ | ⟨t, h1, h2⟩
  · exact .inl ⟨b, xs, bs, h1, h2.mono s, h3, Paired.mapP h4 fun _ _ z => z.mono s, h5⟩
  · exact .inr (.inl ⟨b, ns, h1, h2.mono s, h3⟩)
  · exact .inr (.inr ⟨t, fun J sJ => h1 J (s.trans sJ), h2⟩)
/-- what is no function for this ground -/
inductive BadFn (K : PySem.W.Frag) (H : Hp) (ls : List (Str × Nat)) (z : Nat) : V → Prop
  | no {x t} : (∀ H', Same H H' → TyX K H' x t) → PySem.W.kitAny K t [.type "list", .type "tuple"] = some false → BadFn K H ls z x
  | len {a xs} : SqA K H a xs → xs.length ≠ 3 → xs.length ≤ 1000 → BadFn K H ls z (.ref a)
  | name {a y0 y1 y2} : SqA K H a [y0, y1, y2] → NmB K H y0 false → BadFn K H ls z (.ref a)
  | had {a s y1 y2} : SqA K H a [.str s, y1, y2] → nameB s = true → s.length ≤ sizeLine → s ∈ ls.map (·.1) → BadFn K H ls z (.ref a)
  | names {a s y1 y2} : SqA K H a [.str s, y1, y2] → nameB s = true → s.length ≤ sizeLine → s ∉ ls.map (·.1) → BadNs K H y1 → BadFn K H ls z (.ref a)
  | many {a s b ns y2} : SqA K H a [.str s, .ref b, y2] → nameB s = true → s.length ≤ sizeLine → s ∉ ls.map (·.1) → SqA K H b (sts ns) → (∀ m ∈ ns, nameB m = true ∧ m.length ≤ sizeLine) → ns.Nodup → 2 < ns.length → ns.length ≤ 1000 → BadFn K H ls z (.ref a)
  | body {a s b ns y2 r} : SqA K H a [.str s, .ref b, y2] → nameB s = true → s.length ≤ sizeLine → s ∉ ls.map (·.1) → SqA K H b (sts ns) → (∀ m ∈ ns, nameB m = true ∧ m.length ≤ sizeLine) → ns.Nodup → ns.length ≤ 2 → (∀ H', Same H H' → BadV K H' ls z ns y2 r) → BadFn K H ls z (.ref a)
/-- a function, checked: told as a new tuple; or None -/
def spFn (K : PySem.W.Frag) (C : Addr) (z : Nat) : Sp := fun vs H Q _ => ∃ (G : Addr) (x : V) (g : GD), vs = [.ref G, x] ∧ IsGr C H G g ∧ (g.letters.map (·.1)).Nodup ∧ z ≤ 900 ∧
  ((∃ a s yB b ns d t, x = .ref a ∧ SqA K H a [.str s, .ref b, yB] ∧ nameB s = true ∧ s.length ≤ sizeLine ∧ s ∉ g.letters.map (·.1) ∧ SqA K H b (sts ns) ∧ (∀ m ∈ ns, nameB m = true ∧ m.length ≤ sizeLine) ∧ ns.Nodup ∧ ns.length ≤ 2 ∧
      Dp K H yB d ∧ IsTm d t ∧ TmOk g.letters ns t ∧ t.size ≤ z ∧ ∀ p u v H', Same H H' → H' p = some (.tup [.str s, .ref u, v]) → SqT K H' u (sts ns) → Dp K H' v t.d → Q (.ref p) H') ∨
   (BadFn K H g.letters z x ∧ ∀ H', Same H H' → Q .non H'))
theorem ok_fn {z : Nat} {f : Addr} {fd : FuncData} (F : Fun K "_function_or_none" "_function_or_none" sFn f fd) (T : Bl mg) (IL : Fns P w K mg base "is_list" 1 ["thing"] (spIsL K)) (NM : Fns P w K mg base "is_name" 1 ["thing"] (spIsNm K)) (AN : Fns P w K mg base "are_names" 2 ["thing"] (spAN K))
    (HAS : ∃ f fd, PySem.W.findIn K (.ref C) "__contains__" = some (some (.ref f)) ∧ PySem.W.isFn K (.ref f) = true ∧ FnOk P w K mg base CX0 1 f fd ["self", "letter"] (spHas K C) ∧ Binds K fd ["self", "letter"] [])
    (CK : ∃ f fd, FnOk P w K mg base (L2.CX P w) (4 + 2 * z) f fd ["ground", "thing", "names", "path"] (spChkX K C CB z) ∧ mg "checked_within" = some (.ref f) ∧ PySem.W.keepIn K (.ref f) = true ∧ Binds K fd ["ground", "thing", "names", "path"] [])
    (MN : ∃ u, mg "MOST_NAMES" = some u ∧ RelV (.int 2) u) (gB : mg "BadTerm" = some (.ref CB)) (tb : PySem.W.exmOne K (.ref CB) (.ref CB) = some true) : FnOk P w K mg base CX0 (4 + 2 * z + 1 + 1) f fd ["wide", "thing"] (spFn K C z) := by
  obtain ⟨fH, dH, hsH, hfH, FH, bH⟩ := HAS
  obtain ⟨fC, dC, FC, gC, kC, bC⟩ := CK
  obtain ⟨uM, gM, rM⟩ := MN
  refine F.ok scFn (fun vs H Q E h => ?_) (fun cdv A outer s H vs Q E hr h => ?_)
  · obtain ⟨G, x, g, rfl, _⟩ := h
    rfl
  · obtain ⟨G, x, g, rfl, hG, nd, z9, h⟩ := h
    refine ⟨_, pss_cons (ps_if (PW.pt (pw_or (pt_not (pt_val (pe_fn IL hr (by omega) rfl (pa_cons (pv 1) (pa_nil))))) (pw_or (pt_cmpR op_ne (pe_callB call_len_seq (by rfl) T.len PySem.boot_len (pa_cons (pv 1) (pa_nil))) (pe_int) (nomark _)) (pw_or (pt_not (pt_val (pe_fn NM hr (by omega) rfl (pa_cons (pe_ix (r := rIx K) ix_seq (pv 1) pe_int (fun _ _ => rfl)) (pa_nil))))) (pw_or1 (pt_cmpR (r := rInOwn C (spHas K C) false) (op_inOwn hsH hfH FH (hr.mono (by omega)) bH) (pe_ix (r := rIx K) ix_seq (pv 1) pe_int (fun _ _ => rfl)) (pv 0) (by rfl))))))) (pss_one (ps_ret (pe_non))) (pss_nil)) (pss_cons (ps_asg (pv 1) (pg_sqA rfl (pgs_cons (pg_name (i := 2) scFn.nd rfl (.inl rfl)) (pgs_cons (pg_name (i := 3) scFn.nd rfl (.inl rfl)) (pgs_cons (pg_name (i := 4) scFn.nd rfl (.inl rfl)) pgs_nil))))) (pss_cons (ps_if (PW.pt (pw_or (pt_not (pt_val (pe_fn AN hr (by omega) rfl (pa_cons (pv 3) (pa_nil))))) (pw_or1 (pt_cmpR op_gt (pe_callB call_len_seq (by rfl) T.len PySem.boot_len (pa_cons (pv 3) (pa_nil))) (pe_glob (v := .int 2) rfl gM rM) (nomark _))))) (pss_one (ps_ret (pe_non))) (pss_nil)) (pss_one (ps_try_only (c := .ref CB) rfl rfl ⟨rfl, by decide, .inl gB⟩ takes0 (fun W pn xe tk po => pss_one (ps_ret (pe_tup (pa_cons (pv 2) (pa_cons (pe_weak (t' := tTofS K 3) (pe_callTy (r := rTof K) call_tof (by rfl) T.tuple (by decide +kernel) (pa_cons (pv 3) pa_nil)) tof_weak) (pa_cons (pe_call (E := fun cls d H => ∀ σ : L2.St, W cls d σ H) FC (hr.mono (by omega)) rfl gC kC bC .nil (passes_call (W := W) tk (fun cls d σ H h => h σ)) (pa_cons (pv 0) (pa_cons (pv 4) (pa_cons (pe_weak (t' := tTofS K 3) (pe_callTy (r := rTof K) call_tof (by rfl) T.tuple (by decide +kernel) (pa_cons (pv 3) pa_nil)) tof_weak) (pa_cons (pe_tup pa_nil) pa_nil))))) pa_nil)))))) (fun a oe cls d pn hz hf => pss_one (ps_ret pe_non)))))), ?_⟩
    have insG : ∀ {J : Hp}, Same H J → ∃ dx fs, J G = some (.ins C dx fs) := fun s => by
      obtain ⟨dx, fs, aL, h1, _⟩ := hG.ex
      exact ⟨dx, fs, s _ _ h1⟩
    -- the first test, of three things with a text ahead
    rcases h with ⟨a, s, yB, b, ns, d, t, rfl, hS, n1, n2, n3, hN, hn, nnd, nl, hd, ht, ok, sz, q⟩ | ⟨hB, q⟩
    · obtain ⟨ty, hty, hty2⟩ := tyS hS
      refine ⟨_, rfl, .ref a, _, true, rfl, hty2, kit_seq hty, fun H1 s1 => ⟨_, rfl, ?_⟩⟩
      refine iteF ?_
      have hS1 := hS.mono s1
      refine ⟨_, rfl, a, _, rfl, hS1, rfl, _, rfl, ?_⟩
      refine iteF ?_
      refine ⟨_, rfl, ixA hS1 0 rfl ⟨_, rfl, .inl ⟨s, rfl, n2, fun H2 s2 => ⟨_, rfl, ?_⟩⟩⟩⟩
      rw [n1]
      refine iteF ?_
      have S2 := s1.trans s2
      obtain ⟨dx, fs, e2⟩ := insG S2
      refine ⟨_, rfl, ixA (hS.mono S2) 0 rfl ⟨_, rfl, G, dx, fs, rfl, e2, G, .str s, g, rfl, hG.mono S2, .inl ⟨s, rfl, nd, _, rfl, _, rfl, ?_⟩⟩⟩
      rw [decide_eq_false n3]
      refine iteF ?_
      refine ⟨_, rfl, a, _, rfl, hS.mono S2, rfl, _, _, rfl, _, _, rfl, _, _, rfl, rfl, ?_⟩
      refine ⟨_, rfl, .ref b, rfl, .inr (.inl ⟨b, ns, rfl, hN.mono S2, by omega, hn, fun H3 s3 => ⟨_, rfl, ?_⟩⟩)⟩
      rw [decide_eq_true nnd]
      refine iteF ?_
      have S3 := S2.trans s3
      refine ⟨_, rfl, b, sts ns, rfl, hN.mono S3, _, _, rfl, rfl, _, rfl, ?_⟩
      rw [show decide ((2 : Int) < ((sts ns).length : Nat)) = false from decide_eq_false (by rw [sts_len]; omega)]
      refine iteF ?_
      refine ⟨_, rfl, b, sts ns, rfl, hN.mono S3, fun u H4 s4 hu => ?_⟩
      have S4 := S3.trans s4
      refine ⟨_, rfl, _, rfl, b, sts ns, rfl, hN.mono S4, fun u2 H5 s5 hu2 => ?_⟩
      have S5 := S4.trans s5
      refine ⟨by show 0 ≤ sizeLine; decide, fun e ne => ?_⟩
      obtain ⟨H6, s6, h6, e6⟩ := lay (o := .tup []) ne
      rw [e6]
      have S6 := S5.trans s6
      refine ⟨G, u2, e, yB, ns, g, [], rfl, hG.mono S6, nd, by omega, Same.seqT s6 hu2, by omega, SqT.of h6, by show 0 + z ≤ 1000; omega, ?_⟩
      refine .inl ⟨d, t, dp_mono S6 hd, ht, ok, sz, fun v H7 s7 hv => ?_⟩
      refine ⟨by show 3 ≤ sizeLine; decide, fun p np => ?_⟩
      obtain ⟨H8, s8, h8, e8⟩ := lay (o := .tup [.str s, .ref u, v]) np
      rw [e8]
      exact q p u v H8 ((S6.trans s7).trans s8) h8 (Same.seqT (((s5.trans s6).trans s7).trans s8) hu) (dp_mono s8 hv)
    · cases hB with
      | @no x t h1 h2 =>
        refine ⟨_, rfl, x, t, false, rfl, h1, h2, fun H1 s1 => ⟨_, rfl, ?_⟩⟩
        refine iteT ?_
        exact q H1 s1
      | @len a xs hS hl _ =>
        obtain ⟨ty, hty, hty2⟩ := tyS hS
        refine ⟨_, rfl, .ref a, _, true, rfl, hty2, kit_seq hty, fun H1 s1 => ⟨_, rfl, ?_⟩⟩
        refine iteF ?_
        refine ⟨_, rfl, a, _, rfl, hS.mono s1, rfl, _, rfl, ?_⟩
        rw [show (!decide (V.int ((xs.length : Nat) : Int) = V.int 3)) = true from by rw [decide_eq_false fun e => hl (by have := V.int.inj e; omega)]; rfl]
        refine iteT ?_
        exact q H1 s1
      | @name a y0 y1 y2 hS hy =>
        obtain ⟨ty, hty, hty2⟩ := tyS hS
        refine ⟨_, rfl, .ref a, _, true, rfl, hty2, kit_seq hty, fun H1 s1 => ⟨_, rfl, ?_⟩⟩
        refine iteF ?_
        refine ⟨_, rfl, a, _, rfl, hS.mono s1, rfl, _, rfl, ?_⟩
        refine iteF ?_
        rcases hy.mono s1 with ⟨s, rfl, n2, n1⟩ | ⟨_, t, h1, h2⟩
        · refine ⟨_, rfl, ixA (hS.mono s1) 0 rfl ⟨_, rfl, .inl ⟨s, rfl, n2, fun H2 s2 => ⟨_, rfl, ?_⟩⟩⟩⟩
          rw [n1]
          refine iteT ?_
          exact q H2 (s1.trans s2)
        · refine ⟨_, rfl, ixA (hS.mono s1) 0 rfl ⟨_, rfl, .inr ⟨t, h1 _ (Same.refl _), h2, _, rfl, ?_⟩⟩⟩
          refine iteT ?_
          exact q H1 s1
      | @had a s y1 y2 hS n1 n2 n3 =>
        obtain ⟨ty, hty, hty2⟩ := tyS hS
        refine ⟨_, rfl, .ref a, _, true, rfl, hty2, kit_seq hty, fun H1 s1 => ⟨_, rfl, ?_⟩⟩
        refine iteF ?_
        have hS1 := hS.mono s1
        refine ⟨_, rfl, a, _, rfl, hS1, rfl, _, rfl, ?_⟩
        refine iteF ?_
        refine ⟨_, rfl, ixA hS1 0 rfl ⟨_, rfl, .inl ⟨s, rfl, n2, fun H2 s2 => ⟨_, rfl, ?_⟩⟩⟩⟩
        rw [n1]
        refine iteF ?_
        have S2 := s1.trans s2
        obtain ⟨dx, fs, e2⟩ := insG S2
        refine ⟨_, rfl, ixA (hS.mono S2) 0 rfl ⟨_, rfl, G, dx, fs, rfl, e2, G, .str s, g, rfl, hG.mono S2, .inl ⟨s, rfl, nd, _, rfl, _, rfl, ?_⟩⟩⟩
        rw [decide_eq_true n3]
        refine iteT ?_
        exact q H2 S2
      | @names a s y1 y2 hS n1 n2 n3 hb =>
        obtain ⟨ty, hty, hty2⟩ := tyS hS
        refine ⟨_, rfl, .ref a, _, true, rfl, hty2, kit_seq hty, fun H1 s1 => ⟨_, rfl, ?_⟩⟩
        refine iteF ?_
        have hS1 := hS.mono s1
        refine ⟨_, rfl, a, _, rfl, hS1, rfl, _, rfl, ?_⟩
        refine iteF ?_
        refine ⟨_, rfl, ixA hS1 0 rfl ⟨_, rfl, .inl ⟨s, rfl, n2, fun H2 s2 => ⟨_, rfl, ?_⟩⟩⟩⟩
        rw [n1]
        refine iteF ?_
        have S2 := s1.trans s2
        obtain ⟨dx, fs, e2⟩ := insG S2
        refine ⟨_, rfl, ixA (hS.mono S2) 0 rfl ⟨_, rfl, G, dx, fs, rfl, e2, G, .str s, g, rfl, hG.mono S2, .inl ⟨s, rfl, nd, _, rfl, _, rfl, ?_⟩⟩⟩
        rw [decide_eq_false n3]
        refine iteF ?_
        refine ⟨_, rfl, a, _, rfl, hS.mono S2, rfl, _, _, rfl, _, _, rfl, _, _, rfl, rfl, ?_⟩
        rcases hb.mono S2 with ⟨b, xs, bs, rfl, h1, h2, h3, h4⟩ | ⟨b, ns, rfl, h1, h2, h3, h4⟩ | ⟨t, h1, h2⟩
        · refine ⟨_, rfl, _, rfl, .inl ⟨b, xs, bs, rfl, h1, h2, h3, h4, fun H3 s3 => ⟨_, rfl, ?_⟩⟩⟩
          refine iteT ?_
          exact q H3 (S2.trans s3)
        · refine ⟨_, rfl, _, rfl, .inr (.inl ⟨b, ns, rfl, h1, h2, h3, fun H3 s3 => ⟨_, rfl, ?_⟩⟩)⟩
          rw [decide_eq_false h4]
          refine iteT ?_
          exact q H3 (S2.trans s3)
        · refine ⟨_, rfl, _, rfl, .inr (.inr ⟨t, h1, h2, fun H3 s3 => ⟨_, rfl, ?_⟩⟩)⟩
          refine iteT ?_
          exact q H3 (S2.trans s3)
      | @many a s b ns y2 hS n1 n2 n3 hN hn nnd nl1 nl =>
        obtain ⟨ty, hty, hty2⟩ := tyS hS
        refine ⟨_, rfl, .ref a, _, true, rfl, hty2, kit_seq hty, fun H1 s1 => ⟨_, rfl, ?_⟩⟩
        refine iteF ?_
        have hS1 := hS.mono s1
        refine ⟨_, rfl, a, _, rfl, hS1, rfl, _, rfl, ?_⟩
        refine iteF ?_
        refine ⟨_, rfl, ixA hS1 0 rfl ⟨_, rfl, .inl ⟨s, rfl, n2, fun H2 s2 => ⟨_, rfl, ?_⟩⟩⟩⟩
        rw [n1]
        refine iteF ?_
        have S2 := s1.trans s2
        obtain ⟨dx, fs, e2⟩ := insG S2
        refine ⟨_, rfl, ixA (hS.mono S2) 0 rfl ⟨_, rfl, G, dx, fs, rfl, e2, G, .str s, g, rfl, hG.mono S2, .inl ⟨s, rfl, nd, _, rfl, _, rfl, ?_⟩⟩⟩
        rw [decide_eq_false n3]
        refine iteF ?_
        refine ⟨_, rfl, a, _, rfl, hS.mono S2, rfl, _, _, rfl, _, _, rfl, _, _, rfl, rfl, ?_⟩
        refine ⟨_, rfl, .ref b, rfl, .inr (.inl ⟨b, ns, rfl, hN.mono S2, by omega, hn, fun H3 s3 => ⟨_, rfl, ?_⟩⟩)⟩
        rw [decide_eq_true nnd]
        refine iteF ?_
        have S3 := S2.trans s3
        refine ⟨_, rfl, b, sts ns, rfl, hN.mono S3, _, _, rfl, rfl, _, rfl, ?_⟩
        rw [show decide ((2 : Int) < ((sts ns).length : Nat)) = true from decide_eq_true (by rw [sts_len]; omega)]
        refine iteT ?_
        exact q H3 S3
      | @body a s b ns yB r hS n1 n2 n3 hN hn nnd nl hbad =>
        obtain ⟨ty, hty, hty2⟩ := tyS hS
        refine ⟨_, rfl, .ref a, _, true, rfl, hty2, kit_seq hty, fun H1 s1 => ⟨_, rfl, ?_⟩⟩
        refine iteF ?_
        have hS1 := hS.mono s1
        refine ⟨_, rfl, a, _, rfl, hS1, rfl, _, rfl, ?_⟩
        refine iteF ?_
        refine ⟨_, rfl, ixA hS1 0 rfl ⟨_, rfl, .inl ⟨s, rfl, n2, fun H2 s2 => ⟨_, rfl, ?_⟩⟩⟩⟩
        rw [n1]
        refine iteF ?_
        have S2 := s1.trans s2
        obtain ⟨dx, fs, e2⟩ := insG S2
        refine ⟨_, rfl, ixA (hS.mono S2) 0 rfl ⟨_, rfl, G, dx, fs, rfl, e2, G, .str s, g, rfl, hG.mono S2, .inl ⟨s, rfl, nd, _, rfl, _, rfl, ?_⟩⟩⟩
        rw [decide_eq_false n3]
        refine iteF ?_
        refine ⟨_, rfl, a, _, rfl, hS.mono S2, rfl, _, _, rfl, _, _, rfl, _, _, rfl, rfl, ?_⟩
        refine ⟨_, rfl, .ref b, rfl, .inr (.inl ⟨b, ns, rfl, hN.mono S2, by omega, hn, fun H3 s3 => ⟨_, rfl, ?_⟩⟩)⟩
        rw [decide_eq_true nnd]
        refine iteF ?_
        have S3 := S2.trans s3
        refine ⟨_, rfl, b, sts ns, rfl, hN.mono S3, _, _, rfl, rfl, _, rfl, ?_⟩
        rw [show decide ((2 : Int) < ((sts ns).length : Nat)) = false from decide_eq_false (by rw [sts_len]; omega)]
        refine iteF ?_
        refine ⟨_, rfl, b, sts ns, rfl, hN.mono S3, fun u H4 s4 hu => ?_⟩
        have S4 := S3.trans s4
        refine ⟨_, rfl, _, rfl, b, sts ns, rfl, hN.mono S4, fun u2 H5 s5 hu2 => ?_⟩
        have S5 := S4.trans s5
        refine ⟨by show 0 ≤ sizeLine; decide, fun e ne => ?_⟩
        obtain ⟨H6, s6, h6, e6⟩ := lay (o := .tup []) ne
        rw [e6]
        have S6 := S5.trans s6
        refine ⟨G, u2, e, yB, ns, g, [], rfl, hG.mono S6, nd, by omega, Same.seqT s6 hu2, by omega, SqT.of h6, by show 0 + z ≤ 1000; omega, ?_⟩
        refine .inr ⟨r, hbad _ S6, fun pb d H7 s7 hp hx σ => ?_⟩
        exact ⟨true, tb, fun _ a na => q H7 (S6.trans s7), fun z => nomatch z⟩
end
end K39
set_option Elab.async false
set_option linter.all false
set_option maxRecDepth 100000
set_option maxHeartbeats 4000000
/-! What stands while no tuple changes. -/
namespace GB
open PySem PySem.Spec L2
def isT : HO → Bool
  | .tup _ => true
  | .frz _ (.tup _) => true
  | _ => false
/-- all tuples stay -/
def TW (H H' : Hp) : Prop := ∀ b o, H b = some o → isT o = true → H' b = some o
theorem TW.of {H H' : Hp} (s : Same H H') : TW H H' := fun b o e _ => s b o e
theorem TW.trans {H H' H'' : Hp} (s : TW H H') (t : TW H' H'') : TW H H'' := fun b o e i => t b o (s b o e i) i
theorem TW.upd {H : Hp} {a : Addr} {u : HO} (h : ∀ o, H a = some o → isT o = false) : TW H (upd H a u) := fun b o e i => by
  have : b ≠ a := fun z => by
    subst z
    rw [h o e] at i
    cases i
  rw [upd_ne this]
  exact e
theorem TW.hid {H : Hp} {ps : List Addr} (h : ∀ p ∈ ps, ∀ o, H p = some o → isT o = false) : TW H (hid ps H) := fun b o e i => hid_to (fun m => by rw [h b m o e] at i; cases i) e
theorem TW.bt {ps : List Addr} {H H' : Hp} (h : ∀ p ∈ ps, ∀ o, H p = some o → isT o = false) (B : Bt ps H H') : TW H H' := (TW.hid h).trans (TW.of (Same.trans B (hid_low _ _)))
section
variable {K : PySem.W.Frag} {H H' : Hp}
theorem sqT_tw (s : TW H H') {a : Addr} {xs : List V} (h : SqT K H a xs) : SqT K H' a xs := by
  rcases h with (h | ⟨o, h⟩) | h
  · exact .inl (.inl (s _ _ h rfl))
  · exact .inl (.inr ⟨o, s _ _ h rfl⟩)
  · exact .inr h
mutual
theorem dp_tw (s : TW H H') : ∀ (d : PyData) (v : V), tupO d = true → Dp K H v d → Dp K H' v d
  | .tuple ds, v, t, h => by
    cases h with
    | tup h1 h2 => exact .tup (sqT_tw s h1) (dps_tw s ds _ t h2)
  | .str _, v, _, h => by cases h; exact .str _
  | .int _, v, _, h => by cases h; exact .int _
  | .none, v, t, h => by cases t
  | .bool _, v, t, h => by cases t
  | .list _, v, t, h => by cases t
theorem dps_tw (s : TW H H') : ∀ (ds : List PyData) (vs : List V), tupOs ds = true → DpAll K H vs ds → DpAll K H' vs ds
  | [], vs, _, h => by cases h; exact .nil
  | d :: r, vs, t, h => by
    cases h with
    | cons h1 h2 =>
      rw [tupOs] at t
      obtain ⟨t1, t2⟩ := Bool.and_eq_true_iff.mp t
      exact .cons (dp_tw s d _ t1 h1) (dps_tw s r _ t2 h2)
end
end
/-- what was not there before may be put -/
theorem bt_put {ps : List Addr} {H H1 : Hp} {W : Addr} {o : HO} (B : Bt ps H H1) (n : H W = none) : Bt ps H (upd H1 W o) := fun b u e => by
  obtain ⟨e1, m⟩ := hid_in e
  have : b ≠ W := fun z => by rw [z, n] at e1; cases e1
  exact hid_to m (by rw [upd_ne this]; exact bt_at B m e1)
theorem none_of_bt {ps : List Addr} {H H' : Hp} {a : Addr} (B : Bt ps H H') (m : a ∉ ps) (n : H' a = none) : H a = none := by
  cases e : H a with
  | none => rfl
  | some o => rw [bt_at B m e] at n; cases n
end GB
set_option Elab.async false
set_option linter.all false
set_option autoImplicit false
set_option maxRecDepth 100000
set_option maxHeartbeats 8000000
namespace GB
open PySem PySem.Spec L2
theorem sqT_off {K : PySem.W.Frag} {H : Hp} {u L : Addr} {xs ys : List V} (hL : H L = some (.lst ys)) (h : SqT K H u xs) : SqT K (hid [L] H) u xs := by
  rcases h with (h | ⟨o, h⟩) | h
  · exact .inl (.inl (hid_to (ni1 (ne_of h hL (fun z => nomatch z))) h))
  · exact .inl (.inr ⟨o, hid_to (ni1 (ne_of h hL (fun z => nomatch z))) h⟩)
  · exact .inr h
end GB
namespace K39
open PySem PySem.Spec L2 GB K39t
abbrev FnD : Type := Str × List Str × GB.Tm
def pre (fs : List FnD) : List (Str × List Str) := fs.map fun f => (f.1, f.2.1)
/-- a function as it is handed over -/
def GoodFn (K : PySem.W.Frag) (H : Hp) (ls : List (Str × Nat)) (z : Nat) (f : FnD) (x : V) : Prop := ∃ a yB b d, x = .ref a ∧ SqA K H a [.str f.1, .ref b, yB] ∧ nameB f.1 = true ∧ f.1.length ≤ sizeLine ∧ f.1 ∉ ls.map (·.1) ∧ SqA K H b (sts f.2.1) ∧ (∀ m ∈ f.2.1, nameB m = true ∧ m.length ≤ sizeLine) ∧ f.2.1.Nodup ∧ f.2.1.length ≤ 2 ∧
  Dp K H yB d ∧ IsTm d f.2.2 ∧ TmOk ls f.2.1 f.2.2 ∧ f.2.2.size ≤ z
/-- .. and as it is kept -/
def FunT (K : PySem.W.Frag) (H : Hp) (f : FnD) (t : Addr) : Prop := ∃ (u : Addr) (b : V), H t = some (.tup [.str f.1, .ref u, b]) ∧ SqT K H u (sts f.2.1) ∧ Dp K H b f.2.2.d
theorem FunT.mono {K : PySem.W.Frag} {H H' : Hp} {f : FnD} {t : Addr} (s : Same H H') (h : FunT K H f t) : FunT K H' f t := let ⟨u, b, h1, h2, h3⟩ := h; ⟨u, b, s _ _ h1, Same.seqT s h2, dp_mono s h3⟩
theorem funT_tw {K : PySem.W.Frag} {H H' : Hp} {f : FnD} {t : Addr} (s : TW H H') (h : FunT K H f t) : FunT K H' f t := let ⟨u, b, h1, h2, h3⟩ := h; ⟨u, b, s _ _ h1 rfl, sqT_tw s h2, dp_tw s _ _ (tupO_d _) h3⟩
theorem funs_at {K : PySem.W.Frag} {H : Hp} {fs : List FnD} {ts : List Addr} (h : Paired (FunT K H) fs ts) : Paired (FunAt K H) (pre fs) ts := by
  induction h with
  | nil => exact .nil
  | cons h _ ih => exact .cons (let ⟨u, b, h1, h2, _⟩ := h; ⟨u, b, h1, h2⟩) ih
abbrev sCF : Stmt := topS 36
def cfN : List Str := ["ground", "functions", "found", "index", "thing", "function"]
def spCF (K : PySem.W.Frag) (C CF : Addr) (z : Nat) : Sp := fun vs H Q E => ∃ (G : Addr) (R : V) (g : GD), vs = [.ref G, R] ∧ IsGr2 C H G g ∧ g.Own ∧ z ≤ 900 ∧
  ((∃ (a : Addr) (fs : List FnD) (ts : List V) (rest : List V), R = .ref a ∧ SqA K H a (ts ++ rest) ∧ fs.length = ts.length ∧ (∀ i f x, fs[i]? = some f → ts[i]? = some x → GoodFn K H (g.wide (pre (fs.take i))).letters z f x) ∧ (∀ i, i ≤ fs.length → (g.wide (pre (fs.take i))).Fit) ∧
      ((rest = [] ∧ ∀ l us H', H l = none → Same H H' → H' l = some (.lst (us.map V.ref)) → Paired (FunT K H') fs us → Q (.ref l) H') ∨
       (∃ y r2, rest = y :: r2 ∧ (∀ H', Same H H' → BadFn K H' (g.wide (pre fs)).letters z y) ∧ ∀ d H', Same H H' → H' d = some (.xd [("index", .int ((ts.length : Nat) : Int))]) → E (.ref CF) (some d) H'))) ∨
   (∃ t, (∀ H', Same H H' → TyX K H' R t) ∧ PySem.W.kitAny K t [.type "list", .type "tuple"] = some false ∧ ∀ d H', Same H H' → H' d = some (.xd [("index", .int 0)]) → E (.ref CF) (some d) H'))
section
variable {P : Program} {w : World} {K : PySem.W.Frag} {mg : Str → Option Value} {base : Heap} {C CF : Addr}
theorem scCF : FnScope cfN ["ground", "functions"] (defScope sCF) := ⟨rfl, rfl, rfl, by decide +kernel, rfl, by decide +kernel, by decide +kernel⟩
theorem ok_cf {z : Nat} {f : Addr} {fd : FuncData} (F : Fun K "_checked_functions" "_checked_functions" sCF f fd) (T : Bl mg) (BF : ErrC P w K mg base "BadFunction" "index" CF) (IL : Fns P w K mg base "is_list" 1 ["thing"] (spIsL K)) (WD : Fns P w K mg base "_wide" 7 ["ground", "functions"] (spWd K C))
    (FN : Fns P w K mg base "_function_or_none" (4 + 2 * z + 1 + 1) ["wide", "thing"] (spFn K C z)) : FnOk P w K mg base (L2.CX P w) (7 + 2 * z + 1) f fd ["ground", "functions"] (spCF K C CF z) := by
  obtain ⟨fI, dI, iI, tI, FI, bI⟩ := BF.ini
  refine F.okX scCF (fun vs H Q E h => ?_) (fun cdv A outer s H vs Q E hr h => ?_)
  · obtain ⟨G, R, g, rfl, _⟩ := h
    rfl
  · obtain ⟨G, R, g, rfl, hG, own, z9, h⟩ := h
    refine ⟨_, pss_cons (ps_if (pt_not (pt_val (pe_fn IL hr (by omega) rfl (pa_cons (pv 1) (pa_nil))))) (pss_one (ps_raise rfl (takes_of rfl rfl rfl rfl) (pmk_oex BF.T iI tI FI (hr.mono (by omega)) bI .nil pass0 rfl BF.gC (pa_cons (pe_int) (pa_nil))))) (pss_nil)) (pss_cons (ps_set (i := 2) scCF.nd rfl (.inl rfl) (pe_lst (pa_nil))) (pss_cons (ps_for (passes_of rfl) rfl (pi_enumW rfl T.enum (pa_cons (pv 1) (pa_nil))) (pg_tup rfl (pgs_cons (pg_name (i := 3) scCF.nd rfl (.inl rfl)) (pgs_cons (pg_name (i := 4) scCF.nd rfl (.inl rfl)) (pgs_nil)))) (pss_cons (ps_set (i := 5) scCF.nd rfl (.inl rfl) (pe_fn FN hr (by omega) rfl (pa_cons (pe_fn WD hr (by omega) rfl (pa_cons (pv 0) (pa_cons (pv 2) (pa_nil)))) (pa_cons (pv 4) (pa_nil))))) (pss_cons (ps_if (pt_cmpR op_isN (pv 5) (pe_non) (nomark _)) (pss_one (ps_raise rfl (takes_of rfl rfl rfl rfl) (pmk_oex BF.T iI tI FI (hr.mono (by omega)) bI .nil pass0 rfl BF.gC (pa_cons (pv 3) (pa_nil))))) (pss_nil)) (pss_one (ps_expr (pe_bm PySem.F.plainAttrs_list PySem.F.slot_list_append PySem.F.type_list_append mt_append (pv 2) (pa_cons (pv 5) (pa_nil)))))))) (pss_one (ps_ret (pv 2))))), ?_⟩
    rcases h with ⟨a, fs, ts, rest, rfl, hR, lts, good, fit, h⟩ | ⟨t, ht, hk, q⟩
    · obtain ⟨ty, ht, hty⟩ := tyS hR
      refine ⟨_, rfl, .ref a, _, true, rfl, hty, kit_seq ht, fun H1 s1 => ⟨_, rfl, ?_⟩⟩
      refine iteF ?_
      refine ⟨by show 0 ≤ sizeLine; decide, fun L nL => ?_⟩
      obtain ⟨H2, s2, h2, e2⟩ := lay (o := .lst []) nL
      rw [e2]
      have S2 : Same H (hid [L] H2) := s1.trans (same_hid_new nL s2)
      obtain ⟨kb, hqv⟩ := sqV (hR.mono S2)
      refine ⟨_, rfl, a, ts ++ rest, kb, [L], rfl, hqv, fun J WJ => ?_⟩
      have lxs : (ts ++ rest).length = fs.length + rest.length := by rw [List.length_append, lts]
      refine for_it WJ (fun i σ H' => i ≤ fs.length ∧ ∃ (o3 o4 o5 : Option V) (us : List Addr), σ = [some (.ref G), some (.ref a), some (.ref L), o3, o4, o5] ∧ Same H (hid [L] H') ∧ Same (hid [L] H2) (hid [L] H') ∧ H' L = some (.lst (us.map V.ref)) ∧ Paired (FunT K (hid [L] H')) (fs.take i) us)
        ⟨Nat.zero_le _, none, none, none, [], rfl, S2, Same.refl _, h2, .nil⟩ (fun i σ H' _ ⟨_, _, _, _, _, _, _, S, _⟩ => hqv.mono S) ?_ ?_
      · rintro i x σ H3 H3' hi ⟨hir', o3, o4, o5, us, rfl, S3, S23, hL, hus⟩ ⟨Tp, y1, y2, rfl, nT, rfl, q1, q2⟩
        obtain rfl := Option.some.inj q1
        have q2 : (ts ++ rest)[i]? = some y2 := q2
        obtain ⟨H4, s4, h4, e4⟩ := lay (o := .tup [.int (i : Nat), y2]) nT
        rw [e4]
        have S3l : Same H H3 := S3.trans (hid_low _ _)
        have S4 : Same H H4 := S3l.trans s4
        refine ⟨Tp, _, rfl, SqT.of h4, rfl, _, _, rfl, _, _, rfl, rfl, ?_⟩
        have hus4 : Paired (FunT K H4) (fs.take i) us := Paired.mapP hus fun _ _ z => (z.mono (hid_low _ _)).mono s4
        have hL4 := s4 _ _ hL
        have wfit := fit i hir'
        refine ⟨_, rfl, _, rfl, G, L, g, pre (fs.take i), us, rfl, hG.mono S4, own, .inl (SqL.of hL4), funs_at hus4, wfit, fun W H5 nW s5 hW => ?_⟩
        have S5 := S4.trans s5
        refine ⟨_, rfl, W, y2, g.wide (pre (fs.take i)), rfl, gr_of2 hW, wfit.nd, z9, ?_⟩
        by_cases hir : i < fs.length
        · rw [List.getElem?_append_left (by rw [← lts]; exact hir)] at q2
          have hfi : fs[i]? = some fs[i] := List.getElem?_eq_getElem hir
          generalize fs[i] = fn at hfi
          obtain ⟨a', yB, b, d, rfl, g1, g2, g3, g4, g5, g6, g7, g8, g9, g10, g11, g12⟩ := good i fn y2 hfi q2
          refine .inl ⟨a', fn.1, yB, b, fn.2.1, d, fn.2.2, rfl, g1.mono S5, g2, g3, g4, g5.mono S5, g6, g7, g8, dp_mono S5 g9, g10, g11, g12, fun p u v H6 s6 h6 hu hv => ?_⟩
          refine ⟨_, rfl, rfl, _, rfl, ?_⟩
          rw [show decide (V.ref p = V.non) = false from decide_eq_false (fun z => nomatch z)]
          refine iteF ?_
          have S36 := (s4.trans s5).trans s6
          have hL6 := S36 _ _ hL
          have lu := Paired.length hus
          rw [List.length_take] at lu
          have ltt : i < ts.length := by omega
          have pL : p ≠ L := ne_of h6 hL6 (fun z => nomatch z)
          have l12 := wfit.le
          refine ⟨_, rfl, .inl ⟨rfl, _, SqL.of hL6⟩, _, rfl, L, _, _, rfl, rfl, hL6, ?_, ?_⟩
          · have : (g.wide (pre (fs.take i))).letters.length = g.letters.length + (fs.take i).length := by unfold GD.wide pre; simp
            rw [List.length_map, sizeLine_eq]
            rw [List.length_take] at this
            omega
          · have B : Bt [L] H6 (upd H6 L (.lst (us.map V.ref ++ [.ref p]))) := bt_upd (by simp)
            have S36' : Same (hid [L] H3) (hid [L] (upd H6 L (.lst (us.map V.ref ++ [.ref p])))) := (hid_same S36).trans B
            refine ⟨by omega, _, _, _, us ++ [p], rfl, S3.trans S36', S23.trans S36', by rw [upd_same, List.map_append]; rfl, ?_⟩
            rw [take_at hfi]
            refine paired_app (Paired.mapP hus fun _ _ z => z.mono S36') (.cons ⟨u, v, B _ _ (hid_to (ni1 pL) h6), Same.seqT B (sqT_off hL6 hu), dp_mono B (dp_hid (fun q hq => by rw [List.mem_singleton.mp hq]; exact ⟨_, hL6⟩) _ _ (tupO_d _) hv)⟩ .nil)
        · have ei : i = fs.length := by omega
          rw [List.getElem?_append_right (by omega), show i - ts.length = 0 by omega] at q2
          rcases h with ⟨rfl, _⟩ | ⟨y, r2, rfl, hB, qe⟩
          · cases q2
          · obtain rfl : y = y2 := Option.some.inj q2
            have hb := hB H5 S5
            rw [show fs.take i = fs by rw [ei, List.take_length]]
            refine .inr ⟨hb, fun H6 s6 => ?_⟩
            refine ⟨_, rfl, rfl, _, rfl, ?_⟩
            refine iteT ?_
            exact ⟨_, rfl, by show 1 ≤ 1000; decide, fun b nb => mk_err (fun d H' s' h' => qe d H' ((S5.trans s6).trans s') (by rw [← lts, ← ei]; exact h')) b nb⟩
      · rintro σ H3 ⟨hir', o3, o4, o5, us, rfl, S3, S23, hL, hus⟩
        rcases h with ⟨rfl, q⟩ | ⟨y, r2, rfl, _⟩
        · rw [List.take_of_length_le (by rw [lxs]; simp)] at hus
          exact ⟨_, rfl, q L us H3 (s1.free nL) (S3.trans (hid_low _ _)) hL (Paired.mapP hus fun _ _ z => z.mono (hid_low _ _))⟩
        · rw [lxs, List.length_cons] at hir'
          omega
    · refine ⟨_, rfl, R, t, false, rfl, ht, hk, fun H1 s1 => ⟨_, rfl, ?_⟩⟩
      refine iteT ?_
      exact ⟨by show 1 ≤ 1000; decide, fun a na => mk_err (fun d H' s' h' => q d H' (s1.trans s') h') a na⟩
end
end K39
set_option Elab.async false
set_option linter.all false
set_option maxRecDepth 100000
set_option maxHeartbeats 16000000
namespace K39t
open PySem PySem.Spec L2 K39 GB
abbrev sTerm : Stmt := topS 47
def termN : List Str := ["_law_pool_here", "_law_g", "_law_names", "_law_left", "_law_x", "_law_some", "_law_inner", "_law_words", "_law_word", "_law_name", "_law_first", "_law_many", "_law_k"]
/-- one of the things of a tuple -/
def spOneT (K : PySem.W.Frag) : Sp := fun vs H Q _ => ∃ (p t : Addr) (xs : List V) (n : Nat), vs = [.ref p, .ref t] ∧ SqT K (hid [p] H) t xs ∧ xs ≠ [] ∧ xs.length ≤ 100000 ∧ n + 1 ≤ 1000000 ∧ PoolIs H p n ∧
  ∀ (v : V) H', v ∈ xs → Bt [p] H H' → PoolIs H' p (n + 1) → Q v H'
def spTerm (K : PySem.W.Frag) (z : Nat) : Sp := fun vs H Q _ => ∃ (p g a l : Addr) (gd : GD) (ns : List Str) (x0 : Nat) (u0 : Int) (n : Nat), vs = [.ref p, .ref g, .ref a, .ref l] ∧ IsG (hid [p, l] H) g gd ∧ gd.Wf ∧ SqT K H a (sts ns) ∧ (∀ m ∈ ns, nameB m = true) ∧ ns.length + z ≤ 100 ∧ p ≠ l ∧
  H l = some (.lst [.int (x0 : Int), .int u0]) ∧ x0 < z ∧ z ≤ 20 ∧ PoolIs H p n ∧ n + 2 * (x0 + 1) ≤ 900000 ∧
  ∀ (v : V) (t : GB.Tm) (x1 : Nat) (u1 : Int) H', Bt [p, l] H H' → H' l = some (.lst [.int (x1 : Int), .int u1]) → t.size + x1 = x0 + 1 → TmOk gd.letters ns t → Dp K H' v t.d → PoolIs H' p (n + 2 * t.size) → t ≠ .mk "value" "zz" [] → Q v H'
section
variable {P : Program} {w : World} {K : PySem.W.Frag} {mg : Str → Option Value} {base : Heap} {C : Addr}
def opsI : List (Str × Nat) := [("if", 3), ("and", 2), ("or", 2), ("not", 1), ("bind", 2), ("try", 2), ("last", 2), ("then", 2), ("then", 2)]
def opsB : List (Str × Nat) := ("bind", 2) :: opsW
theorem opsI_B : ∀ q ∈ opsI, q ∈ opsB := by decide
theorem paired_at {α β : Type} {R : α → β → Prop} : ∀ {l : List α} {m : List β} {j : Nat} {c : α}, Paired R l m → l[j]? = some c → ∃ x, m[j]? = some x ∧ R c x
  | _, _, j, c, .nil, e => by simp at e
  | _, _, 0, c, .cons r _, e => by
    obtain rfl : _ = c := by simpa using e
    exact ⟨_, rfl, r⟩
  | _, _, j + 1, c, .cons _ t, e => paired_at (j := j) t (by simpa using e)
theorem sqT_bt {K : PySem.W.Frag} {ps : List Addr} {H H' : Hp} (hl : ∀ p ∈ ps, ∃ xs, H p = some (.lst xs)) (B : Bt ps H H') {a : Addr} {xs : List V} (h : SqT K H a xs) : SqT K H' a xs := Same.seqT (hid_low ps H') (Same.seqT B (sqT_hid hl h))
theorem leaf_d {w n : Str} (hw : w ∈ nmd) : (GB.Tm.mk w n []).d = .tuple [.str w, .str n] := by
  have : ∀ x ∈ nmd, x ≠ "use" ∧ x ≠ "bind" ∧ x ∉ opsW.map (·.1) := by decide
  obtain ⟨e1, e2, e3⟩ := this w hw
  rw [GB.Tm.d, if_neg e1, if_neg e2, if_neg e3]
theorem paired_map_r {α β γ : Type} {R : α → γ → Prop} {f : β → γ} : ∀ {l : List α} {m : List β}, Paired (fun x y => R x (f y)) l m → Paired R l (m.map f)
  | _, _, .nil => .nil
  | _, _, .cons h t => .cons h (paired_map_r t)
theorem merge_ops : ∀ q ∈ opsB, valV (mergeK [] (opsI.map fun q => ((.inr q.1 : Key), V.int ((q.2 : Nat) : Int)))) (.inr q.1 : Key) = some (.int (q.2 : Int)) := by
  intro q hq
  simp only [opsB, opsW, List.mem_cons, List.not_mem_nil, or_false] at hq
  rcases hq with rfl | rfl | rfl | rfl | rfl | rfl | rfl | rfl <;> rfl
theorem wf_len {g : GD} (w : g.Wf) : g.letters.length ≤ 8 := w.le
theorem ok_oneT {f : Addr} {fd : FuncData} (F : Fun K "_law_one" "_law_one" sOne f fd) (T : Bl mg) (TK : Fns P w K mg base "_law_take" 1 ["_law_pool_here", "_law_many"] spTake) : FnOk P w K mg base CX0 2 f fd ["_law_pool_here", "_law_things"] (spOneT K) := by
  refine F.ok scOne (fun vs H Q E h => ?_) (fun cdv A outer s H vs Q E hr h => ?_)
  · obtain ⟨p, t, xs, n, rfl, _⟩ := h
    rfl
  · obtain ⟨p, t, xs, n, rfl, hS, hx, hx2, hn, hP, q⟩ := h
    refine ⟨_, pss_one (ps_ret (pe_ix ix_tup (pv 1) (pe_fn TK hr (by decide) rfl (pa_cons (pv 0) (pa_cons (pe_callB call_len_seq (by rfl) T.len PySem.boot_len (pa_cons (pv 1) pa_nil)) pa_nil))) (fun _ _ => rfl))), ?_⟩
    have hS0 := Same.seqT (hid_low [p] H) hS
    have l0 : 0 < xs.length := List.length_pos_iff.mpr hx
    refine ⟨_, rfl, _, rfl, _, rfl, t, xs, rfl, .inr hS0, p, _, n, rfl, (by show (0 : Int) < (xs.length : Int); omega), (by show (xs.length : Int) < 1000000; omega), by omega, hP, fun r H4 hr' b4 P4 => ?_⟩
    have hr2 : r < xs.length := by have := hr'; omega
    exact ⟨t, xs, _, xs[r], rfl, rfl, Same.seqT (hid_low [p] H4) (Same.seqT b4 hS), atI_nat (List.getElem?_eq_getElem hr2), q _ H4 (List.getElem_mem hr2) b4 P4⟩
theorem dps_bt {K : PySem.W.Frag} {ps : List Addr} {H H' : Hp} (hl : ∀ p ∈ ps, ∃ xs, H p = some (.lst xs)) (B : Bt ps H H') {vs : List V} {ds : List PyData} (t : tupOs ds = true) (h : DpAll K H vs ds) : DpAll K H' vs ds := dps_mono ((B.trans (hid_low ps H'))) (dps_hid hl ds vs t h)
theorem dp_bt {K : PySem.W.Frag} {ps : List Addr} {H H' : Hp} (hl : ∀ p ∈ ps, ∃ xs, H p = some (.lst xs)) (B : Bt ps H H') {v : V} {d : PyData} (t : tupO d = true) (h : Dp K H v d) : Dp K H' v d := dp_mono ((B.trans (hid_low ps H'))) (dp_hid hl d v t h)
theorem pl_lists {H : Hp} {p l : Addr} {m : Nat} {xs : List V} (P : PoolIs H p m) (h : H l = some (.lst xs)) : ∀ q ∈ [p, l], ∃ ys, H q = some (.lst ys) := fun q hq => by
  simp only [List.mem_cons, List.not_mem_nil, or_false] at hq
  rcases hq with rfl | rfl
  · obtain ⟨x1, y1, w1', hp, _⟩ := P
    exact ⟨_, hp⟩
  · exact ⟨_, h⟩
theorem tupOs_map (ts : List GB.Tm) : tupOs (ts.map GB.Tm.d) = true := by rw [← ds_map]; exact tupO_ds ts
/-- the terms within, one after another -/
theorem kids_ok {z : Nat} {p g a l D : Addr} {gd : GD} {ns : List Str} {σ : L2.St} {H : Hp} {x0 k n : Nat} {u0 : Int} {Qd : Hp → Prop} (hσ : ∀ v, ((wipe σ [12]).set 12 (some v))[0]? = some (some (.ref p)) ∧ ((wipe σ [12]).set 12 (some v))[1]? = some (some (.ref g)) ∧ ((wipe σ [12]).set 12 (some v))[2]? = some (some (.ref a)) ∧ ((wipe σ [12]).set 12 (some v))[3]? = some (some (.ref l)) ∧ wipe ((wipe σ [12]).set 12 (some v)) [12] = wipe σ [12])
    (nD : H D = none) (hG : IsG (hid [p, l] H) g gd) (wf : gd.Wf) (ha : SqT K H a (sts ns)) (hnm : ∀ m ∈ ns, nameB m = true) (hnl : ns.length + z ≤ 100) (pl : p ≠ l) (hl : H l = some (.lst [.int (x0 : Int), .int u0])) (hx : k = 0 ∨ x0 < z) (hz : z ≤ 20) (hk : k ≤ 100) (hP : PoolIs H p n) (hn : n + 2 * (x0 + k) ≤ 900000)
    (done : ∀ (ts : List GB.Tm) (x1 : Nat) (u1 : Int) H' acc, ts.length = k → Bt [p, l] H H' → H' D = some (.lst acc) → DpAll K H' acc (ts.map GB.Tm.d) → H' l = some (.lst [.int (x1 : Int), .int u1]) → GB.Tm.sizes ts + x1 = x0 + k → (∀ (i : Nat) (t : GB.Tm), ts[i]? = some t → TmOk gd.letters ns t) → PoolIs H' p (n + 2 * GB.Tm.sizes ts) → Qd H') :
    ∃ W : Nat → Nat → Hp → Prop, (∃ m, W 0 m (upd H D (.lst []))) ∧ ∀ i m H, W i m H →
      ((Itr 0 k).stop i H ∧ Qd H) ∨ ((Itr 0 k).go i H ∧ ∃ Nx : Hp → Prop, (∀ H', Nx H' → ∃ m', m' < m ∧ W (i + 1) m' H') ∧ ∀ x H', (Itr 0 k).yld i H x H' → gName 12 x (wipe σ [12]) H' fun σ2 H2 => wipe σ2 [12] = wipe σ [12] ∧ tYes σ2 H2 fun b H3 =>
        if b = true then tCall (spTerm K z) [] E0 (tCons (tVar 0) (tCons (tVar 1) (tCons (tVar 2) (tCons (tVar 3) tNil)))) σ2 H3 fun y H4 => ∃ acc, H4 D = some (.lst acc) ∧ acc.length < sizeLine ∧ Nx (upd H4 D (.lst (acc ++ [y]))) else Nx H3) := by
  have Dp' : D ≠ p := hP.ne nD
  have Dl : D ≠ l := fun e => by rw [e, hl] at nD; cases nD
  have Dni : D ∉ [p, l] := by simp [Dp', Dl]
  have PL := pl_lists hP hl
  refine lc_it walk_range (fun i H' => ∃ (ts : List GB.Tm) (x1 : Nat) (u1 : Int) (acc : List V), ts.length = i ∧ Bt [p, l] H H' ∧ H' D = some (.lst acc) ∧ DpAll K H' acc (ts.map GB.Tm.d) ∧ H' l = some (.lst [.int (x1 : Int), .int u1]) ∧ GB.Tm.sizes ts + x1 = x0 + i ∧ (∀ (i : Nat) (t : GB.Tm), ts[i]? = some t → TmOk gd.letters ns t) ∧ PoolIs H' p (n + 2 * GB.Tm.sizes ts))
    ⟨[], x0, u0, [], rfl, bt_of (same_new nD), upd_same, .nil, by rw [upd_ne Dl.symm]; exact hl, by rw [GB.Tm.sizes]; omega, (fun i t h => by simp at h), hP.mono (same_new nD) (by omega)⟩ (fun _ _ _ _ => trivial) ?_ ?_
  · rintro i x H1 H1' hi ⟨ts, x1, u1, acc, hti, B1, hD, hd, hl1, hsz, hok, P1⟩ ⟨rfl, rfl⟩
    obtain ⟨e0, e1, e2, e3, e4⟩ := hσ (.int (0 + (i : Nat)))
    refine ⟨e4, ?_⟩
    have hx' : x0 < z := by
      rcases hx with h | h
      · omega
      · exact h
    have ls := len_sizes ts
    refine ⟨_, e0, _, e1, _, e2, _, e3, p, g, a, l, gd, ns, x1, u1, _, rfl, hG.mono B1, wf, sqT_bt PL B1 ha, hnm, by omega, pl, hl1, by omega, hz, P1, by omega, fun v t x2 u2 H2 B2 hl2 hs2 ok2 d2 P2 _ => ?_⟩
    have PL1 := pl_lists P1 hl1
    have hD2 := bt_at B2 Dni hD
    have ac2 := dps_bt PL1 B2 (tupOs_map ts) hd
    have lacc : acc.length = i := by rw [dps_len hd, List.length_map, hti]
    refine ⟨acc, hD2, by rw [sizeLine_eq]; omega, ts ++ [t], x2, u2, acc ++ [v], by rw [List.length_append, hti]; rfl, fun b o e => ?_, upd_same, ?_, by rw [upd_ne Dl.symm]; exact hl2, ?_, fun j t' h => ?_, ?_⟩
    · obtain ⟨e', m⟩ := hid_in e
      have bD : b ≠ D := ne_of_none e' nD
      exact hid_to m (by rw [upd_ne bD]; exact bt_at B2 m (bt_at B1 m e'))
    · rw [List.map_append]
      have bD : Bt [D] H2 (upd H2 D (.lst (acc ++ [v]))) := bt_upd (by simp)
      have LD : ∀ q ∈ [D], ∃ ys, H2 q = some (.lst ys) := fun q hq => by rw [List.mem_singleton.mp hq]; exact ⟨_, hD2⟩
      exact dps_app (dps_bt LD bD (tupOs_map ts) ac2) (.cons (dp_bt LD bD (tupO_d t) d2) .nil)
    · rw [sizes_app, GB.Tm.sizes, GB.Tm.sizes]; omega
    · rcases Nat.lt_or_ge j ts.length with hj | hj
      · rw [List.getElem?_append_left hj] at h
        exact hok j t' h
      · rw [List.getElem?_append_right hj] at h
        cases hjj : j - ts.length with
        | zero =>
          rw [hjj] at h
          obtain rfl := Option.some.inj h
          exact ok2
        | succ m => rw [hjj] at h; simp at h
    · have e : n + 2 * GB.Tm.sizes (ts ++ [t]) = n + 2 * GB.Tm.sizes ts + 2 * t.size := by rw [sizes_app, GB.Tm.sizes, GB.Tm.sizes]; omega
      rw [e]
      obtain ⟨x, y, w', hp, r⟩ := P2
      exact ⟨x, y, w', by rw [upd_ne Dp'.symm]; exact hp, r⟩
  · rintro H' ⟨ts, x1, u1, acc, h1, h2, h3, h4, h5, h6, h7, h8⟩
    exact done ts x1 u1 H' acc h1 h2 h3 h4 h5 h6 h7 h8
theorem scTerm : FnScope termN ["_law_pool_here", "_law_g", "_law_names", "_law_left"] (defScope sTerm) := ⟨rfl, rfl, rfl, by decide +kernel, rfl, by decide +kernel, by decide +kernel⟩

theorem ok_term {f : Addr} {fd : FuncData} (F : Fun K "_law_term" "_law_term" sTerm f fd) (T : Bl mg) (mgF : mg "_law_term" = some (.ref f)) (kF : PySem.W.keepIn K (.ref f) = true) (bF : Binds K fd ["_law_pool_here", "_law_g", "_law_names", "_law_left"] [])
    (ON : Fns P w K mg base "_law_one" 2 ["_law_pool_here", "_law_things"] (spOne K)) (OT : Fns P w K mg base "_law_one" 2 ["_law_pool_here", "_law_things"] (spOneT K)) : ∀ z : Nat, FnOk P w K mg base CX0 (2 + z) f fd ["_law_pool_here", "_law_g", "_law_names", "_law_left"] (spTerm K z) := by
  intro z
  induction z with
  | zero =>
    refine F.ok scTerm (fun vs H Q E h => ?_) (fun cdv A outer s H vs Q E hr h => ?_)
    · obtain ⟨p, g, a, l, gd, ns, x0, u0, n, rfl, _⟩ := h
      rfl
    · obtain ⟨p, g, a, l, gd, ns, x0, u0, n, rfl, _, _, _, _, _, _, _, hz, _⟩ := h
      exact absurd hz (by omega)
  | succ z ih =>
    have TM : Fns P w K mg base "_law_term" (2 + z) ["_law_pool_here", "_law_g", "_law_names", "_law_left"] (spTerm K z) := ⟨f, fd, ih, mgF, kF, bF⟩
    refine F.ok scTerm (fun vs H Q E h => ?_) (fun cdv A outer s H vs Q E hr h => ?_)
    · obtain ⟨p, g, a, l, gd, ns, x0, u0, n, rfl, _⟩ := h
      rfl
    · obtain ⟨p, g, a, l, gd, ns, x0, u0, n, rfl, hG, wf, ha, hnm, hnl, pl, hl, hx0, hz20, hP, hn, q⟩ := h
      have l2 : 2 ≤ 2 + z := by omega
      have lz : 2 + z ≤ 2 + z := by omega
      refine ⟨_, pss_cons (ps_lock (ps_setLc (i := 5) (own := [("_law_x", 4)]) (g := gName 4) (tt := tAnd (tTest (tOp (rI0 fun i j => .bl (decide (i ≤ j))) (tDGet (tDGet (tVar 1) (tC (.str "letters"))) (tVar 4)) (tOp (rIxL K) (tVar 3) (tC (.int 0))))) (tTest (tOp (rI0 fun i j => .bl (decide (i > j))) (tOp (rIxL K) (tVar 3) (tC (.int 1))) (tC (.int 0))))) rfl scTerm.nd rfl rfl (sw_true rfl rfl rfl (by decide +kernel)) (pi_keys (pe_dget (hu_of hr) (pv 1) (pe_str) (fun _ _ => rfl))) (blkOk_by (own := [("_law_x", 4)]) (N := termN) (sc := defScope sTerm) (by decide +kernel)) (fun _ _ _ _ _ => pg_name (i := 4) scTerm.nd rfl (.inl rfl)) (fun _ _ _ _ _ => pts_one (PW.pt (pw_and (pt_cmpR op_le (pe_dget (hu_of hr) (pe_dget (hu_of hr) (pv 1) (pe_str) (fun _ _ => rfl)) (pv 4) (fun _ _ => rfl)) (pe_ix ix_list (pv 3) (pe_int) (fun _ _ => rfl)) (nomark _)) (pw_and1 (pt_cmpR op_gt (pe_ix ix_list (pv 3) (pe_int) (fun _ _ => rfl)) (pe_int) (nomark _)))))) (fun _ _ _ _ _ => pv 4))) (pss_cons (ps_set (i := 6) scTerm.nd rfl (.inl rfl) (pe_op op_cat (pe_lst (pa_cons (pe_tup (pa_cons (pe_str) (pa_cons (pe_int) (pa_nil)))) (pa_cons (pe_tup (pa_cons (pe_str) (pa_cons (pe_int) (pa_nil)))) (pa_cons (pe_tup (pa_cons (pe_str) (pa_cons (pe_int) (pa_nil)))) (pa_cons (pe_tup (pa_cons (pe_str) (pa_cons (pe_int) (pa_nil)))) (pa_cons (pe_tup (pa_cons (pe_str) (pa_cons (pe_int) (pa_nil)))) (pa_cons (pe_tup (pa_cons (pe_str) (pa_cons (pe_int) (pa_nil)))) (pa_cons (pe_tup (pa_cons (pe_str) (pa_cons (pe_int) (pa_nil)))) (pa_nil))))))))) (pe_op op_rep (pe_lst (pa_cons (pe_tup (pa_cons (pe_str) (pa_cons (pe_int) (pa_nil)))) (pa_nil))) (pe_int)))) (pss_cons (ps_set (i := 7) scTerm.nd rfl (.inl rfl) (pe_op op_cat (pe_op op_cat (pe_op op_rep (pe_op op_rep (pe_lst (pa_cons (pe_str) (pa_nil))) (pe_int)) (pe_callTy (call_int1) (by rfl) T.int (by decide +kernel) (pa_cons (pe_cmpR (op_neD hr.units) (pv 5) (pe_lst (pa_nil)) (nomark _)) (pa_nil)))) (pe_lst (pa_cons (pe_str) (pa_cons (pe_str) (pa_nil))))) (pe_op op_rep (pe_op op_rep (pe_lst (pa_cons (pe_str) (pa_nil))) (pe_int)) (pe_callTy (call_int1) (by rfl) T.int (by decide +kernel) (pa_cons (pe_cmpR op_gt (pe_callB call_len_seq (by rfl) T.len PySem.boot_len (pa_cons (pv 2) (pa_nil))) (pe_int) (nomark _)) (pa_nil)))))) (pss_cons (ps_set (i := 7) scTerm.nd rfl (.inl rfl) (pe_op op_cat (pv 7) (pe_lc (own := [("_law_word", 8), ("_law_many", 11)]) (g := gTup K 2 (gCons (gName 8) (gCons (gName 11) gNil))) (tt := tTest (tOp (rI0 fun i j => .bl (decide (i ≤ j))) (tVar 11) (tOp (rIxL K) (tVar 3) (tC (.int 0))))) rfl scTerm.nd (pi_list (pv 6)) (blkOk_by (own := [("_law_word", 8), ("_law_many", 11)]) (N := termN) (sc := defScope sTerm) (by decide +kernel)) (fun _ _ _ _ _ => pg_tup rfl (pgs_cons (pg_name (i := 8) scTerm.nd rfl (.inl rfl)) (pgs_cons (pg_name (i := 11) scTerm.nd rfl (.inl rfl)) (pgs_nil)))) (fun _ _ _ _ _ => pts_one (pt_cmpR op_le (pv 11) (pe_ix ix_list (pv 3) (pe_int) (fun _ _ => rfl)) (nomark _))) (fun _ _ _ _ _ => pv 8)))) (pss_cons (ps_set (i := 8) scTerm.nd rfl (.inl rfl) (pe_fn ON hr l2 rfl (pa_cons (pv 0) (pa_cons (pv 7) (pa_nil))))) (pss_cons (ps_if (pt_cmpR op_in_seq (pv 8) (pe_tup (pa_cons (pe_str) (pa_cons (pe_str) (pa_nil)))) (by rfl)) (pss_one (ps_ret (pe_tup (pa_cons (pv 8) (pa_cons (pe_fn ON hr l2 rfl (pa_cons (pv 0) (pa_cons (pe_lst (pa_cons (pe_str) (pa_cons (pe_str) (pa_cons (pe_str) (pa_cons (pe_str) (pa_cons (pe_str) (pa_nil))))))) (pa_nil)))) (pa_nil)))))) (pss_nil)) (pss_cons (ps_if (pt_cmpR op_eq (pv 8) (pe_str) (nomark _)) (pss_one (ps_ret (pe_tup (pa_cons (pv 8) (pa_cons (pe_fn OT hr l2 rfl (pa_cons (pv 0) (pa_cons (pv 2) (pa_nil)))) (pa_nil)))))) (pss_nil)) (pss_cons (ps_if (pt_cmpR op_eq (pv 8) (pe_str) (nomark _)) (pss_cons (ps_set (i := 4) scTerm.nd rfl (.inl rfl) (pe_fn ON hr l2 rfl (pa_cons (pv 0) (pa_cons (pv 5) (pa_nil))))) (pss_cons (ps_asg (pe_tup (pa_cons (pe_op op_sub (pe_ix ix_list (pv 3) (pe_int) (fun _ _ => rfl)) (pe_dget (hu_of hr) (pe_dget (hu_of hr) (pv 1) (pe_str) (fun _ _ => rfl)) (pv 4) (fun _ _ => rfl))) (pa_cons (pe_op op_sub (pe_ix ix_list (pv 3) (pe_int) (fun _ _ => rfl)) (pe_int)) (pa_nil)))) (pg_tup rfl (pgs_cons (pg_sub (pv 3) pe_int set_list) (pgs_cons (pg_sub (pv 3) pe_int set_list) pgs_nil)))) (pss_one (ps_ret (pe_tup (pa_cons (pv 8) (pa_cons (pv 4) (pa_cons (pe_callTy (call_tuple_of) (by rfl) T.tuple (by decide +kernel) (pa_cons (pe_lc (own := [("_law_k", 12)]) (g := gName 12) (tt := tYes) rfl scTerm.nd (pi_range1 rfl T.range (pa_cons (pe_dget (hu_of hr) (pe_dget (hu_of hr) (pv 1) (pe_str) (fun _ _ => rfl)) (pv 4) (fun _ _ => rfl)) (pa_nil))) (blkOk_by (own := [("_law_k", 12)]) (N := termN) (sc := defScope sTerm) (by decide +kernel)) (fun _ _ _ _ _ => pg_name (i := 12) scTerm.nd rfl (.inl rfl)) (fun _ _ _ _ _ => pts_nil) (fun _ _ _ _ _ => pe_fn TM hr lz rfl (pa_cons (pv 0) (pa_cons (pv 1) (pa_cons (pv 2) (pa_cons (pv 3) (pa_nil))))))) (pa_nil))) (pa_nil))))))))) (pss_nil)) (pss_cons (ps_asg (pe_op op_sub (pe_ix ix_list (pv 3) (pe_int) (fun _ _ => rfl)) (pe_dget (hu_of hr) (pe_callTy (call_dictP rfl) (by rfl) T.dict (by decide +kernel) (pa_cons (pv 6) (pa_nil))) (pv 8) (fun _ _ => rfl))) (pg_sub (pv 3) pe_int set_list)) (pss_cons (ps_if (pt_cmpR op_eq (pv 8) (pe_str) (nomark _)) (pss_cons (ps_set (i := 9) scTerm.nd rfl (.inl rfl) (pe_fn ON hr l2 rfl (pa_cons (pv 0) (pa_cons (pe_lst (pa_cons (pe_str) (pa_cons (pe_str) (pa_cons (pe_str) (pa_cons (pe_str) (pa_nil)))))) (pa_nil))))) (pss_cons (ps_set (i := 10) scTerm.nd rfl (.inl rfl) (pe_fn TM hr lz rfl (pa_cons (pv 0) (pa_cons (pv 1) (pa_cons (pv 2) (pa_cons (pv 3) (pa_nil))))))) (pss_one (ps_ret (pe_tup (pa_cons (pv 8) (pa_cons (pv 9) (pa_cons (pv 10) (pa_cons (pe_fn TM hr lz rfl (pa_cons (pv 0) (pa_cons (pv 1) (pa_cons (pe_op op_catA (pv 2) (pe_tup (pa_cons (pv 9) (pa_nil)))) (pa_cons (pv 3) (pa_nil)))))) (pa_nil)))))))))) (pss_nil)) (pss_one (ps_ret (pe_callTy (call_tuple_of) (by rfl) T.tuple (by decide +kernel) (pa_cons (pe_op op_cat (pe_lst (pa_cons (pv 8) (pa_nil))) (pe_lc (own := [("_law_k", 12)]) (g := gName 12) (tt := tYes) rfl scTerm.nd (pi_range1 rfl T.range (pa_cons (pe_dget (hu_of hr) (pe_callTy (call_dictP rfl) (by rfl) T.dict (by decide +kernel) (pa_cons (pv 6) (pa_nil))) (pv 8) (fun _ _ => rfl)) (pa_nil))) (blkOk_by (own := [("_law_k", 12)]) (N := termN) (sc := defScope sTerm) (by decide +kernel)) (fun _ _ _ _ _ => pg_name (i := 12) scTerm.nd rfl (.inl rfl)) (fun _ _ _ _ _ => pts_nil) (fun _ _ _ _ _ => pe_fn TM hr lz rfl (pa_cons (pv 0) (pa_cons (pv 1) (pa_cons (pv 2) (pa_cons (pv 3) (pa_nil)))))))) (pa_nil)))))))))))))), ?_⟩
      obtain ⟨aL, aF, aC, aT, g1, g2, g3, g4, g5⟩ := hG.ex
      have hg := (hid_in g1).1
      have hL := (hid_in g2).1
      have lnd := wf.nd
      have gL : g ≠ aL := ne_of hg hL (by
        intro z
        have z2 := HO.dK.inj z
        revert z2
        cases gd.letters with
        | nil => intro z2; cases z2
        | cons q r =>
          intro z2
          have := congrArg (fun l => l.head?.map Prod.snd) z2
          simp [lkv] at this)
      have lL : l ≠ aL := ne_of hl hL (by intro z; cases z)
      have vL : valV [(.inr "letters", .ref aL), (.inr "fixed", .ref aF), (.inr "commuting", .ref aC), (.inr "facts", .ref aT)] (.inr "letters" : Key) = some (.ref aL) := valV_pos rfl
      refine ⟨aL, _, hL, trivial, fun od => ?_⟩
      obtain ⟨Hl, hlL, hlo, el⟩ : ∃ Hl, Hl aL = some (.frz od (.dK (lkv gd.letters))) ∧ (∀ b, b ≠ aL → Hl b = H b) ∧ upd H aL (.frz od (.dK (lkv gd.letters))) = Hl := ⟨_, upd_same, fun b hb => upd_ne hb, rfl⟩
      rw [el]
      have hgl : Hl g = some _ := (hlo g gL).trans hg
      have hll : Hl l = some _ := (hlo l lL).trans hl
      have DGl : ∀ {H' : Hp}, Same Hl H' → DGet H' g (.str "letters") (some (.ref aL)) := fun s => by
        rw [← vL]
        exact DGet.k (k := .inr "letters") (s _ _ hgl)
      refine ⟨_, rfl, g, .ref aL, rfl, DGl (Same.refl _), aL, od, rfl, .inl ⟨_, hlL, fun D nD => ?_⟩⟩
      refine lc_it walk_keys (fun i H' => ∃ acc : List Str, Same Hl H' ∧ H' D = some (.lst (sts acc)) ∧ acc.length ≤ i ∧ ∀ x ∈ acc, ∃ k, (x, k) ∈ gd.letters ∧ k ≤ x0) ⟨[], same_new nD, upd_same, Nat.le_refl _, fun x h => nomatch h⟩ (fun i H' _ ⟨acc, s', _⟩ => s' _ _ hlL) ?turn ?done
      case turn =>
        rintro i x H1 H1' hi ⟨acc, s1, hD, hal, good⟩ ⟨rfl, k, v, hk, rfl⟩
        obtain ⟨⟨sx, m⟩, hq, eq⟩ : ∃ q, gd.letters[i]? = some q ∧ (Sum.inr q.1, V.int q.2) = (k, v) := by
          unfold lkv at hk
          rw [List.getElem?_map] at hk
          cases e : gd.letters[i]? with
          | none => rw [e] at hk; cases hk
          | some q => rw [e] at hk; exact ⟨q, rfl, Option.some.inj hk⟩
        obtain ⟨rfl, rfl⟩ := Prod.mk.inj eq
        have hmem := List.mem_of_getElem? hq
        have hile : i < gd.letters.length := (List.getElem?_eq_some_iff.mp hq).1
        have DG2 : DGet H1' aL (.str sx) (some (.int (m : Int))) := .inl ⟨lkv gd.letters, .inr sx, .inr ⟨od, s1 _ _ hlL⟩, rfl, (valV_lkv lnd hmem).symm⟩
        have hl1 := s1 _ _ hll
        refine ⟨rfl, ?_⟩
        have l8 := wf_len wf
        refine ⟨_, rfl, g, .ref aL, rfl, DGl s1, _, rfl, aL, .int (m : Int), rfl, DG2, _, rfl, l, _, ((0 : Nat) : Int), _, rfl, rfl, SqL.of hl1, atI_nat (j := 0) rfl, _, _, rfl, rfl, _, rfl, ?_⟩
        by_cases c : (m : Int) ≤ (x0 : Int)
        · rw [decide_eq_true c]
          refine iteT ?_
          refine ⟨_, rfl, l, _, ((1 : Nat) : Int), _, rfl, rfl, SqL.of hl1, atI_nat (j := 1) rfl, _, _, rfl, rfl, _, rfl, ?_⟩
          by_cases c2 : u0 > 0
          · rw [decide_eq_true c2]
            refine ⟨_, rfl, sts acc, hD, by rw [sts_len, sizeLine_eq]; omega, acc ++ [sx], fun b o e => ?_, by rw [upd_same]; unfold sts; rw [List.map_append]; rfl, by rw [List.length_append]; simp; omega, fun y hy => ?_⟩
            · rw [upd_ne (ne_of_none e nD)]; exact s1 _ _ e
            · rcases List.mem_append.mp hy with h | h
              · exact good y h
              · rw [List.mem_singleton.mp h]
                exact ⟨m, hmem, by omega⟩
          · rw [decide_eq_false c2]
            exact ⟨acc, s1, hD, by omega, good⟩
        · rw [decide_eq_false c]
          exact ⟨acc, s1, hD, by omega, good⟩
      rintro H1' ⟨some_, s1', hD1', hsl, hsome⟩
      refine ⟨s1' _ _ hlL, ?_⟩
      have DL : D ≠ aL := fun e => by rw [e, hlL] at nD; cases nD
      have nDH : H D = none := by rw [← hlo D DL]; exact nD
      obtain ⟨H1, s1, hD1, e1⟩ : ∃ H1, Same H H1 ∧ H1 D = some (.lst (sts some_)) ∧ upd H1' aL (.dK (lkv gd.letters)) = H1 := by
        refine ⟨_, fun b o e => ?_, ?_, rfl⟩
        · by_cases hb : b = aL
          · subst hb; rw [upd_same, ← e, hL]
          · rw [upd_ne hb]; exact s1' _ _ ((hlo b hb).trans e)
        · rw [upd_ne DL]; exact hD1'
      rw [e1]
      clear e1 hD1' s1' hlL hlo el hgl hll DGl
      have l8 := wf_len wf
      refine ⟨by show 2 ≤ sizeLine; decide, fun t1 nt1 => ?_⟩
      obtain ⟨Ha1, sa1, ha1, ea1⟩ := lay (o := .tup [.str "if", .int ((3 : Nat) : Int)]) nt1
      rw [show ([V.str "if", V.int 3] : List V) = [.str "if", .int ((3 : Nat) : Int)] from rfl, ea1]
      refine ⟨by show 2 ≤ sizeLine; decide, fun t2 nt2 => ?_⟩
      obtain ⟨Ha2, sa2, ha2, ea2⟩ := lay (o := .tup [.str "and", .int ((2 : Nat) : Int)]) nt2
      rw [show ([V.str "and", V.int 2] : List V) = [.str "and", .int ((2 : Nat) : Int)] from rfl, ea2]
      refine ⟨by show 2 ≤ sizeLine; decide, fun t3 nt3 => ?_⟩
      obtain ⟨Ha3, sa3, ha3, ea3⟩ := lay (o := .tup [.str "or", .int ((2 : Nat) : Int)]) nt3
      rw [show ([V.str "or", V.int 2] : List V) = [.str "or", .int ((2 : Nat) : Int)] from rfl, ea3]
      refine ⟨by show 2 ≤ sizeLine; decide, fun t4 nt4 => ?_⟩
      obtain ⟨Ha4, sa4, ha4, ea4⟩ := lay (o := .tup [.str "not", .int ((1 : Nat) : Int)]) nt4
      rw [show ([V.str "not", V.int 1] : List V) = [.str "not", .int ((1 : Nat) : Int)] from rfl, ea4]
      refine ⟨by show 2 ≤ sizeLine; decide, fun t5 nt5 => ?_⟩
      obtain ⟨Ha5, sa5, ha5, ea5⟩ := lay (o := .tup [.str "bind", .int ((2 : Nat) : Int)]) nt5
      rw [show ([V.str "bind", V.int 2] : List V) = [.str "bind", .int ((2 : Nat) : Int)] from rfl, ea5]
      refine ⟨by show 2 ≤ sizeLine; decide, fun t6 nt6 => ?_⟩
      obtain ⟨Ha6, sa6, ha6, ea6⟩ := lay (o := .tup [.str "try", .int ((2 : Nat) : Int)]) nt6
      rw [show ([V.str "try", V.int 2] : List V) = [.str "try", .int ((2 : Nat) : Int)] from rfl, ea6]
      refine ⟨by show 2 ≤ sizeLine; decide, fun t7 nt7 => ?_⟩
      obtain ⟨Ha7, sa7, ha7, ea7⟩ := lay (o := .tup [.str "last", .int ((2 : Nat) : Int)]) nt7
      rw [show ([V.str "last", V.int 2] : List V) = [.str "last", .int ((2 : Nat) : Int)] from rfl, ea7]
      refine ⟨by show 7 ≤ sizeLine; decide, fun la nla => ?_⟩
      obtain ⟨Hb, sb, hb, eb⟩ := lay (o := .lst [.ref t1, .ref t2, .ref t3, .ref t4, .ref t5, .ref t6, .ref t7]) nla
      rw [eb]
      refine ⟨by show 2 ≤ sizeLine; decide, fun t8 nt8 => ?_⟩
      obtain ⟨Ha8, sa8, ha8, ea8⟩ := lay (o := .tup [.str "then", .int ((2 : Nat) : Int)]) nt8
      rw [show ([V.str "then", V.int 2] : List V) = [.str "then", .int ((2 : Nat) : Int)] from rfl, ea8]
      refine ⟨by show 1 ≤ sizeLine; decide, fun lb nlb => ?_⟩
      obtain ⟨Hc, sc, hc, ec⟩ := lay (o := .lst [.ref t8]) nlb
      rw [ec]
      refine ⟨lb, 2, _, rfl, rfl, hc, by decide, by decide, by show 1 * 2 ≤ sizeLine; decide, fun lc nlc => ?_⟩
      obtain ⟨Hd, sd, hd, ed⟩ := lay (o := .lst [.ref t8, .ref t8]) nlc
      rw [show ((List.replicate (2 : Int).toNat [V.ref t8]).flatten) = [.ref t8, .ref t8] from rfl, ed]
      refine ⟨la, lc, _, _, rfl, rfl, sd _ _ (sc _ _ (sa8 _ _ hb)), hd, by show 7 + 2 ≤ sizeLine; decide, fun I nI => ?_⟩
      obtain ⟨H2, s2, h2, e2⟩ := lay (o := .lst ([t1, t2, t3, t4, t5, t6, t7, t8, t8].map V.ref)) nI
      rw [show ([V.ref t1, .ref t2, .ref t3, .ref t4, .ref t5, .ref t6, .ref t7] ++ [.ref t8, .ref t8]) = [t1, t2, t3, t4, t5, t6, t7, t8, t8].map V.ref from rfl, e2]
      have S12 : Same H1 H2 := (((((((((((sa1.trans sa2).trans sa3).trans sa4).trans sa5).trans sa6).trans sa7).trans sb).trans sa8).trans sc).trans sd).trans s2)
      have hops : Paired (fun t q => H2 t = some (.tup [.str q.1, .int ((q.2 : Nat) : Int)])) [t1, t2, t3, t4, t5, t6, t7, t8, t8] opsI :=
        .cons (((((((((((sa2.trans sa3).trans sa4).trans sa5).trans sa6).trans sa7).trans sb).trans sa8).trans sc).trans sd).trans s2) _ _ ha1) (.cons ((((((((((sa3.trans sa4).trans sa5).trans sa6).trans sa7).trans sb).trans sa8).trans sc).trans sd).trans s2) _ _ ha2) (.cons (((((((((sa4.trans sa5).trans sa6).trans sa7).trans sb).trans sa8).trans sc).trans sd).trans s2) _ _ ha3) (.cons ((((((((sa5.trans sa6).trans sa7).trans sb).trans sa8).trans sc).trans sd).trans s2) _ _ ha4) (.cons (((((((sa6.trans sa7).trans sb).trans sa8).trans sc).trans sd).trans s2) _ _ ha5) (.cons ((((((sa7.trans sb).trans sa8).trans sc).trans sd).trans s2) _ _ ha6) (.cons (((((sb.trans sa8).trans sc).trans sd).trans s2) _ _ ha7) (.cons (((sc.trans sd).trans s2) _ _ ha8) (.cons (((sc.trans sd).trans s2) _ _ ha8) (.nil)))))))))
      generalize hts : [t1, t2, t3, t4, t5, t6, t7, t8, t8] = ts at h2 hops
      clear hts
      clear ha1
      clear ha2
      clear ha3
      clear ha4
      clear ha5
      clear ha6
      clear ha7
      have S2 : Same H H2 := s1.trans S12
      have hD2 := S12 _ _ hD1
      have okn8 : ∀ y ∈ some_, PyData.strOk y = true := fun y hy => by
        obtain ⟨k, hk, _⟩ := hsome y hy
        exact ok8 y (wf.nm _ hk)
      refine ⟨by show 1 ≤ sizeLine; decide, fun b1 nb1 => ?_⟩
      obtain ⟨G1, r1, k1, f1⟩ := lay (o := .lst [.str "use"]) nb1
      rw [f1]
      refine ⟨b1, 4, _, rfl, rfl, k1, by decide, by decide, by show 1 * 4 ≤ sizeLine; decide, fun b2 nb2 => ?_⟩
      obtain ⟨G2, r2, k2, f2⟩ := lay (o := .lst (sts (List.replicate 4 "use"))) nb2
      rw [show ((List.replicate (4 : Int).toNat [V.str "use"]).flatten) = sts (List.replicate 4 "use") from rfl, f2]
      refine ⟨_, rfl, by show 0 ≤ sizeLine; decide, fun b3 nb3 => ?_⟩
      obtain ⟨G3, r3, k3, f3⟩ := lay (o := .lst []) nb3
      rw [f3]
      have R3 : Same H2 G3 := (r1.trans r2).trans r3
      refine ⟨.list (pst some_), .list [], .lst (SqL.of (R3 _ _ hD2)) (dp_sts some_), .lst (SqL.of k3) .nil, sh_pst okn8, by decide +kernel, .inr ⟨_, rfl, ?_⟩⟩
      rw [ne_nil]
      obtain ⟨w1, ew1, hw1, lw1, ki⟩ : ∃ w1 : List Str, (List.replicate (if decide (some_ ≠ []) = true then (1 : Int) else 0).toNat (sts (List.replicate 4 "use"))).flatten = sts w1 ∧ (∀ x ∈ w1, x = "use" ∧ some_ ≠ []) ∧ w1.length ≤ 4 ∧ ((if decide (some_ ≠ []) = true then (1 : Int) else 0) = 0 ∨ (if decide (some_ ≠ []) = true then (1 : Int) else 0) = 1) := by
        by_cases h : some_ = []
        · exact ⟨[], by rw [decide_eq_false (not_not_intro h)]; rfl, (fun x hx => nomatch hx), by decide, .inl (by rw [decide_eq_false (not_not_intro h)]; rfl)⟩
        · exact ⟨List.replicate 4 "use", by rw [decide_eq_true h]; rfl, fun x hx => ⟨(List.mem_replicate.mp hx).2, h⟩, by decide, .inr (by rw [decide_eq_true h]; rfl)⟩
      refine ⟨b2, _, _, rfl, rfl, r3 _ _ k2, by rcases ki with e | e <;> rw [e] <;> decide, by rcases ki with e | e <;> rw [e] <;> decide, by rcases ki with e | e <;> rw [e] <;> decide, fun b4 nb4 => ?_⟩
      obtain ⟨G4, r4, k4, f4⟩ := lay (o := .lst (sts w1)) nb4
      rw [ew1, f4]
      refine ⟨by show 2 ≤ sizeLine; decide, fun b5 nb5 => ?_⟩
      obtain ⟨G5, r5, k5, f5⟩ := lay (o := .lst (sts ["value", "fail"])) nb5
      rw [show ([V.str "value", V.str "fail"] : List V) = sts ["value", "fail"] from rfl, f5]
      refine ⟨b4, b5, _, _, rfl, rfl, r5 _ _ k4, k5, by rw [sts_len, sts_len, sizeLine_eq]; simp; omega, fun b6 nb6 => ?_⟩
      obtain ⟨G6, r6, k6, f6⟩ := lay (o := .lst (sts (w1 ++ (["value", "fail"] : List Str)))) nb6
      rw [show sts w1 ++ sts ["value", "fail"] = sts (w1 ++ (["value", "fail"] : List Str)) from (List.map_append ..).symm, f6]
      refine ⟨by show 1 ≤ sizeLine; decide, fun b7 nb7 => ?_⟩
      obtain ⟨G7, r7, k7, f7⟩ := lay (o := .lst [.str "name"]) nb7
      rw [f7]
      refine ⟨b7, 2, _, rfl, rfl, k7, by decide, by decide, by show 1 * 2 ≤ sizeLine; decide, fun b8 nb8 => ?_⟩
      obtain ⟨G8, r8, k8, f8⟩ := lay (o := .lst (sts (List.replicate 2 "name"))) nb8
      rw [show ((List.replicate (2 : Int).toNat [V.str "name"]).flatten) = sts (List.replicate 2 "name") from rfl, f8]
      have R8 : Same H2 G8 := ((((R3.trans r4).trans r5).trans r6).trans r7).trans r8
      refine ⟨_, rfl, a, _, rfl, .inr (Same.seqT (S2.trans R8) ha), _, _, rfl, rfl, .inr ⟨_, rfl, ?_⟩⟩
      obtain ⟨w2, ew2, hw2, lw2, kj⟩ : ∃ w2 : List Str, (List.replicate (if decide (((sts ns).length : Int) > 0) = true then (1 : Int) else 0).toNat (sts (List.replicate 2 "name"))).flatten = sts w2 ∧ (∀ x ∈ w2, x = "name" ∧ ns ≠ []) ∧ w2.length ≤ 2 ∧ ((if decide (((sts ns).length : Int) > 0) = true then (1 : Int) else 0) = 0 ∨ (if decide (((sts ns).length : Int) > 0) = true then (1 : Int) else 0) = 1) := by
        by_cases h : ns = []
        · subst h
          exact ⟨[], rfl, (fun x hx => nomatch hx), by decide, .inl rfl⟩
        · have h0 : ((sts ns).length : Int) > 0 := by rw [sts_len]; have := List.length_pos_iff.mpr h; omega
          exact ⟨List.replicate 2 "name", by rw [decide_eq_true h0]; rfl, fun x hx => ⟨(List.mem_replicate.mp hx).2, h⟩, by decide, .inr (by rw [decide_eq_true h0]; rfl)⟩
      refine ⟨b8, _, _, rfl, rfl, k8, by rcases kj with e | e <;> rw [e] <;> decide, by rcases kj with e | e <;> rw [e] <;> decide, by rcases kj with e | e <;> rw [e] <;> decide, fun b9 nb9 => ?_⟩
      obtain ⟨G9, r9, k9, f9⟩ := lay (o := .lst (sts w2)) nb9
      rw [ew2, f9]
      refine ⟨b6, b9, _, _, rfl, rfl, r9 _ _ (r8 _ _ (r7 _ _ k6)), k9, by rw [sts_len, sts_len, List.length_append, sizeLine_eq]; simp; omega, fun Wl nWl => ?_⟩
      obtain ⟨H3, r10, h3W, f10⟩ := lay (o := .lst (sts ((w1 ++ (["value", "fail"] : List Str)) ++ w2))) nWl
      rw [show sts (w1 ++ (["value", "fail"] : List Str)) ++ sts w2 = sts ((w1 ++ (["value", "fail"] : List Str)) ++ w2) from (List.map_append ..).symm, f10]
      obtain ⟨wd1, ewd1, hwd1, lwd1, vwd1⟩ : ∃ wd1, (w1 ++ (["value", "fail"] : List Str)) ++ w2 = wd1 ∧ (∀ x ∈ wd1, (x = "use" ∧ some_ ≠ []) ∨ x = "value" ∨ x = "fail" ∨ (x = "name" ∧ ns ≠ [])) ∧ wd1.length ≤ 8 ∧ wd1 ≠ [] := by
        refine ⟨_, rfl, fun x hx => ?_, ?_, ?_⟩
        · rcases List.mem_append.mp hx with hx | hx
          · rcases List.mem_append.mp hx with hx | hx
            · exact .inl (hw1 x hx)
            · simp only [List.mem_cons, List.not_mem_nil, or_false] at hx
              rcases hx with rfl | rfl
              · exact .inr (.inl rfl)
              · exact .inr (.inr (.inl rfl))
          · exact .inr (.inr (.inr (hw2 x hx)))
        · rw [List.length_append, List.length_append]
          show w1.length + 2 + w2.length ≤ 8
          omega
        · intro e
          have := congrArg List.length e
          rw [List.length_append, List.length_append] at this
          simp at this
      rw [ewd1] at h3W
      have S23 : Same H2 H3 := (R8.trans r9).trans r10
      have S3 : Same H H3 := S2.trans S23
      have hD3 := S23 _ _ hD2
      have h3I := S23 _ _ h2
      have hops3 : Paired (fun t q => H3 t = some (.tup [.str q.1, .int ((q.2 : Nat) : Int)])) ts opsI := Paired.mapP hops fun _ _ r => S23 _ _ r
      clear r1 r2 r3 r4 r5 r6 r7 r8 r9 r10 k1 k2 k3 k4 k5 k6 k7 k8 k9 f1 f2 f3 f4 f5 f6 f7 f8 f9 f10 nb1 nb2 nb3 nb4 nb5 nb6 nb7 nb8 nb9 ew1 ew2 hw1 hw2 lw1 lw2 ki kj R3 R8 ewd1
      have hl3 := S3 _ _ hl
      refine ⟨_, rfl, ?_⟩
      refine ⟨_, rfl, I, rfl, ⟨_, SqL.of h3I⟩, fun D2 nD2 => ?_⟩
      refine lc_it walk_list (fun i H' => ∃ acc : List Str, Same H3 H' ∧ H' D2 = some (.lst (sts acc)) ∧ acc.length ≤ i ∧ ∀ x ∈ acc, ∃ m, (x, m) ∈ opsB ∧ m ≤ x0) ⟨[], same_new nD2, upd_same, Nat.le_refl _, fun x h => nomatch h⟩ (fun i H' _ ⟨acc, s', _⟩ => s'.seq (SqL.of h3I)) ?turn4 ?done4
      case turn4 =>
        rintro i x H4 H4' hi ⟨acc, s4, hDa, hal, good⟩ ⟨rfl, hx⟩
        obtain ⟨tq, htq, rfl⟩ : ∃ tq, ts[i]? = some tq ∧ x = V.ref tq := by
          rw [List.getElem?_map] at hx
          cases e : ts[i]? with
          | none => rw [e] at hx; cases hx
          | some y => rw [e] at hx; exact ⟨y, rfl, (Option.some.inj hx).symm⟩
        obtain ⟨qo, hqo, ho⟩ := paired_at hops3 htq
        have hi9 : i < 9 := by
          have := (List.getElem?_eq_some_iff.mp hqo).1
          exact this
        have hl4 := s4 _ _ hl3
        refine ⟨tq, _, rfl, SqT.of (s4 _ _ ho), rfl, _, _, rfl, _, _, rfl, rfl, rfl, ?_⟩
        refine ⟨_, rfl, _, rfl, l, _, ((0 : Nat) : Int), _, rfl, rfl, SqL.of hl4, atI_nat (j := 0) rfl, _, _, rfl, rfl, _, rfl, ?_⟩
        by_cases c : (qo.2 : Int) ≤ (x0 : Int)
        · rw [decide_eq_true c]
          refine ⟨_, rfl, sts acc, hDa, by rw [sts_len, sizeLine_eq]; omega, acc ++ [qo.1], fun b o e => ?_, by rw [upd_same]; unfold sts; rw [List.map_append]; rfl, by rw [List.length_append]; simp; omega, fun y hy => ?_⟩
          · rw [upd_ne (ne_of_none e nD2)]; exact s4 _ _ e
          · rcases List.mem_append.mp hy with h | h
            · exact good y h
            · rw [List.mem_singleton.mp h]
              exact ⟨qo.2, opsI_B _ (List.mem_of_getElem? hqo), by omega⟩
        · rw [decide_eq_false c]
          exact ⟨acc, s4, hDa, by omega, good⟩
      rintro H4 ⟨acc, s4, hDa, hal, good⟩
      have lI : acc.length ≤ 9 := by
        rw [List.length_map, Paired.length hops3] at hal
        exact hal
      refine ⟨Wl, D2, _, _, rfl, rfl, s4 _ _ h3W, hDa, by rw [sts_len, sts_len, sizeLine_eq]; omega, fun W2 nW2 => ?_⟩
      obtain ⟨H5, s5, h5W, e5⟩ := lay (o := .lst (sts (wd1 ++ acc))) nW2
      rw [show sts wd1 ++ sts acc = sts (wd1 ++ acc) from (List.map_append ..).symm, e5]
      have S5 : Same H H5 := (S3.trans s4).trans s5
      have P5 := hP.mono S5 (Nat.le_refl _)
      have W2p : W2 ≠ p := (hP.mono (S3.trans s4) (Nat.le_refl _)).ne nW2
      have wne : wd1 ++ acc ≠ [] := fun e => vwd1 (List.append_eq_nil_iff.mp e).1
      refine ⟨_, rfl, _, rfl, p, W2, sts (wd1 ++ acc), n, rfl, SqL.of (hid_to (ni1 W2p) h5W), fun e => wne (List.map_eq_nil_iff.mp e), by rw [sts_len, List.length_append]; omega, by omega, P5, fun v H6 hv B56 P6 => ?_⟩
      obtain ⟨wd, hwd, rfl⟩ := mem_sts hv
      have hW : (wd = "use" ∧ some_ ≠ []) ∨ wd = "value" ∨ wd = "fail" ∨ (wd = "name" ∧ ns ≠ []) ∨ ∃ m, (wd, m) ∈ opsB ∧ m ≤ x0 := by
        rcases List.mem_append.mp hwd with h | h
        · rcases hwd1 wd h with h | h | h | h
          · exact .inl h
          · exact .inr (.inl h)
          · exact .inr (.inr (.inl h))
          · exact .inr (.inr (.inr (.inl h)))
        · exact .inr (.inr (.inr (.inr (good wd h))))
      have B06 : Bt [p] H H6 := (bt_of S5).trans B56
      have Dp_ : D ≠ p := by
        obtain ⟨x1, y1, w1', hp, _⟩ := hP.mono S3 (Nat.le_refl _)
        intro e
        rw [e, hp] at hD3
        have := HO.lst.inj (Option.some.inj hD3)
        cases hs : some_ with
        | nil => rw [hs] at this; cases this
        | cons y r => rw [hs] at this; cases this
      have hD6 : H6 D = some (.lst (sts some_)) := bt_at B56 (ni1 Dp_) (s5 _ _ (s4 _ _ hD3))
      have hl6 : H6 l = some (.lst [.int (x0 : Int), .int u0]) := bt_at B56 (ni1 pl.symm) (s5 _ _ (s4 _ _ hl3))
      have Ip : I ≠ p := by
        obtain ⟨x1, y1, w1', hp, _⟩ := hP.mono S3 (Nat.le_refl _)
        intro e
        rw [e, hp] at h3I
        have h := HO.lst.inj (Option.some.inj h3I)
        have hl := congrArg List.length h
        rw [List.length_map, Paired.length hops3] at hl
        exact absurd hl (by show ¬ 3 = 9; decide)
      have h6I : H6 I = some (.lst (ts.map V.ref)) := bt_at B56 (ni1 Ip) (s5 _ _ (s4 _ _ h3I))
      have hops6 : Paired (fun t q => H6 t = some (.tup [.str q.1, .int ((q.2 : Nat) : Int)])) ts opsI := Paired.mapP hops3 fun t q r => by
        obtain ⟨x1, y1, w1', hp, _⟩ := hP.mono S3 (Nat.le_refl _)
        exact bt_at B56 (ni1 (ne_of r hp (by intro z; cases z))) (s5 _ _ (s4 _ _ r))
      have hG6 : IsG (hid [p, l] H6) g gd := hG.mono (bt_weak (fun q hq => by rw [List.mem_singleton.mp hq]; simp) B06)
      have ha6 : SqT K H6 a (sts ns) := sqT_bt (fun q hq => by rw [List.mem_singleton.mp hq]; obtain ⟨x1, y1, w1', hp, _⟩ := hP; exact ⟨_, hp⟩) B06 ha
      clear hops hops3 hwd hv good h3W hDa hal h5W e5 s4 s5 hD1 hD2 hD3 h2 h3I hwd1 wne S12 S23
      have B2 : Bt [p, l] H H6 := bt_weak (fun q hq => by rw [List.mem_singleton.mp hq]; simp) B06
      have PLl : ∀ {H' : Hp} {m : Nat}, PoolIs H' p m → H' l = some (.lst [.int (x0 : Int), .int u0]) → ∀ q ∈ [p, l], ∃ xs, H' q = some (.lst xs) := fun P h q hq => by
        simp only [List.mem_cons, List.not_mem_nil, or_false] at hq
        rcases hq with rfl | rfl
        · obtain ⟨x1, y1, w1', hp, _⟩ := P
          exact ⟨_, hp⟩
        · exact ⟨_, h⟩
      refine ⟨_, rfl, by show 2 ≤ sizeLine; decide, fun tv ntv => ?_⟩
      obtain ⟨H7, s7, h7, e7⟩ := lay (o := .tup (sts ["value", "fail"])) ntv
      rw [show ([V.str "value", V.str "fail"] : List V) = sts ["value", "fail"] from rfl, e7]
      refine ⟨tv, sts ["value", "fail"], rfl, .inr (SqT.of h7), rfl, flat_sts _, _, rfl, ?_⟩
      rw [show (if false = true then !inV (.str wd) (sts ["value", "fail"]) else inV (.str wd) (sts ["value", "fail"])) = decide (wd ∈ (["value", "fail"] : List Str)) from inV_sts wd ["value", "fail"]]
      have P7 := P6.mono s7 (Nat.le_refl _)
      have hl7 := s7 _ _ hl6
      have ha7 := Same.seqT s7 ha6
      have B07 : Bt [p, l] H H7 := B2.trans (bt_of s7)
      by_cases c6 : wd ∈ (["value", "fail"] : List Str)
      · rw [decide_eq_true c6]
        refine iteT ?_
        refine ⟨_, rfl, _, rfl, by show 5 ≤ sizeLine; decide, fun b nb => ?_⟩
        obtain ⟨H8, s8, h8, e8⟩ := lay (o := .lst (sts ["one", "two", "false", "true", "x"])) nb
        rw [show ([V.str "one", V.str "two", V.str "false", V.str "true", V.str "x"] : List V) = sts ["one", "two", "false", "true", "x"] from rfl, e8]
        refine ⟨p, b, sts ["one", "two", "false", "true", "x"], n + 1, rfl, SqL.of (hid_to (ni1 (P7.ne nb)) h8), (fun z => nomatch z), by decide, by omega, P7.mono s8 (Nat.le_refl _), fun v H9 hv B9 P9 => ?_⟩
        obtain ⟨nm, hnm', rfl⟩ := mem_sts hv
        refine ⟨by show 2 ≤ sizeLine; decide, fun t nt => ?_⟩
        obtain ⟨H10, s10, h10, e10⟩ := lay (o := .tup [.str wd, .str nm]) nt
        rw [e10]
        have nB : nameB nm = true := (show ∀ x ∈ (["one", "two", "false", "true", "x"] : List Str), nameB x = true by decide +kernel) nm hnm'
        have hin : wd ∈ nmd := (show ∀ x ∈ (["value", "fail"] : List Str), x ∈ nmd by decide) wd c6
        have hd : HeadOk gd.letters ns wd nm 0 := by
          simp only [List.mem_cons, List.not_mem_nil, or_false] at c6
          rcases c6 with rfl | rfl
          · exact .val nB
          · exact .fail nB
        have hl10 : H10 l = some (.lst [.int (x0 : Int), .int u0]) := s10 _ _ (bt_at B9 (ni1 pl.symm) (s8 _ _ hl7))
        exact q (.ref t) (.mk wd nm []) x0 u0 H10 (B07.trans ((bt_of s8).trans ((bt_weak (fun q hq => by rw [List.mem_singleton.mp hq]; simp) B9).trans (bt_of s10)))) hl10 (by rw [GB.Tm.size, GB.Tm.sizes]; omega) (.mk hd fun i k h => by simp at h) (by rw [leaf_d hin]; exact .tup (SqT.of h10) (.cons (.str _) (.cons (.str _) .nil))) (P9.mono s10 (by rw [GB.Tm.size, GB.Tm.sizes]; omega)) (fun z => by injection z with _ z2 _; exact absurd (z2 ▸ hnm') (by decide))
      rw [decide_eq_false c6]
      refine iteF ?_
      refine ⟨_, rfl, rfl, _, rfl, ?_⟩
      rw [decS]
      by_cases c7 : wd = "name"
      · rw [decide_eq_true c7]
        refine iteT ?_
        have nse : ns ≠ [] := by
          rcases hW with h | h | h | h | ⟨m, h, _⟩
          · exact absurd (h.1.symm.trans c7) (by decide)
          · exact absurd (h.symm.trans c7) (by decide)
          · exact absurd (h.symm.trans c7) (by decide)
          · exact h.2
          · rw [c7] at h
            exact absurd rfl ((show ∀ q ∈ opsB, q.1 ≠ "name" by decide) _ h)
        have ha7' : SqT K (hid [p] H7) a (sts ns) := sqT_hid (fun q hq => by rw [List.mem_singleton.mp hq]; obtain ⟨x1, y1, w1', hp, _⟩ := P7; exact ⟨_, hp⟩) ha7
        refine ⟨_, rfl, _, rfl, _, rfl, p, a, sts ns, n + 1, rfl, ha7', fun e => nse (List.map_eq_nil_iff.mp e), by rw [sts_len]; omega, by omega, P7, fun v H9 hv B9 P9 => ?_⟩
        obtain ⟨nm, hnm', rfl⟩ := mem_sts hv
        refine ⟨by show 2 ≤ sizeLine; decide, fun t nt => ?_⟩
        obtain ⟨H10, s10, h10, e10⟩ := lay (o := .tup [.str wd, .str nm]) nt
        rw [e10]
        have hin : wd ∈ nmd := by rw [c7]; decide
        have hd : HeadOk gd.letters ns wd nm 0 := by
          rw [c7]
          exact .name (hnm nm hnm') hnm'
        have hl10 : H10 l = some (.lst [.int (x0 : Int), .int u0]) := s10 _ _ (bt_at B9 (ni1 pl.symm) hl7)
        exact q (.ref t) (.mk wd nm []) x0 u0 H10 (B07.trans ((bt_weak (fun q hq => by rw [List.mem_singleton.mp hq]; simp) B9).trans (bt_of s10))) hl10 (by rw [GB.Tm.size, GB.Tm.sizes]; omega) (.mk hd fun i k h => by simp at h) (by rw [leaf_d hin]; exact .tup (SqT.of h10) (.cons (.str _) (.cons (.str _) .nil))) (P9.mono s10 (by rw [GB.Tm.size, GB.Tm.sizes]; omega)) (fun z => by injection z with z1 _ _; exact absurd (c7.symm.trans z1) (by decide))
      rw [decide_eq_false c7]
      refine iteF ?_
      refine ⟨_, rfl, rfl, _, rfl, ?_⟩
      rw [decS]
      have hG7 : IsG (hid [p, l] H7) g gd := hG6.mono (hid_same s7)
      have hD7 := s7 _ _ hD6
      have h7I := s7 _ _ h6I
      have hops7 : Paired (fun t q => H7 t = some (.tup [.str q.1, .int ((q.2 : Nat) : Int)])) ts opsI := Paired.mapP hops6 fun _ _ r => s7 _ _ r
      clear hops6 h6I hD6 hG6 ha6 hl6 B06 B56 B2 h7 e7
      have DGg : ∀ {H' : Hp}, IsG (hid [p, l] H') g gd → ∃ aL, DGet H' g (.str "letters") (some (.ref aL)) ∧ H' aL = some (.dK (lkv gd.letters)) := fun hG => by
        obtain ⟨aL, aF, aC, aT, g1, g2, _⟩ := hG.ex
        have e : valV [(.inr "letters", .ref aL), (.inr "fixed", .ref aF), (.inr "commuting", .ref aC), (.inr "facts", .ref aT)] (.inr "letters" : Key) = some (.ref aL) := valV_pos rfl
        exact ⟨aL, by rw [← e]; exact DGet.k (k := .inr "letters") (hid_in g1).1, (hid_in g2).1⟩
      have lsome : some_.length ≤ 8 := by
        have e : (lkv gd.letters).length = gd.letters.length := List.length_map _
        omega
      by_cases c8 : wd = "use"
      · rw [decide_eq_true c8]
        refine iteT ?_
        have sne : some_ ≠ [] := by
          rcases hW with h | h | h | h | ⟨m, h, _⟩
          · exact h.2
          · exact absurd (h.symm.trans c8) (by decide)
          · exact absurd (h.symm.trans c8) (by decide)
          · exact absurd (h.1.symm.trans c8) (by decide)
          · rw [c8] at h
            exact absurd rfl ((show ∀ q ∈ opsB, q.1 ≠ "use" by decide) _ h)
        refine ⟨_, rfl, _, rfl, p, D, sts some_, n + 1, rfl, SqL.of (hid_to (ni1 Dp_) hD7), fun e => sne (List.map_eq_nil_iff.mp e), by rw [sts_len]; omega, by omega, P7, fun v H8 hv B8 P8 => ?_⟩
        obtain ⟨x, hxs, rfl⟩ := mem_sts hv
        obtain ⟨k, hk, hkx⟩ := hsome x hxs
        have hk2 := wf.ar _ hk
        have B8' : Bt [p, l] H7 H8 := bt_weak (fun q hq => by rw [List.mem_singleton.mp hq]; simp) B8
        have hl8 := bt_at B8 (ni1 pl.symm) hl7
        have hG8 := hG7.mono B8'
        obtain ⟨aL8, dg8, hL8⟩ := DGg hG8
        have DG2 : DGet H8 aL8 (.str x) (some (.int (k : Int))) := by rw [← valV_lkv lnd hk]; exact DGet.k (k := .inr x) hL8
        refine ⟨_, rfl, l, _, ((0 : Nat) : Int), _, rfl, rfl, SqL.of hl8, atI_nat (j := 0) rfl, _, rfl, g, .ref aL8, rfl, dg8, _, rfl, aL8, .int (k : Int), rfl, DG2, _, _, rfl, rfl, _, rfl, l, _, ((1 : Nat) : Int), _, rfl, rfl, SqL.of hl8, atI_nat (j := 1) rfl, _, _, rfl, rfl, by show 2 ≤ sizeLine; decide, fun tt ntt => ?_⟩
        obtain ⟨H9, s9, h9, e9⟩ := lay (o := .tup [.int ((x0 : Int) - k), .int (u0 - 1)]) ntt
        rw [e9]
        refine ⟨tt, _, rfl, SqT.of h9, rfl, _, _, rfl, _, rfl, l, _, ((0 : Nat) : Int), 0, rfl, rfl, s9 _ _ hl8, rfl, ?_⟩
        refine ⟨_, _, rfl, _, rfl, l, _, ((1 : Nat) : Int), 1, rfl, rfl, upd_same, rfl, ?_⟩
        refine ⟨rfl, ?_⟩
        obtain ⟨H10, b10, h10, e10⟩ : ∃ H10, (∀ b o, b ≠ l → H9 b = some o → H10 b = some o) ∧ H10 l = some (.lst [.int (((x0 - k : Nat)) : Int), .int (u0 - 1)]) ∧ upd (upd H9 l (.lst ([V.int (x0 : Int), V.int u0].set 0 (V.int ((x0 : Int) - (k : Int)))))) l (.lst (([V.int (x0 : Int), V.int u0].set 0 (V.int ((x0 : Int) - (k : Int)))).set 1 (V.int (u0 - 1)))) = H10 :=
          ⟨_, fun b o z e => by rw [upd_ne z, upd_ne z]; exact e, by rw [upd_same, show (((x0 - k : Nat)) : Int) = (x0 : Int) - k by omega]; rfl, rfl⟩
        rw [e10]
        have B10 : Bt [p, l] H H10 := (B07.trans (B8'.trans (bt_of s9))).trans (by rw [← e10]; exact (bt_upd (by simp)).trans (bt_upd (by simp)))
        have B710 : Bt [p, l] H7 H10 := (B8'.trans (bt_of s9)).trans (by rw [← e10]; exact (bt_upd (by simp)).trans (bt_upd (by simp)))
        have P10 : PoolIs H10 p (n + 1 + 1) := by
          obtain ⟨x1, y1, w1', hp, r⟩ := P8.mono s9 (Nat.le_refl _)
          exact ⟨x1, y1, w1', b10 _ _ pl hp, r⟩
        have PL7 := pl_lists P7 hl7
        have hG10 := hG7.mono B710
        have ha10 := sqT_bt PL7 B710 ha7
        obtain ⟨aL10, dg10, hL10⟩ := DGg hG10
        have DG10 : DGet H10 aL10 (.str x) (some (.int (k : Int))) := by rw [← valV_lkv lnd hk]; exact DGet.k (k := .inr x) hL10
        refine ⟨_, rfl, _, rfl, _, rfl, g, .ref aL10, rfl, dg10, _, rfl, aL10, .int (k : Int), rfl, DG10, k, rfl, by omega, by omega, fun D3 nD3 => ?_⟩
        refine kids_ok (n := n + 2) (fun v => ⟨rfl, rfl, rfl, rfl, rfl⟩) nD3 hG10 wf ha10 hnm (by omega) pl h10 (by omega) (by omega) (by omega) P10 (by omega) fun ts x1 u1 H11 acc hts B11 hD11 hd11 hl11 hs11 ok11 P11 => ?_
        refine ⟨D3, acc, rfl, .inl ⟨SqL.of hD11, fun tk ntk => ?_⟩⟩
        obtain ⟨H12, s12, h12, e12⟩ := lay (o := .tup acc) ntk
        rw [e12]
        refine ⟨by show 3 ≤ sizeLine; decide, fun t nt => ?_⟩
        obtain ⟨H13, s13, h13, e13⟩ := lay (o := .tup [.str wd, .str x, .ref tk]) nt
        rw [e13]
        refine q (.ref t) (.mk wd x ts) x1 u1 H13 ((B10.trans B11).trans (bt_of (s12.trans s13))) (s13 _ _ (s12 _ _ hl11)) (by rw [GB.Tm.size]; omega) (.mk (by rw [c8, hts]; exact .use hk) fun i t' h => ?_) ?_ (P11.mono (s12.trans s13) (by rw [GB.Tm.size]; omega)) (fun z => by injection z with z1 _ _; exact absurd (c8.symm.trans z1) (by decide))
        · rw [c8]
          unfold nsAt
          rw [if_neg (fun h => absurd h.1 (by decide))]
          exact ok11 i t' h
        · rw [d_node, c8]
          exact .tup (by rw [← c8]; exact SqT.of h13) (.cons (.str _) (.cons (.str _) (.cons (.tup (SqT.of (s13 _ _ h12)) (dps_mono (s12.trans s13) hd11)) .nil)))
      rw [decide_eq_false c8]
      refine iteF ?_
      obtain ⟨m, hmB, hmx⟩ : ∃ m, (wd, m) ∈ opsB ∧ m ≤ x0 := by
        rcases hW with h | h | h | h | h
        · exact absurd h.1 c8
        · exact absurd (by rw [h]; decide) c6
        · exact absurd (by rw [h]; decide) c6
        · exact absurd h.1 c7
        · exact h
      have dictOf : ∀ {H' : Hp} {Q' : VK}, H' I = some (.lst (ts.map V.ref)) → Paired (fun t q => H' t = some (.tup [.str q.1, .int ((q.2 : Nat) : Int)])) ts opsI → (∀ H2, Same H' H2 → Q' (.int (m : Int)) H2) → ∃ (a : Addr) (ps : List Addr) (kvs : List (Key × V)), [V.ref I] = [.ref a] ∧ SqL K H' a (ps.map V.ref) ∧ Paired (fun p kv => SqT K H' p [kV kv.1, kv.2]) ps kvs ∧ ∀ p', H' p' = none → (fun (x : V) (H2 : Hp) => ∃ v, [some (V.str wd)][0]? = some (some v) ∧ ∃ (a : Addr) (v' : V), x = .ref a ∧ DGet H2 a v (some v') ∧ Q' v' H2) (.ref p') (upd H' p' (.dK (mergeK [] kvs))) := fun {H' Q'} hI ho qq => by
        refine ⟨I, ts, opsI.map fun q => ((.inr q.1 : Key), V.int ((q.2 : Nat) : Int)), rfl, SqL.of hI, ?_, fun p' np => ?_⟩
        · exact paired_map_r (Paired.mapP ho fun _ _ r => SqT.of r)
        · obtain ⟨H2, s2', h2', e2'⟩ := lay (o := .dK (mergeK [] (opsI.map fun q => ((.inr q.1 : Key), V.int ((q.2 : Nat) : Int))))) np
          rw [e2']
          have ev : valV (mergeK [] (opsI.map fun q => ((.inr q.1 : Key), V.int ((q.2 : Nat) : Int)))) (.inr wd : Key) = some (.int (m : Int)) := merge_ops _ hmB
          refine ⟨.str wd, rfl, p', _, rfl, ?_, qq H2 s2'⟩
          rw [← ev]
          exact DGet.k (k := .inr wd) h2'
      refine ⟨_, rfl, l, _, ((0 : Nat) : Int), _, rfl, rfl, SqL.of hl7, atI_nat (j := 0) rfl, ?_⟩
      refine ⟨_, rfl, dictOf (Q' := fun v H2 => rI0 (fun i j => .int (i - j)) (.int (x0 : Int)) v H2 _) h7I hops7 fun H8 s8 => ?_⟩
      refine ⟨_, _, rfl, rfl, ?_⟩
      have hl8 := s8 _ _ hl7
      refine ⟨_, rfl, l, _, ((0 : Nat) : Int), 0, rfl, rfl, hl8, rfl, ?_⟩
      obtain ⟨H9, b9, h9, B89, e9⟩ : ∃ H9, (∀ b o, b ≠ l → H8 b = some o → H9 b = some o) ∧ H9 l = some (.lst [.int (((x0 - m : Nat)) : Int), .int u0]) ∧ Bt [p, l] H8 H9 ∧ upd H8 l (.lst ([V.int (x0 : Int), V.int u0].set 0 (V.int ((x0 : Int) - (m : Int))))) = H9 :=
        ⟨_, fun b o z e => by rw [upd_ne z]; exact e, by rw [upd_same, show (((x0 - m : Nat)) : Int) = (x0 : Int) - m by omega]; rfl, bt_upd (by simp), rfl⟩
      rw [e9]
      have Il : I ≠ l := fun e => by
        rw [e, hl7] at h7I
        have h := congrArg List.length (HO.lst.inj (Option.some.inj h7I))
        rw [List.length_map, Paired.length hops7] at h
        exact absurd h (by show ¬ 2 = 9; decide)
      have h9I := b9 _ _ Il (s8 _ _ h7I)
      have hops9 : Paired (fun t q => H9 t = some (.tup [.str q.1, .int ((q.2 : Nat) : Int)])) ts opsI := Paired.mapP hops7 fun t q r => b9 _ _ (ne_of (s8 _ _ r) hl8 (by intro z; cases z)) (s8 _ _ r)
      have P9 : PoolIs H9 p (n + 1) := by
        obtain ⟨x1, y1, w1', hp, r⟩ := P7.mono s8 (Nat.le_refl _)
        exact ⟨x1, y1, w1', b9 _ _ pl hp, r⟩
      have B79 : Bt [p, l] H7 H9 := (bt_of s8).trans B89
      have PL7 := pl_lists P7 hl7
      have hG9 := hG7.mono B79
      have ha9 := sqT_bt PL7 B79 ha7
      have B09 : Bt [p, l] H H9 := B07.trans B79
      refine ⟨_, rfl, rfl, _, rfl, ?_⟩
      rw [decS]
      by_cases c10 : wd = "bind"
      · rw [decide_eq_true c10]
        refine iteT ?_
        have hm2 : m = 2 := by
          rw [c10] at hmB
          exact (show ∀ q ∈ opsB, q.1 = "bind" → q.2 = 2 by decide) _ hmB rfl
        refine ⟨_, rfl, by show 4 ≤ sizeLine; decide, fun b nb => ?_⟩
        obtain ⟨H10, s10, h10, e10⟩ := lay (o := .lst (sts ["v", "w", "x", "if"])) nb
        rw [show ([V.str "v", V.str "w", V.str "x", V.str "if"] : List V) = sts ["v", "w", "x", "if"] from rfl, e10]
        refine ⟨p, b, sts ["v", "w", "x", "if"], n + 1, rfl, SqL.of (hid_to (ni1 (P9.ne nb)) h10), (fun z => nomatch z), by decide, by omega, P9.mono s10 (Nat.le_refl _), fun v H11 hv B11 P11 => ?_⟩
        obtain ⟨nm, hnm', rfl⟩ := mem_sts hv
        have nB : nameB nm = true := (show ∀ x ∈ (["v", "w", "x", "if"] : List Str), nameB x = true by decide +kernel) nm hnm'
        have hl11 := bt_at B11 (ni1 pl.symm) (s10 _ _ h9)
        have B911 : Bt [p, l] H9 H11 := (bt_of s10).trans (bt_weak (fun q hq => by rw [List.mem_singleton.mp hq]; simp) B11)
        have PL9 := pl_lists P9 h9
        have hG11 := hG9.mono B911
        have ha11 := sqT_bt PL9 B911 ha9
        have PL11 := pl_lists P11 hl11
        refine ⟨_, rfl, _, rfl, _, rfl, _, rfl, p, g, a, l, gd, ns, x0 - m, u0, n + 2, rfl, hG11, wf, ha11, hnm, by omega, pl, hl11, by omega, by omega, P11, by omega, fun v1 t1 x1 u1 H12 B12 hl12 hs1 ok1 d1 P12 _ => ?_⟩
        have hG12 := hG11.mono B12
        have ha12 := sqT_bt PL11 B12 ha11
        refine ⟨_, rfl, _, rfl, _, rfl, _, rfl, _, rfl, _, rfl, _, rfl, by show 1 ≤ sizeLine; decide, fun tb ntb => ?_⟩
        obtain ⟨H13, s13, h13, e13⟩ := lay (o := .tup [.str nm]) ntb
        rw [e13]
        refine catA (Same.seqT s13 ha12) (SqT.of h13) (by rw [sts_len, sizeLine_eq]; simp; omega) fun nb2 H14 s14 hnb2 => ?_
        have S14 : Same H12 H14 := s13.trans s14
        have hl14 := S14 _ _ hl12
        have P14 := P12.mono S14 (Nat.le_refl _)
        have PL14 := pl_lists P14 hl14
        refine ⟨_, rfl, p, g, nb2, l, gd, ns ++ [nm], x1, u1, _, rfl, hG12.mono (hid_same S14), wf, by unfold sts; rw [List.map_append]; exact hnb2, fun y hy => ?_, by rw [List.length_append]; simp; omega, pl, hl14, by omega, by omega, P14, by omega, fun v2 t2 x2 u2 H15 B15 hl15 hs2 ok2 d2 P15 _ => ?_⟩
        · rcases List.mem_append.mp hy with h | h
          · exact hnm y h
          · rw [List.mem_singleton.mp h]; exact nB
        · have d1' := dp_bt PL14 B15 (tupO_d t1) (dp_mono S14 d1)
          refine ⟨by show 4 ≤ sizeLine; decide, fun t nt => ?_⟩
          obtain ⟨H16, s16, h16, e16⟩ := lay (o := .tup [.str wd, .str nm, v1, v2]) nt
          rw [e16]
          refine q (.ref t) (.mk wd nm [t1, t2]) x2 u2 H16 ((((B09.trans B911).trans B12).trans ((bt_of S14).trans B15)).trans (bt_of s16)) (s16 _ _ hl15) (by rw [GB.Tm.size, GB.Tm.sizes, GB.Tm.sizes, GB.Tm.sizes]; omega) (.mk (by rw [c10]; exact .bind nB trivial) fun i t' h => ?_) ?_ (P15.mono s16 (by rw [GB.Tm.size, GB.Tm.sizes, GB.Tm.sizes, GB.Tm.sizes]; omega)) (fun z => by injection z with _ _ z3; exact absurd z3 (by simp))
          · match i, h with
            | 0, h =>
              obtain rfl := Option.some.inj h
              unfold nsAt
              rw [if_neg (fun h => absurd h.2 (by decide))]
              exact ok1
            | 1, h =>
              obtain rfl := Option.some.inj h
              unfold nsAt
              rw [if_pos ⟨c10, rfl⟩]
              exact ok2
            | i + 2, h => simp at h
          · rw [d_node, c10]
            exact .tup (by rw [← c10]; exact SqT.of h16) (.cons (.str _) (.cons (.str _) (.cons (dp_mono s16 d1') (.cons (dp_mono s16 d2) .nil))))
      rw [decide_eq_false c10]
      refine iteF ?_
      have hmW : (wd, m) ∈ opsW := by
        rcases List.mem_cons.mp hmB with h | h
        · exact absurd (Prod.mk.inj h).1 c10
        · exact h
      obtain ⟨nw1, nw2, nw3⟩ := ops_no _ hmW
      refine ⟨_, rfl, by show 1 ≤ sizeLine; decide, fun Lw nLw => ?_⟩
      obtain ⟨H10, s10, h10, e10⟩ := lay (o := .lst [.str wd]) nLw
      rw [e10]
      have hops10 : Paired (fun t q => H10 t = some (.tup [.str q.1, .int ((q.2 : Nat) : Int)])) ts opsI := Paired.mapP hops9 fun _ _ r => s10 _ _ r
      have hkv : Paired (fun (p : Addr) (kv : Key × V) => SqT K H10 p [kV kv.1, kv.2]) ts (opsI.map fun q => ((.inr q.1 : Key), V.int ((q.2 : Nat) : Int))) := by
        refine paired_map_r ?_
        exact Paired.mapP hops10 fun _ _ r => SqT.of r
      refine ⟨_, rfl, I, ts, _, rfl, SqL.of (s10 _ _ h9I), hkv, fun p' np => ?_⟩
      obtain ⟨H11, s11, h11, e11⟩ := lay (o := .dK (mergeK [] (opsI.map fun q => ((.inr q.1 : Key), V.int ((q.2 : Nat) : Int))))) np
      rw [e11]
      have ev : valV (mergeK [] (opsI.map fun q => ((.inr q.1 : Key), V.int ((q.2 : Nat) : Int)))) (.inr wd : Key) = some (.int (m : Int)) := merge_ops _ hmB
      have m3 : m ≤ 3 := (show ∀ q ∈ opsB, q.2 ≤ 3 by decide) _ hmB
      have m1 : 1 ≤ m := (show ∀ q ∈ opsB, 1 ≤ q.2 by decide) _ hmB
      refine ⟨.str wd, rfl, p', .int (m : Int), rfl, (by rw [← ev]; exact DGet.k (k := .inr wd) h11), m, rfl, by omega, by omega, fun D3 nD3 => ?_⟩
      have S911 : Same H9 H11 := s10.trans s11
      have hl11 := S911 _ _ h9
      have P11 := P9.mono S911 (Nat.le_refl _)
      refine kids_ok (n := n + 1) (fun v => ⟨rfl, rfl, rfl, rfl, rfl⟩) nD3 (hG9.mono (hid_same S911)) wf (Same.seqT S911 ha9) hnm (by omega) pl hl11 (by omega) (by omega) (by omega) P11 (by omega) fun tms x1 u1 H12 acc hts B12 hD12 hd12 hl12 hs12 ok12 P12 => ?_
      have Lwp : Lw ≠ p := P9.ne nLw
      have Lwl : Lw ≠ l := fun e => by rw [e, h9] at nLw; cases nLw
      have hLw := bt_at B12 (by simp [Lwp, Lwl]) (s11 _ _ h10)
      refine ⟨Lw, D3, _, _, rfl, rfl, hLw, hD12, by rw [dps_len hd12, List.length_map, hts, sizeLine_eq]; simp; omega, fun c nc => ?_⟩
      obtain ⟨H13, s13, h13, e13⟩ := lay (o := .lst (.str wd :: acc)) nc
      rw [show ([V.str wd] ++ acc) = .str wd :: acc from rfl, e13]
      refine ⟨c, _, rfl, .inl ⟨SqL.of h13, fun t nt => ?_⟩⟩
      obtain ⟨H14, s14, h14, e14⟩ := lay (o := .tup (.str wd :: acc)) nt
      rw [e14]
      refine q (.ref t) (.mk wd "" tms) x1 u1 H14 (((B09.trans (bt_of S911)).trans B12).trans (bt_of (s13.trans s14))) (s14 _ _ (s13 _ _ hl12)) (by rw [GB.Tm.size]; omega) (.mk (by rw [hts]; exact .op hmW) fun i t' h => ?_) ?_ (P12.mono (s13.trans s14) (by rw [GB.Tm.size]; omega)) (fun z => by injection z with _ z2 _; exact absurd z2 (by decide))
      · unfold nsAt
        rw [if_neg (fun h => nw3 h.1)]
        exact ok12 i t' h
      · rw [d_node]
        unfold nodeT
        rw [if_neg nw2, if_neg nw3, if_pos (List.mem_map.mpr ⟨_, hmW, rfl⟩)]
        exact .tup (SqT.of h14) (.cons (.str _) (dps_mono (s13.trans s14) hd12))

end
end K39t
set_option Elab.async false
set_option linter.all false
set_option autoImplicit false
set_option maxRecDepth 100000
set_option maxHeartbeats 8000000
namespace GB
open PySem PySem.Spec L2 K39 K39t
theorem merge_lkv : ∀ (b a : List (Str × Nat)), ((a ++ b).map (·.1)).Nodup → mergeK (lkv a) (lkv b) = lkv (a ++ b)
  | [], a, _ => by rw [List.append_nil]; rfl
  | q :: r, a, h => by
    have no : q.1 ∉ a.map (·.1) := fun m => by
      rw [List.map_append, List.nodup_append] at h
      exact h.2.2 _ m _ List.mem_cons_self rfl
    show mergeK (putK (lkv a) (.inr q.1) (.int q.2)) (lkv r) = _
    rw [putK_snoc no, merge_lkv r (a ++ [q]) (by rw [List.append_assoc]; exact h), List.append_assoc]
    rfl
theorem ni2 {a p q : Addr} (h1 : a ≠ p) (h2 : a ≠ q) : a ∉ [p, q] := by simp [h1, h2]
theorem pool_noT {H : Hp} {p : Addr} {n : Nat} (P : PoolIs H p n) : ∀ o, H p = some o → isT o = false := fun o e => by
  obtain ⟨a, b, c, h, _⟩ := P.ex
  rw [h] at e
  cases e
  rfl
end GB
namespace K39
open PySem PySem.Spec L2 GB K39t
def fnNm : List Str := ["f", "sum", "last", "half"]
def bnNm : List Str := ["v", "w", "p", "name"]
/-- drawn functions over a ground -/
structure LibD (gd : GD) (fs : List FnD) : Prop where
  nm : ∀ f ∈ fs, f.1 ∈ fnNm
  nd : (fs.map (·.1)).Nodup
  bn : ∀ f ∈ fs, (∀ m ∈ f.2.1, m ∈ bnNm) ∧ f.2.1.Nodup ∧ f.2.1.length ≤ 2
  ok : ∀ (i : Nat) (f : FnD), fs[i]? = some f → TmOk (gd.wide (pre (fs.take i))).letters f.2.1 f.2.2 ∧ f.2.2.size ≤ 4
  nz : ∀ f ∈ fs, f.2.2 ≠ .mk "value" "zz" []
/-- grounds of few letters, whose names no function has -/
structure Gd3 (gd : GD) : Prop where
  wf : gd.Wf
  le : gd.letters.length ≤ 3
  nm : ∀ q ∈ gd.letters, q.1 ∈ nm8
theorem fn_not8 : ∀ x ∈ fnNm, x ∉ nm8 := by decide +kernel
theorem fn_nmA : ∀ x ∈ fnNm, x ∈ nmA := by decide +kernel
theorem LibD.len {gd : GD} {fs : List FnD} (h : LibD gd fs) : fs.length ≤ 4 := by
  have := nodup_le h.nd fun x hx => by
    obtain ⟨f, hf, rfl⟩ := List.mem_map.mp hx
    exact h.nm f hf
  rw [List.length_map] at this
  exact this
theorem pre_len (fs : List FnD) : (pre fs).length = fs.length := List.length_map _
theorem Gd3.wide {gd : GD} {fs : List FnD} (h : Gd3 gd) (nm : ∀ f ∈ fs, f.1 ∈ fnNm) (nd : (fs.map (·.1)).Nodup) (bn : ∀ f ∈ fs, f.2.1.length ≤ 2) : (gd.wide (pre fs)).Wf := by
  have e : (gd.wide (pre fs)).letters = gd.letters ++ fs.map fun f => (f.1, f.2.1.length) := by
    unfold GD.wide pre
    rw [List.map_map]
    rfl
  have em : (gd.wide (pre fs)).letters.map (·.1) = gd.letters.map (·.1) ++ fs.map (·.1) := by
    rw [e, List.map_append, List.map_map]
    rfl
  have le4 : fs.length ≤ 4 := by
    have := nodup_le nd fun x hx => by
      obtain ⟨f, hf, rfl⟩ := List.mem_map.mp hx
      exact nm f hf
    rw [List.length_map] at this
    exact this
  have sub : ∀ q ∈ gd.letters, q ∈ (gd.wide (pre fs)).letters := fun q hq => by rw [e]; exact List.mem_append_left _ hq
  refine ⟨?_, ?_, ?_, ?_, ?_, ?_, h.wf.cm, fun x hx => sub _ (h.wf.c2 x hx), h.wf.fl, fun f hf => ?_, h.wf.fd⟩
  · rw [e]
    exact fun z => h.wf.ne (List.append_eq_nil_iff.mp z).1
  · rw [em]
    refine List.nodup_append.mpr ⟨h.wf.nd, nd, fun a ha b hb z => ?_⟩
    subst z
    obtain ⟨q, hq, rfl⟩ := List.mem_map.mp ha
    obtain ⟨f, hf, ef⟩ := List.mem_map.mp hb
    exact fn_not8 _ (nm f hf) (by rw [ef]; exact h.nm q hq)
  · intro q hq
    rw [e] at hq
    rcases List.mem_append.mp hq with hq | hq
    · exact h.wf.nm q hq
    · obtain ⟨f, hf, rfl⟩ := List.mem_map.mp hq
      exact fn_nmA _ (nm f hf)
  · rw [e, List.length_append, List.length_map]
    have := h.le
    omega
  · intro q hq
    rw [e] at hq
    rcases List.mem_append.mp hq with hq | hq
    · exact h.wf.ar q hq
    · obtain ⟨f, hf, rfl⟩ := List.mem_map.mp hq
      exact bn f hf
  · rw [em]
    exact h.wf.fx.trans (List.sublist_append_left _ _)
  · obtain ⟨h1, ⟨k, h2, h3⟩, h4, h5, h6⟩ := h.wf.fa f hf
    exact ⟨h1, ⟨k, sub _ h2, h3⟩, h4, h5, h6⟩
abbrev sLb : Stmt := topS 48
def lbN : List Str := ["_law_pool_here", "_law_g", "_law_many", "_law_found", "_law_wide", "_law_name", "_law_names", "_law_body"]
def gdk (a b c d : Addr) : List (Key × V) := [((.inr "letters" : Key), V.ref a), (.inr "fixed", .ref b), (.inr "commuting", .ref c), (.inr "facts", .ref d)]
def spLb (K : PySem.W.Frag) : Sp := fun vs H Q _ => ∃ (p g : Addr) (m : Nat) (gd : GD) (n : Nat), vs = [.ref p, .ref g, .int (m : Int)] ∧ m ≤ 4 ∧ IsG (hid [p] H) g gd ∧ Gd3 gd ∧ PoolIs H p n ∧ n + 500 ≤ 800000 ∧
  ∀ (R F W : Addr) (fs : List FnD) (ts : List Addr) H', Bt [p] H H' → SqT K H' R [.ref F, .ref W] → H' F = some (.lst (ts.map V.ref)) → Paired (FunT K H') fs ts → LibD gd fs → IsG (hid [p, F] H') W (gd.wide (pre fs)) → F ≠ p → PoolIs H' p (n + 500) → Q (.ref R) H'
section
variable {P : Program} {w : World} {K : PySem.W.Frag} {mg : Str → Option Value} {base : Heap}
theorem scLb : FnScope lbN ["_law_pool_here", "_law_g", "_law_many"] (defScope sLb) := ⟨rfl, rfl, rfl, by decide +kernel, rfl, by decide +kernel, by decide +kernel⟩
theorem ok_lb {f : Addr} {fd : FuncData} (F : Fun K "_law_library" "_law_library" sLb f fd) (T : Bl mg) (TK : Fns P w K mg base "_law_take" 1 ["_law_pool_here", "_law_many"] spTake) (MX : Fns P w K mg base "_law_mixed" 2 ["_law_pool_here", "_law_things"] (spMixed K)) (TE : Fns P w K mg base "_law_term" 6 ["_law_pool_here", "_law_g", "_law_names", "_law_left"] (spTerm K 4)) : FnOk P w K mg base CX0 7 f fd ["_law_pool_here", "_law_g", "_law_many"] (spLb K) := by
  refine F.ok scLb (fun vs H Q E h => ?_) (fun cdv A outer s H vs Q E hr h => ?_)
  · obtain ⟨p, g, m, gd, n, rfl, _⟩ := h
    rfl
  · obtain ⟨p, g, m, gd, n, rfl, hm, hG, g3, hP, hn, q⟩ := h
    refine ⟨_, pss_cons (ps_par (i := 3) (j := 4) rfl scLb.nd rfl rfl (by decide) rfl rfl (pa_cons (pe_lst (pa_nil)) (pa_cons (pe_callTy call_dictD (by rfl) T.dict (by decide +kernel) (pa_cons (pv 1) pa_nil)) (pa_nil))) (by rfl)) (pss_cons (ps_dput (hu_of hr) (pv 4) pe_str (pe_callTy call_dictD (by rfl) T.dict (by decide +kernel) (pa_cons (pe_dget (hu_of hr) (pv 1) pe_str (fun _ _ => rfl)) pa_nil)) rfl) (pss_cons (ps_for PassesOwn.never rfl (pi_seqW (pe_slice sl_list (pe_fn MX hr (by decide) rfl (pa_cons (pv 0) (pa_cons (pe_lst (pa_cons (pe_str) (pa_cons (pe_str) (pa_cons (pe_str) (pa_cons (pe_str) (pa_nil)))))) (pa_nil)))) po_none (po_some (pv 2)))) (pg_name (i := 5) scLb.nd rfl (.inl rfl)) (pss_cons (ps_set (i := 6) scLb.nd rfl (.inl rfl) (pe_callTy call_tuple_of (by rfl) T.tuple (by decide +kernel) (pa_cons (pe_slice sl_list (pe_fn MX hr (by decide) rfl (pa_cons (pv 0) (pa_cons (pe_lst (pa_cons (pe_str) (pa_cons (pe_str) (pa_cons (pe_str) (pa_cons (pe_str) (pa_nil)))))) (pa_nil)))) po_none (po_some (pe_fn TK hr (by decide) rfl (pa_cons (pv 0) (pa_cons (pe_int) (pa_nil)))))) (pa_nil)))) (pss_cons (ps_set (i := 7) scLb.nd rfl (.inl rfl) (pe_fn TE hr (by decide) rfl (pa_cons (pv 0) (pa_cons (pv 4) (pa_cons (pv 6) (pa_cons (pe_lst (pa_cons (pe_op op_sub (pe_int) (pe_callTy call_int1 (by rfl) T.int (by decide +kernel) (pa_cons (pe_cmpR op_gt (pe_callB call_len_seq (by rfl) T.len PySem.boot_len (pa_cons (pv 3) (pa_nil))) (pe_int) (nomark _)) (pa_nil)))) (pa_cons (pe_op op_sub (pe_int) (pe_callTy call_int1 (by rfl) T.int (by decide +kernel) (pa_cons (pe_cmpR op_gt (pe_callB call_len_seq (by rfl) T.len PySem.boot_len (pa_cons (pv 3) (pa_nil))) (pe_int) (nomark _)) (pa_nil)))) (pa_nil)))) (pa_nil))))))) (pss_cons (ps_expr (pe_bm PySem.F.plainAttrs_list PySem.F.slot_list_append PySem.F.type_list_append mt_append (pv 3) (pa_cons (pe_tup (pa_cons (pv 5) (pa_cons (pv 6) (pa_cons (pv 7) (pa_nil))))) (pa_nil)))) (pss_one (ps_dput (hu_of hr) (pv 4) pe_str (pe_callTy (call_dictP rfl) (by rfl) T.dict (by decide +kernel) (pa_cons (pe_op op_cat (LiI.pe_listItems rfl (pe_dget (hu_of hr) (pv 4) pe_str (fun _ _ => rfl)) rfl T.list (by decide +kernel)) (pe_lst (pa_cons (pe_tup (pa_cons (pv 5) (pa_cons (pe_callB call_len_seq (by rfl) T.len PySem.boot_len (pa_cons (pv 6) pa_nil)) pa_nil))) pa_nil))) pa_nil)) rfl)))))) (pss_one (ps_ret (pe_tup (pa_cons (pv 3) (pa_cons (pv 4) (pa_nil)))))))), ?_⟩
    obtain ⟨aL, aF, aC, aT, g1, g2, k3, k4, k5⟩ := hG.ex
    refine ⟨by show 0 ≤ sizeLine; decide, fun F nF => ?_⟩
    obtain ⟨H1, s1, h1, e1⟩ := lay (o := .lst []) nF
    rw [e1]
    refine ⟨_, rfl, g, _, rfl, .inl (s1 _ _ (hid_in g1).1), fun W nW => ?_⟩
    obtain ⟨H2, s2, h2, e2⟩ := lay (o := .dK (gdk aL aF aC aT)) nW
    show ∃ v w_1, _
    refine ⟨_, _, rfl, ?_⟩
    rw [show upd H1 W (.dK [((.inr "letters" : Key), V.ref aL), (.inr "fixed", .ref aF), (.inr "commuting", .ref aC), (.inr "facts", .ref aT)]) = H2 from e2]
    have S12 : Same H H2 := s1.trans s2
    have vL : valV (gdk aL aF aC aT) (.inr "letters" : Key) = some (.ref aL) := valV_pos rfl
    have FW : F ≠ W := ne_of_none h1 nW
    refine ⟨_, rfl, g, .ref aL, rfl, by rw [← vL]; exact DGet.k (k := .inr "letters") (S12 _ _ (hid_in g1).1), aL, lkv gd.letters, rfl, .inl (S12 _ _ (hid_in g2).1), fun L nL => ?_⟩
    obtain ⟨H3, s3, h3, e3⟩ := lay (o := .dK (lkv gd.letters)) nL
    rw [e3]
    have S13 := S12.trans s3
    refine ⟨_, rfl, W, _, rfl, DPut.k (k := .inr "letters") (s3 _ _ h2) (by show 4 < sizeLine; decide), ?_⟩
    rw [show putK (gdk aL aF aC aT) (.inr "letters" : Key) (.ref L) = gdk L aF aC aT from rfl]
    have nWH : H W = none := s1.free nW
    have WL : L ≠ W := ne_of_none h2 nL |>.symm
    have Fp : F ≠ p := hP.ne nF
    have Wp : W ≠ p := (hP.mono s1 (Nat.le_refl _)).ne nW
    have wid0 : gd.wide (pre []) = gd := by unfold GD.wide pre; rw [List.map_nil, List.map_nil, List.append_nil]
    have B4 : Bt [p] H (upd H3 W (.dK (gdk L aF aC aT))) := bt_put (bt_of S13) nWH
    have G4 : IsG (hid [p, F] (upd H3 W (.dK (gdk L aF aC aT)))) W (gd.wide (pre [])) := by
      rw [wid0]
      have k : ∀ {b : Addr} {o : HO}, hid [p] H b = some o → hid [p, F] (upd H3 W (.dK (gdk L aF aC aT))) b = some o := fun {b o} e => by
        obtain ⟨e1, m⟩ := hid_in e
        have bW : b ≠ W := ne_of_none e1 nWH
        have bF : b ≠ F := ne_of_none e1 nF
        exact hid_to (ni2 (fun z => m (List.mem_singleton.mpr z)) bF) (by rw [upd_ne bW]; exact S13 _ _ e1)
      have nm2 : ∀ b : Addr, b ≠ p → b ≠ F → b ∉ [p, F] := fun b h1 h2 => by simp [h1, h2]
      have Lp : L ≠ p := (hP.mono S12 (Nat.le_refl _)).ne nL
      have LF : L ≠ F := ne_of_none (s2 _ _ h1) nL |>.symm
      obtain ⟨tsF, u1, u2⟩ := k5
      exact ⟨L, aF, aC, aT, hid_to (nm2 W Wp FW.symm) upd_same, hid_to (nm2 L Lp LF) (by rw [upd_ne WL]; exact h3), k k3, k k4, tsF, k u1, Paired.mapP u2 fun f t r => let ⟨v, e, z1, z2, z3⟩ := r.ex; ⟨v, e, k z1, k z2, k z3⟩⟩
    have h4F : upd H3 W (.dK (gdk L aF aC aT)) F = some (.lst []) := by rw [upd_ne FW]; exact s3 _ _ (s2 _ _ h1)
    have P4 : PoolIs (upd H3 W (.dK (gdk L aF aC aT))) p n := by
      obtain ⟨a, b, c, e, r⟩ := (hP.mono S13 (Nat.le_refl _)).ex
      exact ⟨a, b, c, by rw [upd_ne Wp.symm]; exact e, r⟩
    generalize upd H3 W (.dK (gdk L aF aC aT)) = H4 at B4 G4 h4F P4
    refine ⟨_, rfl, by show 4 ≤ sizeLine; decide, fun a4 n4 => ?_⟩
    obtain ⟨H5, s5, h5, e5⟩ := lay (o := .lst (sts fnNm)) n4
    rw [show upd H4 a4 (.lst [V.str "f", .str "sum", .str "last", .str "half"]) = H5 from e5]
    have P5 := P4.mono s5 (Nat.le_refl _)
    refine ⟨p, a4, sts fnNm, n, rfl, SqL.of (hid_to (ni1 (P4.ne n4)) h5), by decide, by omega, P5, fun qa ys H6 hperm nqa b6 hqa P6 => ?_⟩
    obtain ⟨nl0, rfl, pm⟩ := sts_perm hperm
    refine ⟨_, rfl, _, rfl, qa, sts nl0, rfl, SqL.of hqa, fun NL nNL => ?_⟩
    have ln0 : nl0.length = 4 := pm.length_eq
    obtain ⟨nl, hnl⟩ : ∃ nl, nl = nl0.take m := ⟨_, rfl⟩
    obtain ⟨H7, s7, h7, e7⟩ := lay (o := .lst (sts nl)) nNL
    have ecut : cutV (sts nl0) none (some ((m : Nat) : Int)) = sts nl := by
      rw [cut_to _ _ (by rw [sts_len]; omega), hnl]
      unfold sts
      rw [List.map_take]
    rw [ecut, e7]
    have nlnd : nl.Nodup := by
      rw [hnl]
      exact (pm.nodup_iff.mpr (by decide +kernel)).sublist (List.take_sublist _ _)
    have nlnm : ∀ x ∈ nl, x ∈ fnNm := fun x hx => pm.subset (List.mem_of_mem_take (by rw [← hnl]; exact hx))
    have nll : nl.length ≤ 4 := by rw [hnl, List.length_take]; omega
    have B67 : Bt [p] H4 H7 := ((bt_of s5).trans b6).trans (bt_of s7)
    have qp : qa ≠ p := P5.ne nqa
    have NLp : NL ≠ p := P6.ne nNL
    have lF7 : H7 F = some (.lst []) := bt_at B67 (ni1 Fp) h4F
    have NLF : NL ≠ F := fun z => by
      have := bt_at ((bt_of s5).trans b6) (ni1 Fp) h4F
      rw [z, this] at nNL
      cases nNL
    have NLW : NL ≠ W := fun z => by
      obtain ⟨_, _, _, _, z1, _⟩ := G4.ex
      have := bt_at ((bt_of s5).trans b6) (ni1 Wp) (hid_in z1).1
      rw [z, this] at nNL
      cases nNL
    refine ⟨NL, sts nl, true, [], rfl, SqL.of (hid_to (by simp) h7), fun J WJ => ?_⟩
    refine for_it WJ (fun i σ H' => ∃ (fs : List FnD) (ts : List Addr) (o5 o6 o7 : Option V), σ = [some (.ref p), some (.ref g), some (.int (m : Int)), some (.ref F), some (.ref W), o5, o6, o7] ∧ fs.map (·.1) = nl.take i ∧ LibD gd fs ∧ Bt [p] H H' ∧ H' NL = some (.lst (sts nl)) ∧ H' F = some (.lst (ts.map V.ref)) ∧ Paired (FunT K H') fs ts ∧ IsG (hid [p, F] H') W (gd.wide (pre fs)) ∧ PoolIs H' p (n + 60 + 70 * i))
      ⟨[], [], none, none, none, rfl, by rw [List.take_zero]; rfl, ⟨fun f h => (nomatch h), .nil, fun f h => (nomatch h), fun i f h => by simp at h, fun f h => (nomatch h)⟩, B4.trans B67, h7, lF7, .nil, G4.mono (fun b o e => ?_), P6.mono s7 (by omega)⟩ (fun i σ H' _ ⟨_, _, _, _, _, _, _, _, _, hN, _⟩ => SqL.of (hid_to (by simp) hN)) ?_ ?_
    · obtain ⟨e1, mm⟩ := hid_in e
      exact hid_to mm (bt_at B67 (ni1 fun z => mm (by rw [z]; simp)) e1)
    · rintro i y σ Ha' Ha hi ⟨fs, ts, o5, o6, o7, rfl, hfs, lib, Ba, hN, hF, hft, hW, Pa⟩ ⟨rfl, hy⟩
      have hy : (sts nl)[i]? = some y := hy
      obtain ⟨nm, hnm, rfl⟩ := sts_at hy
      have il : i < nl.length := (List.getElem?_eq_some_iff.mp hnm).1
      have lfs : fs.length = i := by
        have := congrArg List.length hfs
        rw [List.length_map, List.length_take] at this
        omega
      have lts := Paired.length hft
      have i4 : i < 4 := by omega
      have eWL : (gd.wide (pre fs)).letters.length ≤ 8 := (g3.wide lib.nm lib.nd fun f hf => (lib.bn f hf).2.2).le
      refine ⟨_, rfl, by show 4 ≤ sizeLine; decide, fun b4 nb4 => ?_⟩
      obtain ⟨Hb, sb, hb, eb⟩ := lay (o := .lst (sts bnNm)) nb4
      rw [show upd Ha b4 (.lst [V.str "v", .str "w", .str "p", .str "name"]) = Hb from eb]
      have Pb := Pa.mono sb (Nat.le_refl _)
      refine ⟨p, b4, sts bnNm, _, rfl, SqL.of (hid_to (ni1 (Pa.ne nb4)) hb), by decide, by omega, Pb, fun qb ys Hc hperm nqb bc hqb Pc => ?_⟩
      obtain ⟨ns0, rfl, pm2⟩ := sts_perm hperm
      refine ⟨_, rfl, p, 3, _, rfl, by decide, by decide, by omega, Pc, fun r Hd hr bd Pd => ?_⟩
      have qbp : qb ≠ p := Pb.ne nqb
      refine ⟨_, rfl, qb, sts ns0, rfl, SqL.of (bt_at bd (ni1 qbp) hqb), fun sl nsl => ?_⟩
      have ln2 : ns0.length = 4 := pm2.length_eq
      obtain ⟨ns, hns⟩ : ∃ ns, ns = ns0.take r := ⟨_, rfl⟩
      obtain ⟨He, se, he, ee⟩ := lay (o := .lst (sts ns)) nsl
      have ecut2 : cutV (sts ns0) none (some ((r : Nat) : Int)) = sts ns := by
        rw [cut_to _ _ (by rw [sts_len]; omega), hns]
        unfold sts
        rw [List.map_take]
      rw [ecut2, ee]
      have nsnd : ns.Nodup := by
        rw [hns]
        exact (pm2.nodup_iff.mpr (by decide +kernel)).sublist (List.take_sublist _ _)
      have nsnm : ∀ x ∈ ns, x ∈ bnNm := fun x hx => pm2.subset (List.mem_of_mem_take (by rw [← hns]; exact hx))
      have nsl2 : ns.length ≤ 2 := by rw [hns, List.length_take]; omega
      refine ⟨sl, sts ns, rfl, .inl ⟨SqL.of he, fun u nu => ?_⟩⟩
      obtain ⟨Hf, sf, hf, ef⟩ := lay (o := .tup (sts ns)) nu
      rw [ef]
      have Baf : Bt [p] Ha Hf := (((bt_of sb).trans bc).trans bd).trans ((bt_of se).trans (bt_of sf))
      have Pf : PoolIs Hf p (n + 60 + 70 * i + 60 + 1) := (Pd.mono se (Nat.le_refl _)).mono sf (by omega)
      have hFf := bt_at Baf (ni1 Fp) hF
      obtain ⟨wL, wF, wC, wT, w1, w2, w3, w4, w5⟩ := hW.ex
      have wW := (hid_in w1)
      have wWf := bt_at Baf (ni1 Wp) wW.1
      -- the term
      have lenF : ((ts.map V.ref).length : Int) = (i : Int) := by rw [List.length_map, ← lts, lfs]
      refine ⟨_, rfl, _, rfl, _, rfl, _, rfl, F, ts.map V.ref, rfl, .inl (SqL.of hFf), _, _, rfl, rfl, .inr ⟨_, rfl, _, _, rfl, rfl, ?_⟩⟩
      refine ⟨_, rfl, F, ts.map V.ref, rfl, .inl (SqL.of hFf), _, _, rfl, rfl, .inr ⟨_, rfl, _, _, rfl, rfl, ?_⟩⟩
      obtain ⟨x0, u0, hx0, hx4, eX, eU⟩ : ∃ (x0 : Nat) (u0 : Int), x0 < 4 ∧ x0 ≤ 3 ∧ (3 - (if decide (1 < (((ts.map V.ref).length : Nat) : Int)) = true then 1 else 0) : Int) = (x0 : Int) ∧ (2 - (if decide (1 < (((ts.map V.ref).length : Nat) : Int)) = true then 1 else 0) : Int) = u0 := by
        by_cases c : 1 < (((ts.map V.ref).length : Nat) : Int)
        · exact ⟨2, 1, by decide, by decide, by rw [if_pos (decide_eq_true c)]; rfl, by rw [if_pos (decide_eq_true c)]; rfl⟩
        · exact ⟨3, 2, by decide, by decide, by rw [if_neg (by simpa using c)]; rfl, by rw [if_neg (by simpa using c)]; rfl⟩
      refine ⟨by show 2 ≤ sizeLine; decide, fun l4 nl4 => ?_⟩
      obtain ⟨Hg, sg, hg, eg⟩ := lay (o := .lst [.int (x0 : Int), .int u0]) nl4
      have eg' : upd Hf l4 (.lst [(fun i j : Int => V.int (i - j)) 3 (if decide (1 < (((ts.map V.ref).length : Nat) : Int)) = true then 1 else 0), (fun i j : Int => V.int (i - j)) 2 (if decide (1 < (((ts.map V.ref).length : Nat) : Int)) = true then 1 else 0)]) = Hg := by
        show upd Hf l4 (.lst [V.int (3 - if decide (1 < (((ts.map V.ref).length : Nat) : Int)) = true then 1 else 0), V.int (2 - if decide (1 < (((ts.map V.ref).length : Nat) : Int)) = true then 1 else 0)]) = Hg
        rw [eX, eU, eg]
      rw [eg']
      have Pg := Pf.mono sg (Nat.le_refl _)
      have Bag : Bt [p] Ha Hg := Baf.trans (bt_of sg)
      have l4p : l4 ≠ p := Pf.ne nl4
      have WfW := g3.wide lib.nm lib.nd fun f hf => (lib.bn f hf).2.2
      have Wg : IsG (hid [p, l4] Hg) W (gd.wide (pre fs)) := hW.mono fun b o e => by
        obtain ⟨e1, m⟩ := hid_in e
        have bp : b ≠ p := fun z => m (by rw [z]; simp)
        have b1 := bt_at Baf (ni1 bp) e1
        exact hid_to (ni2 bp (ne_of_none b1 nl4)) (sg _ _ b1)
      refine ⟨p, W, u, l4, gd.wide (pre fs), ns, x0, u0, _, rfl, Wg, WfW, SqT.of (sg _ _ hf), fun x hx => (show ∀ x ∈ bnNm, nameB x = true by decide +kernel) x (nsnm x hx), by omega, l4p.symm, hg, hx0, by decide, Pg, by omega, fun v t x1 u1 Hh Bh hlh szt okt dt Ph tz => ?_⟩
      have Fl4 : F ≠ l4 := ne_of_none hFf nl4
      have Wl4 : W ≠ l4 := ne_of_none wWf nl4
      have NLl4 : NL ≠ l4 := ne_of_none (bt_at Baf (ni1 NLp) hN) nl4
      have ul4 : u ≠ l4 := ne_of_none hf nl4
      have up : u ≠ p := ((Pd.mono se (Nat.le_refl _))).ne nu
      have nTa : ∀ q ∈ [p], ∀ o, Ha q = some o → isT o = false := fun q hq o e => by
        rw [List.mem_singleton.mp hq] at e
        exact pool_noT Pa o e
      have nTg : ∀ q ∈ [p, l4], ∀ o, Hg q = some o → isT o = false := fun q hq o e => by
        simp only [List.mem_cons, List.not_mem_nil, or_false] at hq
        rcases hq with rfl | rfl
        · exact pool_noT Pg o e
        · rw [hg] at e; cases e; rfl
      have tah : TW Ha Hh := (TW.bt nTa Bag).trans (TW.bt nTg Bh)
      have hFh : Hh F = some (.lst (ts.map V.ref)) := bt_at Bh (ni2 Fp Fl4) (sg _ _ hFf)
      have huh : Hh u = some (.tup (sts ns)) := bt_at Bh (ni2 up ul4) (sg _ _ hf)
      have hNh : Hh NL = some (.lst (sts nl)) := bt_at Bh (ni2 NLp NLl4) (bt_at Bag (ni1 NLp) hN)
      have Wh : IsG (hid [p, F] Hh) W (gd.wide (pre fs)) := hW.mono fun b o e => by
        obtain ⟨e1, m⟩ := hid_in e
        have bp : b ≠ p := fun z => m (by rw [z]; simp)
        have b1 := bt_at Baf (ni1 bp) e1
        exact hid_to m (bt_at Bh (ni2 bp (ne_of_none b1 nl4)) (sg _ _ b1))
      have Bah : Bt [p] Ha Hh := fun b o e => by
        obtain ⟨e1, m⟩ := hid_in e
        have bp : b ≠ p := fun z => m (by rw [z]; simp)
        have b1 := bt_at Baf (ni1 bp) e1
        exact hid_to m (bt_at Bh (ni2 bp (ne_of_none b1 nl4)) (sg _ _ b1))
      clear wWf w1 w2 w3 w4 w5 wW wL wF wC wT
      obtain ⟨wL, wF, wC, wT, w1, w2, w3, w4, w5⟩ := Wh.ex
      refine ⟨_, rfl, .inl ⟨rfl, _, SqL.of hFh⟩, _, rfl, _, rfl, _, rfl, by show 3 ≤ sizeLine; decide, fun tt ntt => ?_⟩
      obtain ⟨Hi, si, hi', ei⟩ := lay (o := .tup [.str nm, .ref u, v]) ntt
      rw [ei]
      refine ⟨F, ts.map V.ref, .ref tt, rfl, rfl, si _ _ hFh, by rw [List.length_map, ← lts, sizeLine_eq]; omega, ?_⟩
      have eHi : (upd Hi F (.lst (ts.map V.ref ++ [V.ref tt]))) F = some (.lst ((ts ++ [tt]).map V.ref)) := by rw [upd_same, List.map_append]; rfl
      have Bij : Bt [p, F] Hi (upd Hi F (.lst (ts.map V.ref ++ [V.ref tt]))) := bt_upd (by simp)
      have tij : TW Hi (upd Hi F (.lst (ts.map V.ref ++ [V.ref tt]))) := TW.upd fun o e => by rw [si _ _ hFh] at e; cases e; rfl
      have nFH : ∀ b o, b ≠ F → Hi b = some o → (upd Hi F (.lst (ts.map V.ref ++ [V.ref tt]))) b = some o := fun b o h e => by rw [upd_ne h]; exact e
      have Pj : PoolIs (upd Hi F (.lst (ts.map V.ref ++ [V.ref tt]))) p (n + 60 + 70 * i + 60 + 1 + 2 * t.size) := by
        obtain ⟨a, b, c, e, r⟩ := (Ph.mono si (Nat.le_refl _)).ex
        exact ⟨a, b, c, by rw [upd_ne Fp.symm]; exact e, r⟩
      have nFH0 : H F = none := nF
      have Bj : Bt [p] H (upd Hi F (.lst (ts.map V.ref ++ [V.ref tt]))) := bt_put (Ba.trans (Bah.trans (bt_of si))) nF
      generalize upd Hi F (.lst (ts.map V.ref ++ [V.ref tt])) = Hj at eHi Bij tij nFH Pj Bj
      have Sij : Same (hid [p, F] Hh) (hid [p, F] Hj) := (hid_same si).trans Bij
      have j1 := (hid_in (Sij _ _ w1)).1
      have j2 := (hid_in (Sij _ _ w2)).1
      have vL2 : valV (gdk wL wF wC wT) (.inr "letters" : Key) = some (.ref wL) := valV_pos rfl
      refine ⟨_, rfl, W, .ref wL, rfl, by rw [← vL2]; exact DGet.k (k := .inr "letters") j1, wL, _, rfl, j2, fun Hk pl tsI sk npl ntsI npin hpl hpI => ?_⟩
      have uF : u ≠ F := ne_of huh hFh (fun z => nomatch z)
      refine ⟨_, rfl, _, rfl, u, sts ns, rfl, .inr (SqT.of (sk _ _ (nFH _ _ uF (si _ _ huh)))), by show 2 ≤ sizeLine; decide, fun tq ntq => ?_⟩
      obtain ⟨Hl, sl', hl', el'⟩ := lay (o := .tup [.str nm, .int ((sts ns).length : Nat)]) ntq
      rw [el']
      refine ⟨by show 1 ≤ sizeLine; decide, fun lq nlq => ?_⟩
      obtain ⟨Hm, sm, hm', em'⟩ := lay (o := .lst [.ref tq]) nlq
      rw [em']
      have lI := Paired.length hpI
      have llk : (lkv (gd.wide (pre fs)).letters).length = (gd.wide (pre fs)).letters.length := List.length_map _
      refine ⟨pl, lq, tsI.map V.ref, [.ref tq], rfl, rfl, sm _ _ (sl' _ _ hpl), hm', by rw [List.length_map, lI, llk, sizeLine_eq]; show _ + 1 ≤ _; omega, fun cl ncl => ?_⟩
      obtain ⟨Hn, sn, hn', en'⟩ := lay (o := .lst ((tsI ++ [tq]).map V.ref)) ncl
      rw [show upd Hm cl (.lst (tsI.map V.ref ++ [V.ref tq])) = Hn by rw [← en', List.map_append]; rfl]
      have libN : LibD gd (fs ++ [(nm, ns, t)]) := by
        have hnew : nm ∉ fs.map (·.1) := by
          rw [hfs]
          intro m
          have e := List.take_append_drop i nl
          have d1 : nl = nl.take i ++ nm :: nl.drop (i + 1) := by
            obtain ⟨z1, z2⟩ := List.getElem?_eq_some_iff.mp hnm
            rw [← z2, ← List.drop_eq_getElem_cons z1, List.take_append_drop]
          rw [d1] at nlnd
          exact (List.nodup_append.mp nlnd).2.2 _ m _ List.mem_cons_self rfl
        refine ⟨fun f hf => ?_, ?_, fun f hf => ?_, fun j f hj => ?_, fun f hf => ?_⟩
        · rcases List.mem_append.mp hf with hf | hf
          · exact lib.nm f hf
          · rw [List.mem_singleton.mp hf]
            exact nlnm _ (List.mem_of_getElem? hnm)
        · rw [List.map_append]
          exact List.nodup_append.mpr ⟨lib.nd, by simp, fun a ha b hb z => hnew (by
            have z2 : a = nm := z.trans (List.mem_singleton.mp hb)
            exact z2 ▸ ha)⟩
        · rcases List.mem_append.mp hf with hf | hf
          · exact lib.bn f hf
          · rw [List.mem_singleton.mp hf]
            exact ⟨nsnm, nsnd, nsl2⟩
        · by_cases jl : j < fs.length
          · rw [List.getElem?_append_left jl] at hj
            rw [List.take_append_of_le_length (by omega)]
            exact lib.ok j f hj
          · have : j = fs.length := by
              have := (List.getElem?_eq_some_iff.mp hj).1
              rw [List.length_append] at this
              simp at this
              omega
            subst this
            rw [List.getElem?_append_right (Nat.le_refl _), Nat.sub_self] at hj
            obtain rfl : (nm, ns, t) = f := by simpa using hj
            rw [List.take_append_of_le_length (Nat.le_refl _), List.take_of_length_le (Nat.le_refl _)]
            exact ⟨okt, show t.size ≤ 4 by omega⟩
        · rcases List.mem_append.mp hf with hf | hf
          · exact lib.nz f hf
          · rw [List.mem_singleton.mp hf]
            exact tz
      have WfN := g3.wide libN.nm libN.nd fun f hf => (libN.bn f hf).2.2
      have eN : (gd.wide (pre (fs ++ [(nm, ns, t)]))).letters = (gd.wide (pre fs)).letters ++ [(nm, ns.length)] := by
        unfold GD.wide pre
        rw [List.map_append, List.map_append, List.append_assoc]
        rfl
      refine ⟨cl, tsI ++ [tq], lkv ((gd.wide (pre fs)).letters ++ [(nm, ns.length)]), rfl, SqL.of hn', ?_, fun D nD => ?_⟩
      · unfold lkv
        rw [List.map_append]
        refine paired_app ?_ (.cons (SqT.of (sn _ _ (sm _ _ ?_))) .nil)
        · have : ∀ {l1 : List Addr} {l2 : List (Key × V)}, Paired (fun (t : Addr) (q : Key × V) => Hk t = some (.tup [kV q.1, q.2])) l1 l2 → Paired (fun (p : Addr) (kv : Key × V) => SqT K Hn p [kV kv.1, kv.2]) l1 l2 := fun h => Paired.mapP h fun _ _ z => SqT.of (sn _ _ (sm _ _ (sl' _ _ z)))
          exact this hpI
        · rw [hl', sts_len]
          rfl
      rw [show mergeK [] (lkv ((gd.wide (pre fs)).letters ++ [(nm, ns.length)])) = lkv (gd.wide (pre (fs ++ [(nm, ns, t)]))).letters by rw [eN]; exact merge_lkv _ [] (by rw [List.nil_append, ← eN]; exact WfN.nd)]
      obtain ⟨Ho, so, ho, eo⟩ := lay (o := .dK (lkv (gd.wide (pre (fs ++ [(nm, ns, t)]))).letters)) nD
      rw [eo]
      have Sjo : Same Hj Ho := (((Same.trans sk sl').trans sm).trans sn).trans so
      refine ⟨_, rfl, W, _, rfl, DPut.k (k := .inr "letters") (show Ho W = some (.dK (gdk wL wF wC wT)) from Sjo _ _ j1) (by show 4 < sizeLine; decide), ?_⟩
      rw [show putK (gdk wL wF wC wT) (.inr "letters" : Key) (.ref D) = gdk D wF wC wT from rfl]
      have WD : D ≠ W := (ne_of_none ((Same.trans (Same.trans (Same.trans sk sl') sm) sn) _ _ j1) nD).symm
      have oN : ∀ b o, b ≠ W → Ho b = some o → upd Ho W (.dK (gdk D wF wC wT)) b = some o := fun b o h e => by rw [upd_ne h]; exact e
      have tT : TW Ha (upd Ho W (.dK (gdk D wF wC wT))) := (tah.trans (TW.of si)).trans (tij.trans ((TW.of Sjo).trans (TW.upd fun o e => by rw [Sjo _ _ j1] at e; cases e; rfl)))
      have tT2 : TW Hh (upd Ho W (.dK (gdk D wF wC wT))) := (TW.of si).trans (tij.trans ((TW.of Sjo).trans (TW.upd fun o e => by rw [Sjo _ _ j1] at e; cases e; rfl)))
      have tT3 : TW Hi (upd Ho W (.dK (gdk D wF wC wT))) := tij.trans ((TW.of Sjo).trans (TW.upd fun o e => by rw [Sjo _ _ j1] at e; cases e; rfl))
      have NLF' : NL ≠ F := NLF
      refine ⟨fs ++ [(nm, ns, t)], ts ++ [tt], _, _, _, rfl, ?_, libN, bt_put (Bj.trans (bt_of Sjo)) nWH, ?_, ?_, ?_, ?_, ?_⟩
      · rw [List.map_append, hfs, take_at hnm]
        rfl
      · exact oN _ _ NLW (Sjo _ _ (nFH _ _ NLF' (si _ _ hNh)))
      · exact oN _ _ FW (Sjo _ _ eHi)
      · refine paired_app (Paired.mapP hft fun _ _ z => funT_tw tT z) (.cons ⟨u, v, tT3 _ _ hi' rfl, sqT_tw tT2 (SqT.of huh), dp_tw tT2 _ _ (tupO_d _) dt⟩ .nil)
      · have Wj : Same (hid [p, F] Hh) (hid [p, F] Ho) := Sij.trans (hid_same Sjo)
        have kk : ∀ {b : Addr} {o : HO}, hid [p, F] Hh b = some o → b ≠ W → hid [p, F] (upd Ho W (.dK (gdk D wF wC wT))) b = some o := fun {b o} e h => by
          obtain ⟨e1, m⟩ := hid_in (Wj _ _ e)
          exact hid_to m (oN _ _ h e1)
        have nk : ∀ {b : Addr} {o : HO}, hid [p, F] Hh b = some o → (∀ k, o ≠ .dK k) → b ≠ W := fun {b o} e h z => by
          rw [z, w1] at e
          exact h _ (Option.some.inj e).symm
        obtain ⟨tsF, f1, f2⟩ := w5
        have Dp : D ≠ p := (Pj.mono (Same.trans (Same.trans (Same.trans sk sl') sm) sn) (Nat.le_refl _)).ne nD
        have DF : D ≠ F := (ne_of_none ((Same.trans (Same.trans (Same.trans sk sl') sm) sn) _ _ eHi) nD).symm
        exact ⟨D, wF, wC, wT, hid_to (ni2 Wp FW.symm) upd_same, hid_to (ni2 Dp DF) (oN _ _ WD ho), kk w3 (nk w3 fun _ z => nomatch z), kk w4 (nk w4 fun _ z => nomatch z), tsF, kk f1 (nk f1 fun _ z => nomatch z), Paired.mapP f2 fun f t r => let ⟨v, e, z1, z2, z3⟩ := r.ex; ⟨v, e, kk z1 (nk z1 fun _ z => nomatch z), kk z2 (nk z2 fun _ z => nomatch z), kk z3 (nk z3 fun _ z => nomatch z)⟩⟩
      · obtain ⟨a, b, c, e, r⟩ := (Pj.mono Sjo (Nat.le_refl _)).ex
        exact PoolIs.mono (Same.refl _) (by omega) (show PoolIs _ p (n + 60 + 70 * i + 60 + 1 + 2 * t.size) from ⟨a, b, c, by rw [upd_ne Wp.symm]; exact e, r⟩)
    · rintro σ Ha ⟨fs, ts, o5, o6, o7, rfl, hfs, lib, Ba, hN, hF, hft, hW, Pa⟩
      rw [sts_len] at *
      refine ⟨_, rfl, _, rfl, by show 2 ≤ sizeLine; decide, fun R nR => ?_⟩
      obtain ⟨Hb, sb, hb, eb⟩ := lay (o := .tup [.ref F, .ref W]) nR
      rw [eb]
      exact q R F W fs ts Hb (Ba.trans (bt_of sb)) (SqT.of hb) (sb _ _ hF) (Paired.mapP hft fun _ _ z => z.mono sb) lib (hW.mono (hid_same sb)) Fp (Pa.mono sb (by omega))
end
end K39
set_option Elab.async false
set_option linter.all false
set_option autoImplicit false
set_option maxRecDepth 100000
set_option maxHeartbeats 4000000
/-! A tuple times a number from 0 on. -/
namespace GB
open PySem PySem.Spec L2 PyProof.Rows
section
variable {X : Cx}
/-- a tuple times 0 or 1 -/
theorem tuple_mul0 (l : Addr) (items : Array Value) (n : Nat) (dd : Option Addr) (sl : Array (Option Value)) (u : Tok) (c1 : items.isEmpty = false) :
    Meets (Builtin.«tuple.__mul__» ⟨[.ref l, .int 0 u], []⟩) (fun _ R s => s.heap.get? l = some { cls := .type "tuple", dict := dd, data := .seq items n, slots := sl } ∧
      R (.ok (.ret (Value.ref s.heap.objs.size))) { s with heap := s.heap.push { cls := Value.type "tuple", data := Data.seq #[] }, toks := s.toks }) :=
  .of_wp fun prog w A R s h => by
    obtain ⟨hp, g, d, tk, os⟩ := s
    obtain ⟨hl, h⟩ := h
    have f1 := AutoSeq1.idx_int
    wp_walk using wpAny_loadPart' hl
    repeat (first
      | (refine wpAny_ite_false (decide_eq_false (by rw [c1]; simp)) ?_; wp_walk using wpAny_loadPart' hl)
      | (refine wpAny_ite_true (decide_eq_true (by rw [c1]; simp)) ?_; wp_walk using wpAny_loadPart' hl))
    exact ⟨_, rfl, h⟩
theorem tuple_mul1 (l : Addr) (items : Array Value) (n : Nat) (dd : Option Addr) (sl : Array (Option Value)) (u : Tok) (c1 : items.isEmpty = false) :
    Meets (Builtin.«tuple.__mul__» ⟨[.ref l, .int 1 u], []⟩) (fun _ R s => s.heap.get? l = some { cls := .type "tuple", dict := dd, data := .seq items n, slots := sl } ∧
      R (.ok (.ret (Value.ref l))) s) :=
  .of_wp fun prog w A R s h => by
    obtain ⟨hp, g, d, tk, os⟩ := s
    obtain ⟨hl, h⟩ := h
    have f1 := AutoSeq1.idx_int
    wp_walk using wpAny_loadPart' hl
    repeat (first
      | (refine wpAny_ite_false (decide_eq_false (by rw [c1]; simp)) ?_; wp_walk using wpAny_loadPart' hl)
      | (refine wpAny_ite_true (decide_eq_true (by rw [c1]; simp)) ?_; wp_walk using wpAny_loadPart' hl))
    exact ⟨_, rfl, h⟩
def rRepT01 (K : PySem.W.Frag) : R2 := fun x y H Q => ∃ l k xs, x = .ref l ∧ y = .int k ∧ SqT K H l xs ∧ xs ≠ [] ∧ (k = 0 ∨ k = 1) ∧ (k = 1 → Q (.ref l) H) ∧ (k = 0 → ∀ p, H p = none → Q (.ref p) (upd H p (.tup [])))
theorem op_repT01 : OpR X (binaryOp .Mult) (rRepT01 X.K) := by
  intro pins s σ H x y v u Q I rx ry h
  obtain ⟨l, k, xs, rfl, rfl, hT, hne, hk, q1, q0⟩ := h
  cases rx
  obtain ⟨t, rfl⟩ := ry
  obtain ⟨its, r, ⟨⟨cls, dd, data, sl⟩, ho, hc, n, hd⟩, hs⟩ := I.tuple hT
  simp only at hc hd
  subst hc hd
  have hle : its.length = xs.length := r.length.symm
  have hn : its ≠ [] := fun e => hne (by
    rw [e] at hle
    exact List.eq_nil_of_length_eq_zero hle.symm)
  have hi : its.toArray.isEmpty = false := by
    cases its with
    | nil => exact absurd rfl hn
    | cons a b => rfl
  rcases hk with rfl | rfl
  · refine wpAny_binaryOp_repeat_ref (T := "tuple") (U := "int") (by decide) ⟨_, ho, rfl⟩ (fun s' => typeIs_int s' 0 t) noFill_tuple_mul F.fills_int_mul F.slot_int_rmul repeat_tuple F.slot_int_index.lookup
      (call_meets F.slot_int_rmul (typeIs_int s 0 t) F.entry_int_rmul (F.args_int_rmul_2 _ _) (int_rmul_tuple 0 t l its.toArray n dd sl)
        ⟨ho, rfl, ⟨_, ho, rfl⟩, call_meets F.slot_tuple_mul ⟨_, ho, rfl⟩ F.entry_tuple_mul (F.args_tuple_mul_2 _ _) (tuple_mul0 l its.toArray n dd sl t hi) ⟨ho, ?_⟩⟩)
    refine ⟨.ref s.heap.objs.size, _, I.laid (t' := s.toks) (o := .tup []) (fun b ob q => Heap.get?_push_of_some _ q) (Nat.le_refl _) ?_, rfl, q0 rfl _ (I.hok.fresh (Nat.le_refl _))⟩
    exact ⟨Nat.zero_le _, [], .nil, IsTup.new _ _⟩
  · exact wpAny_binaryOp_repeat_ref (T := "tuple") (U := "int") (by decide) ⟨_, ho, rfl⟩ (fun s' => typeIs_int s' 1 t) noFill_tuple_mul F.fills_int_mul F.slot_int_rmul repeat_tuple F.slot_int_index.lookup
      (call_meets F.slot_int_rmul (typeIs_int s 1 t) F.entry_int_rmul (F.args_int_rmul_2 _ _) (int_rmul_tuple 1 t l its.toArray n dd sl)
        ⟨ho, rfl, ⟨_, ho, rfl⟩, call_meets F.slot_tuple_mul ⟨_, ho, rfl⟩ F.entry_tuple_mul (F.args_tuple_mul_2 _ _) (tuple_mul1 l its.toArray n dd sl t hi) ⟨ho, ⟨.ref l, H, I, rfl, q1 rfl⟩⟩⟩)
def rRepA (K : PySem.W.Frag) : R2 := fun x y H Q => rRepT01 K x y H Q ∨ rRepT K x y H Q
theorem op_repA : OpR X (binaryOp .Mult) (rRepA X.K) := fun pins s σ H x y v u Q I rx ry h => h.elim (op_repT01 pins s σ H x y v u Q I rx ry) (op_repT pins s σ H x y v u Q I rx ry)
end
end GB
set_option Elab.async false
set_option linter.all false
set_option maxRecDepth 100000
set_option maxHeartbeats 4000000
/-! Any object that a drawn and spoilt term is made of. -/
namespace GB
open PySem PySem.Spec L2
inductive AD where
  | non | bl (b : Bool) | int (i : Int) | str (s : Str) | dic | seq (t : Bool) (xs : List AD)
mutual
def AD.sz : AD → Nat
  | .seq _ xs => AD.szs xs + 1
  | _ => 1
def AD.szs : List AD → Nat
  | [] => 0
  | d :: r => d.sz + AD.szs r
end
mutual
inductive AdAt (K : PySem.W.Frag) (H : Hp) : V → AD → Prop
  | non : AdAt K H .non .non
  | bl (b : Bool) : AdAt K H (.bl b) (.bl b)
  | int (i : Int) : AdAt K H (.int i) (.int i)
  | str (s : Str) : AdAt K H (.str s) (.str s)
  | dic {a} : H a = some (.dK []) → AdAt K H (.ref a) .dic
  | tup {a xs ds} : SqT K H a xs → AdAll K H xs ds → AdAt K H (.ref a) (.seq true ds)
  | lst {a xs ds} : SqL K H a xs → AdAll K H xs ds → AdAt K H (.ref a) (.seq false ds)
inductive AdAll (K : PySem.W.Frag) (H : Hp) : List V → List AD → Prop
  | nil : AdAll K H [] []
  | cons {v d vs ds} : AdAt K H v d → AdAll K H vs ds → AdAll K H (v :: vs) (d :: ds)
end
section
variable {K : PySem.W.Frag} {H H' : Hp}
mutual
theorem AdAt.mono (s : Same H H') : ∀ {d : AD} {v : V}, AdAt K H v d → AdAt K H' v d
  | _, _, .non => .non
  | _, _, .bl b => .bl b
  | _, _, .int i => .int i
  | _, _, .str z => .str z
  | _, _, .dic h => .dic (s _ _ h)
  | _, _, .tup h1 h2 => .tup (Same.seqT s h1) (AdAll.mono s h2)
  | _, _, .lst h1 h2 => .lst (Same.seq s h1) (AdAll.mono s h2)
theorem AdAll.mono (s : Same H H') : ∀ {ds : List AD} {vs : List V}, AdAll K H vs ds → AdAll K H' vs ds
  | _, _, .nil => .nil
  | _, _, .cons h1 h2 => .cons (AdAt.mono s h1) (AdAll.mono s h2)
end
theorem AdAll.len : ∀ {vs : List V} {ds : List AD}, AdAll K H vs ds → vs.length = ds.length
  | _, _, .nil => rfl
  | _, _, .cons _ h => by rw [List.length_cons, List.length_cons, h.len]
theorem AdAll.at : ∀ {vs : List V} {ds : List AD} {i : Nat} {v : V}, AdAll K H vs ds → vs[i]? = some v → ∃ d, ds[i]? = some d ∧ AdAt K H v d
  | _, _, 0, _, .cons h _, e => ⟨_, rfl, by cases e; exact h⟩
  | _, _, i + 1, _, .cons _ h, e => h.at (i := i) e
theorem AdAll.app : ∀ {vs ws : List V} {ds es : List AD}, AdAll K H vs ds → AdAll K H ws es → AdAll K H (vs ++ ws) (ds ++ es)
  | _, _, _, _, .nil, h => h
  | _, _, _, _, .cons a b, h => .cons a (b.app h)
theorem tyT {a : Addr} {xs : List V} (h : SqT K H a xs) : ∀ H', Same H H' → TyX K H' (.ref a) (.type "tuple") := by
  rcases h with (h | ⟨o, h⟩) | ⟨o, its, m, h, hc, _⟩
  · exact fun H' s => .base (.tup (s _ _ h))
  · exact fun H' s => .fTuple (s _ _ h)
  · exact fun H' s => .kTuple h hc
theorem tyL {a : Addr} {xs : List V} (h : SqL K H a xs) : ∀ H', Same H H' → TyX K H' (.ref a) (.type "list") := by
  rcases h with (h | ⟨o, h⟩) | ⟨o, its, m, h, hc, _⟩
  · exact fun H' s => .base (.lst (s _ _ h))
  · exact fun H' s => .base (.frz (s _ _ h))
  · exact fun H' s => .kList h hc
def AD.ty : AD → String
  | .non => "NoneType" | .bl _ => "bool" | .int _ => "int" | .str _ => "str" | .dic => "dict" | .seq true _ => "tuple" | .seq false _ => "list"
theorem AdAt.ty {v : V} {d : AD} (h : AdAt K H v d) : ∀ H', Same H H' → TyX K H' v (.type d.ty) := by
  cases h with
  | non => exact fun _ _ => .base .non
  | bl b => exact fun _ _ => .base (.bl b)
  | int i => exact fun _ _ => .base (.int i)
  | str s => exact fun _ _ => .base (.str s)
  | dic h => exact fun _ s => .base (.dK (s _ _ h))
  | tup h _ => exact tyT h
  | lst h _ => exact tyL h
def AD.isTup : AD → Bool
  | .seq true _ => true
  | _ => false
def AD.isSeq : AD → Bool
  | .seq _ _ => true
  | _ => false
def AD.isStr : AD → Bool
  | .str _ => true
  | _ => false
theorem kit_tup (d : AD) : PySem.W.kitOne K (.type d.ty) (.type "tuple") = some d.isTup := by
  cases d with
  | seq t xs => cases t <;> exact kit_ty (by simp only [AD.ty, AD.isTup, AD.isStr]; decide +kernel)
  | _ => exact kit_ty (by simp only [AD.ty, AD.isTup, AD.isStr]; decide +kernel)
theorem kit_str (d : AD) : PySem.W.kitOne K (.type d.ty) (.type "str") = some d.isStr := by
  cases d with
  | seq t xs => cases t <;> exact kit_ty (by simp only [AD.ty, AD.isTup, AD.isStr]; decide +kernel)
  | _ => exact kit_ty (by simp only [AD.ty, AD.isTup, AD.isStr]; decide +kernel)
theorem kit_sq (d : AD) : PySem.W.kitAny K (.type d.ty) [.type "list", .type "tuple"] = some d.isSeq := by
  cases d with
  | seq t xs => cases t with
    | true => exact kit_seq (.inr rfl)
    | false => exact kit_seq (.inl rfl)
  | _ => exact kitAny_cons (b := false) (kit_ty (by simp only [AD.ty]; decide +kernel)) (fun _ => kitAny_cons (b := false) (kit_ty (by simp only [AD.ty]; decide +kernel)) (fun _ => kitAny_nil) (fun h => nomatch h)) (fun h => nomatch h)
end
/-! lists for some of its tuples -/
mutual
inductive Lo : AD → AD → Prop
  | same {d} : d.isTup = false → Lo d d
  | tup {b xs ys} : LoAll xs ys → Lo (.seq true xs) (.seq b ys)
inductive LoAll : List AD → List AD → Prop
  | nil : LoAll [] []
  | cons {d e ds es} : Lo d e → LoAll ds es → LoAll (d :: ds) (e :: es)
end
theorem LoAll.app : ∀ {a b c d : List AD}, LoAll a b → LoAll c d → LoAll (a ++ c) (b ++ d)
  | _, _, _, _, .nil, h => h
  | _, _, _, _, .cons x y, h => .cons x (y.app h)
theorem AD.szs_app : ∀ a b : List AD, AD.szs (a ++ b) = AD.szs a + AD.szs b
  | [], b => by rw [List.nil_append, AD.szs, Nat.zero_add]
  | x :: r, b => by rw [List.cons_append, AD.szs, AD.szs, szs_app r b, Nat.add_assoc]
theorem AD.sz_pos (d : AD) : 0 < d.sz := by
  cases d <;> simp [AD.sz]
theorem AD.len_szs : ∀ a : List AD, a.length ≤ AD.szs a
  | [] => by simp
  | x :: r => by
    have := AD.sz_pos x
    have := AD.len_szs r
    rw [List.length_cons, AD.szs]
    omega
theorem AD.szs_at : ∀ {a : List AD} {i : Nat} {d : AD}, a[i]? = some d → AD.szs (a.take i) + d.sz ≤ AD.szs a
  | x :: r, 0, d, e => by
    cases e
    rw [List.take_zero, AD.szs, AD.szs]
    omega
  | x :: r, i + 1, d, e => by
    have := AD.szs_at (a := r) (i := i) e
    rw [List.take_succ_cons, AD.szs, AD.szs]
    omega
end GB
set_option Elab.async false
set_option linter.all false
set_option autoImplicit false
set_option maxRecDepth 100000
set_option maxHeartbeats 8000000
namespace GB
open PySem PySem.Spec L2 K39 K39t
theorem layP {H : Hp} {p a : Addr} {n : Nat} {o : HO} (P : PoolIs H p n) (na : H a = none) : ∃ H', Same H H' ∧ Same (hid [p] H) (hid [p] H') ∧ hid [p] H' a = some o ∧ upd H a o = H' := by
  obtain ⟨H', s, h, e⟩ := lay (o := o) na
  exact ⟨H', s, hid_same s, hid_to (ni1 (P.ne na)) h, e⟩
theorem BadFn.mono {K : PySem.W.Frag} {H H' : Hp} {L : List (Str × Nat)} {z : Nat} {x : V} (s : Same H H') (h : BadFn K H L z x) : BadFn K H' L z x := by
  cases h with
  | no h1 h2 => exact .no (fun J sJ => h1 J (s.trans sJ)) h2
  | len h1 h2 h3 => exact .len (h1.mono s) h2 h3
  | name h1 h2 => exact .name (h1.mono s) (h2.mono s)
  | had h1 h2 h3 h4 => exact .had (h1.mono s) h2 h3 h4
  | names h1 h2 h3 h4 h5 => exact .names (h1.mono s) h2 h3 h4 (h5.mono s)
  | many h1 h2 h3 h4 h5 h6 h7 h8 h9 => exact .many (h1.mono s) h2 h3 h4 (h5.mono s) h6 h7 h8 h9
  | body h1 h2 h3 h4 h5 h6 h7 h8 h9 => exact .body (h1.mono s) h2 h3 h4 (h5.mono s) h6 h7 h8 (fun J sJ => h9 J (s.trans sJ))
/-- all of them are no functions -/
def BadAll (K : PySem.W.Frag) (H : Hp) (L : List (Str × Nat)) (xs : List V) : Prop := ∀ v ∈ xs, BadFn K H L 4 v
theorem BadAll.mono {K : PySem.W.Frag} {H H' : Hp} {L : List (Str × Nat)} {xs : List V} (A : BadAll K H L xs) (s : Same H H') : BadAll K H' L xs := fun v hv => BadFn.mono s (A v hv)
theorem BadAll.app {K : PySem.W.Frag} {H : Hp} {L : List (Str × Nat)} {xs ys : List V} (A : BadAll K H L xs) (B : BadAll K H L ys) : BadAll K H L (xs ++ ys) := fun v hv => (List.mem_append.mp hv).elim (A v) (B v)
theorem BadAll.snoc {K : PySem.W.Frag} {H : Hp} {L : List (Str × Nat)} {xs : List V} {v : V} (A : BadAll K H L xs) (b : BadFn K H L 4 v) : BadAll K H L (xs ++ [v]) := A.app fun u hu => by rw [List.mem_singleton.mp hu]; exact b
def rLenA (K : PySem.W.Frag) : List V → Hp → VK → Prop := fun xs H Q => ∃ p ys, xs = [.ref p] ∧ (SqL K H p ys ∨ SqT K H p ys) ∧ Q (.int ys.length) H
theorem call_lenA {X : Cx} : CallR X (.builtin "len") (rLenA X.K) := call_len_seq
theorem tw_pool {H H' : Hp} {p : Addr} {n : Nat} (P : PoolIs H p n) (s : Same H H') : TW H (hid [p] H') := fun b o e i => hid_to (ni1 fun z => by
  obtain ⟨a1, b1, c1, h, _⟩ := P.ex
  rw [z, h] at e
  cases e
  cases i) (s _ _ e)
theorem funT_hid {K : PySem.W.Frag} {H H' : Hp} {p : Addr} {n : Nat} (P : PoolIs H p n) (s : Same H H') {f : FnD} {t : Addr} (h : FunT K H f t) : FunT K (hid [p] H') f t := funT_tw (tw_pool P s) h
theorem repA_ok {K : PySem.W.Frag} {H : Hp} {p b : Addr} {n : Nat} {v : V} {k : Nat} {Q : VK} (P : PoolIs H p n) (hb : SqT K (hid [p] H) b [v]) (h1 : 1 ≤ k) (h2 : k ≤ 3) (q : ∀ r H', Same H H' → Same (hid [p] H) (hid [p] H') → PoolIs H' p n → SqT K (hid [p] H') r (List.replicate k v) → Q (.ref r) H') : rRepA K (.ref b) (.int (k : Int)) H Q := by
  have hb' := Same.seqT (hid_low _ _) hb
  by_cases k1 : k = 1
  · subst k1
    exact .inl ⟨b, 1, [v], rfl, rfl, hb', by simp, .inr rfl, fun _ => q b H (Same.refl _) (Same.refl _) P hb, fun z => absurd z (by decide)⟩
  · refine .inr ⟨b, (k : Int), [v], rfl, rfl, hb', by simp, by omega, by omega, by simp, fun c nc => ?_⟩
    obtain ⟨HN, sN, tN, kc, ec⟩ := layP (o := .tup (List.replicate k v)) P nc
    have e : (List.replicate ((k : Int)).toNat [v]).flatten = List.replicate k v := by rw [Int.toNat_natCast]; exact rep1 k v
    rw [e, ec]
    exact q c HN sN tN (P.mono sN (Nat.le_refl _)) (SqT.of kc)
theorem hid2_upd {H : Hp} {p D : Addr} {o : HO} : Same (hid [D] (hid [p] H)) (hid [D] (hid [p] (upd H D o))) := fun b u e => by
  obtain ⟨e1, m1⟩ := hid_in e
  obtain ⟨e2, m2⟩ := hid_in e1
  exact hid_to m1 (hid_to m2 (by rw [upd_ne fun z => m1 (List.mem_singleton.mpr z)]; exact e2))
theorem nameB_len {s : Str} (h : nameB s = true) : s.length ≤ 8 := by
  unfold nameB at h
  have := (Bool.and_eq_true_iff.mp h).1
  exact (of_decide_eq_true this).2
end GB
namespace K39
open PySem PySem.Spec L2 GB K39t
abbrev sOd : Stmt := topS 51
def odN : List Str := ["_law_pool_here", "_law_g", "_law_rows", "_law_x", "_law_one_here", "_law_odd_here", "_law_name", "_law_names", "_law_body"]
def spOd (K : PySem.W.Frag) : Sp := fun vs H Q _ => ∃ (p g F : Addr) (gd : GD) (fs : List FnD) (ts : List Addr) (n : Nat), vs = [.ref p, .ref g, .ref F] ∧ IsG (hid [p] H) g gd ∧ Gd3 gd ∧ H F = some (.lst (ts.map V.ref)) ∧ Paired (FunT K H) fs ts ∧ LibD gd fs ∧ PoolIs H p n ∧ n + 1 ≤ 1000000 ∧
  ∀ v H', Bt [p] H H' → BadFn K (hid [p] H') (gd.wide (pre fs)).letters 4 v → PoolIs H' p (n + 1) → Q v H'
section
variable {P : Program} {w : World} {K : PySem.W.Frag} {mg : Str → Option Value} {base : Heap}
theorem scOd : FnScope odN ["_law_pool_here", "_law_g", "_law_rows"] (defScope sOd) := ⟨rfl, rfl, rfl, by decide +kernel, rfl, by decide +kernel, by decide +kernel⟩
theorem ok_od {f : Addr} {fd : FuncData} (F : Fun K "_law_odd" "_law_odd" sOd f fd) (T : Bl mg) (ON : Fns P w K mg base "_law_one" 2 ["_law_pool_here", "_law_things"] (spOne K)) : FnOk P w K mg base CX0 3 f fd ["_law_pool_here", "_law_g", "_law_rows"] (spOd K) := by
  refine F.ok scOd (fun vs H Q E h => ?_) (fun cdv A outer s H vs Q E hr h => ?_)
  · obtain ⟨p, g, F, gd, fs, ts, n, rfl, _⟩ := h
    rfl
  · obtain ⟨p, g, Fa, gd, fs, ts, n, rfl, hG, g3, hF, hft, lib, hP, hn, q⟩ := h
    refine ⟨_, pss_cons (ps_asg (pe_tup (pa_cons (pe_ix ix_list (pe_callTy (call_listD rfl) (by rfl) T.list (by decide +kernel) (pa_cons (pe_dget (hu_of hr) (pv 1) pe_str (fun _ _ => rfl)) pa_nil)) pe_int (fun _ _ => rfl)) (pa_cons (pe_tup (pa_cons (pe_str) (pa_cons (pe_str) (pa_nil)))) (pa_nil)))) (pg_tup rfl (pgs_cons (pg_name (i := 3) scOd.nd rfl (.inl rfl)) (pgs_cons (pg_name (i := 4) scOd.nd rfl (.inr rfl)) (pgs_nil))))) (pss_cons (ps_set (i := 5) scOd.nd rfl (.inl rfl) (pe_lst (pa_cons (pe_non) (pa_cons (pe_int) (pa_cons (pe_str) (pa_cons (pe_tup (pa_nil)) (pa_cons (pe_tup (pa_cons (pe_str) (pa_nil))) (pa_cons (pe_tup (pa_cons (pe_str) (pa_cons (pe_tup (pa_nil)) (pa_nil)))) (pa_cons (pe_tup (pa_cons (pe_str) (pa_cons (pe_tup (pa_nil)) (pa_cons (pe_non) (pa_nil))))) (pa_cons (pe_tup (pa_cons (pv 3) (pa_cons (pe_tup (pa_nil)) (pa_cons (pv 4) (pa_nil))))) (pa_cons (pe_tup (pa_cons (pe_str) (pa_cons (pe_tup (pa_cons (pe_str) (pa_cons (pe_str) (pa_nil)))) (pa_cons (pv 4) (pa_nil))))) (pa_cons (pe_dnewK) (pa_cons (pe_bl) (pa_nil)))))))))))))) (pss_cons (ps_set (i := 5) scOd.nd rfl (.inl rfl) (pe_op op_cat (pv 5) (pe_lst (pa_cons (pe_tup (pa_cons (pe_str) (pa_cons (pe_tup (pa_cons (pe_str) (pa_cons (pe_str) (pa_cons (pe_str) (pa_nil))))) (pa_cons (pv 4) (pa_nil))))) (pa_cons (pe_tup (pa_cons (pe_str) (pa_cons (pe_non) (pa_cons (pv 4) (pa_nil))))) (pa_cons (pe_tup (pa_cons (pe_str) (pa_cons (pe_str) (pa_cons (pv 4) (pa_nil))))) (pa_cons (pe_tup (pa_cons (pe_str) (pa_cons (pe_tup (pa_cons (pe_str) (pa_nil))) (pa_cons (pv 4) (pa_nil))))) (pa_cons (pe_tup (pa_cons (pe_str) (pa_cons (pe_tup (pa_nil)) (pa_cons (pv 4) (pa_nil))))) (pa_nil))))))))) (pss_cons (ps_set (i := 5) scOd.nd rfl (.inl rfl) (pe_op op_cat (pv 5) (pe_lst (pa_cons (pe_tup (pa_cons (pe_str) (pa_cons (pe_tup (pa_cons (pe_str) (pa_nil))) (pa_cons (pe_tup (pa_cons (pe_str) (pa_cons (pe_str) (pa_nil)))) (pa_nil))))) (pa_cons (pe_tup (pa_cons (pe_str) (pa_cons (pe_tup (pa_nil)) (pa_cons (pe_tup (pa_cons (pe_str) (pa_cons (pe_str) (pa_cons (pe_tup (pa_nil)) (pa_nil))))) (pa_nil))))) (pa_cons (pe_tup (pa_cons (pe_str) (pa_cons (pe_tup (pa_nil)) (pa_cons (pv 4) (pa_cons (pv 4) (pa_nil)))))) (pa_cons (pe_tup (pa_cons (pe_lst (pa_cons (pe_str) (pa_nil))) (pa_cons (pe_tup (pa_nil)) (pa_cons (pv 4) (pa_nil))))) (pa_nil)))))))) (pss_cons (ps_set (i := 5) scOd.nd rfl (.inl rfl) (pe_op op_cat (pe_op op_cat (pv 5) (pe_lst (pa_cons (pe_tup (pa_cons (pe_str) (pa_cons (pe_tup (pa_nil)) (pa_cons (pe_tup (pa_cons (pe_str) (pa_cons (pe_str) (pa_cons (pe_tup (pa_nil)) (pa_nil))))) (pa_nil))))) (pa_nil)))) (pe_lc (own := [("_law_name", 6), ("_law_names", 7), ("_law_body", 8)]) (g := gTup K 3 (gCons (gName 6) (gCons (gName 7) (gCons (gName 8) (gNil))))) (tt := tYes) rfl scOd.nd (pi_seqW (pv 2)) (blkOk_by (own := [("_law_name", 6), ("_law_names", 7), ("_law_body", 8)]) (N := odN) (sc := defScope sOd) (by decide +kernel)) (fun _ _ _ _ _ => pg_tup rfl (pgs_cons (pg_name (i := 6) scOd.nd rfl (.inl rfl)) (pgs_cons (pg_name (i := 7) scOd.nd rfl (.inl rfl)) (pgs_cons (pg_name (i := 8) scOd.nd rfl (.inl rfl)) (pgs_nil))))) (fun _ _ _ _ _ => pts_nil) (fun _ _ _ _ _ => pe_tup (pa_cons (pv 6) (pa_cons (pe_tup (pa_nil)) (pa_cons (pv 4) (pa_nil)))))))) (pss_cons (ps_set (i := 5) scOd.nd rfl (.inl rfl) (pe_op op_cat (pv 5) (pe_lc (own := [("_law_name", 6), ("_law_names", 7), ("_law_body", 8)]) (g := gTup K 3 (gCons (gName 6) (gCons (gName 7) (gCons (gName 8) (gNil))))) (tt := tYes) rfl scOd.nd (pi_seqW (pv 2)) (blkOk_by (own := [("_law_name", 6), ("_law_names", 7), ("_law_body", 8)]) (N := odN) (sc := defScope sOd) (by decide +kernel)) (fun _ _ _ _ _ => pg_tup rfl (pgs_cons (pg_name (i := 6) scOd.nd rfl (.inl rfl)) (pgs_cons (pg_name (i := 7) scOd.nd rfl (.inl rfl)) (pgs_cons (pg_name (i := 8) scOd.nd rfl (.inl rfl)) (pgs_nil))))) (fun _ _ _ _ _ => pts_nil) (fun _ _ _ _ _ => pe_tup (pa_cons (pe_str) (pa_cons (pe_tup (pa_nil)) (pa_cons (pe_tup (pa_cons (pe_str) (pa_cons (pv 6) (pa_cons (pe_op (r := rRepA K) op_repA (pe_tup (pa_cons (pv 4) pa_nil)) (pe_op (r := rI0 fun i j => .int (i + j)) op_add (pe_callB (r := rLenA K) call_lenA (by rfl) T.len PySem.boot_len (pa_cons (pv 7) pa_nil)) pe_int)) (pa_nil))))) (pa_nil)))))))) (pss_one (ps_ret (pe_fn ON hr (by decide) rfl (pa_cons (pv 0) (pa_cons (pv 5) (pa_nil))))))))))), ?_⟩
    clear hr ON T F
    obtain ⟨LL, hLL⟩ : ∃ LL, LL = (gd.wide (pre fs)).letters := ⟨_, rfl⟩
    have WfW := g3.wide lib.nm lib.nd fun f hf => (lib.bn f hf).2.2
    have nmL : ∀ x ∈ LL.map (·.1), x ∈ nmA := fun x hx => by
      obtain ⟨q, hq, rfl⟩ := List.mem_map.mp hx
      exact WfW.nm q (hLL ▸ hq)
    have ng : ("g" : Str) ∉ LL.map (·.1) := fun m => absurd (nmL _ m) (by decide +kernel)
    have nl : ("later" : Str) ∉ LL.map (·.1) := fun m => absurd (nmL _ m) (by decide +kernel)
    obtain ⟨⟨x0, k0⟩, r0, hl0⟩ : ∃ q r, gd.letters = q :: r := by
      cases h : gd.letters with
      | nil => exact absurd h g3.wf.ne
      | cons q r => exact ⟨q, r, rfl⟩
    have xm : x0 ∈ LL.map (·.1) := by
      rw [hLL]
      unfold GD.wide
      rw [hl0]
      simp
    have xn : nameB x0 = true := (show ∀ x ∈ nmA, nameB x = true by decide +kernel) _ (nmL _ xm)
    have xl := nameB_len xn
    have xl : x0.length ≤ sizeLine := by rw [sizeLine_eq]; omega
    have at0 : atI ((lkv gd.letters).map fun kv => kV kv.1) 0 = some (.str x0) := by
      rw [hl0]
      exact atI_nat (j := 0) rfl
    obtain ⟨aL, aF, aC, aT, g1, g2, k3, k4, k5⟩ := hG.ex
    have vL : valV (gdk aL aF aC aT) (.inr "letters" : Key) = some (.ref aL) := valV_pos rfl
    refine ⟨_, rfl, g, .ref aL, rfl, by rw [← vL]; exact DGet.k (k := .inr "letters") (hid_in g1).1, aL, _, rfl, .inl (hid_in g2).1, fun l nl0 => ?_⟩
    obtain ⟨HN, sN, tN, kl, el⟩ := layP (o := .lst ((lkv gd.letters).map fun kv => kV kv.1)) hP nl0
    rw [el]
    have P := hP.mono sN (Nat.le_refl _)
    have S := sN
    have T := tN
    clear sN tN el nl0
    refine ⟨l, _, 0, .str x0, rfl, rfl, SqL.of (hid_in kl).1, at0, ?_⟩
    clear kl
    refine ⟨by show 2 ≤ sizeLine; decide, fun o1 no1 => ?_⟩
    obtain ⟨HN, sN, tN, ko1, eo1⟩ := layP (o := .tup [.str "value", .str "one"]) P no1
    rw [eo1]
    replace P := P.mono sN (Nat.le_refl _)
    replace S := S.trans sN
    replace T := T.trans tN
    clear sN tN eo1 no1
    refine ⟨by show 2 ≤ sizeLine; decide, fun tp ntp => ?_⟩
    obtain ⟨HN, sN, tN, ktp, etp⟩ := layP (o := .tup [.str x0, .ref o1]) P ntp
    rw [etp]
    replace P := P.mono sN (Nat.le_refl _)
    replace S := S.trans sN
    replace T := T.trans tN
    replace ko1 := tN _ _ ko1
    clear sN tN etp ntp
    refine ⟨tp, [.str x0, .ref o1], rfl, SqT.of (hid_in ktp).1, rfl, .str x0, [.ref o1], rfl, .ref o1, [], rfl, rfl, ?_⟩
    clear ktp
    have A : BadAll K (hid [p] HN) LL [] := fun v hv => nomatch hv
    replace A := A.snoc (.no (AdAt.ty .non) (kit_sq .non))
    replace A := A.snoc (.no (AdAt.ty (.int 5)) (kit_sq (.int 5)))
    replace A := A.snoc (.no (AdAt.ty (.str "abc")) (kit_sq (.str "abc")))
    refine ⟨by show 0 ≤ sizeLine; decide, fun a1 na1 => ?_⟩
    obtain ⟨HN, sN, tN, ka1, ea1⟩ := layP (o := .tup []) P na1
    rw [ea1]
    replace P := P.mono sN (Nat.le_refl _)
    replace S := S.trans sN
    replace T := T.trans tN
    replace A := A.mono tN
    replace ko1 := tN _ _ ko1
    clear sN tN ea1 na1
    replace A := A.snoc (.len (.inr (SqT.of ka1)) (by show 0 ≠ 3; decide) (by show 0 ≤ 1000; decide))
    clear ka1
    refine ⟨by show 1 ≤ sizeLine; decide, fun a2 na2 => ?_⟩
    obtain ⟨HN, sN, tN, ka2, ea2⟩ := layP (o := .tup [.str "g"]) P na2
    rw [ea2]
    replace P := P.mono sN (Nat.le_refl _)
    replace S := S.trans sN
    replace T := T.trans tN
    replace A := A.mono tN
    replace ko1 := tN _ _ ko1
    clear sN tN ea2 na2
    replace A := A.snoc (.len (.inr (SqT.of ka2)) (by show 1 ≠ 3; decide) (by show 1 ≤ 1000; decide))
    clear ka2
    refine ⟨by show 0 ≤ sizeLine; decide, fun a4 na4 => ?_⟩
    obtain ⟨HN, sN, tN, ka4, ea4⟩ := layP (o := .tup []) P na4
    rw [ea4]
    replace P := P.mono sN (Nat.le_refl _)
    replace S := S.trans sN
    replace T := T.trans tN
    replace A := A.mono tN
    replace ko1 := tN _ _ ko1
    clear sN tN ea4 na4
    refine ⟨by show 2 ≤ sizeLine; decide, fun a3 na3 => ?_⟩
    obtain ⟨HN, sN, tN, ka3, ea3⟩ := layP (o := .tup [.str "g", .ref a4]) P na3
    rw [ea3]
    replace P := P.mono sN (Nat.le_refl _)
    replace S := S.trans sN
    replace T := T.trans tN
    replace A := A.mono tN
    replace ko1 := tN _ _ ko1
    replace ka4 := tN _ _ ka4
    clear sN tN ea3 na3
    replace A := A.snoc (.len (.inr (SqT.of ka3)) (by show 2 ≠ 3; decide) (by show 2 ≤ 1000; decide))
    clear ka4
    clear ka3
    refine ⟨by show 0 ≤ sizeLine; decide, fun a6 na6 => ?_⟩
    obtain ⟨HN, sN, tN, ka6, ea6⟩ := layP (o := .tup []) P na6
    rw [ea6]
    replace P := P.mono sN (Nat.le_refl _)
    replace S := S.trans sN
    replace T := T.trans tN
    replace A := A.mono tN
    replace ko1 := tN _ _ ko1
    clear sN tN ea6 na6
    refine ⟨by show 3 ≤ sizeLine; decide, fun a5 na5 => ?_⟩
    obtain ⟨HN, sN, tN, ka5, ea5⟩ := layP (o := .tup [.str "g", .ref a6, .non]) P na5
    rw [ea5]
    replace P := P.mono sN (Nat.le_refl _)
    replace S := S.trans sN
    replace T := T.trans tN
    replace A := A.mono tN
    replace ko1 := tN _ _ ko1
    replace ka6 := tN _ _ ka6
    clear sN tN ea5 na5
    replace A := A.snoc (.body (ns := []) (.inr (SqT.of ka5)) (by decide +kernel) (by decide +kernel) ng (.inr (SqT.of ka6)) (fun m hm => nomatch hm) .nil (by decide) (fun H' s => .odd (.flat (AdAt.ty .non) (kit_sq .non))))
    clear ka6
    clear ka5
    refine ⟨_, rfl, ?_⟩
    refine ⟨by show 0 ≤ sizeLine; decide, fun a8 na8 => ?_⟩
    obtain ⟨HN, sN, tN, ka8, ea8⟩ := layP (o := .tup []) P na8
    rw [ea8]
    replace P := P.mono sN (Nat.le_refl _)
    replace S := S.trans sN
    replace T := T.trans tN
    replace A := A.mono tN
    replace ko1 := tN _ _ ko1
    clear sN tN ea8 na8
    refine ⟨_, rfl, ?_⟩
    refine ⟨by show 3 ≤ sizeLine; decide, fun a7 na7 => ?_⟩
    obtain ⟨HN, sN, tN, ka7, ea7⟩ := layP (o := .tup [.str x0, .ref a8, .ref o1]) P na7
    rw [ea7]
    replace P := P.mono sN (Nat.le_refl _)
    replace S := S.trans sN
    replace T := T.trans tN
    replace A := A.mono tN
    replace ko1 := tN _ _ ko1
    replace ka8 := tN _ _ ka8
    clear sN tN ea7 na7
    replace A := A.snoc (.had (.inr (SqT.of ka7)) xn (by have := xl; omega) xm)
    clear ka8
    clear ka7
    refine ⟨by show 2 ≤ sizeLine; decide, fun a10 na10 => ?_⟩
    obtain ⟨HN, sN, tN, ka10, ea10⟩ := layP (o := .tup [.str "p", .str "p"]) P na10
    rw [ea10]
    replace P := P.mono sN (Nat.le_refl _)
    replace S := S.trans sN
    replace T := T.trans tN
    replace A := A.mono tN
    replace ko1 := tN _ _ ko1
    clear sN tN ea10 na10
    refine ⟨_, rfl, ?_⟩
    refine ⟨by show 3 ≤ sizeLine; decide, fun a9 na9 => ?_⟩
    obtain ⟨HN, sN, tN, ka9, ea9⟩ := layP (o := .tup [.str "g", .ref a10, .ref o1]) P na9
    rw [ea9]
    replace P := P.mono sN (Nat.le_refl _)
    replace S := S.trans sN
    replace T := T.trans tN
    replace A := A.mono tN
    replace ko1 := tN _ _ ko1
    replace ka10 := tN _ _ ka10
    clear sN tN ea9 na9
    replace A := A.snoc (.names (.inr (SqT.of ka9)) (by decide +kernel) (by decide +kernel) ng (.inr (.inl ⟨_, ["p", "p"], rfl, (.inr (SqT.of ka10)), by decide, by decide +kernel, by decide⟩)))
    clear ka10
    clear ka9
    intro a11 na11
    obtain ⟨HN, sN, tN, ka11, ea11⟩ := layP (o := .dK []) P na11
    rw [ea11]
    replace P := P.mono sN (Nat.le_refl _)
    replace S := S.trans sN
    replace T := T.trans tN
    replace A := A.mono tN
    replace ko1 := tN _ _ ko1
    clear sN tN ea11 na11
    replace A := A.snoc (.no (AdAt.ty (.dic ka11)) (kit_sq .dic))
    clear ka11
    replace A := A.snoc (.no (AdAt.ty (.bl true)) (kit_sq (.bl true)))
    refine ⟨by show 11 ≤ sizeLine; decide, fun l1 nl1 => ?_⟩
    obtain ⟨HN, sN, tN, kl1, el1⟩ := layP (o := .lst [.non, .int 5, .str "abc", .ref a1, .ref a2, .ref a3, .ref a5, .ref a7, .ref a9, .ref a11, .bl true]) P nl1
    rw [el1]
    replace P := P.mono sN (Nat.le_refl _)
    replace S := S.trans sN
    replace T := T.trans tN
    replace A := A.mono tN
    replace ko1 := tN _ _ ko1
    clear sN tN el1 nl1
    have AT := A
    clear A
    refine ⟨_, rfl, ?_⟩
    have A : BadAll K (hid [p] HN) LL [] := fun v hv => nomatch hv
    refine ⟨by show 3 ≤ sizeLine; decide, fun a13 na13 => ?_⟩
    obtain ⟨HN, sN, tN, ka13, ea13⟩ := layP (o := .tup [.str "p", .str "q", .str "r"]) P na13
    rw [ea13]
    replace P := P.mono sN (Nat.le_refl _)
    replace S := S.trans sN
    replace T := T.trans tN
    replace AT := AT.mono tN
    replace A := A.mono tN
    replace ko1 := tN _ _ ko1
    replace kl1 := tN _ _ kl1
    clear sN tN ea13 na13
    refine ⟨_, rfl, ?_⟩
    refine ⟨by show 3 ≤ sizeLine; decide, fun a12 na12 => ?_⟩
    obtain ⟨HN, sN, tN, ka12, ea12⟩ := layP (o := .tup [.str "g", .ref a13, .ref o1]) P na12
    rw [ea12]
    replace P := P.mono sN (Nat.le_refl _)
    replace S := S.trans sN
    replace T := T.trans tN
    replace AT := AT.mono tN
    replace A := A.mono tN
    replace ko1 := tN _ _ ko1
    replace kl1 := tN _ _ kl1
    replace ka13 := tN _ _ ka13
    clear sN tN ea12 na12
    replace A := A.snoc (.many (ns := ["p", "q", "r"]) (.inr (SqT.of ka12)) (by decide +kernel) (by decide +kernel) ng (.inr (SqT.of ka13)) (by decide +kernel) (by decide) (by decide) (by decide))
    clear ka13
    clear ka12
    refine ⟨_, rfl, ?_⟩
    refine ⟨by show 3 ≤ sizeLine; decide, fun a14 na14 => ?_⟩
    obtain ⟨HN, sN, tN, ka14, ea14⟩ := layP (o := .tup [.str "g", .non, .ref o1]) P na14
    rw [ea14]
    replace P := P.mono sN (Nat.le_refl _)
    replace S := S.trans sN
    replace T := T.trans tN
    replace AT := AT.mono tN
    replace A := A.mono tN
    replace ko1 := tN _ _ ko1
    replace kl1 := tN _ _ kl1
    clear sN tN ea14 na14
    replace A := A.snoc (.names (.inr (SqT.of ka14)) (by decide +kernel) (by decide +kernel) ng (.inr (.inr ⟨_, AdAt.ty .non, kit_sq .non⟩)))
    clear ka14
    refine ⟨_, rfl, ?_⟩
    refine ⟨by show 3 ≤ sizeLine; decide, fun a15 na15 => ?_⟩
    obtain ⟨HN, sN, tN, ka15, ea15⟩ := layP (o := .tup [.str "g", .str "p", .ref o1]) P na15
    rw [ea15]
    replace P := P.mono sN (Nat.le_refl _)
    replace S := S.trans sN
    replace T := T.trans tN
    replace AT := AT.mono tN
    replace A := A.mono tN
    replace ko1 := tN _ _ ko1
    replace kl1 := tN _ _ kl1
    clear sN tN ea15 na15
    replace A := A.snoc (.names (.inr (SqT.of ka15)) (by decide +kernel) (by decide +kernel) ng (.inr (.inr ⟨_, AdAt.ty (.str "p"), kit_sq (.str "p")⟩)))
    clear ka15
    refine ⟨by show 1 ≤ sizeLine; decide, fun a17 na17 => ?_⟩
    obtain ⟨HN, sN, tN, ka17, ea17⟩ := layP (o := .tup [.str "P"]) P na17
    rw [ea17]
    replace P := P.mono sN (Nat.le_refl _)
    replace S := S.trans sN
    replace T := T.trans tN
    replace AT := AT.mono tN
    replace A := A.mono tN
    replace ko1 := tN _ _ ko1
    replace kl1 := tN _ _ kl1
    clear sN tN ea17 na17
    refine ⟨_, rfl, ?_⟩
    refine ⟨by show 3 ≤ sizeLine; decide, fun a16 na16 => ?_⟩
    obtain ⟨HN, sN, tN, ka16, ea16⟩ := layP (o := .tup [.str "g", .ref a17, .ref o1]) P na16
    rw [ea16]
    replace P := P.mono sN (Nat.le_refl _)
    replace S := S.trans sN
    replace T := T.trans tN
    replace AT := AT.mono tN
    replace A := A.mono tN
    replace ko1 := tN _ _ ko1
    replace kl1 := tN _ _ kl1
    replace ka17 := tN _ _ ka17
    clear sN tN ea16 na16
    replace A := A.snoc (.names (.inr (SqT.of ka16)) (by decide +kernel) (by decide +kernel) ng (.inl ⟨_, _, [false], rfl, (.inr (SqT.of ka17)), by decide, .cons (.inl ⟨"P", rfl, by decide +kernel, by decide +kernel⟩) .nil, rfl⟩))
    clear ka17
    clear ka16
    refine ⟨by show 0 ≤ sizeLine; decide, fun a19 na19 => ?_⟩
    obtain ⟨HN, sN, tN, ka19, ea19⟩ := layP (o := .tup []) P na19
    rw [ea19]
    replace P := P.mono sN (Nat.le_refl _)
    replace S := S.trans sN
    replace T := T.trans tN
    replace AT := AT.mono tN
    replace A := A.mono tN
    replace ko1 := tN _ _ ko1
    replace kl1 := tN _ _ kl1
    clear sN tN ea19 na19
    refine ⟨_, rfl, ?_⟩
    refine ⟨by show 3 ≤ sizeLine; decide, fun a18 na18 => ?_⟩
    obtain ⟨HN, sN, tN, ka18, ea18⟩ := layP (o := .tup [.str "G", .ref a19, .ref o1]) P na18
    rw [ea18]
    replace P := P.mono sN (Nat.le_refl _)
    replace S := S.trans sN
    replace T := T.trans tN
    replace AT := AT.mono tN
    replace A := A.mono tN
    replace ko1 := tN _ _ ko1
    replace kl1 := tN _ _ kl1
    replace ka19 := tN _ _ ka19
    clear sN tN ea18 na18
    replace A := A.snoc (.name (.inr (SqT.of ka18)) (.inl ⟨"G", rfl, by decide +kernel, by decide +kernel⟩))
    clear ka19
    clear ka18
    refine ⟨by show 5 ≤ sizeLine; decide, fun m2 nm2 => ?_⟩
    obtain ⟨HN, sN, tN, km2, em2⟩ := layP (o := .lst [.ref a12, .ref a14, .ref a15, .ref a16, .ref a18]) P nm2
    rw [em2]
    replace P := P.mono sN (Nat.le_refl _)
    replace S := S.trans sN
    replace T := T.trans tN
    replace AT := AT.mono tN
    replace A := A.mono tN
    replace ko1 := tN _ _ ko1
    replace kl1 := tN _ _ kl1
    clear sN tN em2 nm2
    refine ⟨l1, m2, _, _, rfl, rfl, (hid_in kl1).1, (hid_in km2).1, by show 11 + 5 ≤ sizeLine; decide, fun c2 nc2 => ?_⟩
    replace AT := AT.app A
    clear A
    clear kl1 km2
    obtain ⟨HN, sN, tN, kc2, ec2⟩ := layP (o := .lst ([.non, .int 5, .str "abc", .ref a1, .ref a2, .ref a3, .ref a5, .ref a7, .ref a9, .ref a11, .bl true] ++ [.ref a12, .ref a14, .ref a15, .ref a16, .ref a18])) P nc2
    rw [ec2]
    replace P := P.mono sN (Nat.le_refl _)
    replace S := S.trans sN
    replace T := T.trans tN
    replace AT := AT.mono tN
    replace ko1 := tN _ _ ko1
    clear sN tN ec2 nc2
    refine ⟨_, rfl, ?_⟩
    have A : BadAll K (hid [p] HN) LL [] := fun v hv => nomatch hv
    refine ⟨by show 1 ≤ sizeLine; decide, fun a21 na21 => ?_⟩
    obtain ⟨HN, sN, tN, ka21, ea21⟩ := layP (o := .tup [.str "p"]) P na21
    rw [ea21]
    replace P := P.mono sN (Nat.le_refl _)
    replace S := S.trans sN
    replace T := T.trans tN
    replace AT := AT.mono tN
    replace A := A.mono tN
    replace ko1 := tN _ _ ko1
    replace kc2 := tN _ _ kc2
    clear sN tN ea21 na21
    refine ⟨by show 2 ≤ sizeLine; decide, fun a22 na22 => ?_⟩
    obtain ⟨HN, sN, tN, ka22, ea22⟩ := layP (o := .tup [.str "name", .str "q"]) P na22
    rw [ea22]
    replace P := P.mono sN (Nat.le_refl _)
    replace S := S.trans sN
    replace T := T.trans tN
    replace AT := AT.mono tN
    replace A := A.mono tN
    replace ko1 := tN _ _ ko1
    replace kc2 := tN _ _ kc2
    replace ka21 := tN _ _ ka21
    clear sN tN ea22 na22
    refine ⟨by show 3 ≤ sizeLine; decide, fun a20 na20 => ?_⟩
    obtain ⟨HN, sN, tN, ka20, ea20⟩ := layP (o := .tup [.str "g", .ref a21, .ref a22]) P na20
    rw [ea20]
    replace P := P.mono sN (Nat.le_refl _)
    replace S := S.trans sN
    replace T := T.trans tN
    replace AT := AT.mono tN
    replace A := A.mono tN
    replace ko1 := tN _ _ ko1
    replace kc2 := tN _ _ kc2
    replace ka21 := tN _ _ ka21
    replace ka22 := tN _ _ ka22
    clear sN tN ea20 na20
    replace A := A.snoc (.body (ns := ["p"]) (.inr (SqT.of ka20)) (by decide +kernel) (by decide +kernel) ng (.inr (SqT.of ka21)) (by decide +kernel) (by decide) (by decide) (fun H' s => .odd (.free (.inr (SqT.of (s _ _ ka22))) (by decide +kernel) (by decide))))
    clear ka21
    clear ka22
    clear ka20
    refine ⟨by show 0 ≤ sizeLine; decide, fun a24 na24 => ?_⟩
    obtain ⟨HN, sN, tN, ka24, ea24⟩ := layP (o := .tup []) P na24
    rw [ea24]
    replace P := P.mono sN (Nat.le_refl _)
    replace S := S.trans sN
    replace T := T.trans tN
    replace AT := AT.mono tN
    replace A := A.mono tN
    replace ko1 := tN _ _ ko1
    replace kc2 := tN _ _ kc2
    clear sN tN ea24 na24
    refine ⟨by show 0 ≤ sizeLine; decide, fun a26 na26 => ?_⟩
    obtain ⟨HN, sN, tN, ka26, ea26⟩ := layP (o := .tup []) P na26
    rw [ea26]
    replace P := P.mono sN (Nat.le_refl _)
    replace S := S.trans sN
    replace T := T.trans tN
    replace AT := AT.mono tN
    replace A := A.mono tN
    replace ko1 := tN _ _ ko1
    replace kc2 := tN _ _ kc2
    replace ka24 := tN _ _ ka24
    clear sN tN ea26 na26
    refine ⟨by show 3 ≤ sizeLine; decide, fun a25 na25 => ?_⟩
    obtain ⟨HN, sN, tN, ka25, ea25⟩ := layP (o := .tup [.str "use", .str "later", .ref a26]) P na25
    rw [ea25]
    replace P := P.mono sN (Nat.le_refl _)
    replace S := S.trans sN
    replace T := T.trans tN
    replace AT := AT.mono tN
    replace A := A.mono tN
    replace ko1 := tN _ _ ko1
    replace kc2 := tN _ _ kc2
    replace ka24 := tN _ _ ka24
    replace ka26 := tN _ _ ka26
    clear sN tN ea25 na25
    refine ⟨by show 3 ≤ sizeLine; decide, fun a23 na23 => ?_⟩
    obtain ⟨HN, sN, tN, ka23, ea23⟩ := layP (o := .tup [.str "g", .ref a24, .ref a25]) P na23
    rw [ea23]
    replace P := P.mono sN (Nat.le_refl _)
    replace S := S.trans sN
    replace T := T.trans tN
    replace AT := AT.mono tN
    replace A := A.mono tN
    replace ko1 := tN _ _ ko1
    replace kc2 := tN _ _ kc2
    replace ka24 := tN _ _ ka24
    replace ka26 := tN _ _ ka26
    replace ka25 := tN _ _ ka25
    clear sN tN ea23 na23
    replace A := A.snoc (.body (ns := []) (.inr (SqT.of ka23)) (by decide +kernel) (by decide +kernel) ng (.inr (SqT.of ka24)) (fun m hm => nomatch hm) .nil (by decide) (fun H' s => .odd (.use (.name (.inr (SqT.of (s _ _ ka25))) (.str nl) (.seq (.inr (SqT.of (s _ _ ka26))))))))
    clear ka24
    clear ka26
    clear ka25
    clear ka23
    refine ⟨by show 0 ≤ sizeLine; decide, fun a28 na28 => ?_⟩
    obtain ⟨HN, sN, tN, ka28, ea28⟩ := layP (o := .tup []) P na28
    rw [ea28]
    replace P := P.mono sN (Nat.le_refl _)
    replace S := S.trans sN
    replace T := T.trans tN
    replace AT := AT.mono tN
    replace A := A.mono tN
    replace ko1 := tN _ _ ko1
    replace kc2 := tN _ _ kc2
    clear sN tN ea28 na28
    refine ⟨_, rfl, ?_⟩
    refine ⟨_, rfl, ?_⟩
    refine ⟨by show 4 ≤ sizeLine; decide, fun a27 na27 => ?_⟩
    obtain ⟨HN, sN, tN, ka27, ea27⟩ := layP (o := .tup [.str "g", .ref a28, .ref o1, .ref o1]) P na27
    rw [ea27]
    replace P := P.mono sN (Nat.le_refl _)
    replace S := S.trans sN
    replace T := T.trans tN
    replace AT := AT.mono tN
    replace A := A.mono tN
    replace ko1 := tN _ _ ko1
    replace kc2 := tN _ _ kc2
    replace ka28 := tN _ _ ka28
    clear sN tN ea27 na27
    replace A := A.snoc (.len (.inr (SqT.of ka27)) (by show 4 ≠ 3; decide) (by show 4 ≤ 1000; decide))
    clear ka28
    clear ka27
    refine ⟨by show 1 ≤ sizeLine; decide, fun a30 na30 => ?_⟩
    obtain ⟨HN, sN, tN, ka30, ea30⟩ := layP (o := .lst [.str "g"]) P na30
    rw [ea30]
    replace P := P.mono sN (Nat.le_refl _)
    replace S := S.trans sN
    replace T := T.trans tN
    replace AT := AT.mono tN
    replace A := A.mono tN
    replace ko1 := tN _ _ ko1
    replace kc2 := tN _ _ kc2
    clear sN tN ea30 na30
    refine ⟨by show 0 ≤ sizeLine; decide, fun a31 na31 => ?_⟩
    obtain ⟨HN, sN, tN, ka31, ea31⟩ := layP (o := .tup []) P na31
    rw [ea31]
    replace P := P.mono sN (Nat.le_refl _)
    replace S := S.trans sN
    replace T := T.trans tN
    replace AT := AT.mono tN
    replace A := A.mono tN
    replace ko1 := tN _ _ ko1
    replace kc2 := tN _ _ kc2
    replace ka30 := tN _ _ ka30
    clear sN tN ea31 na31
    refine ⟨_, rfl, ?_⟩
    refine ⟨by show 3 ≤ sizeLine; decide, fun a29 na29 => ?_⟩
    obtain ⟨HN, sN, tN, ka29, ea29⟩ := layP (o := .tup [.ref a30, .ref a31, .ref o1]) P na29
    rw [ea29]
    replace P := P.mono sN (Nat.le_refl _)
    replace S := S.trans sN
    replace T := T.trans tN
    replace AT := AT.mono tN
    replace A := A.mono tN
    replace ko1 := tN _ _ ko1
    replace kc2 := tN _ _ kc2
    replace ka30 := tN _ _ ka30
    replace ka31 := tN _ _ ka31
    clear sN tN ea29 na29
    replace A := A.snoc (.name (.inr (SqT.of ka29)) (.inr ⟨rfl, _, tyL (SqL.of ka30), kit_str (.seq false [])⟩))
    clear ka30
    clear ka31
    clear ka29
    refine ⟨by show 4 ≤ sizeLine; decide, fun m3 nm3 => ?_⟩
    obtain ⟨HN, sN, tN, km3, em3⟩ := layP (o := .lst [.ref a20, .ref a23, .ref a27, .ref a29]) P nm3
    rw [em3]
    replace P := P.mono sN (Nat.le_refl _)
    replace S := S.trans sN
    replace T := T.trans tN
    replace AT := AT.mono tN
    replace A := A.mono tN
    replace ko1 := tN _ _ ko1
    replace kc2 := tN _ _ kc2
    clear sN tN em3 nm3
    refine ⟨c2, m3, _, _, rfl, rfl, (hid_in kc2).1, (hid_in km3).1, by show 16 + 4 ≤ sizeLine; decide, fun c3 nc3 => ?_⟩
    replace AT := AT.app A
    clear A
    clear kc2 km3
    obtain ⟨HN, sN, tN, kc3, ec3⟩ := layP (o := .lst (([.non, .int 5, .str "abc", .ref a1, .ref a2, .ref a3, .ref a5, .ref a7, .ref a9, .ref a11, .bl true] ++ [.ref a12, .ref a14, .ref a15, .ref a16, .ref a18]) ++ [.ref a20, .ref a23, .ref a27, .ref a29])) P nc3
    rw [ec3]
    replace P := P.mono sN (Nat.le_refl _)
    replace S := S.trans sN
    replace T := T.trans tN
    replace AT := AT.mono tN
    replace ko1 := tN _ _ ko1
    clear sN tN ec3 nc3
    refine ⟨_, rfl, ?_⟩
    have A : BadAll K (hid [p] HN) LL [] := fun v hv => nomatch hv
    refine ⟨by show 0 ≤ sizeLine; decide, fun a33 na33 => ?_⟩
    obtain ⟨HN, sN, tN, ka33, ea33⟩ := layP (o := .tup []) P na33
    rw [ea33]
    replace P := P.mono sN (Nat.le_refl _)
    replace S := S.trans sN
    replace T := T.trans tN
    replace AT := AT.mono tN
    replace A := A.mono tN
    replace ko1 := tN _ _ ko1
    replace kc3 := tN _ _ kc3
    clear sN tN ea33 na33
    refine ⟨by show 0 ≤ sizeLine; decide, fun a35 na35 => ?_⟩
    obtain ⟨HN, sN, tN, ka35, ea35⟩ := layP (o := .tup []) P na35
    rw [ea35]
    replace P := P.mono sN (Nat.le_refl _)
    replace S := S.trans sN
    replace T := T.trans tN
    replace AT := AT.mono tN
    replace A := A.mono tN
    replace ko1 := tN _ _ ko1
    replace kc3 := tN _ _ kc3
    replace ka33 := tN _ _ ka33
    clear sN tN ea35 na35
    refine ⟨by show 3 ≤ sizeLine; decide, fun a34 na34 => ?_⟩
    obtain ⟨HN, sN, tN, ka34, ea34⟩ := layP (o := .tup [.str "use", .str "g", .ref a35]) P na34
    rw [ea34]
    replace P := P.mono sN (Nat.le_refl _)
    replace S := S.trans sN
    replace T := T.trans tN
    replace AT := AT.mono tN
    replace A := A.mono tN
    replace ko1 := tN _ _ ko1
    replace kc3 := tN _ _ kc3
    replace ka33 := tN _ _ ka33
    replace ka35 := tN _ _ ka35
    clear sN tN ea34 na34
    refine ⟨by show 3 ≤ sizeLine; decide, fun a32 na32 => ?_⟩
    obtain ⟨HN, sN, tN, ka32, ea32⟩ := layP (o := .tup [.str "g", .ref a33, .ref a34]) P na32
    rw [ea32]
    replace P := P.mono sN (Nat.le_refl _)
    replace S := S.trans sN
    replace T := T.trans tN
    replace AT := AT.mono tN
    replace A := A.mono tN
    replace ko1 := tN _ _ ko1
    replace kc3 := tN _ _ kc3
    replace ka33 := tN _ _ ka33
    replace ka35 := tN _ _ ka35
    replace ka34 := tN _ _ ka34
    clear sN tN ea32 na32
    replace A := A.snoc (.body (ns := []) (.inr (SqT.of ka32)) (by decide +kernel) (by decide +kernel) ng (.inr (SqT.of ka33)) (fun m hm => nomatch hm) .nil (by decide) (fun H' s => .odd (.use (.name (.inr (SqT.of (s _ _ ka34))) (.str ng) (.seq (.inr (SqT.of (s _ _ ka35))))))))
    clear ka33
    clear ka35
    clear ka34
    clear ka32
    refine ⟨by show 1 ≤ sizeLine; decide, fun m4 nm4 => ?_⟩
    obtain ⟨HN, sN, tN, km4, em4⟩ := layP (o := .lst [.ref a32]) P nm4
    rw [em4]
    replace P := P.mono sN (Nat.le_refl _)
    replace S := S.trans sN
    replace T := T.trans tN
    replace AT := AT.mono tN
    replace A := A.mono tN
    replace ko1 := tN _ _ ko1
    replace kc3 := tN _ _ kc3
    clear sN tN em4 nm4
    refine ⟨c3, m4, _, _, rfl, rfl, (hid_in kc3).1, (hid_in km4).1, by show 20 + 1 ≤ sizeLine; decide, fun c4 nc4 => ?_⟩
    replace AT := AT.app A
    clear A
    clear kc3 km4
    obtain ⟨HN, sN, tN, kc4, ec4⟩ := layP (o := .lst ((([.non, .int 5, .str "abc", .ref a1, .ref a2, .ref a3, .ref a5, .ref a7, .ref a9, .ref a11, .bl true] ++ [.ref a12, .ref a14, .ref a15, .ref a16, .ref a18]) ++ [.ref a20, .ref a23, .ref a27, .ref a29]) ++ [.ref a32])) P nc4
    rw [ec4]
    replace P := P.mono sN (Nat.le_refl _)
    replace S := S.trans sN
    replace T := T.trans tN
    replace AT := AT.mono tN
    replace ko1 := tN _ _ ko1
    clear sN tN ec4 nc4
    obtain ⟨XS, hXS⟩ : ∃ XS : List V, XS = ((([.non, .int 5, .str "abc", .ref a1, .ref a2, .ref a3, .ref a5, .ref a7, .ref a9, .ref a11, .bl true] ++ [.ref a12, .ref a14, .ref a15, .ref a16, .ref a18]) ++ [.ref a20, .ref a23, .ref a27, .ref a29]) ++ [.ref a32]) := ⟨_, rfl⟩
    have lX : XS.length = 21 := by rw [hXS]; rfl
    rw [← hXS] at kc4
    replace AT : BadAll K (hid [p] HN) LL XS := by rw [hXS]; exact AT
    clear hXS
    rw [show ((((List.set (L2.start odN [V.ref p, V.ref g, V.ref Fa]) 3 (some (V.str x0))).set 4 (some (V.ref o1))).set 5 (some (V.ref l1))).set 5 (some (V.ref c2))).set 5 (some (V.ref c3)) = [some (V.ref p), some (V.ref g), some (V.ref Fa), some (V.str x0), some (V.ref o1), some (V.ref c3), none, none, none] from rfl]
    have lts := Paired.length hft
    have lf4 := lib.len
    have nLL : ∀ f ∈ fs, f.1 ∈ LL.map (·.1) ∧ (f.1, f.2.1.length) ∈ LL := fun f hf => by
      have m : (f.1, f.2.1.length) ∈ LL := by
        rw [hLL]
        unfold GD.wide pre
        rw [List.map_map]
        exact List.mem_append_right _ (List.mem_map.mpr ⟨f, hf, rfl⟩)
      exact ⟨List.mem_map.mpr ⟨_, m, rfl⟩, m⟩
    have nbF : ∀ f ∈ fs, nameB f.1 = true := fun f hf => (show ∀ x ∈ fnNm, nameB x = true by decide +kernel) _ (lib.nm f hf)
    refine ⟨_, rfl, Fa, ts.map V.ref, true, [], rfl, SqL.of (hid_to (by simp) (S _ _ hF)), fun J WJ D nD => ?_⟩
    have Dp := P.ne nD
    refine lc_it WJ (fun i H' => Same HN H' ∧ ∃ acc : List V, acc.length = i ∧ H' D = some (.lst acc) ∧ BadAll K (hid [D] (hid [p] H')) LL acc) ⟨same_new nD, [], rfl, upd_same, fun v hv => nomatch hv⟩ (fun i H' _ z => SqL.of (hid_to (by simp) (z.1 _ _ (S _ _ hF)))) ?_ ?_
    · rintro i y H1' H1 hi ⟨s1, acc, la, hD, Ac⟩ ⟨rfl, hy⟩
      have hy : (ts.map V.ref)[i]? = some y := hy
      rw [List.getElem?_map] at hy
      obtain ⟨t, htt, rfl⟩ := Option.map_eq_some_iff.mp hy
      have il : i < fs.length := by rw [lts]; exact (List.getElem?_eq_some_iff.mp htt).1
      have hfi : fs[i]? = some fs[i] := List.getElem?_eq_getElem il
      generalize fs[i] = fn at hfi
      obtain ⟨t', ht', u, b, z1, z2, z3⟩ := paired_at' hft hfi
      obtain rfl : t' = t := by rw [htt] at ht'; exact (Option.some.inj ht').symm
      have hm := List.mem_of_getElem? hfi
      have s2 := S.trans s1
      have P1 := P.mono s1 (Nat.le_refl _)
      refine ⟨t', _, rfl, SqT.of (s2 _ _ z1), rfl, _, _, rfl, _, _, rfl, _, _, rfl, rfl, ?_⟩
      refine ⟨rfl, ⟨_, rfl, by show 0 ≤ sizeLine; decide, fun a na => ?_⟩⟩
      obtain ⟨H2, s3, t3, ka, ea⟩ := layP (o := .tup []) P1 na
      rw [ea]
      have P2 := P1.mono s3 (Nat.le_refl _)
      refine ⟨_, rfl, by show 3 ≤ sizeLine; decide, fun c nc => ?_⟩
      obtain ⟨H3, s4, t4, kc, ec⟩ := layP (o := .tup [.str fn.1, .ref a, .ref o1]) P2 nc
      rw [ec]
      have hD3 := s4 _ _ (s3 _ _ hD)
      have tD : TW (hid [p] H3) (hid [D] (hid [p] H3)) := TW.hid fun q hq o e => by
        rw [List.mem_singleton.mp hq, hid_to (ni1 Dp) hD3] at e
        cases e
        rfl
      refine ⟨acc, hD3, by rw [la, sizeLine_eq]; omega, fun b o e => ?_, acc ++ [.ref c], by rw [List.length_append, la]; rfl, upd_same, ?_⟩
      · rw [upd_ne (ne_of_none e nD)]
        exact s4 _ _ (s3 _ _ (s1 _ _ e))
      · exact BadAll.mono (BadAll.snoc (Ac.mono (hid_same (t3.trans t4))) (.had (.inr (sqT_tw tD (SqT.of kc))) (nbF fn hm) (by have := nameB_len (nbF fn hm); rw [sizeLine_eq]; omega) (nLL fn hm).1)) hid2_upd
    · rintro H1 ⟨s1, acc, la, hD, Ac⟩
      replace P := P.mono s1 (Nat.le_refl _)
      replace S := S.trans s1
      replace T := T.trans (hid_same s1)
      replace AT := (AT.mono (hid_same s1)).app (Ac.mono (hid_low _ _))
      replace kc4 := hid_same s1 _ _ kc4
      replace ko1 := hid_same s1 _ _ ko1
      rw [List.length_map] at la
      refine ⟨c4, D, XS, acc, rfl, rfl, (hid_in kc4).1, hD, by rw [lX, la, sizeLine_eq]; omega, fun c5 nc5 => ?_⟩
      clear hD Ac s1 nD Dp WJ
      obtain ⟨HN, sN, tN, kc5, ec5⟩ := layP (o := .lst (XS ++ acc)) P nc5
      rw [ec5]
      replace P := P.mono sN (Nat.le_refl _)
      replace S := S.trans sN
      replace T := T.trans tN
      replace AT := AT.mono tN
      replace ko1 := tN _ _ ko1
      clear sN tN ec5 nc5 kc4
      have lX5 : (XS ++ acc).length ≤ 30 := by rw [List.length_append, lX, la]; omega
      have lX0 : 0 < (XS ++ acc).length := by rw [List.length_append, lX]; omega
      generalize XS ++ acc = XS at AT kc5 lX5 lX0
      refine ⟨_, rfl, _, rfl, Fa, ts.map V.ref, true, [], rfl, SqL.of (hid_to (by simp) (S _ _ hF)), fun J WJ D nD => ?_⟩
      have Dp := P.ne nD
      refine lc_it WJ (fun i H' => Same HN H' ∧ ∃ acc : List V, acc.length = i ∧ H' D = some (.lst acc) ∧ BadAll K (hid [D] (hid [p] H')) LL acc) ⟨same_new nD, [], rfl, upd_same, fun v hv => nomatch hv⟩ (fun i H' _ z => SqL.of (hid_to (by simp) (z.1 _ _ (S _ _ hF)))) ?_ ?_
      · rintro i y H1' H1 hi ⟨s1, acc, la, hD, Ac⟩ ⟨rfl, hy⟩
        have hy : (ts.map V.ref)[i]? = some y := hy
        rw [List.getElem?_map] at hy
        obtain ⟨t, htt, rfl⟩ := Option.map_eq_some_iff.mp hy
        have il : i < fs.length := by rw [lts]; exact (List.getElem?_eq_some_iff.mp htt).1
        have hfi : fs[i]? = some fs[i] := List.getElem?_eq_getElem il
        generalize fs[i] = fn at hfi
        obtain ⟨t', ht', u, b, z1, z2, z3⟩ := paired_at' hft hfi
        obtain rfl : t' = t := by rw [htt] at ht'; exact (Option.some.inj ht').symm
        have hm := List.mem_of_getElem? hfi
        have s2 := S.trans s1
        have P1 := P.mono s1 (Nat.le_refl _)
        refine ⟨t', _, rfl, SqT.of (s2 _ _ z1), rfl, _, _, rfl, _, _, rfl, _, _, rfl, rfl, ?_⟩
        refine ⟨rfl, ⟨by show 0 ≤ sizeLine; decide, fun a na => ?_⟩⟩
        obtain ⟨H2, s3, t3, ka, ea⟩ := layP (o := .tup []) P1 na
        rw [ea]
        have P2 := P1.mono s3 (Nat.le_refl _)
        refine ⟨_, rfl, _, rfl, by show 1 ≤ sizeLine; decide, fun e1 ne1 => ?_⟩
        obtain ⟨H3, s4, t4, ke, ee⟩ := layP (o := .tup [.ref o1]) P2 ne1
        rw [ee]
        have P3 := P2.mono s4 (Nat.le_refl _)
        refine ⟨_, rfl, u, sts fn.2.1, rfl, .inr (Same.seqT ((s2.trans s3).trans s4) z2), _, _, rfl, rfl, ?_⟩
        have l2 := (lib.bn fn hm).2.2
        show rRepA K (.ref e1) (.int ((((sts fn.2.1).length : Nat) : Int) + 1)) _ _
        rw [sts_len, show (((fn.2.1.length : Nat) : Int) + 1) = ((fn.2.1.length + 1 : Nat) : Int) by omega]
        refine repA_ok P3 (SqT.of ke) (by omega) (by omega) fun r H4 s5 t5 P4 kr => ?_
        refine ⟨by show 3 ≤ sizeLine; decide, fun d nd => ?_⟩
        obtain ⟨H5, s6, t6, kd, ed⟩ := layP (o := .tup [.str "use", .str fn.1, .ref r]) P4 nd
        rw [ed]
        have P5 := P4.mono s6 (Nat.le_refl _)
        refine ⟨by show 3 ≤ sizeLine; decide, fun c nc => ?_⟩
        obtain ⟨H6, s7, t7, kc, ec⟩ := layP (o := .tup [.str "g", .ref a, .ref d]) P5 nc
        rw [ec]
        have hD6 := s7 _ _ (s6 _ _ (s5 _ _ (s4 _ _ (s3 _ _ hD))))
        have tD : TW (hid [p] H6) (hid [D] (hid [p] H6)) := TW.hid fun q hq o e => by
          rw [List.mem_singleton.mp hq, hid_to (ni1 Dp) hD6] at e
          cases e
          rfl
        refine ⟨acc, hD6, by rw [la, sizeLine_eq]; omega, fun b o e => ?_, acc ++ [.ref c], by rw [List.length_append, la]; rfl, upd_same, ?_⟩
        · rw [upd_ne (ne_of_none e nD)]
          exact s7 _ _ (s6 _ _ (s5 _ _ (s4 _ _ (s3 _ _ (s1 _ _ e)))))
        · have tAll := ((t3.trans t4).trans (t5.trans t6)).trans t7
          have ka6 := t7 _ _ (t6 _ _ (t5 _ _ (t4 _ _ ka)))
          have kr6 := Same.seqT (t6.trans t7) kr
          exact BadAll.mono (BadAll.snoc (Ac.mono (hid_same tAll)) (.body (ns := []) (.inr (sqT_tw tD (SqT.of kc))) (by decide +kernel) (by decide +kernel) ng (.inr (sqT_tw tD (SqT.of ka6))) (fun m hm => nomatch hm) .nil (by decide) (fun H' s' => .odd (.use (.many (.inr (Same.seqT s' (sqT_tw tD (SqT.of (t7 _ _ kd))))) (nLL fn hm).2 (.inr (Same.seqT s' (sqT_tw tD kr6))) (by rw [List.length_replicate]; omega)))))) hid2_upd
      · rintro H1 ⟨s1, acc, la, hD, Ac⟩
        replace P := P.mono s1 (Nat.le_refl _)
        replace S := S.trans s1
        replace T := T.trans (hid_same s1)
        replace AT := (AT.mono (hid_same s1)).app (Ac.mono (hid_low _ _))
        replace kc5 := hid_same s1 _ _ kc5
        rw [List.length_map] at la
        refine ⟨c5, D, XS, acc, rfl, rfl, (hid_in kc5).1, hD, by rw [la, sizeLine_eq]; omega, fun c6 nc6 => ?_⟩
        obtain ⟨HN, sN, tN, kc6, ec6⟩ := layP (o := .lst (XS ++ acc)) P nc6
        rw [ec6]
        replace P := P.mono sN (Nat.le_refl _)
        replace S := S.trans sN
        replace AT := AT.mono tN
        refine ⟨_, rfl, _, rfl, p, c6, XS ++ acc, n, rfl, SqL.of kc6, ?_, by rw [List.length_append, la]; omega, by omega, P, fun v H7 hv B7 P7 => ?_⟩
        · intro z
          rw [(List.append_eq_nil_iff.mp z).1] at lX0
          simp at lX0
        · exact q v H7 ((bt_of S).trans B7) (BadFn.mono B7 (hLL ▸ AT v hv)) P7
end
end K39
set_option Elab.async false
set_option linter.all false
set_option maxRecDepth 100000
set_option maxHeartbeats 8000000
namespace K39
open PySem PySem.Spec L2 GB
abbrev sGround : Stmt := topS 45
def grN : List Str := ["_law_pool_here", "_law_most", "_law_names", "_law_letters", "_law_fixed", "_law_name", "_law_x", "_law_commuting", "_law_facts", "_law_seen", "_law_k", "_law_values", "_law_key", "_law_end", "_law_j"]
def spGround : Sp := fun vs H Q _ => ∃ (p : Addr) (m : Int) (n : Nat), vs = [.ref p, .int m] ∧ 0 < m ∧ m ≤ 7 ∧ n + 500 ≤ 1000000 ∧ PoolIs H p n ∧
  ∀ g gd H', Bt [p] H H' → IsG (hid [p] H') g gd → gd.Wf → (gd.letters.length : Int) ≤ m → (∀ q ∈ gd.letters, q.1 ∈ nm8) → PoolIs H' p (n + 500) → Q (.ref g) H'
def grI (p : Addr) (m : Int) (n : Nat) (H : Hp) (aN dL fA : Addr) (ns : List Str) (i : Nat) (σ : L2.St) (H' : Hp) : Prop := ∃ (ls : List (Str × Nat)) (fx : List Str) (o5 : Option V), σ = [some (.ref p), some (.int m), some (.ref aN), some (.ref dL), some (.ref fA), o5, none, none, none, none, none, none, none, none, none] ∧
        Bt [p] H H' ∧ H' aN = some (.lst (sts ns)) ∧ H' dL = some (.dK (lkv ls)) ∧ H' fA = some (.lst (sts fx)) ∧ ls.map (·.1) = ns.take i ∧ (∀ q ∈ ls, q.2 ≤ 2) ∧ fx.Sublist (ns.take i) ∧ ls.length ≤ fx.length + 3 ∧ PoolIs H' p (n + 61 + 2 * i)
/-- after k turns of the facts' loop -/
def frI (K : PySem.W.Frag) (p : Addr) (m : Int) (aN dL fA cA tA eA : Addr) (o5 : Option V) (ls : List (Str × Nat)) (fx cm : List Str) (H11 : Hp) (n : Nat) (k : Nat) (σ : L2.St) (H' : Hp) : Prop :=
  ∃ (fs : List Fact) (ts ks : List Addr) (o6 o10 o11 o12 o13 : Option V), σ = [some (.ref p), some (.int m), some (.ref aN), some (.ref dL), some (.ref fA), o5, o6, some (.ref cA), some (.ref tA), some (.ref eA), o10, o11, o12, o13, none] ∧
    Bt [p, tA, eA] H11 H' ∧ H' tA = some (.lst (ts.map V.ref)) ∧ H' eA = some (.lst (ks.map V.ref)) ∧ Paired (FactAt (hid [p, tA, eA] H')) fs ts ∧ DpAll K (hid [p, tA, eA] H') (ks.map V.ref) ((fs.map (GD.mk ls fx cm []).asked).map kd) ∧
    fs.length ≤ k ∧ (∀ f ∈ fs, f.Ok ls fx) ∧ (fs.map (GD.mk ls fx cm []).asked).Nodup ∧ ks.length = fs.length ∧ PoolIs H' p (n + 5 * k)
section
variable {P : Program} {w : World} {K : PySem.W.Frag} {mg : Str → Option Value} {base : Heap}
theorem scGround : FnScope grN ["_law_pool_here", "_law_most"] (defScope sGround) := ⟨rfl, rfl, rfl, by decide +kernel, rfl, by decide +kernel, by decide +kernel⟩
theorem ok_ground {f : Addr} {fd : FuncData} (F : Fun K "_law_ground" "_law_ground" sGround f fd) (T : Bl mg) (TK : Fns P w K mg base "_law_take" 1 ["_law_pool_here", "_law_many"] spTake)
    (MX : Fns P w K mg base "_law_mixed" 2 ["_law_pool_here", "_law_things"] (spMixed K)) (ON : Fns P w K mg base "_law_one" 2 ["_law_pool_here", "_law_things"] (spOne K)) : FnOk P w K mg base CX0 3 f fd ["_law_pool_here", "_law_most"] spGround := by
  refine F.ok scGround (fun vs H Q E h => ?_) (fun cdv A outer s H vs Q E hr h => ?_)
  · obtain ⟨p, m, n, rfl, _⟩ := h
    rfl
  · obtain ⟨p, m, n, rfl, m0, m7, hn, hP, q⟩ := h
    have hu65 : (A.deeper (PyProof.Rows.envOfC "_law_ground" (defScope sGround) s.heap.objs.size f cdv)).units + 65 < cLine := by have := hr.un; omega
    refine ⟨_, pss_cons (ps_set (i := 2) scGround.nd rfl (.inl rfl) (pe_slice sl_list (pe_fn MX hr (by decide) rfl (pa_cons (pv 0) (pa_cons (pe_lst (pa_cons (pe_str) (pa_cons (pe_str) (pa_cons (pe_str) (pa_cons (pe_str) (pa_cons (pe_str) (pa_cons (pe_str) (pa_cons (pe_str) (pa_cons (pe_str) (pa_nil)))))))))) (pa_nil)))) po_none (po_some (pe_op op_add (pe_int) (pe_fn TK hr (by decide) rfl (pa_cons (pv 0) (pa_cons (pv 1) (pa_nil)))))))) (pss_cons (ps_asg (pe_tup (pa_cons (pe_dnewK) (pa_cons (pe_lst (pa_nil)) (pa_nil)))) (pg_tup rfl (pgs_cons (pg_name (i := 3) scGround.nd rfl (.inr rfl)) (pgs_cons (pg_name (i := 4) scGround.nd rfl (.inl rfl)) (pgs_nil))))) (pss_cons (ps_for PassesOwn.never rfl (pi_list (pv 2)) (pg_name (i := 5) scGround.nd rfl (.inl rfl)) (pss_cons (ps_dput (hu_of hr) (pv 3) (pv 5) (pe_fn ON hr (by decide) rfl (pa_cons (pv 0) (pa_cons (pe_lst (pa_cons (pe_int) (pa_cons (pe_int) (pa_cons (pe_int) (pa_cons (pe_int) (pa_cons (pe_int) (pa_nil))))))) (pa_nil)))) rfl) (pss_one (ps_if (PW.pt (pw_or (pt_cmpR op_gt (pe_op op_sub (pe_callB call_lenD (by rfl) T.len PySem.boot_len (pa_cons (pv 3) (pa_nil))) (pe_callB call_len_seq (by rfl) T.len PySem.boot_len (pa_cons (pv 4) (pa_nil)))) (pe_int) (nomark _)) (pw_or1 (pt_cmpR op_eq (pe_fn TK hr (by decide) rfl (pa_cons (pv 0) (pa_cons (pe_int) (pa_nil)))) (pe_int) (nomark _))))) (pss_one (ps_expr (pe_bm PySem.F.plainAttrs_list PySem.F.slot_list_append PySem.F.type_list_append mt_append (pv 4) (pa_cons (pv 5) (pa_nil))))) (pss_nil))))) (pss_cons (ps_setLc (i := 7) (own := [("_law_x", 6)]) (g := gName 6) (tt := tAnd (tTest (tOp rEq (tDGet (tVar 3) (tVar 6)) (tC (.int 2)))) (tTest (tOp rEq (tCall spTake [] E0 (tCons (tVar 0) (tCons (tC (.int 2)) tNil))) (tC (.int 0))))) rfl scGround.nd rfl rfl (sw_true rfl rfl rfl (by decide +kernel)) (pi_list (pv 4)) (blkOk_by (own := [("_law_x", 6)]) (N := grN) (sc := defScope sGround) (by decide +kernel)) (fun _ _ _ _ _ => pg_name (i := 6) scGround.nd rfl (.inl rfl)) (fun _ _ _ _ _ => pts_one (PW.pt (pw_and (pt_cmpR op_eq (pe_dget (hu_of hr) (pv 3) (pv 6) (fun _ _ => rfl)) (pe_int) (nomark _)) (pw_and1 (pt_cmpR op_eq (pe_fn TK hr (by decide) rfl (pa_cons (pv 0) (pa_cons (pe_int) (pa_nil)))) (pe_int) (nomark _)))))) (fun _ _ _ _ _ => pv 6)) (pss_cons (ps_par (i := 8) (j := 9) rfl scGround.nd rfl rfl (by decide) rfl rfl (pa_cons (pe_lst (pa_nil)) (pa_cons (pe_lst (pa_nil)) (pa_nil))) (by rfl)) (pss_cons (ps_for PassesOwn.never rfl (pi_range1 rfl T.range (pa_cons (pe_op op_mul (pe_ix ix_list (pe_lst (pa_cons (pe_int) (pa_cons (pe_int) (pa_cons (pe_int) (pa_cons (pe_int) (pa_cons (pe_int) (pa_nil))))))) (pe_fn TK hr (by decide) rfl (pa_cons (pv 0) (pa_cons (pe_int) (pa_nil)))) (fun _ _ => rfl)) (pe_callTy (call_int1) (by rfl) T.int (by decide +kernel) (pa_cons (pe_cmpR (op_neD hr.units) (pv 4) (pe_lst (pa_nil)) (nomark _)) (pa_nil)))) (pa_nil))) (pg_name (i := 10) scGround.nd rfl (.inl rfl)) (pss_cons (ps_set (i := 6) scGround.nd rfl (.inl rfl) (pe_fn ON hr (by decide) rfl (pa_cons (pv 0) (pa_cons (pv 4) (pa_nil))))) (pss_cons (ps_setLc (i := 11) (own := [("_law_j", 14)]) (g := gName 14) (tt := tYes) rfl scGround.nd rfl rfl (sw_true rfl rfl rfl (by decide +kernel)) (pi_range1 rfl T.range (pa_cons (pe_dget (hu_of hr) (pv 3) (pv 6) (fun _ _ => rfl)) (pa_nil))) (blkOk_by (own := [("_law_j", 14)]) (N := grN) (sc := defScope sGround) (by decide +kernel)) (fun _ _ _ _ _ => pg_name (i := 14) scGround.nd rfl (.inl rfl)) (fun _ _ _ _ _ => pts_nil) (fun _ _ _ _ _ => pe_fn ON hr (by decide) rfl (pa_cons (pv 0) (pa_cons (pe_lst (pa_cons (pe_str) (pa_cons (pe_str) (pa_cons (pe_str) (pa_nil))))) (pa_nil))))) (pss_cons (ps_set (i := 12) scGround.nd rfl (.inl rfl) (pe_tup (pa_cons (pv 6) (pa_cons (pe_ifExp (pt_cmpR op_in_seq (pv 6) (pv 7) (by rfl)) (pe_callB (cr_sortedS) (by rfl) T.sorted (by decide +kernel) (pa_cons (pv 11) (pa_nil))) (pv 11)) (pa_nil))))) (pss_one (ps_if (pt_cmpR (op_notInD hu65) (pv 12) (pv 9) (by rfl)) (pss_cons (ps_expr (pe_bm PySem.F.plainAttrs_list PySem.F.slot_list_append PySem.F.type_list_append mt_append (pv 9) (pa_cons (pv 12) (pa_nil)))) (pss_cons (ps_set (i := 13) scGround.nd rfl (.inl rfl) (pe_tup (pa_cons (pe_fn ON hr (by decide) rfl (pa_cons (pv 0) (pa_cons (pe_lst (pa_cons (pe_str) (pa_cons (pe_str) (pa_cons (pe_str) (pa_nil))))) (pa_nil)))) (pa_cons (pe_fn ON hr (by decide) rfl (pa_cons (pv 0) (pa_cons (pe_lst (pa_cons (pe_str) (pa_cons (pe_str) (pa_nil)))) (pa_nil)))) (pa_nil))))) (pss_one (ps_expr (pe_bm PySem.F.plainAttrs_list PySem.F.slot_list_append PySem.F.type_list_append mt_append (pv 8) (pa_cons (pe_tup (pa_cons (pv 6) (pa_cons (pe_callTy (call_tuple_of) (by rfl) T.tuple (by decide +kernel) (pa_cons (pv 11) (pa_nil))) (pa_cons (pv 13) (pa_nil))))) (pa_nil))))))) (pss_nil))))))) (pss_one (ps_ret (pe_callTy (call_dictP rfl) (by rfl) T.dict (by decide +kernel) (pa_cons (pe_lst (pa_cons (pe_tup (pa_cons (pe_str) (pa_cons (pv 3) (pa_nil)))) (pa_cons (pe_tup (pa_cons (pe_str) (pa_cons (pv 4) (pa_nil)))) (pa_cons (pe_tup (pa_cons (pe_str) (pa_cons (pv 7) (pa_nil)))) (pa_cons (pe_tup (pa_cons (pe_str) (pa_cons (pv 8) (pa_nil)))) (pa_nil)))))) (pa_nil)))))))))), ?_⟩
    refine ⟨_, rfl, by show 8 ≤ sizeLine; decide, fun a8 n8 => ?_⟩
    obtain ⟨H1, s1, h1, e1⟩ := lay (o := .lst [.str "x", .str "y", .str "z", .str "plus", .str "if", .str "name", .str "abcdefgh", .str "fail"]) n8
    rw [e1]
    have P1 := hP.mono s1 (Nat.le_refl _)
    have na8 := hP.ne n8
    refine ⟨p, a8, sts nm8, n, rfl, SqL.of (hid_to (ni1 na8) h1), by decide, by omega, P1, fun qa ys H2 hperm nqa b2 hqa P2 => ?_⟩
    refine ⟨_, rfl, _, rfl, p, m, n + 60, rfl, m0, by omega, by omega, P2, fun r H3 hr3 b3 P3 => ?_⟩
    have nqp : qa ≠ p := P1.ne nqa
    refine ⟨_, _, rfl, rfl, _, rfl, qa, ys, rfl, SqL.of (bt_at b3 (ni1 nqp) hqa), fun aN nN => ?_⟩
    obtain ⟨ns8, rfl, hp8⟩ := sts_perm hperm
    obtain ⟨H4, s4, h4, e4⟩ := lay (o := .lst (cutV (sts ns8) none (some (((1 + r : Nat) : Int))))) nN
    rw [show ((1 : Int) + (r : Int)) = ((1 + r : Nat) : Int) from (Int.natCast_add 1 r).symm, e4]
    have l8 : ns8.length = 8 := hp8.length_eq
    have hr4 : 1 + r ≤ 7 := by have := hr3; omega
    obtain ⟨ns, hns⟩ : ∃ ns, ns = ns8.take (1 + r) := ⟨_, rfl⟩
    have h4' : H4 aN = some (.lst (sts ns)) := by
      rw [h4, cut_to _ _ (by unfold sts; rw [List.length_map]; omega), hns]
      unfold sts
      rw [List.map_take]
    have nsl : ns.length = 1 + r := by rw [hns, List.length_take]; omega
    have nsub8 : ∀ x ∈ ns, x ∈ nm8 := fun x hx => hp8.subset (List.mem_of_mem_take (by rw [← hns]; exact hx))
    have nsub : ∀ x ∈ ns, x ∈ nmA := fun x hx => nmA_of (nsub8 x hx)
    have nsnd : ns.Nodup := by
      rw [hns]
      exact (hp8.nodup_iff.mpr (by decide)).sublist (List.take_sublist _ _)
    have P4 := P3.mono s4 (Nat.le_refl _)
    have nNp : aN ≠ p := P3.ne nN
    have B4 : Bt [p] H H4 := ((bt_of s1).trans (b2.trans b3)).trans (bt_of s4)
    clear h4 e4 hqa h1 e1 hperm
    intro dL ndL
    obtain ⟨H5, s5, h5, e5⟩ := lay (o := .dK []) ndL
    rw [e5]
    refine ⟨by show 0 ≤ sizeLine; decide, fun fA nfA => ?_⟩
    obtain ⟨H6, s6, h6, e6⟩ := lay (o := .lst []) nfA
    rw [e6]
    refine ⟨by show 2 ≤ sizeLine; decide, fun tA ntA => ?_⟩
    obtain ⟨H7, s7, h7, e7⟩ := lay (o := .tup [.ref dL, .ref fA]) ntA
    rw [e7]
    refine ⟨tA, [.ref dL, .ref fA], rfl, SqT.of h7, rfl, .ref dL, [.ref fA], rfl, .ref fA, [], rfl, rfl, ?_⟩
    have s47 : Same H4 H7 := (s5.trans s6).trans s7
    have P7 := P4.mono s47 (Nat.le_refl _)
    have ndp : dL ≠ p := P4.ne ndL
    have nfp : fA ≠ p := (P4.mono s5 (Nat.le_refl _)).ne nfA
    have ndf : dL ≠ fA := ne_of_none h5 nfA
    have ndN : aN ≠ dL := ne_of_none h4' ndL
    have nfN : aN ≠ fA := ne_of_none (s5 _ _ h4') nfA
    have B7 : Bt [p] H H7 := B4.trans (bt_of s47)
    have ndLH : H dL = none := by
      cases e : H dL with
      | none => rfl
      | some o => rw [bt_at B4 (ni1 ndp) e] at ndL; cases ndL
    have nfAH : H fA = none := by
      cases e : H fA with
      | none => rfl
      | some o => rw [s5 _ _ (bt_at B4 (ni1 nfp) e)] at nfA; cases nfA
    have hS5 : ∀ {H' : Hp}, PoolIs H' p n → True := fun _ => trivial
    refine ⟨_, rfl, aN, rfl, ⟨_, SqL.of (s47 _ _ h4')⟩, for_list (K := K) (a := aN) (xs := sts ns) (grI p m n H aN dL fA ns)
      ⟨[], [], none, rfl, B7, s47 _ _ h4', s7 _ _ (s6 _ _ h5), s7 _ _ h6, rfl, (fun _ h => nomatch h), List.Sublist.refl _, Nat.zero_le _, P7.mono (Same.refl _) (by omega)⟩ (fun i σ H' _ ⟨_, _, _, _, _, h, _⟩ => SqL.of h) ?_ ?_⟩
    · rintro i x σ H8 hi ⟨ls, fx, o5, rfl, B8, hN8, hL8, hF8, hls, har, hfx, hnf, P8⟩
      obtain ⟨nm, hnm, rfl⟩ := sts_at hi
      have hil' : i < ns.length := (List.getElem?_eq_some_iff.mp hnm).1
      have tk : ns.take (i + 1) = ns.take i ++ [nm] := by rw [List.take_add_one, hnm]; rfl
      have nmn : nm ∉ ls.map (·.1) := by
        rw [hls]
        intro hm
        have nd := nsnd.sublist (List.take_sublist (i + 1) ns)
        rw [tk] at nd
        exact (List.nodup_append.mp nd).2.2 nm hm nm List.mem_cons_self rfl
      have lsl : ls.length = i := by
        have := congrArg List.length hls
        rw [List.length_map, List.length_take] at this
        omega
      refine ⟨_, rfl, by show 5 ≤ sizeLine; decide, fun b5 nb5 => ?_⟩
      obtain ⟨H9, s9, h9, e9⟩ := lay (o := .lst [.int 0, .int 0, .int 0, .int 1, .int 2]) nb5
      rw [e9]
      have P9 := P8.mono s9 (Nat.le_refl _)
      refine ⟨p, b5, [.int 0, .int 0, .int 0, .int 1, .int 2], _, rfl, SqL.of (hid_to (ni1 (P8.ne nb5)) h9), (fun h => nomatch h), (by show 5 ≤ 100000; decide), (by omega), P9, fun v H10 hv b10 P10 => ?_⟩
      obtain ⟨k, hk, rfl⟩ : ∃ k : Nat, k ≤ 2 ∧ v = .int k := by
        simp only [List.mem_cons, List.not_mem_nil, or_false] at hv
        rcases hv with rfl | rfl | rfl | rfl | rfl
        · exact ⟨0, by decide, rfl⟩
        · exact ⟨0, by decide, rfl⟩
        · exact ⟨0, by decide, rfl⟩
        · exact ⟨1, by decide, rfl⟩
        · exact ⟨2, by decide, rfl⟩
      have hL10 := bt_at b10 (ni1 ndp) (s9 _ _ hL8)
      have hF10 := bt_at b10 (ni1 nfp) (s9 _ _ hF8)
      have hN10 := bt_at b10 (ni1 nNp) (s9 _ _ hN8)
      refine ⟨_, rfl, _, rfl, dL, _, rfl, DPut.k (k := .inr nm) hL10 (by unfold lkv; rw [List.length_map, sizeLine_eq]; omega), ?_⟩
      have ep : putK (lkv ls) (.inr nm : Key) (V.int k) = lkv (ls ++ [(nm, k)]) := by
        rw [putK_new _ (valV_no nmn)]
        unfold lkv
        rw [List.map_append]
        rfl
      rw [ep]
      obtain ⟨H11, b11, h11, e11⟩ : ∃ H11, (∀ b o, b ≠ dL → H10 b = some o → H11 b = some o) ∧ H11 dL = some (.dK (lkv (ls ++ [(nm, k)]))) ∧ upd H10 dL (.dK (lkv (ls ++ [(nm, k)]))) = H11 :=
        ⟨upd H10 dL (.dK (lkv (ls ++ [(nm, k)]))), fun b o z e => by rw [upd_ne z]; exact e, upd_same, rfl⟩
      rw [e11]
      have hF11 := b11 _ _ ndf.symm hF10
      have hN11 := b11 _ _ ndN hN10
      have P11 : PoolIs H11 p (n + 61 + 2 * i + 1) := by
        obtain ⟨x, y, z, e, r⟩ := P10
        exact ⟨x, y, z, b11 _ _ ndp.symm e, r⟩
      have B11 : Bt [p] H H11 := fun b o e => by
        obtain ⟨e', nb⟩ := hid_in e
        exact hid_to nb (b11 _ _ (ne_of_none e' ndLH) (bt_at b10 nb (s9 _ _ (bt_at B8 nb e'))))
      have har' : ∀ q ∈ ls ++ [(nm, k)], q.2 ≤ 2 := fun q hq => by
        rcases List.mem_append.mp hq with h | h
        · exact har q h
        · rw [List.mem_singleton.mp h]; exact hk
      have hls' : (ls ++ [(nm, k)]).map (·.1) = ns.take (i + 1) := by rw [tk, List.map_append, hls]; rfl
      have fl : fx.length ≤ i := by
        have := hfx.length_le
        rw [List.length_take] at this
        omega
      refine ⟨_, rfl, dL, _, rfl, h11, _, rfl, fA, _, rfl, .inl (SqL.of hF11), _, _, rfl, rfl, _, _, rfl, rfl, _, rfl, ?_⟩
      have app : ∀ H12, Bt [p] H11 H12 → PoolIs H12 p (n + 61 + 2 * (i + 1)) → ∀ D : Ends, (∀ σ' H', grI p m n H aN dL fA ns (i + 1) σ' H' → D.nx σ' H') → (tDrop (tBM K "list" rAppend (tVar 4) (tCons (tVar 5) tNil))) D [some (.ref p), some (.int m), some (.ref aN), some (.ref dL), some (.ref fA), some (.str nm), none, none, none, none, none, none, none, none, none] H12 := fun H12 b12 P12 D fin => by
        have hF12 := bt_at b12 (ni1 nfp) hF11
        have hL12 := bt_at b12 (ni1 ndp) h11
        have hN12 := bt_at b12 (ni1 nNp) hN11
        refine ⟨_, rfl, .inl ⟨rfl, _, SqL.of hF12⟩, _, rfl, fA, _, _, rfl, rfl, hF12, (by rw [sts_len, sizeLine_eq]; omega), ?_⟩
        obtain ⟨H13, b13, h13, e13⟩ : ∃ H13, (∀ b o, b ≠ fA → H12 b = some o → H13 b = some o) ∧ H13 fA = some (.lst (sts (fx ++ [nm]))) ∧ upd H12 fA (.lst (sts fx ++ [.str nm])) = H13 :=
          ⟨upd H12 fA (.lst (sts fx ++ [.str nm])), fun b o z e => by rw [upd_ne z]; exact e, by rw [upd_same]; unfold sts; rw [List.map_append]; rfl, rfl⟩
        rw [e13]
        obtain ⟨x, y, z, ep12, pr12⟩ := P12
        refine fin _ _ ⟨ls ++ [(nm, k)], fx ++ [nm], _, rfl, fun b o e => ?_, b13 _ _ nfN hN12, b13 _ _ ndf hL12, h13, hls', har', ?_, ?_, ⟨x, y, z, b13 _ _ nfp.symm ep12, pr12⟩⟩
        · obtain ⟨e', nb⟩ := hid_in e
          exact hid_to nb (b13 _ _ (ne_of_none e' nfAH) (bt_at b12 nb (bt_at B11 nb e')))
        · rw [tk]; exact hfx.append (List.Sublist.refl _)
        · rw [List.length_append, List.length_append]; simp only [List.length_singleton]; omega
      have skip : ∀ H12, Bt [p] H11 H12 → PoolIs H12 p (n + 61 + 2 * (i + 1)) → ls.length + 1 ≤ fx.length + 3 → grI p m n H aN dL fA ns (i + 1) [some (.ref p), some (.int m), some (.ref aN), some (.ref dL), some (.ref fA), some (.str nm), none, none, none, none, none, none, none, none, none] H12 := fun H12 b12 P12 hle =>
        ⟨ls ++ [(nm, k)], fx, some (.str nm), rfl, B11.trans b12, bt_at b12 (ni1 nNp) hN11, bt_at b12 (ni1 ndp) h11, bt_at b12 (ni1 nfp) hF11, hls', har', (by rw [tk]; exact hfx.trans (List.sublist_append_left _ _)), (by rw [List.length_append]; exact hle), P12⟩
      by_cases c : (3 : Int) < (((lkv (ls ++ [(nm, k)])).length : Nat) : Int) - (((sts fx).length : Nat) : Int)
      · rw [decide_eq_true c]
        refine iteT (iteT (app H11 (Same.refl _) (P11.mono (Same.refl _) (by omega)) _ fun _ _ h => h))
      · rw [decide_eq_false c]
        refine iteF ⟨_, rfl, p, 3, _, rfl, by decide, by decide, (by omega), P11, fun r H12 hr12 b12 P12 => ⟨rfl, _, rfl, ?_⟩⟩
        have P12' := P12.mono (Same.refl _) (show _ ≤ n + 61 + 2 * (i + 1) by omega)
        by_cases c2 : (V.int (r : Int)) = .int 0
        · rw [decide_eq_true c2]
          exact iteT (app H12 b12 P12' _ fun _ _ h => h)
        · rw [decide_eq_false c2]
          refine iteF (skip H12 b12 P12' ?_)
          unfold lkv at c
          rw [List.length_map, List.length_append, sts_len] at c
          simp only [List.length_singleton] at c
          omega
    · rintro σ H8 ⟨ls, fx, o5, rfl, B8, hN8, hL8, hF8, hls, har, hfx, hnf, P8⟩
      rw [sts_len, List.take_length] at hls hfx
      rw [sts_len] at P8
      have lnd : (ls.map (·.1)).Nodup := by rw [hls]; exact nsnd
      have fin : ∀ x ∈ fx, ∃ k, (x, k) ∈ ls := fun x hx => by
        have := hfx.subset hx
        rw [← hls] at this
        obtain ⟨q, hq, rfl⟩ := List.mem_map.mp this
        exact ⟨q.2, hq⟩
      have lls : ls.length ≤ 7 := by
        have := congrArg List.length hls
        rw [List.length_map] at this
        omega
      have lfx : fx.length ≤ 7 := by have := hfx.length_le; omega
      have P8' : PoolIs H8 p (n + 80) := P8.mono (Same.refl _) (by omega)
      have f8 : ∀ x ∈ fx, x ∈ nmA := fun x hx => nsub x (hfx.subset hx)
      -- commuting
      refine ⟨_, rfl, fA, rfl, ⟨_, SqL.of hF8⟩, fun cA ncA => lc_list (K := K) (a := fA) (xs := sts fx) (fun i H' => ∃ cm : List Str, Bt [p, cA] H8 H' ∧ H' cA = some (.lst (sts cm)) ∧ cm.Sublist (fx.take i) ∧ (∀ x ∈ cm, (x, 2) ∈ ls) ∧ PoolIs H' p (n + 80 + i))
        ⟨[], bt_upd (by simp), upd_same, List.Sublist.refl _, (fun _ h => nomatch h), (by
          obtain ⟨x, y, z, e, r⟩ := P8'
          exact ⟨x, y, z, by rw [upd_ne (ne_of_none e ncA)]; exact e, r⟩)⟩ ?_ ?_ ?_⟩
      · rintro i H9 _ ⟨cm, B9, _⟩
        exact SqL.of (bt_at B9 (by simp [nfp, ne_of_none hF8 ncA]) hF8)
      · rintro i x H9 hi ⟨cm, B9, hC9, hcm, hc2, P9⟩
        obtain ⟨s, hs, rfl⟩ := sts_at hi
        have hsx : s ∈ fx := List.mem_of_getElem? hs
        obtain ⟨k, hk⟩ := fin s hsx
        have tk : fx.take (i + 1) = fx.take i ++ [s] := by rw [List.take_add_one, hs]; rfl
        have cp : cA ≠ p := P8.ne ncA
        have hL9 := bt_at B9 (by simp [ndp, ne_of_none hL8 ncA]) hL8
        have il : i < fx.length := (List.getElem?_eq_some_iff.mp hs).1
        have cml : cm.length ≤ 7 := by
          have := hcm.length_le
          rw [List.length_take] at this
          omega
        have drop : ∀ H', Bt [p] H9 H' → PoolIs H' p (n + 80 + (i + 1)) → ∃ cm : List Str, Bt [p, cA] H8 H' ∧ H' cA = some (.lst (sts cm)) ∧ cm.Sublist (fx.take (i + 1)) ∧ (∀ x ∈ cm, (x, 2) ∈ ls) ∧ PoolIs H' p (n + 80 + (i + 1)) := fun H' b P =>
          ⟨cm, B9.trans (bt_weak (by simp) b), bt_at b (ni1 cp) hC9, (by rw [tk]; exact hcm.trans (List.sublist_append_left _ _)), hc2, P⟩
        refine ⟨rfl, _, rfl, _, rfl, dL, .int k, rfl, (by rw [← valV_lkv lnd hk]; exact DGet.k (k := .inr s) hL9), rfl, _, rfl, ?_⟩
        by_cases c : (V.int (k : Int)) = .int 2
        · rw [decide_eq_true c]
          refine iteT ⟨_, rfl, p, 2, _, rfl, by decide, by decide, (by omega), P9, fun r H10 hr10 b10 P10 => ⟨rfl, _, rfl, ?_⟩⟩
          by_cases c2 : (V.int (r : Int)) = .int 0
          · rw [decide_eq_true c2]
            refine iteT ⟨_, rfl, sts cm, bt_at b10 (ni1 cp) hC9, (by rw [sts_len, sizeLine_eq]; omega), cm ++ [s], ?_, ?_, ?_, ?_, ?_⟩
            · exact B9.trans ((bt_weak (by simp) b10).trans (bt_upd (by simp)))
            · rw [upd_same]; unfold sts; rw [List.map_append]; rfl
            · rw [tk]; exact hcm.append (List.Sublist.refl _)
            · intro x hx
              rcases List.mem_append.mp hx with h | h
              · exact hc2 x h
              · obtain rfl := List.mem_singleton.mp h
                have : k = 2 := by injection c with c; omega
                rw [← this]; exact hk
            · obtain ⟨x, y, z, e, r⟩ := P10
              exact ⟨x, y, z, by rw [upd_ne cp.symm]; exact e, r⟩
          · rw [decide_eq_false c2]
            exact iteF (drop H10 b10 (P10.mono (Same.refl _) (by omega)))
        · rw [decide_eq_false c]
          exact iteF (iteF (drop H9 (Same.refl _) (P9.mono (Same.refl _) (by omega))))
      · rintro H9 ⟨cm, B9, hC9, hcm, hc2, P9⟩
        rw [sts_len, List.take_length] at hcm
        rw [sts_len] at P9
        have cp : cA ≠ p := P8.ne ncA
        have hL9 := bt_at B9 (by simp [ndp, ne_of_none hL8 ncA]) hL8
        have hF9 := bt_at B9 (by simp [nfp, ne_of_none hF8 ncA]) hF8
        have hN9 := bt_at B9 (by simp [nNp, ne_of_none hN8 ncA]) hN8
        have ncAH : H cA = none := by
          cases e : H cA with
          | none => rfl
          | some o => rw [bt_at B8 (ni1 cp) e] at ncA; cases ncA
        have B9' : Bt [p] H H9 := fun b o e => by
          obtain ⟨e', nb⟩ := hid_in e
          exact hid_to nb (bt_at B9 (by
            have := ne_of_none e' ncAH
            simp only [List.mem_cons, List.not_mem_nil, or_false, not_or]
            exact ⟨fun z => nb (by rw [z]; exact List.mem_cons_self), this⟩) (bt_at B8 nb e'))
        refine ⟨by show 0 ≤ sizeLine; decide, fun tA' ntA' => ?_⟩
        obtain ⟨H10, s10, h10, e10⟩ := lay (o := .lst []) ntA'
        rw [e10]
        refine ⟨by show 0 ≤ sizeLine; decide, fun eA neA => ?_⟩
        obtain ⟨H11, s11, h11, e11⟩ := lay (o := .lst []) neA
        rw [e11]
        refine ⟨_, _, rfl, ?_⟩
        have tp : tA' ≠ p := P9.ne ntA'
        have P11 := P9.mono (s10.trans s11) (Nat.le_refl _)
        have ep : eA ≠ p := (P9.mono s10 (Nat.le_refl _)).ne neA
        have te : tA' ≠ eA := ne_of_none h10 neA
        have s911 := s10.trans s11
        have hL11 := s911 _ _ hL9
        have hF11 := s911 _ _ hF9
        have hC11 := s911 _ _ hC9
        have nLt : dL ≠ tA' := ne_of_none hL9 ntA'
        have nFt : fA ≠ tA' := ne_of_none hF9 ntA'
        have nCt : cA ≠ tA' := ne_of_none hC9 ntA'
        have nLe : dL ≠ eA := ne_of_none (s10 _ _ hL9) neA
        have nFe : fA ≠ eA := ne_of_none (s10 _ _ hF9) neA
        have nCe : cA ≠ eA := ne_of_none (s10 _ _ hC9) neA
        have cmx : ∀ x ∈ cm, x ∈ fx := fun x hx => hcm.subset hx
        have cml : cm.length ≤ 7 := by have := hcm.length_le; omega
        refine ⟨by show 5 ≤ sizeLine; decide, fun b5 n5 => ?_⟩
        obtain ⟨H12, s12, h12, e12⟩ := lay (o := .lst [.int 0, .int 1, .int 2, .int 3, .int 6]) n5
        rw [e12]
        have P12 := P11.mono s12 (Nat.le_refl _)
        refine ⟨_, rfl, p, 5, _, rfl, by decide, by decide, by omega, P12, fun r H13 hr13 b13 P13 => ?_⟩
        obtain ⟨c, hc6, hv⟩ : ∃ c : Nat, c ≤ 6 ∧ ([.int 0, .int 1, .int 2, .int 3, .int 6] : List V)[r]? = some (.int c) := by
          have hr5 : r < 5 := by have := hr13; omega
          match r, hr5 with
          | 0, _ => exact ⟨0, by decide, rfl⟩
          | 1, _ => exact ⟨1, by decide, rfl⟩
          | 2, _ => exact ⟨2, by decide, rfl⟩
          | 3, _ => exact ⟨3, by decide, rfl⟩
          | 4, _ => exact ⟨6, by decide, rfl⟩
        refine ⟨b5, _, _, _, rfl, rfl, SqL.of (bt_at b13 (ni1 (P11.ne n5)) h12), atI_nat hv, ?_⟩
        have hF13 := bt_at b13 (ni1 nfp) (s12 _ _ hF11)
        refine ⟨_, rfl, by show 0 ≤ sizeLine; decide, fun zA nzA => ?_⟩
        obtain ⟨H14, s14, h14, e14⟩ := lay (o := .lst []) nzA
        rw [e14]
        refine ⟨.list (pst fx), .list [], .lst (SqL.of (s14 _ _ hF13)) (dp_sts fx), .lst (SqL.of h14) .nil, sh_pst (fun v hv => ok8 v (f8 v hv)), by decide +kernel, .inr ⟨_, rfl, _, _, rfl, rfl, .inl ⟨by omega, by omega⟩, ?_⟩⟩
        rw [ne_nil]
        obtain ⟨N, hN, hN6, hNx⟩ : ∃ N : Nat, (c : Int) * (if decide (fx ≠ []) = true then 1 else 0) = (N : Int) ∧ N ≤ 6 ∧ (0 < N → fx ≠ []) := by
          by_cases h : fx = []
          · exact ⟨0, by rw [decide_eq_false (not_not_intro h)]; simp, by decide, fun z => absurd z (by decide)⟩
          · exact ⟨c, by rw [decide_eq_true h]; simp, hc6, fun _ => h⟩
        have P14 := P13.mono s14 (Nat.le_refl _)
        have B1114 : Bt [p] H11 H14 := (bt_of s12).trans (b13.trans (bt_of s14))
        refine ⟨(N : Int), congrArg (fun z => [V.int z]) hN, by omega, by omega, for_range (lo := 0) (n := N) (frI K p m aN dL fA cA tA' eA o5 ls fx cm H11 (n + 90)) ?_ ?_ ?_⟩
        · refine ⟨[], [], [], none, none, none, none, none, rfl, bt3 B1114, bt_at B1114 (ni1 tp) (s11 _ _ h10), bt_at B1114 (ni1 ep) h11, .nil, .nil, Nat.zero_le _, (fun _ h => nomatch h), List.nodup_nil, rfl, P14.mono (Same.refl _) (by omega)⟩
        · rintro k σ H15 hk ⟨fs, ts, ks, o6, o10, o11, o12, o13, rfl, B15, hT15, hE15, hts, hks, hfl, hfo, hfd, hkl, P15⟩
          have hFx : hid [p, tA', eA] H15 fA = some (.lst (sts fx)) := B15 _ _ (hid_to (ni3 nfp nFt nFe) hF11)
          have hF15 := (hid_in hFx).1
          have hL15 := bt_at B15 (ni3 ndp nLt nLe) hL11
          have hC15 := bt_at B15 (ni3 cp nCt nCe) hC11
          refine ⟨_, rfl, _, rfl, p, fA, sts fx, _, rfl, SqL.of (hid_to (ni1 nfp) hF15), ?_, (by rw [sts_len]; omega), (by omega), P15, fun v H16 hv16 b16 P16 => ?_⟩
          · have := hNx (by omega)
            cases fx with
            | nil => exact absurd rfl this
            | cons y z => exact fun e => nomatch e
          obtain ⟨x, hx, rfl⟩ := mem_sts hv16
          obtain ⟨kx, hkx⟩ := fin x hx
          have kx2 : kx ≤ 2 := har _ hkx
          have hL16 := bt_at b16 (ni1 ndp) hL15
          refine ⟨_, rfl, _, rfl, dL, .int kx, rfl, (by rw [← valV_lkv lnd hkx]; exact DGet.k (k := .inr x) hL16), kx, rfl, by omega, by omega, fun D nD => lc_range (lo := 0) (n := kx) (fun i H' => ∃ vs : List Str, Bt [p, D] H16 H' ∧ H' D = some (.lst (sts vs)) ∧ vs.length = i ∧ (∀ v ∈ vs, v ∈ va3) ∧ PoolIs H' p (n + 90 + 5 * k + 1 + i))
            ⟨[], bt_upd (by simp), upd_same, rfl, (fun _ h => nomatch h), (by
              obtain ⟨x, y, z, e, r⟩ := P16
              exact ⟨x, y, z, by rw [upd_ne (ne_of_none e nD)]; exact e, r⟩)⟩ ?_ ?_⟩
          · rintro i H17 hi ⟨vs, B17, hD17, hvl, hv3, P17⟩
            have Dp1 : D ≠ p := P16.ne nD
            refine ⟨rfl, _, rfl, by show 3 ≤ sizeLine; decide, fun b3 nb3 => ?_⟩
            obtain ⟨H18, s18, h18, e18⟩ := lay (o := .lst [.str "one", .str "two", .str "false"]) nb3
            rw [e18]
            refine ⟨p, b3, sts va3, _, rfl, SqL.of (hid_to (ni1 (P17.ne nb3)) h18), (fun z => nomatch z), by decide, by omega, P17.mono s18 (Nat.le_refl _), fun v H19 hv19 b19 P19 => ?_⟩
            obtain ⟨u, hu, rfl⟩ := mem_sts hv19
            have hD19 := bt_at b19 (ni1 Dp1) (s18 _ _ hD17)
            refine ⟨_, hD19, (by rw [sts_len, sizeLine_eq]; omega), vs ++ [u], ?_, ?_, ?_, ?_, ?_⟩
            · exact B17.trans ((bt_of s18).trans ((bt_weak (by simp) b19).trans (bt_upd (by simp))))
            · rw [upd_same]; unfold sts; rw [List.map_append]; rfl
            · rw [List.length_append, hvl]; rfl
            · intro v hv
              rcases List.mem_append.mp hv with h | h
              · exact hv3 v h
              · rw [List.mem_singleton.mp h]; exact hu
            · obtain ⟨x, y, z, e, r⟩ := P19
              exact ⟨x, y, z, by rw [upd_ne Dp1.symm]; exact e, r⟩
          · rintro H17 ⟨vs, B17, hD17, hvl, hv3, P17⟩
            have Dp1 : D ≠ p := P16.ne nD
            have nDx : ∀ {b : Addr} {o : HO}, H16 b = some o → b ≠ D := fun e => ne_of_none e nD
            have B1617 : ∀ {qs : List Addr}, p ∈ qs → Bt qs H16 H17 := fun {qs} hq b o e => by
              obtain ⟨e', nb⟩ := hid_in e
              refine hid_to nb (bt_at B17 ?_ e')
              intro mm
              simp only [List.mem_cons, List.not_mem_nil, or_false] at mm
              rcases mm with rfl | rfl
              · exact nb hq
              · exact nDx e' rfl
            have B1517 : Bt [p, tA', eA] H15 H17 := (bt3 b16).trans (B1617 (by simp))
            have B1117 := B15.trans B1517
            have hT16 := bt_at b16 (ni1 tp) hT15
            have hE16 := bt_at b16 (ni1 ep) hE15
            have hT17 := bt_at B17 (by simp [tp, nDx hT16]) hT16
            have hE17 := bt_at B17 (by simp [ep, nDx hE16]) hE16
            have hC17 := bt_at B1117 (ni3 cp nCt nCe) hC11
            have Dn3 : D ∉ [p, tA', eA] := ni3 Dp1 (nDx hT16).symm (nDx hE16).symm
            have v2l : vs.length ≤ 2 := by omega
            have okx : PyData.strOk x = true := ok8 x (f8 x hx)
            have lts : ts.length ≤ 100 := by
              have := Paired.length hts
              omega
            have askok : ∀ f, f.Ok ls fx → OkS ((GD.mk ls fx cm []).asked f) := fun f hf => ⟨ok8 _ (f8 _ hf.x), fun v hv => by
              have e : v ∈ f.vals := by
                unfold GD.asked at hv
                dsimp only at hv
                split at hv
                · have hp := sort2_perm f.vals
                  exact hp.subset hv
                · exact hv
              exact ok3 v (hf.vals v e)⟩
            have oks : ∀ a ∈ fs.map (GD.mk ls fx cm []).asked, OkS a := fun a ha => by
              obtain ⟨f, hf, rfl⟩ := List.mem_map.mp ha
              exact askok f (hfo f hf)
            have fOk : ∀ kk en : Str, (kk = "value" ∨ kk = "fail") → (en = "one" ∨ en = "false") → Fact.Ok ls fx ⟨x, vs, kk, en⟩ := fun kk en h1 h2 => ⟨hx, ⟨kx, hkx, hvl⟩, hv3, h1, h2⟩
            have tail : ∀ (H18 : Hp) (kT : Addr) (l : List Str), Same H17 H18 → (GD.mk ls fx cm []).asked ⟨x, vs, "value", "one"⟩ = (x, l) →
                ((x, l) ∈ fs.map (GD.mk ls fx cm []).asked → frI K p m aN dL fA cA tA' eA o5 ls fx cm H11 (n + 90) (k + 1) [some (.ref p), some (.int m), some (.ref aN), some (.ref dL), some (.ref fA), o5, some (.str x), some (.ref cA), some (.ref tA'), some (.ref eA), some (.int (0 + (k : Int))), some (.ref D), some (.ref kT), o13, none] H18) ∧
                ((x, l) ∉ fs.map (GD.mk ls fx cm []).asked → ∀ (H' : Hp) (t : Addr) (kk en : Str) (s13' : Option V), Bt [p, tA', eA] H18 H' → H' tA' = some (.lst ((ts ++ [t]).map V.ref)) → H' eA = some (.lst ((ks ++ [kT]).map V.ref)) → FactAt (hid [p, tA', eA] H') ⟨x, vs, kk, en⟩ t →
                  DpAll K (hid [p, tA', eA] H') ((ks ++ [kT]).map V.ref) ((fs.map (GD.mk ls fx cm []).asked ++ [(x, l)]).map kd) → (kk = "value" ∨ kk = "fail") → (en = "one" ∨ en = "false") → PoolIs H' p (n + 90 + 5 * k + 1 + kx + 2) →
                  frI K p m aN dL fA cA tA' eA o5 ls fx cm H11 (n + 90) (k + 1) [some (.ref p), some (.int m), some (.ref aN), some (.ref dL), some (.ref fA), o5, some (.str x), some (.ref cA), some (.ref tA'), some (.ref eA), some (.int (0 + (k : Int))), some (.ref D), some (.ref kT), s13', none] H') := fun H18 kT l s18 hask => by
              refine ⟨fun _ => ⟨fs, ts, ks, _, _, _, _, _, rfl, B1117.trans (bt_of s18), s18 _ _ hT17, s18 _ _ hE17, Paired.mapP hts fun _ _ r => r.mono (B1517.trans (bt_of s18)), dps_mono (B1517.trans (bt_of s18)) hks, (by omega), hfo, hfd, hkl, P17.mono s18 (by omega)⟩, fun hnew H' t kk en s13' b' hT' hE' hf' hs' h1 h2 P' => ?_⟩
              have eq : (GD.mk ls fx cm []).asked ⟨x, vs, kk, en⟩ = (x, l) := hask
              refine ⟨fs ++ [⟨x, vs, kk, en⟩], ts ++ [t], ks ++ [kT], _, _, _, _, _, rfl, (B1117.trans (bt_of s18)).trans b', hT', hE', ?_, ?_, ?_, ?_, ?_, ?_, P'.mono (Same.refl _) (by omega)⟩
              · exact paired_app (Paired.mapP hts fun _ _ r => r.mono ((B1517.trans (bt_of s18)).trans b')) (.cons hf' .nil)
              · rw [List.map_append (f := (GD.mk ls fx cm []).asked)]
                show DpAll K _ _ ((fs.map (GD.mk ls fx cm []).asked ++ [(GD.mk ls fx cm []).asked ⟨x, vs, kk, en⟩]).map kd)
                rw [eq]
                exact hs'
              · rw [List.length_append]
                show fs.length + 1 ≤ k + 1
                omega
              · intro f hf
                rcases List.mem_append.mp hf with h | h
                · exact hfo f h
                · rw [List.mem_singleton.mp h]; exact fOk kk en h1 h2
              · rw [List.map_append, List.nodup_append]
                refine ⟨hfd, by simp, fun a ha b hb e => ?_⟩
                have hb' : b = (GD.mk ls fx cm []).asked ⟨x, vs, kk, en⟩ := List.mem_singleton.mp hb
                rw [hb', eq] at e
                rw [e] at ha
                exact hnew ha
              · rw [List.length_append, List.length_append, hkl]
                rfl
            refine ⟨_, rfl, _, rfl, _, rfl, cA, sts cm, rfl, .inl (SqL.of hC17), rfl, flat_sts cm, _, rfl, ?_⟩
            rw [if_neg Bool.false_ne_true, inV_sts]
            by_cases hxc : x ∈ cm
            · rw [decide_eq_true hxc]
              refine iteT ⟨_, rfl, D, vs, rfl, SqL.of hD17, by omega, fun ys q2 hperm hsrt nq2 => ?_⟩
              obtain ⟨H18, s18, h18, e18⟩ := lay (o := .lst (ys.map V.str)) nq2
              rw [e18]
              refine ⟨by show 2 ≤ sizeLine; decide, fun kT nkT => ?_⟩
              obtain ⟨H19, s19, h19, e19⟩ := lay (o := .tup [.str x, .ref q2]) nkT
              rw [e19]
              have ey : ys = sort2 vs := sort2_of hperm hsrt v2l hv3
              have s1719 := s18.trans s19
              have hask : (GD.mk ls fx cm []).asked ⟨x, vs, "value", "one"⟩ = (x, ys) := by
                rw [ey]
                show (x, if x ∈ cm then sort2 vs else vs) = (x, sort2 vs)
                rw [if_pos hxc]
              have q2n : q2 ∉ [p, tA', eA] := ni3 (P17.ne nq2) (ne_of_none hT17 nq2).symm (ne_of_none hE17 nq2).symm
              exact fact_tail (P17.mono s1719 (Nat.le_refl _)) (by omega) (s1719 _ _ hT17) (s1719 _ _ hE17) tp ep te lts (by omega) h19 (s19 _ _ h18) q2n (s1719 _ _ hD17) Dn3 (dps_mono (B1517.trans (bt_of s1719)) hks) oks
                ⟨okx, fun v hv => ok3 v (hv3 v (hperm.subset hv))⟩ (tail H19 kT ys s1719 hask).1 (tail H19 kT ys s1719 hask).2
            · rw [decide_eq_false hxc]
              refine iteF ⟨_, rfl, by show 2 ≤ sizeLine; decide, fun kT nkT => ?_⟩
              obtain ⟨H19, s19, h19, e19⟩ := lay (o := .tup [.str x, .ref D]) nkT
              rw [e19]
              have hask : (GD.mk ls fx cm []).asked ⟨x, vs, "value", "one"⟩ = (x, vs) := by
                show (x, if x ∈ cm then sort2 vs else vs) = (x, vs)
                rw [if_neg hxc]
              exact fact_tail (P17.mono s19 (Nat.le_refl _)) (by omega) (s19 _ _ hT17) (s19 _ _ hE17) tp ep te lts (by omega) h19 (s19 _ _ hD17) Dn3 (s19 _ _ hD17) Dn3 (dps_mono (B1517.trans (bt_of s19)) hks) oks
                ⟨okx, fun v hv => ok3 v (hv3 v hv)⟩ (tail H19 kT vs s19 hask).1 (tail H19 kT vs s19 hask).2
        · rintro σ H15 ⟨fs, ts, ks, o6, o10, o11, o12, o13, rfl, B15, hT15, hE15, hts, hks, hfl, hfo, hfd, hkl, P15⟩
          have hFx := bt_at B15 (ni3 nfp nFt nFe) hF11
          have hLx := bt_at B15 (ni3 ndp nLt nLe) hL11
          have hCx := bt_at B15 (ni3 cp nCt nCe) hC11
          have ntH : ∀ {b : Addr} {o : HO}, H b = some o → b ≠ p → b ∉ [p, tA', eA] := fun e np => by
            have e9 := bt_at B9' (ni1 np) e
            exact ni3 np (ne_of_none e9 ntA') (ne_of_none (s10 _ _ e9) neA)
          have B015 : Bt [p] H H15 := fun b o e => by
            obtain ⟨e', nb⟩ := hid_in e
            have np : b ≠ p := fun z => nb (by rw [z]; exact List.mem_cons_self)
            exact hid_to nb (bt_at B15 (ntH e' np) (s911 _ _ (bt_at B9' nb e')))
          refine ⟨_, rfl, by show 2 ≤ sizeLine; decide, fun t1 n1 => ?_⟩
          obtain ⟨G1, g1, k1, e1⟩ := lay (o := .tup [.str "letters", .ref dL]) n1
          rw [e1]
          refine ⟨_, rfl, by show 2 ≤ sizeLine; decide, fun t2 n2 => ?_⟩
          obtain ⟨G2, g2, k2, e2⟩ := lay (o := .tup [.str "fixed", .ref fA]) n2
          rw [e2]
          refine ⟨_, rfl, by show 2 ≤ sizeLine; decide, fun t3 n3 => ?_⟩
          obtain ⟨G3, g3, k3, e3⟩ := lay (o := .tup [.str "commuting", .ref cA]) n3
          rw [e3]
          refine ⟨_, rfl, by show 2 ≤ sizeLine; decide, fun t4 n4 => ?_⟩
          obtain ⟨G4, g4, k4, e4⟩ := lay (o := .tup [.str "facts", .ref tA']) n4
          rw [e4]
          refine ⟨by show 4 ≤ sizeLine; decide, fun tl ntl => ?_⟩
          obtain ⟨G5, g5, k5, e5⟩ := lay (o := .lst [.ref t1, .ref t2, .ref t3, .ref t4]) ntl
          rw [e5]
          refine ⟨tl, [t1, t2, t3, t4], [(.inr "letters", .ref dL), (.inr "fixed", .ref fA), (.inr "commuting", .ref cA), (.inr "facts", .ref tA')], rfl, SqL.of k5,
            .cons (SqT.of (g5 _ _ (g4 _ _ (g3 _ _ (g2 _ _ k1))))) (.cons (SqT.of (g5 _ _ (g4 _ _ (g3 _ _ k2)))) (.cons (SqT.of (g5 _ _ (g4 _ _ k3))) (.cons (SqT.of (g5 _ _ k4)) .nil))), fun g ng => ?_⟩
          obtain ⟨G6, g6, k6, e6⟩ := lay (o := .dK [(.inr "letters", .ref dL), (.inr "fixed", .ref fA), (.inr "commuting", .ref cA), (.inr "facts", .ref tA')]) ng
          have em : mergeK [] [((.inr "letters" : Key), V.ref dL), (.inr "fixed", .ref fA), (.inr "commuting", .ref cA), (.inr "facts", .ref tA')] = [(.inr "letters", .ref dL), (.inr "fixed", .ref fA), (.inr "commuting", .ref cA), (.inr "facts", .ref tA')] := by rfl
          show Q (.ref g) (upd G5 g (.dK (mergeK [] [((.inr "letters" : Key), V.ref dL), (.inr "fixed", .ref fA), (.inr "commuting", .ref cA), (.inr "facts", .ref tA')])))
          rw [em, e6]
          have s156 : Same H15 G6 := ((((g1.trans g2).trans g3).trans g4).trans g5).trans g6
          have gp : g ≠ p := (P15.mono ((((g1.trans g2).trans g3).trans g4).trans g5) (Nat.le_refl _)).ne ng
          refine q g ⟨ls, fx, cm, fs⟩ G6 (B015.trans (bt_of s156)) ⟨dL, fA, cA, tA', hid_to (ni1 gp) k6, hid_to (ni1 ndp) (s156 _ _ hLx), hid_to (ni1 nfp) (s156 _ _ hFx), hid_to (ni1 cp) (s156 _ _ hCx), ts, hid_to (ni1 tp) (s156 _ _ hT15), Paired.mapP hts fun _ _ r => r.mono ((hid_less (by simp)).trans (hid_same s156))⟩ ?_ (by show (ls.length : Int) ≤ m; have := congrArg List.length hls; rw [List.length_map] at this; omega) (fun q hq => nsub8 q.1 (by rw [← hls]; exact List.mem_map.mpr ⟨q, hq, rfl⟩)) (P15.mono s156 (by omega))
          refine ⟨?_, lnd, ?_, (show ls.length ≤ 8 by have := congrArg List.length hls; rw [List.length_map] at this; omega), har, ?_, hcm, hc2, (show fs.length ≤ 6 by omega), hfo, hfd⟩
          · intro e
            have : ls.length = 0 := by
              have e' : ls = [] := e
              rw [e']; rfl
            have := congrArg List.length hls
            rw [List.length_map] at this
            omega
          · intro q hq
            refine nsub q.1 ?_
            rw [← hls]
            exact List.mem_map.mpr ⟨q, hq, rfl⟩
          · show fx.Sublist (ls.map (·.1))
            rw [hls]
            exact hfx
    --END
end
end K39
set_option Elab.async false
set_option linter.all false
set_option maxRecDepth 100000
set_option maxHeartbeats 8000000
namespace K39
open PySem PySem.Spec L2 GB
def spMade2 (C : Addr) : Sp := fun vs H Q _ => ∃ (g : Addr) (gd : GD), vs = [.ref g] ∧ IsG H g gd ∧ gd.Fit ∧ ∀ G H', H G = none → Same H H' → IsGr2 C H' G gd → Q (.ref G) H'
section
variable {P : Program} {w : World} {K : PySem.W.Frag} {mg : Str → Option Value} {base : Heap} {C : Addr}
theorem ok_made2 {f fI : Addr} {fd fdI : FuncData} (F : Fun K "_law_made" "_law_made" sMade f fd) (MK : Mk K C fI) (FI : FnOk P w K mg base CX0 5 fI fdI ["self", "letters", "fixed", "commuting", "facts"] (spGI2 K C)) {ds : List Value} (bI : Binds K fdI ["self", "letters", "fixed", "commuting", "facts"] []) (gC : mg "Ground" = some (.ref C)) :
    FnOk P w K mg base CX0 7 f fd ["_law_g"] (spMade2 C) := by
  refine F.ok scMade (fun vs H Q E h => ?_) (fun cdv A outer s H vs Q E hr h => ?_)
  · obtain ⟨g, gd, rfl, _⟩ := h
    rfl
  · obtain ⟨g, gd, rfl, hG, fit, q⟩ := h
    refine ⟨_, pss_one (ps_ret (pe_make MK FI hr rfl gC bI .nil pass0 (pa_cons (pe_dget (hu_of hr) (pv 0) (pe_str) (fun _ _ => rfl)) (pa_cons (pe_dget (hu_of hr) (pv 0) (pe_str) (fun _ _ => rfl)) (pa_cons (pe_dget (hu_of hr) (pv 0) (pe_str) (fun _ _ => rfl)) (pa_cons (pe_dget (hu_of hr) (pv 0) (pe_str) (fun _ _ => rfl)) (pa_nil))))))), ?_⟩
    obtain ⟨aL, aF, aC, aT, g1, g2, g3, g4, g5⟩ := hG.ex
    have v1 : valV [(.inr "letters", .ref aL), (.inr "fixed", .ref aF), (.inr "commuting", .ref aC), (.inr "facts", .ref aT)] (.inr "letters" : Key) = some (.ref aL) := by rfl
    have v2 : valV [(.inr "letters", .ref aL), (.inr "fixed", .ref aF), (.inr "commuting", .ref aC), (.inr "facts", .ref aT)] (.inr "fixed" : Key) = some (.ref aF) := by rfl
    have v3 : valV [(.inr "letters", .ref aL), (.inr "fixed", .ref aF), (.inr "commuting", .ref aC), (.inr "facts", .ref aT)] (.inr "commuting" : Key) = some (.ref aC) := by rfl
    have v4 : valV [(.inr "letters", .ref aL), (.inr "fixed", .ref aF), (.inr "commuting", .ref aC), (.inr "facts", .ref aT)] (.inr "facts" : Key) = some (.ref aT) := by rfl
    obtain ⟨ts, k1, k2⟩ := g5
    refine ⟨_, rfl, g, .ref aL, rfl, (by rw [← v1]; exact DGet.k (k := .inr "letters") g1), _, rfl, g, .ref aF, rfl, (by rw [← v2]; exact DGet.k (k := .inr "fixed") g1), _, rfl, g, .ref aC, rfl, (by rw [← v3]; exact DGet.k (k := .inr "commuting") g1), _, rfl, g, .ref aT, rfl, (by rw [← v4]; exact DGet.k (k := .inr "facts") g1), fun x dx nx ndx nex => ?_⟩
    exact gr_make g2 (.inl (SqL.of g3)) (.inl (SqL.of g4)) ⟨ts, .inl (SqL.of k1), Paired.mapP k2 fun _ _ r => r.any⟩ fit (fun G H' n s gr => q G H' n s (gr [] (fun _ h => nomatch h))) x dx nx ndx nex
end
end K39
set_option Elab.async false
set_option linter.all false
set_option maxRecDepth 100000
set_option maxHeartbeats 4000000
/-! list(o): o of a class with its own __iter__ that gives a new iterator over a list, and its own __len__. -/
namespace GB
open PySem PySem.Spec L2 PyProof.Rows ItX
section
variable {X : Cx} {pins : List (Addr × Obj)} {σ : L2.St}
theorem fpOk_to {H H' : Hp} {b : Addr} (h : FpOk X pins H b) (n : H' b = none) : FpOk X pins H' b := ⟨n, h.2⟩
theorem lit_loop {A1 : Around} {Rs : Result → Shared → Prop} {Hd : Hp} {q it l : Addr} {ys : List V} {n0 : Nat} (sb : Sub X n0 A1.in1) (hh : A1.in1.handled = none) (hz : ys.length ≤ sizeLine) (qi : q ≠ it) (hdi : Hd it = none) (hl : ∀ zs, SqL X.K (upd Hd q (.lst zs)) l ys)
    (hdone : ∀ s, Inv X pins σ (upd Hd q (.lst ys)) s → Rs (.ok (.ret .none)) s) :
    ∀ (k i : Nat) (s : Shared), ys.length - i = k → i ≤ ys.length → Inv X pins σ (upd Hd q (.lst (ys.take i))) s → FpOk X pins Hd it → s.heap.IsListIter it l i → codeAny (model X.prog X.w) A1 (.builtin "list.extend.loop" ⟨[.ref q, .ref it, .none], []⟩) Rs s := by
  intro k
  induction k with
  | zero =>
    intro i s hk hi I hf st
    have e : i = ys.length := by omega
    subst e
    rw [List.take_length] at I
    refine codeAny_builtin PySem.F.entry_extend_loop ?_
    rw [Around.under_plainId PySem.F.plain_extend_loop _]
    show wpAny _ A1.in1 (pyNext (.ref it) >>= _) _ _ s
    obtain ⟨its, rv, p, _⟩ := I.list (hl ys)
    have hl2 := rv.length
    obtain ⟨f0, f1, f2, f3, f4, f5⟩ := fpOk_to hf (show (upd Hd q (.lst ys)) it = none by rw [upd_ne qi.symm]; exact hdi)
    exact wpAny_bind (wpAny_pyNext_list_end hh st p.isList (by simp; omega) fun h' eb => wpAny_pure (hdone _ (I.turned (t' := s.toks) (fun b o hb e => eb b o hb e) f0 f1 f3 f4 f5)))
  | succ k ih =>
    intro i s hk hi I hf st
    have hlt : i < ys.length := by omega
    refine codeAny_builtin PySem.F.entry_extend_loop ?_
    rw [Around.under_plainId PySem.F.plain_extend_loop _]
    show wpAny _ A1.in1 (pyNext (.ref it) >>= _) _ _ s
    obtain ⟨its, rv, p, _⟩ := I.list (hl (ys.take i))
    have hx : ys[i]? = some ys[i] := List.getElem?_eq_getElem hlt
    obtain ⟨u, hu, ru⟩ := rv.get hx
    obtain ⟨f0, f1, f2, f3, f4, f5⟩ := fpOk_to hf (show (upd Hd q (.lst (ys.take i))) it = none by rw [upd_ne qi.symm]; exact hdi)
    refine wpAny_bind (wpAny_pyNext_list_item st p.isList (x := u) (by simpa using hu) fun h' st' sb' => ?_)
    have I1 : Inv X pins σ (upd Hd q (.lst (ys.take i))) { s with heap := h' } := I.turned (t' := s.toks) (fun b o hb e => (sb'.2 b hb).trans e) f0 f1 f3 f4 f5
    show wpAny _ A1.in1 (updateSeq q (·.push u) >>= _) _ _ _
    obtain ⟨z, its2, c, r2, hl2, e⟩ := I1.lstM upd_same
    have lt : (ys.take i).length = i := by rw [List.length_take]; omega
    have li := r2.length
    refine wpAny_bind (wpAny_updateSeq e rfl (wpAny_pure ⟨plainId_quiet PySem.F.plain_extend_loop _, ?_⟩) (by rw [List.size_toArray]; omega) (by show (its2.toArray.push u).size ≤ sizeLine + 1; rw [Array.size_push, List.size_toArray]; omega))
    have I2 := I1.lset (f := (·.push u)) (its' := its2 ++ [u]) (ys := ys.take i ++ [ys[i]]) (t' := s.toks) upd_same e (by simp) (r2.append (.cons ru .nil)) (by rw [List.length_append, List.length_singleton]; omega)
    rw [upd_upd, ← take_at hx] at I2
    refine ih (i + 1) _ (by omega) hlt I2 hf ?_
    exact st'.at fun o eo => (Heap.get?_update_other _ _ qi).trans eo
/-- what the hint asks: the own __len__ -/
theorem own_lenHint {A : Around} {H : Hp} {s : Shared} {a C f dx : Addr} {fd : FuncData} {n : Nat} {ps : List Str} {sp : Sp} {as : List (Str × V)} {Q : Bool → Shared → Prop} (sb : Sub X n A.in1) (hs : PySem.W.findIn X.K (.ref C) "__len__" = some (some (.ref f))) (hf : PySem.W.isFn X.K (.ref f) = true) (F : FnOk X.prog X.w X.K X.mg X.base CX0 n f fd ps sp) (hb : Binds X.K fd ps [])
    (I : Inv X pins σ H s) (ha : H a = some (.ins C dx as)) (hsp : sp [.ref a] H (fun z H' => ∃ m : Nat, z = .int m ∧ m ≤ sizeLine ∧ H' = H) E0) (hQ : ∀ b s', Inv X pins σ H s' → Q b s') :
    wpAny (model X.prog X.w) A (Builtin.List.listLengthHint (.ref a)) Q X.xe s := by
  obtain ⟨mA, J, _⟩ := ins_get I.hok ha
  obtain ⟨od, J, _⟩ := J.look
  obtain ⟨m0, hF⟩ := I.fr
  unfold Builtin.List.listLengthHint
  refine wpAny_bind (wpAny_bind (J.type.here ((PySem.W.looks_findIn I.kIn hs).here ?_)))
  refine PySem.W.KFB.if_not rfl ?_
  refine wpAny_ite_split (fun _ => ?_) fun z => absurd rfl z
  refine wpAny_bind (wpAny_rule ?_)
  have r2 : Vals [V.ref a] [Value.ref a] := .cons rfl .nil
  have hl := F.len _ _ _ _ hsp
  have e0 : Env0 X.prog X.w X.K X.mg X.base A.in1 X.stack s H := by
    have e := I.env0
    exact ⟨by rw [sb.fr]; exact e.frames, e.mod, e.bs, e.bsz, e.funs, e.frf, e.hok, e.bare⟩
  refine wpAny_bind (wpAny_attempt (PySem.W.len_K hF I.ok.mod.kin J hs hf (wpAny_call (codeAny_mono (F.run A.in1 X.stack s H ⟨[.ref a], []⟩ [.ref a] [.ref a] _ E0 sb.room e0 (by
    have := hb s [.ref a] I.kIn (by simpa using hl)
    simpa using this) r2 hsp) fun r s' hq => ?_))))
  cases r with
  | error e => exact False.elim hq
  | ok fl =>
    cases fl with
    | next => exact False.elim hq
    | brk => exact False.elim hq
    | cont => exact False.elim hq
    | ret u =>
      obtain ⟨z', H', I', rz, n', e, hn, eH⟩ := I.after hq
      subst e
      rw [eH] at I'
      obtain ⟨t, e⟩ := (show ∃ t, u = Value.int n' t from rz)
      subst e
      have l63 := line63
      refine ⟨⟨by omega, by omega⟩, ?_⟩
      refine wpAny_bind (m := asInt? _) (wpAny_pure ?_)
      refine PySem.W.KFB.if_not (by show decide ((n' : Int).toNat > sizeLine) = false; exact decide_eq_false (by rw [Int.toNat_natCast]; omega)) ?_
      exact wpAny_pure (hQ _ _ (I'.tok _))
/-- list(o) -/
def rListIt (K : PySem.W.Frag) (C : Addr) (spI : Nat → Sp) (spL : Sp) (n0 : Nat) : List V → Hp → VK → Prop := fun xs H Q => ∃ a dx as, xs = [.ref a] ∧ H a = some (.ins C dx as) ∧ ∀ q, H q = none → ∀ n, n0 ≤ n → spI n [.ref a] (upd H q (.lst [])) (fun z H' => ∃ l it ys dx as, z = .ref it ∧ n0 ≤ it ∧ H' it = some (ItO l it 0) ∧ H' a = some (.ins C dx as) ∧
  spL [.ref a] H' (fun z H'' => ∃ m : Nat, z = .int m ∧ m ≤ sizeLine ∧ H'' = H') E0 ∧ H' q = some (.lst []) ∧ (∀ zs, SqL K (upd (dropH H' it) q (.lst zs)) l ys) ∧ ys.length ≤ sizeLine ∧ Q (.ref q) (upd (dropH H' it) q (.lst ys))) E0
theorem lit_extend {A1 : Around} {Rs : Result → Shared → Prop} {H : Hp} {s : Shared} {a q C f fl dx : Addr} {fd fdl : FuncData} {k : Nat} {psI psL : List Str} {spI : Nat → Sp} {spL : Sp} {as : List (Str × V)} (sb : Sub X (k + 1) A1.in1) (hh : A1.in1.handled = none)
    (hsI : PySem.W.findIn X.K (.ref C) "__iter__" = some (some (.ref f))) (hfI : PySem.W.isFn X.K (.ref f) = true) (FI : FnN X.prog X.w X.K X.mg X.base k f fd psI spI) (bI : Binds X.K fd psI [])
    (hsL : PySem.W.findIn X.K (.ref C) "__len__" = some (some (.ref fl))) (hfL : PySem.W.isFn X.K (.ref fl) = true) (FL : FnOk X.prog X.w X.K X.mg X.base CX0 k fl fdl psL spL) (bL : Binds X.K fdl psL [])
    (I : Inv X pins σ (upd H q (.lst [])) s) (hn : H q = none) (ha : (upd H q (.lst [])) a = some (.ins C dx as)) (Q : VK) (hsp : ∀ n, X.s_0.heap.objs.size ≤ n → spI n [.ref a] (upd H q (.lst [])) (fun z H' => ∃ l it ys dx as, z = .ref it ∧ X.s_0.heap.objs.size ≤ it ∧ H' it = some (ItO l it 0) ∧ H' a = some (.ins C dx as) ∧
  spL [.ref a] H' (fun z H'' => ∃ m : Nat, z = .int m ∧ m ≤ sizeLine ∧ H'' = H') E0 ∧ H' q = some (.lst []) ∧ (∀ zs, SqL X.K (upd (dropH H' it) q (.lst zs)) l ys) ∧ ys.length ≤ sizeLine ∧ Q (.ref q) (upd (dropH H' it) q (.lst ys))) E0)
    (hdone : ∀ H' s, Inv X pins σ H' s → Q (.ref q) H' → Rs (.ok (.ret .none)) s) (herr : ∀ e s, X.xe e s → Rs (.error e) s) :
    wpAny (model X.prog X.w) A1.in1 (Builtin.List.listExtendWith (.ref q) (.ref a) .none)
      (fun fin s' => match fin with | .done f => Rs (.ok f) s' | .again c' => c'.quiet = true ∧ codeAny (model X.prog X.w) A1 c' Rs s') (fun e s' => Rs (.error e) s') s := by
  have hne : q ≠ a := ne_of upd_same ha (fun z => nomatch z)
  obtain ⟨mA, J, _⟩ := ins_get I.hok ha
  obtain ⟨od, J, _⟩ := J.look
  obtain ⟨m0, hF⟩ := I.fr
  unfold Builtin.List.listExtendWith
  refine wpAny_bind (J.type.here ?_)
  have h1 : Builtin.List.listSameRef (.ref q) (.ref a) = false := by simp [Builtin.List.listSameRef, hne]
  have h2 : (Value.ref C == Value.type "list") = false := rfl
  have h3 : (Value.ref C == Value.type "tuple") = false := rfl
  simp only [h1, h2, h3, Bool.or_false, Bool.false_eq_true, if_false]
  refine wpAny_bind (PySem.W.owit_iter hF I.ok.mod.kin J hsI hfI ?_)
  have e0 : Env0 X.prog X.w X.K X.mg X.base A1.in1 X.stack s (upd H q (.lst [])) := by
    have e := I.env0
    exact ⟨by rw [sb.fr]; exact e.frames, e.mod, e.bs, e.bsz, e.funs, e.frf, e.hok, e.bare⟩
  have q0 := hsp _ I.sz
  have r2 : Vals [V.ref a] [Value.ref a] := .cons rfl .nil
  have hl : ([Value.ref a] ++ ([] : List Value)).length = psI.length := by
    rw [List.append_nil, ← r2.length]; exact FI.len _ _ _ _ _ q0
  refine wpAny_call (codeAny_mono (FI.run A1.in1 X.stack s _ ⟨[.ref a], []⟩ ([.ref a] ++ []) ([.ref a] ++ []) _ E0 (sb.mono (Nat.le_succ _)).room e0 (bI s [.ref a] I.kIn hl) (r2.append .nil) q0) fun r s' hq => ?_)
  cases r with
  | error e => exact False.elim hq
  | ok fl' =>
    cases fl' with
    | next => exact False.elim hq
    | brk => exact False.elim hq
    | cont => exact False.elim hq
    | ret u =>
      obtain ⟨z', H', I', rz, l, it, ys, dx', as', ez, hn', hi, ha', hL, hq', hl', hz, qz⟩ := I.after hq
      subst ez
      cases (show u = Value.ref it from rz)
      have eo := itO_get I' hi
      have hT : s'.TypeIs (.ref it) "list_iterator" := ⟨_, eo, rfl⟩
      show PySem.W.OwitIt _ _ _ _ _ _
      unfold PySem.W.OwitIt
      refine wpAny_specialOf (name := Str.ofString "__next__") hT slot_listiter_next.lookup ?_
      have sbL : Sub X k A1.in1.in1 := sb.in1
      refine wpAny_bind (wpAny_holding (wpAny_mono (own_lenHint (A := A1.in1) sbL hsL hfL FL bL I' ha' hL (Q := fun _ s2 => Inv X pins σ H' s2) fun _ _ h => h) (fun b s2 I2 => ?_) fun e s2 z => herr e s2 z))
      have eo2 := itO_get I2 hi
      have st2 : s2.heap.IsListIter it l 0 := ⟨_, eo2, rfl, rfl⟩
      have qi : q ≠ it := ne_of hq' hi (fun z => nomatch z)
      have I3 := inv_drop I2 (by unfold ItO at hi; exact hi)
      have hf := inv_fp I2 hi hn'
      have hdq : (dropH H' it) q = some (.lst []) := by rw [dropH_ne qi]; exact hq'
      have hH : upd (dropH H' it) q (.lst []) = dropH H' it := by
        funext b
        by_cases hb : b = q
        · rw [hb, upd_same, hdq]
        · rw [upd_ne hb]
      have loop : ∀ s3, Inv X pins σ (upd (dropH H' it) q (.lst [])) s3 → s3.heap.IsListIter it l 0 → codeAny (model X.prog X.w) A1 (.builtin "list.extend.loop" ⟨[.ref q, .ref it, .none], []⟩) Rs s3 := fun s3 I3 st3 =>
        lit_loop (n0 := k + 1) sb hh hz qi dropH_same hl' (fun s I4 => hdone _ s I4 qz) ys.length 0 s3 rfl (Nat.zero_le _) (by rw [List.take_zero]; exact I3) hf st3
      rw [← hH] at I3
      obtain ⟨z3, its, k3, r3, hl3, e3⟩ := I3.lstM upd_same
      cases r3
      refine wpAny_ite_split (fun _ => ?_) (fun _ => wpAny_pure ⟨plainId_quiet PySem.F.plain_extend_loop _, loop s2 I3 st2⟩)
      refine wpAny_bind (wpAny_rule ?_)
      refine wpAny_bind ?_
      show wpAny _ _ (updateSeq q (·.push .none) >>= fun _ => updateSeq q (·.pop)) _ _ _
      refine wpAny_bind (wpAny_updateSeq e3 rfl ?_)
      have I4 := I3.lset (f := (·.push Value.none)) (its' := [Value.none]) (ys := [.non]) (t' := s2.toks) upd_same e3 (by simp) (.cons rfl .nil) (by rw [List.length_singleton, sizeLine_eq]; decide)
      obtain ⟨z4, its4, k4, r4, hl4, e4⟩ := I4.lstM upd_same
      obtain ⟨u4, rfl, ru4⟩ := r4.one
      refine wpAny_updateSeq e4 rfl ?_ (by show 1 ≤ sizeLine; rw [sizeLine_eq]; decide) (by show 0 ≤ sizeLine + 1; exact Nat.zero_le _)
      have I5 := I4.lset (f := (·.pop)) (its := [u4]) (its' := []) (ys := []) (t' := s2.toks) upd_same e4 (by rfl) .nil (Nat.zero_le _)
      rw [upd_upd, upd_upd] at I5
      refine wpAny_pure ⟨plainId_quiet PySem.F.plain_extend_loop _, loop _ I5 ?_⟩
      exact st2.at fun o eo => (Heap.get?_update_other _ _ qi).trans ((Heap.get?_update_other _ _ qi).trans eo)
theorem call_listIt {C f fl : Addr} {fd fdl : FuncData} {k : Nat} {psI psL : List Str} {spI : Nat → Sp} {spL : Sp} (hc : X.calm = true) (hsI : PySem.W.findIn X.K (.ref C) "__iter__" = some (some (.ref f))) (hfI : PySem.W.isFn X.K (.ref f) = true) (FI : FnN X.prog X.w X.K X.mg X.base k f fd psI spI) (bI : Binds X.K fd psI [])
    (hsL : PySem.W.findIn X.K (.ref C) "__len__" = some (some (.ref fl))) (hfL : PySem.W.isFn X.K (.ref fl) = true) (FL : FnOk X.prog X.w X.K X.mg X.base CX0 k fl fdl psL spL) (bL : Binds X.K fdl psL []) (hr : Room (k + 3) X.A) : CallR X (.type "list") (rListIt X.K C spI spL X.s_0.heap.objs.size) := by
  intro pins s σ H xs us Q I rv h
  obtain ⟨a, dx, as, rfl, ha, hq⟩ := h
  obtain ⟨u, rfl, ru⟩ := rv.one
  cases ru
  have sb : Sub X (k + 1) X.A.in1.in1 := (Sub.in1 (Sub.in1 (⟨hr, rfl⟩ : Sub X (k + 3) X.A)))
  refine callType_codes (Q₁ := fun obj s₁ => obj = .ref s.heap.objs.size ∧ s₁ = { s with heap := s.heap.push { cls := .type "list", data := .seq #[] } }) PySem.F.called_list (PySem.F.typeCall_list_1 _) PySem.F.entry_list_init
    (code_list_new _ ⟨rfl, rfl⟩) fun obj s₁ h₁ => ?_
  obtain ⟨rfl, rfl⟩ := h₁
  have hS : (s.heap.push { cls := .type "list", data := .seq #[] }).get? s.heap.objs.size = some { cls := .type "list", data := .seq #[] } := Heap.get?_push_size _ rfl
  refine ⟨⟨_, hS, rfl⟩, PySem.F.args_list_init_2 _ _, ?_⟩
  have fr : H s.heap.objs.size = none := I.hok.fresh (Nat.le_refl _)
  have I1 : Inv X pins σ (upd H s.heap.objs.size (.lst [])) { s with heap := s.heap.push { cls := .type "list", data := .seq #[] } } := I.lnew (its := []) (t' := s.toks) .nil (Nat.zero_le _)
  show wpAny _ _ (do let old ← Builtin.List.listItems (.ref s.heap.objs.size); Builtin.List.listUpdate (.ref s.heap.objs.size) (fun _ => #[]); letGo old.toList.reverse; Builtin.List.listExtendWith (.ref s.heap.objs.size) (.ref a) .none) _ _ _
  refine wpAny_bind ?_
  unfold Builtin.List.listItems
  refine wpAny_bind (wpAny_seqItems hS rfl (wpAny_pure ?_))
  show wpAny _ _ (updateSeq s.heap.objs.size (fun _ => #[]) >>= fun _ => letGo (#[] : Array Value).toList.reverse >>= fun _ => Builtin.List.listExtendWith (.ref s.heap.objs.size) (.ref a) .none) _ _ _
  refine wpAny_bind (wpAny_updateSeq hS rfl ?_)
  have I2 := I1.lset (f := fun _ => #[]) (its := []) (its' := []) (ys := []) (t' := s.toks) upd_same hS rfl .nil (Nat.zero_le _)
  rw [upd_upd] at I2
  refine wpAny_bind (wpAny_letGo ?_)
  have ha2 : upd H s.heap.objs.size (.lst []) a = some (.ins C dx as) := by rw [upd_ne (ne_of_none ha fr)]; exact ha
  exact lit_extend (A1 := X.A.in1) (Rs := wants (fun r s₂ => r = .none ∧ EP X pins σ Q (.ref s.heap.objs.size) s₂) X.xe) sb (I.ok.hd hc) hsI hfI FI bI hsL hfL FL bL I2 fr ha2 Q (hq _ fr)
    (fun H' s' I' hR => ⟨rfl, .ref s.heap.objs.size, H', I', rfl, hR⟩) (fun e s' he => he)
end
end GB
set_option Elab.async false
set_option linter.all false
set_option autoImplicit false
set_option maxRecDepth 100000
set_option maxHeartbeats 8000000
namespace GB
open PySem PySem.Spec L2
section
variable {K : PySem.W.Frag} {H : Hp} {x C dx : Addr} {as : List (Str × V)}
theorem sqL_I (hx : H x = some (.ins C dx as)) {a : Addr} {xs : List V} (h : SqL K H a xs) : SqL K (hid [x] H) a xs := by
  rcases h with (h | ⟨o, h⟩) | h
  · exact .inl (.inl (hid_to (ni1 (ne_of h hx (fun z => nomatch z))) h))
  · exact .inl (.inr ⟨o, hid_to (ni1 (ne_of h hx (fun z => nomatch z))) h⟩)
  · exact .inr h
theorem sqT_I (hx : H x = some (.ins C dx as)) {a : Addr} {xs : List V} (h : SqT K H a xs) : SqT K (hid [x] H) a xs := by
  rcases h with (h | ⟨o, h⟩) | h
  · exact .inl (.inl (hid_to (ni1 (ne_of h hx (fun z => nomatch z))) h))
  · exact .inl (.inr ⟨o, hid_to (ni1 (ne_of h hx (fun z => nomatch z))) h⟩)
  · exact .inr h
mutual
theorem dp_I (hx : H x = some (.ins C dx as)) : ∀ (d : PyData) (v : V), Dp K H v d → Dp K (hid [x] H) v d
  | .tuple ds, v, h => by cases h with | tup h1 h2 => exact .tup (sqT_I hx h1) (dps_I hx ds _ h2)
  | .list ds, v, h => by cases h with | lst h1 h2 => exact .lst (sqL_I hx h1) (dps_I hx ds _ h2)
  | .str _, v, h => by cases h; exact .str _
  | .int _, v, h => by cases h; exact .int _
  | .none, v, h => by cases h; exact .non
  | .bool _, v, h => by cases h; exact .bl _
theorem dps_I (hx : H x = some (.ins C dx as)) : ∀ (ds : List PyData) (vs : List V), DpAll K H vs ds → DpAll K (hid [x] H) vs ds
  | [], vs, h => by cases h; exact .nil
  | d :: r, vs, h => by cases h with | cons h1 h2 => exact .cons (dp_I hx d _ h1) (dps_I hx r _ h2)
end
end
end GB
namespace K39
open PySem PySem.Spec L2 GB K39t
def rLof (K : PySem.W.Frag) : List V → Hp → VK → Prop := fun xs H Q => ∃ p ys, xs = [.ref p] ∧ (SqL K H p ys ∨ SqT K H p ys) ∧ ∀ l, H l = none → Q (.ref l) (upd H l (.lst ys))
theorem call_lof {X : Cx} : CallR X (.type "list") (rLof X.K) := call_list_of
/-- a library of a ground with these functions -/
structure IsLib (K : PySem.W.Frag) (CL : Addr) (H : Hp) (x G : Addr) (fs : List FnD) : Prop where
  ex : ∃ dx as d ts, H x = some (.ins CL dx as) ∧ as.lookup ("ground" : Str) = some (.ref G) ∧ as.lookup ("_functions" : Str) = some (.ref d) ∧ H d = some (.lst (ts.map V.ref)) ∧ Paired (FunT K H) fs ts ∧ ∀ m ∈ (["functions", "wide", "inlined", "permits", "changed"] : List Str), as.lookup m = none
theorem IsLib.mono {K : PySem.W.Frag} {CL : Addr} {H H' : Hp} {x G : Addr} {fs : List FnD} (s : Same H H') (h : IsLib K CL H x G fs) : IsLib K CL H' x G fs := let ⟨dx, as, d, ts, h1, h2, h3, h4, h5, h6⟩ := h.ex; ⟨dx, as, d, ts, s _ _ h1, h2, h3, s _ _ h4, Paired.mapP h5 fun _ _ z => z.mono s, h6⟩
abbrev sLI : Stmt := inClass (topS 35) 0
abbrev sLF : Stmt := inClass (topS 35) 1
abbrev sLW : Stmt := inClass (topS 35) 2
def liN : List Str := ["self", "ground", "functions"]
def spLI (K : PySem.W.Frag) (C CL CF : Addr) (z : Nat) : Sp := fun vs H Q E => ∃ (x dx G : Addr) (R : V) (g : GD), vs = [.ref x, .ref G, R] ∧ H x = some (.ins CL dx []) ∧ IsGr2 C (hid [x] H) G g ∧ g.Own ∧ z ≤ 900 ∧
  ((∃ (a : Addr) (fs : List FnD) (ts : List V) (rest : List V), R = .ref a ∧ SqA K (hid [x] H) a (ts ++ rest) ∧ fs.length = ts.length ∧ (∀ i f v, fs[i]? = some f → ts[i]? = some v → GoodFn K (hid [x] H) (g.wide (pre (fs.take i))).letters z f v) ∧ (∀ i, i ≤ fs.length → (g.wide (pre (fs.take i))).Fit) ∧
      ((rest = [] ∧ ∀ H', Same (hid [x] H) (hid [x] H') → (∀ N : List Addr, (∀ b ∈ N, ∃ xs, hid [x] H b = some (.lst xs)) → IsLib K CL (hid N H') x G fs) → Q .non H') ∨
       (∃ y r2, rest = y :: r2 ∧ (∀ H', Same (hid [x] H) H' → BadFn K H' (g.wide (pre fs)).letters z y) ∧ ∀ d H', Same (hid [x] H) H' → H' d = some (.xd [("index", .int ((ts.length : Nat) : Int))]) → E (.ref CF) (some d) H'))) ∨
   (∃ t, (∀ H', Same (hid [x] H) H' → TyX K H' R t) ∧ PySem.W.kitAny K t [.type "list", .type "tuple"] = some false ∧ ∀ d H', Same (hid [x] H) H' → H' d = some (.xd [("index", .int 0)]) → E (.ref CF) (some d) H'))
/-- a function as data -/
def fnData (f : FnD) : PyData := .tuple [.str f.1, .tuple (pst f.2.1), f.2.2.d]
theorem dp_fn {K : PySem.W.Frag} {H : Hp} {f : FnD} {t : Addr} (h : FunT K H f t) : Dp K H (.ref t) (fnData f) := by
  obtain ⟨u, b, h1, h2, h3⟩ := h
  exact .tup (SqT.of h1) (.cons (.str _) (.cons (.tup h2 (dp_sts _)) (.cons h3 .nil)))
theorem dp_fns {K : PySem.W.Frag} {H : Hp} {fs : List FnD} {ts : List Addr} (h : Paired (FunT K H) fs ts) : DpAll K H (ts.map V.ref) (fs.map fnData) := by
  induction h with
  | nil => exact .nil
  | cons h _ ih => exact .cons (dp_fn h) ih
abbrev sLE : Stmt := inClass (topS 35) 6
def leN : List Str := ["self", "other"]
def spLE (K : PySem.W.Frag) (C CL : Addr) : Sp := fun vs H Q _ => ∃ (x G : Addr) (y : V) (g : GD) (fs : List FnD), vs = [.ref x, y] ∧ IsLib K CL H x G fs ∧ IsGr2 C H G g ∧ g.Fit ∧ SeqAt.shaped (.list (fs.map fnData)) = true ∧
  ((∃ x2 G2 g2 fs2, y = .ref x2 ∧ IsLib K CL H x2 G2 fs2 ∧ IsGr2 C H G2 g2 ∧ g2.Fit ∧ (g.letters.map (·.1) = g2.letters.map (·.1) → g.letters = g2.letters) ∧ SeqAt.shaped (.list (fs2.map fnData)) = true ∧ Q (.bl (eqG g g2 && PyData.eqv (.list (fs.map fnData)) (.list (fs2.map fnData)))) H) ∨ (∃ t, TyX K H y t ∧ PySem.W.kitOne K t (.ref CL) = some false ∧ Q (.bl false) H))
theorem GoodFn.mono {K : PySem.W.Frag} {H H' : Hp} {ls : List (Str × Nat)} {z : Nat} {f : FnD} {x : V} (s : Same H H') (h : GoodFn K H ls z f x) : GoodFn K H' ls z f x := by
  obtain ⟨a, yB, b, d, h0, h1, h2, h3, h4, h5, h6, h7, h8, h9, h10⟩ := h
  exact ⟨a, yB, b, d, h0, h1.mono s, h2, h3, h4, h5.mono s, h6, h7, h8, dp_mono s h9, h10⟩
section
variable {P : Program} {w : World} {K : PySem.W.Frag} {mg : Str → Option Value} {base : Heap} {C CL CF : Addr}
theorem scLI : FnScope liN ["self", "ground", "functions"] (defScope sLI) := ⟨rfl, rfl, rfl, by decide +kernel, rfl, by decide +kernel, by decide +kernel⟩
theorem scLF : FnScope ["self"] ["self"] (defScope sLF) := ⟨rfl, rfl, rfl, by decide +kernel, rfl, by decide +kernel, by decide +kernel⟩
theorem scLW : FnScope ["self"] ["self"] (defScope sLW) := ⟨rfl, rfl, rfl, by decide +kernel, rfl, by decide +kernel, by decide +kernel⟩
theorem ok_li {z : Nat} {f : Addr} {fd : FuncData} {dvs : List V} {kws : List (Str × V)} (F : FunD K "__init__" "Library.__init__" (defArgs sLI) (defBody sLI) (defScope sLI) dvs kws f fd) (clL : Cls K CL) (n1 : NoAttr K CL "ground") (n2 : NoAttr K CL "_functions")
    (CC : ∃ f fd, FnOk P w K mg base (L2.CX P w) (7 + 2 * z + 1) f fd ["ground", "functions"] (spCF K C CF z) ∧ mg "_checked_functions" = some (.ref f) ∧ PySem.W.keepIn K (.ref f) = true ∧ Binds K fd ["ground", "functions"] []) : FnOk P w K mg base (L2.CX P w) (8 + 2 * z + 1) f fd ["self", "ground", "functions"] (spLI K C CL CF z) := by
  obtain ⟨fC, dC, FC, gC, kC, bC⟩ := CC
  refine F.ok scLI (fun vs H Q E h => ?_) (fun cdv A outer s H vs Q E hr h => ?_)
  · obtain ⟨x, dx, G, R, g, rfl, _⟩ := h
    rfl
  · obtain ⟨x, dx, G, R, g, rfl, hx, hG, own, z9, h⟩ := h
    refine ⟨_, pss_cons (ps_fld (pv 0) (pv 1) rfl) (pss_one (ps_fld (pv 0) (pe_call FC (hr.mono (by omega)) rfl gC kC bC .nil (passes_call (takes_of rfl rfl rfl rfl) (fun _ _ _ _ h => h)) (pa_cons (pv 1) (pa_cons (pv 2) (pa_nil)))) rfl)), ?_⟩
    refine ⟨_, rfl, _, rfl, x, CL, dx, _, rfl, hx, clL, n1, by show 0 < 1000; decide, ?_⟩
    have B1 : Bt [x] H (upd H x (.ins CL dx (putF "ground" (.ref G) []))) := bt_upd (by simp)
    have h1x : (upd H x (.ins CL dx (putF "ground" (.ref G) []))) x = some (.ins CL dx (putF "ground" (.ref G) [])) := upd_same
    generalize upd H x (.ins CL dx (putF "ground" (.ref G) [])) = H1 at B1 h1x
    have S1 : Same (hid [x] H) H1 := B1.trans (hid_low _ _)
    refine ⟨_, rfl, _, rfl, G, R, g, rfl, hG.mono S1, own, z9, ?_⟩
    rcases h with ⟨a, fs, ts, rest, rfl, hR, lts, good, fit, h⟩ | ⟨t, ht, hk, q⟩
    · refine .inl ⟨a, fs, ts, rest, rfl, hR.mono S1, lts, fun i f v e1 e2 => (good i f v e1 e2).mono S1, fit, ?_⟩
      rcases h with ⟨rfl, q⟩ | ⟨y, r2, rfl, hB, qe⟩
      · refine .inl ⟨rfl, fun l us H2 nl s2 hl hus => ?_⟩
        have h2x := s2 _ _ h1x
        have lx : l ≠ x := ne_of hl h2x (fun z => nomatch z)
        refine ⟨_, rfl, x, CL, dx, _, rfl, h2x, clL, n2, by show 1 < 1000; decide, ?_⟩
        have B3 : Bt [x] H2 (upd H2 x (.ins CL dx (putF "_functions" (.ref l) (putF "ground" (.ref G) [])))) := bt_upd (by simp)
        refine q _ ((B1.trans (hid_same s2)).trans B3) fun N hN => ?_
        have hNb : ∀ b ∈ N, b ≠ x ∧ b ≠ l ∧ ∃ xs, (upd H2 x (.ins CL dx (putF "_functions" (.ref l) (putF "ground" (.ref G) [])))) b = some (.lst xs) := fun b hb => by
          obtain ⟨xs, e⟩ := hN b hb
          obtain ⟨e1, m⟩ := hid_in e
          have bx : b ≠ x := fun z => m (List.mem_singleton.mpr z)
          have e2 := S1 _ _ e
          exact ⟨bx, ne_of_none e2 nl, xs, by rw [upd_ne bx]; exact s2 _ _ e2⟩
        have xN : x ∉ N := fun m => (hNb x m).1 rfl
        have lN : l ∉ N := fun m => (hNb l m).2.1 rfl
        refine ⟨dx, _, l, us, hid_to xN upd_same, ?_, ?_, hid_to lN (by rw [upd_ne lx]; exact hl), Paired.mapP hus fun f t hf => funT_tw (TW.hid fun b hb o e => by
          obtain ⟨_, _, xs, e2⟩ := hNb b hb
          rw [e2] at e
          cases e
          rfl) (funT_tw (TW.upd fun o e => by rw [h2x] at e; cases e; rfl) hf), ?_⟩
        · rw [lookup_putF, if_neg (by decide +kernel), lookup_putF, if_pos rfl]
        · rw [lookup_putF, if_pos rfl]
        · intro m hm
          have : m = "functions" ∨ m = "wide" ∨ m = "inlined" ∨ m = "permits" ∨ m = "changed" := by simpa using hm
          rcases this with rfl | rfl | rfl | rfl | rfl
          all_goals (repeat (rw [lookup_putF]; rw [if_neg (by decide +kernel)])); rfl
      · exact .inr ⟨y, r2, rfl, fun H' s' => hB H' (S1.trans s'), fun d H' s' h' => qe d H' (S1.trans s') h'⟩
    · exact .inr ⟨t, fun H' s' => ht H' (S1.trans s'), hk, fun d H' s' h' => q d H' (S1.trans s') h'⟩
def spLF (K : PySem.W.Frag) (CL : Addr) : Sp := fun vs H Q _ => ∃ (x G : Addr) (fs : List FnD), vs = [.ref x] ∧ IsLib K CL H x G fs ∧ ∀ l ts H', H l = none → Same H H' → H' l = some (.lst (ts.map V.ref)) → Paired (FunT K H') fs ts → Q (.ref l) H'
def spLW (K : PySem.W.Frag) (C CL : Addr) : Sp := fun vs H Q _ => ∃ (x G : Addr) (g : GD) (fs : List FnD), vs = [.ref x] ∧ IsLib K CL H x G fs ∧ IsGr2 C H G g ∧ g.Own ∧ (g.wide (pre fs)).Fit ∧ ∀ W H', H W = none → Same H H' → IsGr2 C H' W (g.wide (pre fs)) → Q (.ref W) H'
theorem ok_lf {f : Addr} {fd : FuncData} (F : Fun K "functions" "Library.functions" sLF f fd) (T : Bl mg) (clL : Cls K CL) (n2 : NoAttr K CL "_functions") : FnOk P w K mg base CX0 1 f fd ["self"] (spLF K CL) := by
  refine F.ok scLF (fun vs H Q E h => ?_) (fun cdv A outer s H vs Q E hr h => ?_)
  · obtain ⟨x, G, fs, rfl, _⟩ := h
    rfl
  · obtain ⟨x, G, fs, rfl, hL, q⟩ := h
    obtain ⟨dx, as, d, ts, h1, h2, h3, h4, h5, h6⟩ := hL.ex
    refine ⟨_, pss_one (ps_ret (pe_callTy (r := rLof K) call_lof (by rfl) T.list (by decide +kernel) (pa_cons (pe_fld (pv 0) rfl) pa_nil))), ?_⟩
    refine ⟨_, rfl, x, CL, dx, as, _, rfl, h1, clL, n2, h3, d, ts.map V.ref, rfl, .inl (SqL.of h4), fun l nl => ?_⟩
    obtain ⟨H1, s1, k1, e1⟩ := lay (o := .lst (ts.map V.ref)) nl
    rw [e1]
    exact q l ts H1 nl s1 k1 (Paired.mapP h5 fun _ _ z => z.mono s1)
theorem ok_lw {f : Addr} {fd : FuncData} (F : Fun K "wide" "Library.wide" sLW f fd) (clL : Cls K CL) (n1 : NoAttr K CL "ground") (n2 : NoAttr K CL "_functions") (WD : Fns P w K mg base "_wide" 7 ["ground", "functions"] (spWd K C)) : FnOk P w K mg base CX0 8 f fd ["self"] (spLW K C CL) := by
  refine F.ok scLW (fun vs H Q E h => ?_) (fun cdv A outer s H vs Q E hr h => ?_)
  · obtain ⟨x, G, g, fs, rfl, _⟩ := h
    rfl
  · obtain ⟨x, G, g, fs, rfl, hL, hG, own, fit, q⟩ := h
    obtain ⟨dx, as, d, ts, h1, h2, h3, h4, h5, h6⟩ := hL.ex
    refine ⟨_, pss_one (ps_ret (pe_fn WD hr (by decide) rfl (pa_cons (pe_fld (pv 0) rfl) (pa_cons (pe_fld (pv 0) rfl) (pa_nil))))), ?_⟩
    exact ⟨_, rfl, x, CL, dx, as, _, rfl, h1, clL, n1, h2, _, rfl, x, CL, dx, as, _, rfl, h1, clL, n2, h3, G, d, g, pre fs, ts, rfl, hG, own, .inl (SqL.of h4), funs_at h5, fit, fun W H' nW s' hW => q W H' nW s' hW⟩
theorem scLE : FnScope leN ["self", "other"] (defScope sLE) := ⟨rfl, rfl, rfl, by decide +kernel, rfl, by decide +kernel, by decide +kernel⟩
theorem ok_le {f : Addr} {fd : FuncData} (F : Fun K "__eq__" "Library.__eq__" sLE f fd) (T : Bl mg) (mL : mg "Library" = some (.ref CL)) (kO : PySem.W.kitOne K (.ref CL) (.ref CL) = some true) (clL : Cls K CL) (n1 : NoAttr K CL "ground") (n2 : NoAttr K CL "_functions") (tyL : ∀ (H : Hp) (a dx : Addr) (fs : List (Str × V)), H a = some (.ins CL dx fs) → TyX K H (.ref a) (.ref CL)) (gk : GrK K C)
    (EQ : ∃ f fd, PySem.W.findIn K (.ref C) "__eq__" = some (some (.ref f)) ∧ PySem.W.isFn K (.ref f) = true ∧ FnOk P w K mg base CX0 1 f fd ["self", "other"] (spEqM K C) ∧ Binds K fd ["self", "other"] []) : FnOk P w K mg base CX0 2 f fd ["self", "other"] (spLE K C CL) := by
  obtain ⟨fE, dE, hsE, hfE, FE, bE⟩ := EQ
  refine F.ok scLE (fun vs H Q E h => ?_) (fun cdv A outer s H vs Q E hr h => ?_)
  · obtain ⟨x, G, y, g, fs, rfl, _⟩ := h
    rfl
  · obtain ⟨x, G, y, g, fs, rfl, hL, hG, fit, sh, h⟩ := h
    have huT : (A.deeper (PyProof.Rows.envOfC "Library.__eq__" (defScope sLE) s.heap.objs.size f cdv)).units + 64 < cLine := by have := hr.un; omega
    obtain ⟨dx, as, d, ts, h1, h2, h3, h4, h5, h6⟩ := hL.ex
    refine ⟨_, pss_one (ps_ret (pe_and (pe_callB call_isi (by rfl) T.isi (by decide +kernel) (pa_cons (pv 1) (pa_cons (pe_glob (v := .ref CL) rfl mL rfl) pa_nil))) (pe_and (pe_cmpR (op_eqOwn hsE hfE FE (hr.mono (by decide)) bE) (pe_fld (pv 0) rfl) (pe_fld (pv 1) rfl) (nomark _)) (pe_one (pe_cmpR (op_eqD huT) (pe_fld (pv 0) rfl) (pe_fld (pv 1) rfl) (nomark _)))))), ?_⟩
    rcases h with ⟨x2, G2, g2, fs2, rfl, hL2, hG2, fit2, cond, sh2, q⟩ | ⟨t, ht, hk, q⟩
    · obtain ⟨dx2, as2, d2, ts2, k1, k2, k3, k4, k5, k6⟩ := hL2.ex
      obtain ⟨gx, gf, _, _, _, _, _, g0, _⟩ := hG.ex
      obtain ⟨gx2, gf2, _, _, _, _, _, g02, _⟩ := hG2.ex
      refine ⟨_, rfl, .ref x2, .ref CL, .ref CL, .ref CL, true, rfl, .own CL, tyL H x2 dx2 as2 k1, kO, true, rfl, ?_⟩
      refine iteT ?_
      refine ⟨_, rfl, x, CL, dx, as, _, rfl, h1, clL, n1, h2, _, rfl, x2, CL, dx2, as2, _, rfl, k1, clL, n1, k2, G, gx, gf, rfl, g0, ⟨.ref C, gk.ty H G2 gx2 gf2 g02, by unfold PySem.W.notFirst; simp⟩, G, .ref G2, g, rfl, hG, fit, .inl ⟨G2, g2, rfl, hG2, fit2, cond, _, rfl, ?_⟩⟩
      refine ⟨_, rfl, ?_⟩
      cases hE : eqG g g2 with
      | false =>
        rw [hE] at q
        refine iteF ?_
        exact q
      | true =>
        rw [hE] at q
        refine iteT ?_
        exact ⟨_, rfl, x, CL, dx, as, _, rfl, h1, clL, n2, h3, _, rfl, x2, CL, dx2, as2, _, rfl, k1, clL, n2, k3, _, _, .lst (SqL.of h4) (dp_fns h5), .lst (SqL.of k4) (dp_fns k5), sh, sh2, q⟩
    · refine ⟨_, rfl, y, .ref CL, t, .ref CL, false, rfl, .own CL, ht, hk, false, rfl, ?_⟩
      exact q
end
end K39
set_option Elab.async false
set_option linter.all false
set_option autoImplicit false
set_option maxRecDepth 100000
set_option maxHeartbeats 8000000
namespace K39
open PySem PySem.Spec L2 GB K39t
abbrev sMt : Stmt := topS 50
def mtN : List Str := ["_law_ground_here", "_law_things", "e"]
/-- functions of which one is none, the first at n; or no list -/
def BadLib (K : PySem.W.Frag) (H : Hp) (g : GD) (z : Nat) (R : V) (n : Nat) : Prop :=
  (∃ (a : Addr) (fs : List FnD) (ts : List V) (y : V) (r2 : List V), R = .ref a ∧ SqA K H a (ts ++ y :: r2) ∧ fs.length = ts.length ∧ (∀ i f v, fs[i]? = some f → ts[i]? = some v → GoodFn K H (g.wide (pre (fs.take i))).letters z f v) ∧ (∀ i, i ≤ fs.length → (g.wide (pre (fs.take i))).Fit) ∧ (∀ H', Same H H' → BadFn K H' (g.wide (pre fs)).letters z y) ∧ n = ts.length) ∨
  (n = 0 ∧ ∃ t, (∀ H', Same H H' → TyX K H' R t) ∧ PySem.W.kitAny K t [.type "list", .type "tuple"] = some false)
def spMt (K : PySem.W.Frag) (C : Addr) (z : Nat) : Sp := fun vs H Q _ => ∃ (G : Addr) (R : V) (g : GD) (n : Nat), vs = [.ref G, R] ∧ IsGr2 C H G g ∧ g.Own ∧ z ≤ 900 ∧ BadLib K H g z R n ∧ ∀ H', Same H H' → Q (.int ((n : Nat) : Int)) H'
section
variable {P : Program} {w : World} {K : PySem.W.Frag} {mg : Str → Option Value} {base : Heap} {C CL CF : Addr}
theorem scMt : FnScope mtN ["_law_ground_here", "_law_things"] (defScope sMt) := ⟨rfl, rfl, rfl, by decide +kernel, rfl, by decide +kernel, by decide +kernel⟩
theorem ok_mt {z : Nat} {f fI : Addr} {fd fdI : FuncData} (F : Fun K "_law_met" "_law_met" sMt f fd) (MK : Mk K CL fI) (FI : FnOk P w K mg base (L2.CX P w) (8 + 2 * z + 1) fI fdI ["self", "ground", "functions"] (spLI K C CL CF z)) (bI : Binds K fdI ["self", "ground", "functions"] []) (gL : mg "Library" = some (.ref CL))
    (gF : mg "BadFunction" = some (.ref CF)) (XF : XfC K CF) (hni : PySem.W.findIn K (.ref CF) "index" = some none) (tb : PySem.W.exmOne K (.ref CF) (.ref CF) = some true) : FnOk P w K mg base CX0 (11 + 2 * z + 1) f fd ["_law_ground_here", "_law_things"] (spMt K C z) := by
  refine F.ok scMt (fun vs H Q E h => ?_) (fun cdv A outer s H vs Q E hr h => ?_)
  · obtain ⟨G, R, g, n, rfl, _⟩ := h
    rfl
  · obtain ⟨G, R, g, n, rfl, hG, own, z9, hB, q⟩ := h
    refine ⟨_, pss_cons (TryAs.ps_try_asM (i := 2) rfl rfl scMt.nd rfl rfl takes0 (fun W pn xe tk po => pss_one (ps_expr (pe_make (E := fun cls d H => ∀ σ : L2.St, σ.length = 3 → W cls d σ H) MK FI (hr.mono (by omega)) rfl gL bI .nil (passes_call (W := fun cls d σ' H' => σ'.length = 3 → W cls d σ' H') (fun u s' ⟨a, B, sI, pins, σ, H, cls, d, e, I, nb, up, sky, na, os, ag, w⟩ => tk u s' ⟨a, B, sI, pins, σ, H, cls, d, e, I, nb, up, sky, na, os, ag, w I.len⟩) (fun cls d σ H h => h σ)) (pa_cons (pv 0) (pa_cons (pv 1) pa_nil))))) (.cons (c := .ref CF) ⟨rfl, by decide, .inl gF⟩ (fun a oe cls d pn hz hf => pss_one (ps_ret (pe_xf XF hni hz hf (pv 2)))) .nil)) (pss_one (ps_ret (pe_non))), ?_⟩
    refine ⟨_, rfl, _, rfl, fun x dx nx ndx ne => ?_⟩
    have s0 : Same H (upd (upd H dx (.own x)) x (.ins CL dx [])) := fun b o e => by
      rw [upd_ne (ne_of_none e nx), upd_ne (ne_of_none e ndx)]
      exact e
    have sx : Same H (hid [x] (upd (upd H dx (.own x)) x (.ins CL dx []))) := same_hid_new nx s0
    have fin : ∀ (n : Nat) (H' : Hp) (d : Addr), Same H H' → H' d = some (.xd [("index", .int ((n : Nat) : Int))]) → (∀ J, Same H J → Q (.int ((n : Nat) : Int)) J) → ∀ σ : L2.St, σ.length = 3 →
        TryAs.wsh K 2 (fun _ _ _ _ => False) ({ nx := tRet (tC .non) ({ nx := fun x H' => Q .non H', rt := Q } : Ends), rt := Q } : Ends) [(Value.ref CF, fun a cls d => tRet (tXf a cls d CF ("index" : Str) (tVar 2)))] (.ref CF) (some d) σ H' := fun n H' d s' hd qq σ hl => by
      refine ⟨true, tb, fun _ a na => ?_, fun z => nomatch z⟩
      exact ⟨_, by rw [List.getElem?_set_self (by omega)], rfl, rfl, d, _, .int ((n : Nat) : Int), rfl, hd, by simp [List.lookup], qq H' s'⟩
    refine ⟨x, dx, G, R, g, rfl, upd_same, hG.mono sx, own, z9, ?_⟩
    rcases hB with ⟨a, fs, ts, y, r2, rfl, hR, lts, good, fit, hy, rfl⟩ | ⟨rfl, t, ht, hk⟩
    · exact .inl ⟨a, fs, ts, y :: r2, rfl, hR.mono sx, lts, fun i f v e1 e2 => (good i f v e1 e2).mono sx, fit, .inr ⟨y, r2, rfl, fun H' s' => hy H' (sx.trans s'), fun d H' s' h' => fin _ H' d (sx.trans s') h' q⟩⟩
    · exact .inr ⟨t, fun H' s' => ht H' (sx.trans s'), hk, fun d H' s' h' => fin 0 H' d (sx.trans s') h' q⟩
end
end K39
set_option Elab.async false
set_option linter.all false
set_option autoImplicit false
set_option maxRecDepth 100000
set_option maxHeartbeats 8000000
namespace K39
open PySem PySem.Spec L2 GB K39t
/-- functions that are all told -/
structure GoodLib (K : PySem.W.Frag) (H : Hp) (g : GD) (z : Nat) (a : Addr) (fs : List FnD) : Prop where
  ex : ∃ ts : List V, SqA K H a ts ∧ fs.length = ts.length ∧ (∀ i f v, fs[i]? = some f → ts[i]? = some v → GoodFn K H (g.wide (pre (fs.take i))).letters z f v) ∧ ∀ i, i ≤ fs.length → (g.wide (pre (fs.take i))).Fit
theorem GoodLib.mono {K : PySem.W.Frag} {H H' : Hp} {g : GD} {z : Nat} {a : Addr} {fs : List FnD} (s : Same H H') (h : GoodLib K H g z a fs) : GoodLib K H' g z a fs := let ⟨ts, h1, h2, h3, h4⟩ := h.ex; ⟨ts, h1.mono s, h2, fun i f v e1 e2 => (h3 i f v e1 e2).mono s, h4⟩
/-- Library(ground, functions), told -/
def spLI0 (K : PySem.W.Frag) (C CL : Addr) (z : Nat) : Sp := fun vs H Q _ => ∃ (x dx G a : Addr) (g : GD) (fs : List FnD), vs = [.ref x, .ref G, .ref a] ∧ H x = some (.ins CL dx []) ∧ IsGr2 C (hid [x] H) G g ∧ g.Own ∧ z ≤ 900 ∧ GoodLib K (hid [x] H) g z a fs ∧ ∀ H', Same (hid [x] H) (hid [x] H') → (∀ N : List Addr, (∀ b ∈ N, ∃ xs, hid [x] H b = some (.lst xs)) → IsLib K CL (hid N H') x G fs) → Q .non H'
section
variable {P : Program} {w : World} {K : PySem.W.Frag} {mg : Str → Option Value} {base : Heap} {C CL CF : Addr}
theorem ok_li0 {z k : Nat} {f : Addr} {fd : FuncData} {ps : List Str} (F : FnOk P w K mg base (L2.CX P w) k f fd ps (spLI K C CL CF z)) : FnOk P w K mg base CX0 k f fd ps (spLI0 K C CL z) :=
  FnOk.quiet F fun vs H Q E h => by
    obtain ⟨x, dx, G, a, g, fs, rfl, hx, hG, own, z9, gl, q⟩ := h
    obtain ⟨ts, h1, h2, h3, h4⟩ := gl.ex
    exact ⟨x, dx, G, .ref a, g, rfl, hx, hG, own, z9, .inl ⟨a, fs, ts, [], rfl, by rw [List.append_nil]; exact h1, h2, h3, h4, .inl ⟨rfl, q⟩⟩⟩
/-- .. as a call asks and gives -/
theorem li_make {z : Nat} {H : Hp} {R : Hp → Prop} {G a : Addr} {g : GD} {fs : List FnD} {x dx : Addr} (nx : H x = none) (ndx : H dx = none) (ne : dx ≠ x) (hG : IsGr2 C H G g) (own : g.Own) (z9 : z ≤ 900) (gl : GoodLib K H g z a fs) (q : ∀ H', Same H H' → (∀ N : List Addr, (∀ b ∈ N, ∃ xs, H b = some (.lst xs)) → IsLib K CL (hid N H') x G fs) → R H') :
    spLI0 K C CL z [.ref x, .ref G, .ref a] (upd (upd H dx (.own x)) x (.ins CL dx [])) (fun v H' => v = .non ∧ R H') E0 := by
  have s0 : Same H (upd (upd H dx (.own x)) x (.ins CL dx [])) := fun b o e => by
    rw [upd_ne (ne_of_none e nx), upd_ne (ne_of_none e ndx)]
    exact e
  have sx : Same H (hid [x] (upd (upd H dx (.own x)) x (.ins CL dx []))) := same_hid_new nx s0
  exact ⟨x, dx, G, a, g, fs, rfl, upd_same, hG.mono sx, own, z9, gl.mono sx, fun H' B' iL => ⟨rfl, q H' ((sx.trans B').trans (hid_low _ _)) fun N hN => iL N fun b hb => let ⟨xs, e⟩ := hN b hb; ⟨xs, sx _ _ e⟩⟩⟩
end
end K39
namespace GB
open PySem PySem.Spec L2 K39
mutual
theorem tm_plO : ∀ t : Tm, plO t.d = true
  | .mk w n ks => by
    have h := tms_plO ks
    rw [Tm.d]
    split
    · simp [plO, plOs, h]
    · split
      · simp [plO, plOs, h]
      · split
        · simp [plO, plOs, h]
        · simp [plO, plOs]
theorem tms_plO : ∀ ks : List Tm, plOs (Tm.ds ks) = true
  | [] => rfl
  | k :: r => by
    rw [Tm.ds]
    simp [plOs, tm_plO k, tms_plO r]
end
theorem pl_fn (f : FnD) : plO (fnData f) = true := by
  have h1 : plOs (pst f.2.1) = true := by
    have := pl_strD f.2.1
    rwa [strD, plO] at this
  simp [fnData, plO, plOs, h1, tm_plO]
theorem pl_fns (fs : List FnD) : plO (.list (fs.map fnData)) = true := by
  rw [plO]
  induction fs with
  | nil => rfl
  | cons f r ih => rw [List.map_cons, plOs, pl_fn, ih]; rfl
/-- two libraries' functions are equal just if they are the same data -/
theorem eqv_fns {fs gs : List FnD} : PyData.eqv (.list (fs.map fnData)) (.list (gs.map fnData)) = true ↔ fs.map fnData = gs.map fnData := by
  constructor
  · intro h
    have := eqv_pl _ _ (pl_fns fs) (pl_fns gs) h
    injection this
  · intro h
    rw [h]
    exact eqv_self _ (pl_fns gs)
end GB
set_option Elab.async false
set_option linter.all false
set_option autoImplicit false
set_option maxRecDepth 100000
set_option maxHeartbeats 4000000
namespace K39
open PySem PySem.Spec L2 GB K39t ItX
theorem gr2_pool {C : Addr} {H : Hp} {G p : Addr} {g : GD} {n : Nat} (P : PoolIs H p n) (h : IsGr2 C H G g) : IsGr2 C (hid [p] H) G g := by
  have ne : ∀ {b : Addr} {o : HO}, H b = some o → (∀ x y z : Int, o ≠ .lst (poolV x y z)) → b ≠ p := fun {b o} h no e => by
    obtain ⟨x, y, z, hp, _⟩ := P
    rw [e, hp] at h
    exact no x y z (Option.some.inj h).symm
  have k : ∀ {b : Addr} {o : HO}, H b = some o → (∀ x y z : Int, o ≠ .lst (poolV x y z)) → hid [p] H b = some o := fun h no => hid_to (ni1 (ne h no)) h
  have kS : ∀ (l : List Str) (x y z : Int), HO.lst (sts l) ≠ .lst (poolV x y z) := fun l x y z e => by
    have := HO.lst.inj e
    cases l with
    | nil => cases this
    | cons a r => cases (List.cons.inj this).1
  have kR : ∀ (l : List Addr) (x y z : Int), HO.lst (l.map V.ref) ≠ .lst (poolV x y z) := fun l x y z e => by
    have := HO.lst.inj e
    cases l with
    | nil => cases this
    | cons a r => cases (List.cons.inj this).1
  obtain ⟨dx, fs, l1, l2, l3, l4, l5, h0, ⟨h1, ts, h1', h1p⟩, h2, h3, h4, h5, h6⟩ := h.ex
  refine ⟨dx, fs, l1, l2, l3, l4, l5, k h0 (fun _ _ _ z => nomatch z), ⟨h1, ts, k h1' (kR ts), Paired.mapP h1p fun f t hf => ?_⟩, ⟨h2.1, k h2.2 (fun _ _ _ z => nomatch z)⟩, ⟨h3.1, k h3.2 (kS _)⟩, ⟨h4.1, k h4.2 (kS _)⟩, ⟨h5.1, k h5.2 (kS _)⟩, h6⟩
  obtain ⟨v, e, a1, a2, a3⟩ := hf.ex
  exact ⟨v, e, k a1 (fun _ _ _ z => nomatch z), k a2 (fun _ _ _ z => nomatch z), k a3 (fun _ _ _ z => nomatch z)⟩
/-- list(ground) -/
theorem glist {K : PySem.W.Frag} {C W : Addr} {H : Hp} {g : GD} {Q : VK} {n0 : Nat} (h : IsGr2 C H W g) (fit : g.Fit) (q : ∀ r H', H r = none → Same H H' → H' r = some (.lst (sts (g.letters.map (·.1)))) → Q (.ref r) H') : rListIt K C (spItM C) (spLenM C) n0 [.ref W] H Q := by
  obtain ⟨dx, fs, _, _, _, _, _, h0, _⟩ := h.ex
  refine ⟨W, dx, fs, rfl, h0, fun r nr n hn => ?_⟩
  obtain ⟨H1, s1, k1, e1⟩ := lay (o := .lst []) nr
  rw [e1]
  refine ⟨W, g, rfl, h.mono s1, fun l it hl ni ln => ?_⟩
  have lr : l ≠ r := fun z => by
    rw [z, k1] at hl
    have := HO.lst.inj (Option.some.inj hl)
    have : g.letters = [] := by
      cases hh : g.letters with
      | nil => rfl
      | cons a b => rw [hh] at this; cases this
    exact fit.ne this
  have ri : r ≠ it := ne_of_none k1 ni
  have li : l ≠ it := ne_of_none hl ni
  have S2 : Same H1 (upd H1 it (ItO l it 0)) := same_new ni
  have edrop : dropH (upd H1 it (ItO l it 0)) it = H1 := dropH_upd ni
  have le := fit.le
  refine ⟨l, it, sts (g.letters.map (·.1)), dx, fs, rfl, by omega, upd_same, S2 _ _ (s1 _ _ h0), ⟨W, g, rfl, (h.mono s1).mono S2, _, rfl, by rw [sizeLine_eq]; omega, rfl⟩, S2 _ _ k1, fun zs => ?_, by rw [sts_len, List.length_map, sizeLine_eq]; omega, ?_⟩
  · rw [edrop]
    exact SqL.of (by rw [upd_ne lr]; exact hl)
  · rw [edrop]
    refine q r _ nr (fun b o e => ?_) upd_same
    rw [upd_ne (ne_of_none e nr)]
    exact s1 _ _ e
end K39
set_option Elab.async false
set_option linter.all false
set_option autoImplicit false
set_option maxRecDepth 100000
set_option maxHeartbeats 4000000
namespace GB
open PySem PySem.Spec L2
/-- no name -/
def AD.noNm (d : AD) : Prop := (∃ s, d = .str s ∧ nameB s = false ∧ s.length ≤ sizeLine ∧ ∀ c ∈ s.cps.toList, PyData.strOk ⟨#[c]⟩ = true) ∨ d.isStr = false
/-- no letter -/
def AD.noL (L : List (Str × Nat)) (d : AD) : Prop := (∃ s, d = .str s ∧ s ∉ L.map (·.1)) ∨ d.isStr = false
inductive Od (L : List (Str × Nat)) (ns : List Str) : AD → Prop
  | flat {d : AD} : d.isSeq = false → Od L ns d
  | empty {b} : Od L ns (.seq b [])
  | head {b} {x : AD} {r} : x.isStr = false → Od L ns (.seq b (x :: r))
  | ulen {b} {r : List AD} : r.length ≠ 2 → Od L ns (.seq b (.str "use" :: r))
  | uname {b} {y e : AD} : y.noL L → Od L ns (.seq b [.str "use", y, e])
  | uparts {b n m} {e : AD} : (n, m) ∈ L → e.isSeq = false → Od L ns (.seq b [.str "use", .str n, e])
  | bname {b} {y a c : AD} : y.noNm → Od L ns (.seq b [.str "bind", y, a, c])
  | nlen {b w} {r : List AD} : w ∈ nmd → r.length ≠ 1 → Od L ns (.seq b (.str w :: r))
  | nname {b w} {y : AD} : w ∈ nmd → y.noNm → Od L ns (.seq b [.str w, y])
  | free {b n} : nameB n = true → n ∉ ns → Od L ns (.seq b [.str "name", .str n])
  | word {b r} : Od L ns (.seq b (.str "xor" :: r))
  | olen {b w m} {r : List AD} : (w, m) ∈ opsW → r.length ≠ m → Od L ns (.seq b (.str w :: r))
inductive NodA : AD → Str → Str → List AD → Prop
  | leaf {b w n} : w ∈ nmd → NodA (.seq b [.str w, .str n]) w n []
  | use {b c n ks} : NodA (.seq b [.str "use", .str n, .seq c ks]) "use" n ks
  | bind {b n ks} : NodA (.seq b (.str "bind" :: .str n :: ks)) "bind" n ks
  | op {b w m ks} : (w, m) ∈ opsW → NodA (.seq b (.str w :: ks)) w "" ks
section
variable {K : PySem.W.Frag} {H : Hp} {L : List (Str × Nat)} {ns : List Str}
theorem AdAt.sq {v : V} {b : Bool} {ds : List AD} (h : AdAt K H v (.seq b ds)) : ∃ a xs, v = .ref a ∧ SqA K H a xs ∧ AdAll K H xs ds := by
  cases h with
  | tup h1 h2 => exact ⟨_, _, rfl, .inr h1, h2⟩
  | lst h1 h2 => exact ⟨_, _, rfl, .inl h1, h2⟩
theorem AdAll.cons_inv {vs : List V} {d : AD} {ds : List AD} (h : AdAll K H vs (d :: ds)) : ∃ v r, vs = v :: r ∧ AdAt K H v d ∧ AdAll K H r ds := by
  cases h with
  | cons a b => exact ⟨_, _, rfl, a, b⟩
theorem AdAll.nil_inv {vs : List V} (h : AdAll K H vs []) : vs = [] := by cases h; rfl
theorem AdAt.str_inv {v : V} {s : Str} (h : AdAt K H v (.str s)) : v = .str s := by cases h; rfl
theorem noNm_v {v : V} {d : AD} (h : AdAt K H v d) (n : d.noNm) : NotNm K H v := by
  rcases n with ⟨s, rfl, h1, h2⟩ | n
  · rw [h.str_inv]; exact .str h1 h2.1
  · exact .oth h.ty (by rw [kit_str, n])
theorem noL_v {v : V} {d : AD} (h : AdAt K H v d) (n : d.noL L) : NotL K H L v := by
  rcases n with ⟨s, rfl, h1⟩ | n
  · rw [h.str_inv]; exact .str h1
  · exact .oth h.ty (by rw [kit_str, n])
theorem seqOr_v {v : V} {d : AD} (h : AdAt K H v d) : SeqOr K H v := by
  cases hd : d.isSeq with
  | false => exact .no h.ty (by rw [kit_sq, hd])
  | true =>
    cases d with
    | seq b ds => obtain ⟨a, xs, rfl, hs, _⟩ := h.sq; exact .seq hs
    | _ => cases hd
theorem Od.v {v : V} {d : AD} (o : Od L ns d) (h : AdAt K H v d) : OddV K H L ns v := by
  cases o with
  | flat hd => exact .flat h.ty (by rw [kit_sq, hd])
  | empty =>
    obtain ⟨a, xs, rfl, hs, hall⟩ := h.sq
    rw [hall.nil_inv] at hs
    exact .empty hs
  | head hx =>
    obtain ⟨a, xs, rfl, hs, hall⟩ := h.sq
    obtain ⟨y, r, rfl, hy, hr⟩ := hall.cons_inv
    exact .head hs hy.ty (by rw [kit_str, hx])
  | ulen hl =>
    obtain ⟨a, xs, rfl, hs, hall⟩ := h.sq
    obtain ⟨y, r, rfl, hy, hr⟩ := hall.cons_inv
    rw [hy.str_inv] at hs
    exact .use (.len hs (by rw [hr.len]; exact hl))
  | uname hn =>
    obtain ⟨a, xs, rfl, hs, hall⟩ := h.sq
    obtain ⟨y, r, rfl, hy, hr⟩ := hall.cons_inv
    obtain ⟨y2, r2, rfl, hy2, hr2⟩ := hr.cons_inv
    obtain ⟨y3, r3, rfl, hy3, hr3⟩ := hr2.cons_inv
    rw [hy.str_inv, hr3.nil_inv] at hs
    exact .use (.name hs (noL_v hy2 hn) (seqOr_v hy3))
  | uparts hm he =>
    obtain ⟨a, xs, rfl, hs, hall⟩ := h.sq
    obtain ⟨y, r, rfl, hy, hr⟩ := hall.cons_inv
    obtain ⟨y2, r2, rfl, hy2, hr2⟩ := hr.cons_inv
    obtain ⟨y3, r3, rfl, hy3, hr3⟩ := hr2.cons_inv
    rw [hy.str_inv, hy2.str_inv, hr3.nil_inv] at hs
    exact .use (.parts hs hm hy3.ty (by rw [kit_sq, he]))
  | bname hn =>
    obtain ⟨a, xs, rfl, hs, hall⟩ := h.sq
    obtain ⟨y, r, rfl, hy, hr⟩ := hall.cons_inv
    obtain ⟨y2, r2, rfl, hy2, hr2⟩ := hr.cons_inv
    obtain ⟨y3, r3, rfl, hy3, hr3⟩ := hr2.cons_inv
    obtain ⟨y4, r4, rfl, hy4, hr4⟩ := hr3.cons_inv
    rw [hy.str_inv, hr4.nil_inv] at hs
    exact .bname hs (noNm_v hy2 hn)
  | nlen hw hl =>
    obtain ⟨a, xs, rfl, hs, hall⟩ := h.sq
    obtain ⟨y, r, rfl, hy, hr⟩ := hall.cons_inv
    rw [hy.str_inv] at hs
    exact .nlen hw hs (by rw [hr.len]; exact hl)
  | nname hw hn =>
    obtain ⟨a, xs, rfl, hs, hall⟩ := h.sq
    obtain ⟨y, r, rfl, hy, hr⟩ := hall.cons_inv
    obtain ⟨y2, r2, rfl, hy2, hr2⟩ := hr.cons_inv
    rw [hy.str_inv, hr2.nil_inv] at hs
    exact .nname hw hs (noNm_v hy2 hn)
  | free h1 h2 =>
    obtain ⟨a, xs, rfl, hs, hall⟩ := h.sq
    obtain ⟨y, r, rfl, hy, hr⟩ := hall.cons_inv
    obtain ⟨y2, r2, rfl, hy2, hr2⟩ := hr.cons_inv
    rw [hy.str_inv, hy2.str_inv, hr2.nil_inv] at hs
    exact .free hs h1 h2
  | word =>
    obtain ⟨a, xs, rfl, hs, hall⟩ := h.sq
    obtain ⟨y, r, rfl, hy, hr⟩ := hall.cons_inv
    rw [hy.str_inv] at hs
    exact .word hs
  | olen hm hl =>
    obtain ⟨a, xs, rfl, hs, hall⟩ := h.sq
    obtain ⟨y, r, rfl, hy, hr⟩ := hall.cons_inv
    rw [hy.str_inv] at hs
    exact .olen hm hs (by rw [hr.len]; exact hl)
theorem NodA.v {v : V} {d : AD} {w n : Str} {ds : List AD} (o : NodA d w n ds) (h : AdAt K H v d) : ∃ p us, v = .ref p ∧ NodeV K H p w n us ∧ AdAll K H us ds := by
  cases o with
  | leaf hw =>
    obtain ⟨a, xs, rfl, hs, hall⟩ := h.sq
    obtain ⟨y, r, rfl, hy, hr⟩ := hall.cons_inv
    obtain ⟨y2, r2, rfl, hy2, hr2⟩ := hr.cons_inv
    rw [hy.str_inv, hy2.str_inv, hr2.nil_inv] at hs
    refine ⟨a, [], rfl, ?_, .nil⟩
    have : ∀ x ∈ nmd, x = "value" ∨ x = "name" ∨ x = "fail" := by decide
    rcases this w hw with rfl | rfl | rfl
    · exact .val hs
    · exact .name hs
    · exact .fail hs
  | use =>
    obtain ⟨a, xs, rfl, hs, hall⟩ := h.sq
    obtain ⟨y, r, rfl, hy, hr⟩ := hall.cons_inv
    obtain ⟨y2, r2, rfl, hy2, hr2⟩ := hr.cons_inv
    obtain ⟨y3, r3, rfl, hy3, hr3⟩ := hr2.cons_inv
    obtain ⟨q, us, rfl, hq, hus⟩ := hy3.sq
    rw [hy.str_inv, hy2.str_inv, hr3.nil_inv] at hs
    exact ⟨a, us, rfl, .use hs hq, hus⟩
  | bind =>
    obtain ⟨a, xs, rfl, hs, hall⟩ := h.sq
    obtain ⟨y, r, rfl, hy, hr⟩ := hall.cons_inv
    obtain ⟨y2, r2, rfl, hy2, hr2⟩ := hr.cons_inv
    rw [hy.str_inv, hy2.str_inv] at hs
    exact ⟨a, r2, rfl, .bind hs, hr2⟩
  | op hm =>
    obtain ⟨a, xs, rfl, hs, hall⟩ := h.sq
    obtain ⟨y, r, rfl, hy, hr⟩ := hall.cons_inv
    rw [hy.str_inv] at hs
    exact ⟨a, r, rfl, .op hm hs, hr⟩
end
/-! terms -/
inductive Gd (L : List (Str × Nat)) : List Str → AD → Tm → Prop
  | mk {ns : List Str} {d : AD} {w n : Str} {ds : List AD} {ts : List Tm} : NodA d w n ds → HeadOk L ns w n ds.length → ds.length = ts.length → (∀ (i : Nat) (k : AD) (t : Tm), ds[i]? = some k → ts[i]? = some t → Gd L (nsAt w n i ns) k t) → Gd L ns d (.mk w n ts)
inductive Bd (L : List (Str × Nat)) : Nat → List Str → AD → List Nat → Prop
  | odd {z ns d} : Od L ns d → Bd L (z + 1) ns d []
  | within {z ns} {d : AD} {w n : Str} {ds : List AD} {i : Nat} {y : AD} {r : List Nat} : NodA d w n ds → HeadOk L ns w n ds.length → ds[i]? = some y → (∀ (j : Nat) (x : AD), j < i → ds[j]? = some x → ∃ t, Gd L (nsAt w n j ns) x t ∧ t.size ≤ z) → Bd L z (nsAt w n i ns) y r → ds.length ≤ 1000 → Bd L (z + 1) ns d (i :: r)
/-! loosened -/
theorem LoAll.cons_inv {d : AD} {ds es : List AD} (h : LoAll (d :: ds) es) : ∃ e r, es = e :: r ∧ Lo d e ∧ LoAll ds r := by
  cases h with
  | cons a b => exact ⟨_, _, rfl, a, b⟩
theorem LoAll.nil_inv {es : List AD} (h : LoAll [] es) : es = [] := by cases h; rfl
theorem Lo.str_inv {s : Str} {e : AD} (h : Lo (.str s) e) : e = .str s := by cases h; rfl
theorem LoAll.at : ∀ {ds es : List AD} {i : Nat} {e : AD}, LoAll ds es → es[i]? = some e → ∃ d, ds[i]? = some d ∧ Lo d e
  | _, _, 0, _, .cons h _, e => ⟨_, rfl, by cases e; exact h⟩
  | _, _, i + 1, _, .cons _ h, e => h.at (i := i) e
theorem LoAll.at' : ∀ {ds es : List AD} {i : Nat} {d : AD}, LoAll ds es → ds[i]? = some d → ∃ e, es[i]? = some e ∧ Lo d e
  | _, _, 0, _, .cons h _, e => ⟨_, rfl, by cases e; exact h⟩
  | _, _, i + 1, _, .cons _ h, e => h.at' (i := i) e
theorem LoAll.len : ∀ {ds es : List AD}, LoAll ds es → ds.length = es.length
  | _, _, .nil => rfl
  | _, _, .cons _ h => by rw [List.length_cons, List.length_cons, h.len]
mutual
theorem Lo.refl : ∀ d : AD, Lo d d
  | .non => .same rfl
  | .bl _ => .same rfl
  | .int _ => .same rfl
  | .str _ => .same rfl
  | .dic => .same rfl
  | .seq true xs => .tup (LoAll.refl xs)
  | .seq false xs => .same rfl
theorem LoAll.refl : ∀ ds : List AD, LoAll ds ds
  | [] => .nil
  | d :: r => .cons (Lo.refl d) (LoAll.refl r)
end
theorem Lo.sq {b : Bool} {xs : List AD} {e : AD} (h : Lo (.seq b xs) e) : ∃ c ys, e = .seq c ys ∧ LoAll xs ys := by
  cases h with
  | same h => exact ⟨b, xs, rfl, LoAll.refl xs⟩
  | tup h => exact ⟨_, _, rfl, h⟩
theorem NodA.lo {d e : AD} {w n : Str} {ds : List AD} (h : NodA d w n ds) (l : Lo d e) : ∃ es, NodA e w n es ∧ LoAll ds es := by
  cases h with
  | leaf hw =>
    obtain ⟨c, ys, rfl, hl⟩ := l.sq
    obtain ⟨y1, r1, rfl, h1, hl⟩ := hl.cons_inv
    obtain ⟨y2, r2, rfl, h2, hl⟩ := hl.cons_inv
    rw [h1.str_inv, h2.str_inv, hl.nil_inv]
    exact ⟨[], .leaf hw, .nil⟩
  | use =>
    obtain ⟨c, ys, rfl, hl⟩ := l.sq
    obtain ⟨y1, r1, rfl, h1, hl⟩ := hl.cons_inv
    obtain ⟨y2, r2, rfl, h2, hl⟩ := hl.cons_inv
    obtain ⟨y3, r3, rfl, h3, hz⟩ := hl.cons_inv
    obtain ⟨c3, es, rfl, he⟩ := h3.sq
    rw [h1.str_inv, h2.str_inv, hz.nil_inv]
    exact ⟨es, .use, he⟩
  | bind =>
    obtain ⟨c, ys, rfl, hl⟩ := l.sq
    obtain ⟨y1, r1, rfl, h1, hl⟩ := hl.cons_inv
    obtain ⟨y2, r2, rfl, h2, hl⟩ := hl.cons_inv
    rw [h1.str_inv, h2.str_inv]
    exact ⟨r2, .bind, hl⟩
  | op hm =>
    obtain ⟨c, ys, rfl, hl⟩ := l.sq
    obtain ⟨y1, r1, rfl, h1, hl⟩ := hl.cons_inv
    rw [h1.str_inv]
    exact ⟨r1, .op hm, hl⟩
theorem Gd.lo {L : List (Str × Nat)} {ns : List Str} {d : AD} {t : Tm} (h : Gd L ns d t) : ∀ {e : AD}, Lo d e → Gd L ns e t := by
  induction h with
  | mk hn hh hl _ ih =>
    intro e l
    obtain ⟨es, he, hes⟩ := hn.lo l
    refine .mk he (by rw [← hes.len]; exact hh) (by rw [← hes.len]; exact hl) fun i k t hk ht => ?_
    obtain ⟨d', hd', l'⟩ := hes.at hk
    exact ih i d' t hd' ht l'
theorem isSeq_lo {d e : AD} (l : Lo d e) : e.isSeq = d.isSeq := by
  cases l with
  | same => rfl
  | tup => rfl
theorem isStr_lo {d e : AD} (l : Lo d e) : e.isStr = d.isStr := by
  cases l with
  | same => rfl
  | tup => rfl
theorem noNm_lo {d e : AD} (l : Lo d e) (h : d.noNm) : e.noNm := by
  rcases h with ⟨s, rfl, h1, h2⟩ | h
  · rw [l.str_inv]; exact .inl ⟨s, rfl, h1, h2⟩
  · exact .inr (by rw [isStr_lo l]; exact h)
theorem noL_lo {L : List (Str × Nat)} {d e : AD} (l : Lo d e) (h : d.noL L) : e.noL L := by
  rcases h with ⟨s, rfl, h1⟩ | h
  · rw [l.str_inv]; exact .inl ⟨s, rfl, h1⟩
  · exact .inr (by rw [isStr_lo l]; exact h)
theorem Od.lo {L : List (Str × Nat)} {ns : List Str} {d e : AD} (h : Od L ns d) (l : Lo d e) : Od L ns e := by
  cases h with
  | flat hd => exact .flat (by rw [isSeq_lo l]; exact hd)
  | empty => obtain ⟨c, ys, rfl, hl⟩ := l.sq; rw [hl.nil_inv]; exact .empty
  | head hx => obtain ⟨c, ys, rfl, hl⟩ := l.sq; obtain ⟨y1, r1, rfl, h1, hl⟩ := hl.cons_inv; exact .head (by rw [isStr_lo h1]; exact hx)
  | ulen h2 => obtain ⟨c, ys, rfl, hl⟩ := l.sq; obtain ⟨y1, r1, rfl, h1, hl⟩ := hl.cons_inv; rw [h1.str_inv]; exact .ulen (by rw [← hl.len]; exact h2)
  | uname hn =>
    obtain ⟨c, ys, rfl, hl⟩ := l.sq; obtain ⟨y1, r1, rfl, h1, hl⟩ := hl.cons_inv; obtain ⟨y2, r2, rfl, h2, hl⟩ := hl.cons_inv; obtain ⟨y3, r3, rfl, h3, hl⟩ := hl.cons_inv
    rw [h1.str_inv, hl.nil_inv]; exact .uname (noL_lo h2 hn)
  | uparts hm he =>
    obtain ⟨c, ys, rfl, hl⟩ := l.sq; obtain ⟨y1, r1, rfl, h1, hl⟩ := hl.cons_inv; obtain ⟨y2, r2, rfl, h2, hl⟩ := hl.cons_inv; obtain ⟨y3, r3, rfl, h3, hl⟩ := hl.cons_inv
    rw [h1.str_inv, h2.str_inv, hl.nil_inv]; exact .uparts hm (by rw [isSeq_lo h3]; exact he)
  | bname hn =>
    obtain ⟨c, ys, rfl, hl⟩ := l.sq; obtain ⟨y1, r1, rfl, h1, hl⟩ := hl.cons_inv; obtain ⟨y2, r2, rfl, h2, hl⟩ := hl.cons_inv; obtain ⟨y3, r3, rfl, h3, hl⟩ := hl.cons_inv; obtain ⟨y4, r4, rfl, h4, hl⟩ := hl.cons_inv
    rw [h1.str_inv, hl.nil_inv]; exact .bname (noNm_lo h2 hn)
  | nlen hw h2 => obtain ⟨c, ys, rfl, hl⟩ := l.sq; obtain ⟨y1, r1, rfl, h1, hl⟩ := hl.cons_inv; rw [h1.str_inv]; exact .nlen hw (by rw [← hl.len]; exact h2)
  | nname hw hn =>
    obtain ⟨c, ys, rfl, hl⟩ := l.sq; obtain ⟨y1, r1, rfl, h1, hl⟩ := hl.cons_inv; obtain ⟨y2, r2, rfl, h2, hl⟩ := hl.cons_inv
    rw [h1.str_inv, hl.nil_inv]; exact .nname hw (noNm_lo h2 hn)
  | free h3 h4 =>
    obtain ⟨c, ys, rfl, hl⟩ := l.sq; obtain ⟨y1, r1, rfl, h1, hl⟩ := hl.cons_inv; obtain ⟨y2, r2, rfl, h2, hl⟩ := hl.cons_inv
    rw [h1.str_inv, h2.str_inv, hl.nil_inv]; exact .free h3 h4
  | word => obtain ⟨c, ys, rfl, hl⟩ := l.sq; obtain ⟨y1, r1, rfl, h1, hl⟩ := hl.cons_inv; rw [h1.str_inv]; exact .word
  | olen hm h2 => obtain ⟨c, ys, rfl, hl⟩ := l.sq; obtain ⟨y1, r1, rfl, h1, hl⟩ := hl.cons_inv; rw [h1.str_inv]; exact .olen hm (by rw [← hl.len]; exact h2)
theorem Bd.lo {L : List (Str × Nat)} {z : Nat} {ns : List Str} {d : AD} {r : List Nat} (h : Bd L z ns d r) : ∀ {e : AD}, Lo d e → Bd L z ns e r := by
  induction h with
  | odd h => intro e l; exact .odd (h.lo l)
  | within hn hh hy hj _ hlen ih =>
    intro e l
    obtain ⟨es, he, hes⟩ := hn.lo l
    obtain ⟨e', he', l'⟩ := hes.at' hy
    refine .within he (by rw [← hes.len]; exact hh) he' (fun j x hji hx => ?_) (ih l') (by rw [← hes.len]; exact hlen)
    obtain ⟨d', hd', l2⟩ := hes.at hx
    obtain ⟨t, hg, hs⟩ := hj j d' hji hd'
    exact ⟨t, hg.lo l2, hs⟩
/-! as PyData -/
mutual
def AD.py : AD → PyData
  | .non => .none | .bl b => .bool b | .int i => .int i | .str s => .str s | .dic => .none
  | .seq true xs => .tuple (AD.pys xs)
  | .seq false xs => .list (AD.pys xs)
def AD.pys : List AD → List PyData
  | [] => []
  | d :: r => d.py :: AD.pys r
end
mutual
def AD.noDic : AD → Bool
  | .dic => false
  | .seq _ xs => AD.noDics xs
  | _ => true
def AD.noDics : List AD → Bool
  | [] => true
  | d :: r => d.noDic && AD.noDics r
end
mutual
def adOf : PyData → AD
  | .bool b => .bl b | .int i => .int i | .str s => .str s
  | .tuple ds => .seq true (adsOf ds)
  | .list ds => .seq false (adsOf ds)
  | _ => .non
def adsOf : List PyData → List AD
  | [] => []
  | d :: r => adOf d :: adsOf r
end
section
variable {K : PySem.W.Frag} {H : Hp}
mutual
theorem AdAt.dp : ∀ {d : AD} {v : V}, d.noDic = true → AdAt K H v d → Dp K H v d.py
  | _, _, _, .non => .non
  | _, _, _, .bl b => .bl b
  | _, _, _, .int i => .int i
  | _, _, _, .str z => .str z
  | .seq true ds, _, n, .tup h1 h2 => .tup h1 (AdAll.dp n h2)
  | .seq false ds, _, n, .lst h1 h2 => .lst h1 (AdAll.dp n h2)
theorem AdAll.dp : ∀ {ds : List AD} {vs : List V}, AD.noDics ds = true → AdAll K H vs ds → DpAll K H vs (AD.pys ds)
  | _, _, _, .nil => .nil
  | d :: r, _, n, .cons h1 h2 => .cons (AdAt.dp (Bool.and_eq_true_iff.mp n).1 h1) (AdAll.dp (Bool.and_eq_true_iff.mp n).2 h2)
end
mutual
theorem adOf_at : ∀ {d : PyData} {v : V}, Dp K H v d → AdAt K H v (adOf d)
  | _, _, .non => .non
  | _, _, .bl b => .bl b
  | _, _, .int i => .int i
  | _, _, .str z => .str z
  | _, _, .tup h1 h2 => .tup h1 (adsOf_at h2)
  | _, _, .lst h1 h2 => .lst h1 (adsOf_at h2)
theorem adsOf_at : ∀ {ds : List PyData} {vs : List V}, DpAll K H vs ds → AdAll K H vs (adsOf ds)
  | _, _, .nil => .nil
  | _, _, .cons h1 h2 => .cons (adOf_at h1) (adsOf_at h2)
end
end
end GB
set_option Elab.async false
set_option linter.all false
set_option autoImplicit false
set_option maxRecDepth 100000
set_option maxHeartbeats 4000000
namespace GB
open PySem PySem.Spec L2
theorem pys_map : ∀ ds : List AD, AD.pys ds = ds.map AD.py
  | [] => rfl
  | d :: r => by rw [AD.pys, List.map_cons, pys_map r]
theorem noDics_iff : ∀ ds : List AD, AD.noDics ds = true ↔ ∀ d ∈ ds, d.noDic = true
  | [] => by simp [AD.noDics]
  | d :: r => by simp [AD.noDics, noDics_iff r]
theorem adsOf_map : ∀ ds : List PyData, adsOf ds = ds.map adOf
  | [] => rfl
  | d :: r => by rw [adsOf, List.map_cons, adsOf_map r]
theorem seq_py (b : Bool) (xs : List AD) : Seq (AD.seq b xs).py (xs.map AD.py) := by
  cases b with
  | true => rw [AD.py, pys_map]; first | exact .tup _ | exact .inr rfl | exact .inl rfl | trivial
  | false => rw [AD.py, pys_map]; first | exact .lst _ | exact .inl rfl | exact .inr rfl | trivial
theorem NodA.py {d : AD} {w n : Str} {ds : List AD} (h : NodA d w n ds) : NodeD d.py w n (ds.map AD.py) := by
  cases h with
  | @leaf b _ _ hw =>
    have : ∀ x ∈ nmd, x = "value" ∨ x = "name" ∨ x = "fail" := by decide
    have s := seq_py b [.str w, .str n]
    rcases this w hw with rfl | rfl | rfl
    · exact .val s
    · exact .name s
    · exact .fail s
  | @use b c _ ks => exact .use (seq_py b [.str "use", .str n, .seq c ds]) (seq_py c ds)
  | @bind b _ ks => exact .bind (seq_py b (.str "bind" :: .str n :: ds))
  | @op b _ m ks hm => exact .op hm (seq_py b (.str w :: ds))
theorem NodA.noDic {d : AD} {w n : Str} {ds : List AD} (h : NodA d w n ds) (hd : AD.noDics ds = true) : d.noDic = true := by
  cases h <;> simp [AD.noDic, AD.noDics, hd]
section
variable {L : List (Str × Nat)} {ns : List Str}
theorem Gd.noDic {d : AD} {t : Tm} (h : Gd L ns d t) : d.noDic = true := by
  induction h with
  | @mk ns d w n ds ts hn hh hl hk ih =>
    refine hn.noDic ((noDics_iff ds).mpr fun x hx => ?_)
    obtain ⟨i, hi⟩ := List.mem_iff_getElem?.mp hx
    have hlt : i < ts.length := by rw [← hl]; exact (List.getElem?_eq_some_iff.mp hi).1
    exact ih i x ts[i] hi (List.getElem?_eq_getElem hlt)
theorem Gd.isTm {d : AD} {t : Tm} (h : Gd L ns d t) : IsTm d.py t := by
  induction h with
  | @mk ns d w n ds ts hn hh hl hk ih =>
    refine .mk hn.py (by rw [List.length_map]; exact hl) fun i e k he hk' => ?_
    rw [List.getElem?_map] at he
    cases hx : ds[i]? with
    | none => rw [hx] at he; cases he
    | some x =>
      rw [hx] at he
      obtain rfl := Option.some.inj he
      exact ih i x k hx hk'
theorem Gd.ok {d : AD} {t : Tm} (h : Gd L ns d t) : TmOk L ns t := by
  induction h with
  | @mk ns d w n ds ts hn hh hl hk ih =>
    refine .mk (by rw [← hl]; exact hh) fun i k hk' => ?_
    have hlt : i < ds.length := by rw [hl]; exact (List.getElem?_eq_some_iff.mp hk').1
    exact ih i ds[i] k (List.getElem?_eq_getElem hlt) hk'
theorem Bd.v {K : PySem.W.Frag} {H : Hp} {z : Nat} {d : AD} {r : List Nat} (h : Bd L z ns d r) : ∀ {v : V}, AdAt K H v d → BadV K H L z ns v r := by
  induction h with
  | odd h => intro v hv; exact .odd (h.v hv)
  | @within z ns d w n ds i y r hn hh hy hj _ hlen ih =>
    intro v hv
    obtain ⟨p, us, rfl, hN, hall⟩ := hn.v hv
    have hlt : i < us.length := by rw [hall.len]; exact (List.getElem?_eq_some_iff.mp hy).1
    have hu : us[i]? = some us[i] := List.getElem?_eq_getElem hlt
    obtain ⟨d', hd', hv'⟩ := hall.at hu
    rw [hy] at hd'
    obtain rfl := Option.some.inj hd'
    refine .within hN (by rw [hall.len]; exact hh) hu (fun j x hji hx => ?_) (ih hv') (by rw [hall.len]; exact hlen)
    obtain ⟨dx, hdx, hvx⟩ := hall.at hx
    obtain ⟨t, hg, hs⟩ := hj j dx hji hdx
    exact ⟨dx.py, t, hvx.dp hg.noDic, hg.isTm, hg.ok, hs⟩
theorem Gd.v {K : PySem.W.Frag} {H : Hp} {z : Nat} {d : AD} {t : Tm} {v : V} (h : Gd L ns d t) (hv : AdAt K H v d) (hs : t.size ≤ z) : GoodV K H L ns z v := ⟨d.py, t, hv.dp h.noDic, h.isTm, h.ok, hs⟩
/-- a drawn term's own data -/
theorem nodA_own {w n : Str} {ks : List Tm} (h : HeadOk L ns w n ks.length) : NodA (adOf (Tm.mk w n ks).d) w n ((ks.map Tm.d).map adOf) := by
  rw [Tm.d, ds_map]
  have nil : ks.length = 0 → ks.map Tm.d = [] := fun e => by rw [List.eq_nil_of_length_eq_zero e]; rfl
  have lf : ∀ x ∈ nmd, x ≠ "use" ∧ x ≠ "bind" ∧ x ∉ opsW.map (·.1) := by decide
  generalize hm : ks.length = m at h
  have leaf : ∀ x, x ∈ nmd → m = 0 → NodA (adOf (if x = "use" then .tuple [.str x, .str n, .tuple (ks.map Tm.d)] else if x = "bind" then .tuple (.str x :: .str n :: ks.map Tm.d) else if x ∈ opsW.map (·.1) then .tuple (.str x :: ks.map Tm.d) else .tuple [.str x, .str n])) x n ((ks.map Tm.d).map adOf) := fun x hx h0 => by
    obtain ⟨a, b, c⟩ := lf x hx
    rw [if_neg a, if_neg b, if_neg c, nil (by omega)]
    exact .leaf hx
  cases h with
  | val _ => exact leaf _ (by decide) rfl
  | fail _ => exact leaf _ (by decide) rfl
  | name _ _ => exact leaf _ (by decide) rfl
  | use _ =>
    rw [if_pos rfl, adOf, adsOf, adsOf, adsOf, adsOf, adOf, adOf, adOf, adsOf_map]
    exact .use
  | bind _ _ =>
    rw [if_neg (by decide), if_pos rfl, adOf, adsOf, adsOf, adOf, adOf, adsOf_map]
    exact .bind
  | op hm =>
    have : ∀ q ∈ opsW, q.1 ≠ "use" ∧ q.1 ≠ "bind" := by decide
    obtain ⟨a, b⟩ := this _ hm
    rw [if_neg a, if_neg b, if_pos (List.mem_map.mpr ⟨_, hm, rfl⟩), adOf, adsOf, adOf, adsOf_map]
    exact .op hm
theorem Gd.own {t : Tm} (h : TmOk L ns t) : Gd L ns (adOf t.d) t := by
  induction h with
  | @mk ns w n ks hH hK ih =>
    refine .mk (nodA_own hH) (by rw [List.length_map, List.length_map]; exact hH) (by rw [List.length_map, List.length_map]) fun i d t hd ht => ?_
    rw [List.getElem?_map, List.getElem?_map, ht] at hd
    obtain rfl := Option.some.inj hd
    exact ih i t ht
end
end GB
set_option Elab.async false
set_option linter.all false
set_option maxRecDepth 100000
set_option maxHeartbeats 4000000
/-! repr of data, where no repr is under way; a term's text is short. -/
namespace GB
open PySem PySem.Spec L2
def rRepr (K : PySem.W.Frag) : List V → Hp → VK → Prop := fun xs H Q => ∃ (a : Addr) (d : PyData), xs = [.ref a] ∧ Dp K H (.ref a) d ∧ d.showable = true ∧ d.hasDict = false ∧ d.depth ≤ 100 ∧ d.shown.length ≤ sizeLine ∧ Q (.str d.shown) H
theorem call_repr {X : Cx} (hg : X.A.guards = some []) (hu : X.A.units + 110 < cLine) : CallR X (.builtin "repr") (rRepr X.K) := by
  intro pins s σ H xs us Q I r h
  obtain ⟨a, d, rfl, hd, h1, h2, h3, h4, q⟩ := h
  cases r with
  | cons r1 r2 =>
    cases r2
    cases r1
    obtain ⟨as, rd⟩ := Dp.reads I d (.ref a) (.ref a) hd rfl
    exact repr_of_reads' rd h1 (PyData.noDict_hsm h2) hg (by omega) (fun _ _ e => e) (fun h' u tk hk => ⟨.str d.shown, H, I.kept hk, ⟨_, rfl⟩, q⟩) h4
mutual
theorem tm_shows : ∀ t : Tm, t.d.showable = true ∧ t.d.intsShort 13 = true
  | .mk w n ks => by
    have h := tms_show ks
    rw [Tm.d]
    split
    · simp [PyData.showable, PyData.showableAll, PyData.intsShort, PyData.intsShortAll, h]
    · split
      · simp [PyData.showable, PyData.showableAll, PyData.intsShort, PyData.intsShortAll, h]
      · split
        · simp [PyData.showable, PyData.showableAll, PyData.intsShort, PyData.intsShortAll, h]
        · simp [PyData.showable, PyData.showableAll, PyData.intsShort, PyData.intsShortAll]
theorem tms_show : ∀ ks : List Tm, PyData.showableAll (Tm.ds ks) = true ∧ PyData.intsShortAll 13 (Tm.ds ks) = true
  | [] => ⟨rfl, rfl⟩
  | k :: r => by
    obtain ⟨a1, a2⟩ := tm_shows k
    obtain ⟨b1, b2⟩ := tms_show r
    rw [Tm.ds]
    simp [PyData.showableAll, PyData.intsShortAll, a1, a2, b1, b2]
end
theorem weight_tm {L : List (Str × Nat)} (hL : ∀ q ∈ L, nameB q.1 = true) {ns : List Str} {t : Tm} (h : TmOk L ns t) : t.d.weight + 1 ≤ 40 * t.size := by
  have n8 : ∀ {z : Str}, nameB z = true → z.cps.size ≤ 8 := fun {z} h => by
    unfold nameB at h
    have := of_decide_eq_true (Bool.and_eq_true_iff.mp h).1
    exact this.2
  induction h with
  | @mk ns w n ks hH hK ih =>
    have hks : ∀ (l : List Tm), (∀ k ∈ l, k.d.weight + 1 ≤ 40 * k.size) → PyData.weightAll (Tm.ds l) ≤ 40 * Tm.sizes l := by
      intro l
      induction l with
      | nil => intro _; rw [Tm.ds, Tm.sizes]; simp [PyData.weightAll]
      | cons k r ihr =>
        intro hh
        have h1 := hh k List.mem_cons_self
        have h2 := ihr fun k' hk' => hh k' (List.mem_cons_of_mem _ hk')
        rw [Tm.ds, Tm.sizes]
        simp only [PyData.weightAll]
        omega
    have hw : PyData.weightAll (Tm.ds ks) ≤ 40 * Tm.sizes ks := hks ks fun k hk => by
      obtain ⟨i, hi⟩ := List.mem_iff_getElem?.mp hk
      exact ih i k hi
    have wn : w.cps.size ≤ 5 ∧ n.cps.size ≤ 8 := by
      clear hw hks ih hK
      revert hH
      generalize ks.length = m
      intro hH
      cases hH with
      | val h => exact ⟨by decide, n8 h⟩
      | fail h => exact ⟨by decide, n8 h⟩
      | name h _ => exact ⟨by decide, n8 h⟩
      | use h => exact ⟨by decide, n8 (hL _ h)⟩
      | bind h _ => exact ⟨by decide, n8 h⟩
      | op ho => exact ⟨(show ∀ q ∈ opsW, q.1.cps.size ≤ 5 by decide) _ ho, by decide⟩
    rw [Tm.d, Tm.size]
    split
    · simp only [PyData.weight, PyData.weightAll]
      omega
    · split
      · simp only [PyData.weight, PyData.weightAll]
        omega
      · split
        · simp only [PyData.weight, PyData.weightAll]
          omega
        · simp only [PyData.weight, PyData.weightAll]
          omega
/-- [t, o] can be shown -/
theorem shows_two {L : List (Str × Nat)} (hL : ∀ q ∈ L, nameB q.1 = true) {ns ms : List Str} {t o : Tm} (h1 : TmOk L ns t) (h2 : TmOk L ms o) (s1 : t.size ≤ 20) (s2 : o.size ≤ 20) :
    (PyData.list [t.d, o.d]).showable = true ∧ (PyData.list [t.d, o.d]).hasDict = false ∧ (PyData.list [t.d, o.d]).depth ≤ 100 ∧ (PyData.list [t.d, o.d]).shown.length ≤ sizeLine := by
  have hs : ∀ q ∈ L, PyData.strOk q.1 = true := fun q hq => name_ok (hL q hq)
  obtain ⟨c1, d1⟩ := tm_lay hs h1
  obtain ⟨c2, d2⟩ := tm_lay hs h2
  obtain ⟨a1, b1⟩ := tm_shows t
  obtain ⟨a2, b2⟩ := tm_shows o
  have w1 := weight_tm hL h1
  have w2 := weight_tm hL h2
  have cl : PyData.canLay0 (.list [t.d, o.d]) = true := by simp [PyData.canLay0, PyData.canLayAll0, c1, c2]
  refine ⟨by simp [PyData.showable, PyData.showableAll, a1, a2], PyData.hasDict_of_canLay _ cl, ?_, ?_⟩
  · simp only [PyData.depth, PyData.depthAll]
    omega
  · refine PyData.shown_fits (B := 13) (by decide) (by decide) (PyData.leavesShort_of_canLay0 13 _ cl (by simp [PyData.intsShort, PyData.intsShortAll, b1, b2])) ?_
    simp only [PyData.weight, PyData.weightAll]
    omega
end GB
set_option Elab.async false
set_option linter.all false
set_option autoImplicit false
set_option maxRecDepth 100000
set_option maxHeartbeats 4000000
/-! Terms as any data: sizes, and that lists for tuples change nothing of what a text of it needs. -/
namespace GB
open PySem PySem.Spec L2
mutual
theorem sz_own : ∀ t : Tm, (adOf t.d).sz ≤ 4 * t.size
  | .mk w n ks => by
    have h := szs_own ks
    rw [Tm.d, Tm.size]
    split
    · simp only [adOf, adsOf, AD.sz, AD.szs]; omega
    · split
      · simp only [adOf, adsOf, AD.sz, AD.szs]; omega
      · split
        · simp only [adOf, adsOf, AD.sz, AD.szs]; omega
        · simp only [adOf, adsOf, AD.sz, AD.szs]; omega
theorem szs_own : ∀ ks : List Tm, AD.szs (adsOf (Tm.ds ks)) ≤ 4 * Tm.sizes ks
  | [] => by simp [Tm.ds, adsOf, AD.szs]
  | k :: r => by
    have := sz_own k
    have := szs_own r
    rw [Tm.ds, adsOf, AD.szs, Tm.sizes]
    omega
end
mutual
theorem Lo.py_eq : ∀ {d e : AD}, Lo d e → d.noDic = true → PyData.canLay0 e.py = PyData.canLay0 d.py ∧ PyData.depth e.py = PyData.depth d.py ∧ e.py.showable = d.py.showable ∧ e.py.intsShort 13 = d.py.intsShort 13 ∧ e.py.weight = d.py.weight
  | _, _, .same h, n => ⟨rfl, rfl, rfl, rfl, rfl⟩
  | .seq true xs, .seq true ys, .tup h, n => by
    obtain ⟨a, b, c, d, e⟩ := LoAll.py_eq h n
    simp only [AD.py, PyData.canLay0, PyData.depth, PyData.showable, PyData.intsShort, PyData.weight, a, b, c, d, e, and_self]
  | .seq true xs, .seq false ys, .tup h, n => by
    obtain ⟨a, b, c, d, e⟩ := LoAll.py_eq h n
    simp only [AD.py, PyData.canLay0, PyData.depth, PyData.showable, PyData.intsShort, PyData.weight, a, b, c, d, e, and_self]
theorem LoAll.py_eq : ∀ {ds es : List AD}, LoAll ds es → AD.noDics ds = true → PyData.canLayAll0 (AD.pys es) = PyData.canLayAll0 (AD.pys ds) ∧ PyData.depthAll (AD.pys es) = PyData.depthAll (AD.pys ds) ∧ PyData.showableAll (AD.pys es) = PyData.showableAll (AD.pys ds) ∧ PyData.intsShortAll 13 (AD.pys es) = PyData.intsShortAll 13 (AD.pys ds) ∧ PyData.weightAll (AD.pys es) = PyData.weightAll (AD.pys ds)
  | _, _, .nil, _ => ⟨rfl, rfl, rfl, rfl, rfl⟩
  | _, _, .cons h1 h2, n => by
    rw [AD.noDics] at n
    obtain ⟨n1, n2⟩ := Bool.and_eq_true_iff.mp n
    obtain ⟨a, b, c, d, e⟩ := Lo.py_eq h1 n1
    obtain ⟨a2, b2, c2, d2, e2⟩ := LoAll.py_eq h2 n2
    simp only [AD.pys, PyData.canLayAll0, PyData.depthAll, PyData.showableAll, PyData.intsShortAll, PyData.weightAll, a, b, c, d, e, a2, b2, c2, d2, e2, and_self]
end
mutual
theorem py_own : ∀ t : Tm, (adOf t.d).py = t.d
  | .mk w n ks => by
    have h := pys_own ks
    rw [Tm.d]
    split
    · simp only [adOf, adsOf, AD.py, AD.pys, h]
    · split
      · simp only [adOf, adsOf, AD.py, AD.pys, h]
      · split
        · simp only [adOf, adsOf, AD.py, AD.pys, h]
        · simp only [adOf, adsOf, AD.py, AD.pys]
theorem pys_own : ∀ ks : List Tm, AD.pys (adsOf (Tm.ds ks)) = Tm.ds ks
  | [] => rfl
  | k :: r => by rw [Tm.ds, adsOf, AD.pys, py_own k, pys_own r]
end
end GB
set_option Elab.async false
set_option linter.all false
set_option autoImplicit false
set_option maxRecDepth 100000
set_option maxHeartbeats 8000000
namespace K39t
open PySem PySem.Spec L2 K39 GB
abbrev sLoose : Stmt := topS 49
def looseN : List Str := ["_law_pool_here", "_law_thing", "_law_found", "_law_part"]
def spLoose (K : PySem.W.Frag) (z : Nat) : Sp := fun vs H Q _ => ∃ (p : Addr) (ps : List Addr) (x : V) (d : AD) (n : Nat), vs = [.ref p, x] ∧ p ∈ ps ∧ (∀ q ∈ ps, ∃ o, H q = some o) ∧ AdAt K (hid ps H) x d ∧ d.sz ≤ z ∧ z ≤ 1000 ∧ n + d.sz ≤ 900000 ∧ PoolIs H p n ∧
  ∀ y d' H', Bt [p] H H' → AdAt K (hid ps H') y d' → Lo d d' → PoolIs H' p (n + d.sz) → (d.isTup = true → ∃ a, y = .ref a ∧ H a = none ∧ ((d'.isTup = false ∧ ∃ xs, xs.length ≤ d.sz ∧ H' a = some (.lst xs)) ∨ (d'.isTup = true ∧ ∃ xs, H' a = some (.tup xs)))) → Q y H'
section
variable {P : Program} {w : World} {K : PySem.W.Frag} {mg : Str → Option Value} {base : Heap}
theorem scLoose : FnScope looseN ["_law_pool_here", "_law_thing"] (defScope sLoose) := ⟨rfl, rfl, rfl, by decide +kernel, rfl, by decide +kernel, by decide +kernel⟩
theorem ok_loose {f : Addr} {fd : FuncData} (F : Fun K "_law_loose" "_law_loose" sLoose f fd) (T : Bl mg) (mgF : mg "_law_loose" = some (.ref f)) (kF : PySem.W.keepIn K (.ref f) = true) (bF : Binds K fd ["_law_pool_here", "_law_thing"] [])
    (TK : Fns P w K mg base "_law_take" 1 ["_law_pool_here", "_law_many"] spTake) : ∀ z : Nat, FnOk P w K mg base CX0 (2 + z) f fd ["_law_pool_here", "_law_thing"] (spLoose K z) := by
  intro z
  induction z with
  | zero =>
    refine F.ok scLoose (fun vs H Q E h => ?_) (fun cdv A outer s H vs Q E hr h => ?_)
    · obtain ⟨p, ps, x, d, n, rfl, _⟩ := h
      rfl
    · obtain ⟨p, ps, x, d, n, rfl, _, _, _, hz, _⟩ := h
      exact absurd hz (by have := AD.sz_pos d; omega)
  | succ z ih =>
    have LO : Fns P w K mg base "_law_loose" (2 + z) ["_law_pool_here", "_law_thing"] (spLoose K z) := ⟨f, fd, ih, mgF, kF, bF⟩
    refine F.ok scLoose (fun vs H Q E h => ?_) (fun cdv A outer s H vs Q E hr h => ?_)
    · obtain ⟨p, ps, x, d, n, rfl, _⟩ := h
      rfl
    · obtain ⟨p, ps, x, d, n, rfl, hp, hps, hx, hz, hz2, hn, hP, q⟩ := h
      have l0 : 2 + z ≤ Nat.add 2 z := Nat.le_refl _
      have l1 : 1 ≤ Nat.add 2 z := by show 1 ≤ 2 + z; omega
      refine ⟨_, pss_cons (ps_if (pt_not (pt_val (pe_callB call_isi (by rfl) T.isi (by decide +kernel) (pa_cons (pv 1) (pa_cons (pe_bltn (v := .ty "tuple") (by rfl) T.tuple (by decide +kernel) rfl) (pa_nil)))))) (pss_one (ps_ret (pv 1))) (pss_nil)) (pss_cons (ps_setLc (i := 2) (own := [("_law_part", 3)]) (g := gName 3) (tt := tYes) rfl scLoose.nd rfl rfl (sw_true rfl rfl rfl (by decide +kernel)) (pi_seqW (pv 1)) (blkOk_by (own := [("_law_part", 3)]) (N := looseN) (sc := defScope sLoose) (by decide +kernel)) (fun _ _ _ _ _ => pg_name (i := 3) scLoose.nd rfl (.inl rfl)) (fun _ _ _ _ _ => pts_nil) (fun _ _ _ _ _ => pe_fn LO hr l0 rfl (pa_cons (pv 0) (pa_cons (pv 3) (pa_nil))))) (pss_one (ps_ret (pe_ifExp (pt_cmpR op_eq (pe_fn TK hr l1 rfl (pa_cons (pv 0) (pa_cons (pe_int) (pa_nil)))) (pe_int) (nomark _)) (pv 2) (pe_callTy (call_tuple_of) (by rfl) T.tuple (by decide +kernel) (pa_cons (pv 2) (pa_nil))))))), ?_⟩
      refine ⟨_, rfl, x, .ty "tuple", .type d.ty, .type "tuple", d.isTup, rfl, .ty "tuple", hx.ty _ (hid_low _ _), kit_tup d, _, rfl, ?_⟩
      cases hd : d.isTup with
      | false =>
        refine iteT ?_
        exact ⟨_, rfl, q x d H (Same.refl _) hx (.same hd) (hP.mono (Same.refl _) (by omega)) (fun z => nomatch hd.symm.trans z)⟩
      | true =>
      refine iteF ?_
      obtain ⟨ds, rfl⟩ : ∃ ds, d = .seq true ds := by
        cases d with
        | seq t xs => cases t with
          | true => exact ⟨xs, rfl⟩
          | false => cases hd
        | _ => cases hd
      cases hx with
      | @tup a xs _ hs hall =>
        obtain ⟨kb, hqv⟩ := sqV (.inr hs)
        have szd : AD.szs ds + 1 = (AD.seq true ds).sz := rfl
        refine ⟨_, rfl, a, xs, kb, ps, rfl, hqv, fun J WJ D nD => ?_⟩
        have Dps : D ∉ ps := fun m => by
          obtain ⟨o, e⟩ := hps D m
          rw [nD] at e
          cases e
        have Dp' : D ≠ p := fun e => Dps (by rw [e]; exact hp)
        refine lc_it WJ (fun i H' => Bt [p] H H' ∧ ∃ acc ds', H' D = some (.lst acc) ∧ acc.length = i ∧ AdAll K (hid (D :: ps) H') acc ds' ∧ LoAll (ds.take i) ds' ∧ PoolIs H' p (n + AD.szs (ds.take i))) ⟨bt_of (same_new nD), [], [], upd_same, rfl, .nil, .nil, hP.mono (same_new nD) (by omega)⟩ (fun i H' _ ⟨B, _⟩ => hqv.mono (bt_weak (by simpa using hp) B)) ?turn ?done
        case turn =>
          rintro i y H1 H1' hi ⟨B1, acc, ds', hD, hal, hacc, hlo, P1⟩ ⟨rfl, hyi⟩
          refine ⟨rfl, ?_⟩
          obtain ⟨di, hdi, hy⟩ := hall.at hyi
          have hsz := AD.szs_at hdi
          have hll := AD.len_szs ds
          have hxl := hall.len
          have hil : i < xs.length := (List.getElem?_eq_some_iff.mp hyi).1
          have B1' : Bt ps H H1' := bt_weak (by simpa using hp) B1
          have toD : Same (hid ps H) (hid (D :: ps) H1') := fun b o e => by
            obtain ⟨e1, m⟩ := hid_in e
            have e2 := (hid_low _ _) _ _ (B1' _ _ e)
            exact hid_to (by simp only [List.mem_cons, not_or]; exact ⟨ne_of_none e1 nD, m⟩) e2
          refine ⟨_, rfl, _, rfl, p, D :: ps, y, di, _, rfl, List.mem_cons_of_mem _ hp, fun b hb => ?_, hy.mono toD, by omega, by omega, by omega, P1, fun v d' H2 B2 hv hl P2 _ => ?_⟩
          · rcases List.mem_cons.mp hb with rfl | hb
            · exact ⟨_, hD⟩
            · obtain ⟨o, e⟩ := hps b hb
              by_cases hbp : b = p
              · subst hbp
                obtain ⟨_, _, _, e, _⟩ := P1
                exact ⟨_, e⟩
              · exact ⟨o, bt_at B1 (ni1 hbp) e⟩
          have hD2 := bt_at B2 (ni1 Dp') hD
          refine ⟨acc, hD2, by rw [hal, sizeLine_eq]; omega, fun b o e => ?_, acc ++ [v], ds' ++ [d'], upd_same, by rw [List.length_append, hal]; rfl, ?_, ?_, ?_⟩
          · obtain ⟨e1, m⟩ := hid_in e
            have nb : b ≠ D := ne_of_none e1 nD
            exact hid_to m (by rw [upd_ne nb]; exact bt_at B2 m (bt_at B1 m e1))
          · have bD : Bt (D :: ps) H2 (upd H2 D (.lst (acc ++ [v]))) := bt_upd (by simp)
            have b2 : Bt (D :: ps) H1' H2 := bt_weak (by simp [hp]) B2
            exact (hacc.mono (b2.trans bD)).app (.cons (hv.mono bD) .nil)
          · rw [take_at hdi]
            exact hlo.app (.cons hl .nil)
          · rw [take_at hdi, AD.szs_app, AD.szs, AD.szs]
            obtain ⟨a1, b1, c1, e1, r1, r2, r3, r4, r5⟩ := P2
            exact ⟨a1, b1, c1, by rw [upd_ne Dp'.symm]; exact e1, r1, r2, r3, r4, by omega⟩
        rintro H3 ⟨B3, acc, ds', hD, hal, hacc, hlo, P3⟩
        have et : ds.take xs.length = ds := List.take_of_length_le (by rw [hall.len]; exact Nat.le_refl _)
        rw [et] at hlo P3
        refine ⟨_, rfl, p, 2, _, rfl, by decide, by decide, by omega, P3, fun r H4 hr2 B4 P4 => ?_⟩
        have hD4 := bt_at B4 (ni1 Dp') hD
        have B04 : Bt [p] H H4 := B3.trans B4
        have hacc4 : AdAll K (hid ps H4) acc ds' := (hacc.mono (bt_weak (by simp [hp]) B4)).mono (hid_less fun q hq => List.mem_cons_of_mem _ hq)
        have P4' : PoolIs H4 p (n + (AD.seq true ds).sz) := P4.mono (Same.refl _) (by omega)
        refine ⟨rfl, _, rfl, ?_⟩
        rw [decI]
        by_cases c : (r : Int) = 0
        · rw [decide_eq_true c]
          refine iteT ?_
          exact ⟨_, rfl, q _ _ H4 B04 (.lst (SqL.of (hid_to Dps hD4)) hacc4) (.tup hlo) P4' (fun _ => ⟨D, rfl, nD, .inl ⟨rfl, _, by rw [hal, hall.len]; have := AD.len_szs ds; show _ ≤ AD.szs ds + 1; omega, hD4⟩⟩)⟩
        · rw [decide_eq_false c]
          refine iteF ?_
          refine ⟨_, rfl, D, acc, rfl, .inl ⟨SqL.of hD4, fun t nt => ?_⟩⟩
          obtain ⟨H5, s5, h5, e5⟩ := lay (o := .tup acc) nt
          rw [e5]
          have tps : t ∉ ps := fun m => by
            obtain ⟨o, e⟩ := hps t m
            by_cases tp : t = p
            · subst tp
              obtain ⟨_, _, _, e', _⟩ := P4
              rw [nt] at e'; cases e'
            · have := bt_at B04 (ni1 tp) e
              rw [nt] at this; cases this
          have tH : H t = none := by
            cases e : H t with
            | none => rfl
            | some o =>
              by_cases tp : t = p
              · subst tp
                obtain ⟨_, _, _, e', _⟩ := P4
                rw [nt] at e'; cases e'
              · have := bt_at B04 (ni1 tp) e
                rw [nt] at this; cases this
          exact q _ _ H5 (B04.trans (bt_of s5)) (.tup (SqT.of (hid_to tps h5)) (hacc4.mono (hid_same s5))) (.tup hlo) (P4'.mono s5 (Nat.le_refl _)) (fun _ => ⟨t, rfl, tH, .inr ⟨rfl, _, h5⟩⟩)
end
end K39t
set_option Elab.async false
set_option linter.all false
set_option autoImplicit false
set_option maxRecDepth 100000
set_option maxHeartbeats 4000000
namespace K39
open PySem PySem.Spec L2 GB K39t
theorem strs_ad : ∀ ns : List Str, adsOf (pst ns) = ns.map AD.str
  | [] => rfl
  | n :: r => by show adOf (.str n) :: adsOf (pst r) = _; rw [strs_ad r]; rfl
theorem strs_py : ∀ ns : List Str, AD.pys (ns.map AD.str) = pst ns
  | [] => rfl
  | n :: r => by show AD.py (.str n) :: AD.pys (r.map AD.str) = _; rw [strs_py r]; rfl
theorem fn_ad (f : FnD) : adOf (fnData f) = .seq true [.str f.1, .seq true (f.2.1.map AD.str), adOf f.2.2.d] := by
  unfold fnData
  simp only [adOf, adsOf, strs_ad]
theorem fn_py (f : FnD) : (adOf (fnData f)).py = fnData f := by
  rw [fn_ad]
  simp only [AD.py, AD.pys, strs_py, py_own]
  rfl
theorem lo_strs : ∀ {ns : List Str} {es : List AD}, LoAll (ns.map AD.str) es → es = ns.map AD.str
  | [], es, h => h.nil_inv
  | n :: r, es, h => by
    obtain ⟨e, r2, rfl, h1, h2⟩ := LoAll.cons_inv (h : LoAll (AD.str n :: r.map AD.str) es)
    rw [h1.str_inv, lo_strs h2]
    rfl
theorem all_strs {K : PySem.W.Frag} {H : Hp} : ∀ {ns : List Str} {vs : List V}, AdAll K H vs (ns.map AD.str) → vs = sts ns
  | [], vs, h => by cases h; rfl
  | n :: r, vs, h => by
    cases h with
    | cons h1 h2 => rw [h1.str_inv, all_strs h2]; rfl
/-- what functions of a ground are, one behind another -/
structure FnsOk (gd : GD) (z : Nat) (fs : List FnD) : Prop where
  nb : ∀ f ∈ fs, nameB f.1 = true
  nd : (gd.letters.map (·.1) ++ fs.map (·.1)).Nodup
  le : gd.letters.length + fs.length ≤ 12
  bn : ∀ f ∈ fs, (∀ m ∈ f.2.1, nameB m = true) ∧ f.2.1.Nodup ∧ f.2.1.length ≤ 2
  ok : ∀ (i : Nat) (f : FnD), fs[i]? = some f → TmOk (gd.wide (pre (fs.take i))).letters f.2.1 f.2.2 ∧ f.2.2.size ≤ z
theorem len_nb {s : Str} (h : nameB s = true) : s.length ≤ sizeLine := by
  unfold nameB at h
  have := (of_decide_eq_true (Bool.and_eq_true_iff.mp h).1).2
  rw [sizeLine_eq]
  omega
theorem wide_l (gd : GD) (fs : List FnD) : (gd.wide (pre fs)).letters = gd.letters ++ fs.map fun f => (f.1, f.2.1.length) := by
  unfold GD.wide pre
  rw [List.map_map]
  rfl
theorem wide_n (gd : GD) (fs : List FnD) : (gd.wide (pre fs)).letters.map (·.1) = gd.letters.map (·.1) ++ fs.map (·.1) := by
  rw [wide_l, List.map_append, List.map_map]
  rfl
theorem FnsOk.take {gd : GD} {z : Nat} {fs : List FnD} (h : FnsOk gd z fs) (k : Nat) : FnsOk gd z (fs.take k) := by
  refine ⟨fun f hf => h.nb f (List.mem_of_mem_take hf), ?_, ?_, fun f hf => h.bn f (List.mem_of_mem_take hf), fun i f hi => ?_⟩
  · refine h.nd.sublist (List.Sublist.append_left ?_ _)
    exact (List.take_sublist _ _).map _
  · have := h.le
    rw [List.length_take]
    omega
  · rw [List.getElem?_take] at hi
    split at hi
    · rename_i hik
      rw [List.take_take, Nat.min_eq_left (by omega)]
      exact h.ok i f hi
    · cases hi
theorem FnsOk.snoc {gd : GD} {z : Nat} {fs : List FnD} {f : FnD} (h : FnsOk gd z fs) (nb : nameB f.1 = true) (nw : f.1 ∉ gd.letters.map (·.1) ++ fs.map (·.1)) (le : gd.letters.length + fs.length + 1 ≤ 12) (bn : (∀ m ∈ f.2.1, nameB m = true) ∧ f.2.1.Nodup ∧ f.2.1.length ≤ 2) (ok : TmOk (gd.wide (pre fs)).letters f.2.1 f.2.2 ∧ f.2.2.size ≤ z) : FnsOk gd z (fs ++ [f]) := by
  refine ⟨fun g hg => ?_, ?_, by rw [List.length_append]; simp only [List.length_singleton]; omega, fun g hg => ?_, fun i g hi => ?_⟩
  · rcases List.mem_append.mp hg with hg | hg
    · exact h.nb g hg
    · rw [List.mem_singleton.mp hg]; exact nb
  · rw [List.map_append, ← List.append_assoc]
    refine List.nodup_append.mpr ⟨h.nd, by simp, fun a ha b hb z => nw ?_⟩
    have e : b = f.1 := List.mem_singleton.mp hb
    rw [← e, ← z]
    exact ha
  · rcases List.mem_append.mp hg with hg | hg
    · exact h.bn g hg
    · rw [List.mem_singleton.mp hg]; exact bn
  · by_cases hl : i < fs.length
    · rw [List.getElem?_append_left hl] at hi
      rw [List.take_append_of_le_length (by omega)]
      exact h.ok i g hi
    · have il := (List.getElem?_eq_some_iff.mp hi).1
      rw [List.length_append] at il
      simp only [List.length_singleton] at il
      obtain rfl : i = fs.length := by omega
      rw [List.getElem?_append_right (Nat.le_refl _), Nat.sub_self] at hi
      obtain rfl : f = g := by simpa using hi
      rw [List.take_append_of_le_length (Nat.le_refl _), List.take_of_length_le (Nat.le_refl _)]
      exact ok
theorem FnsOk.fit {gd : GD} {z : Nat} {fs : List FnD} (h : FnsOk gd z fs) (g : gd.Fit) : (gd.wide (pre fs)).Fit := by
  have sub : ∀ q ∈ gd.letters, q ∈ (gd.wide (pre fs)).letters := fun q hq => by rw [wide_l]; exact List.mem_append_left _ hq
  refine ⟨?_, ?_, fun q hq => ?_, ?_, fun q hq => ?_, g.fx, fun x hx => ?_, g.cm, g.cs, fun x hx => sub _ (g.c2 x hx), g.fl, fun f hf => ?_, g.fd⟩
  · rw [wide_l]
    exact fun z => g.ne (List.append_eq_nil_iff.mp z).1
  · rw [wide_n]; exact h.nd
  · rw [wide_l] at hq
    rcases List.mem_append.mp hq with hq | hq
    · exact g.nm q hq
    · obtain ⟨f, hf, rfl⟩ := List.mem_map.mp hq
      exact h.nb f hf
  · rw [wide_l, List.length_append, List.length_map]
    exact h.le
  · rw [wide_l] at hq
    rcases List.mem_append.mp hq with hq | hq
    · exact g.ar q hq
    · obtain ⟨f, hf, rfl⟩ := List.mem_map.mp hq
      exact (h.bn f hf).2.2
  · rw [wide_n]
    exact List.mem_append_left _ (g.fs x hx)
  · obtain ⟨h1, ⟨k, h2, h3⟩, h4, h5, h6⟩ := g.fa f hf
    exact ⟨h1, ⟨k, sub _ h2, h3⟩, h4, h5, h6⟩
/-- a function handed over, with lists for some tuples -/
theorem good_of {K : PySem.W.Frag} {H : Hp} {L : List (Str × Nat)} {z : Nat} {f : FnD} {y : V} {e : AD} (h : AdAt K H y e) (l : Lo (adOf (fnData f)) e) (h1 : nameB f.1 = true) (h2 : f.1 ∉ L.map (·.1)) (h3 : (∀ m ∈ f.2.1, nameB m = true) ∧ f.2.1.Nodup ∧ f.2.1.length ≤ 2) (h4 : TmOk L f.2.1 f.2.2 ∧ f.2.2.size ≤ z) : GoodFn K H L z f y := by
  rw [fn_ad] at l
  obtain ⟨c, ys, rfl, m0⟩ := l.sq
  clear l
  obtain ⟨e1, r1, rfl, l1, m1⟩ := m0.cons_inv
  obtain ⟨e2, r2, rfl, l2, m2⟩ := m1.cons_inv
  obtain ⟨e3, r3, rfl, l3, m3⟩ := m2.cons_inv
  have m4 := m3.nil_inv
  subst m4
  have l1 := l1.str_inv
  subst l1
  obtain ⟨c2, ys2, rfl, m5⟩ := l2.sq
  have m5 := lo_strs m5
  subst m5
  obtain ⟨a, xs, rfl, hs, ha⟩ := h.sq
  obtain ⟨v1, w1, rfl, b1, ha⟩ := ha.cons_inv
  obtain ⟨v2, w2, rfl, b2, ha⟩ := ha.cons_inv
  obtain ⟨v3, w3, rfl, b3, ha⟩ := ha.cons_inv
  have ha := ha.nil_inv
  subst ha
  have b1 := b1.str_inv
  subst b1
  obtain ⟨b, zs, rfl, hb, hz⟩ := b2.sq
  have hz := all_strs hz
  subst hz
  have gd := (Gd.own h4.1).lo l3
  exact ⟨a, v3, b, e3.py, rfl, hs, h1, len_nb h1, h2, hb, fun m hm => ⟨h3.1 m hm, len_nb (h3.1 m hm)⟩, h3.2.1, h3.2.2, b3.dp gd.noDic, gd.isTm, h4.1, h4.2⟩
theorem take_new {gd : GD} {z : Nat} {fs : List FnD} (h : FnsOk gd z fs) {i : Nat} {f : FnD} (hi : fs[i]? = some f) : f.1 ∉ (gd.wide (pre (fs.take i))).letters.map (·.1) := by
  rw [wide_n]
  have e : fs = fs.take i ++ f :: fs.drop (i + 1) := by
    obtain ⟨k1, k2⟩ := List.getElem?_eq_some_iff.mp hi
    rw [← k2, ← List.drop_eq_getElem_cons k1, List.take_append_drop]
  have nd := h.nd
  rw [e, List.map_append, ← List.append_assoc] at nd
  intro m
  exact (List.nodup_append.mp nd).2.2 _ m f.1 (by rw [List.map_cons]; exact List.mem_cons_self) rfl
theorem goodlib_of {K : PySem.W.Frag} {H : Hp} {gd : GD} {z : Nat} {fs : List FnD} {a : Addr} {vs : List V} (ok : FnsOk gd z fs) (g : gd.Fit) (ha : SqA K H a vs) (hl : fs.length = vs.length) (h : ∀ (i : Nat) (f : FnD) (v : V), fs[i]? = some f → vs[i]? = some v → ∃ e, AdAt K H v e ∧ Lo (adOf (fnData f)) e) : GoodLib K H gd z a fs :=
  ⟨vs, ha, hl, fun i f v hf hv => by
    obtain ⟨e, h1, h2⟩ := h i f v hf hv
    have hm := List.mem_of_getElem? hf
    exact good_of h1 h2 (ok.nb f hm) (take_new ok hf) (ok.bn f hm) (ok.ok i f hf), fun i _ => (ok.take i).fit g⟩
/-- a function as it is kept is one to be handed over -/
theorem fn_own {K : PySem.W.Frag} {H : Hp} {f : FnD} {t : Addr} (h : FunT K H f t) : ∃ e, AdAt K H (.ref t) e ∧ Lo (adOf (fnData f)) e := ⟨_, adOf_at (dp_fn h), Lo.refl _⟩
theorem goodlib_own {K : PySem.W.Frag} {H : Hp} {gd : GD} {z : Nat} {fs : List FnD} {a : Addr} {ts : List Addr} (ok : FnsOk gd z fs) (g : gd.Fit) (ha : SqA K H a (ts.map V.ref)) (h : Paired (FunT K H) fs ts) : GoodLib K H gd z a fs :=
  goodlib_of ok g ha (by rw [List.length_map]; exact Paired.length h) fun i f v hf hv => by
    obtain ⟨t, ht, hft⟩ := paired_at' h hf
    rw [List.getElem?_map, ht] at hv
    obtain rfl : V.ref t = v := by simpa using hv
    exact fn_own hft
theorem lib_ok {gd : GD} {fs : List FnD} (g3 : Gd3 gd) (l : LibD gd fs) : FnsOk gd 4 fs where
  nb := fun f hf => (show ∀ x ∈ fnNm, nameB x = true by decide +kernel) _ (l.nm f hf)
  nd := by
    have := (g3.wide l.nm l.nd fun f hf => (l.bn f hf).2.2).nd
    rwa [wide_n] at this
  le := by
    have := g3.le
    have := l.len
    omega
  bn := fun f hf => ⟨fun m hm => (show ∀ x ∈ bnNm, nameB x = true by decide +kernel) _ ((l.bn f hf).1 m hm), (l.bn f hf).2⟩
  ok := l.ok
theorem HeadOk.up {L M : List (Str × Nat)} (s : ∀ q ∈ L, q ∈ M) {ns : List Str} {w n : Str} {m : Nat} (h : HeadOk L ns w n m) : HeadOk M ns w n m := by
  cases h with
  | val h => exact .val h
  | fail h => exact .fail h
  | name h h2 => exact .name h h2
  | use h => exact .use (s _ h)
  | bind h h2 => exact .bind h h2
  | op h => exact .op h
theorem TmOk.up {L M : List (Str × Nat)} (s : ∀ q ∈ L, q ∈ M) {ns : List Str} {t : GB.Tm} (h : TmOk L ns t) : TmOk M ns t := by
  induction h with
  | mk ho hk ih => exact .mk (HeadOk.up s ho) ih
/-- the same functions over a ground with one letter more -/
theorem FnsOk.more {gd hd : GD} {z : Nat} {fs : List FnD} {x : Str × Nat} (h : FnsOk gd z fs) (e : hd.letters = gd.letters ++ [x]) (nw : x.1 ∉ gd.letters.map (·.1) ++ fs.map (·.1)) (le : gd.letters.length + fs.length + 1 ≤ 12) : FnsOk hd z fs where
  nb := h.nb
  nd := by
    rw [e, List.map_append, List.append_assoc]
    refine List.perm_middle.nodup_iff.mpr (List.nodup_cons.mpr ⟨nw, h.nd⟩)
  le := by
    rw [e, List.length_append]
    simp only [List.length_singleton]
    omega
  bn := h.bn
  ok := fun i f hi => ⟨TmOk.up (fun q hq => by
    rw [wide_l] at hq ⊢
    rw [e, List.append_assoc]
    rcases List.mem_append.mp hq with hq | hq
    · exact List.mem_append_left _ hq
    · exact List.mem_append_right _ (List.mem_cons_of_mem _ hq)) (h.ok i f hi).1, (h.ok i f hi).2⟩
end K39
set_option Elab.async false
set_option linter.all false
set_option autoImplicit false
set_option maxRecDepth 100000
set_option maxHeartbeats 4000000
namespace K39
open PySem PySem.Spec L2 GB K39t
theorem n8' {z : Str} (h : nameB z = true) : z.cps.size ≤ 8 := by
  unfold nameB at h
  exact (of_decide_eq_true (Bool.and_eq_true_iff.mp h).1).2
theorem strs_show : ∀ ns : List Str, PyData.showableAll (pst ns) = true ∧ PyData.intsShortAll 13 (pst ns) = true
  | [] => ⟨by simp [pst, PyData.showableAll], by simp [pst, PyData.intsShortAll]⟩
  | n :: r => by
    obtain ⟨a, b⟩ := strs_show r
    exact ⟨by show PyData.showableAll (.str n :: pst r) = true; simp [PyData.showableAll, PyData.showable, a], by show PyData.intsShortAll 13 (.str n :: pst r) = true; simp [PyData.intsShortAll, PyData.intsShort, b]⟩
theorem strs_weight : ∀ ns : List Str, (∀ m ∈ ns, nameB m = true) → PyData.weightAll (pst ns) ≤ 9 * ns.length
  | [], _ => by simp [pst, PyData.weightAll]
  | n :: r, h => by
    have a := strs_weight r fun m hm => h m (List.mem_cons_of_mem _ hm)
    have b := n8' (h n List.mem_cons_self)
    show PyData.weightAll (.str n :: pst r) ≤ _
    simp only [PyData.weightAll, PyData.weight, List.length_cons]
    omega
theorem fn_meas {L : List (Str × Nat)} (hL : ∀ q ∈ L, nameB q.1 = true) {z : Nat} {f : FnD} (nb : nameB f.1 = true) (bn : (∀ m ∈ f.2.1, nameB m = true) ∧ f.2.1.Nodup ∧ f.2.1.length ≤ 2) (ok : TmOk L f.2.1 f.2.2) (hz : f.2.2.size ≤ z) :
    PyData.canLay0 (fnData f) = true ∧ PyData.depth (fnData f) ≤ 2 * z + 2 ∧ (fnData f).showable = true ∧ (fnData f).intsShort 13 = true ∧ (fnData f).weight ≤ 40 * z + 40 := by
  obtain ⟨c1, d1⟩ := tm_lay (fun q hq => name_ok (hL q hq)) ok
  obtain ⟨a1, b1⟩ := tm_shows f.2.2
  have w1 := weight_tm hL ok
  obtain ⟨s1, s2⟩ := strs_show f.2.1
  have s3 := strs_weight f.2.1 bn.1
  have l1 : PyData.canLayAll0 (pst f.2.1) = true := lay_strs f.2.1 fun m hm => name_ok (bn.1 m hm)
  have l2 : PyData.depthAll (pst f.2.1) = 0 := dep_strs f.2.1
  have b2 := bn.2.2
  have n8 := n8' nb
  refine ⟨?_, ?_, ?_, ?_, ?_⟩
  · simp only [fnData, PyData.canLay0, PyData.canLayAll0, l1, c1, name_ok nb, Bool.and_true]
  · simp only [fnData, PyData.depth, PyData.depthAll, l2]
    omega
  · simp only [fnData, PyData.showable, PyData.showableAll, s1, a1, Bool.and_true]
  · simp only [fnData, PyData.intsShort, PyData.intsShortAll, s2, b1, Bool.and_true]
  · simp only [fnData, PyData.weight, PyData.weightAll]
    omega
theorem all_meas {z : Nat} : ∀ {ds : List PyData}, (∀ d ∈ ds, PyData.canLay0 d = true ∧ PyData.depth d ≤ 2 * z + 2 ∧ d.showable = true ∧ d.intsShort 13 = true ∧ d.weight ≤ 40 * z + 40) →
    PyData.canLayAll0 ds = true ∧ PyData.depthAll ds ≤ 2 * z + 3 ∧ PyData.showableAll ds = true ∧ PyData.intsShortAll 13 ds = true ∧ PyData.weightAll ds ≤ ds.length * (40 * z + 41)
  | [], _ => by simp [PyData.canLayAll0, PyData.depthAll, PyData.showableAll, PyData.intsShortAll, PyData.weightAll]
  | d :: r, h => by
    obtain ⟨a1, a2, a3, a4, a5⟩ := h d List.mem_cons_self
    obtain ⟨b1, b2, b3, b4, b5⟩ := all_meas (z := z) fun e he => h e (List.mem_cons_of_mem _ he)
    refine ⟨by simp only [PyData.canLayAll0, a1, b1, Bool.and_true], ?_, by simp only [PyData.showableAll, a3, b3, Bool.and_true], by simp only [PyData.intsShortAll, a4, b4, Bool.and_true], ?_⟩
    · simp only [PyData.depthAll]
      omega
    · simp only [PyData.weightAll, List.length_cons, Nat.add_mul, Nat.one_mul] at *
      omega
theorem fns_meas {gd : GD} {z : Nat} {fs : List FnD} (h : FnsOk gd z fs) (g : gd.Fit) : ∀ f ∈ fs, PyData.canLay0 (fnData f) = true ∧ PyData.depth (fnData f) ≤ 2 * z + 2 ∧ (fnData f).showable = true ∧ (fnData f).intsShort 13 = true ∧ (fnData f).weight ≤ 40 * z + 40 := fun f hf => by
  obtain ⟨i, hi⟩ := List.mem_iff_getElem?.mp hf
  have fit := (h.take i).fit g
  exact fn_meas fit.nm (h.nb f hf) (h.bn f hf) (h.ok i f hi).1 (h.ok i f hi).2
theorem fns_shaped {gd : GD} {z : Nat} {fs : List FnD} (h : FnsOk gd z fs) (g : gd.Fit) (hz : z ≤ 10) : SeqAt.shaped (.list (fs.map fnData)) = true := by
  obtain ⟨a, b, _⟩ := all_meas (z := z) (ds := fs.map fnData) fun d hd => by
    obtain ⟨f, hf, rfl⟩ := List.mem_map.mp hd
    exact fns_meas h g f hf
  unfold SeqAt.shaped
  have c1 : PyData.canLay0 (.list (fs.map fnData)) = true := by simp only [PyData.canLay0, a]
  have c2 : PyData.depth (.list (fs.map fnData)) ≤ 64 := by simp only [PyData.depth]; omega
  rw [c1, decide_eq_true c2]
  rfl
/-- functions handed over can be shown -/
theorem handed_shows {gd : GD} {z : Nat} {fs : List FnD} (h : FnsOk gd z fs) (g : gd.Fit) (hz : z ≤ 10) {es : List AD} (l : LoAll (fs.map fun f => adOf (fnData f)) es) :
    AD.noDics es = true ∧ (PyData.list (AD.pys es)).showable = true ∧ (PyData.list (AD.pys es)).hasDict = false ∧ (PyData.list (AD.pys es)).depth ≤ 100 ∧ (PyData.list (AD.pys es)).shown.length ≤ sizeLine := by
  have nd : ∀ {fs : List FnD} {es : List AD}, (∀ f ∈ fs, (adOf (fnData f)).noDic = true) → LoAll (fs.map fun f => adOf (fnData f)) es → AD.noDics (fs.map fun f => adOf (fnData f)) = true ∧ AD.pys (fs.map fun f => adOf (fnData f)) = fs.map fnData := by
    intro fs
    induction fs with
    | nil => intro es _ _; exact ⟨rfl, rfl⟩
    | cons f r ih =>
      intro es hh l
      obtain ⟨e, r2, _, _, l2⟩ := l.cons_inv
      obtain ⟨i1, i2⟩ := ih (fun x hx => hh x (List.mem_cons_of_mem _ hx)) l2
      refine ⟨?_, ?_⟩
      · show ((adOf (fnData f)).noDic && AD.noDics (r.map fun f => adOf (fnData f))) = true
        rw [hh f List.mem_cons_self, i1]
        rfl
      · show (adOf (fnData f)).py :: AD.pys (r.map fun f => adOf (fnData f)) = _
        rw [fn_py, i2]
        rfl
  have nf : ∀ f ∈ fs, (adOf (fnData f)).noDic = true := fun f hf => by
    obtain ⟨i, hi⟩ := List.mem_iff_getElem?.mp hf
    have d1 := (Gd.own (h.ok i f hi).1).noDic
    have d2 : ∀ ns : List Str, AD.noDics (ns.map AD.str) = true := fun ns => by
      induction ns with
      | nil => rfl
      | cons n r ih => exact ih
    rw [fn_ad]
    simp only [AD.noDic, AD.noDics, d1, d2, Bool.and_true]
  obtain ⟨n1, n2⟩ := nd nf l
  obtain ⟨p1, p2, p3, p4, p5⟩ := l.py_eq n1
  rw [n2] at p1 p2 p3 p4 p5
  obtain ⟨a, b, c, d, e⟩ := all_meas (z := z) (ds := fs.map fnData) fun d hd => by
    obtain ⟨f, hf, rfl⟩ := List.mem_map.mp hd
    exact fns_meas h g f hf
  have hl := h.le
  rw [List.length_map] at e
  have e2 : fs.length * (40 * z + 41) ≤ 12 * 441 := Nat.mul_le_mul (by omega) (by omega)
  have cl : PyData.canLay0 (.list (AD.pys es)) = true := by simp only [PyData.canLay0, p1, a]
  have ne : AD.noDics es = true := by
    have : ∀ {ds es : List AD}, LoAll ds es → AD.noDics ds = true → AD.noDics es = true := by
      have key : ∀ n : Nat, (∀ {d e : AD}, d.sz ≤ n → Lo d e → d.noDic = true → e.noDic = true) ∧ (∀ {ds es : List AD}, AD.szs ds ≤ n → LoAll ds es → AD.noDics ds = true → AD.noDics es = true) := by
        intro n
        induction n with
        | zero =>
          refine ⟨fun {d e} h => absurd h (by have := AD.sz_pos d; omega), fun {ds es} h l _ => ?_⟩
          cases l with
          | nil => rfl
          | @cons d _ _ _ _ _ => rw [AD.szs] at h; have := AD.sz_pos d; omega
        | succ n ih =>
          refine ⟨fun {d e} h l hd => ?_, fun {ds es} h l hd => ?_⟩
          · cases l with
            | same _ => exact hd
            | tup l => exact ih.2 (by rw [AD.sz] at h; omega) l hd
          · cases l with
            | nil => rfl
            | @cons d e ds es l1 l2 =>
              rw [AD.szs] at h
              have p1 := AD.sz_pos d
              obtain ⟨h1, h2⟩ := Bool.and_eq_true_iff.mp hd
              show (e.noDic && AD.noDics es) = true
              rw [ih.2 (by omega) l2 h2, Bool.and_true]
              cases l1 with
              | same _ => exact h1
              | tup l => exact ih.2 (by rw [AD.sz] at h; omega) l h1
      exact fun {ds es} l h => (key _).2 (Nat.le_refl _) l h
    exact this l n1
  refine ⟨ne, by simp only [PyData.showable, p3, c], PyData.hasDict_of_canLay _ cl, ?_, ?_⟩
  · simp only [PyData.depth, p2]
    omega
  · refine PyData.shown_fits (B := 13) (by decide) (by decide) (PyData.leavesShort_of_canLay0 13 _ cl (by simp only [PyData.intsShort, p4, d])) ?_
    simp only [PyData.weight, p5]
    omega
end K39
set_option Elab.async false
set_option linter.all false
set_option autoImplicit false
set_option maxRecDepth 100000
set_option maxHeartbeats 4000000
namespace K39
open PySem PySem.Spec L2 GB K39t
theorem seq_via {a b : TS} {D : Ends} {σ : L2.St} {H : Hp} (M : L2.St → Hp → Prop) (h2 : ∀ σ' H', M σ' H' → b D σ' H') (h1 : ∀ nx' : L2.St → Hp → Prop, (∀ σ' H', M σ' H' → nx' σ' H') → a { D with nx := nx' } σ H) : tSeq a b D σ H := h1 _ h2
theorem base_put {N : List Addr} {J H : Hp} {l : Addr} {o : HO} (S : Same J (hid N H)) (n : J l = none) : Same J (hid N (upd H l o)) := fun b u e => by
  obtain ⟨e1, m⟩ := hid_in (S _ _ e)
  exact hid_to m (by rw [upd_ne (ne_of_none e n)]; exact e1)
theorem pool_at {H H' : Hp} {p : Addr} {n : Nat} (P : PoolIs H p n) (h : ∀ o, H p = some o → H' p = some o) : PoolIs H' p n := let ⟨a, b, c, e, r⟩ := P.ex; ⟨a, b, c, h _ e, r⟩
/-- another library, which is not equal -/
def OthL (K : PySem.W.Frag) (C CL : Addr) (H : Hp) (gd : GD) (fs : List FnD) (o : Addr) : Prop := ∃ Gx gx fx, IsLib K CL H o Gx fx ∧ IsGr2 C H Gx gx ∧ gx.Fit ∧ (gd.letters.map (·.1) = gx.letters.map (·.1) → gd.letters = gx.letters) ∧ SeqAt.shaped (.list (fx.map fnData)) = true ∧ (eqG gd gx && PyData.eqv (.list (fs.map fnData)) (.list (fx.map fnData))) = false
theorem OthL.mono {K : PySem.W.Frag} {C CL : Addr} {H H' : Hp} {gd : GD} {fs : List FnD} {o : Addr} (s : Same H H') (h : OthL K C CL H gd fs o) : OthL K C CL H' gd fs o := let ⟨Gx, gx, fx, h1, h2, h3⟩ := h; ⟨Gx, gx, fx, h1.mono s, h2.mono s, h3⟩
/-- .. of the same ground, with other functions -/
theorem oth_fns {K : PySem.W.Frag} {C CL : Addr} {H : Hp} {gd : GD} {z : Nat} {fs fx : List FnD} {o G : Addr} (hl : IsLib K CL H o G fx) (hG : IsGr2 C H G gd) (fit : gd.Fit) (ok : FnsOk gd z fx) (hz : z ≤ 10) (ne : fs.map fnData ≠ fx.map fnData) : OthL K C CL H gd fs o :=
  ⟨G, gd, fx, hl, hG, fit, fun _ => rfl, fns_shaped ok fit hz, by
    cases e : PyData.eqv (.list (fs.map fnData)) (.list (fx.map fnData)) with
    | false => rw [Bool.and_false]
    | true => exact absurd (eqv_fns.mp e) ne⟩
theorem oth_more {K : PySem.W.Frag} {C CL : Addr} {H : Hp} {gd hd : GD} {z : Nat} {fs fx : List FnD} {o G : Addr} (hl : IsLib K CL H o G fx) (hG : IsGr2 C H G hd) (fit : hd.Fit) (ok : FnsOk hd z fx) (hz : z ≤ 10) (ne : gd.letters.map (·.1) ≠ hd.letters.map (·.1)) : OthL K C CL H gd fs o :=
  ⟨G, hd, fx, hl, hG, fit, fun h => absurd h ne, fns_shaped ok fit hz, by
    have : eqG gd hd = false := by unfold eqG; rw [decide_eq_false ne]; rfl
    rw [this]; rfl⟩
/-- what stands while others are made -/
structure OthS (K : PySem.W.Frag) (C CL : Addr) (N : List Addr) (J : Hp) (gd : GD) (fs : List FnD) (p O : Addr) (n m : Nat) (H : Hp) : Prop where
  ex : ∃ os : List Addr, Same J (hid N H) ∧ PoolIs H p n ∧ H O = some (.lst (os.map V.ref)) ∧ (∀ o ∈ os, OthL K C CL (hid [O] H) gd fs o) ∧ os.length ≤ m
theorem OthS.step {K : PySem.W.Frag} {C CL : Addr} {N : List Addr} {J H H' : Hp} {gd : GD} {fs : List FnD} {p O : Addr} {n m : Nat} (h : OthS K C CL N J gd fs p O n m H) (s : Same H H') : OthS K C CL N J gd fs p O n m H' :=
  let ⟨os, h1, h2, h3, h4, h5⟩ := h.ex
  ⟨os, h1.trans (hid_same s), h2.mono s (Nat.le_refl _), s _ _ h3, fun o ho => (h4 o ho).mono (hid_same s), h5⟩
theorem OthS.up {K : PySem.W.Frag} {C CL : Addr} {N : List Addr} {J H : Hp} {gd : GD} {fs : List FnD} {p O : Addr} {n m k : Nat} (h : OthS K C CL N J gd fs p O n m H) (l : m ≤ k) : OthS K C CL N J gd fs p O n k H :=
  let ⟨os, h1, h2, h3, h4, h5⟩ := h.ex
  ⟨os, h1, h2, h3, h4, by omega⟩
/-- one more -/
theorem OthS.add {K : PySem.W.Frag} {C CL : Addr} {N : List Addr} {J H : Hp} {gd : GD} {fs : List FnD} {p O o2 : Addr} {n m : Nat} (h : OthS K C CL N J gd fs p O n m H) (nO : J O = none) (hm : m < 10) (new : OthL K C CL (hid [O] H) gd fs o2) :
    ∃ ys, H O = some (.lst ys) ∧ ys.length < sizeLine ∧ OthS K C CL N J gd fs p O n (m + 1) (upd H O (.lst (ys ++ [.ref o2]))) := by
  obtain ⟨os, h1, h2, h3, h4, h5⟩ := h.ex
  have Op : p ≠ O := fun z => by
    obtain ⟨a, b, c, e, _⟩ := h2.ex
    rw [z, h3] at e
    have := HO.lst.inj (Option.some.inj e)
    cases os with
    | nil => cases this
    | cons x r => cases (List.cons.inj this).1
  have B : Same (hid [O] H) (hid [O] (upd H O (.lst (os.map V.ref ++ [.ref o2])))) := bt_upd (by simp)
  refine ⟨os.map V.ref, h3, by rw [List.length_map, sizeLine_eq]; omega, os ++ [o2], base_put h1 nO, pool_at h2 fun o e => by rw [upd_ne Op]; exact e, by rw [upd_same, List.map_append]; rfl, fun o ho => ?_, by rw [List.length_append]; simp only [List.length_singleton]; omega⟩
  rcases List.mem_append.mp ho with ho | ho
  · exact (h4 o ho).mono B
  · rw [List.mem_singleton.mp ho]
    exact new.mono B
theorem paired_snoc {α β : Type} {R : α → β → Prop} {x : α} : ∀ {l : List α} {m : List β}, Paired R (l ++ [x]) m → ∃ m0 y, m = m0 ++ [y] ∧ Paired R l m0 ∧ R x y
  | [], m, h => by
    cases h with
    | cons h1 h2 => cases h2; exact ⟨[], _, rfl, .nil, h1⟩
  | a :: r, m, h => by
    cases h with
    | cons h1 h2 =>
      obtain ⟨m0, y, rfl, h3, h4⟩ := paired_snoc h2
      exact ⟨_ :: m0, y, rfl, .cons h1 h3, h4⟩
theorem good_own {K : PySem.W.Frag} {H : Hp} {gd : GD} {z : Nat} {fs : List FnD} {ts : List Addr} (ok : FnsOk gd z fs) (h : Paired (FunT K H) fs ts) : ∀ (i : Nat) (f : FnD) (v : V), fs[i]? = some f → (ts.map V.ref)[i]? = some v → GoodFn K H (gd.wide (pre (fs.take i))).letters z f v := fun i f v hf hv => by
  obtain ⟨t, ht, hft⟩ := paired_at' h hf
  rw [List.getElem?_map, ht] at hv
  obtain rfl : V.ref t = v := by simpa using hv
  obtain ⟨e, h1, h2⟩ := fn_own hft
  have hm := List.mem_of_getElem? hf
  exact good_of h1 h2 (ok.nb f hm) (take_new ok hf) (ok.bn f hm) (ok.ok i f hf)
theorem cut_neg1 (xs : List V) (v : V) : cutV (xs ++ [v]) none (some (-1)) = xs := by
  unfold cutV
  have l : (xs ++ [v]).length = xs.length + 1 := by simp
  have e : HT.sIx (xs ++ [v]).length (xs ++ [v]).length (some (-1)) = xs.length := by
    rw [l]
    show (if (-1 : Int) < 0 then ((-1 : Int) + ((xs.length + 1 : Nat) : Int)).toNat else min (-1 : Int).toNat (xs.length + 1)) = _
    rw [if_pos (by decide)]
    omega
  rw [e, HT.sIx_none, List.drop_zero, Nat.sub_zero, List.take_append_of_le_length (Nat.le_refl _), List.take_length]
def zzT (v : Str) : GB.Tm := .mk "value" v []
theorem zz_d {L : List (Str × Nat)} {ns : List Str} {t : GB.Tm} {v : Str} (h : TmOk L ns t) (e : t.d = (zzT v).d) : t = zzT v := by
  have ez : (zzT v).d = .tuple [.str "value", .str v] := by unfold zzT; rw [Tm.d]; simp +decide
  rw [ez] at e
  cases h with
  | @mk _ w n ks ho hk =>
    rw [Tm.d] at e
    split at e
    · rename_i hw
      simp [hw] at e
    · split at e
      · rename_i hw
        simp [hw] at e
        exact absurd e.1 (by decide)
      · split at e
        · rename_i hw
          have := PyData.tuple.inj e
          have := PyData.str.inj (List.cons.inj this).1
          rw [this] at hw
          exact absurd hw (by decide)
        · have e1 := PyData.tuple.inj e
          have e2 := PyData.str.inj (List.cons.inj e1).1
          have e3 := PyData.str.inj (List.cons.inj (List.cons.inj e1).2).1
          subst e2 e3
          have : ks.length = 0 := by
            generalize hm : ks.length = m at ho
            cases ho with
            | val => rfl
            | op h => exact absurd (show (("value" : Str)) ∈ opsW.map (·.1) from List.mem_map.mpr ⟨_, h, rfl⟩) (by decide)
          rw [List.eq_nil_of_length_eq_zero this]
          rfl
theorem zz_ok {L : List (Str × Nat)} {v : Str} (h : nameB v = true) : TmOk L [] (zzT v) ∧ (zzT v).size ≤ 4 := by
  refine ⟨.mk (.val h) fun i k e => by simp at e, ?_⟩
  show Tm.sizes [] + 1 ≤ 4
  rw [Tm.sizes]
  omega
def zzF (x v : Str) : FnD := (x, [], zzT v)
theorem zz_snoc {gd : GD} {fs : List FnD} {x v : Str} (ok : FnsOk gd 4 fs) (nb : nameB x = true) (nv : nameB v = true) (nw : x ∉ gd.letters.map (·.1) ++ fs.map (·.1)) (le : gd.letters.length + fs.length + 1 ≤ 12) : FnsOk gd 4 (fs ++ [zzF x v]) := ok.snoc (f := zzF x v) nb nw le ⟨fun m h => (nomatch h), List.nodup_nil, Nat.zero_le _⟩ (zz_ok nv)
theorem zz_data (x v : Str) : fnData (zzF x v) = .tuple [.str x, .tuple [], .tuple [.str "value", .str v]] := by
  unfold fnData zzF
  have ez : (zzT v).d = .tuple [.str "value", .str v] := by unfold zzT; rw [Tm.d]; simp +decide
  rw [ez]
  rfl
theorem dp_zz {K : PySem.W.Frag} {H : Hp} {t2 t0 t1 : Addr} {x v : Str} (h2 : H t2 = some (.tup [.str x, .ref t0, .ref t1])) (h0 : H t0 = some (.tup [])) (h1 : H t1 = some (.tup [.str "value", .str v])) : FunT K H (zzF x v) t2 := by
  have ez : (zzT v).d = .tuple [.str "value", .str v] := by unfold zzT; rw [Tm.d]; simp +decide
  refine ⟨t0, .ref t1, h2, SqT.of h0, ?_⟩
  show Dp K H (.ref t1) (zzT v).d
  rw [ez]
  exact .tup (SqT.of h1) (.cons (.str _) (.cons (.str _) .nil))
end K39
set_option Elab.async false
set_option linter.all false
set_option autoImplicit false
set_option maxRecDepth 100000
set_option maxHeartbeats 4000000
/-! repr of a list of a dict (texts to numbers) and further plain data. -/
namespace GB
open PySem PySem.Spec L2
def lkD (ls : List (Str × Nat)) : List (PyData × PyData) := ls.map fun q => (.str q.1, .int (q.2 : Int))
/-- a list of the dict and further data -/
def hanD (ls : List (Str × Nat)) (ds : List PyData) : PyData := .list (.dict (lkD ls) :: ds)
mutual
/-- the places that are read are lists -/
theorem reads_lists {h : Heap} : ∀ (d : PyData) (u : Value) (as : List Addr), Reads h u d as → d.hasDict = false → ∀ x ∈ as, ∃ o, h.get? x = some o ∧ o.cls = .type "list"
  | .none, _, _, r, _ => by cases r; exact fun x hx => nomatch hx
  | .bool _, _, _, r, _ => by cases r; exact fun x hx => nomatch hx
  | .int _, _, _, r, _ => by cases r; exact fun x hx => nomatch hx
  | .str _, _, _, r, _ => by cases r; exact fun x hx => nomatch hx
  | .list xs, _, _, r, hd => by
    cases r with
    | list ho hc hdt ra =>
      intro x hx
      rcases List.mem_cons.mp hx with rfl | hx
      · exact ⟨_, ho, hc⟩
      · exact reads_listsAll xs _ _ ra (by simpa [PyData.hasDict] using hd) x hx
  | .tuple xs, _, _, r, hd => by
    cases r with
    | tuple ho hc hdt ra => exact reads_listsAll xs _ _ ra (by simpa [PyData.hasDict] using hd)
  | .dict _, _, _, _, hd => by simp [PyData.hasDict] at hd
theorem reads_listsAll {h : Heap} : ∀ (ds : List PyData) (us : List Value) (as : List Addr), ReadsAll h us ds as → PyData.hasDictAll ds = false → ∀ x ∈ as, ∃ o, h.get? x = some o ∧ o.cls = .type "list"
  | [], _, _, r, _ => by cases r; exact fun x hx => nomatch hx
  | d :: ds, _, _, r, hd => by
    cases r with
    | cons r1 r2 =>
      have hd' : d.hasDict = false ∧ PyData.hasDictAll ds = false := by simpa [PyData.hasDictAll] using hd
      intro x hx
      rcases List.mem_append.mp hx with hx | hx
      · exact reads_lists d _ _ r1 hd'.1 x hx
      · exact reads_listsAll ds _ _ r2 hd'.2 x hx
end
theorem reads_pairs {P : Program} {w : World} {h : Heap} : ∀ {es : List DictEntry} {vs : List (Key × Value)} (ls : List (Str × Nat)), Pairs (mixKind P w) es vs → KV (lkv ls) vs →
    ReadsAll h (es.map (·.key)) ((lkD ls).map (·.1)) [] ∧ ReadsAll h (es.map (·.val)) ((lkD ls).map (·.2)) []
  | es, vs, [], ps, kv => by
    unfold KV lkv at kv
    cases kv
    cases ps
    exact ⟨.nil, .nil⟩
  | es, vs, q :: r, ps, kv => by
    unfold KV lkv at kv
    rw [List.map_cons] at kv
    cases kv with
    | cons h1 t =>
      cases ps with
      | cons hk hv rest =>
        obtain ⟨e1, rv⟩ := h1
        have e1 : _ = _ := e1
        obtain ⟨a, b⟩ := reads_pairs (h := h) r rest t
        obtain ⟨tv, ev⟩ := rv
        rw [← e1] at hk
        have hk : keyIs (Sum.inr q.1) _ = true := hk
        rcases keyIs_shape hk with ⟨i, tk, e, _⟩ | ⟨x, tk, e, ek⟩
        · exact nomatch e
        · have ex : q.1 = x := Sum.inr.inj e
          refine ⟨ReadsAll.cons (as := []) (bs := []) ?_ a, ReadsAll.cons (as := []) (bs := []) ?_ b⟩
          · show Reads h (DictEntry.key _) (.str q.1) []
            rw [ek, ex]
            exact Reads.str x tk
          · show Reads h (DictEntry.val _) (.int (q.2 : Int)) []
            rw [hv, ev]
            exact Reads.int _ tv
section
variable {X : Cx} {pins : List (Addr × Obj)} {σ : L2.St} {H : Hp} {s : Shared}
theorem reads_dk (I : Inv X pins σ H s) {a : Addr} {ls : List (Str × Nat)} (h : H a = some (.dK (lkv ls))) : Reads s.heap (.ref a) (.dict (lkD ls)) [a] ∧ a ≠ sysModules := by
  obtain ⟨_, hs, vs, kv, o, es, ep, ho, ex, hd, _, ps, _⟩ := (show ObjOk X.prog X.w H s.heap a (.dK (lkv ls)) from I.hok a _ h)
  obtain ⟨r1, r2⟩ := reads_pairs (h := s.heap) ls ps kv
  exact ⟨Reads.dict (as := []) (bs := []) ho ex.1 hd r1 r2, fun z => by rw [z] at hs; exact absurd hs (by decide)⟩
/-- repr of such a list; sys.modules is a dict -/
def rReprH (K : PySem.W.Frag) : List V → Hp → VK → Prop := fun xs H Q => ∃ (l a : Addr) (ls : List (Str × Nat)) (vs : List V) (ds : List PyData), xs = [.ref l] ∧ H l = some (.lst (.ref a :: vs)) ∧ H a = some (.dK (lkv ls)) ∧ DpAll K H vs ds ∧
  (hanD ls ds).showable = true ∧ PyData.hasDictAll ds = false ∧ (hanD ls ds).depth ≤ 100 ∧ (hanD ls ds).shown.length ≤ sizeLine ∧ Q (.str (hanD ls ds).shown) H
theorem call_reprH (hg : X.A.guards = some []) (hu : X.A.units + 110 < cLine) : CallR X (.builtin "repr") (rReprH X.K) := by
  intro pins s σ H xs us Q I r h
  obtain ⟨l, a, ls, vs, ds, rfl, hl, ha, hv, h1, h2, h3, h4, q⟩ := h
  cases r with
  | cons r1 r2 =>
    cases r2
    cases r1
    obtain ⟨its, rv, ⟨o, n, ho, hc, _, hd⟩, _⟩ := I.list (SqL.of hl)
    cases rv with
    | @cons _ _ _ rest ra rt =>
      cases (show _ = Value.ref a from ra)
      obtain ⟨rd, na⟩ := reads_dk I ha
      obtain ⟨as, rs⟩ := Dp.readsAll I ds _ _ hv rt
      have R : Reads s.heap (.ref l) (hanD ls ds) (l :: ([a] ++ as)) := Reads.list ho hc hd (ReadsAll.cons rd rs)
      have hz : (listText (PyData.shownAll (.dict (lkD ls) :: ds))).length ≤ sizeLine := by simpa only [hanD, PyData.shown] using h4
      have hzs : ∀ t ∈ PyData.shownAll (.dict (lkD ls) :: ds), t.length ≤ sizeLine := fun t ht => Nat.le_trans (listText_mem_le ht) hz
      have hs : (PyData.dict (lkD ls)).showable = true ∧ PyData.showableAll ds = true := by simpa [hanD, PyData.showable, PyData.showableAll] using h1
      obtain ⟨b1, hb1, k1⟩ := ReprK.of_reads (prog := X.prog) (w := X.w) rd hs.1 (fun _ m => na (List.mem_singleton.mp m).symm) (hzs _ (by simp only [PyData.shownAll]; exact List.mem_cons_self ..))
      obtain ⟨b2, hb2, k2⟩ := ReprAllK.of_readsAll (prog := X.prog) (w := X.w) rs hs.2 (fun h => by rw [h2] at h; exact nomatch h) (fun t ht => hzs t (by simp only [PyData.shownAll]; exact List.mem_cons_of_mem _ ht))
      have hb : ReadAtMost s.heap (PyData.depthAll (.dict (lkD ls) :: ds)) (b1 ++ b2) := fun b m => by
        simp only [PyData.depthAll]
        rcases List.mem_append.mp m with m | m
        · obtain ⟨d', as', r', q'⟩ := hb1 b m
          exact ⟨d', as', r', Nat.le_trans q' (Nat.le_max_left _ _)⟩
        · obtain ⟨d', as', r', q'⟩ := hb2 b m
          exact ⟨d', as', r', Nat.le_trans q' (Nat.le_max_right _ _)⟩
      have hna : l ∉ b1 ++ b2 := not_mem_of_deeper R (by simp only [hanD, PyData.depth]; omega) hb
      have dl : (hanD ls ds).depth = PyData.depthAll (.dict (lkD ls) :: ds) + 1 := by simp only [hanD, PyData.depth]
      have kk : ReprAllK X.prog X.w (b1 ++ b2) s.heap (PyData.depthAll (.dict (lkD ls) :: ds)) (.ref a :: rest) (PyData.shownAll (.dict (lkD ls) :: ds)) := by
        simp only [PyData.shownAll]
        exact .cons ((k1.more fun b hb => List.mem_append_left _ hb).level_le (by simp only [PyData.depthAll]; exact Nat.le_max_left _ _)) (k2.more_le (fun b hb => List.mem_append_right _ hb) (by simp only [PyData.depthAll]; exact Nat.le_max_right _ _))
      have hsh : (hanD ls ds).shown = listText (PyData.shownAll (.dict (lkD ls) :: ds)) := by simp only [hanD, PyData.shown]
      have hT : s.TypeIs (.ref l) "list" := ⟨o, ho, hc⟩
      have hu1 : X.A.units + 1 < cLine := by omega
      refine call_repr_slot (T := "list") (idr := "list.__repr__") hu1 hT F.slot_list_repr.toG ?_
      refine call_list_reprK ho hc hd hna (by simpa using kk.length_eq) (fun i y e => kk.item i y (by simpa using e)) hg (fun b _ => Clear.nil b) (show X.A.units + 1 + (PyData.depthAll (.dict (lkD ls) :: ds) + 1) < cLine by omega) (fun _ _ e => e) (fun h' u tk hk => ⟨_, _, rfl, ?_⟩) hz
      rw [← hsh]
      exact ⟨.str (hanD ls ds).shown, H, I.kept hk, ⟨_, rfl⟩, q⟩
end
end GB
set_option Elab.async false
set_option linter.all false
set_option autoImplicit false
set_option maxRecDepth 100000
set_option maxHeartbeats 4000000
/-! What is handed over can be shown. -/
namespace GB
open PySem PySem.Spec L2
mutual
theorem pl_shows : ∀ d : PyData, plO d = true → d.showable = true ∧ d.intsShort 13 = true ∧ d.hasDict = false
  | .str x, _ => by simp [PyData.showable, PyData.intsShort, PyData.hasDict]
  | .bool b, _ => by simp [PyData.showable, PyData.intsShort, PyData.hasDict]
  | .list xs, h => by
    rw [plO] at h
    obtain ⟨a, b, c⟩ := pl_showsAll xs h
    exact ⟨by simpa [PyData.showable] using a, by simpa [PyData.intsShort] using b, by simpa [PyData.hasDict] using c⟩
  | .tuple xs, h => by
    rw [plO] at h
    obtain ⟨a, b, c⟩ := pl_showsAll xs h
    exact ⟨by simpa [PyData.showable] using a, by simpa [PyData.intsShort] using b, by simpa [PyData.hasDict] using c⟩
theorem pl_showsAll : ∀ xs : List PyData, plOs xs = true → PyData.showableAll xs = true ∧ PyData.intsShortAll 13 xs = true ∧ PyData.hasDictAll xs = false
  | [], _ => ⟨rfl, rfl, rfl⟩
  | x :: xs, h => by
    rw [plOs] at h
    obtain ⟨h1, h2⟩ := Bool.and_eq_true_iff.mp h
    obtain ⟨a1, b1, c1⟩ := pl_shows x h1
    obtain ⟨a2, b2, c2⟩ := pl_showsAll xs h2
    exact ⟨by simp [PyData.showableAll, a1, a2], by simp [PyData.intsShortAll, b1, b2], by simp [PyData.hasDictAll, c1, c2]⟩
end
theorem small_short : ∀ k, k ≤ 2 → (PyData.shown (.int ((k : Nat) : Int))).length ≤ 13 ∧ PyData.showable (.int ((k : Nat) : Int)) = true ∧ PyData.weight (.int ((k : Nat) : Int)) ≤ 3
  | 0, _ => by decide +kernel
  | 1, _ => by decide +kernel
  | 2, _ => by decide +kernel
theorem lk_shows : ∀ ls : List (Str × Nat), (∀ q ∈ ls, nameB q.1 = true ∧ q.2 ≤ 2) → PyData.showableKv (lkD ls) = true ∧ PyData.leavesShortKv 13 (lkD ls) = true ∧ PyData.weightKv (lkD ls) ≤ 20 * ls.length
  | [], _ => by simp [lkD, PyData.showableKv, PyData.leavesShortKv, PyData.weightKv]
  | q :: r, h => by
    obtain ⟨a, b, c⟩ := lk_shows r fun x hx => h x (List.mem_cons_of_mem _ hx)
    obtain ⟨n, k⟩ := h q List.mem_cons_self
    obtain ⟨s1, s2, s3⟩ := small_short q.2 k
    have l1 : PyData.leavesShort 13 (.str q.1) = true := PyData.leavesShort_of_canLay0 13 _ (by simpa [PyData.canLay0] using name_ok n) (by simp [PyData.intsShort])
    have n8 : q.1.cps.size ≤ 8 := by
      unfold nameB at n
      exact (of_decide_eq_true (Bool.and_eq_true_iff.mp n).1).2
    have e : lkD (q :: r) = (.str q.1, .int (q.2 : Int)) :: lkD r := rfl
    rw [e]
    have k1 : PyData.showable (.str q.1) = true := by simp [PyData.showable]
    have l2 : PyData.leavesShort 13 (.int (q.2 : Int)) = true := by simp only [PyData.leavesShort]; exact decide_eq_true s1
    refine ⟨by simp only [PyData.showableKv, a, s2, k1, Bool.and_true], by simp only [PyData.leavesShortKv, b, l1, l2, Bool.and_true], ?_⟩
    simp only [PyData.weightKv, PyData.weight, List.length_cons] at s3 ⊢
    omega
theorem shows_han {ls : List (Str × Nat)} {ds : List PyData} (hl : ∀ q ∈ ls, nameB q.1 = true ∧ q.2 ≤ 2) (l12 : ls.length ≤ 12) (hp : plOs ds = true) (hc : PyData.canLayAll0 ds = true) (hd : PyData.depthAll ds ≤ 90) (hw : PyData.weightAll ds ≤ 100000) :
    (hanD ls ds).showable = true ∧ PyData.hasDictAll ds = false ∧ (hanD ls ds).depth ≤ 100 ∧ (hanD ls ds).shown.length ≤ sizeLine := by
  obtain ⟨a, b, c⟩ := lk_shows ls hl
  obtain ⟨a2, b2, c2⟩ := pl_showsAll ds hp
  refine ⟨by simp [hanD, PyData.showable, PyData.showableAll, a, a2], c2, ?_, ?_⟩
  · have dk : ∀ l : List (Str × Nat), PyData.depthKv (lkD l) = 0 := fun l => by
      induction l with
      | nil => simp [lkD, PyData.depthKv]
      | cons q r ih =>
        have e : lkD (q :: r) = (.str q.1, .int (q.2 : Int)) :: lkD r := rfl
        rw [e]
        simp [PyData.depthKv, PyData.depth, ih]
    simp only [hanD, PyData.depth, PyData.depthAll, dk]
    omega
  · refine PyData.shown_fits (B := 13) (by decide) (by decide) ?_ ?_
    · simp only [hanD, PyData.leavesShort, PyData.leavesShortAll, b, Bool.true_and]
      exact PyData.leavesShortAll_of_canLay0 13 ds hc b2
    · simp only [hanD, PyData.weight, PyData.weightAll]
      omega
end GB
set_option Elab.async false
set_option linter.all false
set_option autoImplicit false
set_option maxRecDepth 100000
set_option maxHeartbeats 16000000
namespace K39
open PySem PySem.Spec L2 GB K39t ItX
abbrev sLaw : Stmt := topS 52
def lawN : List Str := ["_law_script", "_law_turn", "_law_pool_here", "_law_g", "_law_rows", "_law_wide", "_law_ground_here", "_law_handed", "_law_row", "_law_kept", "_law_library_here", "_law_others", "_law_more", "_law_x", "_law_bad"]
theorem scLaw : FnScope lawN ["_law_script"] (defScope sLaw) := ⟨rfl, rfl, rfl, by decide +kernel, rfl, by decide +kernel, by decide +kernel⟩
structure KsL (K : PySem.W.Frag) (C CL : Addr) : Prop where
  ty : ∀ T ∈ (["NoneType", "list", "int"] : List String), PySem.W.kitOne K (.type T) (.ref CL) = some false ∧ PySem.W.notFirst K CL (.type T) = true
  gr : PySem.W.kitOne K (.ref C) (.ref CL) = some false ∧ PySem.W.notFirst K CL (.ref C) = true
structure LawT (P : Program) (w : World) (K : PySem.W.Frag) (mg : Str → Option Value) (base : Heap) (C CL : Addr) : Prop where
  T : Bl mg
  RP : mg "repr" = none
  CE : Fns P w K mg base "_law_cell" 1 ["_law_script", "_law_k"] (GB.spCell K)
  PL : Fns P w K mg base "_law_pool" 1 ["_law_grain"] spPool
  TK : Fns P w K mg base "_law_take" 1 ["_law_pool_here", "_law_many"] spTake
  GR : Fns P w K mg base "_law_ground" 3 ["_law_pool_here", "_law_most"] spGround
  LB : Fns P w K mg base "_law_library" 7 ["_law_pool_here", "_law_g", "_law_many"] (spLb K)
  MD : Fns P w K mg base "_law_made" 7 ["_law_g"] (spMade2 C)
  LO : Fns P w K mg base "_law_loose" 23 ["_law_pool_here", "_law_thing"] (spLoose K 21)
  ON : Fns P w K mg base "_law_one" 2 ["_law_pool_here", "_law_things"] (spOne K)
  OD : Fns P w K mg base "_law_odd" 3 ["_law_pool_here", "_law_g", "_law_rows"] (spOd K)
  MT : Fns P w K mg base "_law_met" 20 ["_law_ground_here", "_law_things"] (spMt K C 4)
  M : GrM P w K mg base C
  clL : Cls K CL
  fnL : ∃ f fd, Meth K CL "functions" f ∧ FnOk P w K mg base CX0 1 f fd ["self"] (spLF K CL) ∧ Binds K fd ["self"] []
  wdL : ∃ f fd, Meth K CL "wide" f ∧ FnOk P w K mg base CX0 8 f fd ["self"] (spLW K C CL) ∧ Binds K fd ["self"] []
  eqL : ∃ f fd, PySem.W.findIn K (.ref CL) "__eq__" = some (some (.ref f)) ∧ PySem.W.isFn K (.ref f) = true ∧ FnOk P w K mg base CX0 2 f fd ["self", "other"] (spLE K C CL) ∧ Binds K fd ["self", "other"] []
  neL : PySem.W.findIn K (.ref CL) "__ne__" = some (some (.builtin "object.__ne__"))
  mroL : PySem.W.mroIn K CL (.type "object") = some true
  noL : NoAttr K CL "ground"
  tyL : ∀ (H : Hp) (a dx : Addr) (fs : List (Str × V)), H a = some (.ins CL dx fs) → TyX K H (.ref a) (.ref CL)
  mkG : ∃ fI fdI, Mk K C fI ∧ FnOk P w K mg base CX0 5 fI fdI ["self", "letters", "fixed", "commuting", "facts"] (spGI2 K C) ∧ Binds K fdI ["self", "letters", "fixed", "commuting", "facts"] []
  mkJ : ∃ (fI : Addr) (fdI : FuncData) (d1 d2 d3 : Addr) (ds : List Value), Mk K C fI ∧ FnOk P w K mg base CX0 5 fI fdI ["self", "letters", "fixed", "commuting", "facts"] (spGI2 K C) ∧ Binds K fdI ["self", "letters", "fixed", "commuting", "facts"] ds ∧ Vals [.ref d1, .ref d2, .ref d3] ds ∧ (∀ H, SqT K H d1 []) ∧ (∀ H, SqT K H d2 []) ∧ ∀ H, SqT K H d3 []
  mkL : ∃ (fI : Addr) (fdI : FuncData) (dP : Addr) (ds : List Value), Mk K CL fI ∧ FnOk P w K mg base CX0 17 fI fdI ["self", "ground", "functions"] (spLI0 K C CL 4) ∧ Binds K fdI ["self", "ground", "functions"] [] ∧ Binds K fdI ["self", "ground", "functions"] ds ∧ Vals [.ref dP] ds ∧ ∀ H, SqT K H dP []
  gC : mg "Ground" = some (.ref C)
  gL : mg "Library" = some (.ref CL)
  ks : KsL K C CL
section
variable {P : Program} {w : World} {K : PySem.W.Frag} {mg : Str → Option Value} {base : Heap} {C CL f a : Addr} {cdv : Value}
theorem refs_of {ys : List V} (h : ∀ y ∈ ys, ∃ b, y = V.ref b) : ∃ us : List Addr, ys = us.map V.ref := by
  induction ys with
  | nil => exact ⟨[], rfl⟩
  | cons y r ih =>
    obtain ⟨us, rfl⟩ := ih fun z hz => h z (List.mem_cons_of_mem _ hz)
    obtain ⟨b, rfl⟩ := h y List.mem_cons_self
    exact ⟨b :: us, rfl⟩
theorem own_f {gd : GD} (wf : gd.Wf) : gd.sel gd.fixed = gd.fixed := filter_sub wf.fx wf.nd
theorem own_c {gd : GD} (wf : gd.Wf) : gd.sel gd.comm = gd.comm := filter_sub (wf.cm.trans wf.fx) wf.nd
theorem own_z {gd : GD} (wf : gd.Wf) : ("zz" : Str) ∉ gd.letters.map (·.1) := fun m => by
  obtain ⟨q, hq, e⟩ := List.mem_map.mp m
  have := wf.nm q hq
  rw [e] at this
  exact absurd this (by decide +kernel)
theorem ok_law {s : Shared} {H : Hp} {ns : List Int} (Z : LawT P w K mg base C CL) (hr : Room 40 (callerA.deeper (PyProof.Rows.envOfC "law" (defScope sLaw) s.heap.objs.size f cdv))) (hS : SqL K H a (ns.map V.int)) :
    ∃ t, PSs (cxOf CX0 P w K mg base lawN "law" (defScope sLaw) f cdv callerA [] s H (fun _ _ _ => False)) (defBody sLaw) t ∧ t { nx := fun _ J => (V.non : V) = .bl true, rt := fun v _ => v = .bl true } (L2.start lawN [.ref a]) H := by
    obtain ⟨T, RP, CE, PL, TK, GR, LB, MD, LO, ON, OD, MT, ⟨gk, _, _, _, _, ⟨fN, dN, hsN, hfN, FN, bN⟩, _, ⟨fI, dI, hsI, hfI, FI, bI⟩, ⟨fG, dG, hsG, hfG, FG, bEG⟩, hneG, hmroG⟩, clL, ⟨fF, dF, mF, FF, bF⟩, ⟨fW, dW, mW, FW, bW⟩, ⟨fQ, dQ, hsQ, hfQ, FQ, bQ⟩, hneL, hmroL, noL, tyL, ⟨fMG, dMG, MKG, FIG, bG⟩, ⟨fJ, fdJ, e1, e2, e3, dsJ, MJ, FJ, bJ, rdJ, z1, z2, z3⟩, ⟨fML, dML, dP, dsL, MKL, FIL, bL, bL1, rdL, zP⟩, gC, gL, ks⟩ := Z
    have hgd : (callerA.deeper (PyProof.Rows.envOfC "law" (defScope sLaw) s.heap.objs.size f cdv)).guards = some [] := rfl
    have hu := hu_of hr
    have hu64 : (callerA.deeper (PyProof.Rows.envOfC "law" (defScope sLaw) s.heap.objs.size f cdv)).units + 64 < cLine := by have := hr.un; omega
    have hu110 : (callerA.deeper (PyProof.Rows.envOfC "law" (defScope sLaw) s.heap.objs.size f cdv)).units + 110 < cLine := by have := hr.un; omega
    have hr1 : Room 1 (callerA.deeper (PyProof.Rows.envOfC "law" (defScope sLaw) s.heap.objs.size f cdv)) := hr.mono (by decide)
    have hr2 : Room 2 (callerA.deeper (PyProof.Rows.envOfC "law" (defScope sLaw) s.heap.objs.size f cdv)) := hr.mono (by decide)
    have hr3 : Room 3 (callerA.deeper (PyProof.Rows.envOfC "law" (defScope sLaw) s.heap.objs.size f cdv)) := hr.mono (by decide)
    have hr4 : Room 4 (callerA.deeper (PyProof.Rows.envOfC "law" (defScope sLaw) s.heap.objs.size f cdv)) := hr.mono (by decide)
    have hr5 : Room 6 (callerA.deeper (PyProof.Rows.envOfC "law" (defScope sLaw) s.heap.objs.size f cdv)) := hr.mono (by decide)
    have hr8 : Room 8 (callerA.deeper (PyProof.Rows.envOfC "law" (defScope sLaw) s.heap.objs.size f cdv)) := hr.mono (by decide)
    have hr17 : Room 18 (callerA.deeper (PyProof.Rows.envOfC "law" (defScope sLaw) s.heap.objs.size f cdv)) := hr.mono (by decide)
    refine ⟨_, (show PSs (cxOf CX0 P w K mg base lawN "law" (defScope sLaw) f cdv callerA [] s H (fun _ _ _ => False)).nox (defBody sLaw) _ from
      (pss_cons (ps_for PassesOwn.never rfl (pi_range1 rfl T.range (pa_cons (pe_int) (pa_nil))) (pg_name (i := 1) scLaw.nd rfl (.inl rfl)) (pss_cons (ps_set (i := 2) scLaw.nd rfl (.inr rfl) (pe_fn PL hr (by decide) rfl (pa_cons (pe_op op_add (pe_fn CE hr (by decide) rfl (pa_cons (pv 0) (pa_cons (pv 1) (pa_nil)))) (pv 1)) (pa_nil)))) (pss_cons (ps_set (i := 3) scLaw.nd rfl (.inl rfl) (pe_fn GR hr (by decide) rfl (pa_cons (pv 2) (pa_cons (pe_int) (pa_nil))))) (pss_cons (ps_asg (pe_fn LB hr (by decide) rfl (pa_cons (pv 2) (pa_cons (pv 3) (pa_cons (pe_fn TK hr (by decide) rfl (pa_cons (pv 2) (pa_cons (pe_int) (pa_nil)))) (pa_nil))))) (pg_tup rfl (pgs_cons (pg_name (i := 4) scLaw.nd rfl (.inl rfl)) (pgs_cons (pg_name (i := 5) scLaw.nd rfl (.inl rfl)) (pgs_nil))))) (pss_cons (ps_par (i := 6) (j := 7) rfl scLaw.nd rfl rfl (by decide) rfl rfl (pa_cons (pe_fn MD hr (by decide) rfl (pa_cons (pv 3) (pa_nil))) (pa_cons (pe_lc (own := [("_law_row", 8)]) (g := gName 8) (tt := tYes) rfl scLaw.nd (pi_seqW (pv 4)) (blkOk_by (own := [("_law_row", 8)]) (N := lawN) (sc := defScope sLaw) (by decide +kernel)) (fun _ _ _ _ _ => pg_name (i := 8) scLaw.nd rfl (.inl rfl)) (fun _ _ _ _ _ => pts_nil) (fun _ _ _ _ _ => pe_fn LO hr (by decide) rfl (pa_cons (pv 2) (pa_cons (pv 8) (pa_nil))))) (pa_nil))) (by rfl)) (pss_cons (ps_set (i := 9) scLaw.nd rfl (.inl rfl) (pe_callB (call_repr hgd hu110) (by rfl) RP (by decide +kernel) (pa_cons (pv 7) (pa_nil)))) (pss_cons (ps_set (i := 10) scLaw.nd rfl (.inr rfl) ((pe_make MKL FIL hr17 rfl gL bL .nil pass0 (pa_cons (pv 6) (pa_cons (pe_ix (r := rIxL K) ix_list (pe_lst (pa_cons (pv 7) (pa_cons (pe_callTy (r := rTof K) call_tof (by rfl) T.tuple (by decide +kernel) (pa_cons (pv 7) pa_nil)) (pa_nil)))) (pe_fn TK hr (by decide) rfl (pa_cons (pv 2) (pa_cons (pe_int) (pa_nil)))) (fun _ _ => rfl)) (pa_nil)))))) (pss_cons (ps_if (pt_cmpR op_ne (pe_callB (call_repr hgd hu110) (by rfl) RP (by decide +kernel) (pa_cons (pv 7) (pa_nil))) (pv 9) (nomark _)) (pss_one (ps_ret (pe_bl))) (pss_nil)) (pss_cons (ps_for PassesOwn.never rfl (pi_seqW (pv 7)) (pg_name (i := 8) scLaw.nd rfl (.inl rfl)) (pss_one (ps_if (pt_val (pe_callB call_isi (by rfl) T.isi (by decide +kernel) (pa_cons (pv 8) (pa_cons (pe_bltn (v := .ty "list") (by rfl) T.list (by decide +kernel) rfl) (pa_nil))))) (pss_one (ps_expr (pe_bm PySem.F.plainAttrs_list PySem.F.slot_list_append PySem.F.type_list_append mt_append (pv 8) (pa_cons (pe_str) (pa_nil))))) (pss_nil)))) (pss_cons (ps_expr (pe_bm PySem.F.plainAttrs_list PySem.F.slot_list_append PySem.F.type_list_append mt_append (pv 7) (pa_cons (pe_str) (pa_nil)))) (pss_cons (ps_expr (pe_bm PySem.F.plainAttrs_list PySem.F.slot_list_append PySem.F.type_list_append mt_append (pe_meth0 (pv 10) clL mF FF hr1 bF .nil pass0) (pa_cons (pe_str) (pa_nil)))) (pss_cons (ps_if (PW.pt (pw_or (pt_cmpR (op_neOwn hsG hfG hneG hmroG FG hr2 bEG) (pe_fld (pv 10) rfl) (pv 6) (nomark _)) (pw_or (pt_cmpR (op_neD hu64) (pe_meth0 (pv 10) clL mF FF hr1 bF .nil pass0) (pv 4) (nomark _)) (pw_or1 (pt_cmpR (op_neOwn hsG hfG hneG hmroG FG hr2 bEG) ((pe_meth0 (pv 10) clL mW FW hr8 bW .nil pass0)) (pe_fn MD hr (by decide) rfl (pa_cons (pv 5) (pa_nil))) (nomark _)))))) (pss_one (ps_ret (pe_bl))) (pss_nil)) (pss_cons (ps_if (PW.pt (pw_or (pt_cmpR (op_neD hu64) (pe_callTy (r := rListIt K C (spItM C) (spLenM C) s.heap.objs.size) (call_listIt rfl hsI hfI FI bI hsN hfN FN bN hr4) (by rfl) T.list (by decide +kernel) (pa_cons (pe_meth0 (pv 10) clL mW FW hr8 bW .nil pass0) pa_nil)) (pe_callTy (call_listD rfl) (by rfl) T.list (by decide +kernel) (pa_cons (pe_dget hu (pv 5) pe_str (fun _ _ => rfl)) pa_nil)) (nomark _)) (pw_or1 (pt_not (pt_cmpR (op_eqOwn hsQ hfQ FQ hr2 bQ) (pv 10) ((pe_make MKL FIL hr17 rfl gL bL .nil pass0 (pa_cons (pe_fn MD hr (by decide) rfl (pa_cons (pv 3) (pa_nil))) (pa_cons (pv 4) (pa_nil))))) (nomark _)))))) (pss_one (ps_ret (pe_bl))) (pss_nil)) (pss_cons (ps_set (i := 11) scLaw.nd rfl (.inl rfl) (pe_lst (pa_nil))) (pss_cons (ps_if (pt_cmpR op_lt (pe_callB call_len_seq (by rfl) T.len PySem.boot_len (pa_cons (pv 4) (pa_nil))) (pe_int) (nomark _)) (pss_one (ps_expr (pe_bm PySem.F.plainAttrs_list PySem.F.slot_list_append PySem.F.type_list_append mt_append (pv 11) (pa_cons ((pe_make MKL FIL hr17 rfl gL bL .nil pass0 (pa_cons (pv 6) (pa_cons (pe_op op_cat (pv 4) (pe_lst (pa_cons (pe_tup (pa_cons (pe_str) (pa_cons (pe_tup (pa_nil)) (pa_cons (pe_tup (pa_cons (pe_str) (pa_cons (pe_str) (pa_nil)))) (pa_nil))))) (pa_nil)))) (pa_nil))))) (pa_nil))))) (pss_nil)) (pss_cons (ps_if (pt_cmpR (op_neD hu64) (pv 4) (pe_lst pa_nil) (nomark _)) (pss_cons (ps_expr (pe_bm PySem.F.plainAttrs_list PySem.F.slot_list_append PySem.F.type_list_append mt_append (pv 11) (pa_cons ((pe_make MKL FIL hr17 rfl gL bL .nil pass0 (pa_cons (pv 6) (pa_cons (pe_slice sl_list (pv 4) po_none (po_some (pe_un un_neg pe_int))) (pa_nil))))) (pa_nil)))) (pss_one (ps_expr (pe_bm PySem.F.plainAttrs_list PySem.F.slot_list_append PySem.F.type_list_append mt_append (pv 11) (pa_cons ((pe_make MKL FIL hr17 rfl gL bL .nil pass0 (pa_cons (pv 6) (pa_cons (pe_op op_cat (pe_slice sl_list (pv 4) po_none (po_some (pe_un un_neg pe_int))) (pe_lst (pa_cons (pe_tup (pa_cons (pe_ix (r := rIxT K) ix_tup (pe_ix (r := rIxL K) ix_list (pv 4) (pe_un un_neg pe_int) (fun _ _ => rfl)) pe_int (fun _ _ => rfl)) (pa_cons (pe_tup (pa_nil)) (pa_cons (pe_tup (pa_cons (pe_str) (pa_cons (pe_str) (pa_nil)))) (pa_nil))))) (pa_nil)))) (pa_nil))))) (pa_nil)))))) (pss_nil)) (pss_cons (ps_set (i := 12) scLaw.nd rfl (.inl rfl) (pe_callTy call_dictD (by rfl) T.dict (by decide +kernel) (pa_cons (pe_dget hu (pv 3) pe_str (fun _ _ => rfl)) pa_nil))) (pss_cons (ps_dput hu (pv 12) pe_str pe_int rfl) (pss_cons (ps_expr (pe_bm PySem.F.plainAttrs_list PySem.F.slot_list_append PySem.F.type_list_append mt_append (pv 11) (pa_cons ((pe_make MKL FIL hr17 rfl gL bL .nil pass0 (pa_cons ((pe_make MKG FIG hr5 rfl gC bG .nil pass0 (pa_cons (pv 12) (pa_cons (pe_dget hu (pv 3) pe_str (fun _ _ => rfl)) (pa_cons (pe_dget hu (pv 3) pe_str (fun _ _ => rfl)) (pa_cons (pe_dget hu (pv 3) pe_str (fun _ _ => rfl)) (pa_nil))))))) (pa_cons (pv 4) (pa_nil))))) (pa_nil)))) (pss_cons (ps_if (pt_val (pe_callB (r := rAny K) (cr_any rfl) (by rfl) T.any (by decide +kernel) (pa_cons (pe_lc (own := [("_law_x", 13)]) (g := gName 13) (tt := tYes) rfl scLaw.nd (pi_seqW (pe_op op_cat (pv 11) (pe_lst (pa_cons (pv 4) (pa_cons (pv 6) (pa_cons (pe_non) (pa_cons (pe_int) (pa_nil)))))))) (blkOk_by (own := [("_law_x", 13)]) (N := lawN) (sc := defScope sLaw) (by decide +kernel)) (fun _ _ _ _ _ => pg_name (i := 13) scLaw.nd rfl (.inl rfl)) (fun _ _ _ _ _ => pts_nil) (fun _ _ _ _ _ => pe_or (pe_cmpR (r := rEqOwn K CL (spLE K C CL) false) (op_eqOwn hsQ hfQ FQ hr2 bQ) (pv 10) (pv 13) (nomark _)) (pe_one (pe_not (pe_cmpR (r := rEqOwn K CL (spLE K C CL) true) (op_neOwn hsQ hfQ hneL hmroL FQ hr3 bQ) (pv 10) (pv 13) (nomark _)))))) (pa_nil)))) (pss_one (ps_ret (pe_bl))) (pss_nil)) (pss_cons (ps_set (i := 14) scLaw.nd rfl (.inl rfl) (pe_op op_cat (pv 4) (pe_lst (pa_cons (pe_fn OD hr (by decide) rfl (pa_cons (pv 2) (pa_cons (pv 3) (pa_cons (pv 4) (pa_nil))))) (pa_cons (pe_non) (pa_nil)))))) (pss_one (ps_if (PW.pt (pw_or (pt_cmpR op_ne (pe_fn MT hr (by decide) rfl (pa_cons (pv 6) (pa_cons (pv 14) (pa_nil)))) (pe_callB call_len_seq (by rfl) T.len PySem.boot_len (pa_cons (pv 4) (pa_nil))) (nomark _)) (pw_or1 (pt_cmpR op_ne (pe_fn MT hr (by decide) rfl (pa_cons (pv 6) (pa_cons (pe_fn ON hr (by decide) rfl (pa_cons (pv 2) (pa_cons (pe_lst (pa_cons (pe_non) (pa_cons (pe_int) (pa_cons (pe_str) (pa_cons (pe_dnewK) (pa_cons (pe_bl) (pa_nil))))))) (pa_nil)))) (pa_nil)))) (pe_int) (nomark _))))) (pss_one (ps_ret (pe_bl))) (pss_nil)))))))))))))))))))))))) (pss_one (ps_ret (pe_cmpR (op_eqD hu64) (pe_meth0 ((pe_make MKL FIL hr17 rfl gL bL1 rdL pass0 (pa_cons ((pe_make MJ FJ hr5 rfl gC bJ rdJ pass0 (pa_cons (pe_disp (pps_cons pe_str pe_int pps_nil) rfl rfl (fun e => nomatch e) (by simp)) pa_nil))) pa_nil))) clL mF FF hr1 bF .nil pass0) (pe_lst pa_nil) (nomark _)))))).nox, ?_⟩
    clear CE PL TK GR LB MD LO ON OD MT hr hu hu64 hu110 hr1 hr2 hr3 hr4 hr5 hr8 hr17 hgd FN bN FI bI FG bEG mF FF bF mW FW bW FQ bQ MKG FIG bG MJ FJ bJ rdJ MKL FIL bL bL1 rdL hsN hfN hsI hfI hsG hfG hneG hmroG hsQ hfQ hneL hmroL T RP
    refine ⟨5, rfl, by decide, by decide, for_range (lo := 0) (n := 5) (fun i σ H' => ∃ o1 o2 o3 o4 o5 o6 o7 o8 o9 o10 o11 o12 o14, σ = [some (.ref a), o1, o2, o3, o4, o5, o6, o7, o8, o9, o10, o11, o12, none, o14] ∧ SqL K H' a (ns.map V.int)) ⟨none, none, none, none, none, none, none, none, none, none, none, none, none, rfl, hS⟩ ?_ ?_⟩
    case refine_2 =>
      rintro σ H1 ⟨o1, o2, o3, o4, o5, o6, o7, o8, o9, o10, o11, o12, o14, rfl, _⟩
      have wfX : GD.Wf ⟨[("x", 0)], [], [], []⟩ := ⟨(fun e => nomatch e), by decide +kernel, by decide +kernel, by decide, by decide, List.nil_sublist _, List.nil_sublist _, (fun x h => nomatch h), by decide, (fun f h => nomatch h), .nil⟩
      have fitX := wfX.fit
      have ownX : GD.Own ⟨[("x", 0)], [], [], []⟩ := ⟨fitX, own_f wfX, own_c wfX⟩
      have em : mergeK [] [((.inr "x" : Key), V.int 0)] = lkv [("x", 0)] := merge_lkv [("x", 0)] [] (by decide +kernel)
      intro q1 nq1
      obtain ⟨J0, s0, h0, u0⟩ := lay (o := .dK []) nq1
      rw [u0]
      refine ⟨h0, [(.inr "x", .int 0)], rfl, by show (1 : Nat) ≤ 15; decide, ?_⟩
      rw [em]
      obtain ⟨J1, h1, s1, u1⟩ : ∃ J1, J1 q1 = some (.dK (lkv [("x", 0)])) ∧ Same H1 J1 ∧ upd J0 q1 (.dK (lkv [("x", 0)])) = J1 := ⟨_, upd_same, fun b o e => by rw [upd_ne (ne_of_none e nq1)]; exact s0 _ _ e, rfl⟩
      rw [u1]
      intro G1 dx1 nx1 ndx1 ne1
      refine gr_make2 (g := ⟨[("x", 0)], [], [], []⟩) nx1 ndx1 ne1 h1 (.inr (z1 _)) (.inr (z2 _)) ⟨[], .inr (z3 _), .nil⟩ fitX fun J2 s2 i2 => ?_
      have gr1 : IsGr2 C J2 G1 ⟨[("x", 0)], [], [], []⟩ := (i2 [] (fun _ h => nomatch h)).mono (hid_low _ _)
      have okX : FnsOk ⟨[("x", 0)], [], [], []⟩ 4 [] := ⟨fun f h => (nomatch h), by decide +kernel, by decide, fun f h => (nomatch h), fun i f h => by simp at h⟩
      intro x2 dx2 nx2 ndx2 ne2
      refine li_make nx2 ndx2 ne2 gr1 ownX (by decide) (goodlib_own (ts := []) okX fitX (.inr (zP _)) .nil) fun J3 s3 i3 => ?_
      have iL := (i3 [] (fun _ h => nomatch h)).mono (hid_low _ _)
      obtain ⟨dxL, asL, dL, tsL, L1, L3, L4, L5, L6, L7⟩ := iL.ex
      refine ⟨x2, dxL, asL, rfl, L1, L7 _ (by simp), x2, G1, [], rfl, iL, fun l ts2 J4 nl s4 hl hts => ?_⟩
      refine ⟨by show 0 ≤ sizeLine; decide, fun l2 nl2 => ?_⟩
      obtain ⟨J5, s5, h5, e5⟩ := lay (o := .lst []) nl2
      rw [e5]
      cases hts
      exact ⟨.list [], .list [], .lst (SqL.of (s5 _ _ hl)) .nil, .lst (SqL.of h5) .nil, rfl, rfl, rfl⟩
    rintro i0 σ H1 hi ⟨o1, o2, o3, o4, o5, o6, o7, o8, o9, o10, o11, o12, o14, rfl, hS1⟩
    refine ⟨_, rfl, _, rfl, a, ns, i0, (by rw [Int.zero_add]; rfl), hS1, fun z0 => ⟨_, rfl, _, _, rfl, rfl, _, rfl, fun p H2 np s2 P2 => ?_⟩⟩
    refine ⟨_, rfl, p, 3, 0, rfl, by decide, by decide, by decide, P2, fun g gd H3 B3 hG3 wf l3 n8 P3 => ?_⟩
    have g3 : Gd3 gd := ⟨wf, by omega, n8⟩
    have fit := wf.fit
    have P3 : PoolIs H3 p 500 := P3.mono (Same.refl _) (by decide)
    refine ⟨_, rfl, _, rfl, _, rfl, p, 5, 500, rfl, by decide, by decide, by decide, P3, fun k H4 hk B4 P4 => ?_⟩
    refine ⟨p, g, k, gd, _, rfl, by omega, hG3.mono B4, g3, P4, by decide, fun R F W fs ts H5 B5 hR hF hft lib hW Fp P5 => ?_⟩
    refine ⟨R, _, rfl, hR, rfl, _, _, rfl, _, _, rfl, rfl, ?_⟩
    have S13 : Same H1 (hid [p] H3) := fun b o h => by
      have bp : b ≠ p := ne_of_none h np
      exact hid_to (ni1 bp) (bt_at B3 (ni1 bp) (s2 _ _ h))
    have S15 : Same H1 (hid [p] H5) := (S13.trans B4).trans B5
    have hG5 := (hG3.mono B4).mono B5
    have hW5 : IsG (hid [p] H5) W (gd.wide (pre fs)) := hW.mono (hid_less (by simp))
    have hF5 : hid [p] H5 F = some (.lst (ts.map V.ref)) := hid_to (ni1 Fp) hF
    have hft5 : Paired (FunT K (hid [p] H5)) fs ts := Paired.mapP hft fun _ _ z => funT_hid P5 (Same.refl _) z
    have ok := lib_ok g3 lib
    have own : gd.Own := ⟨fit, own_f wf, own_c wf⟩
    have zzn := own_z wf
    refine ⟨_, rfl, g, gd, rfl, hG5.mono (hid_low _ _), fit, fun G H6 nG s6 hR6 => ?_⟩
    have P6 := P5.mono s6 (Nat.le_refl _)
    have hR6' := gr2_pool P6 hR6
    have S56 : Same (hid [p] H5) (hid [p] H6) := hid_same s6
    have S16 := S15.trans S56
    have hG6 := hG5.mono S56
    have hW6 := hW5.mono S56
    have hF6 := S56 _ _ hF5
    have hft6 : Paired (FunT K (hid [p] H6)) fs ts := Paired.mapP hft5 fun _ _ z => z.mono S56
    have hS6 : SqL K (hid [p] H6) a (ns.map V.int) := Same.seq S16 hS1
    have lts := Paired.length hft6
    have l4 := lib.len
    clear hG3 hG5 hW5 hF5 hft5 hR hF hft hW S13 S15 hR6 B3 B4 B5 s2 np hS1 P2 P3 P4 P5 S16
    -- the rows are handed over
    refine ⟨_, rfl, F, ts.map V.ref, true, [p], rfl, SqL.of hF6, fun J WJ D nD => ?_⟩
    have Dp : D ≠ p := P6.ne nD
    refine lc_it WJ (fun i H' => Bt [p] H6 H' ∧ ∃ (ys : List V) (es : List AD), H' D = some (.lst ys) ∧ ys.length = i ∧ AdAll K (hid [p, D] H') ys es ∧ LoAll ((fs.take i).map fun f => adOf (fnData f)) es ∧ (∀ (j : Nat) (y : V) (e : AD), ys[j]? = some y → es[j]? = some e → ∃ b, y = .ref b ∧ H6 b = none ∧ b ≠ p ∧ b ≠ D ∧ ((e.isTup = false ∧ ∃ xs, xs.length ≤ 21 ∧ H' b = some (.lst xs)) ∨ (e.isTup = true ∧ ∃ xs, H' b = some (.tup xs)))) ∧ PoolIs H' p (1001 + 21 * i))
      ⟨bt_of (same_new nD), [], [], upd_same, rfl, .nil, .nil, fun j y e h => by simp at h, P6.mono (same_new nD) (by omega)⟩ (fun i H' _ ⟨B, _⟩ => SqL.of (B _ _ hF6)) ?_ ?_
    · rintro i y H7' H7 hi ⟨B7, ys, es, hD, ly, hA, hL, hO, P7⟩ ⟨rfl, hy⟩
      have hy : (ts.map V.ref)[i]? = some y := hy
      rw [List.getElem?_map] at hy
      obtain ⟨t, htt, rfl⟩ := Option.map_eq_some_iff.mp hy
      have il : i < fs.length := by rw [lts]; exact (List.getElem?_eq_some_iff.mp htt).1
      have hfi : fs[i]? = some fs[i] := List.getElem?_eq_getElem il
      generalize fs[i] = fn at hfi
      obtain ⟨t', ht', hfn⟩ := paired_at' hft6 hfi
      obtain rfl : t' = t := by rw [htt] at ht'; exact (Option.some.inj ht').symm
      have toD : Same (hid [p] H6) (hid [p, D] H7) := fun b o e => by
        obtain ⟨e1, m⟩ := hid_in e
        have bp : b ≠ p := fun z => m (List.mem_singleton.mpr z)
        exact hid_to (ni2 bp (ne_of_none e1 nD)) (bt_at B7 m e1)
      have hsz : (adOf (fnData fn)).sz ≤ 21 := by
        have b1 := (lib.bn fn (List.mem_of_getElem? hfi)).2.2
        have b2 := (lib.ok i fn hfi).2
        have b3 := sz_own fn.2.2
        have b4 : ∀ ns : List Str, AD.szs (ns.map AD.str) = ns.length := fun ns => by
          induction ns with
          | nil => rfl
          | cons n r ih =>
            show (AD.str n).sz + AD.szs (r.map AD.str) = _
            rw [ih, List.length_cons]
            show 1 + r.length = r.length + 1
            omega
        rw [fn_ad]
        simp only [AD.sz, AD.szs, b4]
        omega
      refine ⟨rfl, ?_⟩
      obtain ⟨px, hpx⟩ : ∃ o, H7 p = some o := let ⟨_, _, _, h, _⟩ := P7.ex; ⟨_, h⟩
      refine ⟨_, rfl, _, rfl, p, [p, D], .ref t', adOf (fnData fn), _, rfl, by simp, fun q hq => ?_, (adOf_at (dp_fn hfn)).mono toD, hsz, by decide, by omega, P7, fun v e H8 B8 hv hl P8 hown => ?_⟩
      · simp only [List.mem_cons, List.not_mem_nil, or_false] at hq
        rcases hq with rfl | rfl
        · exact ⟨_, hpx⟩
        · exact ⟨_, hD⟩
      have hD8 := bt_at B8 (ni1 Dp) hD
      have bD : Bt [p, D] H8 (upd H8 D (.lst (ys ++ [v]))) := bt_upd (by simp)
      have b2 : Bt [p, D] H7 H8 := bt_weak (by simp) B8
      have el : es.length = i := by rw [← hA.len, ly]
      refine ⟨ys, hD8, by rw [ly, sizeLine_eq]; omega, bt_put (B7.trans B8) nD, ys ++ [v], es ++ [e], upd_same, by rw [List.length_append, ly]; rfl, (hA.mono (b2.trans bD)).app (.cons (hv.mono bD) .nil), ?_, ?_, ?_⟩
      · rw [take_at hfi, List.map_append]
        exact hL.app (.cons hl .nil)
      · intro j y e' hyj he
        by_cases jl : j < i
        · rw [List.getElem?_append_left (by omega)] at hyj he
          obtain ⟨b, rfl, n6, bp, bD', hh⟩ := hO j y e' hyj he
          refine ⟨b, rfl, n6, bp, bD', hh.imp (fun ⟨h1, xs, lx, h2⟩ => ⟨h1, xs, lx, ?_⟩) fun ⟨h1, xs, h2⟩ => ⟨h1, xs, ?_⟩⟩
          · rw [upd_ne bD']; exact bt_at B8 (ni1 bp) h2
          · rw [upd_ne bD']; exact bt_at B8 (ni1 bp) h2
        · have ji : j = i := by
            have := (List.getElem?_eq_some_iff.mp hyj).1
            rw [List.length_append, ly] at this
            simp only [List.length_singleton] at this
            omega
          subst ji
          rw [List.getElem?_append_right (by omega), ly, Nat.sub_self] at hyj
          rw [List.getElem?_append_right (by omega), el, Nat.sub_self] at he
          obtain rfl : v = y := by simpa using hyj
          obtain rfl : e = e' := by simpa using he
          obtain ⟨b, rfl, n7, hh⟩ := hown (by rw [fn_ad]; rfl)
          have bp : b ≠ p := fun z => by rw [z, hpx] at n7; cases n7
          have bD' : b ≠ D := fun z => by rw [z, hD] at n7; cases n7
          refine ⟨b, rfl, none_of_bt B7 (ni1 bp) n7, bp, bD', hh.imp (fun ⟨h1, xs, lx, h2⟩ => ⟨h1, xs, by omega, by rw [upd_ne bD']; exact h2⟩) fun ⟨h1, xs, h2⟩ => ⟨h1, xs, by rw [upd_ne bD']; exact h2⟩⟩
      · obtain ⟨a1, b1, c1, e1, r1, r2, r3, r4, r5⟩ := P8
        exact ⟨a1, b1, c1, by rw [upd_ne Dp.symm]; exact e1, r1, r2, r3, r4, by omega⟩
    rintro H7 ⟨B7, ys, es, hD, ly, hA, hL, hO, P7⟩
    rw [List.length_map, ← lts, List.take_length] at hL
    rw [List.length_map, ← lts] at ly
    have lel : es.length = fs.length := by rw [← hA.len, ly]
    obtain ⟨us, rfl⟩ : ∃ us : List Addr, ys = us.map V.ref := refs_of fun y hy => by
      obtain ⟨j, hj⟩ := List.mem_iff_getElem?.mp hy
      have jl := (List.getElem?_eq_some_iff.mp hj).1
      obtain ⟨b, e, _⟩ := hO j y es[j] hj (List.getElem?_eq_getElem (by omega))
      exact ⟨b, e⟩
    rw [List.length_map] at ly
    obtain ⟨nd, sh1, sh2, sh3, sh4⟩ := handed_shows ok fit (by decide) hL
    have P7 : PoolIs H7 p 1200 := P7.mono (Same.refl _) (by rw [List.length_map, ← lts]; omega)
    clear WJ
    refine ⟨_, _, rfl, ?_⟩
    refine ⟨_, rfl, D, .list (AD.pys es), rfl, .lst (SqL.of hD) ((hA.mono (hid_low _ _)).dp nd), sh1, sh2, sh3, sh4, ?_⟩
    -- the library
    refine ⟨_, rfl, _, rfl, _, rfl, D, us.map V.ref, rfl, .inl ⟨SqL.of hD, fun tt ntt => ?_⟩⟩
    obtain ⟨H8, s8, h8, e8⟩ := lay (o := .tup (us.map V.ref)) ntt
    rw [e8]
    refine ⟨by show 2 ≤ sizeLine; decide, fun L2 nL2 => ?_⟩
    obtain ⟨H9, s9, h9, e9⟩ := lay (o := .lst [.ref D, .ref tt]) nL2
    rw [e9]
    have S79 := s8.trans s9
    have P9 := P7.mono S79 (Nat.le_refl _)
    have L2p : L2 ≠ p := (P7.mono s8 (Nat.le_refl _)).ne nL2
    have ttp : tt ≠ p := P7.ne ntt
    refine ⟨_, rfl, p, 2, _, rfl, by decide, by decide, by decide, P9, fun k2 H10 hk2 B10 P10 => ?_⟩
    have h9' := bt_at B10 (ni1 L2p) h9
    have B70 : Bt [p] H7 H10 := (bt_of S79).trans B10
    have hD10 : H10 D = some (.lst (us.map V.ref)) := bt_at B70 (ni1 Dp) hD
    obtain ⟨Rw, hRi, hRw⟩ : ∃ Rw, ([.ref D, .ref tt] : List V)[k2]? = some (.ref Rw) ∧ SqA K H10 Rw (us.map V.ref) := by
      have hk : k2 = 0 ∨ k2 = 1 := by omega
      rcases hk with rfl | rfl
      · exact ⟨D, rfl, .inl (SqL.of hD10)⟩
      · exact ⟨tt, rfl, .inr (SqT.of (bt_at B10 (ni1 ttp) (s9 _ _ h8)))⟩
    have pD10 : Bt [p, D] H7 H10 := bt_weak (by simp) B70
    have hA10 : AdAll K (hid [p, D] H10) (us.map V.ref) es := hA.mono pD10
    have B610 : Bt [p] H6 H10 := B7.trans B70
    refine ⟨L2, _, (k2 : Int), _, rfl, rfl, SqL.of h9', atI_nat (j := k2) hRi, fun x dx nx ndx ne => ?_⟩
    refine li_make nx ndx ne ((hR6'.mono B610).mono (hid_low _ _)) own (by decide) (goodlib_of ok fit hRw (by rw [List.length_map]; exact ly.symm) fun i f v hf hv => ?_) fun H11 S11 iN => ?_
    · obtain ⟨e, he, hve⟩ := (hA10.mono (hid_low _ _)).at hv
      refine ⟨e, hve, ?_⟩
      obtain ⟨e', he', l'⟩ := hL.at' (show (fs.map fun f => adOf (fnData f))[i]? = some (adOf (fnData f)) by rw [List.getElem?_map, hf]; rfl)
      rw [he] at he'
      cases he'
      exact l'
    -- the text of the rows again
    have P11 := P10.mono S11 (Nat.le_refl _)
    have hD11 := S11 _ _ hD10
    refine ⟨_, rfl, D, .list (AD.pys es), rfl, .lst (SqL.of hD11) (((hA10.mono (hid_low _ _)).mono S11).dp nd), sh1, sh2, sh3, sh4, _, rfl, rfl, _, rfl, ?_⟩
    rw [show (!decide (V.str (PyData.list (AD.pys es)).shown = V.str (PyData.list (AD.pys es)).shown)) = false from by rw [decide_eq_true rfl]; rfl]
    refine iteF ?_
    -- what was handed over is changed behind
    have B711 : Bt [p] H7 H11 := B70.trans (hid_same S11)
    classical
    generalize hNL : us.filter (fun u => decide (∃ zs, H11 u = some (.lst zs))) = NL
    have itN : ∀ (i : Nat) (u : Addr), us[i]? = some u → H6 u = none ∧ u ≠ p ∧ u ≠ D ∧ ((u ∈ NL ∧ ∃ zs, zs.length ≤ 21 ∧ H11 u = some (.lst zs) ∧ H10 u = some (.lst zs)) ∨ (u ∉ NL ∧ ∃ zs, H11 u = some (.tup zs))) := fun i u hu => by
      have hm := List.mem_of_getElem? hu
      have il := (List.getElem?_eq_some_iff.mp hu).1
      obtain ⟨b, eb, n6, bp, bD, hh⟩ := hO i (.ref u) es[i] (by rw [List.getElem?_map, hu]; rfl) (List.getElem?_eq_getElem (by omega))
      obtain rfl : u = b := by injection eb
      refine ⟨n6, bp, bD, hh.imp (fun ⟨_, zs, lz, h⟩ => ?_) fun ⟨_, zs, h⟩ => ?_⟩
      · have h11 := bt_at B711 (ni1 bp) h
        refine ⟨?_, zs, lz, h11, bt_at B70 (ni1 bp) h⟩
        rw [← hNL]
        exact List.mem_filter.mpr ⟨hm, decide_eq_true ⟨_, h11⟩⟩
      · have h11 := bt_at B711 (ni1 bp) h
        refine ⟨fun z => ?_, zs, h11⟩
        rw [← hNL] at z
        obtain ⟨zs', e⟩ := of_decide_eq_true (List.mem_filter.mp z).2
        rw [h11] at e
        cases e
    have inN : ∀ u ∈ NL, H6 u = none ∧ u ≠ p ∧ u ≠ D ∧ ∃ zs, zs.length ≤ 21 ∧ H11 u = some (.lst zs) ∧ H10 u = some (.lst zs) := fun u hu => by
      have hm : u ∈ us := by
        rw [← hNL] at hu
        exact (List.mem_filter.mp hu).1
      obtain ⟨i, hi⟩ := List.getElem?_of_mem hm
      obtain ⟨h1, h2, h3, h4⟩ := itN i u hi
      rcases h4 with ⟨_, h4⟩ | ⟨h4, _⟩
      · exact ⟨h1, h2, h3, h4⟩
      · exact absurd hu h4
    have DNL : D ∉ NL := fun z => (inN D z).2.2.1 rfl
    have pNL : p ∉ NL := fun z => (inN p z).2.1 rfl
    obtain ⟨px, hpx⟩ : ∃ zs, H10 p = some (.lst zs) := let ⟨_, _, _, h, _⟩ := P10.ex; ⟨_, h⟩
    have iL11 := iN (p :: D :: NL) fun b hb => by
      rcases List.mem_cons.mp hb with rfl | hb
      · exact ⟨_, hpx⟩
      rcases List.mem_cons.mp hb with rfl | hb
      · exact ⟨_, hD10⟩
      · obtain ⟨_, _, _, zs, _, _, h⟩ := inN b hb
        exact ⟨zs, h⟩
    have SJ : Same (hid [p] H6) (hid (p :: D :: NL) H11) := fun b o e => by
      obtain ⟨e1, m⟩ := hid_in e
      have bp : b ≠ p := fun z => m (List.mem_singleton.mpr z)
      refine hid_to ?_ (S11 _ _ (bt_at B610 m e1))
      intro z
      rcases List.mem_cons.mp z with rfl | z
      · exact bp rfl
      rcases List.mem_cons.mp z with rfl | z
      · rw [nD] at e1; cases e1
      · rw [(inN b z).1] at e1; cases e1
    refine ⟨_, rfl, D, us.map V.ref, true, NL, rfl, SqL.of (hid_to DNL hD11), fun J WJ => ?_⟩
    refine for_it WJ (fun i σ H' => ∃ o8, σ = [some (.ref a), some (.int ((0 : Int) + (i0 : Nat))), some (.ref p), some (.ref g), some (.ref F), some (.ref W), some (.ref G), some (.ref D), o8, some (.str (PyData.list (AD.pys es)).shown), some (.ref x), o11, o12, none, o14] ∧ Bt NL H11 H' ∧ ∀ u ∈ NL, ∃ zs, zs.length ≤ 21 + i ∧ H' u = some (.lst zs))
      ⟨o8, rfl, Same.refl _, fun u hu => by obtain ⟨_, _, _, zs, lz, h, _⟩ := inN u hu; exact ⟨zs, by omega, h⟩⟩ (fun i σ H' _ ⟨_, _, B, _⟩ => SqL.of (B _ _ (hid_to DNL hD11))) ?_ ?_
    · rintro i y σ H12' H12 hi ⟨o8', rfl, B12, bg⟩ ⟨rfl, hy⟩
      have hy : (us.map V.ref)[i]? = some y := hy
      rw [List.getElem?_map] at hy
      obtain ⟨u, hu, rfl⟩ := Option.map_eq_some_iff.mp hy
      have il : i < us.length := (List.getElem?_eq_some_iff.mp hu).1
      obtain ⟨_, _, _, hh⟩ := itN i u hu
      rcases hh with ⟨hm, _⟩ | ⟨hm, zs, h⟩
      · obtain ⟨zs, lz, hzs⟩ := bg u hm
        refine ⟨_, rfl, .ref u, .ty "list", .type "list", .type "list", true, rfl, .ty "list", .base (.lst hzs), kit_ty (by decide +kernel), true, rfl, ?_⟩
        refine iteT ?_
        refine ⟨_, rfl, .inl ⟨rfl, _, SqL.of hzs⟩, u, _, _, rfl, rfl, hzs, by rw [sizeLine_eq]; omega, ?_⟩
        refine ⟨_, rfl, B12.trans (bt_upd hm), fun n hn => ?_⟩
        by_cases c : n = u
        · rw [c, upd_same]
          exact ⟨_, by rw [List.length_append, List.length_singleton]; omega, rfl⟩
        · rw [upd_ne c]
          obtain ⟨zs, le, e⟩ := bg n hn
          exact ⟨zs, by omega, e⟩
      · have hu12 : H12 u = some (.tup zs) := bt_at B12 hm h
        refine ⟨_, rfl, .ref u, .ty "list", .type "tuple", .type "list", false, rfl, .ty "list", .base (.tup hu12), kit_ty (by decide +kernel), false, rfl, ?_⟩
        refine iteF ?_
        exact ⟨_, rfl, B12, fun n hn => let ⟨zs, le, e⟩ := bg n hn; ⟨zs, by omega, e⟩⟩
    rintro σ H12 ⟨o8', rfl, B12, _⟩
    have hD12 := bt_at B12 DNL hD11
    refine ⟨_, rfl, .inl ⟨rfl, _, SqL.of hD12⟩, D, _, _, rfl, rfl, hD12, by rw [List.length_map, sizeLine_eq]; omega, ?_⟩
    have B13 : Bt (D :: NL) H11 (upd H12 D (.lst (us.map V.ref ++ [.str "late"]))) := (bt_weak (fun z hz => List.mem_cons_of_mem _ hz) B12).trans (bt_upd (by simp))
    have P13 : PoolIs (upd H12 D (.lst (us.map V.ref ++ [.str "late"]))) p 1201 := pool_at P11 fun o e => bt_at B13 (by simp [Dp.symm, pNL]) e
    have e13 : upd H12 D (.lst (us.map V.ref ++ [V.str ("late" : Str)])) = upd H12 D (.lst (us.map V.ref ++ [.str "late"])) := rfl
    rw [e13]
    generalize upd H12 D (.lst (us.map V.ref ++ [.str "late"])) = H13 at B13 P13
    have S13 : Same (hid (p :: D :: NL) H11) (hid (p :: D :: NL) H13) := bt_weak (fun z hz => List.mem_cons_of_mem _ hz) B13
    have hG0 := hG6.mono SJ
    have hW0 := hW6.mono SJ
    have hF0 := SJ _ _ hF6
    have hft0 : Paired (FunT K (hid (p :: D :: NL) H11)) fs ts := Paired.mapP hft6 fun _ _ z => z.mono SJ
    have hR0 := hR6'.mono SJ
    have hS0 := Same.seq SJ hS6
    generalize hN : p :: D :: NL = N at *
    have pN : p ∈ N := by rw [← hN]; exact List.mem_cons_self
    generalize hid N H11 = J0 at *
    clear SJ B13 hD12 B12 WJ inN itN DNL pNL hN hNL iN S11 B711 B610 hA10 pD10 hRw hRi hD10 B70 h9' B10 P10 P9 ttp L2p S79 h9 e9 s9 nL2 h8 e8 s8 ntt sh1 sh2 sh3 sh4 nd hL hA hO hD hD11 P11 P7 B7 P6 hpx ne ndx nx hG6 hW6 hF6 hft6 hR6' hS6 S56 s6 nG
    obtain ⟨dxL, asL, dL, tsL, L1, L3, L4, L5, L6, L7⟩ := iL11.ex
    obtain ⟨dxG, asG, _, _, _, _, _, G1, _⟩ := hR0.ex
    have Slo : Same J0 H13 := S13.trans (hid_low _ _)
    refine ⟨_, rfl, x, dxL, asL, rfl, Slo _ _ L1, L7 _ (by simp), x, G, fs, rfl, iL11.mono Slo, fun l ts2 H14 nl s14 hl hts => ?_⟩
    refine ⟨.inl ⟨rfl, _, SqL.of hl⟩, l, _, _, rfl, rfl, hl, by rw [List.length_map, ← Paired.length hts, sizeLine_eq]; omega, ?_⟩
    have lp : p ≠ l := fun z => by
      obtain ⟨_, _, _, h, _⟩ := P13.ex
      rw [z, nl] at h
      cases h
    have S15 : Same J0 (hid N (upd H14 l (.lst (ts2.map V.ref ++ [.str "more"])))) := base_put (S13.trans (hid_same s14)) (Slo.free nl)
    have P15 : PoolIs (upd H14 l (.lst (ts2.map V.ref ++ [.str "more"]))) p 1201 := pool_at P13 fun o e => by rw [upd_ne lp]; exact s14 _ _ e
    rw [show upd H14 l (.lst (ts2.map V.ref ++ [V.str ("more" : Str)])) = upd H14 l (.lst (ts2.map V.ref ++ [.str "more"])) from rfl]
    generalize upd H14 l (.lst (ts2.map V.ref ++ [.str "more"])) = H15 at S15 P15
    clear hl hts s14 nl lp Slo S13 P13 H14 H13
    have Slo : Same J0 H15 := S15.trans (hid_low _ _)
    have sh := fns_shaped ok fit (by decide)
    have wfit : (gd.wide (pre fs)).Fit := ok.fit fit
    have eqG1 : ∀ g : GD, eqG g g = true := fun g => by unfold eqG; simp
    have nbG : ∀ {Hx : Hp} {b dxb : Addr} {asb : List (Str × V)}, Hx b = some (.ins C dxb asb) → NotBelow K C Hx (.ref b) := fun {Hx b dxb asb} h => ⟨.ref C, gk.ty Hx b dxb asb h, by unfold PySem.W.notFirst; simp⟩
    refine ⟨_, rfl, x, CL, dxL, asL, _, rfl, Slo _ _ L1, clL, noL, L3, ?_⟩
    refine ⟨_, rfl, G, dxG, asG, rfl, Slo _ _ G1, nbG (Slo _ _ G1), G, .ref G, gd, rfl, hR0.mono Slo, fit, .inl ⟨G, gd, rfl, hR0.mono Slo, fit, fun _ => rfl, true, by rw [eqG1], false, rfl, ?_⟩⟩
    refine iteF ?_
    -- functions()
    refine ⟨_, rfl, x, dxL, asL, rfl, Slo _ _ L1, L7 _ (by simp), x, G, fs, rfl, iL11.mono Slo, fun l ts2 H16 nl s16 hl hts => ?_⟩
    have S16 := Slo.trans s16
    refine ⟨_, rfl, _, _, .lst (SqL.of hl) (dp_fns hts), .lst (SqL.of (S16 _ _ hF0)) (dp_fns (Paired.mapP hft0 fun _ _ z => z.mono S16)), sh, sh, false, by rw [eqv_fns.mpr rfl]; rfl, ?_⟩
    refine iteF ?_
    -- wide()
    refine ⟨_, rfl, x, dxL, asL, rfl, S16 _ _ L1, L7 _ (by simp), x, G, gd, fs, rfl, iL11.mono S16, hR0.mono S16, own, wfit, fun X1 H17 nX1 s17 hX1 => ?_⟩
    have S17 := S16.trans s17
    refine ⟨_, rfl, W, gd.wide (pre fs), rfl, hW0.mono S17, wfit, fun X2 H18 nX2 s18 hX2 => ?_⟩
    obtain ⟨dx1, as1, _, _, _, _, _, X11, _⟩ := (hX1.mono s18).ex
    obtain ⟨dx2, as2, _, _, _, _, _, X21, _⟩ := hX2.ex
    refine ⟨X1, dx1, as1, rfl, X11, nbG X21, X1, .ref X2, gd.wide (pre fs), rfl, hX1.mono s18, wfit, .inl ⟨X2, _, rfl, hX2, wfit, fun _ => rfl, true, by rw [eqG1], false, rfl, ?_⟩⟩
    refine iteF ?_
    have S18 := S17.trans s18
    -- list(wide())
    refine ⟨_, rfl, x, dxL, asL, rfl, S18 _ _ L1, L7 _ (by simp), x, G, gd, fs, rfl, iL11.mono S18, hR0.mono S18, own, wfit, fun X3 H19 nX3 s19 hX3 => ?_⟩
    obtain ⟨dxX, asX, _, _, _, _, _, h0X, _⟩ := hX3.ex
    refine ⟨X3, dxX, asX, rfl, h0X, fun r nr n hn => ?_⟩
    obtain ⟨Ha, sa, ka, ea⟩ := lay (o := .lst []) nr
    rw [ea]
    refine ⟨X3, _, rfl, hX3.mono sa, fun l it hl ni ln => ?_⟩
    have lr : l ≠ r := fun z => by
      rw [z, ka] at hl
      have := HO.lst.inj (Option.some.inj hl)
      have : (gd.wide (pre fs)).letters = [] := by
        cases hh : (gd.wide (pre fs)).letters with
        | nil => rfl
        | cons a b => rw [hh] at this; cases this
      exact wfit.ne this
    have li : l ≠ it := ne_of_none hl ni
    have Sai : Same Ha (upd Ha it (ItO l it 0)) := same_new ni
    have edrop : ItX.dropH (upd Ha it (ItO l it 0)) it = Ha := ItX.dropH_upd ni
    have wle := wfit.le
    refine ⟨l, it, sts ((gd.wide (pre fs)).letters.map (·.1)), dxX, asX, rfl, by omega, upd_same, Sai _ _ (sa _ _ h0X), ⟨X3, _, rfl, (hX3.mono sa).mono Sai, _, rfl, by rw [sizeLine_eq]; omega, rfl⟩, Sai _ _ ka, fun zs => by rw [edrop]; exact SqL.of (by rw [upd_ne lr]; exact hl), by rw [sts_len, List.length_map, sizeLine_eq]; omega, ?_⟩
    rw [edrop]
    obtain ⟨H20, s20, hr20, e20⟩ : ∃ H20, Same H19 H20 ∧ H20 r = some (.lst (sts ((gd.wide (pre fs)).letters.map (·.1)))) ∧ upd Ha r (.lst (sts ((gd.wide (pre fs)).letters.map (·.1)))) = H20 := ⟨_, fun b o e => by rw [upd_ne (ne_of_none e nr)]; exact sa _ _ e, upd_same, rfl⟩
    rw [e20]
    have S20 := (S18.trans s19).trans s20
    obtain ⟨wL, wF, wC, wT, w1, w2, w3, w4, w5⟩ := hW0.ex
    have vL : valV (gdk wL wF wC wT) (.inr "letters" : Key) = some (.ref wL) := valV_pos rfl
    refine ⟨_, rfl, W, .ref wL, rfl, by rw [← vL]; exact DGet.k (k := .inr "letters") (S20 _ _ w1), wL, _, rfl, .inl (S20 _ _ w2), fun r2 nr2 => ?_⟩
    have ekeys : ((lkv (gd.wide (pre fs)).letters).map fun kv => kV kv.1) = sts ((gd.wide (pre fs)).letters.map (·.1)) := by
      unfold lkv sts
      rw [List.map_map, List.map_map]
      rfl
    obtain ⟨H21, s21, h21, e21⟩ := lay (o := .lst (sts ((gd.wide (pre fs)).letters.map (·.1)))) nr2
    rw [ekeys, e21]
    have shn : SeqAt.shaped (strD ((gd.wide (pre fs)).letters.map (·.1))) = true := shp_strD fun x hx => by
      obtain ⟨q, hq, rfl⟩ := List.mem_map.mp hx
      exact name_ok (wfit.nm q hq)
    refine ⟨_, _, dp_strD (SqL.of (s21 _ _ hr20)), dp_strD (SqL.of h21), shn, shn, false, by rw [eqv_self _ (pl_strD _)]; rfl, ?_⟩
    refine iteF ?_
    have s1521 : Same H15 H21 := (((((s16.trans s17).trans s18).trans s19).trans s20).trans s21)
    have T21 : Same J0 (hid N H21) := S15.trans (hid_same s1521)
    have P21 := P15.mono s1521 (Nat.le_refl _)
    clear S20 hr20 h21 e21 s21 s20 e20 nr2 nr hX3 nX3 s19 h0X ka ea sa hl ni ln lr li Sai edrop S18 X21 X11 hX2 nX2 s18 S17 hX1 nX1 s17 S16 hts s16 nl Slo S15 P15 s1521 shn ekeys
    -- the same library once more
    have Slo := T21.trans (hid_low _ _)
    refine ⟨_, rfl, _, rfl, g, gd, rfl, hG0.mono Slo, fit, fun G2 H22 nG2 s22 hG2 => ?_⟩
    have S22 := Slo.trans s22
    refine ⟨_, rfl, fun x2 dx2 nx2 ndx2 ne2 => ?_⟩
    refine li_make nx2 ndx2 ne2 hG2 own (by decide) (goodlib_own ok fit (.inl (SqL.of (S22 _ _ hF0))) (Paired.mapP hft0 fun _ _ z => z.mono S22)) fun H23 s23 iN2 => ?_
    have S23 := S22.trans s23
    have iL2 := (iN2 [] fun b h => nomatch h).mono (hid_low _ _)
    obtain ⟨dxL2, asL2, _, _, L21, _⟩ := iL2.ex
    have nbL : ∀ {Hx : Hp} {b dxb : Addr} {asb : List (Str × V)}, Hx b = some (.ins CL dxb asb) → NotBelow K CL Hx (.ref b) := fun {Hx b dxb asb} h => ⟨.ref CL, tyL Hx b dxb asb h, by unfold PySem.W.notFirst; simp⟩
    refine ⟨x, dxL, asL, rfl, S23 _ _ L1, nbL L21, x, G, .ref x2, gd, fs, rfl, iL11.mono S23, hR0.mono S23, fit, sh, .inl ⟨x2, G2, gd, fs, rfl, iL2, hG2.mono s23, fit, fun _ => rfl, sh, true, by rw [eqG1, eqv_fns.mpr rfl]; rfl, true, rfl, ?_⟩⟩
    refine iteF ?_
    have T23 : Same J0 (hid N H23) := T21.trans (hid_same (s22.trans s23))
    have P23 := P21.mono (s22.trans s23) (Nat.le_refl _)
    clear L21 iL2 S23 iN2 s23 ne2 ndx2 nx2 S22 hG2 s22 nG2 Slo P21 T21
    -- others
    refine ⟨by show 0 ≤ sizeLine; decide, fun O nO => ?_⟩
    obtain ⟨H24, s24, h24, e24⟩ := lay (o := .lst []) nO
    rw [e24]
    have nOJ : J0 O = none := (T23.trans (hid_low _ _)).free nO
    have OS : OthS K C CL N J0 gd fs p O 1201 0 H24 := ⟨[], T23.trans (hid_same s24), P23.mono s24 (Nat.le_refl _), h24, fun o h => (nomatch h), Nat.le_refl _⟩
    clear T23 P23 e24 h24 s24 nO
    dsimp only [gName]
    generalize o8' = o8
    refine seq_via (a := tIfS _ _ _) (fun σ' H' => σ' = [some (.ref a), some (.int ((0 : Int) + (i0 : Nat))), some (.ref p), some (.ref g), some (.ref F), some (.ref W), some (.ref G), some (.ref D), o8, some (.str (PyData.list (AD.pys es)).shown), some (.ref x), some (.ref O), o12, none, o14] ∧ OthS K C CL N J0 gd fs p O 1201 1 H') ?rest ?h1
    case h1 =>
      intro nx' hnx
      have SJ : ∀ {Hx : Hp}, Same H24 Hx → Same J0 Hx := fun s => by
        obtain ⟨os, h1, _⟩ := OS.ex
        exact (h1.trans (hid_low _ _)).trans s
      refine ⟨_, rfl, F, ts.map V.ref, rfl, .inl (SqL.of (SJ (Same.refl _) _ _ hF0)), _, _, rfl, rfl, _, rfl, ?_⟩
      by_cases c : (((ts.map V.ref).length : Nat) : Int) < 4
      · rw [decide_eq_true c]
        refine iteT ?_
        have c' : fs.length < 4 := by rw [List.length_map] at c; omega
        obtain ⟨ys, hO, ly, _⟩ := OS.ex.elim fun os h => (⟨os.map V.ref, h.2.2.1, by rw [List.length_map, sizeLine_eq]; have := h.2.2.2.2; omega, trivial⟩ : ∃ ys, H24 O = some (.lst ys) ∧ ys.length < sizeLine ∧ True)
        refine ⟨_, rfl, .inl ⟨rfl, _, SqL.of hO⟩, _, rfl, _, rfl, by show 0 ≤ sizeLine; decide, fun t0 nt0 => ?_⟩
        obtain ⟨Ka, sa, ka, ea⟩ := lay (o := .tup []) nt0
        rw [ea]
        refine ⟨by show 2 ≤ sizeLine; decide, fun t1 nt1 => ?_⟩
        obtain ⟨Kb, sb, kb, eb⟩ := lay (o := .tup [.str "value", .str "x"]) nt1
        rw [eb]
        refine ⟨by show 3 ≤ sizeLine; decide, fun t2 nt2 => ?_⟩
        obtain ⟨Kc, sc, kc, ec⟩ := lay (o := .tup [.str "zz", .ref t0, .ref t1]) nt2
        rw [ec]
        refine ⟨by show 1 ≤ sizeLine; decide, fun l1 nl1 => ?_⟩
        obtain ⟨Kd, sd, kd, ed⟩ := lay (o := .lst [.ref t2]) nl1
        rw [ed]
        have s4 := ((sa.trans sb).trans sc).trans sd
        refine ⟨F, l1, _, _, rfl, rfl, SJ s4 _ _ hF0, kd, by rw [List.length_map, sizeLine_eq]; show _ + 1 ≤ _; omega, fun c1 nc1 => ?_⟩
        obtain ⟨Ke, se, ke, ee⟩ := lay (o := .lst ((ts ++ [t2]).map V.ref)) nc1
        rw [show upd Kd c1 (.lst (ts.map V.ref ++ [V.ref t2])) = Ke by rw [← ee, List.map_append]; rfl]
        have s5 := s4.trans se
        have okz : FnsOk gd 4 (fs ++ [zzF "zz" "x"]) := zz_snoc ok (by decide +kernel) (by decide +kernel) (fun m => by
          rcases List.mem_append.mp m with m | m
          · exact zzn m
          · obtain ⟨f', hf', e⟩ := List.mem_map.mp m
            exact absurd (lib.nm f' hf') (by rw [e]; decide +kernel)) (by have := g3.le; omega)
        have fts : Paired (FunT K Ke) (fs ++ [zzF "zz" "x"]) (ts ++ [t2]) := paired_app (Paired.mapP hft0 fun _ _ z => z.mono (SJ s5)) (.cons (dp_zz (se _ _ (sd _ _ kc)) (se _ _ (sd _ _ (sc _ _ (sb _ _ ka)))) (se _ _ (sd _ _ (sc _ _ kb)))) .nil)
        intro x2 dx2 nx2 ndx2 ne2
        refine li_make nx2 ndx2 ne2 (hR0.mono (SJ s5)) own (by decide) (goodlib_own okz fit (.inl (SqL.of ke)) fts) fun Kf sf iN2 => ?_
        have s6 := s5.trans sf
        have OS6 := OS.step s6
        obtain ⟨ys6, hO6, ly6, OS7⟩ := OS6.add nOJ (by decide) (oth_fns (z := 4) (iN2 [O] fun b hb => by rw [List.mem_singleton.mp hb]; exact ⟨_, s5 _ _ hO⟩) (hR0.mono (same_hid_new nOJ (SJ s6))) fit okz (by decide) fun z => by
          have := congrArg List.length z
          simp at this)
        exact ⟨O, ys6, _, rfl, rfl, hO6, ly6, hnx _ _ ⟨rfl, OS7⟩⟩
      · rw [decide_eq_false c]
        refine iteF ?_
        exact hnx _ _ ⟨rfl, OS.up (by decide)⟩
    case rest =>
      rintro σ' H25 ⟨rfl, OS⟩
      have SJ : ∀ {Hx : Hp}, Same H25 Hx → Same J0 Hx := fun s => by
        obtain ⟨os, h1, _⟩ := OS.ex
        exact (h1.trans (hid_low _ _)).trans s
      refine seq_via (a := tIfS _ _ _) (fun σ' H' => σ' = [some (.ref a), some (.int ((0 : Int) + (i0 : Nat))), some (.ref p), some (.ref g), some (.ref F), some (.ref W), some (.ref G), some (.ref D), o8, some (.str (PyData.list (AD.pys es)).shown), some (.ref x), some (.ref O), o12, none, o14] ∧ OthS K C CL N J0 gd fs p O 1201 3 H') ?rest2 ?h2
      case h2 =>
        intro nx' hnx
        refine ⟨_, rfl, by show 0 ≤ sizeLine; decide, fun e0 ne0 => ?_⟩
        obtain ⟨Ka, sa, ka, ea⟩ := lay (o := .lst []) ne0
        rw [ea]
        refine ⟨_, .list [], .lst (SqL.of (SJ sa _ _ hF0)) (dp_fns (Paired.mapP hft0 fun _ _ z => z.mono (SJ sa))), .lst (SqL.of ka) .nil, sh, rfl, !PyData.eqv (.list (fs.map fnData)) (.list []), rfl, ?_⟩
        have OSa := OS.step sa
        rcases List.eq_nil_or_concat fs with hfs | ⟨fs0, fl, hfs⟩
        · rw [show (!PyData.eqv (.list (fs.map fnData)) (.list [])) = false by rw [hfs]; rfl]
          refine iteF ?_
          exact hnx _ _ ⟨rfl, OSa.up (by decide)⟩
        · rw [List.concat_eq_append] at hfs
          rw [show (!PyData.eqv (.list (fs.map fnData)) (.list [])) = true by rw [hfs, List.map_append]; cases fs0 <;> rfl]
          refine iteT ?_
          obtain ⟨ts0, tl, hts, ht0, htl⟩ : ∃ ts0 tl, ts = ts0 ++ [tl] ∧ Paired (FunT K J0) fs0 ts0 ∧ FunT K J0 fl tl := by
            have h := hft0
            rw [hfs] at h
            exact paired_snoc h
          have lf0 : fs0.length + 1 = fs.length := by rw [hfs]; simp
          have ok0 : FnsOk gd 4 fs0 := by
            have := ok.take fs0.length
            rwa [hfs, List.take_append_of_le_length (Nat.le_refl _), List.take_length] at this
          obtain ⟨ys, hO, ly, _⟩ := OSa.ex.elim fun os h => (⟨os.map V.ref, h.2.2.1, by rw [List.length_map, sizeLine_eq]; have := h.2.2.2.2; omega, trivial⟩ : ∃ ys, Ka O = some (.lst ys) ∧ ys.length < sizeLine ∧ True)
          refine ⟨_, rfl, .inl ⟨rfl, _, SqL.of hO⟩, _, rfl, _, rfl, 1, rfl, _, rfl, F, _, rfl, SqL.of (SJ sa _ _ hF0), fun c1 nc1 => ?_⟩
          obtain ⟨Kb, sb, kb, eb⟩ := lay (o := .lst (ts0.map V.ref)) nc1
          have ecut : cutV (ts.map V.ref) none (some (-1)) = ts0.map V.ref := by rw [hts, List.map_append]; exact cut_neg1 _ _
          rw [ecut, eb]
          have sab := sa.trans sb
          intro x2 dx2 nx2 ndx2 ne2
          refine li_make nx2 ndx2 ne2 (hR0.mono (SJ sab)) own (by decide) (goodlib_own ok0 fit (.inl (SqL.of kb)) (Paired.mapP ht0 fun _ _ z => z.mono (SJ sab))) fun Kc sc iN2 => ?_
          have sac := sab.trans sc
          obtain ⟨ys6, hO6, ly6, OS7⟩ := (OS.step sac).add nOJ (by decide) (oth_fns (z := 4) (iN2 [O] fun b hb => by rw [List.mem_singleton.mp hb]; exact ⟨_, sb _ _ hO⟩) (hR0.mono (same_hid_new nOJ (SJ sac))) fit ok0 (by decide) fun z => by
            have := congrArg List.length z
            rw [List.length_map, List.length_map] at this
            omega)
          refine ⟨O, ys6, _, rfl, rfl, hO6, ly6, ?_⟩
          generalize upd Kc O (.lst (ys6 ++ [.ref x2])) = Kd at OS7
          clear hO6 iN2 sac sc sab sb kb eb hO SJ OSa OS ka sa ea ne0
          have SJ : ∀ {Hx : Hp}, Same Kd Hx → Same J0 Hx := fun s => by
            obtain ⟨os, h1, _⟩ := OS7.ex
            exact (h1.trans (hid_low _ _)).trans s
          obtain ⟨ys, hO, ly, _⟩ := OS7.ex.elim fun os h => (⟨os.map V.ref, h.2.2.1, by rw [List.length_map, sizeLine_eq]; have := h.2.2.2.2; omega, trivial⟩ : ∃ ys, Kd O = some (.lst ys) ∧ ys.length < sizeLine ∧ True)
          obtain ⟨tu, tb, htl1, htl2, htl3⟩ := htl
          refine ⟨_, rfl, .inl ⟨rfl, _, SqL.of hO⟩, _, rfl, _, rfl, 1, rfl, _, rfl, F, _, rfl, SqL.of (SJ (Same.refl _) _ _ hF0), fun c1 nc1 => ?_⟩
          obtain ⟨Ka, sa, ka, ea⟩ := lay (o := .lst (ts0.map V.ref)) nc1
          rw [ecut, ea]
          refine ⟨_, rfl, 1, rfl, F, _, -1, .ref tl, rfl, rfl, SqL.of (SJ sa _ _ hF0), by rw [hts, List.map_append]; exact atI_last _ _, tl, _, 0, .str fl.1, rfl, rfl, SqT.of (SJ sa _ _ htl1), atI_nat (j := 0) rfl, by show 0 ≤ sizeLine; decide, fun t0 nt0 => ?_⟩
          obtain ⟨Kb, sb, kb, eb⟩ := lay (o := .tup []) nt0
          rw [eb]
          refine ⟨by show 2 ≤ sizeLine; decide, fun t1 nt1 => ?_⟩
          obtain ⟨Kc, sc, kc, ec⟩ := lay (o := .tup [.str "value", .str "zz"]) nt1
          rw [ec]
          refine ⟨by show 3 ≤ sizeLine; decide, fun t2 nt2 => ?_⟩
          obtain ⟨Ke, se, ke, ee⟩ := lay (o := .tup [.str fl.1, .ref t0, .ref t1]) nt2
          rw [ee]
          refine ⟨by show 1 ≤ sizeLine; decide, fun l1 nl1 => ?_⟩
          obtain ⟨Kf, sf, kf, ef⟩ := lay (o := .lst [.ref t2]) nl1
          rw [ef]
          have sbf := ((sb.trans sc).trans se).trans sf
          refine ⟨c1, l1, _, _, rfl, rfl, sbf _ _ ka, kf, by rw [List.length_map, ← Paired.length ht0, sizeLine_eq]; show _ + 1 ≤ _; omega, fun c2 nc2 => ?_⟩
          obtain ⟨Kg, sg, kg, eg⟩ := lay (o := .lst ((ts0 ++ [t2]).map V.ref)) nc2
          rw [show upd Kf c2 (.lst (ts0.map V.ref ++ [V.ref t2])) = Kg by rw [← eg, List.map_append]; rfl]
          have s5 := (sa.trans sbf).trans sg
          have flm : fl ∈ fs := by rw [hfs]; simp
          have okz : FnsOk gd 4 (fs0 ++ [zzF fl.1 "zz"]) := zz_snoc ok0 (ok.nb fl flm) (by decide +kernel) (fun m => by
            have nd := ok.nd
            rw [hfs, List.map_append, ← List.append_assoc] at nd
            exact (List.nodup_append.mp nd).2.2 _ m fl.1 (by simp) rfl) (by have := g3.le; omega)
          have fts : Paired (FunT K Kg) (fs0 ++ [zzF fl.1 "zz"]) (ts0 ++ [t2]) := paired_app (Paired.mapP ht0 fun _ _ z => z.mono (SJ s5)) (.cons (dp_zz (sg _ _ (sf _ _ ke)) (sg _ _ (sf _ _ (se _ _ (sc _ _ kb)))) (sg _ _ (sf _ _ (se _ _ kc)))) .nil)
          intro x3 dx3 nx3 ndx3 ne3
          refine li_make nx3 ndx3 ne3 (hR0.mono (SJ s5)) own (by decide) (goodlib_own okz fit (.inl (SqL.of kg)) fts) fun Kh sh2 iN3 => ?_
          have s6 := s5.trans sh2
          obtain ⟨ys8, hO8, ly8, OS8⟩ := (OS7.step s6).add nOJ (by decide) (oth_fns (z := 4) (iN3 [O] fun b hb => by rw [List.mem_singleton.mp hb]; exact ⟨_, s5 _ _ hO⟩) (hR0.mono (same_hid_new nOJ (SJ s6))) fit okz (by decide) fun z => by
            rw [hfs, List.map_append, List.map_append] at z
            have z2 := List.append_cancel_left z
            have z3 : fnData fl = fnData (zzF fl.1 "zz") := (List.cons.inj z2).1
            unfold fnData at z3
            have z4 := (List.cons.inj (List.cons.inj (List.cons.inj (PyData.tuple.inj z3)).2).2).1
            obtain ⟨i, hi⟩ := List.mem_iff_getElem?.mp flm
            exact lib.nz fl flm (zz_d (ok.ok i fl hi).1 z4))
          exact ⟨O, ys8, _, rfl, rfl, hO8, ly8, hnx _ _ ⟨rfl, OS8⟩⟩
      case rest2 =>
        clear SJ OS
        rintro σ' H27 ⟨rfl, OS⟩
        have SJ : ∀ {Hx : Hp}, Same H27 Hx → Same J0 Hx := fun s => by
          obtain ⟨os, h1, _⟩ := OS.ex
          exact (h1.trans (hid_low _ _)).trans s
        obtain ⟨aL, aF, aC, aT, g1, g2, k3, k4, k5⟩ := hG0.ex
        have v1 : valV (gdk aL aF aC aT) (.inr "letters" : Key) = some (.ref aL) := valV_pos rfl
        have v2 : valV (gdk aL aF aC aT) (.inr "fixed" : Key) = some (.ref aF) := by rfl
        have v3 : valV (gdk aL aF aC aT) (.inr "commuting" : Key) = some (.ref aC) := by rfl
        have v4 : valV (gdk aL aF aC aT) (.inr "facts" : Key) = some (.ref aT) := by rfl
        have J1 := SJ (Same.refl _)
        refine ⟨_, rfl, g, .ref aL, rfl, by rw [← v1]; exact DGet.k (k := .inr "letters") (J1 _ _ g1), aL, _, rfl, .inl (J1 _ _ g2), fun Mo nMo => ?_⟩
        have lg := g3.le
        refine ⟨_, rfl, Mo, _, rfl, DPut.k (k := .inr "zz") upd_same (by unfold lkv; rw [List.length_map, sizeLine_eq]; omega), ?_⟩
        rw [show putK (lkv gd.letters) (.inr ("zz" : Str) : Key) (V.int 0) = lkv (gd.letters ++ [(("zz", 0) : Str × Nat)]) from putK_snoc (k := 0) zzn, upd_upd]
        obtain ⟨Ka, sa, ka, ea⟩ := lay (o := .dK (lkv (gd.letters ++ [(("zz", 0) : Str × Nat)]))) nMo
        rw [ea]
        obtain ⟨ys, hO, ly, _⟩ := OS.ex.elim fun os h => (⟨os.map V.ref, h.2.2.1, by rw [List.length_map, sizeLine_eq]; have := h.2.2.2.2; omega, trivial⟩ : ∃ ys, H27 O = some (.lst ys) ∧ ys.length < sizeLine ∧ True)
        have okz1 : FnsOk gd 4 [zzF "zz" "x"] := zz_snoc (fs := []) ⟨fun f h => (nomatch h), by rw [List.map_nil, List.append_nil]; exact fit.nd, by show _ + 0 ≤ 12; omega, fun f h => (nomatch h), fun i f h => by simp at h⟩ (by decide +kernel) (by decide +kernel) (by rw [List.map_nil, List.append_nil]; exact zzn) (by show _ + 0 + 1 ≤ 12; omega)
        have fitz := okz1.fit fit
        obtain ⟨gz, hgz⟩ : ∃ gz, gz = gd.wide (pre [zzF "zz" "x"]) := ⟨_, rfl⟩
        rw [← hgz] at fitz
        have lgz : gz.letters = gd.letters ++ [(("zz", 0) : Str × Nat)] := by rw [hgz]; rfl
        have fgz : gz.fixed = gd.fixed := by rw [hgz]; rfl
        have cgz : gz.comm = gd.comm := by rw [hgz]; rfl
        have agz : gz.facts = gd.facts := by rw [hgz]; rfl
        have nlz : gz.letters.map (·.1) = gd.letters.map (·.1) ++ (["zz"] : List Str) := by rw [lgz, List.map_append]; rfl
        have subz : (gd.letters.map (·.1)).Sublist (gz.letters.map (·.1)) := by rw [nlz]; exact List.sublist_append_left _ _
        have ownz : gz.Own := ⟨fitz, by rw [fgz]; exact filter_sub (wf.fx.trans subz) fitz.nd, by rw [cgz]; exact filter_sub ((wf.cm.trans wf.fx).trans subz) fitz.nd⟩
        have okz : FnsOk gz 4 fs := ok.more (x := (("zz", 0) : Str × Nat)) lgz (fun m => by
          rcases List.mem_append.mp m with m | m
          · exact zzn m
          · obtain ⟨f', hf', e⟩ := List.mem_map.mp m
            exact absurd (lib.nm f' hf') (by rw [e]; decide +kernel)) (by omega)
        have J2 := SJ sa
        refine ⟨_, rfl, .inl ⟨rfl, _, SqL.of (sa _ _ hO)⟩, _, rfl, _, rfl, g, .ref aF, rfl, (by rw [← v2]; exact DGet.k (k := .inr "fixed") (J2 _ _ g1)), _, rfl, g, .ref aC, rfl, (by rw [← v3]; exact DGet.k (k := .inr "commuting") (J2 _ _ g1)), _, rfl, g, .ref aT, rfl, (by rw [← v4]; exact DGet.k (k := .inr "facts") (J2 _ _ g1)), fun xG dxG2 nxG ndxG neG => ?_⟩
        obtain ⟨tsF, k51, k52⟩ := k5
        refine gr_make2 (g := gz) nxG ndxG neG (by rw [lgz]; exact ka) (.inl (SqL.of (by rw [fgz]; exact J2 _ _ k3))) (.inl (SqL.of (by rw [cgz]; exact J2 _ _ k4))) ⟨tsF, .inl (SqL.of (J2 _ _ k51)), by rw [agz]; exact Paired.mapP k52 fun _ _ r => (r.mono J2).any⟩ fitz fun Kb sb iG => ?_
        have hGz := (iG [] fun b h => nomatch h).mono (hid_low _ _)
        have hGzO := iG [O] fun b hb => by
          rw [List.mem_singleton.mp hb]
          exact ⟨(fun z => by rw [sa _ _ hO] at z; cases z), fun ts z => by rw [sa _ _ hO] at z; cases z⟩
        have sab := sa.trans sb
        refine ⟨_, rfl, fun x2 dx2 nx2 ndx2 ne2 => ?_⟩
        refine li_make nx2 ndx2 ne2 hGz ownz (by decide) (goodlib_own okz fitz (.inl (SqL.of (SJ sab _ _ hF0))) (Paired.mapP hft0 fun _ _ z => z.mono (SJ sab))) fun Kc sc iN2 => ?_
        have sac := sab.trans sc
        obtain ⟨ys6, hO6, ly6, OS7⟩ := (OS.step sac).add nOJ (by decide) (oth_more (z := 4) (iN2 [O] fun b hb => by rw [List.mem_singleton.mp hb]; exact ⟨_, sab _ _ hO⟩) (hGzO.mono (hid_same sc)) fitz okz (by decide) fun z => by
          rw [nlz] at z
          have := congrArg List.length z
          simp at this)
        refine ⟨O, ys6, _, rfl, rfl, hO6, ly6, ?_⟩
        generalize upd Kc O (.lst (ys6 ++ [.ref x2])) = H28 at OS7
        have OS := OS7
        clear OS7 hO6 sac iN2 sc ne2 ndx2 nx2 hGz hGzO sab iG sb neG ndxG nxG J2 hO ea ka sa nMo J1 SJ
        obtain ⟨os, OS1, OS2, OS3, OS4, OS5⟩ := OS.ex
        have J28 : Same J0 H28 := OS1.trans (hid_low _ _)
        refine ⟨_, rfl, _, rfl, _, rfl, by show 4 ≤ sizeLine; decide, fun l1 nl1 => ?_⟩
        obtain ⟨Ka, sa, ka, ea⟩ := lay (o := .lst [.ref F, .ref G, .non, .int 5]) nl1
        rw [ea]
        refine ⟨O, l1, _, _, rfl, rfl, sa _ _ OS3, ka, by rw [List.length_map, sizeLine_eq]; show _ + 4 ≤ _; omega, fun c1 nc1 => ?_⟩
        obtain ⟨Kb, sb, kb, eb⟩ := lay (o := .lst (os.map V.ref ++ [.ref F, .ref G, .non, .int 5])) nc1
        rw [eb]
        have sab := sa.trans sb
        refine ⟨c1, os.map V.ref ++ [.ref F, .ref G, .non, .int 5], true, [], rfl, SqL.of (hid_to (by simp) kb), fun J WJ D2 nD2 => ?_⟩
        refine lc_it WJ (fun i H' => Same Kb H' ∧ H' D2 = some (.lst ((List.replicate i false).map V.bl))) ⟨same_new nD2, upd_same⟩ (fun i H' _ z => SqL.of (hid_to (by simp) (z.1 _ _ kb))) ?_ ?_
        · rintro i y Kc' Kc hi ⟨s1, kD⟩ ⟨rfl, hx⟩
          have hx : (os.map V.ref ++ [V.ref F, .ref G, .non, .int 5])[i]? = some y := hx
          have i14 : i < os.length + 4 := by
            have := (List.getElem?_eq_some_iff.mp hx).1
            rw [List.length_append, List.length_map] at this
            exact this
          have S28 : Same H28 Kc := sab.trans s1
          have Sl : Same J0 Kc := J28.trans S28
          refine ⟨rfl, ?_⟩
          have fin : ∃ acc, Kc D2 = some (.lst acc) ∧ acc.length < sizeLine ∧ (Same Kb (upd Kc D2 (.lst (acc ++ [.bl false]))) ∧ (upd Kc D2 (.lst (acc ++ [.bl false]))) D2 = some (.lst ((List.replicate (i + 1) false).map V.bl))) := by
            refine ⟨_, kD, by rw [List.length_map, List.length_replicate, sizeLine_eq]; omega, fun b o e => by rw [upd_ne (ne_of_none e nD2)]; exact s1 _ _ e, ?_⟩
            rw [upd_same, List.replicate_succ', List.map_append]
            rfl
          have odd : (∃ T, TyX K Kc y T ∧ PySem.W.kitOne K T (.ref CL) = some false ∧ PySem.W.notFirst K CL T = true) ∨ ∃ o, y = .ref o ∧ OthL K C CL Kc gd fs o := by
            by_cases c : i < os.length
            · rw [List.getElem?_append_left (by rw [List.length_map]; exact c), List.getElem?_map] at hx
              obtain ⟨o, h1, rfl⟩ := Option.map_eq_some_iff.mp hx
              exact .inr ⟨o, rfl, ((OS4 o (List.mem_of_getElem? h1)).mono (hid_low _ _)).mono S28⟩
            · rw [List.getElem?_append_right (by rw [List.length_map]; omega), List.length_map] at hx
              have hj : i - os.length < 4 := by omega
              generalize i - os.length = j at hx hj
              match j, hj, hx with
              | 0, _, hx =>
                obtain rfl := Option.some.inj hx
                exact .inl ⟨.type "list", .base (.lst (Sl _ _ hF0)), ks.ty _ (by simp)⟩
              | 1, _, hx =>
                obtain rfl := Option.some.inj hx
                exact .inl ⟨.ref C, gk.ty Kc G dxG asG (Sl _ _ G1), ks.gr⟩
              | 2, _, hx =>
                obtain rfl := Option.some.inj hx
                exact .inl ⟨.type "NoneType", .base .non, ks.ty _ (by simp)⟩
              | 3, _, hx =>
                obtain rfl := Option.some.inj hx
                exact .inl ⟨.type "int", .base (.int 5), ks.ty _ (by simp)⟩
          rcases odd with ⟨T, ty, q1, q2⟩ | ⟨o, rfl, Gx, gx, fx, h1, h2, h3, h4, h5, h6⟩
          · refine ⟨_, rfl, _, rfl, x, dxL, asL, rfl, Sl _ _ L1, ⟨T, ty, q2⟩, x, G, y, gd, fs, rfl, iL11.mono Sl, hR0.mono Sl, fit, sh, .inr ⟨T, ty, q1, false, rfl, false, rfl, ?_⟩⟩
            refine iteF ?_
            exact ⟨_, rfl, _, rfl, x, dxL, asL, rfl, Sl _ _ L1, ⟨T, ty, q2⟩, x, G, y, gd, fs, rfl, iL11.mono Sl, hR0.mono Sl, fit, sh, .inr ⟨T, ty, q1, false, rfl, true, rfl, fin⟩⟩
          · obtain ⟨dxo, aso, _, _, ho1, _⟩ := h1.ex
            refine ⟨_, rfl, _, rfl, x, dxL, asL, rfl, Sl _ _ L1, nbL ho1, x, G, .ref o, gd, fs, rfl, iL11.mono Sl, hR0.mono Sl, fit, sh, .inl ⟨o, Gx, gx, fx, rfl, h1, h2, h3, h4, h5, false, by rw [h6], false, rfl, ?_⟩⟩
            refine iteF ?_
            exact ⟨_, rfl, _, rfl, x, dxL, asL, rfl, Sl _ _ L1, nbL ho1, x, G, .ref o, gd, fs, rfl, iL11.mono Sl, hR0.mono Sl, fit, sh, .inl ⟨o, Gx, gx, fx, rfl, h1, h2, h3, h4, h5, false, by rw [h6], true, rfl, fin⟩⟩
        rintro H29 ⟨s29, kD⟩
        refine ⟨D2, _, rfl, SqL.of kD, _, rfl, ?_⟩
        have hb : ∀ m : Nat, (List.replicate m false).any id = false := fun m => by
          induction m with
          | zero => rfl
          | succ m ih => rw [List.replicate_succ, List.any_cons, ih]; rfl
        show (if ((List.replicate _ false).any id) = true then _ else _)
        rw [hb]
        refine iteF ?_
        have T29 : Same J0 (hid N H29) := OS1.trans (hid_same (sab.trans s29))
        have P29 := OS2.mono (sab.trans s29) (Nat.le_refl _)
        clear kD s29 WJ nD2 sab kb eb sb nc1 ka ea sa nl1 J28 OS1 OS2 OS3 OS4 OS5 OS hb
        -- what is refused
        have pl : ∀ q ∈ [p], q ∈ N := fun q hq => by rw [List.mem_singleton.mp hq]; exact pN
        have J29 : Same J0 H29 := T29.trans (hid_low _ _)
        refine ⟨_, rfl, _, rfl, _, rfl, _, rfl, p, g, F, gd, fs, ts, 1201, rfl, hG0.mono (T29.trans (hid_less pl)), g3, J29 _ _ hF0, Paired.mapP hft0 fun _ _ z => z.mono J29, lib, P29, by decide, fun v H30 B30 hv P30 => ?_⟩
        have T30 : Same J0 (hid N H30) := T29.trans (bt_weak pl B30)
        have J30 : Same J0 H30 := T30.trans (hid_low _ _)
        refine ⟨by show 2 ≤ sizeLine; decide, fun l1 nl1 => ?_⟩
        obtain ⟨Ka, sa, ka, ea⟩ := lay (o := .lst [v, .non]) nl1
        rw [ea]
        refine ⟨F, l1, _, _, rfl, rfl, (J30.trans sa) _ _ hF0, ka, by rw [List.length_map, sizeLine_eq]; show _ + 2 ≤ _; omega, fun c1 nc1 => ?_⟩
        obtain ⟨Kb, sb, kb, eb⟩ := lay (o := .lst (ts.map V.ref ++ [v, .non])) nc1
        rw [eb]
        have sab := sa.trans sb
        have Jb := J30.trans sab
        refine ⟨_, rfl, _, rfl, G, .ref c1, gd, ts.length, rfl, hR0.mono Jb, own, by decide, .inl ⟨c1, fs, ts.map V.ref, v, [.non], rfl, .inl (SqL.of kb), by rw [List.length_map]; exact lts, good_own ok (Paired.mapP hft0 fun _ _ z => z.mono Jb), fun i _ => (ok.take i).fit fit, fun H' s' => BadFn.mono (((hid_low _ _).trans sab).trans s') hv, by rw [List.length_map]⟩, fun H31 s31 => ?_⟩
        have s3 := sab.trans s31
        have J31 := J30.trans s3
        refine ⟨_, rfl, F, ts.map V.ref, rfl, .inl (SqL.of (J31 _ _ hF0)), rfl, _, rfl, ?_⟩
        rw [show (!decide (V.int ((ts.length : Nat) : Int) = V.int (((ts.map V.ref).length : Nat) : Int))) = false by rw [List.length_map, decide_eq_true rfl]; rfl]
        refine iteF ?_
        have P31 := P30.mono s3 (Nat.le_refl _)
        refine ⟨_, rfl, _, rfl, fun d1 nd1 => ?_⟩
        obtain ⟨Kc, sc, kc, ec⟩ := lay (o := .dK []) nd1
        rw [ec]
        refine ⟨by show 5 ≤ sizeLine; decide, fun l2 nl2 => ?_⟩
        have P32 := P31.mono sc (Nat.le_refl _)
        have l2p := P32.ne nl2
        obtain ⟨Kd, sd, kd, ed⟩ := lay (o := .lst [.non, .int 5, .str "ab", .ref d1, .bl true]) nl2
        rw [ed]
        have P33 := P32.mono sd (Nat.le_refl _)
        have d1p := P31.ne nd1
        refine ⟨p, l2, _, _, rfl, SqL.of (hid_to (ni1 l2p) kd), by simp, by show 5 ≤ 100000; decide, by decide, P33, fun v2 H34 hv2 B34 P34 => ?_⟩
        have T34 : Same J0 (hid N H34) := (T30.trans (hid_same ((s3.trans sc).trans sd))).trans (bt_weak pl B34)
        have J34 : Same J0 H34 := T34.trans (hid_low _ _)
        have hd1 : H34 d1 = some (.dK []) := bt_at B34 (ni1 d1p) (sd _ _ kc)
        have bad2 : ∃ e : AD, AdAt K H34 v2 e ∧ e.isSeq = false := by
          simp only [List.mem_cons, List.not_mem_nil, or_false] at hv2
          rcases hv2 with rfl | rfl | rfl | rfl | rfl
          · exact ⟨.non, .non, rfl⟩
          · exact ⟨.int 5, .int 5, rfl⟩
          · exact ⟨.str "ab", .str "ab", rfl⟩
          · exact ⟨.dic, .dic hd1, rfl⟩
          · exact ⟨.bl true, .bl true, rfl⟩
        obtain ⟨e, he, hs⟩ := bad2
        refine ⟨G, v2, gd, 0, rfl, hR0.mono J34, own, by decide, .inr ⟨rfl, _, he.ty, by rw [kit_sq, hs]⟩, fun H35 s35 => ?_⟩
        refine ⟨rfl, _, rfl, ?_⟩
        rw [show (!decide (V.int ((0 : Nat) : Int) = V.int 0)) = false by rw [decide_eq_true (show V.int ((0 : Nat) : Int) = V.int 0 from rfl)]; rfl]
        refine iteF ?_
        exact ⟨_, _, _, _, _, _, _, _, _, _, _, _, _, rfl, (J34.trans s35).seq hS0⟩
end
end K39
set_option Elab.async false
set_option linter.all false
set_option maxRecDepth 100000
set_option maxHeartbeats 8000000
/-! The end of a law whose own body asks repr: at the outer call it is known that no repr is under way. -/
namespace EndG
open PySem PySem.Spec PyProof.Rows L2 LamX
/-- a call of a def in one surrounding -/
theorem fn_at {CT : CXT} {P : Program} {w : World} {K : PySem.W.Frag} {mg : Str → Option Value} {base : Heap} {k : Nat} {f : Addr} {nm ql : Str} {par : Arguments} {body : List Stmt} {sc : Scope} {dV kV doc pm cdv ct oc : Value} {an od : Option Addr} {osl : Array (Option Value)} {N ps : List Str}
    (lk : K.lookup f = some ⟨oc, od, .func (PySem.W.fnOf nm ql par body sc dV kV doc pm an cdv ct), osl⟩) (hcd : PySem.W.codeIn K cdv ql = true) (S : FnScope N ps sc) {A : Around} {outer : List Env} {s : Shared} {H : Hp} {args : Args} {us : List Value} {vs : List V} {Q : VK} {E : XK}
    (hr : Room (k + 1) A) (e0 : Env0 P w K mg base A outer s H) (hb : BindsTo s (PySem.W.fnOf nm ql par body sc dV kV doc pm an cdv ct) args (ps.zip us)) (r : Vals vs us) (hl : vs.length = ps.length)
    (hbody : ∃ t, PSs (cxOf CT P w K mg base N ql sc f cdv A outer s H E) body t ∧ t { nx := fun _ J => Q .non J, rt := Q } (L2.start N vs) H) :
    codeAny (model P w) A (.call (.ref f) args) (CR CT outer P w H s Q E) s := by
  have kIn : K.In s.heap := e0.mod.kin.keeps fun b o e => (e0.bs b o e).1
  have nolim : s.heap.NoLimit := e0.mod.nolimit.keeps fun b o e => (e0.bs b o e).1
  have kinds : ∀ y ∈ ps.zip us, sc.names.lookup y.1 = some .local ∨ (sc.names.lookup y.1 = some .cell ∧ ((cellsFrom (s.heap.objs.size + 1) sc.names []).lookup y.1).isSome = true) := by
    rintro ⟨n, v⟩ hy
    exact (S.par n (List.of_mem_zip hy).1).elim .inl fun q => .inr ⟨q, PySem.W.cellsFrom_some _ _ _ (.inl q)⟩
  refine codeAny_call_function hr.depth (kIn _ _ lk) rfl S.co S.gen rfl (PySem.W.codeRec_of kIn hcd) (hb _ _ _ _ (wpAny_newFunctionEnv_cells S.kind kinds fun env he t x => ?_))
  subst he
  refine ⟨nolim.keeps x.toInCall.keep, codeAny_func ?_⟩
  obtain ⟨tb, ht, hq⟩ := hbody
  have I : Inv (cxOf CT P w K mg base N ql sc f cdv A outer s H E) [] (L2.start N vs) H t := inv_start S hr.hd e0 hl r x
  refine wpAny_mono (ht.run [] t (L2.start N vs) H _ I hq) (fun fl t2 hs => ?_) fun e t2 hs => hs
  cases fl with
  | ret u => obtain ⟨v, τ, J, I2, rv, q⟩ := hs; exact ⟨v, J, I2.os, I2.bare, I2.base, I2.hok, rv, q⟩
  | next => obtain ⟨τ, J, I2, q⟩ := hs; exact ⟨V.non, J, I2.os, I2.bare, I2.base, I2.hok, rfl, q⟩
  | brk => exact hs.elim fun _ z => z.elim fun _ z => z.2.elim
  | cont => exact hs.elim fun _ z => z.elim fun _ z => z.2.elim
section
variable {P : Program} {w : World} {K : PySem.W.Frag} {mg mb : Str → Option Value} {fa a : Addr} {cs : List (Addr × Addr)} {t0 : Shared} {vs : List Value} {ns : List Int}
/-- the outer call, from what is promised of it alone -/
theorem call_top (KX : K.In t0.heap) (hns : t0.heap.Ns mainGlobals mg) (hb : t0.heap.Ns builtinsNs mb) (hbb : ∀ x : Str, x ≠ "__name__" → mb x = bootBuiltins x) (hlim : t0.heap.NoLimit) (hg : t0.gens = #[])
    (hT : ∀ p ∈ cs, t0.heap.get? p.2 = some { cls := .none, data := .fields #[] }) (nT : ∀ p ∈ cs, K.lookup p.2 = none) (hC : ∀ p ∈ cs, PySem.W.CodeHd t0.heap p.1 p.2)
    (hbm : ∃ (bm : Addr) (ob : Obj), mg "__builtins__" = some (.ref bm) ∧ bm ≠ builtinsNs ∧ t0.heap.get? bm = some ob ∧ ob.cls = .type "module" ∧ ob.dict = some builtinsNs ∧ ob.data = .plain)
    (ha : t0.heap.get? a = some { cls := .type "list", data := .seq vs.toArray }) (hi : IntsAre vs ns) (hl : ns.length ≤ sizeLine)
    (F : ∀ (base : Heap) (H : Hp), K.In base → base.Ns mainGlobals mg → (∀ p ∈ cs, TabB base mg p.1 p.2) → Env0 P w K mg base callerA [] t0 H → (∀ p ∈ cs, H p.2 = some (.tbl #[])) → SqL K H a (ns.map V.int) →
      codeAny (model P w) callerA (.call (.ref fa) ⟨[.ref a], []⟩) (CR CX0 [] P w H t0 (fun v _ => v = .bl true) fun _ _ _ => False) t0) :
    codeAny (model P w) callerA (.call (.ref fa) ⟨[.ref a], []⟩) (fun r t => r = .ok (.ret (.bool true)) ∧ OldK t0.heap t.heap ∧ t.os = t0.os ∧ AllBare t.gens) t0 := by
  have rv := vals_ints hi
  have lenV := hi.length
  have tabAt : ∀ b : Addr, b ∈ cs.map (·.2) → t0.heap.get? b = some { cls := .none, data := .fields #[] } := by
    intro b hb
    obtain ⟨p, hp, rfl⟩ := List.mem_map.mp hb
    exact hT p hp
  have aNo : a ∉ cs.map (·.2) := by
    intro z
    have q := ha.symm.trans (tabAt a z)
    have d : Data.seq vs.toArray _ = Data.fields #[] := congrArg Obj.data (Option.some.inj q)
    cases d
  have inT : ∀ p ∈ cs, p.2 ∈ cs.map (·.2) := fun p hp => List.mem_map.mpr ⟨p, hp, rfl⟩
  have core : ∀ H : Hp, (∀ p ∈ cs, H p.2 = some (.tbl #[])) → (∀ b, H b = none ∨ b ∈ cs.map (·.2) ∨ ∃ o xs, H b = some (.frz o (.lst xs))) → SqL K H a (ns.map V.int) → HOk P w H t0.heap → (∀ b, H b ≠ none → b = a ∨ b ∈ cs.map (·.2)) → (H a ≠ none → K.lookup a = none) →
      codeAny (model P w) callerA (.call (.ref fa) ⟨[.ref a], []⟩) (fun r t => r = .ok (.ret (.bool true)) ∧ OldK t0.heap t.heap ∧ t.os = t0.os ∧ AllBare t.gens) t0 := by
    intro H hH hO hS hok hA hK
    have low : ∀ {b : Addr} {o : Obj}, t0.heap.get? b = some o → H b = none → (hidT t0.heap H).get? b = some o := fun e n => hidT_get e n
    have free : ∀ {b : Addr} {o : Obj}, t0.heap.get? b = some o → (∀ us n, o.data ≠ .seq us n) → o.data ≠ .fields #[] → H b = none := by
      intro b o e h1 h2
      by_cases q : H b = none
      · exact q
      · rcases hA b q with z | z
        · rw [z, ha] at e
          cases e
          exact absurd rfl (h1 _ _)
        · rw [tabAt b z] at e
          cases e
          exact absurd rfl h2
    have lowNs : ∀ {b : Addr} {m : Str → Option Value}, t0.heap.Ns b m → (hidT t0.heap H).Ns b m := by
      rintro b m ⟨o, es, ep, e, d, r⟩
      exact ⟨o, es, ep, low e (free e (fun us n z => by rw [d] at z; cases z) fun z => by rw [d] at z; cases z), d, r⟩
    have hKb : K.In (hidT t0.heap H) := by
      intro b o e
      refine low (KX b o e) ?_
      by_cases q : H b = none
      · exact q
      · rcases hA b q with z | z
        · subst z
          rw [hK q] at e
          cases e
        · obtain ⟨p, hp, rfl⟩ := List.mem_map.mp z
          rw [nT p hp] at e
          cases e
    have hM : L2.Mod K mg (hidT t0.heap H) := ⟨hKb, lowNs hns, ⟨mb, lowNs hb, hbb⟩, let ⟨mc, h1, h2⟩ := hlim; ⟨mc, lowNs h1, h2⟩⟩
    have TB : ∀ p ∈ cs, TabB (hidT t0.heap H) mg p.1 p.2 := by
      intro p hp
      refine ⟨?_, ?_, ?_⟩
      · obtain ⟨o, us, file, tf, flags, tg, inF, text, tt, e1, r1, r2, r3, rest⟩ := hC p hp
        refine ⟨o, us, file, tf, flags, tg, inF, text, tt, low e1 (free e1 (fun us n z => by rw [r2] at z; cases z) fun z => ?_), r1, r2, r3, rest⟩
        rw [r2] at z
        cases z
        simp at r3
      · obtain ⟨bm, ob, b1, b2, b3, b4, b5, b6⟩ := hbm
        refine ⟨bm, ob, b1, b2, fun q => ?_, fun q => ?_, low b3 (free b3 (fun us n z => by rw [b6] at z; cases z) fun z => by rw [b6] at z; cases z), b4, b5, b6⟩
        · obtain ⟨o, es, ep, e, hd, _⟩ := hns
          rw [q, e] at b3
          cases b3
          rw [hd] at b6
          cases b6
        · rw [q, hT p hp] at b3
          cases b3
          cases b6
      · intro z
        obtain ⟨o, es, ep, e, hd, _⟩ := hns
        rw [z, hT p hp] at e
        cases e
        cases hd
    have e0 : Env0 P w K mg (hidT t0.heap H) callerA [] t0 H := ⟨rfl, hM, fun b o e => of_hidT e, Nat.le_of_eq (hidT_size _ _), trivial, fun b hb => absurd (show b ∈ ([] : List Addr) from hb) (by simp), hok, .of_eq hg⟩
    refine codeAny_mono (F _ H hKb (lowNs hns) TB e0 hH hS) fun r t h => ?_
    cases r with
    | error e => exact False.elim h
    | ok fl =>
      cases fl with
      | next => exact False.elim h
      | brk => exact False.elim h
      | cont => exact False.elim h
      | ret u =>
        obtain ⟨v, J, os, bare, un, hok2, rr, q⟩ := h
        have q2 : v = .bl true := q
        subst q2
        obtain rfl : u = Value.bool true := rr
        have stays : ∀ b o, b ∉ cs.map (·.2) → t0.heap.get? b = some o → t.heap.get? b = some o := by
          intro b o nb e
          by_cases hn : H b = none
          · exact un.keep b o e hn (by intro z; exact absurd (show b ∈ ([] : List Addr) from z) (by simp)) (by simp)
          · rcases hO b with z | z | ⟨ob, xs, z⟩
            · exact absurd z hn
            · exact absurd z nb
            · obtain ⟨e1, _⟩ := hok b _ z
              obtain ⟨e2, _⟩ := hok2 b _ (un.frzs b ob _ z)
              rw [e] at e1
              cases e1
              exact e2
        have grow : ∀ p ∈ cs, ∃ more : Array Value, t.heap.get? p.2 = some { cls := .none, data := .fields more } := by
          intro p hp
          obtain ⟨more, z⟩ := un.tbls p.2 #[] (hH p hp)
          exact ⟨_, hok2 p.2 _ z⟩
        refine ⟨rfl, ⟨fun b o e => ?_, fun b o e => ?_⟩, os, bare⟩
        · by_cases hbT : b ∈ cs.map (·.2)
          · obtain ⟨p, hp, rfl⟩ := List.mem_map.mp hbT
            obtain ⟨more, hm⟩ := grow p hp
            rw [hT p hp] at e
            cases e
            exact .inr (.inl ⟨((hC p hp).tab (hT p hp)).isCodeTable, rfl, #[], more, rfl, by rw [Array.empty_append]; exact hm⟩)
          · exact .inl (stays b o hbT e)
        · by_cases hbT : b ∈ cs.map (·.2)
          · obtain ⟨p, hp, rfl⟩ := List.mem_map.mp hbT
            obtain ⟨more, hm⟩ := grow p hp
            exact ⟨_, hm⟩
          · exact ⟨o, stays b o hbT e⟩
  cases hk : K.lookup a with
  | some o =>
    have e := (KX a o hk).symm.trans ha
    cases e
    refine core (fun b => if b ∈ cs.map (·.2) then some (.tbl #[]) else none) (fun p hp => if_pos (inT p hp)) (fun b => ?_) (.inr ⟨_, vs.toArray, _, hk, rfl, rfl, rfl, by rw [List.size_toArray, lenV]; exact hl, by simpa using rv⟩) (fun b u z => ?_) (fun b z => ?_) fun z => absurd (show (if a ∈ cs.map (·.2) then some (HO.tbl #[]) else none) = none from if_neg aNo) z
    · by_cases hbT : b ∈ cs.map (·.2)
      · exact .inr (.inl hbT)
      · exact .inl (if_neg hbT)
    · by_cases hbT : b ∈ cs.map (·.2)
      · cases (if_pos hbT).symm.trans z
        exact tabAt b hbT
      · cases (if_neg hbT).symm.trans z
    · by_cases hbT : b ∈ cs.map (·.2)
      · exact .inr hbT
      · exact absurd (if_neg hbT) z
  | none =>
    refine core (fun b => if b = a then some (.frz { cls := .type "list", data := .seq vs.toArray } (.lst (ns.map V.int))) else if b ∈ cs.map (·.2) then some (.tbl #[]) else none)
      (fun p hp => (if_neg (show ¬ p.2 = a from fun z => aNo (by rw [← z]; exact inT p hp))).trans (if_pos (inT p hp))) (fun b => ?_) (.inl (.inr ⟨{ cls := .type "list", data := .seq vs.toArray }, if_pos rfl⟩)) (fun b u z => ?_) (fun b z => ?_) fun _ => hk
    · by_cases h1 : b = a
      · exact .inr (.inr ⟨_, _, if_pos h1⟩)
      · by_cases hbT : b ∈ cs.map (·.2)
        · exact .inr (.inl hbT)
        · exact .inl ((if_neg h1).trans (if_neg hbT))
    · by_cases h1 : b = a
      · cases (if_pos h1).symm.trans z
        rw [h1]
        exact ⟨ha, by rw [List.length_map]; exact hl, vs, _, rv, ha⟩
      · have z1 := (if_neg h1).symm.trans z
        by_cases hbT : b ∈ cs.map (·.2)
        · cases (if_pos hbT).symm.trans z1
          exact tabAt b hbT
        · cases (if_neg hbT).symm.trans z1
    · by_cases h1 : b = a
      · exact .inl h1
      · by_cases hbT : b ∈ cs.map (·.2)
        · exact .inr hbT
        · exact absurd ((if_neg h1).trans (if_neg hbT)) z
end
/-- what is known of the law at the head's heap h: its body's promise, in the outer call's surrounding -/
def LawG (l : PySem.W.OpenLaw) (w : World) (K : PySem.W.Frag) (k n : Nat) (x : Str) (N : List Str) (mg : Str → Option Value) (fa : Addr) (h : Heap) : Prop :=
  ∃ (cs : List (Addr × Addr)) (nm ql : Str) (par : Arguments) (body : List Stmt) (sc : Scope) (dV kV doc pm cdv ct oc : Value) (an od : Option Addr) (osl : Array (Option Value)), K.lookup fa = some ⟨oc, od, .func (PySem.W.fnOf nm ql par body sc dV kV doc pm an cdv ct), osl⟩ ∧ PySem.W.codeIn K cdv ql = true ∧ FnScope N [x] sc ∧
    (∀ p ∈ cs, h.get? p.2 = some { cls := .none, data := .fields #[] }) ∧ (∀ p ∈ cs, K.lookup p.2 = none) ∧ (∀ p ∈ cs, PySem.W.CodeHd h p.1 p.2) ∧ (∀ (s : Shared) (u : Value), BindsTo s (PySem.W.fnOf nm ql par body sc dV kV doc pm an cdv ct) ⟨[u], []⟩ [(x, u)]) ∧
    ∀ (base : Heap) (t : Shared) (H : Hp) (a : Addr) (ns : List Int), K.In base → base.Ns mainGlobals mg → (∀ p ∈ cs, TabB base mg p.1 p.2) → ns.length ≤ n → (∀ p ∈ cs, H p.2 = some (.tbl #[])) → SqL K H a (ns.map V.int) → Room k (callerA.deeper (envOfC ql sc t.heap.objs.size fa cdv)) →
      ∃ tb, PSs (cxOf CX0 l.prog w K mg base N ql sc fa cdv callerA [] t H fun _ _ _ => False) body tb ∧ tb { nx := fun _ J => (V.non : V) = .bl true, rt := fun v _ => v = .bl true } (L2.start N [.ref a]) H
theorem walk_g {l : PySem.W.OpenLaw} {n k : Nat} {q : Program} {loose : List Str} {XP : (Str → Option Value) → Heap → Prop} {YP : World → Heap → Prop} {d : DefRec} {K : Params → PySem.W.Frag} {x : Str} {N : List Str}
    (hn : l.most = some n) (hn2 : n ≤ sizeLine) (hdf : d.params.defaults = []) (hr : Room (k + 1) callerA) (hrec : ((recsOf q).any fun e => e.name == d.name) = true) (hY : ∀ (w : World) (h : Heap), YP w h → (K w.params).In h)
    (F : ∀ (w : World) (mg : Str → Option Value) (fa : Addr) (h : Heap), (K w.params).In h → h.Ns mainGlobals mg → mg d.name = some (.ref fa) → OwnTab (K w.params) fa h → LawG l w (K w.params) k n x N mg fa h) :
    PySem.W.WalkO q loose XP YP l.row.toRowW d [] (fun f vs => PySem.call f vs) := by
  refine Att.attach_callB hn hdf fun w s₀ s₁ mg mb fa o pm cd doc a vs ns G Y ho hd hcd hmg hobj hints hlen hbits hg => ?_
  have KX := hY w _ Y
  have own : OwnTab (K w.params) fa s₁.heap := by
    intro c P o1 fd1 e dd vs1 sl k1 k2 k3 k4 k5
    obtain ⟨dL, hm, hn1⟩ := List.any_eq_true.mp hrec
    obtain ⟨a', o', fd', c', P', h1, h2, h3, h4, h5, ⟨oc, vc, e1, _, e3, e4⟩, hP⟩ := G.T.tab dL hm
    rw [show dL.name = d.name from beq_iff_eq.mp hn1, hmg] at h1
    cases h1
    cases (KX _ _ k1).symm.trans h2
    cases k2.symm.trans h3
    cases k3.symm.trans h4
    cases (KX _ _ k4).symm.trans e1
    cases e3
    cases k5.symm.trans e4
    exact hP
  obtain ⟨cs, nm, ql, par, body, sc, dV, kV, doc2, pm2, cdv, ct, oc, an, od, osl, lk, hcd2, S, hT, nT, hC, hbd, hF⟩ := F w mg fa _ KX G.T.g hmg own
  refine call_top KX G.T.g G.T.b G.T.builtins G.T.nolimit hg hT nT hC G.T.bmain hobj hints (Nat.le_trans hlen hn2) fun base H KB GB TB e0 hH hS => ?_
  exact fn_at (us := [.ref a]) (vs := [.ref a]) lk hcd2 S hr e0 (hbd _ _) (.cons rfl .nil) rfl (hF base s₁ H a ns KB GB TB hlen hH hS (hr.deeper _))
end EndG
set_option Elab.async false
set_option linter.all false
set_option maxRecDepth 100000
set_option maxHeartbeats 8000000
namespace K39
open PySem PySem.Spec L2 GB LamX K39t
def ksL (K : PySem.W.Frag) (C CL : Addr) : Bool := ((["NoneType", "list", "int"] : List String).all fun T => decide (PySem.W.kitOne K (.type T) (.ref CL) = some false) && PySem.W.notFirst K CL (.type T)) && (decide (PySem.W.kitOne K (.ref C) (.ref CL) = some false) && PySem.W.notFirst K CL (.ref C))
def emptyT (K : PySem.W.Frag) (a : Addr) : Bool := match K.lookup a with
  | some o => (match o.cls with
    | .type t => (t == "tuple") && (match o.data with
      | .seq its _ => its.isEmpty
      | _ => false)
    | _ => false)
  | none => false
theorem emptyT_ok {K : PySem.W.Frag} {a : Addr} (h : emptyT K a = true) : ∀ H, SqT K H a [] := by
  unfold emptyT at h
  split at h
  · rename_i o ho
    split at h
    · rename_i t ht
      obtain ⟨h1, h2⟩ := Bool.and_eq_true_iff.mp h
      split at h2
      · rename_i its n hd
        have e := Array.isEmpty_iff.mp h2
        subst e
        exact fun H => .inr ⟨o, #[], n, ho, by rw [ht, beq_iff_eq.mp h1], hd, Nat.zero_le _, .nil⟩
      · cases h2
    · cases h
  · cases h
def dflE (K : PySem.W.Frag) (dV : Value) : Bool := match dV with
  | .ref T => (match K.lookup T with
    | some ⟨_, _, .seq its _, _⟩ => (match its.toList with
      | [.ref a, .ref b, .ref c] => emptyT K a && (emptyT K b && emptyT K c)
      | _ => false)
    | _ => false)
  | _ => false
theorem dflE_ok {K : PySem.W.Frag} {dV : Value} (h : dflE K dV = true) : ∃ a b c, DflV K dV [.ref a, .ref b, .ref c] ∧ (∀ H, SqT K H a []) ∧ (∀ H, SqT K H b []) ∧ ∀ H, SqT K H c [] := by
  unfold dflE at h
  split at h
  · rename_i T
    split at h
    · rename_i oc od its n sl ho
      split at h
      · rename_i a b c hi
        obtain ⟨h1, h2⟩ := Bool.and_eq_true_iff.mp h
        obtain ⟨h3, h4⟩ := Bool.and_eq_true_iff.mp h2
        refine ⟨a, b, c, .inr ⟨List.cons_ne_nil _ _, T, _, its.toList, n, rfl, ho, by simp, ?_⟩, emptyT_ok h1, emptyT_ok h3, emptyT_ok h4⟩
        rw [hi]
        exact .cons rfl (.cons rfl (.cons rfl .nil))
      · cases h
    · cases h
  · cases h
def dfl1 (K : PySem.W.Frag) (dV : Value) : Bool := match dV with
  | .ref T => (match K.lookup T with
    | some ⟨_, _, .seq its _, _⟩ => (match its.toList with
      | [.ref a] => emptyT K a
      | _ => false)
    | _ => false)
  | _ => false
theorem dfl1_ok {K : PySem.W.Frag} {dV : Value} (h : dfl1 K dV = true) : ∃ a, DflV K dV [.ref a] ∧ ∀ H, SqT K H a [] := by
  unfold dfl1 at h
  split at h
  · rename_i T
    split at h
    · rename_i oc od its n sl ho
      split at h
      · rename_i a hi
        refine ⟨a, .inr ⟨List.cons_ne_nil _ _, T, _, its.toList, n, rfl, ho, by simp, ?_⟩, emptyT_ok h⟩
        rw [hi]
        exact .cons rfl .nil
      · cases h
    · cases h
  · cases h
def noDB (K : PySem.W.Frag) (d : Addr) (l : List Str) : Bool := l.all fun x => He.eqO (PySem.W.nsIn K d x) (some none)
theorem sc_bt : FnScope ["self", "path"] ["self", "path"] (defScope (inClass (topS 7) 0)) := ⟨rfl, rfl, rfl, by decide +kernel, rfl, by decide +kernel, by decide +kernel⟩
theorem sc_bf : FnScope ["self", "index"] ["self", "index"] (defScope (inClass (topS 8) 0)) := ⟨rfl, rfl, rfl, by decide +kernel, rfl, by decide +kernel, by decide +kernel⟩
theorem all_mk {l : PySem.W.OpenLaw} {w : World} {K : PySem.W.Frag} {h : Heap} {mg : Str → Option Value} {fa C CL CB CF a_tb f_isL f_isN f_isNm f_an f_ckL f_ckF f_ckC f_ft f_isF f_te f_ebv f_out f_perm f_chk f_par f_isU f_cf f_fon f_wd f_cell f_pool f_take f_mixed f_one f_ground f_made f_term f_lb f_loose f_met f_odd f_let f_fix f_com f_fac f_prt f_len f_has f_it f_eq f_lfn f_lwd f_leq f_gi f_li f_bt f_bf f_law : Addr} (X : K.In h) (G : h.Ns mainGlobals mg) (hfa : mg "law" = some (.ref fa)) (own : OwnTab K fa h)
    (aC : PySem.W.nsIn K mainGlobals "Ground" = some (some (.ref C)))
    (aL : PySem.W.nsIn K mainGlobals "Library" = some (some (.ref CL)))
    (d_isL : PySem.W.nsIn K mainGlobals "is_list" = some (some (.ref f_isL)))
    (F_isL : ∃ fd, Fun K "is_list" "is_list" (topS 11) f_isL fd)
    (d_isN : PySem.W.nsIn K mainGlobals "is_number" = some (some (.ref f_isN)))
    (F_isN : ∃ fd, Fun K "is_number" "is_number" (topS 12) f_isN fd)
    (d_isNm : PySem.W.nsIn K mainGlobals "is_name" = some (some (.ref f_isNm)))
    (F_isNm : ∃ fd, Fun K "is_name" "is_name" (topS 13) f_isNm fd)
    (d_an : PySem.W.nsIn K mainGlobals "are_names" = some (some (.ref f_an)))
    (F_an : ∃ fd, Fun K "are_names" "are_names" (topS 14) f_an fd)
    (d_ckL : PySem.W.nsIn K mainGlobals "_check_letters" = some (some (.ref f_ckL)))
    (F_ckL : ∃ fd, Fun K "_check_letters" "_check_letters" (topS 21) f_ckL fd)
    (d_ckF : PySem.W.nsIn K mainGlobals "_check_fixed" = some (some (.ref f_ckF)))
    (F_ckF : ∃ fd, Fun K "_check_fixed" "_check_fixed" (topS 22) f_ckF fd)
    (d_ckC : PySem.W.nsIn K mainGlobals "_check_commuting" = some (some (.ref f_ckC)))
    (F_ckC : ∃ fd, Fun K "_check_commuting" "_check_commuting" (topS 23) f_ckC fd)
    (d_ft : PySem.W.nsIn K mainGlobals "_facts_as_told" = some (some (.ref f_ft)))
    (F_ft : ∃ fd, Fun K "_facts_as_told" "_facts_as_told" (topS 24) f_ft fd)
    (d_isF : PySem.W.nsIn K mainGlobals "_is_fact" = some (some (.ref f_isF)))
    (F_isF : ∃ fd, Fun K "_is_fact" "_is_fact" (topS 25) f_isF fd)
    (d_te : PySem.W.nsIn K mainGlobals "_is_told_end" = some (some (.ref f_te)))
    (F_te : ∃ fd, Fun K "_is_told_end" "_is_told_end" (topS 26) f_te fd)
    (d_ebv : PySem.W.nsIn K mainGlobals "_ends_by_values" = some (some (.ref f_ebv)))
    (F_ebv : ∃ fd, Fun K "_ends_by_values" "_ends_by_values" (topS 18) f_ebv fd)
    (d_out : PySem.W.nsIn K mainGlobals "as_outcome" = some (some (.ref f_out)))
    (F_out : ∃ fd, Fun K "as_outcome" "as_outcome" (topS 19) f_out fd)
    (d_perm : PySem.W.nsIn K mainGlobals "_all_permissions" = some (some (.ref f_perm)))
    (F_perm : ∃ fd, Fun K "_all_permissions" "_all_permissions" (topS 20) f_perm fd)
    (d_chk : PySem.W.nsIn K mainGlobals "checked_within" = some (some (.ref f_chk)))
    (F_chk : ∃ fd, Fun K "checked_within" "checked_within" (topS 30) f_chk fd)
    (d_par : PySem.W.nsIn K mainGlobals "_checked_parts" = some (some (.ref f_par)))
    (F_par : ∃ fd, Fun K "_checked_parts" "_checked_parts" (topS 31) f_par fd)
    (d_isU : PySem.W.nsIn K mainGlobals "_is_use" = some (some (.ref f_isU)))
    (F_isU : ∃ fd, Fun K "_is_use" "_is_use" (topS 32) f_isU fd)
    (d_cf : PySem.W.nsIn K mainGlobals "_checked_functions" = some (some (.ref f_cf)))
    (F_cf : ∃ fd, Fun K "_checked_functions" "_checked_functions" (topS 36) f_cf fd)
    (d_fon : PySem.W.nsIn K mainGlobals "_function_or_none" = some (some (.ref f_fon)))
    (F_fon : ∃ fd, Fun K "_function_or_none" "_function_or_none" (topS 37) f_fon fd)
    (d_wd : PySem.W.nsIn K mainGlobals "_wide" = some (some (.ref f_wd)))
    (F_wd : ∃ fd, Fun K "_wide" "_wide" (topS 38) f_wd fd)
    (d_cell : PySem.W.nsIn K mainGlobals "_law_cell" = some (some (.ref f_cell)))
    (F_cell : ∃ fd, Fun K "_law_cell" "_law_cell" (topS 40) f_cell fd)
    (d_pool : PySem.W.nsIn K mainGlobals "_law_pool" = some (some (.ref f_pool)))
    (F_pool : ∃ fd, Fun K "_law_pool" "_law_pool" (topS 41) f_pool fd)
    (d_take : PySem.W.nsIn K mainGlobals "_law_take" = some (some (.ref f_take)))
    (F_take : ∃ fd, Fun K "_law_take" "_law_take" (topS 42) f_take fd)
    (d_mixed : PySem.W.nsIn K mainGlobals "_law_mixed" = some (some (.ref f_mixed)))
    (F_mixed : ∃ fd, Fun K "_law_mixed" "_law_mixed" (topS 43) f_mixed fd)
    (d_one : PySem.W.nsIn K mainGlobals "_law_one" = some (some (.ref f_one)))
    (F_one : ∃ fd, Fun K "_law_one" "_law_one" (topS 44) f_one fd)
    (d_ground : PySem.W.nsIn K mainGlobals "_law_ground" = some (some (.ref f_ground)))
    (F_ground : ∃ fd, Fun K "_law_ground" "_law_ground" (topS 45) f_ground fd)
    (d_made : PySem.W.nsIn K mainGlobals "_law_made" = some (some (.ref f_made)))
    (F_made : ∃ fd, Fun K "_law_made" "_law_made" (topS 46) f_made fd)
    (d_term : PySem.W.nsIn K mainGlobals "_law_term" = some (some (.ref f_term)))
    (F_term : ∃ fd, Fun K "_law_term" "_law_term" (topS 47) f_term fd)
    (d_lb : PySem.W.nsIn K mainGlobals "_law_library" = some (some (.ref f_lb)))
    (F_lb : ∃ fd, Fun K "_law_library" "_law_library" (topS 48) f_lb fd)
    (d_loose : PySem.W.nsIn K mainGlobals "_law_loose" = some (some (.ref f_loose)))
    (F_loose : ∃ fd, Fun K "_law_loose" "_law_loose" (topS 49) f_loose fd)
    (d_met : PySem.W.nsIn K mainGlobals "_law_met" = some (some (.ref f_met)))
    (F_met : ∃ fd, Fun K "_law_met" "_law_met" (topS 50) f_met fd)
    (d_odd : PySem.W.nsIn K mainGlobals "_law_odd" = some (some (.ref f_odd)))
    (F_odd : ∃ fd, Fun K "_law_odd" "_law_odd" (topS 51) f_odd fd)
    (i_let : PySem.W.findIn K (.ref C) "letters" = some (some (.ref f_let)))
    (F_let : ∃ fd, Fun K "letters" "Ground.letters" (inClass (topS 17) 1) f_let fd)
    (i_fix : PySem.W.findIn K (.ref C) "fixed" = some (some (.ref f_fix)))
    (F_fix : ∃ fd, Fun K "fixed" "Ground.fixed" (inClass (topS 17) 2) f_fix fd)
    (i_com : PySem.W.findIn K (.ref C) "commuting" = some (some (.ref f_com)))
    (F_com : ∃ fd, Fun K "commuting" "Ground.commuting" (inClass (topS 17) 3) f_com fd)
    (i_fac : PySem.W.findIn K (.ref C) "facts" = some (some (.ref f_fac)))
    (F_fac : ∃ fd, Fun K "facts" "Ground.facts" (inClass (topS 17) 4) f_fac fd)
    (i_prt : PySem.W.findIn K (.ref C) "parts_of" = some (some (.ref f_prt)))
    (F_prt : ∃ fd, Fun K "parts_of" "Ground.parts_of" (inClass (topS 17) 5) f_prt fd)
    (i_len : PySem.W.findIn K (.ref C) "__len__" = some (some (.ref f_len)))
    (F_len : ∃ fd, Fun K "__len__" "Ground.__len__" (inClass (topS 17) 6) f_len fd)
    (t_len : PySem.W.typeIn K (.ref f_len) = some (.type "function"))
    (i_has : PySem.W.findIn K (.ref C) "__contains__" = some (some (.ref f_has)))
    (F_has : ∃ fd, Fun K "__contains__" "Ground.__contains__" (inClass (topS 17) 7) f_has fd)
    (t_has : PySem.W.typeIn K (.ref f_has) = some (.type "function"))
    (i_it : PySem.W.findIn K (.ref C) "__iter__" = some (some (.ref f_it)))
    (F_it : ∃ fd, Fun K "__iter__" "Ground.__iter__" (inClass (topS 17) 8) f_it fd)
    (t_it : PySem.W.typeIn K (.ref f_it) = some (.type "function"))
    (i_eq : PySem.W.findIn K (.ref C) "__eq__" = some (some (.ref f_eq)))
    (F_eq : ∃ fd, Fun K "__eq__" "Ground.__eq__" (inClass (topS 17) 9) f_eq fd)
    (t_eq : PySem.W.typeIn K (.ref f_eq) = some (.type "function"))
    (i_lfn : PySem.W.findIn K (.ref CL) "functions" = some (some (.ref f_lfn)))
    (F_lfn : ∃ fd, Fun K "functions" "Library.functions" (inClass (topS 35) 1) f_lfn fd)
    (i_lwd : PySem.W.findIn K (.ref CL) "wide" = some (some (.ref f_lwd)))
    (F_lwd : ∃ fd, Fun K "wide" "Library.wide" (inClass (topS 35) 2) f_lwd fd)
    (i_leq : PySem.W.findIn K (.ref CL) "__eq__" = some (some (.ref f_leq)))
    (F_leq : ∃ fd, Fun K "__eq__" "Library.__eq__" (inClass (topS 35) 6) f_leq fd)
    (t_leq : PySem.W.typeIn K (.ref f_leq) = some (.type "function"))
    (i_gi : PySem.W.findIn K (.ref C) "__init__" = some (some (.ref f_gi)))
    (F_gi : ∃ (oc : Value) (od : Option Addr) (dV kV doc pm : Value) (an : Option Addr) (cdv ct : Value) (osl : Array (Option Value)), K.lookup f_gi = some ⟨oc, od, .func (PySem.W.fnOf "__init__" "Ground.__init__" (defArgs (inClass (topS 17) 0)) (defBody (inClass (topS 17) 0)) (defScope (inClass (topS 17) 0)) dV kV doc pm an cdv ct), osl⟩ ∧ PySem.W.codeIn K cdv "Ground.__init__" = true ∧ dflE K dV = true ∧ PySem.W.keepIn K (.ref f_gi) = true)
    (i_li : PySem.W.findIn K (.ref CL) "__init__" = some (some (.ref f_li)))
    (F_li : ∃ (oc : Value) (od : Option Addr) (dV kV doc pm : Value) (an : Option Addr) (cdv ct : Value) (osl : Array (Option Value)), K.lookup f_li = some ⟨oc, od, .func (PySem.W.fnOf "__init__" "Library.__init__" (defArgs (inClass (topS 35) 0)) (defBody (inClass (topS 35) 0)) (defScope (inClass (topS 35) 0)) dV kV doc pm an cdv ct), osl⟩ ∧ PySem.W.codeIn K cdv "Library.__init__" = true ∧ dfl1 K dV = true ∧ PySem.W.keepIn K (.ref f_li) = true)
    (d_law : PySem.W.nsIn K mainGlobals "law" = some (some (.ref f_law)))
    (F_law : ∃ (oc : Value) (od : Option Addr) (kV doc pm : Value) (an : Option Addr) (cdv ct : Value) (osl : Array (Option Value)), K.lookup f_law = some ⟨oc, od, .func (PySem.W.fnOf "law" "law" (defArgs (topS 52)) (defBody (topS 52)) (defScope (topS 52)) .none kV doc pm an cdv ct), osl⟩ ∧ PySem.W.codeIn K cdv "law" = true ∧ PySem.W.keepIn K (.ref f_law) = true)
    (x_free : FX.freeB K FX.blts = true)
    (x_rep : FX.freeB K ["repr", "iter"] = true)
    (x_signs : (He.Fa.int "MOST_SIGNS" 8).ok K = true)
    (x_parts : (He.Fa.int "MOST_PARTS" 2).ok K = true)
    (x_mn : (He.Fa.int "MOST_NAMES" 2).ok K = true)
    (x_named1 : (He.Fa.glo "NAMED").ok K = true)
    (x_named2 : He.tupB K "NAMED" (GB.nmd.map He.Dv.str) = true)
    (d_tb : PySem.W.nsIn K mainGlobals "TERMS_BEHIND" = some (some (.ref a_tb)))
    (x_tb1 : He.dicW K a_tb = some (He.keysIn w.params (GB.opsW.map (·.1))))
    (x_tb2 : FX.dctB K a_tb GB.opsW = true)
    (x_tb3 : noDB K a_tb GB.noW = true)
    (aB : PySem.W.nsIn K mainGlobals "BadTerm" = some (some (.ref CB)))
    (i_bt : PySem.W.findIn K (.ref CB) "__init__" = some (some (.ref f_bt)))
    (t_bt : PySem.W.typeIn K (.ref f_bt) = some (.type "function"))
    (F_bt : ∃ fd, Fun K "__init__" "BadTerm.__init__" (inClass (topS 7) 0) f_bt fd)
    (x_bt : FX.xfieldB K CB "path" = true)
    (aF : PySem.W.nsIn K mainGlobals "BadFunction" = some (some (.ref CF)))
    (i_bf : PySem.W.findIn K (.ref CF) "__init__" = some (some (.ref f_bf)))
    (t_bf : PySem.W.typeIn K (.ref f_bf) = some (.type "function"))
    (F_bf : ∃ fd, Fun K "__init__" "BadFunction.__init__" (inClass (topS 8) 0) f_bf fd)
    (x_bf : FX.xfieldB K CF "index" = true)
    (x_cl : FX.clB K C = true)
    (x_no : FX.noB K C ["_facts", "_letters", "_order", "_fixed", "_commuting", "moving", "commutes", "known_ends", "places"] = true)
    (x_mk : FX.mkB K C f_gi = true)
    (x_let : FX.methB K C "letters" f_let = true)
    (x_fix : FX.methB K C "fixed" f_fix = true)
    (x_com : FX.methB K C "commuting" f_com = true)
    (x_fac : FX.methB K C "facts" f_fac = true)
    (x_prt : FX.methB K C "parts_of" f_prt = true)
    (x_clL : FX.clB K CL = true)
    (x_noL : FX.noB K CL ["ground", "_functions"] = true)
    (x_mkL : FX.mkB K CL f_li = true)
    (x_lfn : FX.methB K CL "functions" f_lfn = true)
    (x_lwd : FX.methB K CL "wide" f_lwd = true)
    (i_ne : PySem.W.findIn K (.ref C) "__ne__" = some (some (.builtin "object.__ne__")))
    (i_mro : PySem.W.mroIn K C (.type "object") = some true)
    (i_cls : PySem.W.findIn K (.ref C) "__class__" = some (some (.builtin "object.__class__")))
    (i_neL : PySem.W.findIn K (.ref CL) "__ne__" = some (some (.builtin "object.__ne__")))
    (i_mroL : PySem.W.mroIn K CL (.type "object") = some true)
    (i_clsL : PySem.W.findIn K (.ref CL) "__class__" = some (some (.builtin "object.__class__")))
    (i_get : PySem.W.specialIn K (.builtin "object.__class__") "__get__" = some (some (.builtin "getset_descriptor.__get__")))
    (i_tk : PySem.W.takesIn K (.builtin "object.__class__") = some true)
    (x_ks : ksL K C CL = true)
    : EndG.LawG l w K 40 63 "_law_script" lawN mg fa h := by
  have e := hfa.symm.trans (PySem.W.mg_of X G d_law)
  cases e
  have b : Bl mg := FX.bl_of X G x_free
  have NMD : Nmd K mg := FX.tup_of X G x_named1 x_named2
  have TBH : TBh K w mg := by
    obtain ⟨es, n, kd⟩ := He.dicW_ok x_tb1
    refine ⟨a_tb, es, n, PySem.W.mg_of X G d_tb, kd, fun q hq => ?_, fun x hx => He.eqO_ok (List.all_eq_true.mp x_tb3 x hx)⟩
    obtain ⟨u, e1, e2⟩ := FX.dct_of x_tb2 hq
    exact ⟨⟨es, n, u, kd.at_, kd.lit, e1, e2⟩, u, e1⟩
  obtain ⟨oxB, xfB, noB, teB⟩ := FX.xfield_of x_bt
  obtain ⟨oxF, xfF, noF, teF⟩ := FX.xfield_of x_bf
  have cl : Cls K C := FX.cl_of x_cl
  have no : ∀ f ∈ (["_facts", "_letters", "_order", "_fixed", "_commuting", "moving", "commutes", "known_ends", "places"] : List Str), NoAttr K C f := fun f hf => FX.no_of x_no hf
  have clL : Cls K CL := FX.cl_of x_clL
  have noL : ∀ f ∈ (["ground", "_functions"] : List Str), NoAttr K CL f := fun f hf => FX.no_of x_noL hf
  obtain ⟨ocL, odL, kVL, docL, pmL, anL, cdvL, ctL, oslL, lkL, cL, kL⟩ := F_law
  obtain ⟨ocI, odI, dVI, kVI, docI, pmI, anI, cdvI, ctI, oslI, lkI, cI, dI, kI⟩ := F_gi
  obtain ⟨ocP, odP, dVP, kVP, docP, pmP, anP, cdvP, ctP, oslP, lkP, cP, dP, kP⟩ := F_li
  obtain ⟨da, db, dc, dflI, em1, em2, em3⟩ := dflE_ok dI
  obtain ⟨dp, dflP, emP⟩ := dfl1_ok dP
  have FI : FunD K "__init__" "Ground.__init__" (defArgs sGI) (defBody sGI) (defScope sGI) [.ref da, .ref db, .ref dc] [] f_gi _ := ⟨⟨ocI, odI, dVI, kVI, docI, pmI, anI, cdvI, ctI, oslI, rfl, lkI, cI, dflI, .inl rfl⟩, kI⟩
  obtain ⟨ds, vds, bI⟩ := FI.binds1 (ps := ["self", "letters", "fixed", "commuting", "facts"]) 5 3 (List.cons_ne_nil _ _) rfl (fun T kV doc pm an cdv ct us its hu hi => match us, hu, its, hi with | [_, _, _, _, _], _, [_, _, _], _ => ⟨_, rfl, rfl⟩)
  cases vds
  obtain ⟨ds2, vds2, bI2⟩ := FI.binds1 (ps := ["self", "letters", "fixed", "commuting", "facts"]) 2 0 (List.cons_ne_nil _ _) rfl (fun T kV doc pm an cdv ct us its hu hi => match us, hu, its, hi with | [_, _], _, [_, _, _], _ => ⟨_, rfl, rfl⟩)
  have FP : FunD K "__init__" "Library.__init__" (defArgs sLI) (defBody sLI) (defScope sLI) [.ref dp] [] f_li _ := ⟨⟨ocP, odP, dVP, kVP, docP, pmP, anP, cdvP, ctP, oslP, rfl, lkP, cP, dflP, .inl rfl⟩, kP⟩
  obtain ⟨dsP, vdsP, bP⟩ := FP.binds1 (ps := ["self", "ground", "functions"]) 3 1 (List.cons_ne_nil _ _) rfl (fun T kV doc pm an cdv ct us its hu hi => match us, hu, its, hi with | [_, _, _], _, [_], _ => ⟨_, rfl, rfl⟩)
  cases vdsP
  obtain ⟨dsQ, vdsQ, bP1⟩ := FP.binds1 (ps := ["self", "ground", "functions"]) 2 0 (List.cons_ne_nil _ _) rfl (fun T kV doc pm an cdv ct us its hu hi => match us, hu, its, hi with | [_, _], _, [_], _ => ⟨_, rfl, rfl⟩)
  obtain ⟨g_isL, F_isL⟩ := F_isL
  have b_isL := F_isL.binds (ps := ["thing"]) fun _ _ _ _ _ _ us hl => match us, hl with | [_], _ => rfl
  obtain ⟨g_isN, F_isN⟩ := F_isN
  have b_isN := F_isN.binds (ps := ["thing"]) fun _ _ _ _ _ _ us hl => match us, hl with | [_], _ => rfl
  obtain ⟨g_isNm, F_isNm⟩ := F_isNm
  have b_isNm := F_isNm.binds (ps := ["thing"]) fun _ _ _ _ _ _ us hl => match us, hl with | [_], _ => rfl
  obtain ⟨g_an, F_an⟩ := F_an
  have b_an := F_an.binds (ps := ["thing"]) fun _ _ _ _ _ _ us hl => match us, hl with | [_], _ => rfl
  obtain ⟨g_ckL, F_ckL⟩ := F_ckL
  have b_ckL := F_ckL.binds (ps := ["letters"]) fun _ _ _ _ _ _ us hl => match us, hl with | [_], _ => rfl
  obtain ⟨g_ckF, F_ckF⟩ := F_ckF
  have b_ckF := F_ckF.binds (ps := ["letters", "fixed"]) fun _ _ _ _ _ _ us hl => match us, hl with | [_, _], _ => rfl
  obtain ⟨g_ckC, F_ckC⟩ := F_ckC
  have b_ckC := F_ckC.binds (ps := ["letters", "fixed", "commuting"]) fun _ _ _ _ _ _ us hl => match us, hl with | [_, _, _], _ => rfl
  obtain ⟨g_ft, F_ft⟩ := F_ft
  have b_ft := F_ft.binds (ps := ["letters", "fixed", "commuting", "facts"]) fun _ _ _ _ _ _ us hl => match us, hl with | [_, _, _, _], _ => rfl
  obtain ⟨g_isF, F_isF⟩ := F_isF
  have b_isF := F_isF.binds (ps := ["letters", "fixed", "thing"]) fun _ _ _ _ _ _ us hl => match us, hl with | [_, _, _], _ => rfl
  obtain ⟨g_te, F_te⟩ := F_te
  have b_te := F_te.binds (ps := ["thing"]) fun _ _ _ _ _ _ us hl => match us, hl with | [_], _ => rfl
  obtain ⟨g_ebv, F_ebv⟩ := F_ebv
  have b_ebv := F_ebv.binds (ps := ["facts", "commutes"]) fun _ _ _ _ _ _ us hl => match us, hl with | [_, _], _ => rfl
  obtain ⟨g_out, F_out⟩ := F_out
  have b_out := F_out.binds (ps := ["end"]) fun _ _ _ _ _ _ us hl => match us, hl with | [_], _ => rfl
  obtain ⟨g_perm, F_perm⟩ := F_perm
  have b_perm := F_perm.binds (ps := ["letters", "moving"]) fun _ _ _ _ _ _ us hl => match us, hl with | [_, _], _ => rfl
  obtain ⟨g_chk, F_chk⟩ := F_chk
  have b_chk := F_chk.binds (ps := ["ground", "thing", "names", "path"]) fun _ _ _ _ _ _ us hl => match us, hl with | [_, _, _, _], _ => rfl
  obtain ⟨g_par, F_par⟩ := F_par
  have b_par := F_par.binds (ps := ["ground", "things", "names", "path"]) fun _ _ _ _ _ _ us hl => match us, hl with | [_, _, _, _], _ => rfl
  obtain ⟨g_isU, F_isU⟩ := F_isU
  have b_isU := F_isU.binds (ps := ["ground", "thing"]) fun _ _ _ _ _ _ us hl => match us, hl with | [_, _], _ => rfl
  obtain ⟨g_cf, F_cf⟩ := F_cf
  have b_cf := F_cf.binds (ps := ["ground", "functions"]) fun _ _ _ _ _ _ us hl => match us, hl with | [_, _], _ => rfl
  obtain ⟨g_fon, F_fon⟩ := F_fon
  have b_fon := F_fon.binds (ps := ["wide", "thing"]) fun _ _ _ _ _ _ us hl => match us, hl with | [_, _], _ => rfl
  obtain ⟨g_wd, F_wd⟩ := F_wd
  have b_wd := F_wd.binds (ps := ["ground", "functions"]) fun _ _ _ _ _ _ us hl => match us, hl with | [_, _], _ => rfl
  obtain ⟨g_cell, F_cell⟩ := F_cell
  have b_cell := F_cell.binds (ps := ["_law_script", "_law_k"]) fun _ _ _ _ _ _ us hl => match us, hl with | [_, _], _ => rfl
  obtain ⟨g_pool, F_pool⟩ := F_pool
  have b_pool := F_pool.binds (ps := ["_law_grain"]) fun _ _ _ _ _ _ us hl => match us, hl with | [_], _ => rfl
  obtain ⟨g_take, F_take⟩ := F_take
  have b_take := F_take.binds (ps := ["_law_pool_here", "_law_many"]) fun _ _ _ _ _ _ us hl => match us, hl with | [_, _], _ => rfl
  obtain ⟨g_mixed, F_mixed⟩ := F_mixed
  have b_mixed := F_mixed.binds (ps := ["_law_pool_here", "_law_things"]) fun _ _ _ _ _ _ us hl => match us, hl with | [_, _], _ => rfl
  obtain ⟨g_one, F_one⟩ := F_one
  have b_one := F_one.binds (ps := ["_law_pool_here", "_law_things"]) fun _ _ _ _ _ _ us hl => match us, hl with | [_, _], _ => rfl
  obtain ⟨g_ground, F_ground⟩ := F_ground
  have b_ground := F_ground.binds (ps := ["_law_pool_here", "_law_most"]) fun _ _ _ _ _ _ us hl => match us, hl with | [_, _], _ => rfl
  obtain ⟨g_made, F_made⟩ := F_made
  have b_made := F_made.binds (ps := ["_law_g"]) fun _ _ _ _ _ _ us hl => match us, hl with | [_], _ => rfl
  obtain ⟨g_term, F_term⟩ := F_term
  have b_term := F_term.binds (ps := ["_law_pool_here", "_law_g", "_law_names", "_law_left"]) fun _ _ _ _ _ _ us hl => match us, hl with | [_, _, _, _], _ => rfl
  obtain ⟨g_lb, F_lb⟩ := F_lb
  have b_lb := F_lb.binds (ps := ["_law_pool_here", "_law_g", "_law_many"]) fun _ _ _ _ _ _ us hl => match us, hl with | [_, _, _], _ => rfl
  obtain ⟨g_loose, F_loose⟩ := F_loose
  have b_loose := F_loose.binds (ps := ["_law_pool_here", "_law_thing"]) fun _ _ _ _ _ _ us hl => match us, hl with | [_, _], _ => rfl
  obtain ⟨g_met, F_met⟩ := F_met
  have b_met := F_met.binds (ps := ["_law_ground_here", "_law_things"]) fun _ _ _ _ _ _ us hl => match us, hl with | [_, _], _ => rfl
  obtain ⟨g_odd, F_odd⟩ := F_odd
  have b_odd := F_odd.binds (ps := ["_law_pool_here", "_law_g", "_law_rows"]) fun _ _ _ _ _ _ us hl => match us, hl with | [_, _, _], _ => rfl
  obtain ⟨g_let, F_let⟩ := F_let
  have b_let := F_let.binds (ps := ["self"]) fun _ _ _ _ _ _ us hl => match us, hl with | [_], _ => rfl
  obtain ⟨g_fix, F_fix⟩ := F_fix
  have b_fix := F_fix.binds (ps := ["self"]) fun _ _ _ _ _ _ us hl => match us, hl with | [_], _ => rfl
  obtain ⟨g_com, F_com⟩ := F_com
  have b_com := F_com.binds (ps := ["self"]) fun _ _ _ _ _ _ us hl => match us, hl with | [_], _ => rfl
  obtain ⟨g_fac, F_fac⟩ := F_fac
  have b_fac := F_fac.binds (ps := ["self"]) fun _ _ _ _ _ _ us hl => match us, hl with | [_], _ => rfl
  obtain ⟨g_prt, F_prt⟩ := F_prt
  have b_prt := F_prt.binds (ps := ["self", "letter"]) fun _ _ _ _ _ _ us hl => match us, hl with | [_, _], _ => rfl
  obtain ⟨g_len, F_len⟩ := F_len
  have b_len := F_len.binds (ps := ["self"]) fun _ _ _ _ _ _ us hl => match us, hl with | [_], _ => rfl
  obtain ⟨g_has, F_has⟩ := F_has
  have b_has := F_has.binds (ps := ["self", "letter"]) fun _ _ _ _ _ _ us hl => match us, hl with | [_, _], _ => rfl
  obtain ⟨g_it, F_it⟩ := F_it
  have b_it := F_it.binds (ps := ["self"]) fun _ _ _ _ _ _ us hl => match us, hl with | [_], _ => rfl
  obtain ⟨g_eq, F_eq⟩ := F_eq
  have b_eq := F_eq.binds (ps := ["self", "other"]) fun _ _ _ _ _ _ us hl => match us, hl with | [_, _], _ => rfl
  obtain ⟨g_lfn, F_lfn⟩ := F_lfn
  have b_lfn := F_lfn.binds (ps := ["self"]) fun _ _ _ _ _ _ us hl => match us, hl with | [_], _ => rfl
  obtain ⟨g_lwd, F_lwd⟩ := F_lwd
  have b_lwd := F_lwd.binds (ps := ["self"]) fun _ _ _ _ _ _ us hl => match us, hl with | [_], _ => rfl
  obtain ⟨g_leq, F_leq⟩ := F_leq
  have b_leq := F_leq.binds (ps := ["self", "other"]) fun _ _ _ _ _ _ us hl => match us, hl with | [_, _], _ => rfl
  obtain ⟨g_bt, F_bt⟩ := F_bt
  have b_bt := F_bt.binds (ps := ["self", "path"]) fun _ _ _ _ _ _ us hl => match us, hl with | [_, _], _ => rfl
  obtain ⟨g_bf, F_bf⟩ := F_bf
  have b_bf := F_bf.binds (ps := ["self", "index"]) fun _ _ _ _ _ _ us hl => match us, hl with | [_, _], _ => rfl
  have GK : GrK K C := ⟨cl, no _ (by simp), no _ (by simp), no _ (by simp), no _ (by simp), no _ (by simp), fun H a dx fs e => .base (.ins e cl i_cls i_get i_tk i_mro)⟩
  have tyL : ∀ (H : Hp) (a dx : Addr) (fs : List (Str × V)), H a = some (.ins CL dx fs) → TyX K H (.ref a) (.ref CL) := fun H a dx fs e => .base (.ins e clL i_clsL i_get i_tk i_mroL)
  have isf : ∀ {f : Addr}, PySem.W.typeIn K (.ref f) = some (.type "function") → PySem.W.isFn K (.ref f) = true := fun {f} t => by
    unfold PySem.W.isFn
    rw [t]
    exact beq_self_eq_true _
  have kO : ∀ A : Addr, PySem.W.kitOne K (.ref A) (.ref A) = some true := fun A => by
    unfold PySem.W.kitOne
    rw [if_pos (beq_self_eq_true _)]
  have ks : KsL K C CL := by
    obtain ⟨h1, h2⟩ := Bool.and_eq_true_iff.mp x_ks
    obtain ⟨h3, h4⟩ := Bool.and_eq_true_iff.mp h2
    refine ⟨fun T hT => ?_, of_decide_eq_true h3, h4⟩
    obtain ⟨h5, h6⟩ := Bool.and_eq_true_iff.mp (List.all_eq_true.mp h1 T hT)
    exact ⟨of_decide_eq_true h5, h6⟩
  refine ⟨[], "law", "law", defArgs sLaw, defBody sLaw, defScope sLaw, .none, kVL, docL, pmL, cdvL, ctL, ocL, anL, odL, oslL, lkL, cL, scLaw, fun p hp => (nomatch hp), fun p hp => (nomatch hp), fun p hp => (nomatch hp), fun s u => .of_eq rfl, fun base t H a ns KB GB0 HT hn hPT hS hr => ?_⟩
  have N_isL : Fns l.prog w K mg base "is_list" 1 ["thing"] (spIsL K) := ⟨f_isL, g_isL, ok_isL F_isL b, PySem.W.mg_of X G d_isL, F_isL.kp, b_isL⟩
  have N_isN : Fns l.prog w K mg base "is_number" 1 ["thing"] (spIsN K) := ⟨f_isN, g_isN, ok_isN F_isN b, PySem.W.mg_of X G d_isN, F_isN.kp, b_isN⟩
  have N_isNm : Fns l.prog w K mg base "is_name" 1 ["thing"] (spIsNm K) := ⟨f_isNm, g_isNm, ok_isNm F_isNm b (FX.int_of X G x_signs), PySem.W.mg_of X G d_isNm, F_isNm.kp, b_isNm⟩
  have N_an : Fns l.prog w K mg base "are_names" 2 ["thing"] (spAN K) := ⟨f_an, g_an, ok_an F_an b N_isL N_isNm, PySem.W.mg_of X G d_an, F_an.kp, b_an⟩
  have N_ckL : Fns l.prog w K mg base "_check_letters" 2 ["letters"] spCkL := ⟨f_ckL, g_ckL, ok_ckL F_ckL b (FX.int_of X G x_parts) N_isNm N_isN, PySem.W.mg_of X G d_ckL, F_ckL.kp, b_ckL⟩
  have N_ckF : Fns l.prog w K mg base "_check_fixed" 2 ["letters", "fixed"] (spCkF2 K) := ⟨f_ckF, g_ckF, ok_ckF2 F_ckF b N_isL, PySem.W.mg_of X G d_ckF, F_ckF.kp, b_ckF⟩
  have N_ckC : Fns l.prog w K mg base "_check_commuting" 2 ["letters", "fixed", "commuting"] (spCkC2 K) := ⟨f_ckC, g_ckC, ok_ckC2 F_ckC b N_isL, PySem.W.mg_of X G d_ckC, F_ckC.kp, b_ckC⟩
  have N_te : Fns l.prog w K mg base "_is_told_end" 2 ["thing"] (spTE2 K) := ⟨f_te, g_te, ok_te2 F_te b N_isL N_isNm, PySem.W.mg_of X G d_te, F_te.kp, b_te⟩
  have N_isF : Fns l.prog w K mg base "_is_fact" 3 ["letters", "fixed", "thing"] (spIsF2 K) := ⟨f_isF, g_isF, ok_isF2 F_isF b N_isL N_isNm N_te, PySem.W.mg_of X G d_isF, F_isF.kp, b_isF⟩
  have N_ft : Fns l.prog w K mg base "_facts_as_told" 4 ["letters", "fixed", "commuting", "facts"] (spFT2 K) := ⟨f_ft, g_ft, ok_ft2 F_ft b N_isL N_isF, PySem.W.mg_of X G d_ft, F_ft.kp, b_ft⟩
  have N_out : Fns l.prog w K mg base "as_outcome" 1 ["end"] spOut := ⟨f_out, g_out, ok_out F_out, PySem.W.mg_of X G d_out, F_out.kp, b_out⟩
  have N_ebv : Fns l.prog w K mg base "_ends_by_values" 2 ["facts", "commutes"] (spEbv l.prog w) := ⟨f_ebv, g_ebv, ok_ebv F_ebv b N_out, PySem.W.mg_of X G d_ebv, F_ebv.kp, b_ebv⟩
  have N_perm : Fns l.prog w K mg base "_all_permissions" 1 ["letters", "moving"] spPerm := ⟨f_perm, g_perm, ok_perm F_perm b, PySem.W.mg_of X G d_perm, F_perm.kp, b_perm⟩
  have FGI := ok_gi2 (P := l.prog) (w := w) (mg := mg) (base := base) FI b cl (no _ (by simp)) (no _ (by simp)) (no _ (by simp)) (no _ (by simp)) (no _ (by simp)) (no _ (by simp)) (no _ (by simp)) (no _ (by simp)) (no _ (by simp)) N_ckL N_ckF N_ckC N_ft N_ebv N_perm
  have N_made : Fns l.prog w K mg base "_law_made" 7 ["_law_g"] (spMade2 C) := ⟨f_made, g_made, ok_made2 (ds := []) F_made (FX.mk_of x_mk) FGI bI (PySem.W.mg_of X G aC), PySem.W.mg_of X G d_made, F_made.kp, b_made⟩
  have N_cell : Fns l.prog w K mg base "_law_cell" 1 ["_law_script", "_law_k"] (GB.spCell K) := ⟨f_cell, g_cell, ok_cell F_cell b, PySem.W.mg_of X G d_cell, F_cell.kp, b_cell⟩
  have N_pool : Fns l.prog w K mg base "_law_pool" 1 ["_law_grain"] spPool := ⟨f_pool, g_pool, ok_pool F_pool b, PySem.W.mg_of X G d_pool, F_pool.kp, b_pool⟩
  have N_take : Fns l.prog w K mg base "_law_take" 1 ["_law_pool_here", "_law_many"] spTake := ⟨f_take, g_take, ok_take F_take b, PySem.W.mg_of X G d_take, F_take.kp, b_take⟩
  have N_mixed : Fns l.prog w K mg base "_law_mixed" 2 ["_law_pool_here", "_law_things"] (spMixed K) := ⟨f_mixed, g_mixed, ok_mixed F_mixed b N_take, PySem.W.mg_of X G d_mixed, F_mixed.kp, b_mixed⟩
  have N_one : Fns l.prog w K mg base "_law_one" 2 ["_law_pool_here", "_law_things"] (spOne K) := ⟨f_one, g_one, ok_one F_one b N_take, PySem.W.mg_of X G d_one, F_one.kp, b_one⟩
  have N_oneT : Fns l.prog w K mg base "_law_one" 2 ["_law_pool_here", "_law_things"] (spOneT K) := ⟨f_one, g_one, ok_oneT F_one b N_take, PySem.W.mg_of X G d_one, F_one.kp, b_one⟩
  have N_ground : Fns l.prog w K mg base "_law_ground" 3 ["_law_pool_here", "_law_most"] spGround := ⟨f_ground, g_ground, ok_ground F_ground b N_take N_mixed N_one, PySem.W.mg_of X G d_ground, F_ground.kp, b_ground⟩
  have M : GrM l.prog w K mg base C := {
    k := GK
    let_ := ⟨f_let, g_let, FX.meth_of x_let, ok_let F_let b GK, b_let⟩
    fix_ := ⟨f_fix, g_fix, FX.meth_of x_fix, ok_fix F_fix b GK, b_fix⟩
    com_ := ⟨f_com, g_com, FX.meth_of x_com, ok_com F_com b GK, b_com⟩
    fac_ := ⟨f_fac, g_fac, FX.meth_of x_fac, ok_fac F_fac b GK, b_fac⟩
    len_ := ⟨f_len, g_len, i_len, isf t_len, ok_len F_len b GK, b_len⟩
    has_ := ⟨f_has, g_has, i_has, isf t_has, _root_.K39.ok_has F_has b GK, b_has⟩
    it_ := ⟨f_it, g_it, i_it, isf t_it, ok_it F_it (FX.free_of X G x_rep (by simp)) GK, b_it⟩
    eq_ := ⟨f_eq, g_eq, i_eq, isf t_eq, ok_eq F_eq b (PySem.W.mg_of X G aC) (kO C) GK, b_eq⟩
    ne_ := i_ne
    mro := i_mro }
  have GC : GrC l.prog w K mg base C := ⟨cl, ⟨f_prt, g_prt, FX.meth_of x_prt, ok_prt F_prt cl (no _ (by simp)), b_prt⟩⟩
  have N_isU : Fns l.prog w K mg base "_is_use" 2 ["ground", "thing"] (spIsU K C) := ⟨f_isU, g_isU, ok_isU F_isU b GC N_isL, PySem.W.mg_of X G d_isU, F_isU.kp, b_isU⟩
  have BT : ErrC l.prog w K mg base "BadTerm" "path" CB := by
    refine FX.err_of (PySem.W.mg_of X G aB) oxB i_bt t_bt (fI := f_bt) (fd := g_bt) ?_ b_bt
    refine F_bt.ok sc_bt (fun vs H Q E h => ?_) (fun cdv A outer s H vs Q E hr h => ?_)
    · obtain ⟨a, y, rfl, _⟩ := h
      rfl
    · obtain ⟨a, y, rfl, ha, q⟩ := h
      exact ⟨_, pss_one (ps_ost (pv 0) (pv 1)), _, rfl, _, rfl, a, CB, rfl, oxB, noB, .inl ⟨ha, q⟩⟩
  have BF : ErrC l.prog w K mg base "BadFunction" "index" CF := by
    refine FX.err_of (PySem.W.mg_of X G aF) oxF i_bf t_bf (fI := f_bf) (fd := g_bf) ?_ b_bf
    refine F_bf.ok sc_bf (fun vs H Q E h => ?_) (fun cdv A outer s H vs Q E hr h => ?_)
    · obtain ⟨a, y, rfl, _⟩ := h
      rfl
    · obtain ⟨a, y, rfl, ha, q⟩ := h
      exact ⟨_, pss_one (ps_ost (pv 0) (pv 1)), _, rfl, _, rfl, a, CF, rfl, oxF, noF, .inl ⟨ha, q⟩⟩
  have FCK := ok_chkX (P := l.prog) (w := w) (base := base) F_chk F_par b (PySem.W.mg_of X G d_chk) F_chk.kp b_chk (PySem.W.mg_of X G d_par) F_par.kp b_par NMD TBH BT N_isL N_isNm N_isU 4
  have CKX : ∃ g gd, FnOk l.prog w K mg base (L2.CX l.prog w) (4 + 2 * 4) g gd ["ground", "thing", "names", "path"] (spChkX K C CB 4) ∧ mg "checked_within" = some (.ref g) ∧ PySem.W.keepIn K (.ref g) = true ∧ Binds K gd ["ground", "thing", "names", "path"] [] :=
    ⟨f_chk, g_chk, FCK, PySem.W.mg_of X G d_chk, F_chk.kp, b_chk⟩
  have N_wd : Fns l.prog w K mg base "_wide" 7 ["ground", "functions"] (spWd K C) := ⟨f_wd, g_wd, ok_wd F_wd b M (FX.mk_of x_mk) FGI bI (PySem.W.mg_of X G aC), PySem.W.mg_of X G d_wd, F_wd.kp, b_wd⟩
  have N_fon : Fns l.prog w K mg base "_function_or_none" (4 + 2 * 4 + 1 + 1) ["wide", "thing"] (spFn K C 4) := ⟨f_fon, g_fon, ok_fn (z := 4) F_fon b N_isL N_isNm N_an ⟨f_has, g_has, i_has, isf t_has, _root_.K39t.ok_has F_has b cl (no _ (by simp)), b_has⟩ CKX (FX.int_of X G x_mn) (PySem.W.mg_of X G aB) teB, PySem.W.mg_of X G d_fon, F_fon.kp, b_fon⟩
  have FCF := ok_cf (z := 4) F_cf b BF N_isL N_wd N_fon
  have FLI := ok_li (P := l.prog) (w := w) (mg := mg) (base := base) (z := 4) FP clL (noL _ (by simp)) (noL _ (by simp)) ⟨f_cf, g_cf, FCF, PySem.W.mg_of X G d_cf, F_cf.kp, b_cf⟩
  have FLI0 := ok_li0 FLI
  have N_term : Fns l.prog w K mg base "_law_term" 6 ["_law_pool_here", "_law_g", "_law_names", "_law_left"] (spTerm K 4) := ⟨f_term, g_term, ok_term F_term b (PySem.W.mg_of X G d_term) F_term.kp b_term N_one N_oneT 4, PySem.W.mg_of X G d_term, F_term.kp, b_term⟩
  have N_lb : Fns l.prog w K mg base "_law_library" 7 ["_law_pool_here", "_law_g", "_law_many"] (spLb K) := ⟨f_lb, g_lb, ok_lb F_lb b N_take N_mixed N_term, PySem.W.mg_of X G d_lb, F_lb.kp, b_lb⟩
  have N_loose : Fns l.prog w K mg base "_law_loose" 23 ["_law_pool_here", "_law_thing"] (spLoose K 21) := ⟨f_loose, g_loose, ok_loose F_loose b (PySem.W.mg_of X G d_loose) F_loose.kp b_loose N_take 21, PySem.W.mg_of X G d_loose, F_loose.kp, b_loose⟩
  have N_odd : Fns l.prog w K mg base "_law_odd" 3 ["_law_pool_here", "_law_g", "_law_rows"] (spOd K) := ⟨f_odd, g_odd, ok_od F_odd b N_one, PySem.W.mg_of X G d_odd, F_odd.kp, b_odd⟩
  have N_met : Fns l.prog w K mg base "_law_met" 20 ["_law_ground_here", "_law_things"] (spMt K C 4) := ⟨f_met, g_met, ok_mt (z := 4) F_met (FX.mk_of x_mkL) FLI bP (PySem.W.mg_of X G aL) (PySem.W.mg_of X G aF) xfF noF teF, PySem.W.mg_of X G d_met, F_met.kp, b_met⟩
  exact ok_law {
    T := b
    RP := FX.free_of X G x_rep (by simp)
    CE := N_cell
    PL := N_pool
    TK := N_take
    GR := N_ground
    LB := N_lb
    MD := N_made
    LO := N_loose
    ON := N_one
    OD := N_odd
    MT := N_met
    M := M
    clL := clL
    fnL := ⟨f_lfn, g_lfn, FX.meth_of x_lfn, ok_lf F_lfn b clL (noL _ (by simp)), b_lfn⟩
    wdL := ⟨f_lwd, g_lwd, FX.meth_of x_lwd, ok_lw F_lwd clL (noL _ (by simp)) (noL _ (by simp)) N_wd, b_lwd⟩
    eqL := ⟨f_leq, g_leq, i_leq, isf t_leq, ok_le F_leq b (PySem.W.mg_of X G aL) (kO CL) clL (noL _ (by simp)) (noL _ (by simp)) tyL GK ⟨f_eq, g_eq, i_eq, isf t_eq, ok_eq F_eq b (PySem.W.mg_of X G aC) (kO C) GK, b_eq⟩, b_leq⟩
    neL := i_neL
    mroL := i_mroL
    noL := noL _ (by simp)
    tyL := tyL
    mkG := ⟨f_gi, _, FX.mk_of x_mk, FGI, bI⟩
    mkJ := ⟨f_gi, _, da, db, dc, ds2, FX.mk_of x_mk, FGI, bI2, vds2, em1, em2, em3⟩
    mkL := ⟨f_li, _, dp, dsQ, FX.mk_of x_mkL, FLI0, bP, bP1, vdsQ, emP⟩
    gC := PySem.W.mg_of X G aC
    gL := PySem.W.mg_of X G aL
    ks := ks } hr hS
theorem walk {l : PySem.W.OpenLaw} {q : Program} {loose : List Str} {XP : (Str → Option Value) → Heap → Prop} {YP : World → Heap → Prop} {d : DefRec} {K : Params → PySem.W.Frag} (hn : l.most = some 63) (hdf : d.params.defaults = []) (hrec : ((PyProof.Rows.recsOf q).any fun e => e.name == d.name) = true)
    (hY : ∀ (w : World) (h : Heap), YP w h → (K w.params).In h)
    (F : ∀ (w : World) (mg : Str → Option Value) (fa : Addr) (h : Heap), (K w.params).In h → h.Ns mainGlobals mg → mg d.name = some (.ref fa) → OwnTab (K w.params) fa h → EndG.LawG l w (K w.params) 40 63 "_law_script" lawN mg fa h) :
    PySem.W.WalkO q loose XP YP l.row.toRowW d [] (fun f vs => PySem.call f vs) :=
  EndG.walk_g (n := 63) (k := 40) (x := "_law_script") hn (by decide) hdf ⟨rfl, by decide, by decide⟩ hrec hY F
end K39
set_option Elab.async false
open PySem PySem.W PyProof.Rows
set_option maxRecDepth 100000 in
set_option maxHeartbeats 0 in
theorem PySem.Challenge.cw_freeworldrules_k39_libraries_made_holds : PySem.Challenge.rw_freeworldrules_k39_libraries_made.Holds := by
  w_on; o_law; k_headLK; (case hw => w_witness2)
  k_fill
  refine K39.walk (l := PySem.Challenge.rw_freeworldrules_k39_libraries_made) rfl rfl (by kernel_rfl) (fun w h Y => PySem.W.kIn_of Y) ?F
  case F =>
    intro w mg fa h KX G hmg own
    refine' K39.all_mk KX G hmg own ?aC ?aL ?d_isL ?F_isL ?d_isN ?F_isN ?d_isNm ?F_isNm ?d_an ?F_an ?d_ckL ?F_ckL ?d_ckF ?F_ckF ?d_ckC ?F_ckC ?d_ft ?F_ft ?d_isF ?F_isF ?d_te ?F_te ?d_ebv ?F_ebv ?d_out ?F_out ?d_perm ?F_perm ?d_chk ?F_chk ?d_par ?F_par ?d_isU ?F_isU ?d_cf ?F_cf ?d_fon ?F_fon ?d_wd ?F_wd ?d_cell ?F_cell ?d_pool ?F_pool ?d_take ?F_take ?d_mixed ?F_mixed ?d_one ?F_one ?d_ground ?F_ground ?d_made ?F_made ?d_term ?F_term ?d_lb ?F_lb ?d_loose ?F_loose ?d_met ?F_met ?d_odd ?F_odd ?i_let ?F_let ?i_fix ?F_fix ?i_com ?F_com ?i_fac ?F_fac ?i_prt ?F_prt ?i_len ?F_len ?t_len ?i_has ?F_has ?t_has ?i_it ?F_it ?t_it ?i_eq ?F_eq ?t_eq ?i_lfn ?F_lfn ?i_lwd ?F_lwd ?i_leq ?F_leq ?t_leq ?i_gi ?F_gi ?i_li ?F_li ?d_law ?F_law ?x_free ?x_rep ?x_signs ?x_parts ?x_mn ?x_named1 ?x_named2 ?d_tb ?x_tb1 ?x_tb2 ?x_tb3 ?aB ?i_bt ?t_bt ?F_bt ?x_bt ?aF ?i_bf ?t_bf ?F_bf ?x_bf ?x_cl ?x_no ?x_mk ?x_let ?x_fix ?x_com ?x_fac ?x_prt ?x_clL ?x_noL ?x_mkL ?x_lfn ?x_lwd ?i_ne ?i_mro ?i_cls ?i_neL ?i_mroL ?i_clsL ?i_get ?i_tk ?x_ks
    (case aC => k_is)
    (case aL => k_is)
    (case d_isL => k_is)
    (case F_isL => exact ⟨_, L2.fun_mk (by k_is) (by k_is) (by k_is)⟩)
    (case d_isN => k_is)
    (case F_isN => exact ⟨_, L2.fun_mk (by k_is) (by k_is) (by k_is)⟩)
    (case d_isNm => k_is)
    (case F_isNm => exact ⟨_, L2.fun_mk (by k_is) (by k_is) (by k_is)⟩)
    (case d_an => k_is)
    (case F_an => exact ⟨_, L2.fun_mk (by k_is) (by k_is) (by k_is)⟩)
    (case d_ckL => k_is)
    (case F_ckL => exact ⟨_, L2.fun_mk (by k_is) (by k_is) (by k_is)⟩)
    (case d_ckF => k_is)
    (case F_ckF => exact ⟨_, L2.fun_mk (by k_is) (by k_is) (by k_is)⟩)
    (case d_ckC => k_is)
    (case F_ckC => exact ⟨_, L2.fun_mk (by k_is) (by k_is) (by k_is)⟩)
    (case d_ft => k_is)
    (case F_ft => exact ⟨_, L2.fun_mk (by k_is) (by k_is) (by k_is)⟩)
    (case d_isF => k_is)
    (case F_isF => exact ⟨_, L2.fun_mk (by k_is) (by k_is) (by k_is)⟩)
    (case d_te => k_is)
    (case F_te => exact ⟨_, L2.fun_mk (by k_is) (by k_is) (by k_is)⟩)
    (case d_ebv => k_is)
    (case F_ebv => exact ⟨_, L2.fun_mk (by k_is) (by k_is) (by k_is)⟩)
    (case d_out => k_is)
    (case F_out => exact ⟨_, L2.fun_mk (by k_is) (by k_is) (by k_is)⟩)
    (case d_perm => k_is)
    (case F_perm => exact ⟨_, L2.fun_mk (by k_is) (by k_is) (by k_is)⟩)
    (case d_chk => k_is)
    (case F_chk => exact ⟨_, L2.fun_mk (by k_is) (by k_is) (by k_is)⟩)
    (case d_par => k_is)
    (case F_par => exact ⟨_, L2.fun_mk (by k_is) (by k_is) (by k_is)⟩)
    (case d_isU => k_is)
    (case F_isU => exact ⟨_, L2.fun_mk (by k_is) (by k_is) (by k_is)⟩)
    (case d_cf => k_is)
    (case F_cf => exact ⟨_, L2.fun_mk (by k_is) (by k_is) (by k_is)⟩)
    (case d_fon => k_is)
    (case F_fon => exact ⟨_, L2.fun_mk (by k_is) (by k_is) (by k_is)⟩)
    (case d_wd => k_is)
    (case F_wd => exact ⟨_, L2.fun_mk (by k_is) (by k_is) (by k_is)⟩)
    (case d_cell => k_is)
    (case F_cell => exact ⟨_, L2.fun_mk (by k_is) (by k_is) (by k_is)⟩)
    (case d_pool => k_is)
    (case F_pool => exact ⟨_, L2.fun_mk (by k_is) (by k_is) (by k_is)⟩)
    (case d_take => k_is)
    (case F_take => exact ⟨_, L2.fun_mk (by k_is) (by k_is) (by k_is)⟩)
    (case d_mixed => k_is)
    (case F_mixed => exact ⟨_, L2.fun_mk (by k_is) (by k_is) (by k_is)⟩)
    (case d_one => k_is)
    (case F_one => exact ⟨_, L2.fun_mk (by k_is) (by k_is) (by k_is)⟩)
    (case d_ground => k_is)
    (case F_ground => exact ⟨_, L2.fun_mk (by k_is) (by k_is) (by k_is)⟩)
    (case d_made => k_is)
    (case F_made => exact ⟨_, L2.fun_mk (by k_is) (by k_is) (by k_is)⟩)
    (case d_term => k_is)
    (case F_term => exact ⟨_, L2.fun_mk (by k_is) (by k_is) (by k_is)⟩)
    (case d_lb => k_is)
    (case F_lb => exact ⟨_, L2.fun_mk (by k_is) (by k_is) (by k_is)⟩)
    (case d_loose => k_is)
    (case F_loose => exact ⟨_, L2.fun_mk (by k_is) (by k_is) (by k_is)⟩)
    (case d_met => k_is)
    (case F_met => exact ⟨_, L2.fun_mk (by k_is) (by k_is) (by k_is)⟩)
    (case d_odd => k_is)
    (case F_odd => exact ⟨_, L2.fun_mk (by k_is) (by k_is) (by k_is)⟩)
    (case i_let => k_is)
    (case F_let => exact ⟨_, L2.fun_mk (by k_is) (by k_is) (by k_is)⟩)
    (case i_fix => k_is)
    (case F_fix => exact ⟨_, L2.fun_mk (by k_is) (by k_is) (by k_is)⟩)
    (case i_com => k_is)
    (case F_com => exact ⟨_, L2.fun_mk (by k_is) (by k_is) (by k_is)⟩)
    (case i_fac => k_is)
    (case F_fac => exact ⟨_, L2.fun_mk (by k_is) (by k_is) (by k_is)⟩)
    (case i_prt => k_is)
    (case F_prt => exact ⟨_, L2.fun_mk (by k_is) (by k_is) (by k_is)⟩)
    (case i_len => k_is)
    (case F_len => exact ⟨_, L2.fun_mk (by k_is) (by k_is) (by k_is)⟩)
    (case t_len => k_is)
    (case i_has => k_is)
    (case F_has => exact ⟨_, L2.fun_mk (by k_is) (by k_is) (by k_is)⟩)
    (case t_has => k_is)
    (case i_it => k_is)
    (case F_it => exact ⟨_, L2.fun_mk (by k_is) (by k_is) (by k_is)⟩)
    (case t_it => k_is)
    (case i_eq => k_is)
    (case F_eq => exact ⟨_, L2.fun_mk (by k_is) (by k_is) (by k_is)⟩)
    (case t_eq => k_is)
    (case i_lfn => k_is)
    (case F_lfn => exact ⟨_, L2.fun_mk (by k_is) (by k_is) (by k_is)⟩)
    (case i_lwd => k_is)
    (case F_lwd => exact ⟨_, L2.fun_mk (by k_is) (by k_is) (by k_is)⟩)
    (case i_leq => k_is)
    (case F_leq => exact ⟨_, L2.fun_mk (by k_is) (by k_is) (by k_is)⟩)
    (case t_leq => k_is)
    (case i_gi => k_is)
    (case F_gi => exact ⟨_, _, _, _, _, _, _, _, _, _, by k_is, by k_is, by kernel_rfl, by k_is⟩)
    (case i_li => k_is)
    (case F_li => exact ⟨_, _, _, _, _, _, _, _, _, _, by k_is, by k_is, by kernel_rfl, by k_is⟩)
    (case d_law => k_is)
    (case F_law => exact ⟨_, _, _, _, _, _, _, _, _, by k_is, by k_is, by k_is⟩)
    (case x_free => kernel_rfl)
    (case x_rep => kernel_rfl)
    (case x_signs => kernel_rfl)
    (case x_parts => kernel_rfl)
    (case x_mn => kernel_rfl)
    (case x_named1 => kernel_rfl)
    (case x_named2 => kernel_rfl)
    (case d_tb => k_is)
    (case x_tb1 => kernel_rfl)
    (case x_tb2 => kernel_rfl)
    (case x_tb3 => kernel_rfl)
    (case aB => k_is)
    (case i_bt => k_is)
    (case t_bt => k_is)
    (case F_bt => exact ⟨_, L2.fun_mk (by k_is) (by k_is) (by k_is)⟩)
    (case x_bt => kernel_rfl)
    (case aF => k_is)
    (case i_bf => k_is)
    (case t_bf => k_is)
    (case F_bf => exact ⟨_, L2.fun_mk (by k_is) (by k_is) (by k_is)⟩)
    (case x_bf => kernel_rfl)
    (case x_cl => kernel_rfl)
    (case x_no => kernel_rfl)
    (case x_mk => kernel_rfl)
    (case x_let => kernel_rfl)
    (case x_fix => kernel_rfl)
    (case x_com => kernel_rfl)
    (case x_fac => kernel_rfl)
    (case x_prt => kernel_rfl)
    (case x_clL => kernel_rfl)
    (case x_noL => kernel_rfl)
    (case x_mkL => kernel_rfl)
    (case x_lfn => kernel_rfl)
    (case x_lwd => kernel_rfl)
    (case i_ne => k_is)
    (case i_mro => k_is)
    (case i_cls => k_is)
    (case i_neL => k_is)
    (case i_mroL => k_is)
    (case i_clsL => k_is)
    (case i_get => k_is)
    (case i_tk => k_is)
    (case x_ks => kernel_rfl)
