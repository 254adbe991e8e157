import PyProof.Rows.All
import Wide.All
import OpenK.AllK
import Wide.FinOn
import HandS.ForMost
import HandS.IsInst
import HandS.Exc
import HandS.Deep
import HandS.Star
import KE.GoesEnum
import HandS.Walk
import HandS.TupAny
import HandS.ExcInit
import HandS.ExcField
import HandS.HeadHook3
import HandS.EndOwn
import HandS.Defaults
import HandS.StrMore
import PyProof.TupleOfSeq
import HandS.ExcValue
import HandS.ExcOwn
import KE.KDictKeyed
import KE.KDictCopyH
import KE.KDictList
import KE.KeyNested
import HandS.TryOnly
import HandS.Comp
import HandS.WordsExc
import HandS.DictComp
import KE.KEqNest
import HandS.IterVal
import KE.KOwnIter
import HandS.Text
import HandS.FStr
import PyProof.InstNe
import PyProof.NeKinds
import HandS.DictEq
import PyProof.P3Eq
import HandS.Lambda
import HandS.Conv
import HandS.SortKw
import KE.SortKeyHeap
import HandS.Iter
import HandS.TupLen
import HandS.ClsMeth
import PyProof.ReprLen
import PyProof.ReprRoads
import HandS.Words
import KE.OsRunLaw
import PySem.Challenge.RW_freeworldrules_k07_permits_made
set_option Elab.async false
set_option linter.all false
set_option maxRecDepth 100000
set_option maxHeartbeats 4000000
/-! What the laws' own helpers lean on: heaps with some places hidden, pools, promises. -/
namespace GB
open PySem PySem.Spec L2
/-- the heap without the places that others may change -/
def hid (ps : List Addr) (H : Hp) : Hp := fun b => if b ∈ ps then none else H b
theorem hid_in {ps : List Addr} {H : Hp} {b : Addr} {o : HO} (e : hid ps H b = some o) : H b = some o ∧ b ∉ ps := by
  unfold hid at e
  split at e
  · cases e
  · rename_i h; exact ⟨e, h⟩
theorem hid_of {ps : List Addr} {H : Hp} {b : Addr} (h : b ∉ ps) : hid ps H b = H b := if_neg h
theorem hid_to {ps : List Addr} {H : Hp} {b : Addr} {o : HO} (h : b ∉ ps) (e : H b = some o) : hid ps H b = some o := by rw [hid_of h]; exact e
theorem hid_low (ps : List Addr) (H : Hp) : Same (hid ps H) H := fun b o e => (hid_in e).1
theorem hid_less {ps qs : List Addr} {H : Hp} (h : ∀ p ∈ qs, p ∈ ps) : Same (hid ps H) (hid qs H) := fun b o e => by
  obtain ⟨e1, n⟩ := hid_in e
  exact hid_to (fun m => n (h b m)) e1
theorem hid_same {ps : List Addr} {H H' : Hp} (s : Same H H') : Same (hid ps H) (hid ps H') := fun b o e => by
  obtain ⟨e1, n⟩ := hid_in e
  exact hid_to n (s b o e1)
/-- all but these places stands as it was -/
abbrev Bt (ps : List Addr) (H H' : Hp) : Prop := Same (hid ps H) (hid ps H')
theorem bt_upd {ps : List Addr} {H : Hp} {a : Addr} {o : HO} (h : a ∈ ps) : Bt ps H (upd H a o) := fun b u e => by
  obtain ⟨e1, n⟩ := hid_in e
  have : b ≠ a := fun z => n (by rw [z]; exact h)
  exact hid_to n (by rw [upd_ne this]; exact e1)
theorem bt_weak {ps qs : List Addr} {H H' : Hp} (h : ∀ p ∈ qs, p ∈ ps) (s : Bt qs H H') : Bt ps H H' := fun b o e => by
  obtain ⟨e1, n⟩ := hid_in e
  have nq : b ∉ qs := fun m => n (h b m)
  exact hid_to n (hid_in (s b o (hid_to nq e1))).1
theorem bt_of {ps : List Addr} {H H' : Hp} (s : Same H H') : Bt ps H H' := hid_same s
theorem bt_at {ps : List Addr} {H H' : Hp} {a : Addr} {o : HO} (s : Bt ps H H') (n : a ∉ ps) (e : H a = some o) : H' a = some o := (hid_in (s a o (hid_to n e))).1
/-- a new object is laid -/
theorem lay {H : Hp} {a : Addr} {o : HO} (n : H a = none) : ∃ H', Same H H' ∧ H' a = some o ∧ upd H a o = H' := ⟨_, fun b u e => by rw [upd_ne (ne_of_none e n)]; exact e, upd_same, rfl⟩
theorem ni1 {a p : Addr} (h : a ≠ p) : a ∉ [p] := fun m => h (List.mem_singleton.mp m)
theorem Same.seqT {K : PySem.W.Frag} {H H' : Hp} {a : Addr} {xs : List V} (e : Same H H') (h : SqT K H a xs) : SqT K H' a xs := by
  rcases h with (h | ⟨o, h⟩) | h
  · exact .inl (.inl (e _ _ h))
  · exact .inl (.inr ⟨o, e _ _ h⟩)
  · exact .inr h
def poolV (a b c : Int) : List V := [.int a, .int b, .int c]
/-- a pool at p, drawn from n times at most -/
structure PoolIs (H : Hp) (p : Addr) (n : Nat) : Prop where
  ex : ∃ a b c : Int, H p = some (.lst (poolV a b c)) ∧ 0 ≤ a ∧ 0 ≤ b ∧ b < 1000000007 ∧ 0 ≤ c ∧ c ≤ n
theorem PoolIs.mono {H H' : Hp} {p : Addr} {n m : Nat} (s : Same H H') (h : n ≤ m) (P : PoolIs H p n) : PoolIs H' p m := by
  obtain ⟨a, b, c, e, h1, h2, h3, h4, h5⟩ := P
  exact ⟨a, b, c, s _ _ e, h1, h2, h3, h4, by omega⟩
theorem PoolIs.ne {H : Hp} {p a : Addr} {n : Nat} (P : PoolIs H p n) (h : H a = none) : a ≠ p := by
  obtain ⟨x, y, z, e, _⟩ := P
  exact (ne_of_none e h).symm
def spCell (K : PySem.W.Frag) : Sp := fun vs H Q _ => ∃ (a : Addr) (ns : List Int) (k : Nat), vs = [.ref a, .int k] ∧ SqL K H a (ns.map V.int) ∧ ∀ z, Q (.int z) H
def spPool : Sp := fun vs H Q _ => ∃ g : Int, vs = [.int g] ∧ ∀ p H', H p = none → Same H H' → PoolIs H' p 0 → Q (.ref p) H'
/-- a draw: below m -/
def spTake : Sp := fun vs H Q _ => ∃ (p : Addr) (m : Int) (n : Nat), vs = [.ref p, .int m] ∧ 0 < m ∧ m < 1000000 ∧ n ≤ 1000000 ∧ PoolIs H p n ∧
  ∀ (r : Nat) H', (r : Int) < m → Bt [p] H H' → PoolIs H' p (n + 1) → Q (.int r) H'
structure Fns (P : Program) (w : World) (K : PySem.W.Frag) (mg : Str → Option Value) (base : Heap) (n : Str) (k : Nat) (ps : List Str) (sp : Sp) : Prop where
  ex : ∃ (f : Addr) (fd : FuncData), FnOk P w K mg base CX0 k f fd ps sp ∧ mg n = some (.ref f) ∧ PySem.W.keepIn K (.ref f) = true ∧ Binds K fd ps []
section
variable {X : Cx} {n : Str} {k j : Nat} {ps : List Str} {sp : Sp} {e : Expr} {es : List Expr} {p pos : Pos} {t : TA}
theorem pe_fn (F : Fns X.prog X.w X.K X.mg X.base n k ps sp) (hr : Room j X.A) (hk : k ≤ j) (hg : Gl X n) (ha : PA X (e :: es) t) (hdb : (n == ("__debug__" : Str)) = false := by decide)
    (he : starEach (e :: es) X.env = (false, eval e X.env) :: starEach es X.env := by rfl) (hpl : (backTo pos (starEach es X.env)).any (·.1) = false := by rfl) : PE X (.Call (.Name n p) (e :: es) [] pos) (tCall sp [] E0 t) := by
  obtain ⟨f, fd, G, m, kp, b⟩ := F.ex
  exact pe_call G (hr.mono hk) hg m kp b .nil pass0 ha hdb he hpl
end
/-- the built-ins' names, as the module leaves them -/
structure Bl (mg : Str → Option Value) : Prop where
  len : mg "len" = none
  int : mg "int" = none
  list : mg "list" = none
  tuple : mg "tuple" = none
  dict : mg "dict" = none
  range : mg "range" = none
  sorted : mg "sorted" = none
  isi : mg "isinstance" = none
  bool : mg "bool" = none
  str : mg "str" = none
  all : mg "all" = none
  any : mg "any" = none
  enum : mg "enumerate" = none
/-- the things in an order of its own -/
def spMixed (K : PySem.W.Frag) : Sp := fun vs H Q _ => ∃ (p t : Addr) (xs : List V) (n : Nat), vs = [.ref p, .ref t] ∧ SqL K (hid [p] H) t xs ∧ xs.length ≤ 60 ∧ n + 60 ≤ 1000000 ∧ PoolIs H p n ∧
  ∀ (q : Addr) (ys : List V) H', ys.Perm xs → H q = none → Bt [p] H H' → H' q = some (.lst ys) → PoolIs H' p (n + 60) → Q (.ref q) H'
/-- one of the things -/
def spOne (K : PySem.W.Frag) : Sp := fun vs H Q _ => ∃ (p t : Addr) (xs : List V) (n : Nat), vs = [.ref p, .ref t] ∧ SqL K (hid [p] H) t xs ∧ xs ≠ [] ∧ xs.length ≤ 100000 ∧ n + 1 ≤ 1000000 ∧ PoolIs H p n ∧
  ∀ (v : V) H', v ∈ xs → Bt [p] H H' → PoolIs H' p (n + 1) → Q v H'
theorem cut_to (xs : List V) (r : Nat) (h : r ≤ xs.length) : cutV xs none (some (r : Int)) = xs.take r := by
  unfold cutV
  rw [HT.sIx_none, HT.sIx_nat, List.drop_zero, Nat.min_eq_left h, Nat.sub_zero]
theorem cut_from (xs : List V) (r : Nat) : cutV xs (some (r : Int)) none = xs.drop r := by
  unfold cutV
  rw [HT.sIx_none, HT.sIx_nat]
  by_cases h : r ≤ xs.length
  · rw [Nat.min_eq_left h, List.take_of_length_le]
    rw [List.length_drop]; exact Nat.le_refl _
  · rw [Nat.min_eq_right (by omega), List.drop_of_length_le (Nat.le_refl _), List.drop_of_length_le (by omega)]
    simp
theorem perm_out {α : Type} {left : List α} {r : Nat} {v : α} (fs : List α) (h : left[r]? = some v) : ((fs ++ [v]) ++ (left.take r ++ left.drop (r + 1))).Perm (fs ++ left) := by
  obtain ⟨hr, rfl⟩ := List.getElem?_eq_some_iff.mp h
  rw [List.append_assoc]
  refine List.Perm.append_left fs ?_
  have e : left = left.take r ++ left[r] :: left.drop (r + 1) := by
    rw [← List.drop_eq_getElem_cons hr, List.take_append_drop]
  conv => rhs; rw [e]
  show (left[r] :: (left.take r ++ left.drop (r + 1))).Perm _
  exact List.perm_middle.symm
end GB
set_option Elab.async false
set_option linter.all false
set_option maxRecDepth 100000
set_option maxHeartbeats 4000000
/-! The laws' grounds as plain data, and where they stand. -/
namespace GB
open PySem PySem.Spec L2
structure Fact where
  x : Str
  vals : List Str
  kind : Str
  en : Str
structure GD where
  letters : List (Str × Nat)
  fixed : List Str
  comm : List Str
  facts : List Fact
def nm8 : List Str := ["x", "y", "z", "plus", "if", "name", "abcdefgh", "fail"]
/-- all names that letters of this law have -/
def nmA : List Str := nm8 ++ (["and", "bind", "last", "value", "use", "ifs", "an"] : List Str)
theorem nmA_of {x : Str} (h : x ∈ nm8) : x ∈ nmA := List.mem_append_left _ h
def va3 : List Str := ["one", "two", "false"]
def sort2 : List Str → List Str
  | [a, b] => if PyProof.Rows.sortedS [a, b] = true then [a, b] else [b, a]
  | l => l
theorem perm2 {α : Type} {a b : α} : ∀ {l : List α}, l.Perm [a, b] → l = [a, b] ∨ l = [b, a]
  | [], h => by have := h.length_eq; simp at this
  | [x], h => by have := h.length_eq; simp at this
  | [x, y], h => by
    have hx : x ∈ [a, b] := h.subset List.mem_cons_self
    rcases List.mem_cons.mp hx with rfl | hx
    · have := List.Perm.cons_inv h
      exact .inl (by rw [List.perm_singleton.mp this])
    · obtain rfl := List.mem_singleton.mp hx
      have h2 : [x, y].Perm [x, a] := h.trans (List.Perm.swap _ _ _)
      have := List.Perm.cons_inv h2
      exact .inr (by rw [List.perm_singleton.mp this])
  | x :: y :: z :: r, h => by have := h.length_eq; simp at this
theorem two_sorted : ∀ a ∈ va3, ∀ b ∈ va3, (PyProof.Rows.sortedS [a, b] = true ∧ (PyProof.Rows.sortedS [b, a] = true → [b, a] = [a, b])) ∨ (PyProof.Rows.sortedS [a, b] = false ∧ PyProof.Rows.sortedS [b, a] = true) := by decide
/-- the one order of at most two such texts -/
theorem sort2_of {ys vs : List Str} (hp : ys.Perm vs) (hs : PyProof.Rows.sortedS ys = true) (hl : vs.length ≤ 2) (hv : ∀ v ∈ vs, v ∈ va3) : ys = sort2 vs := by
  match vs, hl, hp, hv with
  | [], _, hp, _ => exact hp.eq_nil
  | [a], _, hp, _ => exact List.perm_singleton.mp hp
  | [a, b], _, hp, hv =>
    have ha := hv a List.mem_cons_self
    have hb := hv b (List.mem_cons_of_mem _ List.mem_cons_self)
    show ys = if PyProof.Rows.sortedS [a, b] = true then [a, b] else [b, a]
    rcases perm2 hp with rfl | rfl
    · rw [if_pos hs]
    · rcases two_sorted a ha b hb with ⟨h1, h2⟩ | ⟨h1, h2⟩
      · rw [if_pos h1]; exact h2 hs
      · rw [if_neg (by rw [h1]; exact Bool.false_ne_true)]
theorem sort2_perm (l : List Str) : (sort2 l).Perm l := by
  match l with
  | [] => exact List.Perm.refl _
  | [a] => exact List.Perm.refl _
  | [a, b] =>
    show (if PyProof.Rows.sortedS [a, b] = true then [a, b] else [b, a]).Perm [a, b]
    split
    · exact List.Perm.refl _
    · exact List.Perm.swap _ _ _
  | a :: b :: c :: r => exact List.Perm.refl _
theorem paired_app {α β : Type} {R : α → β → Prop} : ∀ {l l' : List α} {m m' : List β}, Paired R l m → Paired R l' m' → Paired R (l ++ l') (m ++ m')
  | _, _, _, _, .nil, s => s
  | _, _, _, _, .cons r t, s => .cons r (paired_app t s)
def GD.asked (g : GD) (f : Fact) : Str × List Str := (f.x, if f.x ∈ g.comm then sort2 f.vals else f.vals)
structure Fact.Ok (ls : List (Str × Nat)) (fx : List Str) (f : Fact) : Prop where
  x : f.x ∈ fx
  len : ∃ k, (f.x, k) ∈ ls ∧ f.vals.length = k
  vals : ∀ v ∈ f.vals, v ∈ va3
  kind : f.kind = "value" ∨ f.kind = "fail"
  en : f.en = "one" ∨ f.en = "false"
structure GD.Wf (g : GD) : Prop where
  ne : g.letters ≠ []
  nd : (g.letters.map (·.1)).Nodup
  nm : ∀ q ∈ g.letters, q.1 ∈ nmA
  le : g.letters.length ≤ 8
  ar : ∀ q ∈ g.letters, q.2 ≤ 2
  fx : g.fixed.Sublist (g.letters.map (·.1))
  cm : g.comm.Sublist g.fixed
  c2 : ∀ x ∈ g.comm, (x, 2) ∈ g.letters
  fl : g.facts.length ≤ 6
  fa : ∀ f ∈ g.facts, f.Ok g.letters g.fixed
  fd : (g.facts.map g.asked).Nodup
def lkv (ls : List (Str × Nat)) : List (Key × V) := ls.map fun q => (Sum.inr q.1, V.int q.2)
def sts (l : List Str) : List V := l.map V.str
structure FactAt (H : Hp) (f : Fact) (t : Addr) : Prop where
  ex : ∃ v e : Addr, H t = some (.tup [.str f.x, .ref v, .ref e]) ∧ H v = some (.tup (sts f.vals)) ∧ H e = some (.tup [.str f.kind, .str f.en])
def FactsAt (H : Hp) (a : Addr) (fs : List Fact) : Prop := ∃ ts : List Addr, H a = some (.lst (ts.map V.ref)) ∧ Paired (FactAt H) fs ts
theorem FactAt.mono {H H' : Hp} {f : Fact} {t : Addr} (s : Same H H') (h : FactAt H f t) : FactAt H' f t := let ⟨v, e, h1, h2, h3⟩ := h.ex; ⟨v, e, s _ _ h1, s _ _ h2, s _ _ h3⟩
/-- the law's dict of a ground -/
structure IsG (H : Hp) (g : Addr) (d : GD) : Prop where
  ex : ∃ aL aF aC aT : Addr, H g = some (.dK [(.inr "letters", .ref aL), (.inr "fixed", .ref aF), (.inr "commuting", .ref aC), (.inr "facts", .ref aT)]) ∧ H aL = some (.dK (lkv d.letters)) ∧ H aF = some (.lst (sts d.fixed)) ∧
    H aC = some (.lst (sts d.comm)) ∧ FactsAt H aT d.facts
theorem FactsAt.mono {H H' : Hp} {fs : List Fact} {t : Addr} (s : Same H H') (h : FactsAt H t fs) : FactsAt H' t fs := let ⟨ts, h1, h2⟩ := h; ⟨ts, s _ _ h1, Paired.mapP h2 fun _ _ r => r.mono s⟩
theorem IsG.mono {H H' : Hp} {d : GD} {g : Addr} (s : Same H H') (h : IsG H g d) : IsG H' g d :=
  let ⟨aL, aF, aC, aT, h1, h2, h3, h4, h5⟩ := h.ex
  ⟨aL, aF, aC, aT, s _ _ h1, s _ _ h2, s _ _ h3, s _ _ h4, h5.mono s⟩
theorem valV_lkv : ∀ {ls : List (Str × Nat)} {x : Str} {k : Nat}, (ls.map (·.1)).Nodup → (x, k) ∈ ls → valV (lkv ls) (.inr x : Key) = some (.int k)
  | [], x, k, _, h => nomatch h
  | q :: r, x, k, nd, h => by
    have nd' := List.nodup_cons.mp nd
    rcases List.mem_cons.mp h with rfl | h
    · exact valV_pos rfl
    · have ne : ¬ ((Sum.inr q.1 : Key) = .inr x) := fun e => nd'.1 (by
        have e' : q.1 = x := Sum.inr.inj e
        show q.1 ∈ r.map (·.1)
        rw [e']
        exact List.mem_map.mpr ⟨(x, k), h, rfl⟩)
      show valV ((Sum.inr q.1, V.int q.2) :: lkv r) (.inr x : Key) = some (.int k)
      rw [valV_neg ne]
      exact valV_lkv nd'.2 h
theorem valV_no : ∀ {ls : List (Str × Nat)} {x : Str}, x ∉ ls.map (·.1) → valV (lkv ls) (.inr x : Key) = none
  | [], x, _ => rfl
  | q :: r, x, h => by
    have ne : ¬ ((Sum.inr q.1 : Key) = .inr x) := fun e => h (by
      have e' : q.1 = x := Sum.inr.inj e
      rw [← e']
      exact List.mem_cons_self)
    show valV ((Sum.inr q.1, V.int q.2) :: lkv r) (.inr x : Key) = none
    rw [valV_neg ne]
    exact valV_no fun m => h (List.mem_cons_of_mem _ m)
def unstr : V → Str
  | .str s => s
  | _ => ""
theorem sts_perm {ys : List V} {l : List Str} (h : ys.Perm (sts l)) : ∃ ns : List Str, ys = sts ns ∧ ns.Perm l := by
  refine ⟨ys.map unstr, ?_, ?_⟩
  · unfold sts
    rw [List.map_map]
    conv => lhs; rw [← List.map_id ys]
    refine List.map_congr_left fun v hv => ?_
    obtain ⟨s, _, rfl⟩ := List.mem_map.mp (h.subset hv)
    rfl
  · have := h.map unstr
    unfold sts at this
    rw [List.map_map] at this
    have e : l.map (unstr ∘ V.str) = l := by
      conv => rhs; rw [← List.map_id l]
      exact List.map_congr_left fun s _ => rfl
    rwa [e] at this
theorem sts_at {l : List Str} {i : Nat} {x : V} (h : (sts l)[i]? = some x) : ∃ s, l[i]? = some s ∧ x = .str s := by
  unfold sts at h
  rw [List.getElem?_map] at h
  cases e : l[i]? with
  | none => rw [e] at h; cases h
  | some s => rw [e] at h; exact ⟨s, rfl, (Option.some.inj h).symm⟩
theorem sts_len (l : List Str) : (sts l).length = l.length := List.length_map _
theorem mem_sts {v : V} {l : List Str} (h : v ∈ sts l) : ∃ s ∈ l, v = .str s := by
  obtain ⟨s, hs, rfl⟩ := List.mem_map.mp h
  exact ⟨s, hs, rfl⟩
end GB
set_option Elab.async false
set_option linter.all false
set_option maxRecDepth 100000
set_option maxHeartbeats 4000000
/-! Data of texts, lists and pairs as the comparisons read them. -/
namespace GB
open PySem PySem.Spec L2 PyProof.Rows
def pst (l : List Str) : List PyData := l.map PyData.str
theorem eqvAll_pst : ∀ a b : List Str, PyData.eqvAll (pst a) (pst b) = decide (a = b)
  | [], [] => by simp [pst, PyData.eqvAll]
  | [], _ :: _ => by simp [pst, PyData.eqvAll]
  | _ :: _, [] => by simp [pst, PyData.eqvAll]
  | x :: a, y :: b => by
    have ih := eqvAll_pst a b
    show (PyData.eqv (.str x) (.str y) && PyData.eqvAll (pst a) (pst b)) = _
    rw [ih, PyData.eqv]
    by_cases h : x = y
    · subst h
      by_cases h2 : a = b
      · subst h2; simp
      · rw [decide_eq_false h2, decide_eq_false fun e => h2 (List.cons.inj e).2, Bool.and_false]
    · rw [decide_eq_false fun e => h (List.cons.inj e).1, (beq_eq_false_iff_ne.mpr h : (x == y) = false), Bool.false_and]
def kd (a : Str × List Str) : PyData := .tuple [.str a.1, .list (pst a.2)]
theorem kd_eqv (a b : Str × List Str) : PyData.eqv (kd a) (kd b) = decide (a = b) := by
  obtain ⟨x, l⟩ := a
  obtain ⟨y, m⟩ := b
  show PyData.eqv (.tuple [.str x, .list (pst l)]) (.tuple [.str y, .list (pst m)]) = _
  simp only [PyData.eqv, PyData.eqvAll, Bool.and_true]
  rw [eqvAll_pst]
  by_cases h : x = y
  · subst h
    by_cases h2 : l = m
    · subst h2; simp
    · rw [decide_eq_false h2, decide_eq_false fun e => h2 (Prod.mk.inj e).2, Bool.and_false]
  · rw [decide_eq_false fun e => h (Prod.mk.inj e).1, (beq_eq_false_iff_ne.mpr h : (x == y) = false), Bool.false_and]
theorem lay_pst : ∀ {l : List Str}, (∀ v ∈ l, PyData.strOk v = true) → PyData.canLayAll0 (pst l) = true
  | [], _ => rfl
  | x :: r, h => by
    show (PyData.canLay0 (.str x) && PyData.canLayAll0 (pst r)) = true
    rw [lay_pst fun v hv => h v (List.mem_cons_of_mem _ hv), PyData.canLay0, h x List.mem_cons_self]
    rfl
theorem dep_pst : ∀ l : List Str, PyData.depthAll (pst l) = 0
  | [] => rfl
  | x :: r => by
    show max (PyData.depth (.str x)) (PyData.depthAll (pst r)) = 0
    rw [dep_pst r, PyData.depth]
    rfl
/-- texts that can be laid -/
def OkS (a : Str × List Str) : Prop := PyData.strOk a.1 = true ∧ ∀ v ∈ a.2, PyData.strOk v = true
theorem lay_kd {a : Str × List Str} (h : OkS a) : PyData.canLay0 (kd a) = true := by
  show PyData.canLay0 (.tuple [.str a.1, .list (pst a.2)]) = true
  simp only [PyData.canLay0, PyData.canLayAll0, Bool.and_true]
  rw [h.1, lay_pst h.2]
  rfl
theorem dep_kd (a : Str × List Str) : PyData.depth (kd a) = 2 := by
  show PyData.depth (.tuple [.str a.1, .list (pst a.2)]) = 2
  simp only [PyData.depth, PyData.depthAll]
  rw [dep_pst]
  rfl
theorem sh_kd {a : Str × List Str} (h : OkS a) : SeqAt.shaped (kd a) = true := by
  unfold SeqAt.shaped
  rw [lay_kd h, dep_kd]
  rfl
theorem lay_kds : ∀ {l : List (Str × List Str)}, (∀ a ∈ l, OkS a) → PyData.canLayAll0 (l.map kd) = true
  | [], _ => rfl
  | a :: r, h => by
    show (PyData.canLay0 (kd a) && PyData.canLayAll0 (r.map kd)) = true
    rw [lay_kd (h a List.mem_cons_self), lay_kds fun b hb => h b (List.mem_cons_of_mem _ hb)]
    rfl
theorem dep_kds : ∀ l : List (Str × List Str), PyData.depthAll (l.map kd) ≤ 2
  | [] => by decide
  | a :: r => by
    show max (PyData.depth (kd a)) (PyData.depthAll (r.map kd)) ≤ 2
    rw [dep_kd]
    have := dep_kds r
    omega
theorem sh_kds {l : List (Str × List Str)} (h : ∀ a ∈ l, OkS a) : SeqAt.shaped (.list (l.map kd)) = true := by
  unfold SeqAt.shaped
  have e : PyData.canLay0 (.list (l.map kd)) = true := by rw [PyData.canLay0]; exact lay_kds h
  have d : PyData.depth (.list (l.map kd)) ≤ 64 := by
    rw [PyData.depth]
    have := dep_kds l
    omega
  rw [e, decide_eq_true d]
  rfl
theorem sh_pst {l : List Str} (h : ∀ v ∈ l, PyData.strOk v = true) : SeqAt.shaped (.list (pst l)) = true := by
  unfold SeqAt.shaped
  have e : PyData.canLay0 (.list (pst l)) = true := by rw [PyData.canLay0]; exact lay_pst h
  rw [e, PyData.depth, dep_pst]
  rfl
theorem any_kd (l : List (Str × List Str)) (a : Str × List Str) : ((l.map kd).any fun z => PyData.eqv z (kd a)) = decide (a ∈ l) := by
  induction l with
  | nil => rfl
  | cons b r ih =>
    rw [List.map_cons, List.any_cons, ih, kd_eqv]
    by_cases h : b = a
    · subst h; simp
    · rw [decide_eq_false h, Bool.false_or]
      have : (a ∈ b :: r) = (a ∈ r) := propext ⟨fun m => (List.mem_cons.mp m).resolve_left fun e => h e.symm, List.mem_cons_of_mem _⟩
      simp only [this]
theorem ok8 : ∀ x ∈ nmA, PyData.strOk x = true := by decide +kernel
theorem ok3 : ∀ x ∈ va3, PyData.strOk x = true := by decide +kernel
theorem dp_sts {K : PySem.W.Frag} {H : Hp} : ∀ l : List Str, DpAll K H (sts l) (pst l)
  | [] => .nil
  | x :: r => .cons (.str x) (dp_sts r)
theorem ne_nil (l : List Str) : (!PyData.eqv (.list (pst l)) (.list [])) = decide (l ≠ []) := by
  cases l with
  | nil => simp [pst, PyData.eqv, PyData.eqvAll]
  | cons x r => simp [pst, PyData.eqv, PyData.eqvAll]
theorem inV_sts (x : Str) (l : List Str) : inV (.str x) (sts l) = decide (x ∈ l) := by
  unfold inV sts
  induction l with
  | nil => rfl
  | cons y r ih =>
    rw [List.map_cons, List.any_cons, ih]
    by_cases h : y = x
    · subst h
      simp [eqV]
    · have e : eqV (.str y) (.str x) = false := by
        simp [eqV, h]
      rw [e, Bool.false_or]
      have : (x ∈ y :: r) = (x ∈ r) := propext ⟨fun m => (List.mem_cons.mp m).resolve_left fun e => h e.symm, List.mem_cons_of_mem _⟩
      simp only [this]
theorem flat_sts (l : List Str) : (sts l).all flatV = true := by
  unfold sts
  rw [List.all_map]
  exact List.all_eq_true.mpr fun x _ => rfl
end GB
set_option Elab.async false
set_option linter.all false
set_option maxRecDepth 100000
set_option maxHeartbeats 4000000
namespace GB
open PySem PySem.Spec L2
theorem dpa_mono {K : PySem.W.Frag} {H H' : Hp} (s : Same H H') : (∀ (d : PyData) (v : V), Dp K H v d → Dp K H' v d) ∧ (∀ (ds : List PyData) (vs : List V), DpAll K H vs ds → DpAll K H' vs ds) := by
  have key : ∀ n, (∀ (d : PyData) (v : V), sizeOf d ≤ n → Dp K H v d → Dp K H' v d) ∧ (∀ (ds : List PyData) (vs : List V), sizeOf ds ≤ n → DpAll K H vs ds → DpAll K H' vs ds) := by
    intro n
    induction n with
    | zero =>
      refine ⟨fun d v hn => ?_, fun ds vs hn => ?_⟩
      · cases d <;> simp at hn
      · cases ds <;> simp at hn
    | succ n ih =>
      have hl : ∀ (ds : List PyData) (vs : List V), sizeOf ds ≤ n → DpAll K H vs ds → DpAll K H' vs ds := ih.2
      have h1 : ∀ (d : PyData) (v : V), sizeOf d ≤ n + 1 → Dp K H v d → Dp K H' v d := fun d v hn h => by
        cases h with
        | non => exact .non
        | bl b => exact .bl b
        | int i => exact .int i
        | str x => exact .str x
        | lst h1 h2 => exact .lst (s.seq h1) (hl _ _ (by simp at hn; omega) h2)
        | tup h1 h2 => exact .tup (Same.seqT s h1) (hl _ _ (by simp at hn; omega) h2)
      refine ⟨h1, fun ds vs hn h => ?_⟩
      cases h with
      | nil => exact .nil
      | cons a b => exact .cons (h1 _ _ (by simp at hn; omega) a) (hl _ _ (by simp at hn; omega) b)
  exact ⟨fun d v => (key (sizeOf d)).1 d v (Nat.le_refl _), fun ds vs => (key (sizeOf ds)).2 ds vs (Nat.le_refl _)⟩
theorem dp_mono {K : PySem.W.Frag} {H H' : Hp} {d : PyData} {v : V} (s : Same H H') (h : Dp K H v d) : Dp K H' v d := (dpa_mono s).1 d v h
theorem dps_mono {K : PySem.W.Frag} {H H' : Hp} {d : List PyData} {v : List V} (s : Same H H') (h : DpAll K H v d) : DpAll K H' v d := (dpa_mono s).2 d v h
theorem dps_app {K : PySem.W.Frag} {H : Hp} : ∀ {vs ws : List V} {ds es : List PyData}, DpAll K H vs ds → DpAll K H ws es → DpAll K H (vs ++ ws) (ds ++ es)
  | _, _, _, _, .nil, h => h
  | _, _, _, _, .cons a b, h => .cons a (dps_app b h)
end GB
set_option Elab.async false
set_option linter.all false
set_option maxRecDepth 100000
set_option maxHeartbeats 4000000
/-! enumerate over a tuple, or over a list or a tuple. -/
namespace GB
open PySem PySem.Spec L2 PyProof.Rows
open Sem (wp)
theorem meets_enum1 {v : Value} {o : Obj} {H : Heap → Prop} (B : Begins v o H) :
    Meets (Builtin.«enumerate.__new__» ⟨[.type "enumerate", v], []⟩) (fun _ R s => H s.heap ∧
      R (.ok (.ret (.ref (s.heap.push o).objs.size))) { s with heap := (s.heap.push o).push { cls := .type "enumerate", data := .fields #[.none, .bool false, .ref s.heap.objs.size, rawInt 0, .none, .none] } }) :=
  .of_wp fun prog w A R s h => by
    obtain ⟨hp, g, d, tk, os⟩ := s; obtain ⟨h1, h⟩ := h
    have hsub := sub_enumerate
    have q1 : ∀ {A' : Around} {E : Value → Shared → Prop} {Q : Value → Shared → Prop}, Q (.ref hp.objs.size) ⟨hp.push o, g, d, tk, os⟩ → wpAny (model prog w) A' (pyIter v) Q E ⟨hp, g, d, tk, os⟩ :=
      fun q => B.iter prog w _ _ ⟨hp, g, d, tk, os⟩ _ h1 q
    wp_walk using q1
    refine wpAny_stack_any fun st => wpAny_pure ?_
    split
    · rename_i c _ _ _ _ _
      cases (c == Value.type "enumerate")
      · wp_walk using q1
        exact ⟨_, rfl, h⟩
      · wp_walk using q1
        exact ⟨_, rfl, h⟩
    · wp_walk using q1
      exact ⟨_, rfl, h⟩
theorem call_enum1 {prog : Program} {w : World} {A : Around} {E : Value → Shared → Prop} {s : Shared} {v : Value} {o : Obj} {H : Heap → Prop} {Q : Value → Shared → Prop} (B : Begins v o H) (h1 : H s.heap)
    (h : ∀ h', IsEnum h' (s.heap.objs.size + 1) s.heap.objs.size 0 .none → h'.get? s.heap.objs.size = some o → h'.objs.size = s.heap.objs.size + 2 →
      (∀ b o, s.heap.get? b = some o → h'.get? b = some o) → Q (.ref (s.heap.objs.size + 1)) { s with heap := h' }) :
    wpAny (model prog w) A (call (.type "enumerate") [v]) Q E s := by
  refine callType_new F.called_enumerate (by decide) (F.typeCall_enumerate_1 _) (F.newCall_enumerate_1 _) (fun obj => F.args_object_init_2 obj _) F.entry_enumerate_new
    (meets_enum1 B) ⟨h1, ?_⟩
  have hz : (s.heap.push o).objs.size = s.heap.objs.size + 1 := Heap.size_push ..
  show _ ∧ _
  rw [hz]
  have he : IsEnum ((s.heap.push o).push { cls := .type "enumerate", data := .fields #[.none, .bool false, .ref s.heap.objs.size, rawInt 0, .none, .none] }) (s.heap.objs.size + 1) s.heap.objs.size 0 .none := by
    have := Heap.get?_push_size (s.heap.push o) (o := { cls := .type "enumerate", data := .fields #[.none, .bool false, .ref s.heap.objs.size, rawInt 0, .none, .none] }) rfl
    rw [hz] at this; exact this
  refine ⟨⟨_, he, rfl⟩, h _ he (Heap.get?_push_of_some _ (Heap.get?_push_size _ B.free)) (by rw [Heap.size_push, hz]) fun b o x => Heap.get?_push_of_some _ (Heap.get?_push_of_some _ x)⟩
/-- the tuple at a as it stands at each turn, each item in a new pair -/
def Itet (K : PySem.W.Frag) (a : Addr) : It :=
  ⟨fun i H => ∃ (xs : List V) (x : V), SqT K H a xs ∧ xs[i]? = some x, fun i H v H' => ∃ T x, v = .ref T ∧ H T = none ∧ H' = upd H T (.tup [.int (i : Nat), x]) ∧ ∀ xs, SqT K H a xs → xs[i]? = some x, fun i H => ∃ xs : List V, SqT K H a xs ∧ xs.length ≤ i⟩
theorem turn_enumT {P : Program} {w : World} {K : PySem.W.Frag} {elts : List Expr} {kk : Nat} {tpos : Pos} (a e it : Addr) (hia : a ≠ it) (hea : e ≠ a) :
    Turn P w K (.Tuple elts kk tpos) (Itet K a) [e, it] e (fun i h => (∃ old, IsEnum h e it ((i : Nat) : Int) old) ∧ h.IsTupleIter it a i ∧ e ≠ it) where
  mem := by simp
  obj := fun i h st b hb => by
    obtain ⟨⟨old, he⟩, ⟨o, ho, hc, hd⟩, _⟩ := st
    have e' : b = e ∨ b = it := by simpa using hb
    rcases e' with z | z
    · rw [z]; exact ⟨_, he, fun v q => nomatch q⟩
    · rw [z]; exact ⟨o, ho, fun v q => by rw [hd] at q; cases q⟩
  keep := fun i h h' st k => let ⟨⟨old, he⟩, hi, hne⟩ := st; ⟨⟨old, k e (by simp) _ he⟩, hi.at fun o q => k it (by simp) o q, hne⟩
  item := by
    intro X hP hw hK hc i pins s σ H E I hf st hg
    subst hP hw hK
    obtain ⟨⟨old, he⟩, hit, hne⟩ := st
    obtain ⟨xs, x, hq, hx⟩ := hg
    obtain ⟨its, rv, p, hz⟩ := I.tuple hq
    obtain ⟨u, hu, ru⟩ := rv.get hx
    have hel : e < s.heap.objs.size := Heap.lt_size he
    have hil : it < s.heap.objs.size := by obtain ⟨_, q, _⟩ := hit; exact Heap.lt_size q
    have hlt : i < its.length := (List.getElem?_eq_some_iff.mp hu).1
    refine wpAny_pyNext_enum_itemD (Draws.tuple (A := X.A.in1) (I.ok.hd hc) it a hia its.toArray) he ⟨hit, (show s.heap.IsTuple a its.toArray from p)⟩ (by simpa using hlt) hne (by simp [hne, hea]) fun x' h' tk hP' ho hst' hT hsz hk => ?_
    obtain rfl : x' = u := by
      have hP2 : its[i]? = some x' := by simpa using hP'
      rw [hu] at hP2
      exact (Option.some.inj hP2).symm
    refine ⟨_, rfl, wpAny_letOwnedTupleGo_enum (s := { s with heap := h', toks := tk + 1 }) ho fun h'' he' sb => ?_⟩
    have hT2 : h''.get? s.heap.objs.size = some { cls := .type "tuple", data := .seq #[.int i tk, x'] } := (sb.2 _ (Nat.ne_of_gt hel)).trans hT
    have new : ObjOk X.prog X.w (upd H s.heap.objs.size (.tup [.int (i : Nat), x])) h'' s.heap.objs.size (.tup [.int (i : Nat), x]) :=
      ⟨by show 2 ≤ sizeLine; decide, [.int i tk, x'], .cons ⟨_, rfl⟩ (.cons ru .nil), ⟨_, hT2, rfl, _, rfl⟩⟩
    have I1 : Inv X pins σ (upd H s.heap.objs.size (.tup [.int (i : Nat), x])) { s with heap := h'', toks := tk + 1 } :=
      I.turnedNew (ch := [e, it]) (fun b ob hb q => (sb.2 b (fun z => hb (by simp [z]))).trans (hk b ob (fun z => hb (by simp [z])) (fun z => hb (by simp [z])) q)) hf (Nat.le_refl _) new
    refine ⟨.ref s.heap.objs.size, _, I1, rfl, ⟨_, x, rfl, I.hok.fresh (Nat.le_refl _), rfl, fun ys hy => by rw [I.tuple_inj hy hq]; exact hx⟩, ⟨⟨x', ?_⟩, hst'.1.at fun o q => (sb.2 it (Ne.symm hne)).trans q, hne⟩, fun b hb => ?_⟩
    · have e1 : ((i + 1 : Nat) : Int) = (i : Int) + 1 := by omega
      rw [e1]; exact he'
    · have hb' : b < s.heap.objs.size := by
        have e' : b = e ∨ b = it := by simpa using hb
        rcases e' with z | z
        · rw [z]; exact hel
        · rw [z]; exact hil
      rw [upd_ne (Nat.ne_of_lt hb')]
      exact (hf b hb).1
  done := by
    intro X hP hw hK hc i pins s σ H E I hf st hg
    subst hP hw hK
    obtain ⟨⟨old, he⟩, hit, hne⟩ := st
    obtain ⟨xs, hq, hx⟩ := hg
    obtain ⟨its, rv, p, hz⟩ := I.tuple hq
    obtain ⟨f0, f1, f2, f3, f4, f5⟩ := hf it (by simp)
    have hl := rv.length
    have D : Draws X.prog X.w X.A.in1 it [it, a] i (fun _ _ => True) (fun j h => j = i ∧ h.IsTupleIter it a j ∧ h.IsTuple a its.toArray) :=
      { live := fun _ _ st => let ⟨o, ho, _⟩ := st.2.1; ⟨o, ho⟩
        frame := fun _ _ _ st hk => ⟨st.1, st.2.1.at fun o e => hk it (by simp) o e, st.2.2.at fun o e => hk a (by simp) o e⟩
        item := fun j s' Q E' hj st hQ => absurd st.1 (Nat.ne_of_lt hj)
        done := fun s' Q E' st hE => wpAny_nextOf_tuple_end (I.ok.hd hc) st.2.1 st.2.2 (by simp; omega) hE }
    exact wpAny_pyNext_enum_endD D he ⟨rfl, hit, (show s.heap.IsTuple a its.toArray from p)⟩ fun h' eb => ⟨rfl, I.turned (t' := s.toks) (fun b o hb q => eb b o hb q) f0 f1 f3 f4 f5⟩
  self := fun A i s Q E st h => let ⟨⟨_, he⟩, _⟩ := st; wpAny_pyIter_enum he h
section
variable {K : PySem.W.Frag} {a : Addr} {xs : List V}
theorem walk_enumT : Walk (Itet K a) xs.length (fun H => SqT K H a xs) (YPair (fun i => some (.int (i : Nat))) (fun i => xs[i]?)) where
  goes := fun i H hi h => ⟨xs, xs[i], h, List.getElem?_eq_getElem hi⟩
  stops := fun H h => ⟨xs, h, Nat.le_refl _⟩
  yields := fun i H x H' _ h ⟨T, y, e1, e2, e3, e4⟩ => ⟨T, _, y, e1, e2, e3, rfl, e4 xs h⟩
end
theorem rd_at {H H' : Hp} {a : Addr} {u : HO} (h : ∀ o, H a = some o → H' a = some o) (r : Rd H a u) : Rd H' a u := r.imp (fun e => h _ e) fun ⟨ob, e⟩ => ⟨ob, h _ e⟩
/-- a list (true) or a tuple -/
def SqV (K : PySem.W.Frag) (H : Hp) (a : Addr) (xs : List V) : Bool → Prop
  | true => SqL K H a xs
  | false => SqT K H a xs
theorem SqV.mono {K : PySem.W.Frag} {H H' : Hp} {a : Addr} {xs : List V} {b : Bool} (s : Same H H') (h : SqV K H a xs b) : SqV K H' a xs b := by
  cases b with
  | true => exact s.seq h
  | false => exact Same.seqT s h
/-- enumerate of a list or of a tuple, one way on -/
def iEnumW (K : PySem.W.Frag) (ta : TA) : TI := fun σ H R => ta σ H fun vs H1 => ∃ (a : Addr) (xs : List V) (b : Bool) (ps : List Addr), vs = [.ref a] ∧ SqV K (hid ps H1) a xs b ∧ ∀ (J : It), Walk J xs.length (fun H => SqV K (hid ps H) a xs b) (YPair (fun i => some (.int (i : Nat))) (fun i => xs[i]?)) → R J H1
theorem pi_enumW {X : Cx} {e : Expr} {ta : TA} {p pos tpos : Pos} {elts : List Expr} {kk : Nat} (hg : Gl X "enumerate") (hm : X.mg "enumerate" = none) (ha : PA X [e] ta) (hs : starEach [e] X.env = [(false, eval e X.env)] := by rfl) :
    PI X (.Tuple elts kk tpos) (.Call (.Name "enumerate" p) [e] [] pos) (iEnumW X.K ta) := by
  refine ⟨fun pins s σ H R I h => ?_⟩
  refine Call_ (ld_blt I hg hm boot_enumerate (PyProof.Rows.callWith_type1 (thn (ha.run pos pins s σ H _ I h) fun us s1 ⟨vs, H1, I1, r1, q1⟩ => ?_) hs rfl))
  obtain ⟨a, xs, kb, ps, ex, hh, q⟩ := q1
  subst ex
  cases r1 with
  | cons r rr =>
    cases rr
    cases r
    have cells : ∀ b ∈ [s1.heap.objs.size + 1, s1.heap.objs.size], s1.heap.objs.size ≤ b := fun b hb => by
      have e' : b = s1.heap.objs.size + 1 ∨ b = s1.heap.objs.size := by simpa using hb
      rcases e' with z | z
      · rw [z]; exact Nat.le_add_right _ _
      · rw [z]; exact Nat.le_refl _
    cases kb with
    | true =>
      have hq := (hid_low ps H1).seq (show SqL X.K (hid ps H1) a xs from hh)
      obtain ⟨its, rv, p', hz⟩ := I1.list hq
      refine call_enumerate_list p'.isList fun h' he hit hsz hk => wpAny_pyIter_enum he ?_
      have I2 : Inv X pins σ H1 { s1 with heap := h' } := I1.kept (t' := s1.toks) hk
      exact ⟨s1.heap.objs.size + 1, [s1.heap.objs.size + 1, s1.heap.objs.size], _, _, H1, rfl, I2, turn_enum a (s1.heap.objs.size + 1) s1.heap.objs.size, ⟨⟨.none, he⟩, hit, Nat.succ_ne_self _⟩, fun b hb => I1.fpOk (cells b hb) (I1.hok.fresh (cells b hb)), q _ (walk_enum.mono (fun H' h => (hid_low ps H').seq h) fun _ _ _ _ _ _ y => y)⟩
    | false =>
      have hq := Same.seqT (hid_low ps H1) (show SqT X.K (hid ps H1) a xs from hh)
      obtain ⟨its, rv, p', hz⟩ := I1.tuple hq
      have hT : s1.heap.IsTuple a its.toArray := p'
      have hal : a < s1.heap.objs.size := by obtain ⟨o, ho, _⟩ := hT; exact Heap.lt_size ho
      refine call_enum1 (begins_tuple a its.toArray) hT fun h' he hit hsz hk => wpAny_pyIter_enum he ?_
      have I2 : Inv X pins σ H1 { s1 with heap := h' } := I1.kept (t' := s1.toks) hk
      exact ⟨s1.heap.objs.size + 1, [s1.heap.objs.size + 1, s1.heap.objs.size], _, _, H1, rfl, I2, turn_enumT a (s1.heap.objs.size + 1) s1.heap.objs.size (Nat.ne_of_lt hal) (Nat.ne_of_gt (Nat.lt_succ_of_lt hal)), ⟨⟨.none, he⟩, ⟨_, hit, rfl, rfl⟩, Nat.succ_ne_self _⟩, fun b hb => I1.fpOk (cells b hb) (I1.hok.fresh (cells b hb)), q _ (walk_enumT.mono (fun H' h => Same.seqT (hid_low ps H') h) fun _ _ _ _ _ _ y => y)⟩
end GB
set_option Elab.async false
set_option linter.all false
set_option maxRecDepth 100000
set_option maxHeartbeats 4000000
/-! Terms: a head word, a name, the terms within; their data, and what of them a ground asks. -/
namespace GB
open PySem PySem.Spec L2
inductive Tm where
  | mk (w n : Str) (ks : List Tm)
/-- the names that binds of drawn terms bind -/
def bnd : List Str := ["v", "w", "x", "if"]
def opsW : List (Str × Nat) := [("if", 3), ("and", 2), ("or", 2), ("not", 1), ("then", 2), ("try", 2), ("last", 2)]
/-- a text of one to eight letters a to z, by the package's own look -/
def signB (c : Nat) : Bool := !decide ([c] < [97]) && !decide ([122] < [c])
def nameB (s : Str) : Bool := decide (1 ≤ s.length ∧ s.length ≤ 8) && s.cps.toList.all signB
inductive HeadOk (L : List (Str × Nat)) (ns : List Str) : Str → Str → Nat → Prop
  | val {n} : nameB n = true → HeadOk L ns "value" n 0
  | fail {n} : nameB n = true → HeadOk L ns "fail" n 0
  | name {n} : nameB n = true → n ∈ ns → HeadOk L ns "name" n 0
  | use {n m} : (n, m) ∈ L → HeadOk L ns "use" n m
  | bind {n} : nameB n = true → True → HeadOk L ns "bind" n 2
  | op {w m} : (w, m) ∈ opsW → HeadOk L ns w "" m
/-- the names that are bound at a place within -/
def nsAt (w n : Str) (i : Nat) (ns : List Str) : List Str := if w = "bind" ∧ i = 1 then ns ++ [n] else ns
inductive TmOk (L : List (Str × Nat)) : List Str → Tm → Prop
  | mk {ns : List Str} {w n : Str} {ks : List Tm} : HeadOk L ns w n ks.length → (∀ (i : Nat) (k : Tm), ks[i]? = some k → TmOk L (nsAt w n i ns) k) → TmOk L ns (.mk w n ks)
def Seq (d : PyData) (ds : List PyData) : Prop := d = .list ds ∨ d = .tuple ds
/-- the data of a node of this head, over the data of the terms within -/
inductive NodeD : PyData → Str → Str → List PyData → Prop
  | val {d n} : Seq d [.str "value", .str n] → NodeD d "value" n []
  | fail {d n} : Seq d [.str "fail", .str n] → NodeD d "fail" n []
  | name {d n} : Seq d [.str "name", .str n] → NodeD d "name" n []
  | use {d e n ds} : Seq d [.str "use", .str n, e] → Seq e ds → NodeD d "use" n ds
  | bind {d n ds} : Seq d (.str "bind" :: .str n :: ds) → NodeD d "bind" n ds
  | op {d w m ds} : (w, m) ∈ opsW → Seq d (.str w :: ds) → NodeD d w "" ds
/-- data that are the term, of lists and tuples -/
inductive IsTm : PyData → Tm → Prop
  | mk {d : PyData} {w n : Str} {ds : List PyData} {ks : List Tm} : NodeD d w n ds → ds.length = ks.length → (∀ (i : Nat) (e : PyData) (k : Tm), ds[i]? = some e → ks[i]? = some k → IsTm e k) → IsTm d (.mk w n ks)
mutual
/-- the term's data, of tuples throughout -/
def Tm.d : Tm → PyData
  | .mk w n ks => if w = "use" then .tuple [.str w, .str n, .tuple (Tm.ds ks)] else if w = "bind" then .tuple (.str w :: .str n :: Tm.ds ks) else if w ∈ opsW.map (·.1) then .tuple (.str w :: Tm.ds ks) else .tuple [.str w, .str n]
def Tm.ds : List Tm → List PyData
  | [] => []
  | k :: ks => k.d :: Tm.ds ks
end
theorem ds_map : ∀ ks : List Tm, Tm.ds ks = ks.map Tm.d
  | [] => rfl
  | k :: r => by rw [Tm.ds, List.map_cons, ds_map r]
mutual
def Tm.size : Tm → Nat
  | .mk _ _ ks => Tm.sizes ks + 1
def Tm.sizes : List Tm → Nat
  | [] => 0
  | k :: r => k.size + Tm.sizes r
end
theorem sizes_mem : ∀ {ks : List Tm} {k : Tm}, k ∈ ks → k.size ≤ Tm.sizes ks
  | a :: r, k, h => by
    rw [Tm.sizes]
    rcases List.mem_cons.mp h with rfl | h
    · omega
    · have := sizes_mem h; omega
theorem size_pos (t : Tm) : 0 < t.size := by
  cases t; rw [Tm.size]; omega
theorem size_at {w n : Str} {ks : List Tm} {i : Nat} {k : Tm} (h : ks[i]? = some k) : k.size < (Tm.mk w n ks).size := by
  have := sizes_mem (List.mem_of_getElem? h)
  rw [Tm.size]; omega
/-- a node's own data are of the node -/
theorem nodeD_own {L : List (Str × Nat)} {ns : List Str} {w n : Str} {ks : List Tm} (h : HeadOk L ns w n ks.length) : NodeD (Tm.mk w n ks).d w n (ks.map Tm.d) := by
  rw [Tm.d, ds_map]
  have nil : ks.length = 0 → ks.map Tm.d = [] := fun e => by rw [List.eq_nil_of_length_eq_zero e]; rfl
  revert h nil
  generalize hm : ks.length = m
  intro h nil
  cases h with
  | val hn => rw [nil rfl]; exact .val (.inr (by simp +decide))
  | fail hn => rw [nil rfl]; exact .fail (.inr (by simp +decide))
  | name hn _ => rw [nil rfl]; exact .name (.inr (by simp +decide))
  | use hx => exact .use (.inr (by rw [if_pos rfl])) (.inr rfl)
  | bind hn _ => exact .bind (.inr (by simp +decide))
  | op ho =>
    refine .op ho (.inr ?_)
    have h1 : w ≠ "use" := fun e => by subst e; revert ho; simp +decide [opsW]
    have h2 : w ≠ "bind" := fun e => by subst e; revert ho; simp +decide [opsW]
    rw [if_neg h1, if_neg h2, if_pos (List.mem_map.mpr ⟨_, ho, rfl⟩)]
theorem isTm_own {L : List (Str × Nat)} {t : Tm} {ns : List Str} (h : TmOk L ns t) : IsTm t.d t := by
  induction h with
  | mk ho hk ih =>
    refine .mk (nodeD_own ho) (List.length_map _) fun i e k he hk' => ?_
    rw [List.getElem?_map, hk'] at he
    obtain rfl := Option.some.inj he
    exact ih i k hk'
/-! what stands in the heap -/
section
variable {K : PySem.W.Frag} {H : Hp}
def SqA (K : PySem.W.Frag) (H : Hp) (a : Addr) (xs : List V) : Prop := SqL K H a xs ∨ SqT K H a xs
theorem SqA.mono {H H' : Hp} (s : Same H H') {a : Addr} {xs : List V} (h : SqA K H a xs) : SqA K H' a xs := h.imp (fun h => s.seq h) (fun h => Same.seqT s h)
theorem dp_seq {v : V} {d : PyData} {ds : List PyData} (h : Dp K H v d) (e : Seq d ds) : ∃ p xs, v = .ref p ∧ SqA K H p xs ∧ DpAll K H xs ds := by
  rcases e with rfl | rfl
  · cases h with | lst h1 h2 => exact ⟨_, _, rfl, .inl h1, h2⟩
  · cases h with | tup h1 h2 => exact ⟨_, _, rfl, .inr h1, h2⟩
theorem dps_len : ∀ {xs : List V} {ds : List PyData}, DpAll K H xs ds → xs.length = ds.length
  | _, _, .nil => rfl
  | _, _, .cons _ h => by rw [List.length_cons, List.length_cons, dps_len h]
theorem dps_at : ∀ {xs : List V} {ds : List PyData} {i : Nat} {x : V}, DpAll K H xs ds → xs[i]? = some x → ∃ d, ds[i]? = some d ∧ Dp K H x d
  | _, _, 0, _, .cons h _, e => ⟨_, rfl, Option.some.inj e ▸ h⟩
  | _, _, i + 1, _, .cons _ h, e => dps_at (i := i) h e
theorem dps_str {xs : List V} {s : Str} {ds : List PyData} (h : DpAll K H xs (.str s :: ds)) : ∃ ys, xs = .str s :: ys ∧ DpAll K H ys ds := by
  cases h with
  | cons h1 h2 => cases h1; exact ⟨_, rfl, h2⟩
/-- what a node's value holds -/
inductive NodeV (K : PySem.W.Frag) (H : Hp) : Addr → Str → Str → List V → Prop
  | val {p n} : SqA K H p [.str "value", .str n] → NodeV K H p "value" n []
  | fail {p n} : SqA K H p [.str "fail", .str n] → NodeV K H p "fail" n []
  | name {p n} : SqA K H p [.str "name", .str n] → NodeV K H p "name" n []
  | use {p q n vs} : SqA K H p [.str "use", .str n, .ref q] → SqA K H q vs → NodeV K H p "use" n vs
  | bind {p n vs} : SqA K H p (.str "bind" :: .str n :: vs) → NodeV K H p "bind" n vs
  | op {p w m vs} : (w, m) ∈ opsW → SqA K H p (.str w :: vs) → NodeV K H p w "" vs
theorem nodeV {v : V} {d : PyData} {w n : Str} {ds : List PyData} (h : Dp K H v d) (e : NodeD d w n ds) : ∃ p vs, v = .ref p ∧ NodeV K H p w n vs ∧ DpAll K H vs ds := by
  cases e with
  | val e => obtain ⟨p, xs, rfl, hs, hd⟩ := dp_seq h e; obtain ⟨_, e1, hd1⟩ := dps_str hd; obtain ⟨_, e2, hd2⟩ := dps_str hd1; cases hd2; subst e2 e1; exact ⟨p, _, rfl, .val hs, .nil⟩
  | fail e => obtain ⟨p, xs, rfl, hs, hd⟩ := dp_seq h e; obtain ⟨_, e1, hd1⟩ := dps_str hd; obtain ⟨_, e2, hd2⟩ := dps_str hd1; cases hd2; subst e2 e1; exact ⟨p, _, rfl, .fail hs, .nil⟩
  | name e => obtain ⟨p, xs, rfl, hs, hd⟩ := dp_seq h e; obtain ⟨_, e1, hd1⟩ := dps_str hd; obtain ⟨_, e2, hd2⟩ := dps_str hd1; cases hd2; subst e2 e1; exact ⟨p, _, rfl, .name hs, .nil⟩
  | use e e2 =>
    obtain ⟨p, xs, rfl, hs, hd⟩ := dp_seq h e; obtain ⟨_, e1, hd1⟩ := dps_str hd; obtain ⟨_, e3, hd2⟩ := dps_str hd1
    subst e3 e1
    cases hd2 with
    | cons h1 h2 =>
      cases h2
      obtain ⟨q, vs, rfl, hq, hd⟩ := dp_seq h1 e2
      exact ⟨p, vs, rfl, .use hs hq, hd⟩
  | bind e => obtain ⟨p, xs, rfl, hs, hd⟩ := dp_seq h e; obtain ⟨_, e1, hd1⟩ := dps_str hd; obtain ⟨_, e2, hd2⟩ := dps_str hd1; subst e2 e1; exact ⟨p, _, rfl, .bind hs, hd2⟩
  | op ho e => obtain ⟨p, xs, rfl, hs, hd⟩ := dp_seq h e; obtain ⟨_, e1, hd1⟩ := dps_str hd; subst e1; exact ⟨p, _, rfl, .op ho hs, hd1⟩
theorem NodeV.mono {H H' : Hp} (s : Same H H') {p : Addr} {w n : Str} {vs : List V} (h : NodeV K H p w n vs) : NodeV K H' p w n vs := by
  cases h with
  | val h => exact .val (h.mono s)
  | fail h => exact .fail (h.mono s)
  | name h => exact .name (h.mono s)
  | use h h2 => exact .use (h.mono s) (h2.mono s)
  | bind h => exact .bind (h.mono s)
  | op ho h => exact .op ho (h.mono s)
end
end GB
set_option Elab.async false
set_option linter.all false
set_option maxRecDepth 100000
set_option maxHeartbeats 4000000
/-! x in o, x not in o: o of a class with its own def __contains__ that gives True or False. -/
namespace GB
open PySem PySem.Spec L2 PyProof.Rows
def rInOwn (C : Addr) (sp : Sp) (n : Bool) : R2 := fun x y H Q => ∃ a dx fs, y = .ref a ∧ H a = some (.ins C dx fs) ∧ sp [y, x] H (fun z H' => ∃ b, z = .bl b ∧ Q (.bl (n != b)) H') E0
section
variable {X : Cx} {CX : CXT} {k : Nat} {f C : Addr} {fd : FuncData} {ps : List Str} {sp : Sp}
theorem op_inOwn (hs : PySem.W.findIn X.K (.ref C) "__contains__" = some (some (.ref f))) (hf : PySem.W.isFn X.K (.ref f) = true) (F : FnOk X.prog X.w X.K X.mg X.base CX0 k f fd ps sp) (hr : Room k X.A) (hb : Binds X.K fd ps []) : OpR X (compareOp .In) (rInOwn C sp false) := by
  intro pins s σ H x y v u Q I rx ry h
  obtain ⟨a, dx, fs, rfl, ha, q⟩ := h
  cases (show u = Value.ref a from ry)
  obtain ⟨mA, O, _, _, _, _⟩ := ins_get I.hok ha
  obtain ⟨od, J, _⟩ := O.look
  obtain ⟨m, hF⟩ := I.fr
  refine PySem.W.in_K hF I.ok.mod.kin J hs hf ?_
  refine wpAny_mono (run_fn (us := [.ref a, v]) (vs := [.ref a, x]) F hr hb .nil pass0 I (.cons rfl (.cons rx .nil)) q) (fun w s' z => ?_) fun _ _ x => x
  obtain ⟨z', H', I', rz, b, eb, qz⟩ := z
  subst eb
  cases (show w = Value.bool b from rz)
  exact wpAny_truthy_bool ⟨.bl b, H', I', rfl, by simpa using qz⟩
theorem op_ninOwn (hs : PySem.W.findIn X.K (.ref C) "__contains__" = some (some (.ref f))) (hf : PySem.W.isFn X.K (.ref f) = true) (F : FnOk X.prog X.w X.K X.mg X.base CX0 k f fd ps sp) (hr : Room k X.A) (hb : Binds X.K fd ps []) : OpR X (compareOp .NotIn) (rInOwn C sp true) := by
  intro pins s σ H x y v u Q I rx ry h
  obtain ⟨a, dx, fs, rfl, ha, q⟩ := h
  cases (show u = Value.ref a from ry)
  obtain ⟨mA, O, _, _, _, _⟩ := ins_get I.hok ha
  obtain ⟨od, J, _⟩ := O.look
  obtain ⟨m, hF⟩ := I.fr
  refine PySem.W.notIn_K hF I.ok.mod.kin J hs hf ?_
  refine wpAny_mono (run_fn (us := [.ref a, v]) (vs := [.ref a, x]) F hr hb .nil pass0 I (.cons rfl (.cons rx .nil)) q) (fun w s' z => ?_) fun _ _ x => x
  obtain ⟨z', H', I', rz, b, eb, qz⟩ := z
  subst eb
  cases (show w = Value.bool b from rz)
  exact wpAny_truthy_bool ⟨.bl (!b), H', I', rfl, by simpa using qz⟩
end
end GB
set_option Elab.async false
set_option linter.all false
set_option maxRecDepth 100000
set_option maxHeartbeats 4000000
/-! Readings for nodes that are lists or tuples. -/
namespace GB
open PySem PySem.Spec L2
def nmd : List Str := ["value", "name", "fail"]
section
variable {K : PySem.W.Frag} {H : Hp} {Q : VK} {p : Addr} {xs : List V} {w n : Str} {vs : List V}
theorem ixA (h : SqA K H p xs) {v : V} (i : Nat) (e : xs[i]? = some v) (q : Q v H) : rIx K (.ref p) (.int (i : Int)) H Q := by
  rcases h with h | h
  · exact .inl ⟨p, xs, _, v, rfl, rfl, h, atI_nat e, q⟩
  · exact .inr (.inl ⟨p, xs, _, v, rfl, rfl, h, atI_nat e, q⟩)
/-- xs[k:] of a list or a tuple -/
def rSlAny (K : PySem.W.Frag) : V → Option Int → Option Int → Hp → VK → Prop := fun x lo hi H Q => rSlL K x lo hi H Q ∨ rSlA K x lo hi H Q
theorem sl_any {X : Cx} : SlR X (rSlAny X.K) := by
  intro pins s σ H x v vl vu lo hi sl Q I rx hs pl pu h
  rcases h with h | h
  · exact sl_list pins s σ H x v vl vu lo hi sl Q I rx hs pl pu h
  · exact sl_tupA pins s σ H x v vl vu lo hi sl Q I rx hs pl pu h
theorem slA (h : SqA K H p xs) (k : Nat) (q : ∀ b H', Same H H' → SqA K H' b (xs.drop k) → Q (.ref b) H') : rSlAny K (.ref p) (some (k : Int)) none H Q := by
  rcases h with h | h
  · refine .inl ⟨p, xs, rfl, h, fun a na => ?_⟩
    obtain ⟨H1, s1, h1, e1⟩ := lay (o := .lst (cutV xs (some (k : Int)) none)) na
    rw [e1]
    exact q a H1 s1 (by rw [← cut_from]; exact .inl (SqL.of h1))
  · refine .inr ⟨p, xs, rfl, h, fun hw => ?_, fun _ a na => ?_⟩
    · have h0 := hw.1
      rw [HT.sIx_nat] at h0
      have e : xs.drop k = xs := by
        by_cases hk : k = 0
        · rw [hk, List.drop_zero]
        · have : xs.length = 0 := by omega
          rw [List.eq_nil_of_length_eq_zero this, List.drop_nil]
      exact q p H (Same.refl _) (by rw [e]; exact .inr h)
    · obtain ⟨H1, s1, h1, e1⟩ := lay (o := .tup (cutV xs (some (k : Int)) none)) na
      rw [e1]
      exact q a H1 s1 (by rw [← cut_from]; exact .inr (SqT.of h1))
theorem same_hid0 {H : Hp} : Same H (hid [] H) := fun b o e => hid_to (by simp) e
theorem same_hid_new {H H' : Hp} {L : Addr} (n : H L = none) (s : Same H H') : Same H (hid [L] H') := fun b o e => hid_to (by
  intro m
  rw [List.mem_singleton.mp m, n] at e
  cases e) (s _ _ e)
theorem sqV {H : Hp} {a : Addr} {xs : List V} (h : SqA K H a xs) : ∃ b, SqV K H a xs b := h.elim (fun h => ⟨true, h⟩) (fun h => ⟨false, h⟩)
/-- of new objects, with some places hidden -/
theorem slH {ps : List Addr} (hp : ∀ q ∈ ps, ∃ o, H q = some o) (h : SqA K (hid ps H) p xs) (k : Nat) (q : ∀ b H', Same H H' → SqA K (hid ps H') b (xs.drop k) → Q (.ref b) H') : rSlAny K (.ref p) (some (k : Int)) none H Q := by
  have ni : ∀ {a : Addr}, H a = none → a ∉ ps := fun n m => by
    obtain ⟨o, e⟩ := hp _ m
    rw [n] at e
    cases e
  rcases h with h | h
  · refine .inl ⟨p, xs, rfl, (hid_low ps H).seq h, fun a na => ?_⟩
    obtain ⟨H1, s1, h1, e1⟩ := lay (o := .lst (cutV xs (some (k : Int)) none)) na
    rw [e1]
    exact q a H1 s1 (by rw [← cut_from]; exact .inl (SqL.of (hid_to (ni na) h1)))
  · refine .inr ⟨p, xs, rfl, Same.seqT (hid_low ps H) h, fun hw => ?_, fun _ a na => ?_⟩
    · have h0 := hw.1
      rw [HT.sIx_nat] at h0
      have e : xs.drop k = xs := by
        by_cases hk : k = 0
        · rw [hk, List.drop_zero]
        · have : xs.length = 0 := by omega
          rw [List.eq_nil_of_length_eq_zero this, List.drop_nil]
      exact q p H (Same.refl _) (by rw [e]; exact .inr h)
    · obtain ⟨H1, s1, h1, e1⟩ := lay (o := .tup (cutV xs (some (k : Int)) none)) na
      rw [e1]
      exact q a H1 s1 (by rw [← cut_from]; exact .inr (SqT.of (hid_to (ni na) h1)))
theorem NodeV.kind (h : NodeV K H p w n vs) : (w ∈ nmd ∧ vs = [] ∧ SqA K H p [.str w, .str n]) ∨ (w = "use" ∧ ∃ q, SqA K H p [.str w, .str n, .ref q] ∧ SqA K H q vs) ∨ (w = "bind" ∧ SqA K H p (.str w :: .str n :: vs)) ∨ ((∃ m, (w, m) ∈ opsW) ∧ n = "" ∧ SqA K H p (.str w :: vs)) := by
  cases h with
  | val h => exact .inl ⟨by decide, rfl, h⟩
  | fail h => exact .inl ⟨by decide, rfl, h⟩
  | name h => exact .inl ⟨by decide, rfl, h⟩
  | use h h2 => exact .inr (.inl ⟨rfl, _, h, h2⟩)
  | bind h => exact .inr (.inr (.inl ⟨rfl, h⟩))
  | op ho h => exact .inr (.inr (.inr ⟨⟨_, ho⟩, rfl, h⟩))
theorem ops_no : ∀ q ∈ opsW, q.1 ∉ nmd ∧ q.1 ≠ "use" ∧ q.1 ≠ "bind" := by decide
theorem decS (a b : Str) : decide (V.str a = V.str b) = decide (a = b) := by
  by_cases h : a = b
  · subst h; simp
  · rw [decide_eq_false h, decide_eq_false fun e => h (V.str.inj e)]
theorem decI (a b : Int) : decide (V.int a = V.int b) = decide (a = b) := by
  by_cases h : a = b
  · subst h; simp
  · rw [decide_eq_false h, decide_eq_false fun e => h (V.int.inj e)]
theorem tyS {a : Addr} {xs : List V} (h : SqA K H a xs) : ∃ t, (t = "list" ∨ t = "tuple") ∧ ∀ H', Same H H' → TyX K H' (.ref a) (.type t) := by
  rcases h with h | h
  · rcases h with (h | ⟨o, h⟩) | ⟨o, its, m, h, hc, _⟩
    · exact ⟨_, .inl rfl, fun H' s => .base (.lst (s _ _ h))⟩
    · exact ⟨_, .inl rfl, fun H' s => .base (.frz (s _ _ h))⟩
    · exact ⟨_, .inl rfl, fun H' s => .kList h hc⟩
  · rcases h with (h | ⟨o, h⟩) | ⟨o, its, m, h, hc, _⟩
    · exact ⟨_, .inr rfl, fun H' s => .base (.tup (s _ _ h))⟩
    · exact ⟨_, .inr rfl, fun H' s => .fTuple (s _ _ h)⟩
    · exact ⟨_, .inr rfl, fun H' s => .kTuple h hc⟩
theorem kit_seq {K : PySem.W.Frag} {t : String} (h : t = "list" ∨ t = "tuple") : PySem.W.kitAny K (.type t) [.type "list", .type "tuple"] = some true := by
  rcases h with rfl | rfl
  · exact kitAny_cons (b := true) (kit_ty (by decide +kernel)) (fun h => nomatch h) (fun _ => rfl)
  · exact kitAny_cons (b := false) (kit_ty (by decide +kernel)) (fun _ => kitAny_cons (b := true) (kit_ty (by decide +kernel)) (fun h => nomatch h) (fun _ => rfl)) (fun h => nomatch h)
/-- a node of this head over these terms' data, of tuples throughout -/
def nodeT (w n : Str) (ds : List PyData) : PyData := if w = "use" then .tuple [.str w, .str n, .tuple ds] else if w = "bind" then .tuple (.str w :: .str n :: ds) else if w ∈ opsW.map (·.1) then .tuple (.str w :: ds) else .tuple [.str w, .str n]
theorem d_node (w n : Str) (ks : List Tm) : (Tm.mk w n ks).d = nodeT w n (ks.map Tm.d) := by rw [Tm.d, ds_map]; rfl
end
end GB
set_option Elab.async false
set_option linter.all false
set_option maxRecDepth 100000
set_option maxHeartbeats 4000000
/-! Data of tuples, texts and ints alone do not rest on lists. -/
namespace GB
open PySem PySem.Spec L2
mutual
def tupO : PyData → Bool
  | .tuple ds => tupOs ds
  | .str _ => true
  | .int _ => true
  | _ => false
def tupOs : List PyData → Bool
  | [] => true
  | d :: r => tupO d && tupOs r
end
mutual
theorem tupO_d : ∀ t : Tm, tupO t.d = true
  | .mk w n ks => by
    rw [Tm.d]
    have h := tupO_ds ks
    split
    · simp [tupO, tupOs, h]
    · split
      · simp [tupO, tupOs, h]
      · split
        · simp [tupO, tupOs, h]
        · simp [tupO, tupOs]
theorem tupO_ds : ∀ ks : List Tm, tupOs (Tm.ds ks) = true
  | [] => rfl
  | k :: r => by rw [Tm.ds, tupOs, tupO_d k, tupO_ds r]; rfl
end
section
variable {K : PySem.W.Frag} {H : Hp} {ps : List Addr}
theorem sqT_hid (hl : ∀ p ∈ ps, ∃ xs, H p = some (.lst xs)) {a : Addr} {xs : List V} (h : SqT K H a xs) : SqT K (hid ps H) a xs := by
  have ni : ∀ o, H a = some o → (∀ ys, o ≠ .lst ys) → a ∉ ps := fun o e n m => by
    obtain ⟨ys, e2⟩ := hl a m
    rw [e] at e2
    exact n ys (Option.some.inj e2)
  rcases h with (h | ⟨o, h⟩) | h
  · exact .inl (.inl (hid_to (ni _ h (fun ys z => nomatch z)) h))
  · exact .inl (.inr ⟨o, hid_to (ni _ h (fun ys z => nomatch z)) h⟩)
  · exact .inr h
mutual
theorem dp_hid (hl : ∀ p ∈ ps, ∃ xs, H p = some (.lst xs)) : ∀ (d : PyData) (v : V), tupO d = true → Dp K H v d → Dp K (hid ps H) v d
  | .tuple ds, v, t, h => by
    cases h with
    | tup h1 h2 => exact .tup (sqT_hid hl h1) (dps_hid hl ds _ t h2)
  | .str _, v, _, h => by cases h; exact .str _
  | .int _, v, _, h => by cases h; exact .int _
  | .none, v, t, h => by cases t
  | .bool _, v, t, h => by cases t
  | .list _, v, t, h => by cases t
theorem dps_hid (hl : ∀ p ∈ ps, ∃ xs, H p = some (.lst xs)) : ∀ (ds : List PyData) (vs : List V), tupOs ds = true → DpAll K H vs ds → DpAll K (hid ps H) vs ds
  | [], vs, _, h => by cases h; exact .nil
  | d :: r, vs, t, h => by
    cases h with
    | cons h1 h2 =>
      rw [tupOs] at t
      obtain ⟨t1, t2⟩ := Bool.and_eq_true_iff.mp t
      exact .cons (dp_hid hl d _ t1 h1) (dps_hid hl r _ t2 h2)
end
end
theorem len_sizes : ∀ ks : List Tm, ks.length ≤ Tm.sizes ks
  | [] => Nat.le_refl _
  | k :: r => by
    have := len_sizes r
    have := size_pos k
    rw [Tm.sizes, List.length_cons]; omega
theorem catA {K : PySem.W.Frag} {H : Hp} {Q : VK} {a b : Addr} {xs ys : List V} (h1 : SqT K H a xs) (h2 : SqT K H b ys) (hl : xs.length + ys.length ≤ sizeLine) (q : ∀ p H', Same H H' → SqT K H' p (xs ++ ys) → Q (.ref p) H') : rCatA K (.ref a) (.ref b) H Q := by
  refine ⟨a, b, xs, ys, rfl, rfl, h1, h2, hl, fun e => ?_, fun _ e => ?_, fun _ _ p np => ?_⟩
  · subst e
    exact q b H (Same.refl _) h2
  · subst e
    exact q a H (Same.refl _) (by rw [List.append_nil]; exact h1)
  · obtain ⟨H1, s1, h1, e1⟩ := lay (o := .tup (xs ++ ys)) np
    rw [e1]
    exact q p H1 s1 (SqT.of h1)
theorem same_new {H : Hp} {D : Addr} {o : HO} (n : H D = none) : Same H (upd H D o) := fun b u e => by rw [upd_ne (ne_of_none e n)]; exact e
theorem take_at {α : Type} {l : List α} {i : Nat} {x : α} (h : l[i]? = some x) : l.take (i + 1) = l.take i ++ [x] := by
  obtain ⟨hi, rfl⟩ := List.getElem?_eq_some_iff.mp h
  exact List.take_succ_eq_append_getElem hi
end GB
set_option Elab.async false
set_option linter.all false
set_option maxRecDepth 100000
set_option maxHeartbeats 8000000
namespace GB
open PySem PySem.Spec L2
mutual
/-- the paths of all parts, a part ahead of those within it -/
def Tm.paths : Tm → List Nat → List (List Nat)
  | .mk _ _ ks, p => p :: Tm.pathsL ks p 0
def Tm.pathsL : List Tm → List Nat → Nat → List (List Nat)
  | [], _, _ => []
  | k :: r, p, i => k.paths (p ++ [i]) ++ Tm.pathsL r p (i + 1)
end
mutual
theorem paths_len : ∀ (t : Tm) (p : List Nat), (t.paths p).length = t.size
  | .mk _ _ ks, p => by rw [Tm.paths, Tm.size, List.length_cons, pathsL_len ks p 0]
theorem pathsL_len : ∀ (ks : List Tm) (p : List Nat) (i : Nat), (Tm.pathsL ks p i).length = Tm.sizes ks
  | [], _, _ => rfl
  | k :: r, p, i => by rw [Tm.pathsL, Tm.sizes, List.length_append, paths_len k, pathsL_len r]
end
theorem pathsL_app : ∀ (l : List Tm) (k : Tm) (p : List Nat) (i : Nat), Tm.pathsL (l ++ [k]) p i = Tm.pathsL l p i ++ k.paths (p ++ [i + l.length])
  | [], k, p, i => by simp [Tm.pathsL]
  | a :: r, k, p, i => by
    rw [List.cons_append, Tm.pathsL, Tm.pathsL, pathsL_app r k p (i + 1), List.append_assoc, List.length_cons]
    congr 4
    simp only [List.cons.injEq, and_true]
    omega
def pin (p : List Nat) : List V := p.map fun i : Nat => V.int (i : Int)
theorem sizes_app : ∀ a b : List Tm, Tm.sizes (a ++ b) = Tm.sizes a + Tm.sizes b
  | [], b => by rw [List.nil_append, Tm.sizes, Nat.zero_add]
  | k :: r, b => by rw [List.cons_append, Tm.sizes, Tm.sizes, sizes_app r b, Nat.add_assoc]
theorem sizes_take (ks : List Tm) (i : Nat) : Tm.sizes (ks.take i) ≤ Tm.sizes ks := by
  have := sizes_app (ks.take i) (ks.drop i)
  rw [List.take_append_drop] at this
  omega
def pathD (p : List Nat) : PyData := .tuple (p.map fun i : Nat => PyData.int (i : Int))
theorem tupO_path (p : List Nat) : tupO (pathD p) = true := by
  show tupOs (p.map fun i : Nat => PyData.int (i : Int)) = true
  induction p with
  | nil => rfl
  | cons i r ih => rw [List.map_cons, tupOs, ih]; rfl
theorem tupOs_paths (l : List (List Nat)) : tupOs (l.map pathD) = true := by
  induction l with
  | nil => rfl
  | cons p r ih => rw [List.map_cons, tupOs, ih, tupO_path]; rfl
theorem dps_pin {K : PySem.W.Frag} {H : Hp} : ∀ p : List Nat, DpAll K H (pin p) (p.map fun i : Nat => PyData.int (i : Int))
  | [] => .nil
  | i :: r => .cons (.int _) (dps_pin r)
end GB
set_option Elab.async false
set_option linter.all false
set_option maxRecDepth 100000
set_option maxHeartbeats 4000000
namespace GB
open PySem PySem.Spec L2 PyProof.Rows
/-! what is walked is a list or a tuple -/
def iSeqW (K : PySem.W.Frag) (te : TE) : TI := fun σ H R => te σ H fun v H1 => ∃ (a : Addr) (xs : List V) (b : Bool) (ps : List Addr), v = .ref a ∧ SqV K (hid ps H1) a xs b ∧ ∀ (J : It), Walk J xs.length (fun H => SqV K (hid ps H) a xs b) (YAt xs) → R J H1
theorem pi_seqW {X : Cx} {tg l : Expr} {tl : TE} (hl : PE X l tl) : PI X tg l (iSeqW X.K tl) := by
  refine ⟨fun pins s σ H R I h => ?_⟩
  refine thn (hl.run pins s σ H _ I h) fun v s1 ⟨x, H1, I1, r1, q1⟩ => ?_
  obtain ⟨a, xs, kb, ps, e, hh, q⟩ := q1
  subst e
  cases r1
  cases kb with
  | true =>
    have hq := (hid_low ps H1).seq (show SqL X.K (hid ps H1) a xs from hh)
    obtain ⟨its, rv, p, hz⟩ := I1.list hq
    refine wpAny_pyIter_list p.isList ?_
    refine ⟨s1.heap.objs.size, [s1.heap.objs.size], _, _, H1, rfl, I1.kept (t' := s1.toks) fun b o e => Heap.get?_push_of_some _ e, turn_list a _, ⟨_, Heap.get?_push_size _ rfl, rfl, rfl⟩, fun b hb => ?_, q _ (walk_list.mono (fun H' h => (hid_low ps H').seq h) fun _ _ _ _ _ _ y => y)⟩
    have e : b = s1.heap.objs.size := by simpa using hb
    subst e
    exact I1.fpOk (Nat.le_refl _) (I1.hok.fresh (Nat.le_refl _))
  | false =>
    have hq := Same.seqT (hid_low ps H1) (show SqT X.K (hid ps H1) a xs from hh)
    obtain ⟨its, rv, p, hz⟩ := I1.tuple hq
    refine wpAny_pyIter_tuple (show s1.heap.IsTuple a its.toArray from p) ?_
    refine ⟨s1.heap.objs.size, [s1.heap.objs.size], _, _, H1, rfl, I1.kept (t' := s1.toks) fun b o e => Heap.get?_push_of_some _ e, turn_tuple a _, ⟨_, Heap.get?_push_size _ rfl, rfl, rfl⟩, fun b hb => ?_, q _ (walk_tup.mono (fun H' h => Same.seqT (hid_low ps H') h) fun _ _ _ _ _ _ y => y)⟩
    have e : b = s1.heap.objs.size := by simpa using hb
    subst e
    exact I1.fpOk (Nat.le_refl _) (I1.hok.fresh (Nat.le_refl _))
/-! paths -/
def atP : Tm → List V → Option Tm
  | t, [] => some t
  | .mk _ _ ks, .int i :: r => if 0 ≤ i ∧ i < ks.length then (match ks[i.toNat]? with | some k => atP k r | none => none) else none
  | _, _ :: _ => none
theorem atP_app : ∀ (a b : List V) (t : Tm), atP t (a ++ b) = (atP t a).bind fun s => atP s b
  | [], b, t => rfl
  | y :: a, b, .mk w n ks => by
    cases y with
    | int i =>
      rw [List.cons_append]
      simp only [atP]
      split
      · cases ks[i.toNat]? with
        | none => rfl
        | some k => exact atP_app a b k
      · rfl
    | _ => rfl
inductive NumV (K : PySem.W.Frag) (H : Hp) : V → Prop
  | int (i : Int) : NumV K H (.int i)
  | no {y t b1 b2} : (∀ i, y ≠ .int i) → (∀ H', Same H H' → TyX K H' y t) → PySem.W.kitOne K t (.type "int") = some b1 → PySem.W.kitOne K t (.type "bool") = some b2 → (b1 && !b2) = false → NumV K H y
inductive PathX (K : PySem.W.Frag) (H : Hp) : V → Option (List V) → Prop
  | no {x t} : (∀ H', Same H H' → TyX K H' x t) → PySem.W.kitAny K t [.type "list", .type "tuple"] = some false → PathX K H x none
  | seq {p xs} : SqA K H p xs → (∀ y ∈ xs, NumV K H y) → PathX K H (.ref p) (some xs)
def atX (t : Tm) (o : Option (List V)) : Option Tm := o.bind (atP t)
def spInitE (C : Addr) (f : Str) : Sp := fun vs H Q _ => ∃ (a : Addr) (y : V), vs = [.ref a, y] ∧ H a = some (exo a C none) ∧ ∀ d, H d = none → d ≠ a → Q .non (upd (upd H d (exd d [(f, y)])) a (exo a C (some d)))
/-- an error class of the package, n, with one field f -/
structure ErrC (P : Program) (w : World) (K : PySem.W.Frag) (mg : Str → Option Value) (base : Heap) (n f : Str) (C : Addr) : Prop where
  gC : mg n = some (.ref C)
  T : OexC K C
  ini : ∃ (fI : Addr) (fd : FuncData), PySem.W.findIn K (.ref C) "__init__" = some (some (.ref fI)) ∧ PySem.W.typeIn K (.ref fI) = some (.type "function") ∧ FnOk P w K mg base CX0 1 fI fd ["self", f] (spInitE C f) ∧ Binds K fd ["self", f] []
theorem mk_err {C : Addr} {f : Str} {x : V} {H : Hp} {Q : XK} (q : ∀ d H', Same H H' → H' d = some (.xd [(f, x)]) → Q (.ref C) (some d) H') (a : Addr) (na : H a = none) :
    spInitE C f (.ref a :: ([x] ++ [])) (upd H a (exo a C none)) (fun v H2 => v = .non ∧ ∃ (d : Addr) (fs : List (Str × V)), H2 a = some (exo a C (some d)) ∧ H2 d = some (exd d fs) ∧ H d = none ∧ Q (.ref C) (some d) (upd (del H2 a) d (.xd fs))) (fun _ _ _ => False) := by
  refine ⟨a, x, rfl, upd_same, fun d nd ne => ⟨rfl, d, [(f, x)], upd_same, by rw [upd_ne ne]; exact upd_same, ?_, q d _ (fun b o e => ?_) upd_same⟩⟩
  · rw [upd_ne ne] at nd
    exact nd
  · have ba : b ≠ a := ne_of_none e na
    rw [upd_ne ne] at nd
    have bd : b ≠ d := ne_of_none e nd
    rw [upd_ne bd, del_ne ba, upd_ne ba, upd_ne bd, upd_ne ba]
    exact e
theorem NumV.mono {K : PySem.W.Frag} {H H' : Hp} (s : Same H H') {y : V} (h : NumV K H y) : NumV K H' y := by
  cases h with
  | int i => exact .int i
  | no h1 h2 h3 h4 h5 => exact .no h1 (fun H2 s2 => h2 H2 (s.trans s2)) h3 h4 h5
theorem PathX.mono {K : PySem.W.Frag} {H H' : Hp} (s : Same H H') {x : V} {o : Option (List V)} (h : PathX K H x o) : PathX K H' x o := by
  cases h with
  | no h1 h2 => exact .no (fun H2 s2 => h1 H2 (s.trans s2)) h2
  | seq h1 h2 => exact .seq (h1.mono s) fun y hy => (h2 y hy).mono s
end GB
set_option Elab.async false
set_option linter.all false
set_option maxRecDepth 100000
set_option maxHeartbeats 8000000
/-! what is looked up in the part of the heap behind the top, each kind of fact by one function to Bool -/
namespace FX
open PySem PySem.Spec PyProof.Rows L2 He GB
open PySem.W (findIn subIn typeIn keepIn nsIn Frag)
/-- an own error's class object -/
def errObj (K : Frag) (C : Addr) : Bool := match K.lookup C with
  | some ⟨.type "type", _, .cls cd, sl⟩ => (match cd.mro, sl.toList with
    | .ref D :: bm, [_, _, _, _, some (.builtin m), _] => D == C && (m == "ValueError.__new__" && (!cd.hasDel && (cd.hasDict && PySem.HandSPX.refsVE bm)))
    | _, _ => false)
  | _ => false
theorem errObj_ok {K : Frag} {C : Addr} (q : errObj K C = true) : ∃ nm qn N bs bm sn sub ab col dd k0 k1 k2 k3 k5, K.lookup C = some (excClassObj nm qn C N bs bm true sn sub ab col dd k0 k1 k2 k3 k5 "ValueError.__new__") ∧ PySem.HandSPX.refsVE bm = true := by
  unfold errObj at q
  split at q
  · rename_i dd cd sl ho
    split at q
    · rename_i D bm k0 k1 k2 k3 m k5 hm hs
      simp only [Bool.and_eq_true, beq_iff_eq, Bool.not_eq_true'] at q
      obtain ⟨e1, e2, e3, e4, e5⟩ := q
      subst e1 e2
      obtain ⟨nm, bs, mro, ns, qn, hd, sn, sub, ab, col, del⟩ := cd
      dsimp only at hm e3 e4
      subst hm e3 e4
      have hsl : sl = #[k0, k1, k2, k3, some (.builtin "ValueError.__new__"), k5] := by
        obtain ⟨l⟩ := sl
        simp only at hs
        rw [hs]
      subst hsl
      exact ⟨_, _, _, _, _, _, _, _, _, _, _, _, _, _, _, ho, e5⟩
    · cases q
  · cases q
def oexB (K : Frag) (C : Addr) : Bool := errObj K C && (eqO (findIn K (.ref C) "__setattr__") (some (some (.builtin "object.__setattr__"))) && (decide (subIn K (.ref C) (.type "BaseException") = some true) && (decide (typeIn K (.ref C) = some (.type "type")) && keepIn K (.ref C))))
theorem oex_of {K : Frag} {C : Addr} (q : oexB K C = true) : OexC K C := by
  obtain ⟨a1, q⟩ := ba q
  obtain ⟨a2, q⟩ := ba q
  obtain ⟨a3, q⟩ := ba q
  obtain ⟨a4, a5⟩ := ba q
  exact ⟨errObj_ok a1, eqO_ok a2, of_decide_eq_true a3, of_decide_eq_true a4, a5⟩
def blts : List Str := ["len", "int", "list", "tuple", "dict", "range", "sorted", "isinstance", "bool", "str", "all", "any", "enumerate"]
def freeB (K : Frag) (l : List Str) : Bool := l.all fun x => (Fa.free x).ok K
theorem free_of {K : Frag} {h : Heap} {mg : Str → Option Value} (X : K.In h) (G : h.Ns mainGlobals mg) {l : List Str} (q : freeB K l = true) {x : Str} (hx : x ∈ l) : mg x = none := free_ok X G (List.all_eq_true.mp q x hx)
theorem bl_of {K : Frag} {h : Heap} {mg : Str → Option Value} (X : K.In h) (G : h.Ns mainGlobals mg) (q : freeB K blts = true) : Bl mg := by
  have f : ∀ x ∈ blts, mg x = none := fun x hx => free_of X G q hx
  exact ⟨f _ (by simp [blts]), f _ (by simp [blts]), f _ (by simp [blts]), f _ (by simp [blts]), f _ (by simp [blts]), f _ (by simp [blts]), f _ (by simp [blts]), f _ (by simp [blts]), f _ (by simp [blts]), f _ (by simp [blts]), f _ (by simp [blts]), f _ (by simp [blts]), f _ (by simp [blts])⟩
theorem int_of {K : Frag} {h : Heap} {mg : Str → Option Value} (X : K.In h) (G : h.Ns mainGlobals mg) {x : Str} {i : Int} (q : (Fa.int x i).ok K = true) : ∃ u, mg x = some u ∧ RelV (.int i) u := by
  obtain ⟨t, e⟩ := int_ok X G q
  exact ⟨_, e, t, rfl⟩
/-- an own error's class with the field f -/
def xfieldB (K : Frag) (C : Addr) (f : Str) : Bool := oexB K C && (xfB K C && (eqO (findIn K (.ref C) f) (some none) && decide (PySem.W.exmOne K (.ref C) (.ref C) = some true)))
theorem xfield_of {K : Frag} {C : Addr} {f : Str} (q : xfieldB K C f = true) : OexC K C ∧ XfC K C ∧ findIn K (.ref C) f = some none ∧ PySem.W.exmOne K (.ref C) (.ref C) = some true := by
  obtain ⟨a1, q⟩ := ba q
  obtain ⟨a2, q⟩ := ba q
  obtain ⟨a3, a4⟩ := ba q
  exact ⟨oex_of a1, xfB_ok a2, eqO_ok a3, of_decide_eq_true a4⟩
/-- a plain class of the package -/
def clB (K : Frag) (C : Addr) : Bool := PySem.W.plainGet K C Str.empty && (PySem.W.hasDictIn K C && (PySem.W.plainOver K C && eqO (findIn K (.ref C) "__setattr__") (some (some (.builtin "object.__setattr__")))))
theorem cl_of {K : Frag} {C : Addr} (q : clB K C = true) : Cls K C := by
  obtain ⟨c1, q⟩ := ba q
  obtain ⟨c2, q⟩ := ba q
  obtain ⟨c3, c4⟩ := ba q
  exact ⟨c1, c2, c3, eqO_ok c4⟩
def noB (K : Frag) (C : Addr) (l : List Str) : Bool := l.all fun f => eqO (findIn K (.ref C) f) (some none)
theorem no_of {K : Frag} {C : Addr} {l : List Str} (q : noB K C l = true) {f : Str} (hf : f ∈ l) : NoAttr K C f := eqO_ok (List.all_eq_true.mp q f hf)
def mkB (K : Frag) (C f : Addr) : Bool := PySem.W.makesIn K C && (eqO (findIn K (.ref C) "__init__") (some (some (.ref f))) && (PySem.W.isFn K (.ref f) && keepIn K (.ref C)))
theorem mk_of {K : Frag} {C f : Addr} (q : mkB K C f = true) : Mk K C f := by
  obtain ⟨c1, q⟩ := ba q
  obtain ⟨c2, q⟩ := ba q
  obtain ⟨c3, c4⟩ := ba q
  exact ⟨c1, eqO_ok c2, c3, c4⟩
def methB (K : Frag) (C : Addr) (m : Str) (f : Addr) : Bool := eqO (findIn K (.ref C) m) (some (some (.ref f))) && (PySem.W.isFn K (.ref f) && keepIn K (.ref f))
theorem meth_of {K : Frag} {C : Addr} {m : Str} {f : Addr} (q : methB K C m f = true) : Meth K C m f := by
  obtain ⟨c1, q⟩ := ba q
  obtain ⟨c2, c3⟩ := ba q
  exact ⟨eqO_ok c1, c2, c3⟩
/-- a table of the module: its keys' words, their numbers -/
def dctB (K : Frag) (a : Addr) (l : List (Str × Nat)) : Bool := l.all fun q => match nsIn K a q.1 with
  | some (some u) => relB (.int (q.2 : Int)) u
  | _ => false
theorem dct_of {K : Frag} {a : Addr} {l : List (Str × Nat)} (h : dctB K a l = true) {q : Str × Nat} (hq : q ∈ l) : ∃ u, nsIn K a q.1 = some (some u) ∧ RelV (.int (q.2 : Int)) u := by
  have h2 := List.all_eq_true.mp h q hq
  cases e : nsIn K a q.1 with
  | none =>
    rw [e] at h2
    cases h2
  | some r =>
    rw [e] at h2
    cases r with
    | none => cases h2
    | some u => exact ⟨u, rfl, relB_ok h2⟩
/-- three defaults that are objects -/
def dfl3 (K : Frag) (dV : Value) : Option (Addr × Addr × Addr) := match dV with
  | .ref T => (match K.lookup T with
    | some ⟨_, _, .seq its _, _⟩ => (match its.toList with
      | [.ref a, .ref b, .ref c] => some (a, b, c)
      | _ => none)
    | _ => none)
  | _ => none
theorem dfl3_ok {K : Frag} {dV : Value} (h : (dfl3 K dV).isSome = true) : ∃ a b c, DflV K dV [.ref a, .ref b, .ref c] := by
  unfold dfl3 at h
  split at h
  · rename_i T
    split at h
    · rename_i oc od its n sl ho
      split at h
      · rename_i a b c hi
        refine ⟨a, b, c, .inr ⟨List.cons_ne_nil _ _, T, _, its.toList, n, rfl, ho, by simp, ?_⟩⟩
        rw [hi]
        exact .cons rfl (.cons rfl (.cons rfl .nil))
      · cases h
    · cases h
  · cases h
/-- the table of a code object that makes others -/
def ptOf (K : Frag) (c : Addr) : Addr := match K.lookup c with
  | some ⟨_, _, .fields vs, _⟩ => (match (vs[11]? : Option Value) with
    | some (Value.ref P) => P
    | _ => 0)
  | _ => 0
def isS : Value → Bool
  | .str _ _ => true
  | _ => false
def isI : Value → Bool
  | .int _ _ => true
  | _ => false
def isB : Value → Bool
  | .bool _ => true
  | _ => false
def codeB (K : Frag) (c P : Addr) : Bool := match K.lookup c with
  | some ⟨.type t, _, .fields vs, _⟩ => t == "code" && (decide (vs[11]? = some (.ref P)) && (isS (vs.getD 18 .none) && (isI (vs.getD 7 .none) && (isB (vs.getD 9 .none) && (isI (vs.getD 10 .none) && (!(c == P) && (K.lookup P).isNone))))))
  | _ => false
theorem codeB_ok {K : Frag} {h : Heap} (X : K.In h) {c P : Addr} (q : codeB K c P = true) : PySem.W.CodeHd h c P ∧ K.lookup P = none ∧ ∃ (e : Value) (dd : Option Addr) (vs : Array Value) (sl : Array (Option Value)), K.lookup c = some ⟨e, dd, .fields vs, sl⟩ ∧ vs[11]? = some (.ref P) := by
  unfold codeB at q
  split at q
  · rename_i t dd vs sl ho
    obtain ⟨a1, q⟩ := ba q
    obtain ⟨a2, q⟩ := ba q
    obtain ⟨a3, q⟩ := ba q
    obtain ⟨a4, q⟩ := ba q
    obtain ⟨a5, q⟩ := ba q
    obtain ⟨a6, q⟩ := ba q
    obtain ⟨a7, a8⟩ := ba q
    have e1 : t = "code" := beq_iff_eq.mp a1
    subst e1
    have e2 : vs[11]? = some (.ref P) := of_decide_eq_true a2
    have s3 : ∃ x tk, vs.getD 18 .none = .str x tk := by
      cases e : vs.getD 18 .none with
      | str x tk => exact ⟨x, tk, rfl⟩
      | _ => rw [e] at a3; cases a3
    have s4 : ∃ x tk, vs.getD 7 .none = .int x tk := by
      cases e : vs.getD 7 .none with
      | int x tk => exact ⟨x, tk, rfl⟩
      | _ => rw [e] at a4; cases a4
    have s5 : ∃ x, vs.getD 9 .none = .bool x := by
      cases e : vs.getD 9 .none with
      | bool x => exact ⟨x, rfl⟩
      | _ => rw [e] at a5; cases a5
    have s6 : ∃ x tk, vs.getD 10 .none = .int x tk := by
      cases e : vs.getD 10 .none with
      | int x tk => exact ⟨x, tk, rfl⟩
      | _ => rw [e] at a6; cases a6
    obtain ⟨x3, t3, h3⟩ := s3
    obtain ⟨x4, t4, h4⟩ := s4
    obtain ⟨x5, h5⟩ := s5
    obtain ⟨x6, t6, h6⟩ := s6
    have e7 : c ≠ P := fun z => by
      subst z
      rw [show (c == c) = true from beq_self_eq_true c] at a7
      cases a7
    have e8 : K.lookup P = none := Option.isNone_iff_eq_none.mp a8
    refine ⟨⟨_, vs, x3, t3, x4, t4, x5, x6, t6, X _ _ ho, rfl, rfl, e2, ?_, h3, h4, h5, h6, e7⟩, e8, _, _, vs, _, ho, e2⟩
    rw [Array.getD_eq_getD_getElem?, e2]
    rfl
  · cases q
/-- an own error's class whose __init__ keeps its one argument -/
theorem err_of {P : Program} {w : World} {K : Frag} {mg : Str → Option Value} {base : Heap} {n f : Str} {C fI : Addr} {fd : FuncData} (gC : mg n = some (.ref C)) (T : OexC K C) (iC : findIn K (.ref C) "__init__" = some (some (.ref fI))) (tI : typeIn K (.ref fI) = some (.type "function"))
    (F : FnOk P w K mg base CX0 1 fI fd ["self", f] (spInitE C f)) (b : Binds K fd ["self", f] []) : ErrC P w K mg base n f C := ⟨gC, T, fI, fd, iC, tI, F, b⟩
theorem FunD.ok0 {P : Program} {w : World} {K : Frag} {mg : Str → Option Value} {base : Heap} {x qual : Str} {params : Arguments} {body : List Stmt} {scope : Scope} {dvs : List V} {kws : List (Str × V)} {f : Addr} {fd : FuncData} {N ps : List Str} {k : Nat} {sp : Sp}
    (F : FunD K x qual params body scope dvs kws f fd) (S : FnScope N ps scope) (len : ∀ vs H Q E, sp vs H Q E → vs.length = ps.length)
    (hbody : ∀ (cdv : Value) (A : Around) (outer : List Env) (s : Shared) (H : Hp) (vs : List V) (Q : VK) (E : XK), Room k (A.deeper (envOfC qual scope s.heap.objs.size f cdv)) → sp vs H Q E →
      ∃ t, PSs (cxOf CX0 P w K mg base N qual scope f cdv A outer s H E).nox body t ∧ t { nx := fun _ H' => Q .non H', rt := Q } (start N vs) H) : FnOk P w K mg base CX0 (k + 1) f fd ps sp :=
  F.ok S len fun cdv A outer s H vs Q E hr hsp => let ⟨t, h, q⟩ := hbody cdv A outer s H vs Q E hr hsp; ⟨t, h.nox, q⟩
theorem tup_of {K : Frag} {h : Heap} {mg : Str → Option Value} (X : K.In h) (G : h.Ns mainGlobals mg) {x : Str} {vs : List Str} (q1 : (Fa.glo x).ok K = true) (q2 : tupB K x (vs.map Dv.str) = true) : ∃ a, mg x = some (.ref a) ∧ ∀ H, SqT K H a (sts vs) :=
  ⟨ga K x, glo_ok X G q1, fun H => by
    have e := tupB_ok q2 H
    rw [List.map_map] at e
    exact e⟩
end FX
set_option Elab.async false
set_option linter.all false
set_option maxRecDepth 100000
set_option maxHeartbeats 4000000
namespace K7
open PySem L2 GB
def topS (i : Nat) : Stmt := PySem.Challenge.pw_freeworldrules_k07_permits_made.main.body.getD i (.Pass ⟨0, 0, 0, 0⟩)
abbrev sCell : Stmt := topS 34
abbrev sPool : Stmt := topS 35
abbrev sTake : Stmt := topS 36
abbrev sMixed : Stmt := topS 37
abbrev sOne : Stmt := topS 38
section
variable {P : Program} {w : World} {K : PySem.W.Frag} {mg : Str → Option Value} {base : Heap}
theorem plq {H : Hp} {Q : VK} {p : Addr} {a b : Int} (hp : H p = none) (q : ∀ p H', H p = none → Same H H' → PoolIs H' p 0 → Q (.ref p) H') (h1 : 0 ≤ a) (h2 : 0 ≤ b) (h3 : b < 1000000007) : Q (.ref p) (upd H p (.lst (poolV a b 0))) :=
  q p _ hp (fun c o e => by rw [upd_ne (ne_of_none e hp)]; exact e) ⟨a, b, 0, upd_same, h1, h2, h3, Int.le_refl 0, Int.le_refl 0⟩
theorem tkq {H : Hp} {Q : VK} {p : Addr} {m r a b c : Int} {n : Nat} (q : ∀ (r : Nat) H', (r : Int) < m → Bt [p] H H' → PoolIs H' p (n + 1) → Q (.int r) H') (r0 : 0 ≤ r) (r1 : r < m) (h1 : 0 ≤ a) (h2 : 0 ≤ b) (h3 : b < 1000000007) (h4 : 0 ≤ c) (h5 : c ≤ ((n + 1 : Nat) : Int)) :
    Q (.int r) (upd H p (.lst (poolV a b c))) := by
  obtain ⟨j, rfl⟩ : ∃ j : Nat, r = j := ⟨r.toNat, by omega⟩
  exact q j _ r1 (bt_upd List.mem_cons_self) ⟨a, b, c, upd_same, h1, h2, h3, h4, h5⟩
theorem scCell : FnScope ["_law_script", "_law_k"] ["_law_script", "_law_k"] (defScope sCell) := ⟨rfl, rfl, rfl, by decide +kernel, rfl, by decide +kernel, by decide +kernel⟩
theorem ok_cell {f : Addr} {fd : FuncData} (F : Fun K "_law_cell" "_law_cell" sCell f fd) (T : Bl mg) : FnOk P w K mg base CX0 1 f fd ["_law_script", "_law_k"] (GB.spCell K) := by
  refine F.ok scCell (fun vs H Q E h => ?_) (fun cdv A outer s H vs Q E hr h => ?_)
  · obtain ⟨a, ns, k, rfl, _⟩ := h
    rfl
  · obtain ⟨a, ns, k, rfl, hS, q⟩ := h
    refine ⟨_, pss_cons (ps_if (pt_cmpR op_lt (pv 1) (pe_callB call_len_seq (by rfl) T.len PySem.boot_len (pa_cons (pv 0) pa_nil)) (nomark _))
      (pss_one (ps_ret (pe_ix ix_list (pv 0) (pv 1) (fun _ _ => rfl)))) pss_nil) (pss_one (ps_ret pe_int)), ?_⟩
    refine ⟨_, rfl, _, rfl, a, _, rfl, .inl hS, _, _, rfl, rfl, _, rfl, ?_⟩
    by_cases c : (k : Int) < ((ns.map V.int).length : Int)
    · rw [decide_eq_true c]
      refine iteT ?_
      have hk : k < ns.length := by rw [List.length_map] at c; omega
      exact ⟨_, rfl, _, rfl, a, _, _, .int ns[k], rfl, rfl, hS, atI_nat (by simp [hk]), q _⟩
    · rw [decide_eq_false c]
      exact iteF (q 0)
theorem scPool : FnScope ["_law_grain", "_law_folded"] ["_law_grain"] (defScope sPool) := ⟨rfl, rfl, rfl, by decide +kernel, rfl, by decide +kernel, by decide +kernel⟩
theorem ok_pool {f : Addr} {fd : FuncData} (F : Fun K "_law_pool" "_law_pool" sPool f fd) (T : Bl mg) : FnOk P w K mg base CX0 1 f fd ["_law_grain"] spPool := by
  refine F.ok scPool (fun vs H Q E h => ?_) (fun cdv A outer s H vs Q E hr h => ?_)
  · obtain ⟨g, rfl, _⟩ := h
    rfl
  · obtain ⟨g, rfl, q⟩ := h
    refine ⟨_, pss_cons (ps_set (i := 1) scPool.nd rfl (.inl rfl) (pe_op op_mul pe_int (pv 0)))
      (pss_cons (ps_if (pt_cmpR op_lt (pv 0) pe_int (nomark _)) (pss_one (ps_set (i := 1) scPool.nd rfl (.inl rfl) (pe_op op_sub (pe_op op_sub pe_int (pe_op op_mul pe_int (pv 0))) pe_int))) pss_nil)
      (pss_cons (ps_if (pt_cmpR op_ge (pv 1) (pe_op op_pow pe_int pe_int) (nomark _))
        (pss_one (ps_ret (pe_lst (pa_cons (pv 1) (pa_cons (pe_op op_mod (pe_callTy call_int1 (by rfl) T.int (by decide +kernel) (pa_cons (pv 1) pa_nil)) pe_int) (pa_cons pe_int pa_nil)))))) pss_nil)
      (pss_one (ps_ret (pe_lst (pa_cons pe_int (pa_cons (pe_op op_mod (pe_callTy call_int1 (by rfl) T.int (by decide +kernel) (pa_cons (pv 1) pa_nil)) pe_int) (pa_cons pe_int pa_nil)))))))), ?_⟩
    have fin : ∀ f : Int, 0 ≤ f → ∀ p, H p = none → Q (.ref p) (upd H p (.lst [.int f, .int (f % 1000000007), .int 0])) := fun f hf p hp =>
      plq hp q hf (Int.emod_nonneg _ (by decide)) (Int.emod_lt_of_pos _ (by decide))
    have fin0 : ∀ f : Int, ∀ p, H p = none → Q (.ref p) (upd H p (.lst [.int 0, .int (f % 1000000007), .int 0])) := fun f p hp =>
      plq hp q (by decide) (Int.emod_nonneg _ (by decide)) (Int.emod_lt_of_pos _ (by decide))
    refine ⟨_, rfl, _, _, rfl, rfl, .inl ⟨by decide, by decide⟩, ?_⟩
    refine ⟨_, rfl, _, _, rfl, rfl, _, rfl, ?_⟩
    by_cases c0 : g < 0
    · rw [decide_eq_true c0]
      refine iteT ?_
      refine ⟨_, rfl, _, _, rfl, rfl, .inl ⟨by decide, by decide⟩, _, _, rfl, rfl, _, _, rfl, rfl, ?_⟩
      refine ⟨_, rfl, _, _, rfl, rfl, ⟨by decide, by decide, by decide⟩, _, _, rfl, rfl, _, rfl, ?_⟩
      refine ite2 (fun _ => ?_) (fun _ => ?_)
      · exact ⟨_, rfl, _, rfl, .inl ⟨_, rfl, _, _, rfl, rfl, (by show (0 : Int) < 1000000007; decide), (by show 3 ≤ sizeLine; decide), fin _ (by omega)⟩⟩
      · exact ⟨_, rfl, .inl ⟨_, rfl, _, _, rfl, rfl, (by show (0 : Int) < 1000000007; decide), (by show 3 ≤ sizeLine; decide), fin0 _⟩⟩
    · rw [decide_eq_false c0]
      refine iteF ?_
      refine ⟨_, rfl, _, _, rfl, rfl, ⟨by decide, by decide, by decide⟩, _, _, rfl, rfl, _, rfl, ?_⟩
      refine ite2 (fun _ => ?_) (fun _ => ?_)
      · exact ⟨_, rfl, _, rfl, .inl ⟨_, rfl, _, _, rfl, rfl, (by show (0 : Int) < 1000000007; decide), (by show 3 ≤ sizeLine; decide), fin _ (by omega)⟩⟩
      · exact ⟨_, rfl, .inl ⟨_, rfl, _, _, rfl, rfl, (by show (0 : Int) < 1000000007; decide), (by show 3 ≤ sizeLine; decide), fin0 _⟩⟩
theorem scTake : FnScope ["_law_pool_here", "_law_many", "_law_draw", "_law_mixed_here"] ["_law_pool_here", "_law_many"] (defScope sTake) := ⟨rfl, rfl, rfl, by decide +kernel, rfl, by decide +kernel, by decide +kernel⟩
theorem ok_take {f : Addr} {fd : FuncData} (F : Fun K "_law_take" "_law_take" sTake f fd) (T : Bl mg) : FnOk P w K mg base CX0 1 f fd ["_law_pool_here", "_law_many"] spTake := by
  refine F.ok scTake (fun vs H Q E h => ?_) (fun cdv A outer s H vs Q E hr h => ?_)
  · obtain ⟨p, m, n, rfl, _⟩ := h
    rfl
  · obtain ⟨p, m, n, rfl, m0, m1, hn, ⟨a, b, c, hp, a0, b0, b1, c0, c1⟩, q⟩ := h
    refine ⟨_, pss_cons (ps_if (pt_cmpR op_gt (pe_ix ix_list (pv 0) pe_int (fun _ _ => rfl)) pe_int (nomark _))
        (pss_cons (ps_set (i := 2) scTake.nd rfl (.inl rfl) (pe_op op_mod (pe_callTy call_int1 (by rfl) T.int (by decide +kernel) (pa_cons (pe_ix ix_list (pv 0) pe_int (fun _ _ => rfl)) pa_nil)) (pv 1)))
        (pss_cons (ps_asg (pe_op op_fdiv (pe_ix ix_list (pv 0) pe_int (fun _ _ => rfl)) (pv 1)) (pg_sub (pv 0) pe_int set_list))
        (pss_one (ps_ret (pv 2))))) pss_nil)
      (pss_cons (ps_asg (pe_op op_add (pe_ix ix_list (pv 0) pe_int (fun _ _ => rfl)) pe_int) (pg_sub (pv 0) pe_int set_list))
      (pss_cons (ps_set (i := 3) scTake.nd rfl (.inl rfl) (pe_op op_mod (pe_callTy call_int1 (by rfl) T.int (by decide +kernel) (pa_cons
          (pe_op op_pow (pe_op op_add (pe_op op_add (pe_ix ix_list (pv 0) pe_int (fun _ _ => rfl)) (pe_op op_mul pe_int (pe_ix ix_list (pv 0) pe_int (fun _ _ => rfl)))) pe_int) pe_int) pa_nil)) pe_int))
      (pss_one (ps_ret (pe_op op_mod (pe_op op_mod (pe_callTy call_int1 (by rfl) T.int (by decide +kernel) (pa_cons
          (pe_op op_mul (pe_op op_add (pv 3) (pe_ix ix_list (pv 0) pe_int (fun _ _ => rfl))) pe_int) pa_nil)) pe_int) (pv 1)))))), ?_⟩
    have g0 : ∀ {x y z : Int} {H : Hp}, H p = some (.lst (poolV x y z)) → SqL K H p (poolV x y z) := fun h => SqL.of h
    refine ⟨_, rfl, p, _, 0, _, rfl, rfl, g0 hp, atI_nat (j := 0) rfl, _, _, rfl, rfl, _, rfl, ?_⟩
    by_cases ca : 0 < a
    · rw [decide_eq_true ca]
      refine iteT ?_
      refine ⟨_, rfl, p, _, 0, _, rfl, rfl, g0 hp, atI_nat (j := 0) rfl, .inl ⟨_, rfl, _, rfl, _, _, rfl, rfl, m0, ?_⟩⟩
      refine ⟨_, rfl, p, _, 0, _, rfl, rfl, g0 hp, atI_nat (j := 0) rfl, _, rfl, _, _, rfl, rfl, ⟨m0, by omega⟩, ?_⟩
      refine ⟨_, rfl, p, _, 0, 0, rfl, rfl, hp, rfl, _, rfl, ?_⟩
      exact tkq q (Int.emod_nonneg _ (by omega)) (Int.emod_lt_of_pos _ m0) (Int.ediv_nonneg a0 (by omega)) b0 b1 c0 (by omega)
    · rw [decide_eq_false ca]
      refine iteF ?_
      refine ⟨_, rfl, p, _, 2, _, rfl, rfl, g0 hp, atI_nat (j := 2) rfl, _, _, rfl, rfl, ?_⟩
      refine ⟨_, rfl, p, _, 2, 2, rfl, rfl, hp, rfl, ?_⟩
      have h1 : (upd H p (.lst (poolV a b (c + 1)))) p = some (.lst (poolV a b (c + 1))) := upd_same
      refine ⟨_, rfl, p, _, 1, _, rfl, rfl, g0 h1, atI_nat (j := 1) rfl, _, rfl, p, _, 2, _, rfl, rfl, g0 h1, atI_nat (j := 2) rfl, _, _, rfl, rfl, .inl ⟨by decide, by decide⟩, _, _, rfl, rfl, _, _, rfl, rfl, _, _, rfl, rfl, ⟨by decide, by decide, ?_⟩, .inl ⟨_, rfl, _, _, rfl, rfl, (by show (0 : Int) < 2147483647; decide), ?_⟩⟩
      · show (b + 7919 * (c + 1) + 104729).natAbs < 2 ^ 64
        omega
      · refine ⟨_, rfl, _, rfl, p, _, 2, _, rfl, rfl, g0 h1, atI_nat (j := 2) rfl, _, _, rfl, rfl, _, _, rfl, rfl, .inr ⟨by decide, by decide⟩, .inl ⟨_, rfl, _, _, rfl, rfl, (by show (0 : Int) < 2147483629; decide), _, rfl, _, _, rfl, rfl, m0, ?_⟩⟩
        exact tkq q (Int.emod_nonneg _ (by omega)) (Int.emod_lt_of_pos _ m0) a0 b0 b1 (by omega) (by omega)
theorem scMixed : FnScope ["_law_pool_here", "_law_things", "_law_left", "_law_found", "_law_k", "_law_at"] ["_law_pool_here", "_law_things"] (defScope sMixed) := ⟨rfl, rfl, rfl, by decide +kernel, rfl, by decide +kernel, by decide +kernel⟩
theorem ok_mixed {f : Addr} {fd : FuncData} (F : Fun K "_law_mixed" "_law_mixed" sMixed f fd) (T : Bl mg) (TK : Fns P w K mg base "_law_take" 1 ["_law_pool_here", "_law_many"] spTake) : FnOk P w K mg base CX0 2 f fd ["_law_pool_here", "_law_things"] (spMixed K) := by
  refine F.ok scMixed (fun vs H Q E h => ?_) (fun cdv A outer s H vs Q E hr h => ?_)
  · obtain ⟨p, t, xs, n, rfl, _⟩ := h
    rfl
  · obtain ⟨p, t, xs, n, rfl, hS, hx, hn, hP, q⟩ := h
    refine ⟨_, pss_cons (ps_set (i := 2) scMixed.nd rfl (.inl rfl) (pe_callTy call_list_of (by rfl) T.list (by decide +kernel) (pa_cons (pv 1) pa_nil)))
      (pss_cons (ps_set (i := 3) scMixed.nd rfl (.inl rfl) (pe_lst pa_nil))
      (pss_cons (ps_for PassesOwn.never rfl (pi_range1 rfl T.range (pa_cons (pe_callB call_len_seq (by rfl) T.len PySem.boot_len (pa_cons (pv 1) pa_nil)) pa_nil)) (pg_name (i := 4) scMixed.nd rfl (.inl rfl))
        (pss_cons (ps_set (i := 5) scMixed.nd rfl (.inl rfl) (pe_fn TK hr (by decide) rfl (pa_cons (pv 0) (pa_cons (pe_callB call_len_seq (by rfl) T.len PySem.boot_len (pa_cons (pv 2) pa_nil)) pa_nil))))
        (pss_cons (ps_expr (pe_bm PySem.F.plainAttrs_list PySem.F.slot_list_append PySem.F.type_list_append mt_append (pv 3) (pa_cons (pe_ix ix_list (pv 2) (pv 5) (fun _ _ => rfl)) pa_nil)))
        (pss_one (ps_set (i := 2) scMixed.nd rfl (.inl rfl) (pe_op op_cat (pe_slice sl_list (pv 2) po_none (po_some (pv 5))) (pe_slice sl_list (pv 2) (po_some (pe_op op_add (pv 5) pe_int)) po_none)))))))
      (pss_one (ps_ret (pv 3))))), ?_⟩
    have hS0 := (hid_low [p] H).seq hS
    refine ⟨_, rfl, t, xs, rfl, .inl hS0, fun l nl => ?_⟩
    obtain ⟨H1, s1, h1, e1⟩ := lay (o := .lst xs) nl
    rw [e1]
    refine ⟨by show 0 ≤ sizeLine; decide, fun f nf => ?_⟩
    obtain ⟨H2, s2, h2, e2⟩ := lay (o := .lst []) nf
    rw [e2]
    have lf : l ≠ f := ne_of_none h1 nf
    have lp : l ≠ p := hP.ne nl
    have P2 : PoolIs H2 p n := hP.mono (s1.trans s2) (Nat.le_refl _)
    have fp : f ≠ p := (hP.mono s1 (Nat.le_refl _)).ne nf
    have nfH : H f = none := s1.free nf
    refine ⟨_, rfl, t, xs, rfl, .inl ((s1.trans s2).seq hS0), xs.length, rfl, by omega, by omega, for_range (lo := 0) (n := xs.length) (fun k σ H' => ∃ l left fs o4 o5, σ = [some (.ref p), some (.ref t), some (.ref l), some (.ref f), o4, o5] ∧ Bt [p] H H' ∧ H' f = some (.lst fs) ∧
        H' l = some (.lst left) ∧ l ≠ f ∧ l ≠ p ∧ (fs ++ left).Perm xs ∧ left.length + k = xs.length ∧ PoolIs H' p (n + k)) ⟨l, xs, [], none, none, rfl, bt_of (s1.trans s2), h2, s2 _ _ h1, lf, lp, List.Perm.refl _, rfl, P2⟩ ?_ ?_⟩
    · rintro k σ H3 hk ⟨l, left, fs, o4, o5, rfl, b3, hf, hl, lf, lp, hperm, hlen, P3⟩
      refine ⟨_, rfl, _, rfl, l, left, rfl, .inl (SqL.of hl), p, _, n + k, rfl, (by show (0 : Int) < (left.length : Int); omega), (by show (left.length : Int) < 1000000; omega), by omega, P3, fun r H4 hr' b4 P4 => ?_⟩
      have hl4 := bt_at b4 (ni1 lp) hl
      have hf4 := bt_at b4 (ni1 fp) hf
      have hr2 : r < left.length := by have := hr'; omega
      have hv : left[r]? = some left[r] := List.getElem?_eq_getElem hr2
      have hfl : fs.length ≤ 60 := by
        have := hperm.length_eq
        rw [List.length_append] at this
        omega
      refine ⟨_, rfl, .inl ⟨rfl, _, SqL.of hf4⟩, _, rfl, _, rfl, l, left, _, left[r], rfl, rfl, SqL.of hl4, atI_nat hv, f, fs, left[r], rfl, rfl, hf4, (by rw [sizeLine_eq]; omega), ?_⟩
      obtain ⟨H5, b5, h5, e5⟩ : ∃ H5, (∀ b o, b ≠ f → H4 b = some o → H5 b = some o) ∧ H5 f = some (.lst (fs ++ [left[r]])) ∧ upd H4 f (.lst (fs ++ [left[r]])) = H5 := ⟨upd H4 f (.lst (fs ++ [left[r]])), fun b o z e => by rw [upd_ne z]; exact e, upd_same, rfl⟩
      rw [e5]
      have hl5 := b5 _ _ lf hl4
      refine ⟨_, rfl, _, rfl, _, rfl, l, left, rfl, SqL.of hl5, fun c1 n1 => ?_⟩
      obtain ⟨H6, s6, h6, e6⟩ := lay (o := .lst (cutV left none (some (r : Int)))) n1
      rw [e6]
      refine ⟨_, rfl, _, rfl, _, _, rfl, rfl, _, rfl, l, left, rfl, SqL.of (s6 _ _ hl5), fun c2 n2 => ?_⟩
      obtain ⟨H7, s7, h7, e7⟩ := lay (o := .lst (cutV left (some (((r + 1 : Nat) : Int))) none)) n2
      rw [show ((r : Int) + 1) = ((r + 1 : Nat) : Int) from rfl, e7]
      rw [cut_from] at h7
      rw [cut_to _ _ (Nat.le_of_lt hr2)] at h6
      refine ⟨c1, c2, _, _, rfl, rfl, s7 _ _ h6, h7, (by rw [List.length_take, List.length_drop, sizeLine_eq]; omega), fun c3 n3 => ?_⟩
      obtain ⟨H8, s8, h8, e8⟩ := lay (o := .lst (left.take r ++ left.drop (r + 1))) n3
      rw [e8]
      have f5 : H7 f = some _ := s7 _ _ (s6 _ _ h5)
      have s58 : Same H5 H8 := (s6.trans s7).trans s8
      obtain ⟨x, y, z, hp4, pr⟩ := id P4
      have hp5 : H5 p = some (.lst (poolV x y z)) := b5 _ _ fp.symm hp4
      refine ⟨c3, left.take r ++ left.drop (r + 1), fs ++ [left[r]], _, _, rfl, ?_, s8 _ _ f5, h8, (ne_of_none f5 n3).symm, (ne_of_none (s7 _ _ (s6 _ _ hp5)) n3).symm, (perm_out fs hv).trans hperm, ?_, ⟨x, y, z, s58 _ _ hp5, pr⟩⟩
      · intro b o e
        obtain ⟨e', m⟩ := hid_in e
        have hbf : b ≠ f := ne_of_none e' nfH
        exact hid_to m (s58 _ _ (b5 _ _ hbf (bt_at b4 m (bt_at b3 m e'))))
      · rw [List.length_append, List.length_take, List.length_drop]; omega
    · rintro σ H3 ⟨l, left, fs, o4, o5, rfl, b3, hf, hl, lf, lp, hperm, hlen, P3⟩
      have : left = [] := List.eq_nil_of_length_eq_zero (by omega)
      subst this
      rw [List.append_nil] at hperm
      exact ⟨_, rfl, q f fs H3 hperm nfH b3 hf (P3.mono (Same.refl _) (by omega))⟩
theorem scOne : FnScope ["_law_pool_here", "_law_things"] ["_law_pool_here", "_law_things"] (defScope sOne) := ⟨rfl, rfl, rfl, by decide +kernel, rfl, by decide +kernel, by decide +kernel⟩
theorem ok_one {f : Addr} {fd : FuncData} (F : Fun K "_law_one" "_law_one" sOne f fd) (T : Bl mg) (TK : Fns P w K mg base "_law_take" 1 ["_law_pool_here", "_law_many"] spTake) : FnOk P w K mg base CX0 2 f fd ["_law_pool_here", "_law_things"] (spOne K) := by
  refine F.ok scOne (fun vs H Q E h => ?_) (fun cdv A outer s H vs Q E hr h => ?_)
  · obtain ⟨p, t, xs, n, rfl, _⟩ := h
    rfl
  · obtain ⟨p, t, xs, n, rfl, hS, hx, hx2, hn, hP, q⟩ := h
    refine ⟨_, pss_one (ps_ret (pe_ix ix_list (pv 1) (pe_fn TK hr (by decide) rfl (pa_cons (pv 0) (pa_cons (pe_callB call_len_seq (by rfl) T.len PySem.boot_len (pa_cons (pv 1) pa_nil)) pa_nil))) (fun _ _ => rfl))), ?_⟩
    have hS0 := (hid_low [p] H).seq hS
    have l0 : 0 < xs.length := List.length_pos_iff.mpr hx
    refine ⟨_, rfl, _, rfl, _, rfl, t, xs, rfl, .inl hS0, p, _, n, rfl, (by show (0 : Int) < (xs.length : Int); omega), (by show (xs.length : Int) < 1000000; omega), by omega, hP, fun r H4 hr' b4 P4 => ?_⟩
    have hr2 : r < xs.length := by have := hr'; omega
    exact ⟨t, xs, _, xs[r], rfl, rfl, (hid_low [p] H4).seq (b4.seq hS), atI_nat (List.getElem?_eq_getElem hr2), q _ H4 (List.getElem_mem hr2) b4 P4⟩
end
end K7
set_option Elab.async false
set_option linter.all false
set_option maxRecDepth 100000
set_option maxHeartbeats 4000000
/-! A name by the words of texts. -/
namespace GB
open PySem PySem.Spec L2 PyProof.Rows
theorem asc : ∀ c < 128, (Unicode.isAlpha c && !(Unicode.isUpper c || Unicode.isTitle c)) = signB c ∧ (signB c = true → Unicode.isLower c = true) := by decide +kernel
theorem sign_lt {c : Nat} (h : signB c = true) : c < 128 := by
  unfold signB at h
  simp only [Bool.and_eq_true, Bool.not_eq_true', decide_eq_false_iff_not] at h
  have h2 := h.2
  simp only [List.cons_lt_cons_iff] at h2
  omega
theorem nameB_words (s : Str) : nameB s = (decide (1 ≤ s.length ∧ s.length ≤ 8) && (Txt.isascii s && (Txt.isalpha s && Txt.islower s))) := by
  unfold nameB Txt.isascii Txt.isalpha Txt.islower
  by_cases h : 1 ≤ s.length ∧ s.length ≤ 8
  · rw [decide_eq_true h, Bool.true_and, Bool.true_and]
    have hn : decide (s.length > 0) = true := decide_eq_true (by omega)
    rw [hn, Bool.true_and]
    apply Bool.eq_iff_iff.mpr
    simp only [Bool.and_eq_true, Array.all_eq_true', Array.any_eq_true', List.all_eq_true, Bool.not_eq_true', decide_eq_true_eq, Array.mem_toList_iff, Array.any_eq_false', Bool.or_eq_true, not_or]
    constructor
    · intro ha
      refine ⟨fun c hc => sign_lt (ha c hc), fun c hc => ?_, ?_, fun c hc => ?_⟩
      · have := (asc c (sign_lt (ha c hc))).1
        rw [ha c hc] at this
        exact (Bool.and_eq_true_iff.mp this).1
      · have hs : 0 < s.cps.size := h.1
        refine ⟨s.cps[0], Array.getElem_mem hs, ?_⟩
        exact (asc _ (sign_lt (ha _ (Array.getElem_mem hs)))).2 (ha _ (Array.getElem_mem hs))
      · have := (asc c (sign_lt (ha c hc))).1
        rw [ha c hc] at this
        have := (Bool.and_eq_true_iff.mp this).2
        simpa using this
    · rintro ⟨h1, h2, _, h3⟩ c hc
      rw [← (asc c (h1 c hc)).1, h2 c hc]
      have := h3 c hc
      simp [this.1, this.2]
  · rw [decide_eq_false h, Bool.false_and, Bool.false_and]
end GB
set_option Elab.async false
set_option linter.all false
set_option maxRecDepth 100000
set_option maxHeartbeats 8000000
namespace K7
open PySem PySem.Spec L2 GB
abbrev sIsL : Stmt := topS 10
abbrev sIsN : Stmt := topS 11
abbrev sIsNm : Stmt := topS 12
def spIsL (K : PySem.W.Frag) : Sp := fun vs H Q _ => ∃ x t b, vs = [x] ∧ (∀ H', Same H H' → TyX K H' x t) ∧ PySem.W.kitAny K t [.type "list", .type "tuple"] = some b ∧ ∀ H', Same H H' → Q (.bl b) H'
def spIsN (K : PySem.W.Frag) : Sp := fun vs H Q _ => ∃ x t b1 b2, vs = [x] ∧ TyX K H x t ∧ PySem.W.kitOne K t (.type "int") = some b1 ∧ PySem.W.kitOne K t (.type "bool") = some b2 ∧ Q (.bl (b1 && !b2)) H
def spIsNm (K : PySem.W.Frag) : Sp := fun vs H Q _ => ∃ x, vs = [x] ∧ ((∃ s : Str, x = .str s ∧ s.length ≤ sizeLine ∧ ∀ H', Same H H' → Q (.bl (nameB s)) H') ∨ (∃ t, TyX K H x t ∧ PySem.W.kitOne K t (.type "str") = some false ∧ Q (.bl false) H))
section
variable {P : Program} {w : World} {K : PySem.W.Frag} {mg : Str → Option Value} {base : Heap}
theorem scIsL : FnScope ["thing"] ["thing"] (defScope sIsL) := ⟨rfl, rfl, rfl, by decide +kernel, rfl, by decide +kernel, by decide +kernel⟩
theorem scIsN : FnScope ["thing"] ["thing"] (defScope sIsN) := ⟨rfl, rfl, rfl, by decide +kernel, rfl, by decide +kernel, by decide +kernel⟩
theorem scIsNm : FnScope ["thing"] ["thing"] (defScope sIsNm) := ⟨rfl, rfl, rfl, by decide +kernel, rfl, by decide +kernel, by decide +kernel⟩
theorem ok_isL {f : Addr} {fd : FuncData} (F : Fun K "is_list" "is_list" sIsL f fd) (T : Bl mg) : FnOk P w K mg base CX0 1 f fd ["thing"] (spIsL K) := by
  refine F.ok scIsL (fun vs H Q E h => ?_) (fun cdv A outer s H vs Q E hr h => ?_)
  · obtain ⟨x, t, b, rfl, _⟩ := h
    rfl
  · obtain ⟨x, t, b, rfl, ht, hb, q⟩ := h
    refine ⟨_, pss_one (ps_ret (pe_callB call_isiT (by rfl) T.isi (by decide +kernel) (pa_cons (pv 0) (pa_cons (pe_tup (pa_cons (pe_bltn (v := .ty "list") (by rfl) T.list (by decide +kernel) rfl) (pa_cons (pe_bltn (v := .ty "tuple") (by rfl) T.tuple (by decide +kernel) rfl) (pa_nil)))) (pa_nil))))), ?_⟩
    refine ⟨_, rfl, by show 2 ≤ sizeLine; decide, fun p np => ?_⟩
    obtain ⟨H1, s1, h1, e1⟩ := lay (o := .tup [.ty "list", .ty "tuple"]) np
    rw [e1]
    exact ⟨x, p, _, t, _, b, rfl, h1, .cons (.ty "list") (.cons (.ty "tuple") .nil), ht _ s1, hb, q _ s1⟩
theorem ok_isN {f : Addr} {fd : FuncData} (F : Fun K "is_number" "is_number" sIsN f fd) (T : Bl mg) : FnOk P w K mg base CX0 1 f fd ["thing"] (spIsN K) := by
  refine F.ok scIsN (fun vs H Q E h => ?_) (fun cdv A outer s H vs Q E hr h => ?_)
  · obtain ⟨x, t, b1, b2, rfl, _⟩ := h
    rfl
  · obtain ⟨x, t, b1, b2, rfl, ht, h1, h2, q⟩ := h
    refine ⟨_, pss_one (ps_ret (pe_and (pe_callB call_isi (by rfl) T.isi (by decide +kernel) (pa_cons (pv 0) (pa_cons (pe_bltn (v := .ty "int") (by rfl) T.int (by decide +kernel) rfl) (pa_nil)))) (pe_one (pe_not (pe_callB call_isi (by rfl) T.isi (by decide +kernel) (pa_cons (pv 0) (pa_cons (pe_bltn (v := .ty "bool") (by rfl) T.bool (by decide +kernel) rfl) (pa_nil)))))))), ?_⟩
    refine ⟨_, rfl, x, .ty "int", t, .type "int", b1, rfl, .ty "int", ht, h1, b1, rfl, ?_⟩
    cases b1 with
    | true => exact ⟨_, rfl, x, .ty "bool", t, .type "bool", b2, rfl, .ty "bool", ht, h2, b2, rfl, q⟩
    | false => exact q
theorem ok_isNm {f : Addr} {fd : FuncData} (F : Fun K "is_name" "is_name" sIsNm f fd) (T : Bl mg) (M : ∃ u, mg "MOST_SIGNS" = some u ∧ RelV (.int 8) u) : FnOk P w K mg base CX0 1 f fd ["thing"] (spIsNm K) := by
  obtain ⟨uM, gM, rM⟩ := M
  refine F.ok scIsNm (fun vs H Q E h => ?_) (fun cdv A outer s H vs Q E hr h => ?_)
  · obtain ⟨x, rfl, _⟩ := h
    rfl
  · obtain ⟨x, rfl, h⟩ := h
    refine ⟨_, pss_one (ps_ret (pe_and (pe_callB call_isi (by rfl) T.isi (by decide +kernel) (pa_cons (pv 0) (pa_cons (pe_bltn (v := .ty "str") (by rfl) T.str (by decide +kernel) rfl) (pa_nil)))) (pe_and (pe_chain op_le op_le (pe_int) (pe_callB call_len_str (by rfl) T.len PySem.boot_len (pa_cons (pv 0) (pa_nil))) (pe_glob rfl gM rM)) (pe_and (pe_bm0 PySem.F.plainAttrs_str PySem.F.slot_str_isascii PySem.F.type_str_isascii mt_isascii (pv 0)) (pe_and (pe_bm0 PySem.F.plainAttrs_str PySem.F.slot_str_isalpha PySem.F.type_str_isalpha mt_isalpha (pv 0)) (pe_one (pe_bm0 PySem.F.plainAttrs_str PySem.F.slot_str_islower PySem.F.type_str_islower mt_islower (pv 0)))))))), ?_⟩
    rcases h with ⟨z, rfl, hz, q⟩ | ⟨t, ht, hk, q⟩
    · have q := q H (Same.refl _)
      rw [nameB_words] at q
      refine ⟨_, rfl, .str z, .ty "str", .type "str", .type "str", true, rfl, .ty "str", .base (.str z), kit_ty (by decide +kernel), true, rfl, ?_⟩
      refine iteT ?_
      refine ⟨_, rfl, _, rfl, hz, _, _, rfl, rfl, _, rfl, ?_⟩
      by_cases c1 : (1 : Int) ≤ (z.length : Int)
      · rw [decide_eq_true c1]
        refine iteT ?_
        refine ⟨_, _, rfl, rfl, _, rfl, ?_⟩
        by_cases c2 : (z.length : Int) ≤ 8
        · rw [decide_eq_true c2]
          refine iteT ?_
          rw [decide_eq_true ⟨by omega, by omega⟩, Bool.true_and] at q
          refine ⟨_, rfl, rfl, _, rfl, rfl, trivial, _, rfl, ?_⟩
          cases ha : Txt.isascii z with
          | false => rw [ha] at q; exact iteF q
          | true =>
            rw [ha, Bool.true_and] at q
            refine iteT ?_
            refine ⟨_, rfl, rfl, _, rfl, rfl, trivial, _, rfl, ?_⟩
            cases hb : Txt.isalpha z with
            | false => rw [hb] at q; exact iteF q
            | true =>
              rw [hb, Bool.true_and] at q
              refine iteT ?_
              exact ⟨_, rfl, rfl, _, rfl, rfl, trivial, q⟩
        · rw [decide_eq_false c2]
          refine iteF ?_
          rw [decide_eq_false (fun h => c2 (by omega)), Bool.false_and] at q
          exact q
      · rw [decide_eq_false c1]
        refine iteF ?_
        refine ⟨_, rfl, ?_⟩
        rw [decide_eq_false (fun h => c1 (by omega)), Bool.false_and] at q
        exact iteF q
    · refine ⟨_, rfl, x, .ty "str", t, .type "str", false, rfl, .ty "str", ht, hk, false, rfl, ?_⟩
      exact iteF q
end
end K7
set_option Elab.async false
set_option linter.all false
set_option maxRecDepth 100000
set_option maxHeartbeats 4000000
namespace GB
open PySem PySem.Spec L2
def ks3 : List Str := ["value", "value", "fail"]
def en2 : List Str := ["one", "false"]
/-- a new thing behind a list's end -/
theorem ni3 {a p t e : Addr} (h1 : a ≠ p) (h2 : a ≠ t) (h3 : a ≠ e) : a ∉ [p, t, e] := by
  intro m
  simp only [List.mem_cons, List.not_mem_nil, or_false] at m
  rcases m with rfl | rfl | rfl
  · exact h1 rfl
  · exact h2 rfl
  · exact h3 rfl
theorem bt3 {p t e : Addr} {H H' : Hp} (s : Bt [p] H H') : Bt [p, t, e] H H' := bt_weak (fun q hq => by
  rw [List.mem_singleton.mp hq]; exact List.mem_cons_self) s
/-- if key not in seen: seen.append(key); end = (..); facts.append(..) -/
theorem fact_tail {K : PySem.W.Frag} {p tA eA kT L Dv : Addr} {x : Str} {l vs : List Str} {ts ks : List Addr} {as : List (Str × List Str)} {N : Nat} {s1 s2 s3 s4 s5 s7 s10 s13 s14 : Option V} {H : Hp} {D : Ends}
    (P : PoolIs H p N) (hN : N + 2 ≤ 1000000) (hT : H tA = some (.lst (ts.map V.ref))) (hE : H eA = some (.lst (ks.map V.ref))) (tp : tA ≠ p) (ep : eA ≠ p) (te : tA ≠ eA) (lt : ts.length ≤ 100) (lk : ks.length ≤ 100)
    (hk : H kT = some (.tup [.str x, .ref L])) (hL : H L = some (.lst (sts l))) (Lp : L ∉ [p, tA, eA]) (hD : H Dv = some (.lst (sts vs))) (Dp_ : Dv ∉ [p, tA, eA])
    (hs : DpAll K (hid [p, tA, eA] H) (ks.map V.ref) (as.map kd)) (oks : ∀ a ∈ as, OkS a) (okx : OkS (x, l))
    (same : (x, l) ∈ as → D.nx [some (.ref p), s1, s2, s3, s4, s5, some (.str x), s7, some (.ref tA), some (.ref eA), s10, some (.ref Dv), some (.ref kT), s13, s14] H)
    (more : (x, l) ∉ as → ∀ (H' : Hp) (t : Addr) (kk en : Str) (s13' : Option V), Bt [p, tA, eA] H H' → H' tA = some (.lst ((ts ++ [t]).map V.ref)) → H' eA = some (.lst ((ks ++ [kT]).map V.ref)) → FactAt (hid [p, tA, eA] H') ⟨x, vs, kk, en⟩ t → DpAll K (hid [p, tA, eA] H') ((ks ++ [kT]).map V.ref) ((as ++ [(x, l)]).map kd) →
      (kk = "value" ∨ kk = "fail") → (en = "one" ∨ en = "false") → PoolIs H' p (N + 2) → D.nx [some (.ref p), s1, s2, s3, s4, s5, some (.str x), s7, some (.ref tA), some (.ref eA), s10, some (.ref Dv), some (.ref kT), s13', s14] H') :
    tIfS (tTest (tOp (rNotInD K) (tVar 12) (tVar 9)))
      (tSeq (tDrop (tBM K "list" rAppend (tVar 9) (tCons (tVar 12) tNil)))
        (tSeq (tAsg (tTup (tCons (tCall (spOne K) [] E0 (tCons (tVar 0) (tCons (tLst (tCons (tC (.str "value")) (tCons (tC (.str "value")) (tCons (tC (.str "fail")) tNil)))) tNil)))
            (tCons (tCall (spOne K) [] E0 (tCons (tVar 0) (tCons (tLst (tCons (tC (.str "one")) (tCons (tC (.str "false")) tNil))) tNil))) tNil))) (gName 13))
          (tDrop (tBM K "list" rAppend (tVar 8) (tCons (tTup (tCons (tVar 6) (tCons (tCB (fun xs H Q => ∃ p ys, xs = [.ref p] ∧ ((SqL K H p ys ∧ ∀ l, H l = none → Q (.ref l) (upd H l (.tup ys))) ∨ (SqT K H p ys ∧ Q (.ref p) H))) (tCons (tVar 11) tNil)) (tCons (tVar 13) tNil)))) tNil)))))
      tNext D [some (.ref p), s1, s2, s3, s4, s5, some (.str x), s7, some (.ref tA), some (.ref eA), s10, some (.ref Dv), some (.ref kT), s13, s14] H := by
  have hk' : kT ∉ [p, tA, eA] := by
    obtain ⟨a, b, c, hp, _⟩ := P
    exact ni3 (ne_of hk hp (by intro z; cases z)) (ne_of hk hT (by intro z; cases z)) (ne_of hk hE (by intro z; cases z))
  have dk : Dp K (hid [p, tA, eA] H) (.ref kT) (kd (x, l)) := .tup (SqT.of (hid_to hk' hk)) (.cons (.str x) (.cons (.lst (SqL.of (hid_to Lp hL)) (dp_sts l)) .nil))
  refine ⟨_, rfl, _, rfl, kd (x, l), as.map kd, dp_mono (hid_low _ _) dk, .lst (SqL.of hE) (dps_mono (hid_low _ _) hs), sh_kd okx, sh_kds oks, _, rfl, ?_⟩
  rw [any_kd]
  by_cases c : (x, l) ∈ as
  · rw [decide_eq_true c]
    exact iteF (same c)
  · rw [decide_eq_false c]
    refine iteT ?_
    refine ⟨_, rfl, .inl ⟨rfl, _, SqL.of hE⟩, _, rfl, eA, _, _, rfl, rfl, hE, (by rw [List.length_map, sizeLine_eq]; omega), ?_⟩
    obtain ⟨H1, b1, h1, e1⟩ : ∃ H1, (∀ b o, b ≠ eA → H b = some o → H1 b = some o) ∧ H1 eA = some (.lst ((ks ++ [kT]).map V.ref)) ∧ upd H eA (.lst (ks.map V.ref ++ [.ref kT])) = H1 :=
      ⟨upd H eA (.lst (ks.map V.ref ++ [.ref kT])), fun b o z e => by rw [upd_ne z]; exact e, by rw [upd_same, List.map_append]; rfl, rfl⟩
    rw [e1]
    have B1 : Bt [p, tA, eA] H H1 := by rw [← e1]; exact bt_upd (by simp)
    have P1 : PoolIs H1 p N := by
      obtain ⟨a, b, c, hp, r⟩ := P
      exact ⟨a, b, c, b1 _ _ ep.symm hp, r⟩
    have hT1 := b1 _ _ te hT
    refine ⟨_, rfl, by show 3 ≤ sizeLine; decide, fun v3 n3 => ?_⟩
    obtain ⟨H2, s2', h2, e2⟩ := lay (o := .lst [.str "value", .str "value", .str "fail"]) n3
    rw [e2]
    have P2 := P1.mono s2' (Nat.le_refl _)
    refine ⟨p, v3, sts ks3, N, rfl, SqL.of (hid_to (ni1 (P1.ne n3)) h2), (fun z => nomatch z), by decide, by omega, P2, fun v H3 hv B3 P3 => ?_⟩
    obtain ⟨kk, hkk, rfl⟩ := mem_sts hv
    refine ⟨_, rfl, by show 2 ≤ sizeLine; decide, fun v2 n2 => ?_⟩
    obtain ⟨H4, s4', h4, e4⟩ := lay (o := .lst [.str "one", .str "false"]) n2
    rw [e4]
    have P4 := P3.mono s4' (Nat.le_refl _)
    refine ⟨p, v2, sts en2, N + 1, rfl, SqL.of (hid_to (ni1 (P3.ne n2)) h4), (fun z => nomatch z), by decide, by omega, P4, fun v H5 hv' B5 P5 => ?_⟩
    obtain ⟨en, hen, rfl⟩ := mem_sts hv'
    refine ⟨by show 2 ≤ sizeLine; decide, fun eT neT => ?_⟩
    obtain ⟨H6, s6, h6, e6⟩ := lay (o := .tup [.str kk, .str en]) neT
    rw [e6]
    have B16 : Bt [p] H1 H6 := ((bt_of s2').trans B3).trans (((bt_of s4').trans B5).trans (bt_of s6))
    have hT6 := bt_at B16 (ni1 tp) hT1
    have hE6 := bt_at B16 (ni1 ep) h1
    have B06 : Bt [p, tA, eA] H H6 := B1.trans (bt3 B16)
    have hD6 := bt_at B06 Dp_ hD
    refine ⟨_, rfl, .inl ⟨rfl, _, SqL.of hT6⟩, _, rfl, _, rfl, Dv, _, rfl, .inl ⟨SqL.of hD6, fun vT nvT => ?_⟩⟩
    obtain ⟨H7, s7', h7, e7⟩ := lay (o := .tup (sts vs)) nvT
    rw [e7]
    refine ⟨_, rfl, by show 3 ≤ sizeLine; decide, fun t nt => ?_⟩
    obtain ⟨H8, s8, h8, e8⟩ := lay (o := .tup [.str x, .ref vT, .ref eT]) nt
    rw [e8]
    have hT8 := s8 _ _ (s7' _ _ hT6)
    refine ⟨tA, _, _, rfl, rfl, hT8, (by rw [List.length_map, sizeLine_eq]; omega), ?_⟩
    obtain ⟨H9, b9, h9, e9⟩ : ∃ H9, (∀ b o, b ≠ tA → H8 b = some o → H9 b = some o) ∧ H9 tA = some (.lst ((ts ++ [t]).map V.ref)) ∧ upd H8 tA (.lst (ts.map V.ref ++ [.ref t])) = H9 :=
      ⟨upd H8 tA (.lst (ts.map V.ref ++ [.ref t])), fun b o z e => by rw [upd_ne z]; exact e, by rw [upd_same, List.map_append]; rfl, rfl⟩
    rw [e9]
    have B89 : Bt [p, tA, eA] H8 H9 := by rw [← e9]; exact bt_upd (by simp)
    have B09 : Bt [p, tA, eA] H H9 := B06.trans ((bt_of (s7'.trans s8)).trans B89)
    have P8 := P5.mono ((s6.trans s7').trans s8) (Nat.le_refl _)
    obtain ⟨a, b, c', hp8, pr8⟩ := id P8
    have tup_ni : ∀ {q : Addr} {o : List V}, H8 q = some (.tup o) → q ∉ [p, tA, eA] := fun h => ni3 (ne_of h hp8 (by intro z; cases z)) (ne_of h hT8 (by intro z; cases z)) (ne_of h (s8 _ _ (s7' _ _ hE6)) (by intro z; cases z))
    have up9 : ∀ {q : Addr} {o : List V}, H8 q = some (.tup o) → hid [p, tA, eA] H9 q = some (.tup o) := fun h => B89 _ _ (hid_to (tup_ni h) h)
    refine more c H9 t kk en _ B09 h9 (b9 _ _ te.symm (s8 _ _ (s7' _ _ hE6))) ⟨vT, eT, up9 h8, up9 (s8 _ _ h7), up9 (s8 _ _ (s7' _ _ h6))⟩ ?_ ?_ ?_ ⟨a, b, c', b9 _ _ tp.symm hp8, pr8⟩
    · rw [List.map_append, List.map_append]
      exact dps_app (dps_mono B09 hs) (.cons (dp_mono B09 dk) .nil)
    · simp only [ks3, List.mem_cons, List.not_mem_nil, or_false] at hkk
      rcases hkk with rfl | rfl | rfl
      · exact .inl rfl
      · exact .inl rfl
      · exact .inr rfl
    · simp only [en2, List.mem_cons, List.not_mem_nil, or_false] at hen
      exact hen
end GB
set_option Elab.async false
set_option linter.all false
set_option maxRecDepth 100000
set_option maxHeartbeats 4000000
/-! Rules that the layer lacks: sorted of a tuple of texts. -/
namespace GB
open PySem PySem.Spec PyProof.Rows L2
section
variable {prog : Program} {w : World} {A : Around} {E : Value → Shared → Prop} {s : Shared}
theorem sorted_tup {l : Addr} {o : Obj} {items : Array Value} {n : Nat} {ss : List Str} {Q : Value → Shared → Prop} (ho : s.heap.get? l = some o) (hc : o.cls = .type "tuple") (hd : o.data = .seq items n) (hS : StrsAre items.toList ss) (h64 : items.toList.length < 64)
    (h : ∀ (hh : Heap) (a : Addr) (out : Array Value) (ep : Nat) (ss' : List Str), (∀ b u, s.heap.get? b = some u → hh.get? b = some u) → s.heap.get? a = none → hh.get? a = some (seqObj "list" out ep) → StrsAre out.toList ss' → ss'.Perm ss → sortedS ss' = true → Q (.ref a) { s with heap := hh }) :
    wpAny (model prog w) A (call (.builtin "sorted") [.ref l]) Q E s := by
  refine Calls.call_function_entry kind_sorted plain_sorted entry_sorted (args_sorted1 _) ?_
  unfold Builtin.«sorted»
  refine wpAny_bind (m := checkCount "sorted" 1 1 _) (wpAny_pure ?_)
  refine wpAny_bind (wpAny_collect_seq l (.inr rfl) ho hc hd (fun h1 k1 => ?_) (by rw [sizeLine_eq]; have e := Array.length_toList (xs := items); omega))
  refine wpAny_bind (wpAny_newList ?_)
  have hoL : (h1.push (seqObj "list" items.toList.toArray 0)).get? h1.objs.size = some (seqObj "list" items.toList.toArray 0) := Heap.get?_push_size _ rfl
  have lt : s.heap.get? h1.objs.size = none := by
    cases e : s.heap.get? h1.objs.size with
    | none => rfl
    | some u => exact absurd (Heap.lt_size (k1 _ _ e)) (Nat.lt_irrefl _)
  show wpAny _ _ _ _ _ { s with heap := h1.push (seqObj "list" items.toList.toArray 0) }
  refine wpAny_bind (wpAny_holding (wpAny_call_entry slot_list_sort ⟨_, hoL, rfl⟩ entry_list_sort (list_sort_treeK strKind_oneLt hoL hS.keysOf (fun v₁ v₂ rest e => keyKind_strs (by rw [← e]; exact hS)) h64 fun st' a1 a2 => ⟨_, rfl, ?_⟩) (args_list_sort _)))
  obtain ⟨ss', z1, z2, z3⟩ := sorted_out_str hS a1 a2
  obtain ⟨ep, he⟩ := sortedHeap_at (vs := items.toList) (out := (arrOf st').map (·.2)) hoL
  refine wpAny_pure ⟨_, rfl, h _ _ _ ep ss' (fun b u hb => ?_) lt he z1 z2 z3⟩
  have hb1 := k1 b u hb
  have hl := Heap.lt_size hb1
  rw [sortedHeap_old (Nat.ne_of_lt hl) (by rw [size_push']; exact Nat.lt_succ_of_lt hl)]
  exact Heap.get?_push_of_some _ hb1
end
def rSortedTS (K : PySem.W.Frag) : List V → Hp → VK → Prop := fun vs H Q => ∃ (a : Addr) (xs : List Str), vs = [V.ref a] ∧ SqT K H a (sts xs) ∧ xs.length < 64 ∧ ∀ (ys : List Str) (p : Addr), ys.Perm xs → PyProof.Rows.sortedS ys = true → H p = none → Q (.ref p) (upd H p (.lst (sts ys)))
theorem cr_sortedTS {X : Cx} : CallR X (.builtin "sorted") (rSortedTS X.K) := by
  intro pins s σ H vs us Q I r h
  obtain ⟨a, xs, rfl, hs, h64, q⟩ := h
  obtain ⟨its, rv, ⟨o, ho, hc, n, hd⟩, _⟩ := I.tuple hs
  rw [Vals.ref1 r]
  have hlen0 := rv.length
  rw [sts_len] at hlen0
  have e1 : its.toArray.toList = its := rfl
  refine sorted_tup ho hc hd (ss := xs) (by rw [e1]; exact Vals.strs rv) (by rw [e1]; omega) fun hh b out ep ss' kk hb hob z1 z2 z3 => ?_
  have hn : H b = none := I.hok.gone hb
  have hz : (sts ss').length ≤ sizeLine := by rw [sts_len, z2.length_eq]; exact small64 h64
  exact ⟨.ref b, _, I.laidN (o := .lst (sts ss')) (t' := s.toks) kk hb hn ⟨hz, out.toList, ep, vals_of_strs z1, hob⟩, rfl, q ss' b z2 z3 hn⟩
end GB
set_option Elab.async false
set_option linter.all false
set_option maxRecDepth 100000
set_option maxHeartbeats 4000000
/-! A dict whose keys are tuples of texts and such tuples. -/
namespace GB
open PySem PySem.Spec L2 PyProof.Rows
mutual
inductive NkV (H : Hp) : NestedKey → V → Prop
  | text (x : Str) : NkV H (.text x) (.str x)
  | tup {a : Addr} {xs : List V} {ks : List NestedKey} : H a = some (.tup xs) → NkAll H ks xs → NkV H (.tup ks) (.ref a)
inductive NkAll (H : Hp) : List NestedKey → List V → Prop
  | nil : NkAll H [] []
  | cons {k v ks vs} : NkV H k v → NkAll H ks vs → NkAll H (k :: ks) (v :: vs)
end
section
variable {X : Cx} {pins : List (Addr × Obj)} {σ : L2.St} {H : Hp} {s : Shared}
mutual
theorem NkV.is (I : Inv X pins σ H s) : ∀ (k : NestedKey) (v : V) (u : Value), NkV H k v → RelV v u → NestedIs s.heap k u
  | .text x, _, _, h, r => by
    cases h
    obtain ⟨t, rfl⟩ := r
    exact .text x t
  | .tup ks, _, _, h, r => by
    cases h with
    | @tup a xs _ ha hx =>
      obtain rfl := (show _ = Value.ref a from r)
      obtain ⟨_, its, rv, o, h1, h2, n, h3⟩ := (show ObjOk X.prog X.w H s.heap a (.tup xs) from I.hok a _ ha)
      exact .tup h1 h2 h3 (NkAll.is I ks xs its hx rv)
  | .none, _, _, h, _ => nomatch h
  | .num _, _, _, h, _ => nomatch h
theorem NkAll.is (I : Inv X pins σ H s) : ∀ (ks : List NestedKey) (vs : List V) (us : List Value), NkAll H ks vs → Vals vs us → NestedAll s.heap ks us
  | [], _, _, h, r => by
    cases h
    cases r
    exact .nil
  | k :: ks, _, _, h, r => by
    cases h with
    | cons h1 h2 =>
      cases r with
      | cons r1 r2 => exact .cons (NkV.is I k _ _ h1 r1) (NkAll.is I ks _ _ h2 r2)
end
end
abbrev NX := List (NestedKey × Addr × Value)
/-- the dict at d, its entries -/
def ndO (P : Program) (w : World) (d : Addr) (xs : NX) : HO := .ext fun h => (d == sysModules) = false ∧ ∃ o es ep, h.get? d = some o ∧ o.ExactDict ∧ o.data = .dict es ep ∧ es.toList = xs.map (entryOfKey (nestedKind P w)) ∧ (xs.map (·.1)).Nodup
def NdKeys (H : Hp) (xs : NX) : Prop := ∀ e ∈ xs, NkV H e.1 (.ref e.2.1) ∧ e.1.depth ≤ 8
theorem nd_ok {P : Program} {w : World} {H : Hp} {h : Heap} {d : Addr} {xs : NX} (hd : (d == sysModules) = false) (m : h.DictOfH (nestedKind P w) d xs) : ObjOk P w H h d (ndO P w d xs) := by
  obtain ⟨o, es, ep, h1, h2, h3, h4, _, h5⟩ := m
  exact ⟨⟨hd, o, es, ep, h1, h2, h3, h4, h5⟩, ⟨o, h1⟩, fun a b ⟨q0, o', es', ep', q1, q2⟩ k => ⟨q0, o', es', ep', k _ q1, q2⟩⟩
section
variable {X : Cx} {pins : List (Addr × Obj)} {σ : L2.St} {H : Hp} {s : Shared}
theorem nd_of (I : Inv X pins σ H s) {d : Addr} {xs : NX} (e : H d = some (ndO X.prog X.w d xs)) (k : NdKeys H xs) : (d == sysModules) = false ∧ s.heap.DictOfH (nestedKind X.prog X.w) d xs := by
  obtain ⟨⟨q0, o, es, ep, q1, q2, q3, q4, q5⟩, _⟩ := (show ObjOk X.prog X.w H s.heap d (ndO X.prog X.w d xs) from I.hok d _ e)
  exact ⟨q0, o, es, ep, q1, q2, q3, q4, fun x hx => ⟨NkV.is I _ _ _ (k x hx).1 rfl, (k x hx).2⟩, q5⟩
theorem pe_dnewN {pos : Pos} : PE X (.Dict [] [] pos) (fun _ H Q => ∀ p, H p = none → Q (.ref p) (upd H p (ndO X.prog X.w p []))) := ⟨fun pins s σ H Q I h =>
  wpAny_Dict_empty ⟨.ref s.heap.objs.size, _, I.laid (a := s.heap.objs.size) (o := ndO X.prog X.w s.heap.objs.size []) (t' := s.toks) (fun _ _ q => Heap.get?_push_of_some _ q) (Nat.le_refl _)
    (nd_ok (beq_eq_false_iff_ne.mpr (Ne.symm (Nat.ne_of_lt I.big))) (Heap.DictOfH.new s.heap)), rfl, h _ (I.hok.fresh (Nat.le_refl _))⟩⟩
def rInN (P : Program) (w : World) : R2 := fun x y H Q => ∃ (a d : Addr) (k : NestedKey) (xs : NX), x = .ref a ∧ y = .ref d ∧ H d = some (ndO P w d xs) ∧ NdKeys H xs ∧ NkV H k (.ref a) ∧ k.depth ≤ 8 ∧ Q (.bl (atKey xs k).isSome) H
theorem op_inN (hu : X.A.units + 9 < cLine) : OpR X (compareOp .In) (rInN X.prog X.w) := by
  intro pins s σ H x y v u Q I rx ry h
  obtain ⟨a, d, k, xs, rfl, rfl, hd, hk, ha, h8, q⟩ := h
  cases rx
  cases ry
  obtain ⟨h0, hm⟩ := nd_of I hd hk
  exact wpAny_in_heap (knd := nestedKind X.prog X.w) (k := k) (by show X.A.in1.units + 8 < cLine; rw [Around.in1_units]; omega) ⟨NkV.is I _ _ _ ha rfl, h8⟩ h0 hm ⟨.bl (atKey xs k).isSome, H, I.tok _, rfl, q⟩
def rSetN (P : Program) (w : World) : TSet := fun o i v H Q => ∃ (d a b : Addr) (k : NestedKey) (xs : NX), o = .ref d ∧ i = .ref a ∧ v = .ref b ∧ H d = some (ndO P w d xs) ∧ NdKeys H xs ∧ NkV H k (.ref a) ∧ k.depth ≤ 8 ∧ xs.length ≤ 1000 ∧ Q (upd H d (ndO P w d (storedH xs k a (.ref b))))
theorem set_dictN (hu : X.A.units + 9 < cLine) : PSet X (rSetN X.prog X.w) := by
  intro pins s σ H o i v ov iv u Q I ro ri rv h
  obtain ⟨d, a, b, k, xs, rfl, rfl, rfl, hd, hk, ha, h8, hl, q⟩ := h
  cases ro
  cases ri
  cases rv
  obtain ⟨h0, hm⟩ := nd_of I hd hk
  refine wpAny_setItem_heap (knd := nestedKind X.prog X.w) (k := k) (hsz := by rw [sizeLine_eq]; omega) (by show X.A.in1.units + 8 < cLine; rw [Around.in1_units]; omega) ⟨NkV.is I _ _ _ ha rfl, h8⟩ hm (fun h' hm' hs => ?_)
  obtain ⟨o', es, ep, e1, _⟩ := id hm'
  exact ⟨_, d_write I (by rw [hd]; exact True.intro) hs ⟨o', e1⟩ (nd_ok h0 hm'), q⟩
theorem vals_refs : ∀ bs : List Addr, Vals (bs.map V.ref) (bs.map Value.ref)
  | [] => .nil
  | b :: r => .cons rfl (vals_refs r)
/-- the view of the values of the dict at d -/
def valsO (p d : Addr) : HO := .ext fun h => h.IsValuesView p d
def tValsN (P : Program) (w : World) (td : TE) : TE := fun σ H Q => td σ H fun x H1 => ∃ (d : Addr) (xs : NX), x = .ref d ∧ H1 d = some (ndO P w d xs) ∧ ∀ p, H1 p = none → Q (.ref p) (upd H1 p (valsO p d))
theorem pe_valsN {o : Expr} {td : TE} {apos cpos : Pos} (he : PE X o td) (hbase : attributeBase o "values" X.env (eval o X.env) = eval o X.env := by rfl) (hline : (apos.endLine == cpos.line) = true := by rfl) : PE X (.Call (.Attribute o "values" apos) [] [] cpos) (tValsN X.prog X.w td) := by
  refine ⟨fun pins s σ H Q I h => ?_⟩
  refine wpAny_Call_method (T := "dict") (id := "dict.values") hbase rfl hline F.plainAttrs_dict F.slot_dict_values F.type_dict_values (thn (he.run pins s σ H _ I h) fun u s1 ⟨x, H1, I1, rx, d, xs, ex, hd, q⟩ => ?_)
  subst ex
  obtain rfl : u = Value.ref d := rx
  obtain ⟨⟨h0, ob, es, ep, q1, q2, q3, q4, q5⟩, _⟩ := (show ObjOk X.prog X.w H1 s1.heap d (ndO X.prog X.w d xs) from I1.hok d _ hd)
  have raw : s1.heap.DictRaw d es ep := ⟨ob, q1, q2, q3⟩
  refine ⟨raw.typeIs, ?_, ?_⟩
  · intro a e
    cases e
    exact ⟨ob, q1, q2.2.1⟩
  · show wpAny _ _ (callWith cpos (.builtin "dict.values") [.ref d] [] []) _ X.xe s1
    have hf : H1 s1.heap.objs.size = none := I1.hok.fresh (Nat.le_refl _)
    exact method_meetsIn F.slot_dict_values F.entry_dict_values rfl (PySem.evalArgs_none ⟨rfl, raw.typeIs, F.args_dict_values_1 _, _, meets_dict_values_raw d h0, ⟨_, _, raw⟩, ⟨.ref s1.heap.objs.size, upd H1 s1.heap.objs.size (valsO s1.heap.objs.size d), I1.laid (t' := s1.toks) (fun b u e => Heap.get?_push_of_some _ e) (Nat.le_refl _) ⟨⟨_, Heap.get?_push_size _ rfl, rfl, rfl⟩, ⟨_, Heap.get?_push_size _ rfl⟩, fun h1 h2 ⟨o, ho, r⟩ k => ⟨o, k o ho, r⟩⟩, rfl, q _ hf⟩⟩)
/-- list(d.values()) -/
def rListVN (P : Program) (w : World) : List V → Hp → VK → Prop := fun vs H Q => ∃ (p d : Addr) (xs : NX) (bs : List Addr), vs = [.ref p] ∧ H p = some (valsO p d) ∧ H d = some (ndO P w d xs) ∧ xs.map (fun x => x.2.2) = bs.map Value.ref ∧ bs.length ≤ 1000 ∧ ∀ l, H l = none → Q (.ref l) (upd H l (.lst (bs.map V.ref)))
theorem call_listVN (hc : X.calm = true) : CallR X (.type "list") (rListVN X.prog X.w) := by
  intro pins s σ H vs us Q I r h
  obtain ⟨p, d, xs, bs, rfl, hp, hd, hv, hl, q⟩ := h
  obtain ⟨u, rfl, ru⟩ := r.one
  cases (show u = Value.ref p from ru)
  obtain ⟨⟨h0, ob, es, ep, q1, q2, q3, q4, q5⟩, _⟩ := (show ObjOk X.prog X.w H s.heap d (ndO X.prog X.w d xs) from I.hok d _ hd)
  obtain ⟨hview, _⟩ := (show ObjOk X.prog X.w H s.heap p (valsO p d) from I.hok p _ hp)
  have hes : es.size = bs.length := by
    rw [← Array.length_toList, q4, List.length_map, ← List.length_map (f := fun x : NestedKey × Addr × Value => x.2.2), hv, List.length_map]
  refine PySem.W.kdl_call (KdlSrc.rawValues) (I.ok.hd hc) ⟨hview, ob, q1, q2, q3⟩ (by rw [hes, sizeLine_eq]; omega) fun h' tk acc c hk hL hacc => ?_
  have eacc : acc.toList = bs.map Value.ref := by
    rw [← hv]
    refine List.ext_getElem? fun j => ?_
    rw [List.getElem?_map, Array.getElem?_toList]
    have hx : es[j]? = xs[j]?.map (entryOfKey (nestedKind X.prog X.w)) := by rw [← Array.getElem?_toList, q4, List.getElem?_map]
    cases e : acc[j]? with
    | none =>
      have h1 : es.size ≤ j := by rw [← hacc.1]; exact Array.getElem?_eq_none_iff.mp e
      rw [Array.getElem?_eq_none_iff.mpr h1] at hx
      cases e2 : xs[j]? with
      | none => rfl
      | some y => rw [e2] at hx; cases hx
    | some v =>
      obtain ⟨hi, ev⟩ := hacc.2 j v e
      rw [Array.getElem?_eq_getElem hi] at hx
      cases e2 : xs[j]? with
      | none => rw [e2] at hx; cases hx
      | some y =>
        rw [e2] at hx
        have := Option.some.inj hx
        rw [ev, this]
        rfl
  refine ⟨.ref s.heap.objs.size, upd H s.heap.objs.size (.lst (bs.map V.ref)), I.laid (t' := tk) hk (Nat.le_refl _) ⟨by rw [List.length_map, sizeLine_eq]; omega, bs.map Value.ref, c, ?_, by rw [hL, ← eacc]⟩, rfl, q _ (I.hok.fresh (Nat.le_refl _))⟩
  exact vals_refs bs
end
end GB
set_option Elab.async false
set_option linter.all false
set_option maxRecDepth 100000
set_option maxHeartbeats 8000000
namespace GB
open PySem L2
theorem not_in_take {l : List Str} {i : Nat} {x : Str} (nd : l.Nodup) (h : l[i]? = some x) : x ∉ l.take i := fun m => by
  obtain ⟨hi, e2⟩ := List.getElem?_eq_some_iff.mp h
  have e : l = l.take i ++ x :: l.drop (i + 1) := by rw [← e2, ← List.drop_eq_getElem_cons hi, List.take_append_drop]
  rw [e] at nd
  exact (List.nodup_append.mp nd).2.2 x m x List.mem_cons_self rfl
end GB
namespace K7
open PySem PySem.Spec L2 GB
abbrev sCkL : Stmt := topS 27
abbrev sCkF : Stmt := topS 28
abbrev sCkC : Stmt := topS 29
abbrev sIsF : Stmt := topS 31
abbrev sTE : Stmt := topS 32
def isfN : List Str := ["letters", "fixed", "thing", "letter", "values", "end", "value"]
def spCkL : Sp := fun vs H Q _ => ∃ (a : Addr) (ls : List (Str × Nat)), vs = [.ref a] ∧ H a = some (.dK (lkv ls)) ∧ ls ≠ [] ∧ (∀ q ∈ ls, nameB q.1 = true ∧ q.2 ≤ 2) ∧ ∀ H', Same H H' → Q .non H'
def spCkF : Sp := fun vs H Q _ => ∃ (a b : Addr) (ls : List (Str × Nat)) (fx : List Str), vs = [.ref a, .ref b] ∧ H a = some (.dK (lkv ls)) ∧ (ls.map (·.1)).Nodup ∧ H b = some (.lst (sts fx)) ∧ fx.Sublist (ls.map (·.1)) ∧ ∀ H', Same H H' → Q .non H'
def spCkC : Sp := fun vs H Q _ => ∃ (a b c : Addr) (ls : List (Str × Nat)) (fx cm : List Str), vs = [.ref a, .ref b, .ref c] ∧ H a = some (.dK (lkv ls)) ∧ (ls.map (·.1)).Nodup ∧ H b = some (.lst (sts fx)) ∧ H c = some (.lst (sts cm)) ∧ fx.Nodup ∧ cm.Sublist fx ∧ (∀ x ∈ cm, (x, 2) ∈ ls) ∧ ∀ H', Same H H' → Q .non H'
def spTE : Sp := fun vs H Q _ => ∃ (e : Addr) (k n : Str), vs = [.ref e] ∧ H e = some (.tup [.str k, .str n]) ∧ (k = "value" ∨ k = "fail") ∧ nameB n = true ∧ ∀ H', Same H H' → Q (.bl true) H'
def spIsF : Sp := fun vs H Q _ => ∃ (a b t : Addr) (ls : List (Str × Nat)) (fx : List Str) (f : Fact), vs = [.ref a, .ref b, .ref t] ∧ H a = some (.dK (lkv ls)) ∧ (ls.map (·.1)).Nodup ∧ H b = some (.lst (sts fx)) ∧ FactAt H f t ∧ f.Ok ls fx ∧ (∀ q ∈ ls, q.2 ≤ 2) ∧ ∀ H', Same H H' → Q (.bl true) H'
section
variable {P : Program} {w : World} {K : PySem.W.Frag} {mg : Str → Option Value} {base : Heap}
theorem scCkL : FnScope ["letters", "key", "many"] ["letters"] (defScope sCkL) := ⟨rfl, rfl, rfl, by decide +kernel, rfl, by decide +kernel, by decide +kernel⟩
theorem scCkF : FnScope ["letters", "fixed", "index", "letter"] ["letters", "fixed"] (defScope sCkF) := ⟨rfl, rfl, rfl, by decide +kernel, rfl, by decide +kernel, by decide +kernel⟩
theorem scCkC : FnScope ["letters", "fixed", "commuting", "index", "letter"] ["letters", "fixed", "commuting"] (defScope sCkC) := ⟨rfl, rfl, rfl, by decide +kernel, rfl, by decide +kernel, by decide +kernel⟩
theorem scTE : FnScope ["thing"] ["thing"] (defScope sTE) := ⟨rfl, rfl, rfl, by decide +kernel, rfl, by decide +kernel, by decide +kernel⟩
theorem scIsF : FnScope isfN ["letters", "fixed", "thing"] (defScope sIsF) := ⟨rfl, rfl, rfl, by decide +kernel, rfl, by decide +kernel, by decide +kernel⟩

theorem len8 {z : Str} (h : nameB z = true) : z.length ≤ sizeLine := by
  unfold nameB at h
  have := (Bool.and_eq_true_iff.mp h).1
  have := of_decide_eq_true this
  rw [sizeLine_eq]; omega
theorem ok_ckL {f : Addr} {fd : FuncData} (F : Fun K "_check_letters" "_check_letters" sCkL f fd) (T : Bl mg) (M : ∃ u, mg "MOST_PARTS" = some u ∧ RelV (.int 2) u) (NM : Fns P w K mg base "is_name" 1 ["thing"] (spIsNm K)) (NU : Fns P w K mg base "is_number" 1 ["thing"] (spIsN K)) :
    FnOk P w K mg base CX0 2 f fd ["letters"] spCkL := by
  obtain ⟨uM, gM, rM⟩ := M
  refine F.ok scCkL (fun vs H Q E h => ?_) (fun cdv A outer s H vs Q E hr h => ?_)
  · obtain ⟨a, ls, rfl, _⟩ := h
    rfl
  · obtain ⟨a, ls, rfl, hL, hne, hok, q⟩ := h
    refine ⟨_, pss_cons (ps_if (PW.pt (pw_or (pt_not (pt_val (pe_callB call_isi (by rfl) T.isi (by decide +kernel) (pa_cons (pv 0) (pa_cons (pe_bltn (v := .ty "dict") (by rfl) T.dict (by decide +kernel) rfl) (pa_nil)))))) (pw_or1 (pt_cmpR op_eq (pe_callB call_lenD (by rfl) T.len PySem.boot_len (pa_cons (pv 0) (pa_nil))) (pe_int) (nomark _))))) (pss_one ps_never) (pss_nil)) (pss_one (ps_lock (ps_for PassesOwn.never rfl (pi_items (pv 0)) (pg_tup rfl (pgs_cons (pg_name (i := 1) scCkL.nd rfl (.inl rfl)) (pgs_cons (pg_name (i := 2) scCkL.nd rfl (.inl rfl)) (pgs_nil)))) (pss_one (ps_if (PW.pt (pw_or (pt_not (pt_val (pe_fn NM hr (by decide) rfl (pa_cons (pv 1) (pa_nil))))) (pw_or (pt_not (pt_val (pe_fn NU hr (by decide) rfl (pa_cons (pv 2) (pa_nil))))) (pw_or1 (pt_not (pt_chain op_le op_le pe_int (pv 2) (pe_glob rfl gM rM))))))) (pss_one ps_never) (pss_nil)))))), ?_⟩
    refine ⟨_, rfl, .ref a, .ty "dict", .type "dict", .type "dict", true, rfl, .ty "dict", .base (.dK hL), kit_ty (by decide +kernel), true, rfl, ?_⟩
    refine iteF ?_
    refine ⟨_, rfl, a, _, rfl, hL, rfl, _, rfl, ?_⟩
    have l0 : (lkv ls).length ≠ 0 := by
      have e : (lkv ls).length = ls.length := List.length_map _
      have := List.length_pos_iff.mpr hne
      omega
    rw [decI, decide_eq_false (by omega)]
    refine iteF ?_
    refine ⟨a, _, hL, trivial, fun od => ?_⟩
    obtain ⟨Hl, hlL, hlo, el⟩ : ∃ Hl, Hl a = some (.frz od (.dK (lkv ls))) ∧ (∀ b, b ≠ a → Hl b = H b) ∧ upd H a (.frz od (.dK (lkv ls))) = Hl := ⟨_, upd_same, fun b hb => upd_ne hb, rfl⟩
    rw [el]
    refine ⟨_, rfl, a, od, _, rfl, hlL, ?_⟩
    refine for_it walk_items (fun i σ H' => ∃ o1 o2, σ = [some (.ref a), o1, o2] ∧ Same Hl H') ⟨none, none, rfl, Same.refl _⟩ (fun i σ H' _ ⟨o1, o2, _, s'⟩ => s' _ _ hlL) ?_ ?_
    · rintro i x σ H1 H1' hi ⟨o1, o2, rfl, s1⟩ ⟨Tp, y1, y2, rfl, nT, rfl, e1, e2⟩
      obtain ⟨⟨sx, m⟩, hq, ex1, ex2⟩ : ∃ q, ls[i]? = some q ∧ y1 = .str q.1 ∧ y2 = .int (q.2 : Int) := by
        have e1 : (lkv ls)[i]?.map (fun kv => kV kv.1) = some y1 := e1
        have e2 : (lkv ls)[i]?.map Prod.snd = some y2 := e2
        unfold lkv at e1 e2
        rw [List.getElem?_map] at e1 e2
        cases e : ls[i]? with
        | none => rw [e] at e1; cases e1
        | some q => rw [e] at e1 e2; exact ⟨q, rfl, (Option.some.inj e1).symm, (Option.some.inj e2).symm⟩
      subst ex1 ex2
      obtain ⟨hn, hm⟩ := hok _ (List.mem_of_getElem? hq)
      obtain ⟨H2, s2, h2, e2'⟩ := lay (o := .tup [.str sx, .int (m : Int)]) nT
      rw [e2']
      refine ⟨Tp, _, rfl, SqT.of h2, rfl, _, _, rfl, _, _, rfl, rfl, ?_⟩
      refine ⟨_, rfl, _, rfl, .inl ⟨sx, rfl, len8 hn, fun H3 s3 => ⟨true, by rw [hn], ?_⟩⟩⟩
      refine iteF ?_
      refine ⟨_, rfl, .int (m : Int), .type "int", true, false, rfl, .base (.int _), kit_ty (by decide +kernel), kit_ty (by decide +kernel), true, rfl, ?_⟩
      refine iteF ?_
      refine ⟨_, rfl, _, _, rfl, rfl, _, rfl, ?_⟩
      rw [decide_eq_true (by omega : (0 : Int) ≤ (m : Int))]
      refine iteT ?_
      refine ⟨_, _, rfl, rfl, _, rfl, ?_⟩
      rw [decide_eq_true (by show (m : Int) ≤ 2; have : m ≤ 2 := hm; omega)]
      refine iteF ?_
      exact ⟨_, _, rfl, (s1.trans s2).trans s3⟩
    · rintro σ H1 ⟨o1, o2, rfl, s1⟩
      refine ⟨s1 _ _ hlL, q _ fun b o e => ?_⟩
      by_cases hb : b = a
      · subst hb; rw [upd_same, ← e, hL]
      · rw [upd_ne hb]; exact s1 _ _ ((hlo b hb).trans e)
theorem ok_ckF {f : Addr} {fd : FuncData} (F : Fun K "_check_fixed" "_check_fixed" sCkF f fd) (T : Bl mg) (IL : Fns P w K mg base "is_list" 1 ["thing"] (spIsL K)) : FnOk P w K mg base CX0 2 f fd ["letters", "fixed"] spCkF := by
  refine F.ok scCkF (fun vs H Q E h => ?_) (fun cdv A outer s H vs Q E hr h => ?_)
  · obtain ⟨a, b, ls, fx, rfl, _⟩ := h
    rfl
  · obtain ⟨a, b, ls, fx, rfl, hL, lnd, hF, sub, q⟩ := h
    have hu := hu_of hr
    refine ⟨_, pss_cons (ps_if (pt_not (pt_val (pe_fn IL hr (by decide) rfl (pa_cons (pv 1) (pa_nil))))) (pss_one ps_never) (pss_nil)) (pss_one (ps_for PassesOwn.never rfl (pi_enumW rfl T.enum (pa_cons (pv 1) (pa_nil))) (pg_tup rfl (pgs_cons (pg_name (i := 2) scCkF.nd rfl (.inl rfl)) (pgs_cons (pg_name (i := 3) scCkF.nd rfl (.inl rfl)) (pgs_nil)))) (pss_one (ps_if (PW.pt (pw_or (pt_not (pt_val (pe_callB call_isi (by rfl) T.isi (by decide +kernel) (pa_cons (pv 3) (pa_cons (pe_bltn (v := .ty "str") (by rfl) T.str (by decide +kernel) rfl) (pa_nil)))))) (pw_or (pt_cmp (pc_dnotin hu (pv 3) (pv 0))) (pw_or1 (pt_cmpR op_in_seq (pv 3) (pe_slice sl_list (pv 1) po_none (po_some (pv 2))) (by rfl)))))) (pss_one ps_never) (pss_nil))))), ?_⟩
    obtain ⟨ty, ht, hty⟩ := tyS (K := K) (.inl (SqL.of hF) : SqA K H b (sts fx))
    refine ⟨_, rfl, .ref b, _, true, rfl, hty, kit_seq ht, fun H1 s1 => ⟨_, rfl, ?_⟩⟩
    refine iteF ?_
    refine ⟨_, rfl, b, sts fx, true, [], rfl, SqL.of (hid_to (by simp) (s1 _ _ hF)), fun J WJ => ?_⟩
    refine for_it WJ (fun i σ H' => ∃ o1 o2, σ = [some (.ref a), some (.ref b), o1, o2] ∧ Same H H') ⟨none, none, rfl, s1⟩ (fun i σ H' _ ⟨o1, o2, _, s'⟩ => SqL.of (hid_to (by simp) (s' _ _ hF))) ?_ ?_
    · rintro i x σ H2 H2' hi ⟨o1, o2, rfl, s2⟩ ⟨Tp, y1, y2, rfl, nT, rfl, e1, e2⟩
      obtain rfl := Option.some.inj e1
      obtain ⟨sx, hsx, rfl⟩ := sts_at e2
      obtain ⟨H3, s3, h3, e3⟩ := lay (o := .tup [.int (i : Nat), .str sx]) nT
      rw [e3]
      have S3 := s2.trans s3
      have mfx := List.mem_of_getElem? hsx
      obtain ⟨q1, hq1, eq1⟩ := List.mem_map.mp (sub.subset mfx)
      refine ⟨Tp, _, rfl, SqT.of h3, rfl, _, _, rfl, _, _, rfl, rfl, ?_⟩
      refine ⟨_, rfl, .str sx, .ty "str", .type "str", .type "str", true, rfl, .ty "str", .base (.str sx), kit_ty (by decide +kernel), true, rfl, ?_⟩
      refine iteF ?_
      have hv : valV (lkv ls) (.inr sx : Key) = some (.int (q1.2 : Int)) := valV_lkv lnd (by rw [← eq1]; exact hq1)
      refine ⟨_, rfl, _, rfl, a, some (.int (q1.2 : Int)), rfl, (by rw [← hv]; exact DGet.k (k := .inr sx) (S3 _ _ hL)), _, rfl, ?_⟩
      refine iteF ?_
      refine ⟨_, rfl, _, rfl, _, rfl, _, rfl, b, sts fx, rfl, SqL.of (S3 _ _ hF), fun p np => ?_⟩
      have hil : i < fx.length := (List.getElem?_eq_some_iff.mp hsx).1
      have ec : cutV (sts fx) none (some ((i : Nat) : Int)) = sts (fx.take i) := by rw [cut_to _ _ (by rw [sts_len]; omega)]; unfold sts; rw [List.map_take]
      obtain ⟨H4, s4, h4, e4⟩ := lay (o := .lst (sts (fx.take i))) np
      rw [ec, e4]
      refine ⟨p, sts (fx.take i), rfl, .inl (SqL.of h4), rfl, flat_sts _, _, rfl, ?_⟩
      rw [show (if false = true then !inV (.str sx) (sts (fx.take i)) else inV (.str sx) (sts (fx.take i))) = false from (inV_sts _ _).trans (decide_eq_false (not_in_take (sub.nodup lnd) hsx))]
      refine iteF ?_
      exact ⟨_, _, rfl, S3.trans s4⟩
    · rintro σ H2 ⟨o1, o2, rfl, s2⟩
      exact q _ s2
theorem ok_ckC {f : Addr} {fd : FuncData} (F : Fun K "_check_commuting" "_check_commuting" sCkC f fd) (T : Bl mg) (IL : Fns P w K mg base "is_list" 1 ["thing"] (spIsL K)) : FnOk P w K mg base CX0 2 f fd ["letters", "fixed", "commuting"] spCkC := by
  refine F.ok scCkC (fun vs H Q E h => ?_) (fun cdv A outer s H vs Q E hr h => ?_)
  · obtain ⟨a, b, c, ls, fx, cm, rfl, _⟩ := h
    rfl
  · obtain ⟨a, b, c, ls, fx, cm, rfl, hL, lnd, hF, hC, fnd, sub, c2, q⟩ := h
    have hu := hu_of hr
    refine ⟨_, pss_cons (ps_if (pt_not (pt_val (pe_fn IL hr (by decide) rfl (pa_cons (pv 2) (pa_nil))))) (pss_one ps_never) (pss_nil)) (pss_one (ps_for PassesOwn.never rfl (pi_enumW rfl T.enum (pa_cons (pv 2) (pa_nil))) (pg_tup rfl (pgs_cons (pg_name (i := 3) scCkC.nd rfl (.inl rfl)) (pgs_cons (pg_name (i := 4) scCkC.nd rfl (.inl rfl)) (pgs_nil)))) (pss_one (ps_if (PW.pt (pw_or (pt_cmpR op_notIn_seq (pv 4) (pv 1) (by rfl)) (pw_or (pt_cmpR op_ne (pe_dget hu (pv 0) (pv 4) (fun _ _ => rfl)) (pe_int) (nomark _)) (pw_or1 (pt_cmpR op_in_seq (pv 4) (pe_slice sl_list (pv 2) po_none (po_some (pv 3))) (by rfl)))))) (pss_one ps_never) (pss_nil))))), ?_⟩
    obtain ⟨ty, ht, hty⟩ := tyS (K := K) (.inl (SqL.of hC) : SqA K H c (sts cm))
    refine ⟨_, rfl, .ref c, _, true, rfl, hty, kit_seq ht, fun H1 s1 => ⟨_, rfl, ?_⟩⟩
    refine iteF ?_
    refine ⟨_, rfl, c, sts cm, true, [], rfl, SqL.of (hid_to (by simp) (s1 _ _ hC)), fun J WJ => ?_⟩
    refine for_it WJ (fun i σ H' => ∃ o1 o2, σ = [some (.ref a), some (.ref b), some (.ref c), o1, o2] ∧ Same H H') ⟨none, none, rfl, s1⟩ (fun i σ H' _ ⟨o1, o2, _, s'⟩ => SqL.of (hid_to (by simp) (s' _ _ hC))) ?_ ?_
    · rintro i x σ H2 H2' hi ⟨o1, o2, rfl, s2⟩ ⟨Tp, y1, y2, rfl, nT, rfl, e1, e2⟩
      obtain rfl := Option.some.inj e1
      obtain ⟨sx, hsx, rfl⟩ := sts_at e2
      obtain ⟨H3, s3, h3, e3⟩ := lay (o := .tup [.int (i : Nat), .str sx]) nT
      rw [e3]
      have S3 := s2.trans s3
      have mcm := List.mem_of_getElem? hsx
      refine ⟨Tp, _, rfl, SqT.of h3, rfl, _, _, rfl, _, _, rfl, rfl, ?_⟩
      refine ⟨_, rfl, _, rfl, b, sts fx, rfl, .inl (SqL.of (S3 _ _ hF)), rfl, flat_sts _, _, rfl, ?_⟩
      rw [show (if true = true then !inV (.str sx) (sts fx) else inV (.str sx) (sts fx)) = false from by rw [if_pos rfl, inV_sts, decide_eq_true (sub.subset mcm)]; rfl]
      refine iteF ?_
      have hv : valV (lkv ls) (.inr sx : Key) = some (.int ((2 : Nat) : Int)) := valV_lkv lnd (c2 _ mcm)
      refine ⟨_, rfl, _, rfl, a, .int ((2 : Nat) : Int), rfl, (by rw [← hv]; exact DGet.k (k := .inr sx) (S3 _ _ hL)), rfl, _, rfl, ?_⟩
      refine iteNS rfl ?_
      refine ⟨_, rfl, _, rfl, _, rfl, _, rfl, c, sts cm, rfl, SqL.of (S3 _ _ hC), fun p np => ?_⟩
      have hil : i < cm.length := (List.getElem?_eq_some_iff.mp hsx).1
      have ec : cutV (sts cm) none (some ((i : Nat) : Int)) = sts (cm.take i) := by rw [cut_to _ _ (by rw [sts_len]; omega)]; unfold sts; rw [List.map_take]
      obtain ⟨H4, s4, h4, e4⟩ := lay (o := .lst (sts (cm.take i))) np
      rw [ec, e4]
      refine ⟨p, sts (cm.take i), rfl, .inl (SqL.of h4), rfl, flat_sts _, _, rfl, ?_⟩
      rw [show (if false = true then !inV (.str sx) (sts (cm.take i)) else inV (.str sx) (sts (cm.take i))) = false from (inV_sts _ _).trans (decide_eq_false (not_in_take (sub.nodup fnd) hsx))]
      refine iteF ?_
      exact ⟨_, _, rfl, S3.trans s4⟩
    · rintro σ H2 ⟨o1, o2, rfl, s2⟩
      exact q _ s2
theorem ok_te {f : Addr} {fd : FuncData} (F : Fun K "_is_told_end" "_is_told_end" sTE f fd) (T : Bl mg) (IL : Fns P w K mg base "is_list" 1 ["thing"] (spIsL K)) (NM : Fns P w K mg base "is_name" 1 ["thing"] (spIsNm K)) : FnOk P w K mg base CX0 2 f fd ["thing"] spTE := by
  refine F.ok scTE (fun vs H Q E h => ?_) (fun cdv A outer s H vs Q E hr h => ?_)
  · obtain ⟨e, k, n, rfl, _⟩ := h
    rfl
  · obtain ⟨e, k, n, rfl, he, hk, hn, q⟩ := h
    refine ⟨_, pss_cons (ps_if (PW.pt (pw_or (pt_not (pt_val (pe_fn IL hr (by decide) rfl (pa_cons (pv 0) (pa_nil))))) (pw_or1 (pt_cmpR op_ne (pe_callB call_len_seq (by rfl) T.len PySem.boot_len (pa_cons (pv 0) (pa_nil))) (pe_int) (nomark _))))) (pss_one (ps_ret pe_bl)) (pss_nil)) (pss_one (ps_ret (pe_and (pe_cmpR op_in_seq (pe_ix ix_tup (pv 0) (pe_int) (fun _ _ => rfl)) (pe_tup (pa_cons (pe_str) (pa_cons (pe_str) (pa_nil)))) (by rfl)) (pe_one (pe_fn NM hr (by decide) rfl (pa_cons (pe_ix ix_tup (pv 0) (pe_int) (fun _ _ => rfl)) (pa_nil))))))), ?_⟩
    obtain ⟨ty, ht, hty⟩ := tyS (K := K) (.inr (SqT.of he) : SqA K H e [.str k, .str n])
    refine ⟨_, rfl, .ref e, _, true, rfl, hty, kit_seq ht, fun H1 s1 => ⟨_, rfl, ?_⟩⟩
    refine iteF ?_
    refine ⟨_, rfl, e, _, rfl, .inr (SqT.of (s1 _ _ he)), rfl, _, rfl, ?_⟩
    refine iteF ?_
    refine ⟨_, rfl, e, _, ((0 : Nat) : Int), _, rfl, rfl, SqT.of (s1 _ _ he), atI_nat (j := 0) rfl, by show 2 ≤ sizeLine; decide, fun t nt => ?_⟩
    obtain ⟨H2, s2, h2, e2⟩ := lay (o := .tup (sts ["value", "fail"])) nt
    rw [show ([V.str "value", V.str "fail"] : List V) = sts ["value", "fail"] from rfl, e2]
    refine ⟨t, sts ["value", "fail"], rfl, .inr (SqT.of h2), rfl, flat_sts _, true, ?_, ?_⟩
    · rw [show (if false = true then !inV (.str k) (sts ["value", "fail"]) else inV (.str k) (sts ["value", "fail"])) = true from (inV_sts _ _).trans (decide_eq_true (by rcases hk with rfl | rfl <;> decide))]
    · refine iteT ?_
      refine ⟨_, rfl, e, _, ((1 : Nat) : Int), _, rfl, rfl, SqT.of (s2 _ _ (s1 _ _ he)), atI_nat (j := 1) rfl, _, rfl, .inl ⟨n, rfl, len8 hn, fun H3 s3 => ?_⟩⟩
      rw [hn]
      exact q _ ((s1.trans s2).trans s3)
end
end K7
set_option Elab.async false
set_option linter.all false
set_option maxRecDepth 100000
set_option maxHeartbeats 8000000
namespace GB
open PySem PySem.Spec L2
def txk (l : List Str) : List NestedKey := l.map NestedKey.text
def nkO (a : Str × List Str) : NestedKey := .tup [.text a.1, .tup (txk a.2)]
theorem txk_inj : ∀ {l m : List Str}, txk l = txk m → l = m
  | [], [], _ => rfl
  | [], _ :: _, h => by cases h
  | _ :: _, [], h => by cases h
  | x :: l, y :: m, h => by
    have h1 : NestedKey.text x = .text y ∧ txk l = txk m := List.cons.inj h
    obtain rfl := NestedKey.text.inj h1.1
    rw [txk_inj h1.2]
theorem nkO_inj {a b : Str × List Str} (h : nkO a = nkO b) : a = b := by
  obtain ⟨x, l⟩ := a
  obtain ⟨y, m⟩ := b
  have h1 := List.cons.inj (NestedKey.tup.inj h)
  obtain rfl := NestedKey.text.inj h1.1
  have h2 := (List.cons.inj h1.2).1
  obtain rfl : l = m := txk_inj (NestedKey.tup.inj h2)
  rfl
theorem txk_depth : ∀ l : List Str, NestedKey.depthAll (txk l) = 0
  | [] => by simp [txk, NestedKey.depthAll]
  | x :: l => by
    have := txk_depth l
    unfold txk at this ⊢
    rw [List.map_cons, NestedKey.depthAll, this, NestedKey.depth]
    rfl
theorem nkO_depth (a : Str × List Str) : (nkO a).depth ≤ 8 := by
  unfold nkO
  rw [NestedKey.depth, NestedKey.depthAll, NestedKey.depthAll, NestedKey.depthAll, NestedKey.depth, NestedKey.depth, txk_depth]
  decide
theorem nk_txk {H : Hp} : ∀ l : List Str, NkAll H (txk l) (sts l)
  | [] => .nil
  | x :: l => .cons (.text x) (nk_txk l)
mutual
theorem NkV.mono {H H' : Hp} (s : Same H H') : ∀ (k : NestedKey) (v : V), NkV H k v → NkV H' k v
  | .text _, _, h => by cases h; exact .text _
  | .tup ks, _, h => by
    cases h with
    | tup ha hx => exact .tup (s _ _ ha) (NkAll.mono s ks _ hx)
  | .none, _, h => nomatch h
  | .num _, _, h => nomatch h
theorem NkAll.mono {H H' : Hp} (s : Same H H') : ∀ (ks : List NestedKey) (vs : List V), NkAll H ks vs → NkAll H' ks vs
  | [], _, h => by cases h; exact .nil
  | k :: ks, _, h => by
    cases h with
    | cons h1 h2 => exact .cons (NkV.mono s k _ h1) (NkAll.mono s ks _ h2)
end
theorem NdKeys.mono {H H' : Hp} (s : Same H H') {xs : NX} (h : NdKeys H xs) : NdKeys H' xs := fun e he => ⟨NkV.mono s _ _ (h e he).1, (h e he).2⟩
theorem paired_at' {α β : Type} {R : α → β → Prop} : ∀ {l : List α} {m : List β} {j : Nat} {c : α}, Paired R l m → l[j]? = some c → ∃ x, m[j]? = some x ∧ R c x
  | _, _, j, c, .nil, e => by simp at e
  | _, _, 0, c, .cons r _, e => by
    obtain rfl : _ = c := by simpa using e
    exact ⟨_, rfl, r⟩
  | _, _, j + 1, c, .cons _ t, e => paired_at' (j := j) t (by simpa using e)
theorem atKey_none {xs : NX} {k : NestedKey} (h : k ∉ xs.map (·.1)) : atKey xs k = none := by
  unfold atKey
  rw [Option.map_eq_none_iff, List.find?_eq_none]
  intro x hx e
  exact h (List.mem_map.mpr ⟨x, hx, of_decide_eq_true e⟩)
theorem not_in_take_map {α β : Type} {f : α → β} {l : List α} {i : Nat} {x y : α} (nd : (l.map f).Nodup) (h : l[i]? = some x) (hy : y ∈ l.take i) (e : f y = f x) : False := by
  obtain ⟨hi, e2⟩ := List.getElem?_eq_some_iff.mp h
  have el : l = l.take i ++ x :: l.drop (i + 1) := by rw [← e2, ← List.drop_eq_getElem_cons hi, List.take_append_drop]
  rw [el, List.map_append, List.map_cons] at nd
  exact (List.nodup_append.mp nd).2.2 (f y) (List.mem_map.mpr ⟨y, hy, rfl⟩) (f x) List.mem_cons_self e
/-- tuple(sorted(values) if .. else values) -/
def tAsk : TE := fun σ H Q => ∃ (x : Str) (v c : Addr) (vals cm : List Str), σ[7]? = some (some (.str x)) ∧ σ[2]? = some (some (.ref c)) ∧ σ[8]? = some (some (.ref v)) ∧ H c = some (.lst (sts cm)) ∧ H v = some (.tup (sts vals)) ∧ vals.length ≤ 2 ∧ (∀ x ∈ vals, x ∈ va3) ∧
  ∀ kv H6, Same H H6 → H6 kv = some (.tup (sts (if x ∈ cm then sort2 vals else vals))) → Q (.ref kv) H6
theorem pe_weak {X : Cx} {e : Expr} {t t' : TE} (h : PE X e t) (w : ∀ σ H Q, t' σ H Q → t σ H Q) : PE X e t' := ⟨fun pins s σ H Q I q => h.run pins s σ H Q I (w σ H Q q)⟩
theorem ask_weak {K : PySem.W.Frag} (σ : L2.St) (H : Hp) (Q : VK) (h : tAsk σ H Q) : tCB (fun xs H_1 Q => ∃ p ys, xs = [V.ref p] ∧ ((SqL K H_1 p ys ∧ ∀ l, H_1 l = none → Q (.ref l) (upd H_1 l (.tup ys))) ∨ (SqT K H_1 p ys ∧ Q (.ref p) H_1)))
    (tCons (tIf (tTest (tOp (rIn K false) (tVar 7) (tVar 2))) (tCB (rSortedTS K) (tCons (tVar 8) tNil)) (tVar 8)) tNil) σ H Q := by
  obtain ⟨x, v, c, vals, cm, h7, h2, h8, hc, hv, l2, v3, q⟩ := h
  refine ⟨_, h7, _, h2, c, sts cm, rfl, .inl (SqL.of hc), rfl, flat_sts _, _, rfl, ?_⟩
  rw [show (if false = true then !inV (.str x) (sts cm) else inV (.str x) (sts cm)) = decide (x ∈ cm) from inV_sts _ _]
  by_cases m : x ∈ cm
  · rw [decide_eq_true m]
    refine iteT ?_
    refine ⟨_, h8, v, vals, rfl, SqT.of hv, by omega, fun ys p hperm hsrt np => ?_⟩
    obtain ⟨H1, s1, h1, e1⟩ := lay (o := .lst (sts ys)) np
    rw [e1]
    refine ⟨p, sts ys, rfl, .inl ⟨SqL.of h1, fun l nl => ?_⟩⟩
    obtain ⟨H2, s2, h2, e2⟩ := lay (o := .tup (sts ys)) nl
    rw [e2]
    exact q l H2 (s1.trans s2) (by rw [if_pos m, ← sort2_of hperm hsrt l2 v3]; exact h2)
  · rw [decide_eq_false m]
    refine iteF ?_
    exact ⟨_, h8, v, sts vals, rfl, .inr ⟨SqT.of hv, q v H (Same.refl _) (by rw [if_neg m]; exact hv)⟩⟩
end GB
namespace K7
open PySem PySem.Spec L2 GB
abbrev sFT : Stmt := topS 30
def ftN : List Str := ["letters", "fixed", "commuting", "facts", "told", "index", "thing", "letter", "values", "end", "asked"]
def spFT : Sp := fun vs H Q _ => ∃ (a b c d : Addr) (g : GD), vs = [.ref a, .ref b, .ref c, .ref d] ∧ H a = some (.dK (lkv g.letters)) ∧ H b = some (.lst (sts g.fixed)) ∧ H c = some (.lst (sts g.comm)) ∧ FactsAt H d g.facts ∧ g.Wf ∧
  ∀ l H', H l = none → Same H H' → FactsAt H' l g.facts → Q (.ref l) H'
section
variable {P : Program} {w : World} {K : PySem.W.Frag} {mg : Str → Option Value} {base : Heap}
theorem scFT : FnScope ftN ["letters", "fixed", "commuting", "facts"] (defScope sFT) := ⟨rfl, rfl, rfl, by decide +kernel, rfl, by decide +kernel, by decide +kernel⟩

theorem ok_isF {f : Addr} {fd : FuncData} (F : Fun K "_is_fact" "_is_fact" sIsF f fd) (T : Bl mg) (IL : Fns P w K mg base "is_list" 1 ["thing"] (spIsL K)) (NM : Fns P w K mg base "is_name" 1 ["thing"] (spIsNm K)) (TE : Fns P w K mg base "_is_told_end" 2 ["thing"] spTE) :
    FnOk P w K mg base CX0 3 f fd ["letters", "fixed", "thing"] spIsF := by
  refine F.ok scIsF (fun vs H Q E h => ?_) (fun cdv A outer s H vs Q E hr h => ?_)
  · obtain ⟨a, b, t, ls, fx, fa, rfl, _⟩ := h
    rfl
  · obtain ⟨a, b, t, ls, fx, fa, rfl, hL, lnd, hF, hA, ok, har, q⟩ := h
    have hu := hu_of hr
    refine ⟨_, pss_cons (ps_if (PW.pt (pw_or (pt_not (pt_val (pe_fn IL hr (by decide) rfl (pa_cons (pv 2) (pa_nil))))) (pw_or1 (pt_cmpR op_ne (pe_callB call_len_seq (by rfl) T.len PySem.boot_len (pa_cons (pv 2) (pa_nil))) (pe_int) (nomark _))))) (pss_one (ps_ret pe_bl)) (pss_nil)) (pss_cons (ps_asg (pv 2) (pg_tup rfl (pgs_cons (pg_name (i := 3) scIsF.nd rfl (.inl rfl)) (pgs_cons (pg_name (i := 4) scIsF.nd rfl (.inl rfl)) (pgs_cons (pg_name (i := 5) scIsF.nd rfl (.inl rfl)) (pgs_nil)))))) (pss_cons (ps_if (PW.pt (pw_or (pt_cmpR op_notIn_seq (pv 3) (pv 1) (by rfl)) (pw_or (pt_not (pt_val (pe_fn IL hr (by decide) rfl (pa_cons (pv 4) (pa_nil))))) (pw_or1 (pt_cmpR op_ne (pe_callB call_len_seq (by rfl) T.len PySem.boot_len (pa_cons (pv 4) (pa_nil))) (pe_dget hu (pv 0) (pv 3) (fun _ _ => rfl)) (nomark _)))))) (pss_one (ps_ret pe_bl)) (pss_nil)) (pss_one (ps_ret (pe_and (pe_callB (cr_all rfl) (by rfl) T.all (by decide +kernel) (pa_cons (pe_lc (own := [("value", 6)]) (g := gName 6) (tt := tYes) rfl scIsF.nd (pi_seqW (pv 4)) (blkOk_by (own := [("value", 6)]) (N := isfN) (sc := defScope sIsF) (by decide +kernel)) (fun _ _ _ _ _ => pg_name (i := 6) scIsF.nd rfl (.inl rfl)) (fun _ _ _ _ _ => pts_nil) (fun _ _ _ _ _ => pe_fn NM hr (by decide) rfl (pa_cons (pv 6) (pa_nil)))) (pa_nil))) (pe_one (pe_fn TE hr (by decide) rfl (pa_cons (pv 5) (pa_nil))))))))), ?_⟩
    obtain ⟨v, e, ht, hv, he⟩ := hA.ex
    obtain ⟨k, hk, hvl⟩ := ok.len
    obtain ⟨ty, hty0, hty⟩ := tyS (K := K) (.inr (SqT.of ht) : SqA K H t [.str fa.x, .ref v, .ref e])
    refine ⟨_, rfl, .ref t, _, true, rfl, hty, kit_seq hty0, fun H1 s1 => ⟨_, rfl, ?_⟩⟩
    refine iteF ?_
    refine ⟨_, rfl, t, _, rfl, .inr (SqT.of (s1 _ _ ht)), rfl, _, rfl, ?_⟩
    refine iteF ?_
    refine ⟨_, rfl, t, _, rfl, SqT.of (s1 _ _ ht), rfl, _, _, rfl, _, _, rfl, _, _, rfl, rfl, ?_⟩
    refine ⟨_, rfl, _, rfl, b, sts fx, rfl, .inl (SqL.of (s1 _ _ hF)), rfl, flat_sts _, _, rfl, ?_⟩
    rw [show (if true = true then !inV (.str fa.x) (sts fx) else inV (.str fa.x) (sts fx)) = false from by rw [if_pos rfl, inV_sts, decide_eq_true ok.x]; rfl]
    refine iteF ?_
    obtain ⟨ty2, hty2, hty3⟩ := tyS (K := K) (.inr (SqT.of (s1 _ _ hv)) : SqA K H1 v (sts fa.vals))
    refine ⟨_, rfl, .ref v, _, true, rfl, hty3, kit_seq hty2, fun H2 s2 => ⟨_, rfl, ?_⟩⟩
    refine iteF ?_
    have S2 := s1.trans s2
    have hvv : valV (lkv ls) (.inr fa.x : Key) = some (.int (k : Int)) := valV_lkv lnd hk
    refine ⟨_, rfl, v, sts fa.vals, rfl, .inr (SqT.of (S2 _ _ hv)), _, rfl, _, rfl, a, .int (k : Int), rfl, (by rw [← hvv]; exact DGet.k (k := .inr fa.x) (S2 _ _ hL)), rfl, _, rfl, ?_⟩
    rw [show (!decide (V.int ((sts fa.vals).length : Int) = V.int (k : Int))) = false from by rw [sts_len, hvl, decide_eq_true rfl]; rfl]
    refine iteF ?_
    refine ⟨_, rfl, v, sts fa.vals, false, [], rfl, SqT.of (hid_to (by simp) (S2 _ _ hv)), fun J WJ D nD => ?_⟩
    refine lc_it WJ (fun i H' => Same H2 H' ∧ H' D = some (.lst ((List.replicate i true).map V.bl))) ⟨same_new nD, upd_same⟩ (fun i H' _ ⟨s', _⟩ => SqT.of (hid_to (by simp) (s' _ _ (S2 _ _ hv)))) ?_ ?_
    · rintro i x H3 H3' hi ⟨s3, h3⟩ ⟨rfl, hx⟩
      obtain ⟨sx, hsx, rfl⟩ := sts_at hx
      have nB : nameB sx = true := (show ∀ x ∈ va3, nameB x = true by decide +kernel) _ (ok.vals _ (List.mem_of_getElem? hsx))
      have hil : i < fa.vals.length := (List.getElem?_eq_some_iff.mp hsx).1
      have kl : k ≤ 2 := har _ hk
      refine ⟨rfl, ?_⟩
      refine ⟨_, rfl, _, rfl, .inl ⟨sx, rfl, len8 nB, fun H4 s4 => ?_⟩⟩
      refine ⟨_, s4 _ _ h3, by rw [List.length_map, List.length_replicate, sizeLine_eq]; omega, fun b o e => ?_, ?_⟩
      · rw [upd_ne (ne_of_none e nD)]; exact s4 _ _ (s3 _ _ e)
      · rw [upd_same, nB, List.replicate_succ', List.map_append]; rfl
    · rintro H3 ⟨s3, h3⟩
      refine ⟨D, _, rfl, SqL.of h3, true, ?_, ?_⟩
      · rw [List.all_replicate]; simp
      · refine iteT ?_
        exact ⟨_, rfl, e, fa.kind, fa.en, rfl, (S2.trans s3) _ _ he, ok.kind, by rcases ok.en with h | h <;> rw [h] <;> decide +kernel, fun H4 s4 => q _ ((S2.trans s3).trans s4)⟩
theorem ok_ft {f : Addr} {fd : FuncData} (F : Fun K "_facts_as_told" "_facts_as_told" sFT f fd) (T : Bl mg) (IL : Fns P w K mg base "is_list" 1 ["thing"] (spIsL K)) (ISF : Fns P w K mg base "_is_fact" 3 ["letters", "fixed", "thing"] spIsF) :
    FnOk P w K mg base CX0 4 f fd ["letters", "fixed", "commuting", "facts"] spFT := by
  refine F.ok scFT (fun vs H Q E h => ?_) (fun cdv A outer s H vs Q E hr h => ?_)
  · obtain ⟨a, b, c, d, g, rfl, _⟩ := h
    rfl
  · obtain ⟨a, b, c, d, g, rfl, hL, hF, hC, ⟨ts, hd, hts⟩, wf, q⟩ := h
    have hu9 : (A.deeper (PyProof.Rows.envOfC "_facts_as_told" (defScope sFT) s.heap.objs.size f cdv)).units + 9 < cLine := by have := hr.un; omega
    refine ⟨_, pss_cons (ps_if (pt_not (pt_val (pe_fn IL hr (by decide) rfl (pa_cons (pv 3) (pa_nil))))) (pss_one ps_never) (pss_nil)) (pss_cons (ps_set (i := 4) scFT.nd rfl (.inl rfl) (pe_dnewN)) (pss_cons (ps_for PassesOwn.never rfl (pi_enumW rfl T.enum (pa_cons (pv 3) (pa_nil))) (pg_tup rfl (pgs_cons (pg_name (i := 5) scFT.nd rfl (.inl rfl)) (pgs_cons (pg_name (i := 6) scFT.nd rfl (.inl rfl)) (pgs_nil)))) (pss_cons (ps_if (pt_not (pt_val (pe_fn ISF hr (by decide) rfl (pa_cons (pv 0) (pa_cons (pv 1) (pa_cons (pv 6) (pa_nil))))))) (pss_one ps_never) (pss_nil)) (pss_cons (ps_asg (pv 6) (pg_tup rfl (pgs_cons (pg_name (i := 7) scFT.nd rfl (.inl rfl)) (pgs_cons (pg_name (i := 8) scFT.nd rfl (.inl rfl)) (pgs_cons (pg_name (i := 9) scFT.nd rfl (.inl rfl)) (pgs_nil)))))) (pss_cons (ps_set (i := 10) scFT.nd rfl (.inl rfl) (pe_tup (pa_cons (pv 7) (pa_cons (pe_weak (t' := tAsk) (pe_callTy (call_tuple_of) (by rfl) T.tuple (by decide +kernel) (pa_cons (pe_ifExp (pt_cmpR op_in_seq (pv 7) (pv 2) (by rfl)) (pe_callB (cr_sortedTS) (by rfl) T.sorted (by decide +kernel) (pa_cons (pv 8) (pa_nil))) (pv 8)) (pa_nil))) ask_weak) (pa_nil))))) (pss_cons (ps_if (pt_cmpR (op_inN hu9) (pv 10) (pv 4) (by rfl)) (pss_one ps_never) (pss_nil)) (pss_one (ps_asg (pe_tup (pa_cons (pv 7) (pa_cons (pe_callTy (call_tuple_of) (by rfl) T.tuple (by decide +kernel) (pa_cons (pv 8) (pa_nil))) (pa_cons (pe_callTy (call_tuple_of) (by rfl) T.tuple (by decide +kernel) (pa_cons (pv 9) (pa_nil))) (pa_nil))))) (pg_sub (pv 4) (pv 10) (set_dictN hu9))))))))) (pss_one (ps_ret (pe_callTy ((call_listVN rfl)) (by rfl) T.list (by decide +kernel) (pa_cons (pe_valsN (pv 4)) (pa_nil))))))), ?_⟩
    obtain ⟨ty, hty0, hty⟩ := tyS (K := K) (.inl (SqL.of hd) : SqA K H d (ts.map V.ref))
    refine ⟨_, rfl, .ref d, _, true, rfl, hty, kit_seq hty0, fun H1 s1 => ⟨_, rfl, ?_⟩⟩
    refine iteF ?_
    intro D nD
    obtain ⟨H2, s2, h2, e2⟩ := lay (o := ndO P w D []) nD
    have e2' : upd H1 D (ndO (cxOf CX0 P w K mg base ftN "_facts_as_told" (defScope sFT) f cdv A outer s H E).nox.prog (cxOf CX0 P w K mg base ftN "_facts_as_told" (defScope sFT) f cdv A outer s H E).nox.w D []) = H2 := e2
    rw [e2']
    have nDH : H D = none := s1.free nD
    have S2 : Same H (hid [D] H2) := same_hid_new nDH (s1.trans s2)
    have ltd : ts.length = g.facts.length := (Paired.length hts).symm
    refine ⟨_, rfl, d, ts.map V.ref, true, [D], rfl, SqL.of (S2 _ _ hd), fun J WJ => ?_⟩
    refine for_it WJ (fun i σ H' => ∃ (o5 o6 o7 o8 o9 o10 : Option V) (xs : NX) (bs : List Addr), σ = [some (.ref a), some (.ref b), some (.ref c), some (.ref d), some (.ref D), o5, o6, o7, o8, o9, o10] ∧ Same H (hid [D] H') ∧ H' D = some (ndO P w D xs) ∧ NdKeys (hid [D] H') xs ∧
      xs.map (·.1) = (g.facts.take i).map (fun f => nkO (g.asked f)) ∧ xs.map (fun x => x.2.2) = bs.map Value.ref ∧ Paired (FactAt (hid [D] H')) (g.facts.take i) bs) ⟨none, none, none, none, none, none, [], [], rfl, S2, h2, (fun e he => nomatch he), rfl, rfl, .nil⟩ (fun i σ H' _ ⟨_, _, _, _, _, _, _, _, _, S, _⟩ => SqL.of (S _ _ hd)) ?_ ?_
    · rintro i x σ H3 H3' hi ⟨o5, o6, o7, o8, o9, o10, xs, bs, rfl, S3, h3, k3, e31, e32, p3⟩ ⟨Tp, y1, y2, rfl, nT, rfl, e1, ey⟩
      obtain rfl := Option.some.inj e1
      obtain ⟨t, htt, rfl⟩ : ∃ t, ts[i]? = some t ∧ y2 = V.ref t := by
        have ey : (ts.map V.ref)[i]? = some y2 := ey
        rw [List.getElem?_map] at ey
        cases e : ts[i]? with
        | none => rw [e] at ey; cases ey
        | some y => rw [e] at ey; exact ⟨y, rfl, (Option.some.inj ey).symm⟩
      have hig : i < g.facts.length := by rw [← ltd]; exact (List.getElem?_eq_some_iff.mp htt).1
      have hfi : g.facts[i]? = some g.facts[i] := List.getElem?_eq_getElem hig
      generalize hfa : g.facts[i] = fa at hfi
      have fmem := List.mem_of_getElem? hfi
      obtain ⟨t', ht', hA⟩ : ∃ t', ts[i]? = some t' ∧ FactAt H fa t' := paired_at' hts hfi
      obtain rfl : t' = t := by rw [htt] at ht'; exact (Option.some.inj ht').symm
      have ok := wf.fa _ fmem
      obtain ⟨H4, s4, h4, e4⟩ := lay (o := .tup [.int (i : Nat), .ref t']) nT
      rw [e4]
      have S4 : Same H (hid [D] H4) := S3.trans (hid_same s4)
      have S40 : Same H H4 := S4.trans (hid_low _ _)
      refine ⟨Tp, _, rfl, SqT.of h4, rfl, _, _, rfl, _, _, rfl, rfl, ?_⟩
      refine ⟨_, rfl, _, rfl, _, rfl, a, b, t', g.letters, g.fixed, fa, rfl, S40 _ _ hL, wf.nd, S40 _ _ hF, hA.mono S40, ok, wf.ar, fun H5 s5 => ⟨_, rfl, ?_⟩⟩
      refine iteF ?_
      have S5 : Same H (hid [D] H5) := S4.trans (hid_same s5)
      have S50 : Same H H5 := S5.trans (hid_low _ _)
      obtain ⟨v, e, ht, hv, he⟩ := (hA.mono S5).ex
      have ht0 := (hid_in ht).1
      have hv0 := (hid_in hv).1
      have he0 := (hid_in he).1
      refine ⟨_, rfl, t', _, rfl, SqT.of ht0, rfl, _, _, rfl, _, _, rfl, _, _, rfl, rfl, ?_⟩
      have h5D : H5 D = some (ndO P w D xs) := s5 _ _ (s4 _ _ h3)
      have len2 : fa.vals.length ≤ 2 := by
        obtain ⟨k, hk, e⟩ := ok.len
        have h2 : k ≤ 2 := wf.ar _ hk
        omega
      have hask : g.asked fa = (fa.x, if fa.x ∈ g.comm then sort2 fa.vals else fa.vals) := rfl
      refine ⟨_, rfl, fa.x, v, c, fa.vals, g.comm, rfl, rfl, rfl, S50 _ _ hC, hv0, len2, ok.vals, fun kv H6 s6 hkv => ?_⟩
      refine ⟨by show 2 ≤ sizeLine; decide, fun ka nka => ?_⟩
      obtain ⟨H7, s7, h7, e7⟩ := lay (o := .tup [.str fa.x, .ref kv]) nka
      rw [e7]
      have S57 : Same H5 H7 := s6.trans s7
      have h7D := S57 _ _ h5D
      have nD7 : ∀ {q : Addr} {o : List V}, H7 q = some (.tup o) → hid [D] H7 q = some (.tup o) := fun h => hid_to (ni1 (ne_of h h7D (fun z => nomatch z))) h
      have k7 : NdKeys (hid [D] H7) xs := k3.mono (hid_same ((s4.trans s5).trans S57))
      have nk7 : NkV (hid [D] H7) (nkO (g.asked fa)) (.ref ka) := by
        rw [hask]
        exact .tup (nD7 h7) (.cons (.text _) (.cons (.tup (nD7 (s7 _ _ hkv)) (nk_txk _)) .nil))
      have nokey : nkO (g.asked fa) ∉ xs.map (·.1) := by
        rw [e31]
        intro m
        obtain ⟨fb, hfb, eb⟩ := List.mem_map.mp m
        have eq := nkO_inj eb
        exact not_in_take_map wf.fd hfi hfb eq
      have hnone := atKey_none nokey
      refine ⟨_, rfl, _, rfl, ka, D, nkO (g.asked fa), xs, rfl, rfl, h7D, k7.mono (hid_low _ _), NkV.mono (hid_low _ _) _ _ nk7, nkO_depth _, _, rfl, ?_⟩
      rw [hnone]
      refine iteF ?_
      have hv7 := S57 _ _ hv0
      have he7 := S57 _ _ he0
      refine ⟨_, rfl, _, rfl, v, _, rfl, .inr ⟨SqT.of hv7, _, rfl, e, _, rfl, .inr ⟨SqT.of he7, by show 3 ≤ sizeLine; decide, fun b nb => ?_⟩⟩⟩
      obtain ⟨H8, s8, h8, e8⟩ := lay (o := .tup [.str fa.x, .ref v, .ref e]) nb
      rw [e8]
      have h8D := s8 _ _ h7D
      have lxs : xs.length ≤ 6 := by
        have := congrArg List.length e31
        rw [List.length_map, List.length_map, List.length_take] at this
        have := wf.fl
        omega
      have k8 := k7.mono (hid_same s8)
      have nk8 := NkV.mono (hid_same s8) _ _ nk7
      refine ⟨_, rfl, _, rfl, D, ka, b, nkO (g.asked fa), xs, rfl, rfl, rfl, h8D, k8.mono (hid_low _ _), NkV.mono (hid_low _ _) _ _ nk8, nkO_depth _, by omega, ?_⟩
      rw [storedH_new hnone]
      have B8 : Bt [D] H8 (upd H8 D (ndO P w D (xs ++ [(nkO (g.asked fa), ka, Value.ref b)]))) := bt_upd (by simp)
      have S58 : Same (hid [D] H5) (hid [D] (upd H8 D (ndO P w D (xs ++ [(nkO (g.asked fa), ka, Value.ref b)])))) := (hid_same (S57.trans s8)).trans B8
      have bD : b ∉ [D] := ni1 (ne_of_none h7D nb).symm
      refine ⟨_, _, _, _, _, _, xs ++ [(nkO (g.asked fa), ka, Value.ref b)], bs ++ [b], rfl, S5.trans S58, upd_same, ?_, ?_, ?_, ?_⟩
      · intro en hen
        rcases List.mem_append.mp hen with h | h
        · exact (k8.mono B8) en h
        · rw [List.mem_singleton.mp h]
          exact ⟨NkV.mono B8 _ _ nk8, nkO_depth _⟩
      · rw [take_at hfi, List.map_append, List.map_append, e31]; rfl
      · rw [List.map_append, List.map_append, e32]; rfl
      · rw [take_at hfi]
        exact paired_app (Paired.mapP p3 fun _ _ r => r.mono ((hid_same (s4.trans s5)).trans S58)) (.cons ⟨v, e, B8 _ _ (hid_to bD h8), S58 _ _ hv, S58 _ _ he⟩ .nil)
    · rintro σ H3 ⟨o5, o6, o7, o8, o9, o10, xs, bs, rfl, S3, h3, k3, e31, e32, p3⟩
      have lbs : bs.length = g.facts.length := by rw [← Paired.length p3, List.length_take]; rw [List.length_map, ltd]; omega
      refine ⟨_, rfl, D, xs, rfl, h3, fun vw nvw => ?_⟩
      obtain ⟨H4, s4, h4, e4⟩ := lay (o := valsO vw D) nvw
      rw [e4]
      refine ⟨vw, D, xs, bs, rfl, h4, s4 _ _ h3, e32, by rw [lbs]; have := wf.fl; omega, fun l nl => ?_⟩
      obtain ⟨H5, s5, h5, e5⟩ := lay (o := .lst (bs.map V.ref)) nl
      rw [e5]
      have S5 : Same H H5 := (S3.trans (hid_low _ _)).trans (s4.trans s5)
      rw [List.take_of_length_le (by rw [List.length_map, ltd]; exact Nat.le_refl _)] at p3
      exact q l H5 (((S3.trans (hid_low _ _)).trans s4).free nl) S5 ⟨bs, h5, Paired.mapP p3 fun _ _ r => r.mono ((hid_low _ _).trans (s4.trans s5))⟩
end
end K7
set_option Elab.async false
set_option linter.all false
set_option maxRecDepth 100000
set_option maxHeartbeats 4000000
/-! Grounds as Ground takes them (fixed and commuting in any order, facts as lists or tuples), and as it keeps them. -/
namespace GB
open PySem PySem.Spec L2
theorem nodup_le : ∀ {l m : List Str}, l.Nodup → (∀ x ∈ l, x ∈ m) → l.length ≤ m.length
  | [], _, _, _ => Nat.zero_le _
  | x :: l, m, h, s => by
    have hx := s x List.mem_cons_self
    have h' := List.nodup_cons.mp h
    have := nodup_le (l := l) (m := m.erase x) h'.2 fun y hy => (List.mem_erase_of_ne (fun e => h'.1 (by rw [← e]; exact hy))).mpr (s y (List.mem_cons_of_mem _ hy))
    rw [List.length_erase_of_mem hx] at this
    have := List.length_pos_of_mem hx
    rw [List.length_cons]
    omega
/-- what Ground asks of its parts -/
structure GD.Fit (g : GD) : Prop where
  ne : g.letters ≠ []
  nd : (g.letters.map (·.1)).Nodup
  nm : ∀ q ∈ g.letters, nameB q.1 = true
  le : g.letters.length ≤ 12
  ar : ∀ q ∈ g.letters, q.2 ≤ 2
  fx : g.fixed.Nodup
  fs : ∀ x ∈ g.fixed, x ∈ g.letters.map (·.1)
  cm : g.comm.Nodup
  cs : ∀ x ∈ g.comm, x ∈ g.fixed
  c2 : ∀ x ∈ g.comm, (x, 2) ∈ g.letters
  fl : g.facts.length ≤ 6
  fa : ∀ f ∈ g.facts, f.Ok g.letters g.fixed
  fd : (g.facts.map g.asked).Nodup
theorem GD.Wf.fit {g : GD} (h : g.Wf) : g.Fit :=
  ⟨h.ne, h.nd, fun q hq => (show ∀ x ∈ nmA, nameB x = true by decide +kernel) _ (h.nm q hq), by have := h.le; omega, h.ar, h.fx.nodup h.nd, fun x hx => h.fx.subset hx, h.cm.nodup (h.fx.nodup h.nd), fun x hx => h.cm.subset hx, h.c2, h.fl, h.fa, h.fd⟩
/-- the letters that stand in xs, in their order -/
def GD.sel (g : GD) (xs : List Str) : List Str := (g.letters.map (·.1)).filter fun x => decide (x ∈ xs)
theorem GD.mem_sel {g : GD} {xs : List Str} (h : ∀ x ∈ xs, x ∈ g.letters.map (·.1)) {x : Str} : x ∈ g.sel xs ↔ x ∈ xs := by
  unfold GD.sel
  rw [List.mem_filter]
  simp only [decide_eq_true_eq]
  exact ⟨fun z => z.2, fun z => ⟨h x z, z⟩⟩
/-- the same, fixed and commuting in the order of letters -/
def GD.norm (g : GD) : GD := ⟨g.letters, g.sel g.fixed, g.sel g.comm, g.facts⟩
theorem GD.Fit.cl {g : GD} (h : g.Fit) : ∀ x ∈ g.comm, x ∈ g.letters.map (·.1) := fun x hx => h.fs x (h.cs x hx)
theorem GD.Fit.asked {g : GD} (h : g.Fit) (f : Fact) : g.norm.asked f = g.asked f := by
  have e : (f.x ∈ g.norm.comm) = (f.x ∈ g.comm) := propext (GD.mem_sel h.cl)
  unfold GD.asked
  by_cases m : f.x ∈ g.comm
  · rw [if_pos m, if_pos (by rw [e]; exact m)]
  · rw [if_neg m, if_neg (by rw [e]; exact m)]
theorem GD.Fit.norm {g : GD} (h : g.Fit) : g.norm.Fit where
  ne := h.ne
  nd := h.nd
  nm := h.nm
  le := h.le
  ar := h.ar
  fx := h.nd.filter _
  fs := fun x hx => (List.mem_filter.mp hx).1
  cm := h.nd.filter _
  cs := fun x hx => (GD.mem_sel h.fs).mpr (h.cs x ((GD.mem_sel h.cl).mp hx))
  c2 := fun x hx => h.c2 x ((GD.mem_sel h.cl).mp hx)
  fl := h.fl
  fa := fun f hf => let o := h.fa f hf; ⟨(GD.mem_sel h.fs).mpr o.x, o.len, o.vals, o.kind, o.en⟩
  fd := by
    have e : g.norm.facts.map g.norm.asked = g.facts.map g.asked := List.map_congr_left fun f _ => h.asked f
    rw [e]
    exact h.fd
/-- a list or a tuple of one's own -/
def PlA (H : Hp) (a : Addr) (xs : List V) : Prop := H a = some (.lst xs) ∨ H a = some (.tup xs)
theorem PlA.mono {H H' : Hp} {a : Addr} {xs : List V} (s : Same H H') (h : PlA H a xs) : PlA H' a xs := h.imp (s _ _) (s _ _)
theorem PlA.sq {K : PySem.W.Frag} {H : Hp} {a : Addr} {xs : List V} (h : PlA H a xs) : SqA K H a xs := h.imp SqL.of SqT.of
/-- a fact as it is handed over: lists or tuples -/
structure FactA (H : Hp) (f : Fact) (t : Addr) : Prop where
  ex : ∃ v e : Addr, PlA H t [.str f.x, .ref v, .ref e] ∧ PlA H v (sts f.vals) ∧ PlA H e [.str f.kind, .str f.en]
theorem FactA.mono {H H' : Hp} {f : Fact} {t : Addr} (s : Same H H') (h : FactA H f t) : FactA H' f t := let ⟨v, e, h1, h2, h3⟩ := h.ex; ⟨v, e, h1.mono s, h2.mono s, h3.mono s⟩
theorem FactAt.any {H : Hp} {f : Fact} {t : Addr} (h : FactAt H f t) : FactA H f t := let ⟨v, e, h1, h2, h3⟩ := h.ex; ⟨v, e, .inr h1, .inr h2, .inr h3⟩
/-- tuple(x) of such a one -/
theorem tupP {K : PySem.W.Frag} {H : Hp} {Q : VK} {p : Addr} {ys : List V} (h : PlA H p ys) (q : ∀ l H', Same H H' → H' l = some (.tup ys) → Q (.ref l) H') : (SqL K H p ys ∧ ∀ l, H l = none → Q (.ref l) (upd H l (.tup ys))) ∨ (SqT K H p ys ∧ Q (.ref p) H) := by
  rcases h with h | h
  · refine .inl ⟨SqL.of h, fun l nl => ?_⟩
    obtain ⟨H1, s1, h1, e1⟩ := lay (o := .tup ys) nl
    rw [e1]
    exact q l H1 s1 h1
  · exact .inr ⟨SqT.of h, q p H (Same.refl _) h⟩
/-- a ground of the package, all that it tells -/
structure IsGr2 (C : Addr) (H : Hp) (G : Addr) (g : GD) : Prop where
  ex : ∃ dx fs l1 l2 l3 l4 l5, H G = some (.ins C dx fs) ∧ (fs.lookup ("_facts" : Str) = some (.ref l1) ∧ FactsAt H l1 g.facts) ∧ (fs.lookup ("_letters" : Str) = some (.ref l2) ∧ H l2 = some (.dK (lkv g.letters))) ∧
    (fs.lookup ("_order" : Str) = some (.ref l3) ∧ H l3 = some (.lst (sts (g.letters.map (·.1))))) ∧ (fs.lookup ("_fixed" : Str) = some (.ref l4) ∧ H l4 = some (.lst (sts (g.sel g.fixed)))) ∧
    (fs.lookup ("_commuting" : Str) = some (.ref l5) ∧ H l5 = some (.lst (sts (g.sel g.comm)))) ∧ ∀ m ∈ (["letters", "fixed", "commuting", "facts"] : List Str), fs.lookup m = none
theorem IsGr2.mono {C : Addr} {H H' : Hp} {G : Addr} {g : GD} (s : Same H H') (h : IsGr2 C H G g) : IsGr2 C H' G g :=
  let ⟨dx, fs, l1, l2, l3, l4, l5, h0, h1, h2, h3, h4, h5, h6⟩ := h.ex
  ⟨dx, fs, l1, l2, l3, l4, l5, s _ _ h0, ⟨h1.1, h1.2.mono s⟩, ⟨h2.1, s _ _ h2.2⟩, ⟨h3.1, s _ _ h3.2⟩, ⟨h4.1, s _ _ h4.2⟩, ⟨h5.1, s _ _ h5.2⟩, h6⟩
/-- (a, b, ..) = a list or a tuple of that length -/
def gSqA (K : PySem.W.Frag) (n : Nat) (t : TGs) : TG := fun v σ H Q => ∃ a xs, v = .ref a ∧ SqA K H a xs ∧ xs.length = n ∧ t xs σ H Q
theorem pg_sqA {X : Cx} {pos : PySem.Pos} {es : List Expr} {k : Nat} {t : TGs} {n : Nat} (hc : X.calm = true) (h : PGs X es t)
    (hn : (assignEach es X.env).length = n := by rfl) (hst : (assignEach es X.env).findIdx? (·.1) = none := by rfl) : PG X (.Tuple es k pos) (gSqA X.K n t) := by
  refine ⟨fun pins s σ H v u Q I r hw => ?_⟩
  obtain ⟨a, xs, e, hq | hq, hl, hw⟩ := hw
  · exact (pg_lst hc h hn hst).run pins s σ H v u Q I r ⟨a, xs, e, hq, hl, hw⟩
  · exact (pg_tup hc h hn hst).run pins s σ H v u Q I r ⟨a, xs, e, hq, hl, hw⟩
def rSrtA (K : PySem.W.Frag) : List V → Hp → VK → Prop := fun vs H Q => rSortedTS K vs H Q ∨ rSortedS K vs H Q
theorem cr_srtA {X : Cx} : CallR X (.builtin "sorted") (rSrtA X.K) := CallR.or cr_sortedTS cr_sortedS
theorem srtA {K : PySem.W.Frag} {H : Hp} {Q : VK} {a : Addr} {xs : List Str} (h : SqA K H a (sts xs)) (hl : xs.length < 64) (q : ∀ (ys : List Str) (p : Addr), ys.Perm xs → PyProof.Rows.sortedS ys = true → H p = none → Q (.ref p) (upd H p (.lst (sts ys)))) : rSrtA K [.ref a] H Q := by
  rcases h with h | h
  · exact .inr ⟨a, xs, rfl, h, hl, q⟩
  · exact .inl ⟨a, xs, rfl, h, hl, q⟩
end GB
set_option Elab.async false
set_option linter.all false
set_option maxRecDepth 100000
set_option maxHeartbeats 8000000
/-! A list comprehension whose elements' calls may raise. -/
namespace CompX
open PySem PySem.Spec PyProof.Rows L2
/-- behind a block: as the library has it where it ran through; where it raised, what is left to be done by the block's own environment -/
def post (M : Model) (A : Around) (E : Value → Shared → Prop) (use : Option (Value → Sem Unit)) (Q : Value → Shared → Prop) (acc : Value) (be : Env) : Result → Shared → Prop
  | .ok f, t => compPost M A E use Q acc be.locals (.ok f) t
  | .error x, t => ∃ m, t.heap.Ns be.locals m ∧ ∀ hp, Heap.SameBut be.locals t.heap hp → wpAny M A (PySem.passOn "comprehension.variables-let-go" x be : Sem Value) (fun _ _ => False) E { t with heap := hp }
section
variable {M : Model} {A : Around} {E : Value → Shared → Prop} {s : Shared} {env : Env}
theorem comp_free {ex : Expr} {sc : Scope} {pos : Pos} {mk fst : Sem Value} {c1 : Comprehension} {cs : List Comprehension} {clo : List (Str × Addr)} {use : Option (Value → Sem Unit)} {Q : Value → Shared → Prop}
    (h1 : clausesOf ex = c1 :: cs) (h2 : ∀ x, foldedSetIterable c1.iter env x = pure x) (h3 : closureFor sc env = pure clo) (h4 : sc.kind = .function) (h5 : ∀ y ∈ sc.names, y.2 = .local → sc.names.lookup y.1 = some .local)
    (h : wpAny M A fst (fun x t1 => wpAny M A (pyIter x) (fun it t2 => wpAny M A mk (fun acc t3 => wpAny M A (newFunctionEnv sc env.globals clo [] env.qual none .none (some env)) (fun be t4 =>
      codeAny M A (.compStart ex 0 it acc { be with scope := relabel sc env }) (post M A E use Q acc { be with scope := relabel sc env }) t4) E t3) E t2) E t1) E s) :
    wpAny M A (comprehension ex sc env pos mk false fst use) Q E s := by
  unfold comprehension
  rw [h3, h1]
  refine wpAny_bind (wpAny_mono h (fun x t1 g1 => ?_) fun _ _ z => z)
  refine wpAny_bind (wpAny_standAt (wpAny_bind (wpAny_of_eq (h2 x) (wpAny_bind (wpAny_holding (wpAny_mono g1 (fun it t2 g2 => ?_) fun _ _ z => z))))))
  refine wpAny_standIf (wpAny_bind (wpAny_mono g2 (fun acc t3 g3 => ?_) fun _ _ z => z))
  refine wpAny_bind (wpAny_pure (wpAny_bind (wpAny_mono g3 (fun be t4 g4 => ?_) fun _ _ z => z)))
  dsimp only
  have own : ∀ (l : List (Str × NameKind)), (∀ y ∈ l, y ∈ sc.names) → ∀ y ∈ l, y.2 = .local → Env.kindOf { be with scope := relabel sc env } y.1 = some .local := fun l hl y hy e => lookup_relabel_local (h5 y (hl y hy) e)
  have in1 : ∀ y ∈ (sc.names.filter fun y => (y.2 == .local || y.2 == .cell) && y.1 != (".0" : Str)).reverse, y ∈ sc.names := fun y hy => (List.mem_filter.mp (List.mem_reverse.mp hy)).1
  have in2 : ∀ y ∈ (sc.names.filter fun y => (y.2 == .local || y.2 == .cell) && y.1 != (".0" : Str)).reverse.drop 1 ++ (sc.names.filter fun y => (y.2 == .local || y.2 == .cell) && y.1 != (".0" : Str)).reverse.take 1, y ∈ sc.names := fun y hy =>
    (List.mem_append.mp hy).elim (fun z => in1 y (List.mem_of_mem_drop z)) fun z => in1 y (List.mem_of_mem_take z)
  refine wpAny_holding (wpAny_bind (wpAny_attempt (wpAny_holding (wpAny_run (codeAny_mono g4 fun r t5 g5 => ?_)))))
  cases r with
  | ok f =>
    cases use with
    | none =>
      obtain ⟨m, hn, g6⟩ := g5
      exact wpAny_bind (wpAny_holding (wpAny_comp_letGo (cenv := { be with scope := relabel sc env }) h4 _ t5 m (own _ in1) hn fun hp _ _ sb => wpAny_pure (g6 hp sb)))
    | some u =>
      refine wpAny_bind (wpAny_rule (wpAny_bind (wpAny_holding (wpAny_mono g5 (fun _ t6 g6 => ?_) fun _ _ z => z))))
      obtain ⟨m, hn, g7⟩ := g6
      exact wpAny_bind (wpAny_comp_letGo (cenv := { be with scope := relabel sc env }) h4 _ t6 m (own _ in2) hn fun hp _ _ sb => wpAny_pure (g7 hp sb))
  | error x =>
    obtain ⟨m, hn, g6⟩ := g5
    exact wpAny_bind (wpAny_holding (wpAny_comp_letGo (cenv := { be with scope := relabel sc env }) h4 _ t5 m (own _ in1) hn fun hp _ _ sb => wpAny_mono (g6 hp sb) (fun _ _ z => z.elim) fun _ _ z => z))
end
section
variable {X : Cx} {pins : List (Addr × Obj)} {σ : L2.St} {H : Hp} {s s' : Shared} {W : WX}
/-- an exception that this frame noted is in the air: the state without it -/
theorem held (I : Inv X pins σ H s) {a : Addr} {B : Heap} {H' : Hp} {cls : Value} {d : Option Addr} (fl : HandSPX.HeldZ B X.stack a (Zc cls d) X.env.locals s'.heap) (hok : HOk X.prog X.w H' B) (ub : UB (frs X.stack) H H' s.heap B s'.heap) (na : H' a = none)
    (os : s'.os = s.os) (ag : AllBare s'.gens) (w : W cls d σ H') : XE X W (.ref a) s' := by
  obtain ⟨G, gIn, gOut⟩ := restrict s'.heap (fun b => (B.get? b).isSome || decide (b ∈ frs X.stack))
  have st := fl.1
  have fromB : ∀ b o, B.get? b = some o → G.get? b = some o := fun b o e => (gIn b (by simp [e])).trans (st b o e)
  have fromF : ∀ b, b ∈ frs X.stack → G.get? b = s'.heap.get? b := fun b hb => gIn b (by simp [hb])
  have back : ∀ b o, G.get? b = some o → s'.heap.get? b = some o ∧ ((B.get? b).isSome = true ∨ b ∈ frs X.stack) := by
    intro b o e
    by_cases q : ((B.get? b).isSome || decide (b ∈ frs X.stack)) = true
    · rw [gIn b q] at e
      exact ⟨e, by simpa using q⟩
    · rw [gOut b (by simpa using q)] at e
      cases e
  refine ⟨a, B, { s with heap := G, gens := s'.gens, drawn := s'.drawn, toks := s'.toks }, pins, σ, H', cls, d, rfl, ?_, fun b o e nf => ?_, Heap.UpToSlots.of_keeps (fun b o e => (back b o e).1), .inr (.inr fl), na, os, ag, w⟩
  · have slot : ∀ b o, s.heap.get? b = some o → b ∈ frs X.stack → ∃ sl, G.get? b = some { o with slots := sl } := fun b o e hb => by
      obtain ⟨sl, z⟩ := ub.slot b o e hb
      exact ⟨sl, (fromF b hb).trans z⟩
    refine I.call (ch := []) ⟨fun b o e n nf _ => fromB b o (ub.keep b o e n nf), fun b o e n hb _ => slot b o e hb, fun b o e n _ => ub.free b o e n, fun b o e _ => ?_, ub.tups, ub.frzs, ub.tbls⟩ (hok.kept fromB) ag (fun _ z => nomatch z)
    by_cases hb : b ∈ frs X.stack
    · obtain ⟨sl, z⟩ := slot b o e hb
      exact ⟨_, z⟩
    · obtain ⟨o2, z⟩ := ub.there b o e hb
      exact ⟨o2, fromB b o2 z⟩
  · obtain ⟨e2, hB⟩ := back b o e
    rcases hB with hB | hB
    · obtain ⟨o2, z⟩ := Option.isSome_iff_exists.mp hB
      have z2 := st b o2 z
      rw [e2] at z2
      cases z2
      exact z
    · exact absurd hB nf
end
section
variable {X : Cx} {pins pb : List (Addr × Obj)} {σ σb : L2.St} {H1 H3 : Hp} {s1 s3 s' : Shared} {W : WX} {E0 : XK}
/-- what a call in the block let out goes on to the def -/
theorem out {scope : Scope} {fp : List Addr} {ce : Env} {u : Value} {E1 : Value → Shared → Prop} (I3 : Inv X pins σ H3 s3) (hce : ce.locals = s3.heap.objs.size) (hfr : ce.frame = X.env.frame) (f3 : ∀ b ∈ fp, FpOk X pins H3 b) (hs : X.stack = X.env :: X.outer) (hf : X.env.frame = some X.env.locals)
    (tk : Takes X W) (hW : ∀ cls d H', E0 cls d H' → W cls d σ H') (Ib : Inv (X.blk s3 H3 scope ce fp) pb σb H1 s1) (c : CX X.prog X.w X.stack H1 s1 E0 u s') :
    wpAny (model X.prog X.w) X.A (noteFrame u ce) (fun _ t => ∃ m, t.heap.Ns ce.locals m ∧ ∀ hp, Heap.SameBut ce.locals t.heap hp → wpAny (model X.prog X.w) X.A (PySem.passOn "comprehension.variables-let-go" u ce : Sem Value) (fun _ _ => False) X.xe { t with heap := hp }) E1 s' := by
  obtain ⟨a, B, H', cls, d, rfl, fl, hokB, ub, na, os, ag, hE⟩ := c
  have I7 : Inv X pins σ H1 s1 := I3.call' (ch := fp) Ib.os Ib.base Ib.hok Ib.bare fun b hb => ⟨(f3 b hb).2.2.2.1, (f3 b hb).2.1, (f3 b hb).2.2.2.2.1, (f3 b hb).2.2.2.2.2⟩
  obtain ⟨m, hn, _⟩ := Ib.loc
  have hn : s1.heap.Ns ce.locals m := hn
  have nC : H1 ce.locals = none := Ib.free
  have fC : FpOk X pins H1 ce.locals := by
    rw [hce] at nC ⊢
    exact I3.fpOk (Nat.le_refl _) nC
  have nfC : ce.locals ∉ frs X.stack := by
    rw [hs]
    intro hm
    unfold frs at hm
    rw [List.filterMap_cons, hf] at hm
    rcases List.mem_cons.mp hm with z | z
    · exact fC.2.1 z
    · exact fC.2.2.1 z
  obtain ⟨oC, es, ep, hoC, hdC, hk, hm⟩ := hn
  have BC : B.get? ce.locals = some oC := ub.keep _ _ hoC nC nfC
  have nC' : H' ce.locals = none := ub.free _ _ hoC nC
  have hC' : s'.heap.get? ce.locals = some oC := fl.1 _ _ BC
  have ndC : ∀ vs, oC.data ≠ .fields vs := fun vs z => by rw [hdC] at z; cases z
  have hA : X.A.frames = some (X.env :: X.outer) := by rw [I7.ok.frames, hs]
  have fl' : HandSPX.FlyingZ B (X.env :: X.outer) a (Zc cls d) s'.heap := by rw [← hs]; exact fl
  have e1 : noteFrame (.ref a) ce = noteFrame (.ref a) X.env := by
    unfold noteFrame PySem.frameOf
    rw [hfr]
  rw [e1]
  refine HandSPX.looks_onZ Zc.steady hA hf fl' fun h1 hld up1 => ?_
  obtain ⟨sl, h1C⟩ := up1 _ _ hC' ndC
  refine ⟨m, ⟨_, es, ep, h1C, hdC, hk, hm⟩, fun h2 sb => ?_⟩
  obtain ⟨k1, k2, k3, oe, vs, T, oT, ts, he, hz, hd, hv1, hnT, hTe, hT, hdT, hT3⟩ := hld
  have aC : a ≠ ce.locals := fun z => by
    rw [z, h1C] at he
    cases he
    exact ndC _ hd
  have TC : T ≠ ce.locals := fun z => by
    rw [z, h1C] at hT
    cases hT
    exact ndC _ hdT
  have he2 := (sb.2 a aC).trans he
  have hB3 : ∀ b o, (PySem.W.hideAll B [ce.locals]).get? b = some o → b ≠ ce.locals ∧ B.get? b = some o := fun b o e => by
    refine ⟨fun z => ?_, PySem.W.of_hideAll _ e⟩
    rw [z, PySem.W.hideAll_none [ce.locals] (by simp)] at e
    cases e
  have noB3 : ∀ b, B.get? b = none → (PySem.W.hideAll B [ce.locals]).get? b = none := fun b hb => by
    cases q : (PySem.W.hideAll B [ce.locals]).get? b with
    | none => rfl
    | some o => rw [(hB3 b o q).2] at hb; cases hb
  have inB3 : ∀ b o, B.get? b = some o → b ≠ ce.locals → (PySem.W.hideAll B [ce.locals]).get? b = some o := fun b o e n => PySem.W.hideAll_get _ e (by simpa using n)
  have fr2 : h2.FunFrames (PySem.W.hideAll B [ce.locals]) (X.env :: X.outer) := by
    have k4 : ∀ L ∈ frs (X.env :: X.outer), (PySem.W.hideAll B [ce.locals]).get? L = none := fun L hL => noB3 L (k3.mem hL).1
    have gen : ∀ l : List Env, (∀ L ∈ frs l, L ∈ frs X.stack) → h1.FunFrames B l → h2.FunFrames B l := by
      intro l
      induction l with
      | nil => intro _ _; trivial
      | cons en l ih =>
        intro hsub hl
        obtain ⟨x1, ⟨L, o, x2, x3, x4, x5⟩, x6⟩ := hl
        have hL : L ∈ frs (en :: l) := by unfold frs; rw [List.filterMap_cons, x2]; exact List.mem_cons_self
        refine ⟨x1, ⟨L, o, x2, x3, ?_, x5⟩, ih (fun L2 h2 => hsub L2 ?_) x6⟩
        · rw [sb.2 L fun z => nfC (by rw [← z]; exact hsub L hL)]
          exact x4
        · unfold frs at h2 ⊢
          rw [List.filterMap_cons, x2]
          exact List.mem_cons_of_mem _ h2
    exact funFrames_none (gen _ (fun L hL => by rw [hs]; exact hL) k3) k4
  have held2 : HandSPX.HeldZ (PySem.W.hideAll B [ce.locals]) (X.env :: X.outer) a (Zc cls d) X.env.locals h2 :=
    ⟨fun b o e => (sb.2 b (hB3 b o e).1).trans (k1 b o (hB3 b o e).2), noB3 _ k2, fr2, oe, vs, T, oT, ts, he2, hz, hd, hv1, noB3 _ hnT, hTe, (sb.2 T TC).trans hT, hdT, hT3⟩
  unfold PySem.passOn
  refine wpAny_bind (wpAny_field he2 hd hv1 ?_)
  rw [if_neg (show ¬ ((Value.ref T == Value.none) = true) from by simp), hfr, hf]
  refine wpAny_bind (HandSPX.setFlight_onZ held2 fun h3 held3 up3 => ?_)
  refine wpAny_throw (tk _ _ ?_)
  rw [← hs] at held3
  -- the state without the block's names
  have I8 : Inv X pins σ H1 { s1 with heap := PySem.W.hideAll s1.heap [ce.locals] } := I7.turned (t' := s1.toks) (fun b o n e => PySem.W.hideAll_get _ e (by simpa using n)) fC.1 fC.2.1 fC.2.2.2.1 fC.2.2.2.2.1 fC.2.2.2.2.2
  have old : ∀ b o, (PySem.W.hideAll s1.heap [ce.locals]).get? b = some o → b ≠ ce.locals ∧ s1.heap.get? b = some o := fun b o e => by
    refine ⟨fun z => ?_, PySem.W.of_hideAll _ e⟩
    rw [z, PySem.W.hideAll_none [ce.locals] (by simp)] at e
    cases e
  refine held I8 held3 (fun b o q => (hokB b o q).stay (fun b2 u2 hc r => inB3 b2 u2 r fun z => ?_) (fun _ r => r) fun _ _ r => r) ⟨fun b o e n nf => inB3 b o (ub.keep b o (old b o e).2 n nf) (old b o e).1, fun b o e hb => ?_, fun b o e n => ub.free b o (old b o e).2 n, fun b o e nf => ?_, ub.tups, ub.frzs, ub.tbls⟩ na os ag (hW _ _ _ hE)
  · rcases hc with hc | hc
    · rw [← hc, z, nC'] at q
      cases q
    · rw [z, nC'] at hc
      cases hc
  · obtain ⟨sl1, z1⟩ := ub.slot b o (old b o e).2 hb
    have nd : ∀ vs, o.data ≠ .fields vs := by
      obtain ⟨_, o2, e2, hd2⟩ := I7.stack.mem hb
      rw [(old b o e).2] at e2
      cases e2
      exact hd2
    obtain ⟨sl2, z2⟩ := up1 b _ z1 nd
    have z3 := (sb.2 b (old b o e).1).trans z2
    obtain ⟨sl3, z4⟩ := up3 b _ z3 nd
    exact ⟨sl3, z4⟩
  · obtain ⟨o2, z⟩ := ub.there b o (old b o e).2 nf
    exact ⟨o2, inB3 b o2 z (old b o e).1⟩
end
section
variable {X : Cx}
theorem lcX_core {pins : List (Addr × Obj)} {s : Shared} {σ : L2.St} {H : Hp} {Q : VK} {elt tg iter : Expr} {ifs : List Expr} {sc : Scope} {own : List (Str × Nat)} {pos pos2 : Pos} {wi : TI} {g : TG} {tt : TT} {te : TE} {use : Option (Value → Sem Unit)} {Qf : Value → Shared → Prop} {E0 : XK} {W : WX}
    (hc : X.calm = true) (hN : X.N.Nodup) (I : Inv X pins σ H s) (hi : PI X tg iter wi) (ok : BlkOk X.N X.env.scope sc own)
    (hg : ∀ (t : Shared) (J : Hp) (C : Addr) (cl : List (Str × Addr)) (fp : List Addr), PG (X.blk t J sc (compEnvC sc cl C X.env) fp) tg g) (ht : ∀ (t : Shared) (J : Hp) (C : Addr) (cl : List (Str × Addr)) (fp : List Addr), PTs (X.blk t J sc (compEnvC sc cl C X.env) fp) ifs tt)
    (he : ∀ (t : Shared) (J : Hp) (C : Addr) (cl : List (Str × Addr)) (fp : List Addr) (pn : List (Addr × Obj)) (xe : Value → Shared → Prop), Passes (CX X.prog X.w) ((X.blk t J sc (compEnvC sc cl C X.env) fp).tr pn xe) E0 → PE ((X.blk t J sc (compEnvC sc cl C X.env) fp).tr pn xe) elt te)
    (hfs : ∀ x, foldedSetIterable iter X.env x = pure x) (hs : X.stack = X.env :: X.outer) (hf : X.env.frame = some X.env.locals) (tk : Takes X W) (hW : ∀ cls d J, E0 cls d J → W cls d σ J) (h : tLc wi g tt te (own.map (·.2)) σ H Q)
    (done : ∀ D C t m J, Inv X pins σ J t → Q (.ref D) J → t.heap.Ns C m → FpOk X pins J C → compPost (model X.prog X.w) X.A X.xe use Qf (.ref D) C (.ok .next) t) :
    wpAny (model X.prog X.w) X.A (comprehension (.ListComp elt [⟨tg, iter, ifs, 0⟩] sc pos) sc X.env pos2 (newList []) false (eval iter X.env) use) Qf X.xe s := by
  have cap : ∀ y ∈ sc.names, y.2 = .free → ∃ c, X.env.cells.lookup y.1 = some c := fun y hy e => (ok.free y hy e).elim (fun k => I.ok.has _ (.inl k)) fun k => I.ok.has _ (.inr k)
  refine comp_free rfl hfs (closure_ok cap) ok.kind (fun y hy e => by rw [ok.uniq y hy, e]) (thn (hi.run pins s σ H _ I h) fun xv t1 hx => thn hx fun itv t2 h2 => ?_)
  obtain ⟨it, fp, tn, J, H2, e, I2, T, st2, f2, q⟩ := h2
  subst e
  refine wpAny_newObj_type (newEnv_comp ?_) (by show 0 ≤ sizeLine; decide)
  generalize hD : t2.heap.objs.size = D
  have nD : H2 D = none := I2.hok.fresh (Nat.le_of_eq hD)
  obtain ⟨Wv, ⟨m0, w0⟩, turn⟩ := q D nD
  generalize ht3 : ({ t2 with heap := t2.heap.push { cls := .type "list", data := .seq ([] : List Value).toArray } } : Shared) = t3
  have hp3 : t3.heap = t2.heap.push { cls := .type "list", data := .seq ([] : List Value).toArray } := by rw [← ht3]
  have I3 : Inv X pins σ (upd H2 D (.lst [])) t3 := by
    rw [← ht3]
    refine I2.laid (t' := t2.toks) (fun b o e => Heap.get?_push_of_some _ e) (Nat.le_of_eq hD) ⟨Nat.zero_le _, [], 0, .nil, ?_⟩
    rw [← hD]
    exact Heap.get?_push_size _ rfl
  have lt2 : ∀ b ∈ fp, b < t2.heap.objs.size := fun b hb => let ⟨_, e, _⟩ := T.obj _ _ st2 b hb; Heap.lt_size e
  have f3 : ∀ b ∈ fp, FpOk X pins (upd H2 D (.lst [])) b ∧ b < t3.heap.objs.size := fun b hb => by
    refine ⟨⟨?_, (f2 b hb).2⟩, by rw [hp3, Heap.size_push]; exact Nat.lt_succ_of_lt (lt2 b hb)⟩
    rw [upd_ne (by rw [← hD]; exact Nat.ne_of_lt (lt2 b hb))]
    exact (f2 b hb).1
  have st3 : tn 0 t3.heap := T.keep _ _ _ st2 fun b _ o e => by rw [hp3]; exact Heap.get?_push_of_some _ e
  have I4 := block_start I3 ok hN f3
  have pg := hg t3 (upd H2 D (.lst [])) t3.heap.objs.size (cellsFrom (t3.heap.objs.size + 1) sc.names (cloFrom X.env.cells sc.names [])) fp
  have pt := ht t3 (upd H2 D (.lst [])) t3.heap.objs.size (cellsFrom (t3.heap.objs.size + 1) sc.names (cloFrom X.env.cells sc.names [])) fp
  have pe := he t3 (upd H2 D (.lst [])) t3.heap.objs.size (cellsFrom (t3.heap.objs.size + 1) sc.names (cloFrom X.env.cells sc.names [])) fp
  show codeAny _ _ (.compStart (.ListComp elt [⟨tg, iter, ifs, 0⟩] sc pos) 0 (.ref it) (.ref D) (compEnvC sc (cellsFrom (t3.heap.objs.size + 1) sc.names (cloFrom X.env.cells sc.names [])) t3.heap.objs.size X.env))
    (post (model X.prog X.w) X.A X.xe use Qf (.ref D) (compEnvC sc (cellsFrom (t3.heap.objs.size + 1) sc.names (cloFrom X.env.cells sc.names [])) t3.heap.objs.size X.env)) { t3 with heap := pushCells (t3.heap.push { cls := .type "dict", data := .dict #[] }) sc.names }
  have nfp : ∀ b ∈ fp, (upd H2 D (.lst [])) b = none := fun b hb => (f3 b hb).1.1
  generalize hce : compEnvC sc (cellsFrom (t3.heap.objs.size + 1) sc.names (cloFrom X.env.cells sc.names [])) t3.heap.objs.size X.env = ce at I4 pg pt pe ⊢
  have cL : ce.locals = t3.heap.objs.size := by rw [← hce]; rfl
  have cF : ce.frame = X.env.frame := by rw [← hce]; rfl
  generalize hH3 : upd H2 D (.lst []) = H3 at I3 I4 pg pt pe w0 nfp f3
  generalize ht4 : ({ t3 with heap := pushCells (t3.heap.push { cls := .type "dict", data := .dict #[] }) sc.names } : Shared) = t4 at I4 ⊢
  have st4 : tn 0 t4.heap := T.keep _ _ _ st3 fun b _ o e => by rw [← ht4]; exact pushCells_keeps _ _ _ _ (Heap.get?_push_of_some _ e)
  have stat : ∀ {τ : L2.St} {J' : Hp} {t : Shared}, Inv (X.blk t3 H3 sc ce fp) [] τ J' t → (∀ b ∈ fp, J' b = none) → ∀ b ∈ fp, FpOk (X.blk t3 H3 sc ce fp) [] J' b := fun {τ J' t} I' hn b hb =>
    ⟨hn b hb, (I'.ok.exf b hb).1, I'.ok.exfs b hb, .inl hb, fun x c e => (I'.ok.exf b hb).2 x c e, fun p hp => absurd (show p ∈ ([] : List (Addr × Obj)) ++ [] from hp) (by simp)⟩
  have loop : codeAny (model X.prog X.w) X.A (.compLoop (.ListComp elt [⟨tg, iter, ifs, 0⟩] sc pos) 0 (.ref it) (.ref D) ce) (post (model X.prog X.w) X.A X.xe use Qf (.ref D) ce) t4 := by
    refine compLoop_any (fun n t => ∃ i J', Inv (X.blk t3 H3 sc ce fp) [] (wipe σ (own.map (·.2))) J' t ∧ tn i t.heap ∧ (∀ b ∈ fp, J' b = none) ∧ Wv i n J') ?_ m0 ⟨0, H3, I4, st4, nfp, w0⟩
    rintro n t5 ⟨i, H5, I5, st5, n5, w5⟩
    rcases turn i n H5 w5 with ⟨stop, qq⟩ | ⟨go, Nx, hNx, step⟩
    · refine thnF (T.done (X.blk t3 H3 sc ce fp) rfl rfl rfl hc i [] t5 _ H5 (fun _ _ => False) I5 (stat I5 n5) st5 stop) fun r t6 ⟨hr, I6⟩ => ?_
      subst hr
      have I7 : Inv X pins σ H5 t6 := I3.call' (ch := fp) I6.os I6.base I6.hok I6.bare fun b hb => ⟨(f3 b hb).1.2.2.2.1, (f3 b hb).1.2.1, (f3 b hb).1.2.2.2.2.1, (f3 b hb).1.2.2.2.2.2⟩
      have nC : H5 ce.locals = none := I6.free
      obtain ⟨m, hn, _⟩ := I6.loc
      have hn : t6.heap.Ns ce.locals m := hn
      show compPost (model X.prog X.w) X.A X.xe use Qf (.ref D) ce.locals (.ok .next) t6
      refine done D ce.locals t6 m H5 I7 qq hn ?_
      rw [cL] at nC ⊢
      exact I3.fpOk (Nat.le_refl _) nC
    · refine thnF (T.item (X.blk t3 H3 sc ce fp) rfl rfl rfl hc i [] t5 _ H5 (fun _ _ => False) I5 (stat I5 n5) st5 go) fun r t6 ⟨u, hr, h6⟩ => ?_
      subst hr
      refine thnF h6 fun _ t7 ⟨x, H7, I7, r7, y7, st7, n7⟩ => ?_
      have I7p := I7.pinned (stat I7 n7) (T.obj _ _ st7)
      refine thnF (pg.run _ t7 _ H7 x u _ I7p r7 (step x H7 y7)) fun _ t8 ⟨σ8, H8, I8, hw8, q8⟩ => ?_
      refine thnF (pt.run _ t8 σ8 H8 _ I8 q8) fun b t9 ⟨H9, I9, q9⟩ => ?_
      have fin : ∀ {t : Shared} {J' : Hp}, Inv (X.blk t3 H3 sc ce fp) ([] ++ pinsAt fp t7.heap) σ8 J' t → Nx J' → ∃ m, m < n ∧ ∃ i J', Inv (X.blk t3 H3 sc ce fp) [] (wipe σ (own.map (·.2))) J' t ∧ tn i t.heap ∧ (∀ b ∈ fp, J' b = none) ∧ Wv i m J' := fun {t J'} I' nx => by
        obtain ⟨m', hm, w'⟩ := hNx J' nx
        have pin' : ∀ b ∈ fp, ∀ o, t7.heap.get? b = some o → t.heap.get? b = some o ∧ J' b = none := fun b hb o e =>
          let z := I'.pin (b, o) (List.mem_append_right _ (List.mem_append_right _ (mem_pinsAt hb e)))
          ⟨z.1, z.2.1⟩
        have hl : (wipe σ (own.map (·.2))).length = σ8.length := by rw [← hw8, wipe_length]
        refine ⟨m', hm, i + 1, J', (I'.unpinned (pins := [])).weak hl (fun j v e => by rw [← hw8] at e; exact (wipe_some e).1), T.keep _ _ _ st7 fun b hb o e => (pin' b hb o e).1, fun b hb => ?_, w'⟩
        obtain ⟨o, e, _⟩ := T.obj _ _ st7 b hb
        exact (pin' b hb o e).2
      cases b with
      | false =>
        simp only [Bool.false_eq_true, if_false] at q9 ⊢
        exact fin I9 q9
      | true =>
        simp only [if_true] at q9 ⊢
        have pex := pe ((X.blk t3 H3 sc ce fp).pn ++ ([] ++ pinsAt fp t7.heap)) (fun u t => ∃ (pb : List (Addr × Obj)) (σb : L2.St) (J1 : Hp) (t1 : Shared), Inv (X.blk t3 H3 sc ce fp) pb σb J1 t1 ∧ CX X.prog X.w X.stack J1 t1 E0 u t)
          (fun pins2 τ J1 t1 u t I' c => ⟨_, τ, J1, t1, ⟨I9.ok, I'.os, I'.bare, I'.base, I'.loc, I'.cell, I'.free, I'.freeC, (fun p hp => I'.pin p hp), I'.hok, I'.len⟩, c⟩)
        refine wpAny_mono (pex.run [] t9 σ8 H9 _ (I9.toTry _) q9) (fun z t10 ⟨yv, H10, I10, r10, acc, hD10, hz10, nx⟩ => ?_) fun u t ⟨pb, σb, J1, t1, Ib, c⟩ => out I3 cL cF (fun b hb => (f3 b hb).1) hs hf tk hW Ib c
        have I10' : Inv (X.blk t3 H3 sc ce fp) ([] ++ pinsAt fp t7.heap) σ8 H10 t10 := ⟨I9.ok, I10.os, I10.bare, I10.base, I10.loc, I10.cell, I10.free, I10.freeC, (fun p hp => I10.pin p (by rw [List.append_nil]; exact hp)), I10.hok, I10.len⟩
        exact app_ok (X := X.blk t3 H3 sc ce fp) I10' hD10 hz10 r10 fun t11 I11 => fin I11 nx
  exact codeAny_compStart_list loop (T.self X.A 0 _ _ _ st4 loop)
/-- [..] as a value -/
theorem pe_lcX {elt tg iter : Expr} {ifs : List Expr} {sc : Scope} {own : List (Str × Nat)} {pos : Pos} {wi : TI} {g : TG} {tt : TT} {te : TE} {E0 : XK} (hc : X.calm = true) (hN : X.N.Nodup) (hi : PI X tg iter wi) (ok : BlkOk X.N X.env.scope sc own)
    (hg : ∀ (t : Shared) (J : Hp) (C : Addr) (cl : List (Str × Addr)) (fp : List Addr), PG (X.blk t J sc (compEnvC sc cl C X.env) fp) tg g) (ht : ∀ (t : Shared) (J : Hp) (C : Addr) (cl : List (Str × Addr)) (fp : List Addr), PTs (X.blk t J sc (compEnvC sc cl C X.env) fp) ifs tt)
    (he : ∀ (t : Shared) (J : Hp) (C : Addr) (cl : List (Str × Addr)) (fp : List Addr) (pn : List (Addr × Obj)) (xe : Value → Shared → Prop), Passes (CX X.prog X.w) ((X.blk t J sc (compEnvC sc cl C X.env) fp).tr pn xe) E0 → PE ((X.blk t J sc (compEnvC sc cl C X.env) fp).tr pn xe) elt te)
    (hs : X.stack = X.env :: X.outer) (hf : X.env.frame = some X.env.locals) (tk : Takes X fun cls d _ J => E0 cls d J) (hfs : ∀ x, foldedSetIterable iter X.env x = pure x := by intro _; rfl) :
    PE X (.ListComp elt [⟨tg, iter, ifs, 0⟩] sc pos) (tLc wi g tt te (own.map (·.2))) := by
  refine ⟨fun pins s σ H Q I h => ?_⟩
  rw [eval_ListComp]
  refine lcX_core hc hN I hi ok hg ht he hfs hs hf tk (fun _ _ _ z => z) h fun D C t m J I' q hn f => ⟨m, hn, fun h2 sb => ?_⟩
  obtain ⟨f0, f1, f2, f3, f4, f5⟩ := f
  exact ⟨.ref D, J, I'.turned (t' := t.toks) (fun b o hb e => (sb.2 b hb).trans e) f0 f1 f3 f4 f5, rfl, q⟩
/-- name = [..] on one line, the name a local -/
theorem ps_setLcX {i : Nat} {y : Str} {py : Pos} {elt tg iter : Expr} {ifs : List Expr} {sc : Scope} {own : List (Str × Nat)} {pos spos : Pos} {wi : TI} {g : TG} {tt : TT} {te : TE} {E0 : XK} (hc : X.calm = true) (hN : X.N.Nodup) (hy : X.N[i]? = some y) (hyl : X.env.scope.names.lookup y = some .local)
    (hsw : swapsWith (.ListComp elt [⟨tg, iter, ifs, 0⟩] sc pos) (some (.Name y py)) spos.line X.env = pure true) (hi : PI X tg iter wi) (ok : BlkOk X.N X.env.scope sc own)
    (hg : ∀ (t : Shared) (J : Hp) (C : Addr) (cl : List (Str × Addr)) (fp : List Addr), PG (X.blk t J sc (compEnvC sc cl C X.env) fp) tg g) (ht : ∀ (t : Shared) (J : Hp) (C : Addr) (cl : List (Str × Addr)) (fp : List Addr), PTs (X.blk t J sc (compEnvC sc cl C X.env) fp) ifs tt)
    (he : ∀ (t : Shared) (J : Hp) (C : Addr) (cl : List (Str × Addr)) (fp : List Addr) (pn : List (Addr × Obj)) (xe : Value → Shared → Prop), Passes (CX X.prog X.w) ((X.blk t J sc (compEnvC sc cl C X.env) fp).tr pn xe) E0 → PE ((X.blk t J sc (compEnvC sc cl C X.env) fp).tr pn xe) elt te)
    (hs : X.stack = X.env :: X.outer) (hf : X.env.frame = some X.env.locals) (tk : Takes X fun cls d _ J => E0 cls d J) (hfs : ∀ x, foldedSetIterable iter X.env x = pure x := by intro _; rfl) :
    PS X (.Assign [.Name y py] (.ListComp elt [⟨tg, iter, ifs, 0⟩] sc pos) spos) (tAsg (tLc wi g tt te (own.map (·.2))) (gName i)) := by
  refine ⟨fun pins s σ H D I h => ?_⟩
  rw [exec_Assign_Name_used _ _ _ _ hsw]
  refine wpAny_bind (wpAny_standAt (wpAny_bind ?_))
  show wpAny _ X.A (do let _ ← comprehension (.ListComp elt [⟨tg, iter, ifs, 0⟩] sc pos) sc X.env (firstIterPos [⟨tg, iter, ifs, 0⟩] pos) (newList []) false (eval iter X.env) (some (assign (.Name y py) X.env))) _ _ s
  have h : tLc wi g tt te (own.map (·.2)) σ H (fun x H1 => gName i x σ H1 D.nx) := h
  refine wpAny_bind (thn (lcX_core (Qf := fun _ t => SP X pins D .next t) hc hN I hi ok hg ht he hfs hs hf tk (fun _ _ _ z => z) h fun L C t m J I' q hn f => ?_) fun _ t hq => wpAny_pure (wpAny_pure hq))
  show wpAny _ _ (assign (.Name y py) X.env (.ref L)) _ _ _
  refine wpAny_assign_Name (store_ok2 (v := V.ref L) I' hN hy (.inl hyl) rfl (fun t2 I2 ⟨a, sb, ha⟩ => ?_) (.inr hyl))
  obtain ⟨f0, f1, f2, f3, f4, f5⟩ := f
  have nCa : C ≠ a := by
    rcases ha with z | z
    · rw [z]; exact f1
    · exact fun e => f4 y a z e.symm
  refine ⟨m, hn.sameBut sb nCa, fun h3 sb3 => ?_⟩
  exact ⟨_, J, I2.turned (t' := t2.toks) (fun b o hb e => (sb3.2 b hb).trans e) f0 f1 f3 f4 f5, q⟩
end
end CompX
set_option Elab.async false
set_option linter.all false
set_option maxRecDepth 100000
set_option maxHeartbeats 8000000
/-! A dict comprehension whose keys are texts, or tuples of texts. -/
namespace DictT
open PySem PySem.Spec PyProof.Rows L2
/-- what its reading asks: the new dict is o0 first -/
def tDcT (o0 : HO) (wi : TI) (g : TG) (tt : TT) (tk tv : TE) (vs : List Nat) : TE := fun σ H Q => wi σ H fun J H1 => ∀ D, H1 D = none → ∃ Wv : Nat → Nat → Hp → Prop, (∃ m, Wv 0 m (upd H1 D o0)) ∧ ∀ i m H, Wv i m H →
  (J.stop i H ∧ Q (.ref D) H) ∨ (J.go i H ∧ ∃ Nx : Hp → Prop, (∀ H', Nx H' → ∃ m', m' < m ∧ Wv (i + 1) m' H') ∧ ∀ x H', J.yld i H x H' → g x (wipe σ vs) H' fun σ2 H2 => wipe σ2 vs = wipe σ vs ∧ tt σ2 H2 fun b H3 =>
    if b = true then tk σ2 H3 fun y H4 => tv σ2 H4 fun z H5 => ∃ H6, DPut H5 D y z H6 ∧ Nx H6 else Nx H3)
section
variable {X : Cx} {pins : List (Addr × Obj)} {σ : L2.St} {H : Hp} {s : Shared}
theorem put_ok {D : Addr} {y v : V} {u r : Value} {H' : Hp} {Q : Unit → Shared → Prop} {E : Value → Shared → Prop} (hu : X.A.units + 1 < cLine) (I : Inv X pins σ H s) (g : DPut H D y v H') (ry : RelV y u) (rv : RelV v r)
    (h : ∀ t, Inv X pins σ H' t → Q () t) : wpAny (model X.prog X.w) X.A (dictSet D u r) Q E s := by
  rcases g with ⟨kvs, k, e, rfl, l, rfl⟩ | ⟨kvs, k, b, e, rfl, eb, l, rfl⟩
  · exact d_dictSet I e l ry rv h
  · obtain rfl : u = Value.ref b := ry
    obtain ⟨z1, z2, xs, rel, dd⟩ := dt_of I.hok e
    have lx := Paired.length rel
    refine wpAny_dictSet_heap (hsz := by rw [← lx]; exact z1) (by show X.A.units < cLine; omega) (key_of I.hok eb) dd fun h' dd' sb => h _ ?_
    obtain ⟨q, es, ep, g1, g2, g3, g4, _, g5⟩ := dd'
    refine d_write I (by rw [e]; trivial) sb ⟨q, g1⟩ ⟨by have := length_putK kvs k v; omega, z2, _, (rel.put k eb rv).keeps fun c ys ec => ?_, q, es, ep, g1, g2, g3, g4, g5⟩
    rw [upd_ne (ne_of ec e (fun z => nomatch z))]
    exact ec
end
section
variable {X : Cx}
/-- {} as the dict that is wanted -/
inductive Fresh : HO → Prop
  | k : Fresh (.dK [])
  | t : Fresh (.dT [])
theorem Fresh.ok {o0 : HO} (f : Fresh o0) {P : Program} {w : World} {H : Hp} (h : Heap) (hb : sysModules < h.objs.size) : ObjOk P w H (h.push { cls := .type "dict", data := .dict #[] }) h.objs.size o0 := by
  cases f with
  | k => exact dk_empty h hb
  | t => exact dt_empty h hb
theorem dcT_core {pins : List (Addr × Obj)} {s : Shared} {σ : L2.St} {H : Hp} {Q : VK} {o0 : HO} {kx vx tg iter : Expr} {ifs : List Expr} {sc : Scope} {own : List (Str × Nat)} {pos pos2 : Pos} {wi : TI} {g : TG} {tt : TT} {tk tv : TE} {use : Option (Value → Sem Unit)} {Qf : Value → Shared → Prop}
    (fr : Fresh o0) (hu : X.A.units + 1 < cLine) (hc : X.calm = true) (hN : X.N.Nodup) (I : Inv X pins σ H s) (hi : PI X tg iter wi) (ok : BlkOk X.N X.env.scope sc own)
    (hg : ∀ (t : Shared) (J : Hp) (C : Addr) (cl : List (Str × Addr)) (fp : List Addr), PG (X.blk t J sc (compEnvC sc cl C X.env) fp) tg g) (ht : ∀ (t : Shared) (J : Hp) (C : Addr) (cl : List (Str × Addr)) (fp : List Addr), PTs (X.blk t J sc (compEnvC sc cl C X.env) fp) ifs tt)
    (hk : ∀ (t : Shared) (J : Hp) (C : Addr) (cl : List (Str × Addr)) (fp : List Addr), PE (X.blk t J sc (compEnvC sc cl C X.env) fp) kx tk) (hv : ∀ (t : Shared) (J : Hp) (C : Addr) (cl : List (Str × Addr)) (fp : List Addr), PE (X.blk t J sc (compEnvC sc cl C X.env) fp) vx tv)
    (hfs : ∀ x, foldedSetIterable iter X.env x = pure x) (h : tDcT o0 wi g tt tk tv (own.map (·.2)) σ H Q)
    (done : ∀ D C t m J, Inv X pins σ J t → Q (.ref D) J → t.heap.Ns C m → FpOk X pins J C → compPost (model X.prog X.w) X.A X.xe use Qf (.ref D) C (.ok .next) t) :
    wpAny (model X.prog X.w) X.A (comprehension (.DictComp kx vx [⟨tg, iter, ifs, 0⟩] sc pos) sc X.env pos2 newDict false (eval iter X.env) use) Qf X.xe s := by
  have cap : ∀ y ∈ sc.names, y.2 = .free → ∃ c, X.env.cells.lookup y.1 = some c := fun y hy e => (ok.free y hy e).elim (fun k => I.ok.has _ (.inl k)) fun k => I.ok.has _ (.inr k)
  refine wpAny_comprehension_free (use := use) rfl hfs (closure_ok cap) ok.kind (fun y hy e => by rw [ok.uniq y hy, e]) (thn (hi.run pins s σ H _ I h) fun xv t1 hx => thn hx fun itv t2 h2 => ?_)
  obtain ⟨it, fp, tn, J, H2, e, I2, T, st2, f2, q⟩ := h2
  subst e
  refine wpAny_newObj_type (newEnv_comp ?_)
  generalize hD : t2.heap.objs.size = D
  have nD : H2 D = none := I2.hok.fresh (Nat.le_of_eq hD)
  obtain ⟨Wv, ⟨m0, w0⟩, turn⟩ := q D nD
  generalize ht3 : ({ t2 with heap := t2.heap.push { cls := .type "dict", data := .dict #[] } } : Shared) = t3
  have hp3 : t3.heap = t2.heap.push { cls := .type "dict", data := .dict #[] } := by rw [← ht3]
  have I3 : Inv X pins σ (upd H2 D o0) t3 := by
    rw [← ht3]
    refine I2.laid (t' := t2.toks) (fun b o e => Heap.get?_push_of_some _ e) (Nat.le_of_eq hD) ?_
    rw [← hD]
    exact fr.ok t2.heap I2.big
  have lt2 : ∀ b ∈ fp, b < t2.heap.objs.size := fun b hb => let ⟨_, e, _⟩ := T.obj _ _ st2 b hb; Heap.lt_size e
  have f3 : ∀ b ∈ fp, FpOk X pins (upd H2 D o0) b ∧ b < t3.heap.objs.size := fun b hb => by
    refine ⟨⟨?_, (f2 b hb).2⟩, by rw [hp3, Heap.size_push]; exact Nat.lt_succ_of_lt (lt2 b hb)⟩
    rw [upd_ne (by rw [← hD]; exact Nat.ne_of_lt (lt2 b hb))]
    exact (f2 b hb).1
  have st3 : tn 0 t3.heap := T.keep _ _ _ st2 fun b _ o e => by rw [hp3]; exact Heap.get?_push_of_some _ e
  have I4 := block_start I3 ok hN f3
  have pg := hg t3 (upd H2 D o0) t3.heap.objs.size (cellsFrom (t3.heap.objs.size + 1) sc.names (cloFrom X.env.cells sc.names [])) fp
  have pt := ht t3 (upd H2 D o0) t3.heap.objs.size (cellsFrom (t3.heap.objs.size + 1) sc.names (cloFrom X.env.cells sc.names [])) fp
  have pk := hk t3 (upd H2 D o0) t3.heap.objs.size (cellsFrom (t3.heap.objs.size + 1) sc.names (cloFrom X.env.cells sc.names [])) fp
  have pe := hv t3 (upd H2 D o0) t3.heap.objs.size (cellsFrom (t3.heap.objs.size + 1) sc.names (cloFrom X.env.cells sc.names [])) fp
  show codeAny _ _ (.compStart (.DictComp kx vx [⟨tg, iter, ifs, 0⟩] sc pos) 0 (.ref it) (.ref D) (compEnvC sc (cellsFrom (t3.heap.objs.size + 1) sc.names (cloFrom X.env.cells sc.names [])) t3.heap.objs.size X.env))
    (compPost (model X.prog X.w) X.A X.xe use Qf (.ref D) t3.heap.objs.size) { t3 with heap := pushCells (t3.heap.push { cls := .type "dict", data := .dict #[] }) sc.names }
  have nfp : ∀ b ∈ fp, (upd H2 D o0) b = none := fun b hb => (f3 b hb).1.1
  generalize hce : compEnvC sc (cellsFrom (t3.heap.objs.size + 1) sc.names (cloFrom X.env.cells sc.names [])) t3.heap.objs.size X.env = ce at I4 pg pt pk pe ⊢
  have cL : ce.locals = t3.heap.objs.size := by rw [← hce]; rfl
  generalize hH3 : upd H2 D o0 = H3 at I3 I4 pg pt pk pe w0 nfp f3
  generalize ht4 : ({ t3 with heap := pushCells (t3.heap.push { cls := .type "dict", data := .dict #[] }) sc.names } : Shared) = t4 at I4 ⊢
  have st4 : tn 0 t4.heap := T.keep _ _ _ st3 fun b _ o e => by rw [← ht4]; exact pushCells_keeps _ _ _ _ (Heap.get?_push_of_some _ e)
  have stat : ∀ {τ : L2.St} {J' : Hp} {t : Shared}, Inv (X.blk t3 H3 sc ce fp) [] τ J' t → (∀ b ∈ fp, J' b = none) → ∀ b ∈ fp, FpOk (X.blk t3 H3 sc ce fp) [] J' b := fun {τ J' t} I' hn b hb =>
    ⟨hn b hb, (I'.ok.exf b hb).1, I'.ok.exfs b hb, .inl hb, fun x c e => (I'.ok.exf b hb).2 x c e, fun p hp => absurd (show p ∈ ([] : List (Addr × Obj)) ++ [] from hp) (by simp)⟩
  have loop : codeAny (model X.prog X.w) X.A (.compLoop (.DictComp kx vx [⟨tg, iter, ifs, 0⟩] sc pos) 0 (.ref it) (.ref D) ce) (compPost (model X.prog X.w) X.A X.xe use Qf (.ref D) t3.heap.objs.size) t4 := by
    refine compLoop_anyD (fun n t => ∃ i J', Inv (X.blk t3 H3 sc ce fp) [] (wipe σ (own.map (·.2))) J' t ∧ tn i t.heap ∧ (∀ b ∈ fp, J' b = none) ∧ Wv i n J') ?_ m0 ⟨0, H3, I4, st4, nfp, w0⟩
    rintro n t5 ⟨i, H5, I5, st5, n5, w5⟩
    rcases turn i n H5 w5 with ⟨stop, qq⟩ | ⟨go, Nx, hNx, step⟩
    · refine thnF (T.done (X.blk t3 H3 sc ce fp) rfl rfl rfl hc i [] t5 _ H5 (fun _ _ => False) I5 (stat I5 n5) st5 stop) fun r t6 ⟨hr, I6⟩ => ?_
      subst hr
      have I7 : Inv X pins σ H5 t6 := I3.call' (ch := fp) I6.os I6.base I6.hok I6.bare fun b hb => ⟨(f3 b hb).1.2.2.2.1, (f3 b hb).1.2.1, (f3 b hb).1.2.2.2.2.1, (f3 b hb).1.2.2.2.2.2⟩
      have nC : H5 ce.locals = none := I6.free
      obtain ⟨m, hn, _⟩ := I6.loc
      have hn : t6.heap.Ns ce.locals m := hn
      rw [cL] at nC hn
      exact done D t3.heap.objs.size t6 m H5 I7 qq hn (I3.fpOk (Nat.le_refl _) nC)
    · refine thnF (T.item (X.blk t3 H3 sc ce fp) rfl rfl rfl hc i [] t5 _ H5 (fun _ _ => False) I5 (stat I5 n5) st5 go) fun r t6 ⟨u, hr, h6⟩ => ?_
      subst hr
      refine thnF h6 fun _ t7 ⟨x, H7, I7, r7, y7, st7, n7⟩ => ?_
      have I7p := I7.pinned (stat I7 n7) (T.obj _ _ st7)
      refine thnF (pg.run _ t7 _ H7 x u _ I7p r7 (step x H7 y7)) fun _ t8 ⟨σ8, H8, I8, hw8, q8⟩ => ?_
      refine thnF (pt.run _ t8 σ8 H8 _ I8 q8) fun b t9 ⟨H9, I9, q9⟩ => ?_
      have fin : ∀ {t : Shared} {J' : Hp}, Inv (X.blk t3 H3 sc ce fp) ([] ++ pinsAt fp t7.heap) σ8 J' t → Nx J' → ∃ m, m < n ∧ ∃ i J', Inv (X.blk t3 H3 sc ce fp) [] (wipe σ (own.map (·.2))) J' t ∧ tn i t.heap ∧ (∀ b ∈ fp, J' b = none) ∧ Wv i m J' := fun {t J'} I' nx => by
        obtain ⟨m', hm, w'⟩ := hNx J' nx
        have pin' : ∀ b ∈ fp, ∀ o, t7.heap.get? b = some o → t.heap.get? b = some o ∧ J' b = none := fun b hb o e =>
          let z := I'.pin (b, o) (List.mem_append_right _ (List.mem_append_right _ (mem_pinsAt hb e)))
          ⟨z.1, z.2.1⟩
        have hl : (wipe σ (own.map (·.2))).length = σ8.length := by rw [← hw8, wipe_length]
        refine ⟨m', hm, i + 1, J', (I'.unpinned (pins := [])).weak hl (fun j v e => by rw [← hw8] at e; exact (wipe_some e).1), T.keep _ _ _ st7 fun b hb o e => (pin' b hb o e).1, fun b hb => ?_, w'⟩
        obtain ⟨o, e, _⟩ := T.obj _ _ st7 b hb
        exact (pin' b hb o e).2
      cases b with
      | false =>
        simp only [Bool.false_eq_true, if_false] at q9 ⊢
        exact fin I9 q9
      | true =>
        simp only [if_true] at q9 ⊢
        refine thnF (pk.run _ t9 σ8 H9 _ I9 q9) fun kv t10 ⟨yk, H10, I10, r10, q10⟩ => ?_
        refine thnF (pe.run _ t10 σ8 H10 _ I10 q10) fun vv t11 ⟨yv, H11, I11, r11, H12, dp, nx⟩ => ?_
        exact put_ok (X := X.blk t3 H3 sc ce fp) hu I11 dp r10 r11 fun t12 I12 => fin I12 nx
  exact codeAny_compStart_dict loop (T.self X.A 0 _ _ _ st4 loop)
/-- {..: ..} as a value -/
theorem pe_dcT {o0 : HO} (fr : Fresh o0) {kx vx tg iter : Expr} {ifs : List Expr} {sc : Scope} {own : List (Str × Nat)} {pos : Pos} {wi : TI} {g : TG} {tt : TT} {tk tv : TE} (hu : X.A.units + 1 < cLine) (hc : X.calm = true) (hN : X.N.Nodup) (hi : PI X tg iter wi) (ok : BlkOk X.N X.env.scope sc own)
    (hg : ∀ (t : Shared) (J : Hp) (C : Addr) (cl : List (Str × Addr)) (fp : List Addr), PG (X.blk t J sc (compEnvC sc cl C X.env) fp) tg g) (ht : ∀ (t : Shared) (J : Hp) (C : Addr) (cl : List (Str × Addr)) (fp : List Addr), PTs (X.blk t J sc (compEnvC sc cl C X.env) fp) ifs tt)
    (hk : ∀ (t : Shared) (J : Hp) (C : Addr) (cl : List (Str × Addr)) (fp : List Addr), PE (X.blk t J sc (compEnvC sc cl C X.env) fp) kx tk) (hv : ∀ (t : Shared) (J : Hp) (C : Addr) (cl : List (Str × Addr)) (fp : List Addr), PE (X.blk t J sc (compEnvC sc cl C X.env) fp) vx tv)
    (hfs : ∀ x, foldedSetIterable iter X.env x = pure x := by intro _; rfl) : PE X (.DictComp kx vx [⟨tg, iter, ifs, 0⟩] sc pos) (tDcT o0 wi g tt tk tv (own.map (·.2))) := by
  refine ⟨fun pins s σ H Q I h => ?_⟩
  rw [arm_eval_DictComp]
  refine dcT_core fr hu hc hN I hi ok hg ht hk hv hfs h fun D C t m J I' q hn f => ⟨m, hn, fun h2 sb => ?_⟩
  obtain ⟨f0, f1, f2, f3, f4, f5⟩ := f
  exact ⟨.ref D, J, I'.turned (t' := t.toks) (fun b o hb e => (sb.2 b hb).trans e) f0 f1 f3 f4 f5, rfl, q⟩
/-- its loop over what a walk gives -/
theorem dc_it {J : It} {n : Nat} {G : Hp → Prop} {Y : Nat → Hp → V → Hp → Prop} (w : Walk J n G Y) {g : TG} {tt : TT} {tk tv : TE} {vs : List Nat} {σ : L2.St} {H1 : Hp} {D : Addr} {o0 : HO} {Qd : Hp → Prop} (Pv : Nat → Hp → Prop) (h0 : Pv 0 (upd H1 D o0)) (hG : ∀ i H, i ≤ n → Pv i H → G H)
    (hs : ∀ i x H H', i < n → Pv i H → Y i H x H' → g x (wipe σ vs) H' fun σ2 H2 => wipe σ2 vs = wipe σ vs ∧ tt σ2 H2 fun b H3 => if b = true then tk σ2 H3 fun y H4 => tv σ2 H4 fun z H5 => ∃ H6, DPut H5 D y z H6 ∧ Pv (i + 1) H6 else Pv (i + 1) H3) (hd : ∀ H, Pv n H → Qd H) :
    ∃ Wv : Nat → Nat → Hp → Prop, (∃ m, Wv 0 m (upd H1 D o0)) ∧ ∀ i m H, Wv i m H → (J.stop i H ∧ Qd H) ∨ (J.go i H ∧ ∃ Nx : Hp → Prop, (∀ H', Nx H' → ∃ m', m' < m ∧ Wv (i + 1) m' H') ∧ ∀ x H', J.yld i H x H' → g x (wipe σ vs) H' fun σ2 H2 =>
      wipe σ2 vs = wipe σ vs ∧ tt σ2 H2 fun b H3 => if b = true then tk σ2 H3 fun y H4 => tv σ2 H4 fun z H5 => ∃ H6, DPut H5 D y z H6 ∧ Nx H6 else Nx H3) := by
  refine ⟨fun i m H => m = n - i ∧ i ≤ n ∧ Pv i H, ⟨n, by simp, Nat.zero_le _, h0⟩, ?_⟩
  rintro i m H ⟨rfl, hi, p⟩
  rcases Nat.lt_or_ge i n with lt | ge
  · exact .inr ⟨w.goes i H lt (hG i H hi p), Pv (i + 1), fun H' p' => ⟨n - (i + 1), by omega, rfl, lt, p'⟩, fun x H' y => hs i x H H' lt p (w.yields i H x H' lt (hG i H hi p) y)⟩
  · obtain rfl : i = n := by omega
    exact .inl ⟨w.stops H (hG i H hi p), hd H p⟩
end
end DictT
set_option Elab.async false
set_option linter.all false
set_option autoImplicit false
set_option maxRecDepth 100000
set_option maxHeartbeats 8000000
/-! Rows of texts, and the loops of comprehensions with two walks. -/
namespace GB
open PySem PySem.Spec L2
/-- the row of texts stands at t -/
def RowAt (H : Hp) (row : List Str) (t : Addr) : Prop := H t = some (.tup (sts row))
def RowsAt (H : Hp) (rows : List (List Str)) (ts : List Addr) : Prop := Paired (RowAt H) rows ts
theorem RowsAt.mono {H H' : Hp} {rows : List (List Str)} {ts : List Addr} (s : Same H H') (h : RowsAt H rows ts) : RowsAt H' rows ts := Paired.mapP h fun _ _ r => s _ _ r
theorem RowsAt.app {H : Hp} {r1 r2 : List (List Str)} {t1 t2 : List Addr} (h1 : RowsAt H r1 t1) (h2 : RowsAt H r2 t2) : RowsAt H (r1 ++ r2) (t1 ++ t2) := paired_app h1 h2
theorem RowsAt.len {H : Hp} {rows : List (List Str)} {ts : List Addr} (h : RowsAt H rows ts) : rows.length = ts.length := Paired.length h
section
variable {J J1 : It} {n n1 : Nat} {G G1 : Hp → Prop} {Y Y1 : Nat → Hp → V → Hp → Prop} {g g1 : TG} {tt tt1 : TT} {te : TE} {vs vs1 : List Nat} {σ σ2 : L2.St} {D : Addr}
/-- the outer walk of a comprehension with two -/
theorem lc2_it (w : Walk J n G Y) {wi1 : TI} {H1 : Hp} {Qd : Hp → Prop} (Pv : Nat → Hp → Prop) (h0 : Pv 0 (upd H1 D (.lst []))) (hG : ∀ i H, i ≤ n → Pv i H → G H)
    (hs : ∀ i x H H', i < n → Pv i H → Y i H x H' → g x (wipe σ vs) H' fun σ2 H2 => wipe σ2 vs = wipe σ vs ∧ tt σ2 H2 fun b H3 =>
      if b = true then wi1 σ2 H3 fun J1 H4 => ∃ W1 : Nat → Nat → Hp → Prop, (∃ m, W1 0 m H4) ∧ ∀ j k H, W1 j k H → (J1.stop j H ∧ Pv (i + 1) H) ∨ (J1.go j H ∧ ∃ Nx1 : Hp → Prop, (∀ H', Nx1 H' → ∃ k', k' < k ∧ W1 (j + 1) k' H') ∧ ∀ x H', J1.yld j H x H' → g1 x (wipe σ2 vs1) H' fun σ3 H5 => wipe σ3 vs1 = wipe σ2 vs1 ∧ tt1 σ3 H5 fun b H6 =>
        if b = true then te σ3 H6 fun y H7 => ∃ acc, H7 D = some (.lst acc) ∧ acc.length < sizeLine ∧ Nx1 (upd H7 D (.lst (acc ++ [y]))) else Nx1 H6)
      else Pv (i + 1) H3) (hd : ∀ H, Pv n H → Qd H) :
    ∃ W : Nat → Nat → Hp → Prop, (∃ m, W 0 m (upd H1 D (.lst []))) ∧ ∀ i m H, W i m H →
      (J.stop i H ∧ Qd H) ∨ (J.go i H ∧ ∃ Nx : Hp → Prop, (∀ H', Nx H' → ∃ m', m' < m ∧ W (i + 1) m' H') ∧ ∀ x H', J.yld i H x H' → g x (wipe σ vs) H' fun σ2 H2 => wipe σ2 vs = wipe σ vs ∧ tt σ2 H2 fun b H3 =>
        if b = true then wi1 σ2 H3 fun J1 H4 => ∃ W1 : Nat → Nat → Hp → Prop, (∃ m, W1 0 m H4) ∧ ∀ j k H, W1 j k H →
          (J1.stop j H ∧ Nx H) ∨ (J1.go j H ∧ ∃ Nx1 : Hp → Prop, (∀ H', Nx1 H' → ∃ k', k' < k ∧ W1 (j + 1) k' H') ∧ ∀ x H', J1.yld j H x H' → g1 x (wipe σ2 vs1) H' fun σ3 H5 => wipe σ3 vs1 = wipe σ2 vs1 ∧ tt1 σ3 H5 fun b H6 =>
            if b = true then te σ3 H6 fun y H7 => ∃ acc, H7 D = some (.lst acc) ∧ acc.length < sizeLine ∧ Nx1 (upd H7 D (.lst (acc ++ [y]))) else Nx1 H6)
        else Nx H3) := by
  refine ⟨fun i m H => m = n - i ∧ i ≤ n ∧ Pv i H, ⟨n, by simp, Nat.zero_le _, h0⟩, ?_⟩
  rintro i m H ⟨rfl, hi, p⟩
  rcases Nat.lt_or_ge i n with lt | ge
  · exact .inr ⟨w.goes i H lt (hG i H hi p), Pv (i + 1), fun H' p' => ⟨n - (i + 1), by omega, rfl, lt, p'⟩, fun x H' y => hs i x H H' lt p (w.yields i H x H' lt (hG i H hi p) y)⟩
  · obtain rfl : i = n := by omega
    exact .inl ⟨w.stops H (hG i H hi p), hd H p⟩
/-- the inner one -/
theorem in_it (w : Walk J1 n1 G1 Y1) {H4 : Hp} {Nx : Hp → Prop} (Pw : Nat → Hp → Prop) (h0 : Pw 0 H4) (hG : ∀ i H, i ≤ n1 → Pw i H → G1 H)
    (hs : ∀ j x H H', j < n1 → Pw j H → Y1 j H x H' → g1 x (wipe σ2 vs1) H' fun σ3 H5 => wipe σ3 vs1 = wipe σ2 vs1 ∧ tt1 σ3 H5 fun b H6 => if b = true then te σ3 H6 fun y H7 => ∃ acc, H7 D = some (.lst acc) ∧ acc.length < sizeLine ∧ Pw (j + 1) (upd H7 D (.lst (acc ++ [y]))) else Pw (j + 1) H6)
    (hd : ∀ H, Pw n1 H → Nx H) :
    ∃ W1 : Nat → Nat → Hp → Prop, (∃ m, W1 0 m H4) ∧ ∀ j k H, W1 j k H → (J1.stop j H ∧ Nx H) ∨ (J1.go j H ∧ ∃ Nx1 : Hp → Prop, (∀ H', Nx1 H' → ∃ k', k' < k ∧ W1 (j + 1) k' H') ∧ ∀ x H', J1.yld j H x H' → g1 x (wipe σ2 vs1) H' fun σ3 H5 => wipe σ3 vs1 = wipe σ2 vs1 ∧ tt1 σ3 H5 fun b H6 =>
        if b = true then te σ3 H6 fun y H7 => ∃ acc, H7 D = some (.lst acc) ∧ acc.length < sizeLine ∧ Nx1 (upd H7 D (.lst (acc ++ [y]))) else Nx1 H6) := by
  refine ⟨fun i m H => m = n1 - i ∧ i ≤ n1 ∧ Pw i H, ⟨n1, by simp, Nat.zero_le _, h0⟩, ?_⟩
  rintro i m H ⟨rfl, hi, p⟩
  rcases Nat.lt_or_ge i n1 with lt | ge
  · exact .inr ⟨w.goes i H lt (hG i H hi p), Pw (i + 1), fun H' p' => ⟨n1 - (i + 1), by omega, rfl, lt, p'⟩, fun x H' y => hs i x H H' lt p (w.yields i H x H' lt (hG i H hi p) y)⟩
  · obtain rfl : i = n1 := by omega
    exact .inl ⟨w.stops H (hG i H hi p), hd H p⟩
end
/-- a new list of rows at D, over H -/
structure RowsIn (H H' : Hp) (D : Addr) (rows : List (List Str)) : Prop where
  nw : H D = none
  same : Same H H'
  ex : ∃ ts : List Addr, H' D = some (.lst (ts.map V.ref)) ∧ RowsAt (hid [D] H') rows ts
theorem RowsIn.start {H : Hp} {D : Addr} (n : H D = none) : RowsIn H (upd H D (.lst [])) D [] := ⟨n, same_new n, [], upd_same, .nil⟩
theorem RowsIn.next {H H2 H3 : Hp} {D : Addr} {rows : List (List Str)} (r : RowsIn H H2 D rows) (s : Same H2 H3) : RowsIn H H3 D rows := let ⟨n, s1, ts, h1, h2⟩ := r; ⟨n, s1.trans s, ts, s _ _ h1, h2.mono (hid_same s)⟩
/-- one row more -/
theorem RowsIn.moreB {H H2 H3 : Hp} {D : Addr} {rows : List (List Str)} {row : List Str} (r : RowsIn H H2 D rows) (s : Same H2 H3) (hl : rows.length ≤ 1000) {t : Addr} (nt : H3 t = none) :
    ∃ acc, (upd H3 t (.tup (sts row))) D = some (.lst acc) ∧ acc.length < sizeLine ∧ RowsIn H (upd (upd H3 t (.tup (sts row))) D (.lst (acc ++ [.ref t]))) D (rows ++ [row]) ∧ Bt [D] H2 (upd (upd H3 t (.tup (sts row))) D (.lst (acc ++ [.ref t]))) := by
  obtain ⟨n, s1, ts, h1, h2⟩ := r
  obtain ⟨H4, s4, h4, e4⟩ := lay (o := .tup (sts row)) nt
  rw [e4]
  have h14 := s4 _ _ (s _ _ h1)
  have tD : t ≠ D := ne_of h4 h14 (fun z => nomatch z)
  have B : Bt [D] H4 (upd H4 D (.lst (ts.map V.ref ++ [.ref t]))) := bt_upd (by simp)
  refine ⟨_, h14, ?_, ⟨n, fun c o e => ?_, ts ++ [t], by rw [upd_same, List.map_append]; rfl, ?_⟩, (bt_of (s.trans s4)).trans B⟩
  · rw [List.length_map, sizeLine_eq]
    have := h2.len
    omega
  · rw [upd_ne (ne_of_none e n)]
    exact s4 _ _ (s _ _ (s1 _ _ e))
  · exact RowsAt.app (h2.mono ((hid_same (s.trans s4)).trans B)) (.cons (B _ _ (hid_to (ni1 tD) h4)) .nil)
theorem RowsIn.more {H H2 H3 : Hp} {D : Addr} {rows : List (List Str)} {row : List Str} (r : RowsIn H H2 D rows) (s : Same H2 H3) (hl : rows.length ≤ 1000) {t : Addr} (nt : H3 t = none) :
    ∃ acc, (upd H3 t (.tup (sts row))) D = some (.lst acc) ∧ acc.length < sizeLine ∧ RowsIn H (upd (upd H3 t (.tup (sts row))) D (.lst (acc ++ [.ref t]))) D (rows ++ [row]) :=
  let ⟨acc, a, b, c, _⟩ := r.moreB s hl nt
  ⟨acc, a, b, c⟩
theorem RowsIn.done {H H' : Hp} {D : Addr} {rows : List (List Str)} (r : RowsIn H H' D rows) : ∃ ts : List Addr, H' D = some (.lst (ts.map V.ref)) ∧ RowsAt H' rows ts := let ⟨ts, a, b⟩ := r.ex; ⟨ts, a, b.mono (hid_low _ _)⟩
/-- a comprehension behind its walk -/
def tLcJ (J : It) (g : TG) (tt : TT) (te : TE) (vs : List Nat) : TE := fun σ H1 Q => ∀ D, H1 D = none → ∃ Wv : Nat → Nat → Hp → Prop, (∃ m, Wv 0 m (upd H1 D (.lst []))) ∧ ∀ i m H, Wv i m H →
  (J.stop i H ∧ Q (.ref D) H) ∨ (J.go i H ∧ ∃ Nx : Hp → Prop, (∀ H', Nx H' → ∃ m', m' < m ∧ Wv (i + 1) m' H') ∧ ∀ x H', J.yld i H x H' → g x (wipe σ vs) H' fun σ2 H2 => wipe σ2 vs = wipe σ vs ∧ tt σ2 H2 fun b H3 =>
    if b = true then te σ2 H3 fun y H4 => ∃ acc, H4 D = some (.lst acc) ∧ acc.length < sizeLine ∧ Nx (upd H4 D (.lst (acc ++ [y]))) else Nx H3)
theorem rows1J {K : PySem.W.Frag} {k : Nat} {wd : Str} {σ : L2.St} {H : Hp} {Q : VK} {a : Addr} {xs : List Str} {kb : Bool} {J : It} (WJ : Walk J (sts xs).length (fun H => SqV K (hid [] H) a (sts xs) kb) (YAt (sts xs))) (hk : k < σ.length) (hS : SqV K (hid [] H) a (sts xs) kb) (hl : xs.length ≤ 100)
    (q : ∀ D H', RowsIn H H' D (xs.map fun x => ([wd, x] : List Str)) → Q (.ref D) H') : tLcJ J (gName k) tYes (tTup (tCons (tC (.str wd)) (tCons (tVar k) tNil))) [k] σ H Q := by
  intro D nD
  have hA : SqA K (hid [] H) a (sts xs) := by
    cases kb with
    | true => exact .inl hS
    | false => exact .inr hS
  refine lc_it WJ (fun j H' => RowsIn H H' D ((xs.take j).map fun x => ([wd, x] : List Str))) (RowsIn.start nD) (fun j H' _ r => hS.mono (hid_same r.same)) ?_ ?_
  · rintro j x H2 H3 hj r ⟨rfl, hx⟩
    obtain ⟨sx, hsx, rfl⟩ := sts_at hx
    have hlen : ((xs.take j).map fun x => ([wd, x] : List Str)).length ≤ 1000 := by rw [List.length_map, List.length_take]; omega
    have hw : (wipe σ [k]).length = σ.length := wipe_length _ _
    refine ⟨?_, ?_⟩
    · simp [wipe, List.set_set]
    · refine ⟨V.str sx, by rw [List.getElem?_set_self (by rw [hw]; exact hk)], by show 2 ≤ sizeLine; decide, fun t nt => ?_⟩
      have := r.more (row := [wd, sx]) (Same.refl _) hlen nt
      rw [take_at hsx, List.map_append]
      exact this
  · intro H' r
    rw [List.take_of_length_le (by rw [sts_len]; exact Nat.le_refl _)] at r
    exact q D H' r
/-- [(word, x) for x in xs] -/
theorem rows1 {K : PySem.W.Frag} {i k : Nat} {wd : Str} {σ : L2.St} {H : Hp} {Q : VK} {a : Addr} {xs : List Str} (hi : σ[i]? = some (some (.ref a))) (hk : k < σ.length) (hS : SqL K H a (sts xs)) (hl : xs.length ≤ 100)
    (q : ∀ D H', RowsIn H H' D (xs.map fun x => ([wd, x] : List Str)) → Q (.ref D) H') : tLc (iSeqW K (tVar i)) (gName k) tYes (tTup (tCons (tC (.str wd)) (tCons (tVar k) tNil))) [k] σ H Q :=
  ⟨_, hi, a, sts xs, true, [], rfl, same_hid0.seq hS, fun J WJ => rows1J (kb := true) WJ hk (same_hid0.seq hS) hl q⟩
/-- the same as a statement -/
theorem rows1S {K : PySem.W.Frag} {i k m : Nat} {wd y : Str} {u : TS} {E : Ends} {σ : L2.St} {H : Hp} {a : Addr} {xs : List Str} (hi : σ[i]? = some (some (.ref a))) (hk : k < σ.length) (hS : SqL K H a (sts xs)) (hl : xs.length ≤ 100)
    (q : ∀ D H', RowsIn H H' D (xs.map fun x => ([wd, x] : List Str)) → u E (σ.set m (some (.ref D))) H') : tSeq (tAsg (tLc (iSeqW K (tVar i)) (gName k) tYes (tTup (tCons (tC (.str wd)) (tCons (tVar k) tNil))) ([(y, k)].map (·.2))) (gName m)) u E σ H := by
  unfold tSeq tAsg
  exact rows1 (Q := fun x H1 => gName m x σ H1 (u E)) hi hk hS hl fun D H' r => q D H' r
end GB
set_option Elab.async false
set_option linter.all false
set_option autoImplicit false
set_option maxRecDepth 100000
set_option maxHeartbeats 8000000
namespace GB
open PySem PySem.Spec L2
def shTo (xs : List Str) : Nat → List (List Str)
  | 0 => []
  | i + 1 => shTo xs i ++ (xs.drop (i + 1)).map fun y => (["shares", xs.getD i "", y] : List Str)
theorem shTo_len (xs : List Str) : ∀ i, (shTo xs i).length ≤ i * xs.length
  | 0 => by simp [shTo]
  | i + 1 => by
    have := shTo_len xs i
    rw [shTo, List.length_append, List.length_map, List.length_drop, Nat.succ_mul]
    omega
def showsOf (a xs : List Str) : List (List Str) := a.flatMap fun x => xs.map fun y => (["shows", x, y] : List Str)
theorem showsOf_len (xs : List Str) : ∀ a : List Str, (showsOf a xs).length = a.length * xs.length
  | [] => by simp [showsOf]
  | x :: r => by
    have := showsOf_len xs r
    unfold showsOf at this ⊢
    rw [List.flatMap_cons, List.length_append, this, List.length_map, List.length_cons, Nat.succ_mul]
    omega
/-- all permissions of these letters, those that move -/
def allPerms (ls mv : List Str) : List (List Str) := (((ls.map fun x => (["fails", x] : List Str)) ++ (ls.map fun x => (["stays", x] : List Str))) ++ (mv.map fun x => (["writes", x] : List Str))) ++ showsOf mv mv ++ shTo mv mv.length
def endS (k : Str) : Str := if k = "fail" then "fails" else "value"
/-- the dict that maps these to True -/
def trueK (l : List Str) : List (Key × V) := l.map fun x => (Sum.inr x, V.bl true)
theorem trueK_in (l : List Str) (x : Str) : valV (trueK l) (.inr x : Key) = if x ∈ l then some (.bl true) else none := by
  induction l with
  | nil => rfl
  | cons y r ih =>
    by_cases h : y = x
    · subst h
      rw [if_pos List.mem_cons_self]
      exact valV_pos rfl
    · show valV ((Sum.inr y, V.bl true) :: trueK r) (.inr x : Key) = _
      rw [valV_neg (fun e => h (Sum.inr.inj e)), ih]
      have : (x ∈ y :: r) = (x ∈ r) := propext ⟨fun m => (List.mem_cons.mp m).resolve_left fun e => h e.symm, List.mem_cons_of_mem _⟩
      simp only [this]
/-- tuple([("value", name) for name in (sorted(names) if .. else names)]) -/
def tVals : TE := fun σ H Q => ∃ (x : Str) (v c : Addr) (vals cm : List Str), σ.length = 8 ∧ σ[3]? = some (some (.str x)) ∧ σ[1]? = some (some (.ref c)) ∧ σ[4]? = some (some (.ref v)) ∧ H c = some (.dK (trueK cm)) ∧ H v = some (.tup (sts vals)) ∧ vals.length ≤ 2 ∧ (∀ x ∈ vals, x ∈ va3) ∧
  ∀ (t : Addr) (ts : List Addr) (H6 : Hp), H t = none → Same H H6 → H6 t = some (.tup (ts.map V.ref)) → RowsAt H6 ((if x ∈ cm then sort2 vals else vals).map fun y => (["value", y] : List Str)) ts → Q (.ref t) H6
theorem vals_weak {K : PySem.W.Frag} (σ : L2.St) (H : Hp) (Q : VK) (h : tVals σ H Q) : tCB (fun xs H_1 Q => ∃ p ys, xs = [V.ref p] ∧ ((SqL K H_1 p ys ∧ ∀ l, H_1 l = none → Q (.ref l) (upd H_1 l (.tup ys))) ∨ (SqT K H_1 p ys ∧ Q (.ref p) H_1)))
    (tCons (tLc (iSeqW K (tIf (tB (tDIn (tVar 3) (tVar 1))) (tCB (rSortedTS K) (tCons (tVar 4) tNil)) (tVar 4))) (gName 7) tYes (tTup (tCons (tC (.str "value")) (tCons (tVar 7) tNil))) [7]) tNil) σ H Q := by
  obtain ⟨x, v, c, vals, cm, hl, h3, h1, h4, hc, hv, l2, v3, q⟩ := h
  have fin : ∀ (L : Addr) (H1 H2 : Hp), Same H H1 → RowsIn H1 H2 L ((if x ∈ cm then sort2 vals else vals).map fun y => (["value", y] : List Str)) → ∃ p ys, ([V.ref L] : List V) = [V.ref p] ∧ ((SqL K H2 p ys ∧ ∀ l, H2 l = none → Q (.ref l) (upd H2 l (.tup ys))) ∨ (SqT K H2 p ys ∧ Q (.ref p) H2)) := fun L H1 H2 s r => by
    obtain ⟨ts, g1, g2⟩ := r.done
    refine ⟨L, _, rfl, .inl ⟨SqL.of g1, fun t nt => ?_⟩⟩
    obtain ⟨H3, s3, g3, e3⟩ := lay (o := .tup (ts.map V.ref)) nt
    rw [e3]
    exact q t ts H3 ((s.trans r.same).free nt) ((s.trans r.same).trans s3) g3 (g2.mono s3)
  refine ⟨_, h3, _, h1, c, _, rfl, DGet.k (k := .inr x) hc, _, rfl, ?_⟩
  rw [trueK_in]
  by_cases m : x ∈ cm
  · rw [if_pos m]
    refine iteT ?_
    refine ⟨_, h4, v, vals, rfl, SqT.of hv, by omega, fun ys p hperm hsrt np => ?_⟩
    obtain ⟨H1, s1, g1, e1⟩ := lay (o := .lst (sts ys)) np
    rw [e1]
    refine ⟨p, sts ys, true, [], rfl, same_hid0.seq (SqL.of g1), fun J WJ => ?_⟩
    refine rows1J (wd := "value") (Q := fun z H2 => ∃ p ys, ([z] : List V) = [V.ref p] ∧ ((SqL K H2 p ys ∧ ∀ l, H2 l = none → Q (.ref l) (upd H2 l (.tup ys))) ∨ (SqT K H2 p ys ∧ Q (.ref p) H2))) (kb := true) WJ (by rw [hl]; decide : 7 < σ.length) (same_hid0.seq (SqL.of g1)) (by have := hperm.length_eq; omega) fun L H2 r => ?_
    refine fin L H1 H2 s1 ?_
    rw [if_pos m, ← sort2_of hperm hsrt l2 v3]
    exact r
  · rw [if_neg m]
    refine iteF ?_
    refine ⟨_, h4, v, sts vals, false, [], rfl, (Same.seqT same_hid0 (SqT.of hv) : SqT K _ v _), fun J WJ => ?_⟩
    refine rows1J (wd := "value") (Q := fun z H2 => ∃ p ys, ([z] : List V) = [V.ref p] ∧ ((SqL K H2 p ys ∧ ∀ l, H2 l = none → Q (.ref l) (upd H2 l (.tup ys))) ∨ (SqT K H2 p ys ∧ Q (.ref p) H2))) (kb := false) WJ (by rw [hl]; decide : 7 < σ.length) (Same.seqT same_hid0 (SqT.of hv) : SqT K _ v _) (by omega) fun L H2 r => ?_
    refine fin L H H2 (Same.refl _) ?_
    rw [if_neg m]
    exact r
def nkV (n : Str) : NestedKey := .tup [.text "value", .text n]
def nkE (a : Str × List Str) : NestedKey := .tup [.text a.1, .tup (a.2.map nkV)]
theorem nkVs_inj : ∀ {l m : List Str}, l.map nkV = m.map nkV → l = m
  | [], [], _ => rfl
  | [], _ :: _, h => by cases h
  | _ :: _, [], h => by cases h
  | x :: l, y :: m, h => by
    have h1 : nkV x = nkV y ∧ l.map nkV = m.map nkV := List.cons.inj h
    have h2 := (List.cons.inj (List.cons.inj (NestedKey.tup.inj h1.1)).2).1
    obtain rfl := NestedKey.text.inj h2
    rw [nkVs_inj h1.2]
theorem nkE_inj {a b : Str × List Str} (h : nkE a = nkE b) : a = b := by
  obtain ⟨x, l⟩ := a
  obtain ⟨y, m⟩ := b
  have h1 := List.cons.inj (NestedKey.tup.inj h)
  obtain rfl := NestedKey.text.inj h1.1
  have h2 := (List.cons.inj h1.2).1
  obtain rfl : l = m := nkVs_inj (NestedKey.tup.inj h2)
  rfl
theorem nkVs_depth : ∀ l : List Str, NestedKey.depthAll (l.map nkV) ≤ 1
  | [] => by simp [NestedKey.depthAll]
  | x :: l => by
    have := nkVs_depth l
    have e : (nkV x).depth = 1 := by simp [nkV, NestedKey.depth, NestedKey.depthAll]
    rw [List.map_cons, NestedKey.depthAll, e]
    omega
theorem nkE_depth (a : Str × List Str) : (nkE a).depth ≤ 8 := by
  have := nkVs_depth a.2
  unfold nkE
  simp only [NestedKey.depth, NestedKey.depthAll]
  omega
/-- a fact's end stands in the dict of ends -/
structure EndAt (H : Hp) (g : GD) (f : Fact) (x : NestedKey × Addr × Value) : Prop where
  key : x.1 = nkE (g.asked f)
  ex : ∃ b e : Addr, x.2.2 = .ref b ∧ H b = some (.tup [.str (endS f.kind), .ref e]) ∧ H e = some (.tup [.str f.kind, .str f.en])
theorem EndAt.mono {H H' : Hp} {g : GD} {f : Fact} {x : NestedKey × Addr × Value} (s : Same H H') (h : EndAt H g f x) : EndAt H' g f x := let ⟨b, e, h1, h2, h3⟩ := h.ex; ⟨h.key, b, e, h1, s _ _ h2, s _ _ h3⟩
theorem paired_mem {α β : Type} {R : α → β → Prop} {y : β} : ∀ {l : List α} {m : List β}, Paired R l m → y ∈ m → ∃ x ∈ l, R x y
  | _, _, .cons r t, h => by
    rcases List.mem_cons.mp h with rfl | h
    · exact ⟨_, List.mem_cons_self, r⟩
    · obtain ⟨x, hx, hr⟩ := paired_mem t h
      exact ⟨x, List.mem_cons_of_mem _ hx, hr⟩
theorem nk_rows {H : Hp} : ∀ {xs : List Str} {ts : List Addr}, RowsAt H (xs.map fun x => (["value", x] : List Str)) ts → NkAll H (xs.map nkV) (ts.map V.ref)
  | [], [], _ => .nil
  | x :: xs, t :: ts, h => by
    cases h with
    | cons a b => exact .cons (.tup a (.cons (.text _) (.cons (.text _) .nil))) (nk_rows b)
  | [], _ :: _, h => by cases h
  | _ :: _, [], h => by cases h
theorem prod_le {a b : Nat} (h : a ≤ 20) (h2 : b ≤ 20) : a * b ≤ 400 := Nat.le_trans (Nat.mul_le_mul h h2) (by decide)
end GB
namespace K7
open PySem PySem.Spec L2 GB
abbrev sPerm : Stmt := topS 26
abbrev sOut : Stmt := topS 25
abbrev sEbv : Stmt := topS 24
def ebvN : List Str := ["facts", "commutes", "ends", "letter", "names", "end", "values", "name"]
def permN : List Str := ["letters", "moving", "fails", "stays", "writes", "shows", "shares", "letter", "one", "other", "place"]
def spPerm : Sp := fun vs H Q _ => ∃ (a b : Addr) (ls mv : List Str), vs = [.ref a, .ref b] ∧ H a = some (.lst (sts ls)) ∧ H b = some (.lst (sts mv)) ∧ ls.length ≤ 20 ∧ mv.length ≤ 20 ∧
  ∀ (D : Addr) (ts : List Addr) (H' : Hp), H D = none → Same H H' → H' D = some (.lst (ts.map V.ref)) → RowsAt H' (allPerms ls mv) ts → Q (.ref D) H'
def spEbv (P : Program) (w : World) : Sp := fun vs H Q _ => ∃ (a c : Addr) (g : GD), vs = [.ref a, .ref c] ∧ FactsAt H a g.facts ∧ H c = some (.dK (trueK g.comm)) ∧ g.Fit ∧
  ∀ (D : Addr) (xs : NX) (H' : Hp), H D = none → Same H H' → H' D = some (ndO P w D xs) → NdKeys (hid [D] H') xs → Paired (EndAt (hid [D] H') g) g.facts xs → Q (.ref D) H'
def spOut : Sp := fun vs H Q _ => ∃ (e : Addr) (k n : Str), vs = [.ref e] ∧ H e = some (.tup [.str k, .str n]) ∧ ∀ (t : Addr) (H' : Hp), H t = none → Same H H' → H' t = some (.tup [.str (endS k), .ref e]) → Q (.ref t) H'
section
variable {P : Program} {w : World} {K : PySem.W.Frag} {mg : Str → Option Value} {base : Heap}
theorem scPerm : FnScope permN ["letters", "moving"] (defScope sPerm) := ⟨rfl, rfl, rfl, by decide +kernel, rfl, by decide +kernel, by decide +kernel⟩
theorem scOut : FnScope ["end"] ["end"] (defScope sOut) := ⟨rfl, rfl, rfl, by decide +kernel, rfl, by decide +kernel, by decide +kernel⟩
theorem ok_out {f : Addr} {fd : FuncData} (F : Fun K "as_outcome" "as_outcome" sOut f fd) : FnOk P w K mg base CX0 1 f fd ["end"] spOut := by
  refine F.ok scOut (fun vs H Q E h => ?_) (fun cdv A outer s H vs Q E hr h => ?_)
  · obtain ⟨e, k, n, rfl, _⟩ := h
    rfl
  · obtain ⟨e, k, n, rfl, he, q⟩ := h
    refine ⟨_, pss_one (ps_ret (pe_tup (pa_cons (pe_ifExp (pt_cmpR op_eq (pe_ix ix_tup (pv 0) (pe_int) (fun _ _ => rfl)) (pe_str) (nomark _)) (pe_str) (pe_str)) (pa_cons (pv 0) (pa_nil))))), ?_⟩
    refine ⟨_, rfl, e, _, ((0 : Nat) : Int), _, rfl, rfl, SqT.of he, atI_nat (j := 0) rfl, rfl, _, rfl, ?_⟩
    rw [decS]
    by_cases c : k = "fail"
    · rw [decide_eq_true c]
      refine iteT ?_
      refine ⟨_, rfl, by show 2 ≤ sizeLine; decide, fun t nt => ?_⟩
      obtain ⟨H1, s1, h1, e1⟩ := lay (o := .tup [.str "fails", .ref e]) nt
      rw [e1]
      exact q t H1 nt s1 (by unfold endS; rw [if_pos c]; exact h1)
    · rw [decide_eq_false c]
      refine iteF ?_
      refine ⟨_, rfl, by show 2 ≤ sizeLine; decide, fun t nt => ?_⟩
      obtain ⟨H1, s1, h1, e1⟩ := lay (o := .tup [.str "value", .ref e]) nt
      rw [e1]
      exact q t H1 nt s1 (by unfold endS; rw [if_neg c]; exact h1)
theorem ok_perm {f : Addr} {fd : FuncData} (F : Fun K "_all_permissions" "_all_permissions" sPerm f fd) (T : Bl mg) : FnOk P w K mg base CX0 1 f fd ["letters", "moving"] spPerm := by
  refine F.ok scPerm (fun vs H Q E h => ?_) (fun cdv A outer s H vs Q E hr h => ?_)
  · obtain ⟨a, b, ls, mv, rfl, _⟩ := h
    rfl
  · obtain ⟨a, b, ls, mv, rfl, ha, hb, hls, hmv, q⟩ := h
    refine ⟨_, pss_cons (ps_setLc (i := 2) (own := [("letter", 7)]) (g := gName 7) (tt := tYes) rfl scPerm.nd rfl rfl (sw_true rfl rfl rfl (by decide +kernel)) (pi_seqW (pv 0)) (blkOk_by (own := [("letter", 7)]) (N := permN) (sc := defScope sPerm) (by decide +kernel)) (fun _ _ _ _ _ => pg_name (i := 7) scPerm.nd rfl (.inl rfl)) (fun _ _ _ _ _ => pts_nil) (fun _ _ _ _ _ => pe_tup (pa_cons (pe_str) (pa_cons (pv 7) (pa_nil))))) (pss_cons (ps_setLc (i := 3) (own := [("letter", 7)]) (g := gName 7) (tt := tYes) rfl scPerm.nd rfl rfl (sw_true rfl rfl rfl (by decide +kernel)) (pi_seqW (pv 0)) (blkOk_by (own := [("letter", 7)]) (N := permN) (sc := defScope sPerm) (by decide +kernel)) (fun _ _ _ _ _ => pg_name (i := 7) scPerm.nd rfl (.inl rfl)) (fun _ _ _ _ _ => pts_nil) (fun _ _ _ _ _ => pe_tup (pa_cons (pe_str) (pa_cons (pv 7) (pa_nil))))) (pss_cons (ps_setLc (i := 4) (own := [("letter", 7)]) (g := gName 7) (tt := tYes) rfl scPerm.nd rfl rfl (sw_true rfl rfl rfl (by decide +kernel)) (pi_seqW (pv 1)) (blkOk_by (own := [("letter", 7)]) (N := permN) (sc := defScope sPerm) (by decide +kernel)) (fun _ _ _ _ _ => pg_name (i := 7) scPerm.nd rfl (.inl rfl)) (fun _ _ _ _ _ => pts_nil) (fun _ _ _ _ _ => pe_tup (pa_cons (pe_str) (pa_cons (pv 7) (pa_nil))))) (pss_cons (ps_setLc2 (i := 5) (own := [("one", 8), ("other", 9)]) (vs1 := [9]) (wi1 := iSeqW K (tVar 1)) (g := gName 8) (g1 := gName 9) (tt := tYes) (tt1 := tYes) rfl scPerm.nd rfl rfl (sw_true rfl rfl rfl (by decide +kernel)) (pi_seqW (pv 1)) (blkOk_by (own := [("one", 8), ("other", 9)]) (N := permN) (sc := defScope sPerm) (by decide +kernel)) (by decide) (fun _ _ _ _ _ => pg_name (i := 8) scPerm.nd rfl (.inl rfl)) (fun _ _ _ _ _ => pts_nil) (fun _ _ _ _ _ => pi_seqW (pv 1)) (fun _ _ _ _ _ => pg_name (i := 9) scPerm.nd rfl (.inl rfl)) (fun _ _ _ _ _ => pts_nil) (fun _ _ _ _ _ => pe_tup (pa_cons (pe_str) (pa_cons (pv 8) (pa_cons (pv 9) (pa_nil)))))) (pss_cons (ps_setLc2 (i := 6) (own := [("place", 10), ("one", 8), ("other", 9)]) (vs1 := [9]) (wi1 := iSeqW K (tSl (rSlL K) (tVar 1) (tPart (tOp (rI0 fun i j => .int (i + j)) (tVar 10) (tC (.int 1)))) tNoPart)) (g := gTup K 2 (gCons (gName 10) (gCons (gName 8) gNil))) (g1 := gName 9) (tt := tYes) (tt1 := tYes) rfl scPerm.nd rfl rfl (sw_true rfl rfl rfl (by decide +kernel)) (pi_enumW rfl T.enum (pa_cons (pv 1) pa_nil)) (blkOk_by (own := [("place", 10), ("one", 8), ("other", 9)]) (N := permN) (sc := defScope sPerm) (by decide +kernel)) (by decide) (fun _ _ _ _ _ => pg_tup rfl (pgs_cons (pg_name (i := 10) scPerm.nd rfl (.inl rfl)) (pgs_cons (pg_name (i := 8) scPerm.nd rfl (.inl rfl)) (pgs_nil)))) (fun _ _ _ _ _ => pts_nil) (fun _ _ _ _ _ => pi_seqW (pe_slice (r := rSlL K) sl_list (pv 1) (po_some (pe_op op_add (pv 10) (pe_int))) po_none)) (fun _ _ _ _ _ => pg_name (i := 9) scPerm.nd rfl (.inl rfl)) (fun _ _ _ _ _ => pts_nil) (fun _ _ _ _ _ => pe_tup (pa_cons (pe_str) (pa_cons (pv 8) (pa_cons (pv 9) (pa_nil)))))) (pss_one (ps_ret (pe_op op_cat (pe_op op_cat (pe_op op_cat (pe_op op_cat (pv 2) (pv 3)) (pv 4)) (pv 5)) (pv 6)))))))), ?_⟩
    refine rows1S rfl (by simp [L2.start, permN]) (SqL.of ha) (by omega) fun D1 H1 r1 => ?_
    have s1 := r1.same
    refine rows1S rfl (by simp [L2.start, permN]) (SqL.of (s1 _ _ ha)) (by omega) fun D2 H2 r2 => ?_
    have s2 := s1.trans r2.same
    refine rows1S rfl (by simp [L2.start, permN]) (SqL.of (s2 _ _ hb)) (by omega) fun D3 H3 r3 => ?_
    have s3 := s2.trans r3.same
    have hb3 := s3 _ _ hb
    refine ⟨_, rfl, b, sts mv, true, [], rfl, same_hid0.seq (SqL.of hb3), fun J WJ D4 nD4 => ?_⟩
    refine lc2_it WJ (fun j H' => RowsIn H3 H' D4 (showsOf (mv.take j) mv)) (RowsIn.start nD4) (fun j H' _ r => (r.same.trans same_hid0).seq (SqL.of hb3)) ?_ ?_
    · rintro i x H5 H5' hi r ⟨rfl, hx⟩
      obtain ⟨sx, hsx, rfl⟩ := sts_at hx
      have hi' : i < mv.length := (List.getElem?_eq_some_iff.mp hsx).1
      refine ⟨rfl, ?_⟩
      refine ⟨_, rfl, b, sts mv, true, [], rfl, same_hid0.seq (SqL.of (r.same _ _ hb3)), fun J1 WJ1 => ?_⟩
      refine in_it WJ1 (fun j H' => RowsIn H3 H' D4 (showsOf (mv.take i) mv ++ (mv.take j).map fun y => (["shows", sx, y] : List Str))) (by rw [List.take_zero, List.map_nil, List.append_nil]; exact r) (fun j H' _ r => (r.same.trans same_hid0).seq (SqL.of hb3)) ?_ ?_
      · rintro j y H6 H6' hj r6 ⟨rfl, hy⟩
        obtain ⟨sy, hsy, rfl⟩ := sts_at hy
        refine ⟨rfl, ?_⟩
        refine ⟨_, rfl, _, rfl, by show 3 ≤ sizeLine; decide, fun t nt => ?_⟩
        rw [take_at hsy, List.map_append, ← List.append_assoc]
        refine r6.more (row := ["shows", sx, sy]) (Same.refl _) ?_ nt
        rw [List.length_append, showsOf_len, List.length_map, List.length_take, List.length_take]
        have := prod_le (show min i mv.length ≤ 20 by omega) hmv
        omega
      · intro H6 r6
        rw [show mv.take (sts mv).length = mv from List.take_of_length_le (by rw [sts_len]; exact Nat.le_refl _)] at r6
        rw [take_at hsx]
        unfold showsOf at r6 ⊢
        rw [List.flatMap_append, List.flatMap_cons, List.flatMap_nil, List.append_nil]
        exact r6
    intro H4 r4
    rw [List.take_of_length_le (by rw [sts_len]; exact Nat.le_refl _)] at r4
    have s4 := s3.trans r4.same
    have hb4 := s4 _ _ hb
    refine ⟨_, rfl, b, sts mv, true, [], rfl, same_hid0.seq (SqL.of hb4), fun J WJ D5 nD5 => ?_⟩
    refine lc2_it WJ (fun j H' => RowsIn H4 H' D5 (shTo mv j)) (RowsIn.start nD5) (fun j H' _ r => (r.same.trans same_hid0).seq (SqL.of hb4)) ?_ ?_
    · rintro i x H5 H5' hi r ⟨Tp, y1, y2, rfl, nT, rfl, e1, e2⟩
      obtain rfl := Option.some.inj e1
      obtain ⟨sx, hsx, rfl⟩ := sts_at e2
      have hi' : i < mv.length := (List.getElem?_eq_some_iff.mp hsx).1
      obtain ⟨H6, s6, h6, e6⟩ := lay (o := .tup [.int (i : Nat), .str sx]) nT
      rw [e6]
      refine ⟨Tp, _, rfl, SqT.of h6, rfl, _, _, rfl, _, _, rfl, rfl, ?_⟩
      refine ⟨rfl, ?_⟩
      refine ⟨_, rfl, _, rfl, _, _, rfl, rfl, _, rfl, b, sts mv, rfl, SqL.of (s6 _ _ (r.same _ _ hb4)), fun c nc => ?_⟩
      rw [show (((i : Nat) : Int) + 1) = ((i + 1 : Nat) : Int) from rfl, cut_from, show (sts mv).drop (i + 1) = sts (mv.drop (i + 1)) from (List.map_drop).symm]
      obtain ⟨H7, s7, h7, e7⟩ := lay (o := .lst (sts (mv.drop (i + 1)))) nc
      rw [e7]
      have r7 : RowsIn H4 H7 D5 (shTo mv i) := r.next (s6.trans s7)
      have cD : c ≠ D5 := fun z => by
        obtain ⟨ts, q1, _⟩ := r.next s6 |>.ex
        rw [← z, nc] at q1
        cases q1
      refine ⟨c, sts (mv.drop (i + 1)), true, [D5], rfl, SqL.of (hid_to (ni1 cD) h7), fun J1 WJ1 => ?_⟩
      have hc7 : hid [D5] H7 c = some (.lst (sts (mv.drop (i + 1)))) := hid_to (ni1 cD) h7
      refine in_it WJ1 (fun j H' => Bt [D5] H7 H' ∧ RowsIn H4 H' D5 (shTo mv i ++ ((mv.drop (i + 1)).take j).map fun y => (["shares", sx, y] : List Str))) ⟨Same.refl _, by rw [List.take_zero, List.map_nil, List.append_nil]; exact r7⟩ (fun j H' _ r => SqL.of (r.1 _ _ hc7)) ?_ ?_
      · rintro j y H8 H8' hj ⟨B8, r8⟩ ⟨rfl, hy⟩
        obtain ⟨sy, hsy, rfl⟩ := sts_at hy
        refine ⟨rfl, ?_⟩
        refine ⟨_, rfl, _, rfl, by show 3 ≤ sizeLine; decide, fun t nt => ?_⟩
        rw [take_at hsy, List.map_append, ← List.append_assoc]
        obtain ⟨acc, a1, a2, a3, a4⟩ := r8.moreB (row := ["shares", sx, sy]) (Same.refl _) (by
          rw [List.length_append, List.length_map, List.length_take, List.length_drop]
          have := shTo_len mv i
          have := prod_le (show i ≤ 20 by omega) hmv
          omega) nt
        exact ⟨acc, a1, a2, B8.trans a4, a3⟩
      · rintro H8 ⟨B8, r8⟩
        rw [show (mv.drop (i + 1)).take (sts (mv.drop (i + 1))).length = mv.drop (i + 1) from List.take_of_length_le (by rw [sts_len]; exact Nat.le_refl _)] at r8
        rw [shTo, show mv.getD i "" = sx from by rw [List.getD_eq_getElem?_getD, hsx]; rfl]
        exact r8
    intro H5 r5
    rw [sts_len] at r5
    have s5 := s4.trans r5.same
    obtain ⟨t1, g1, p1⟩ := r1.done
    obtain ⟨t2, g2, p2⟩ := r2.done
    obtain ⟨t3, g3, p3⟩ := r3.done
    obtain ⟨t4, g4, p4⟩ := r4.done
    obtain ⟨t5, g5, p5⟩ := r5.done
    have s45 := r5.same
    have s35 := r4.same.trans s45
    have s25 := r3.same.trans s35
    have s15 := r2.same.trans s25
    have l1 := p1.len
    have l2 := p2.len
    have l3 := p3.len
    have l4 := p4.len
    have l5 := p5.len
    rw [List.length_map] at l1 l2 l3
    rw [showsOf_len] at l4
    have l5b := shTo_len mv mv.length
    have l45 := prod_le hmv hmv
    refine ⟨_, rfl, _, rfl, D1, D2, _, _, rfl, rfl, s15 _ _ g1, s25 _ _ g2, by rw [List.length_map, List.length_map, sizeLine_eq]; omega, fun u6 n6 => ?_⟩
    obtain ⟨H6, s6, h6, e6⟩ := lay (o := .lst (t1.map V.ref ++ t2.map V.ref)) n6
    rw [e6]
    refine ⟨_, rfl, u6, D3, _, _, rfl, rfl, h6, s6 _ _ (s35 _ _ g3), by rw [List.length_append, List.length_map, List.length_map, List.length_map, sizeLine_eq]; omega, fun u7 n7 => ?_⟩
    obtain ⟨H7, s7, h7, e7⟩ := lay (o := .lst (t1.map V.ref ++ t2.map V.ref ++ t3.map V.ref)) n7
    rw [e7]
    refine ⟨_, rfl, u7, D4, _, _, rfl, rfl, h7, s7 _ _ (s6 _ _ (s45 _ _ g4)), by rw [List.length_append, List.length_append, List.length_map, List.length_map, List.length_map, List.length_map, sizeLine_eq]; omega, fun u8 n8 => ?_⟩
    obtain ⟨H8, s8, h8, e8⟩ := lay (o := .lst (t1.map V.ref ++ t2.map V.ref ++ t3.map V.ref ++ t4.map V.ref)) n8
    rw [e8]
    refine ⟨_, rfl, u8, D5, _, _, rfl, rfl, h8, s8 _ _ (s7 _ _ (s6 _ _ g5)), by rw [List.length_append, List.length_append, List.length_append, List.length_map, List.length_map, List.length_map, List.length_map, List.length_map, sizeLine_eq]; omega, fun u9 n9 => ?_⟩
    obtain ⟨H9, s9, h9, e9⟩ := lay (o := .lst (t1.map V.ref ++ t2.map V.ref ++ t3.map V.ref ++ t4.map V.ref ++ t5.map V.ref)) n9
    rw [e9]
    have s59 := ((s6.trans s7).trans s8).trans s9
    refine q u9 (t1 ++ t2 ++ t3 ++ t4 ++ t5) H9 ((s5.trans ((s6.trans s7).trans s8)).free n9) (s5.trans s59) (by rw [h9]; simp) ?_
    have b1 := p1.mono (s15.trans s59)
    have b2 := p2.mono (s25.trans s59)
    have b3 := p3.mono (s35.trans s59)
    have b4 := p4.mono (s45.trans s59)
    have b5 := p5.mono s59
    exact (((b1.app b2).app b3).app b4).app b5
theorem scEbv : FnScope ebvN ["facts", "commutes"] (defScope sEbv) := ⟨rfl, rfl, rfl, by decide +kernel, rfl, by decide +kernel, by decide +kernel⟩
theorem ok_ebv {f : Addr} {fd : FuncData} (F : Fun K "_ends_by_values" "_ends_by_values" sEbv f fd) (T : Bl mg) (OUT : Fns P w K mg base "as_outcome" 1 ["end"] spOut) : FnOk P w K mg base CX0 2 f fd ["facts", "commutes"] (spEbv P w) := by
  refine F.ok scEbv (fun vs H Q E h => ?_) (fun cdv A outer s H vs Q E hr h => ?_)
  · obtain ⟨a, c, g, rfl, _⟩ := h
    rfl
  · obtain ⟨a, c, g, rfl, ⟨tsF, ha, hF⟩, hc, wf, q⟩ := h
    have hu := hu_of hr
    have hu9 : (A.deeper (PyProof.Rows.envOfC "_ends_by_values" (defScope sEbv) s.heap.objs.size f cdv)).units + 9 < cLine := by have := hr.un; omega
    refine ⟨_, pss_cons (ps_set (i := 2) scEbv.nd rfl (.inl rfl) (pe_dnewN)) (pss_cons (ps_for PassesOwn.never rfl (pi_seqW (pv 0)) (pg_tup rfl (pgs_cons (pg_name (i := 3) scEbv.nd rfl (.inl rfl)) (pgs_cons (pg_name (i := 4) scEbv.nd rfl (.inl rfl)) (pgs_cons (pg_name (i := 5) scEbv.nd rfl (.inl rfl)) (pgs_nil))))) (pss_cons (ps_set (i := 6) scEbv.nd rfl (.inl rfl) (pe_weak (t' := tVals) (pe_callTy (call_tuple_of) (by rfl) T.tuple (by decide +kernel) (pa_cons (pe_lc (own := [("name", 7)]) (g := gName 7) (tt := tYes) rfl scEbv.nd (pi_seqW (pe_ifExp (pt_cmp (pc_din hu (pv 3) (pv 1))) (pe_callB (cr_sortedTS) (by rfl) T.sorted (by decide +kernel) (pa_cons (pv 4) (pa_nil))) (pv 4))) (blkOk_by (own := [("name", 7)]) (N := ebvN) (sc := defScope sEbv) (by decide +kernel)) (fun _ _ _ _ _ => pg_name (i := 7) scEbv.nd rfl (.inl rfl)) (fun _ _ _ _ _ => pts_nil) (fun _ _ _ _ _ => pe_tup (pa_cons (pe_str) (pa_cons (pv 7) (pa_nil))))) (pa_nil))) vals_weak)) (pss_one (ps_asg (pe_fn OUT hr (by decide) rfl (pa_cons (pv 5) pa_nil)) (pg_sub (pv 2) (pe_tup (pa_cons (pv 3) (pa_cons (pv 6) (pa_nil)))) (set_dictN hu9)))))) (pss_one (ps_ret (pv 2)))), ?_⟩
    refine fun D nD => ?_
    obtain ⟨H1, s1, h1, e1⟩ := lay (o := ndO P w D []) nD
    have e1' : upd H D (ndO (cxOf CX0 P w K mg base ebvN "_ends_by_values" (defScope sEbv) f cdv A outer s H E).nox.prog (cxOf CX0 P w K mg base ebvN "_ends_by_values" (defScope sEbv) f cdv A outer s H E).nox.w D []) = H1 := e1
    rw [e1']
    have S1 : Same H (hid [D] H1) := same_hid_new nD s1
    have ltd : tsF.length = g.facts.length := (Paired.length hF).symm
    refine ⟨_, rfl, a, tsF.map V.ref, true, [D], rfl, SqL.of (S1 _ _ ha), fun J WJ => ?_⟩
    refine for_it WJ (fun i σ H' => ∃ (o3 o4 o5 o6 : Option V) (xs : NX), σ = [some (.ref a), some (.ref c), some (.ref D), o3, o4, o5, o6, none] ∧ Same H (hid [D] H') ∧ H' D = some (ndO P w D xs) ∧ NdKeys (hid [D] H') xs ∧ Paired (EndAt (hid [D] H') g) (g.facts.take i) xs)
      ⟨none, none, none, none, [], rfl, S1, h1, (fun e he => nomatch he), .nil⟩ (fun i σ H' _ ⟨_, _, _, _, _, _, S, _⟩ => SqL.of (S _ _ ha)) ?_ ?_
    · rintro i x σ H0 H3 hi ⟨o3, o4, o5, o6, xs, rfl, S3, h3, k3, p3⟩ ⟨rfl, ey⟩
      obtain ⟨t, htt, rfl⟩ : ∃ t, tsF[i]? = some t ∧ x = V.ref t := by
        have ey : (tsF.map V.ref)[i]? = some x := ey
        rw [List.getElem?_map] at ey
        cases e : tsF[i]? with
        | none => rw [e] at ey; cases ey
        | some y => rw [e] at ey; exact ⟨y, rfl, (Option.some.inj ey).symm⟩
      have hig : i < g.facts.length := by rw [← ltd]; exact (List.getElem?_eq_some_iff.mp htt).1
      have hfi : g.facts[i]? = some g.facts[i] := List.getElem?_eq_getElem hig
      generalize hfa : g.facts[i] = fa at hfi
      have fmem := List.mem_of_getElem? hfi
      obtain ⟨t', ht', hA⟩ : ∃ t', tsF[i]? = some t' ∧ FactAt H fa t' := paired_at' hF hfi
      obtain rfl : t' = t := by rw [htt] at ht'; exact (Option.some.inj ht').symm
      have ok := wf.fa _ fmem
      obtain ⟨v, e, ht0, hv0, he0⟩ := hA.ex
      obtain ⟨k, hk, hvl⟩ := ok.len
      have har := wf.ar _ hk
      have S3l : Same H H3 := S3.trans (hid_low _ _)
      refine ⟨t', _, rfl, SqT.of (S3l _ _ ht0), rfl, _, _, rfl, _, _, rfl, _, _, rfl, rfl, ?_⟩
      refine ⟨fa.x, v, c, fa.vals, g.comm, rfl, rfl, rfl, rfl, S3l _ _ hc, S3l _ _ hv0, by rw [hvl]; exact har, ok.vals, fun u tsu H4 nu s4 hu4 hru => ?_⟩
      refine ⟨_, rfl, e, fa.kind, fa.en, rfl, s4 _ _ (S3l _ _ he0), fun b H5 nb s5 hb5 => ?_⟩
      refine ⟨_, rfl, _, rfl, _, rfl, by show 2 ≤ sizeLine; decide, fun ka nka => ?_⟩
      obtain ⟨H6, s6, h6, e6⟩ := lay (o := .tup [.str fa.x, .ref u]) nka
      rw [e6]
      have S46 : Same H3 H6 := (s4.trans s5).trans s6
      have h6D := S46 _ _ h3
      have nD6 : ∀ {q : Addr} {o : List V}, H6 q = some (.tup o) → hid [D] H6 q = some (.tup o) := fun h => hid_to (ni1 (ne_of h h6D (fun z => nomatch z))) h
      have k6 : NdKeys (hid [D] H6) xs := k3.mono (hid_same S46)
      have hru6 : RowsAt (hid [D] H6) ((if fa.x ∈ g.comm then sort2 fa.vals else fa.vals).map fun y => (["value", y] : List Str)) tsu := Paired.mapP (hru.mono (s5.trans s6)) fun _ _ r => nD6 r
      have nk6 : NkV (hid [D] H6) (nkE (g.asked fa)) (.ref ka) := .tup (nD6 h6) (.cons (.text _) (.cons (.tup (nD6 (s6 _ _ (s5 _ _ hu4))) (nk_rows hru6)) .nil))
      have lxs : xs.length ≤ 6 := by
        have := Paired.length p3
        rw [List.length_take] at this
        have := wf.fl
        omega
      have nokey : nkE (g.asked fa) ∉ xs.map (·.1) := by
        intro m
        obtain ⟨en, hen, ee⟩ := List.mem_map.mp m
        obtain ⟨fb, hfb, hE⟩ := paired_mem p3 hen
        have := nkE_inj (hE.key.symm.trans ee)
        exact not_in_take_map wf.fd hfi hfb this
      have hnone := atKey_none nokey
      refine ⟨D, ka, b, nkE (g.asked fa), xs, rfl, rfl, rfl, h6D, k6.mono (hid_low _ _), NkV.mono (hid_low _ _) _ _ nk6, nkE_depth _, by omega, ?_⟩
      rw [storedH_new hnone]
      have B8 : Bt [D] H6 (upd H6 D (ndO P w D (xs ++ [(nkE (g.asked fa), ka, Value.ref b)]))) := bt_upd (by simp)
      have S58 : Same (hid [D] H3) (hid [D] (upd H6 D (ndO P w D (xs ++ [(nkE (g.asked fa), ka, Value.ref b)])))) := (hid_same S46).trans B8
      refine ⟨_, _, _, _, xs ++ [(nkE (g.asked fa), ka, Value.ref b)], rfl, S3.trans S58, upd_same, ?_, ?_⟩
      · intro en hen
        rcases List.mem_append.mp hen with h | h
        · exact (k6.mono B8) en h
        · rw [List.mem_singleton.mp h]
          exact ⟨NkV.mono B8 _ _ nk6, nkE_depth _⟩
      · rw [take_at hfi]
        exact paired_app (Paired.mapP p3 fun _ _ r => r.mono S58) (.cons ⟨rfl, b, e, rfl, B8 _ _ (nD6 (s6 _ _ hb5)), S58 _ _ (S3 _ _ he0)⟩ .nil)
    · rintro σ H3 ⟨o3, o4, o5, o6, xs, rfl, S3, h3, k3, p3⟩
      rw [List.take_of_length_le (by rw [List.length_map, ltd]; exact Nat.le_refl _)] at p3
      exact ⟨_, rfl, q D xs H3 nD (S3.trans (hid_low _ _)) h3 k3 p3⟩
end
end K7
set_option Elab.async false
set_option linter.all false
set_option maxRecDepth 100000
set_option maxHeartbeats 8000000
namespace GB
open PySem PySem.Spec L2
/-- [x for x in letters if x in fixed] -/
def tSel (j : Nat) : TE := fun σ H Q => ∃ (s0 : Option V) (a : Addr) (s2 s3 s4 s5 s6 s7 : Option V) (b : Addr) (ls : List (Str × Nat)) (fx : List Str), σ = [s0, some (.ref a), s2, s3, s4, s5, s6, s7] ∧ ((j = 2 ∧ s2 = some (.ref b)) ∨ (j = 3 ∧ s3 = some (.ref b))) ∧ H a = some (.dK (lkv ls)) ∧ H b = some (.lst (sts fx)) ∧ ls.length ≤ 1000 ∧
  ∀ l H', H l = none → Same H H' → H' l = some (.lst (sts ((ls.map (·.1)).filter fun x => decide (x ∈ fx)))) → Q (.ref l) H'

theorem sel_weak2 {K : PySem.W.Frag} (σ : L2.St) (H : Hp) (Q : VK) (h : tSel 2 σ H Q) : tLockE (tLc (iKeys (tVar 1)) (gName 5) (tTest (tOp (rIn K false) (tVar 5) (tVar 2))) (tVar 5) [5]) σ H Q := by
  obtain ⟨s0, a, s2, s3, s4, s5, s6, s7, b, ls, fx, rfl, hj, hL, hF, hz, q⟩ := h
  obtain rfl : s2 = some (.ref b) := by
    rcases hj with h | h
    · first | exact h.2 | exact absurd h.1 (by decide)
    · first | exact h.2 | exact absurd h.1 (by decide)
  have ab : b ≠ a := ne_of hF hL (by intro z; cases z)
  refine ⟨a, _, hL, trivial, fun od => ?_⟩
  obtain ⟨Hl, hlL, hlo, el⟩ : ∃ Hl, Hl a = some (.frz od (.dK (lkv ls))) ∧ (∀ b, b ≠ a → Hl b = H b) ∧ upd H a (.frz od (.dK (lkv ls))) = Hl := ⟨_, upd_same, fun b hb => upd_ne hb, rfl⟩
  rw [el]
  have hFl := (hlo b ab).trans hF
  refine ⟨_, rfl, a, od, rfl, .inl ⟨_, hlL, fun D nD => ?_⟩⟩
  refine lc_it walk_keys (fun i H' => Same Hl H' ∧ H' D = some (.lst (sts (((ls.map (·.1)).take i).filter fun x => decide (x ∈ fx))))) ⟨same_new nD, upd_same⟩ (fun i H' _ ⟨s', _⟩ => s' _ _ hlL) ?_ ?_
  · rintro i x H1 H1' hi ⟨s1, hD⟩ ⟨rfl, k, v, hk, rfl⟩
    obtain ⟨⟨sx, m⟩, hq, eq⟩ : ∃ q, ls[i]? = some q ∧ (Sum.inr q.1, V.int q.2) = (k, v) := by
      unfold lkv at hk
      rw [List.getElem?_map] at hk
      cases e : ls[i]? with
      | none => rw [e] at hk; cases hk
      | some q => rw [e] at hk; exact ⟨q, rfl, Option.some.inj hk⟩
    obtain ⟨rfl, rfl⟩ := Prod.mk.inj eq
    have hkx : (ls.map (·.1))[i]? = some sx := by rw [List.getElem?_map, hq]; rfl
    have ec := take_at hkx
    refine ⟨rfl, ?_⟩
    refine ⟨_, rfl, _, rfl, b, sts fx, rfl, .inl (SqL.of (s1 _ _ hFl)), rfl, flat_sts _, _, rfl, ?_⟩
    rw [show (if false = true then !inV (kV (Sum.inr sx)) (sts fx) else inV (kV (Sum.inr sx)) (sts fx)) = decide (sx ∈ fx) from inV_sts _ _]
    rw [ec, List.filter_append]
    by_cases c : sx ∈ fx
    · rw [decide_eq_true c]
      refine ⟨_, rfl, _, hD, ?_, fun b o e => ?_, ?_⟩
      · rw [sts_len, sizeLine_eq]
        have h1 := List.length_filter_le (fun x => decide (x ∈ fx)) ((ls.map (·.1)).take i)
        rw [List.length_take, List.length_map] at h1
        omega
      · rw [upd_ne (ne_of_none e nD)]; exact s1 _ _ e
      · rw [upd_same, List.filter_cons_of_pos (by simp [c]), List.filter_nil]
        unfold sts
        rw [List.map_append]
        rfl
    · rw [decide_eq_false c]
      refine ⟨s1, ?_⟩
      rw [List.filter_cons_of_neg (by simp [c]), List.filter_nil, List.append_nil]
      exact hD
  · rintro H1' ⟨s1', hD1'⟩
    refine ⟨s1' _ _ hlL, ?_⟩
    have DL : D ≠ a := fun e => by rw [e, hlL] at nD; cases nD
    have nDH : H D = none := by rw [← hlo D DL]; exact nD
    rw [List.take_of_length_le (by rw [List.length_map]; show ls.length ≤ (lkv ls).length; unfold lkv; rw [List.length_map]; exact Nat.le_refl _)] at hD1'
    refine q D _ nDH (fun b o e => ?_) (by rw [upd_ne DL]; exact hD1')
    by_cases hb : b = a
    · subst hb; rw [upd_same, ← e, hL]
    · rw [upd_ne hb]; exact s1' _ _ ((hlo b hb).trans e)

theorem sel_weak3 {K : PySem.W.Frag} (σ : L2.St) (H : Hp) (Q : VK) (h : tSel 3 σ H Q) : tLockE (tLc (iKeys (tVar 1)) (gName 5) (tTest (tOp (rIn K false) (tVar 5) (tVar 3))) (tVar 5) [5]) σ H Q := by
  obtain ⟨s0, a, s2, s3, s4, s5, s6, s7, b, ls, fx, rfl, hj, hL, hF, hz, q⟩ := h
  obtain rfl : s3 = some (.ref b) := by
    rcases hj with h | h
    · first | exact h.2 | exact absurd h.1 (by decide)
    · first | exact h.2 | exact absurd h.1 (by decide)
  have ab : b ≠ a := ne_of hF hL (by intro z; cases z)
  refine ⟨a, _, hL, trivial, fun od => ?_⟩
  obtain ⟨Hl, hlL, hlo, el⟩ : ∃ Hl, Hl a = some (.frz od (.dK (lkv ls))) ∧ (∀ b, b ≠ a → Hl b = H b) ∧ upd H a (.frz od (.dK (lkv ls))) = Hl := ⟨_, upd_same, fun b hb => upd_ne hb, rfl⟩
  rw [el]
  have hFl := (hlo b ab).trans hF
  refine ⟨_, rfl, a, od, rfl, .inl ⟨_, hlL, fun D nD => ?_⟩⟩
  refine lc_it walk_keys (fun i H' => Same Hl H' ∧ H' D = some (.lst (sts (((ls.map (·.1)).take i).filter fun x => decide (x ∈ fx))))) ⟨same_new nD, upd_same⟩ (fun i H' _ ⟨s', _⟩ => s' _ _ hlL) ?_ ?_
  · rintro i x H1 H1' hi ⟨s1, hD⟩ ⟨rfl, k, v, hk, rfl⟩
    obtain ⟨⟨sx, m⟩, hq, eq⟩ : ∃ q, ls[i]? = some q ∧ (Sum.inr q.1, V.int q.2) = (k, v) := by
      unfold lkv at hk
      rw [List.getElem?_map] at hk
      cases e : ls[i]? with
      | none => rw [e] at hk; cases hk
      | some q => rw [e] at hk; exact ⟨q, rfl, Option.some.inj hk⟩
    obtain ⟨rfl, rfl⟩ := Prod.mk.inj eq
    have hkx : (ls.map (·.1))[i]? = some sx := by rw [List.getElem?_map, hq]; rfl
    have ec := take_at hkx
    refine ⟨rfl, ?_⟩
    refine ⟨_, rfl, _, rfl, b, sts fx, rfl, .inl (SqL.of (s1 _ _ hFl)), rfl, flat_sts _, _, rfl, ?_⟩
    rw [show (if false = true then !inV (kV (Sum.inr sx)) (sts fx) else inV (kV (Sum.inr sx)) (sts fx)) = decide (sx ∈ fx) from inV_sts _ _]
    rw [ec, List.filter_append]
    by_cases c : sx ∈ fx
    · rw [decide_eq_true c]
      refine ⟨_, rfl, _, hD, ?_, fun b o e => ?_, ?_⟩
      · rw [sts_len, sizeLine_eq]
        have h1 := List.length_filter_le (fun x => decide (x ∈ fx)) ((ls.map (·.1)).take i)
        rw [List.length_take, List.length_map] at h1
        omega
      · rw [upd_ne (ne_of_none e nD)]; exact s1 _ _ e
      · rw [upd_same, List.filter_cons_of_pos (by simp [c]), List.filter_nil]
        unfold sts
        rw [List.map_append]
        rfl
    · rw [decide_eq_false c]
      refine ⟨s1, ?_⟩
      rw [List.filter_cons_of_neg (by simp [c]), List.filter_nil, List.append_nil]
      exact hD
  · rintro H1' ⟨s1', hD1'⟩
    refine ⟨s1' _ _ hlL, ?_⟩
    have DL : D ≠ a := fun e => by rw [e, hlL] at nD; cases nD
    have nDH : H D = none := by rw [← hlo D DL]; exact nD
    rw [List.take_of_length_le (by rw [List.length_map]; show ls.length ≤ (lkv ls).length; unfold lkv; rw [List.length_map]; exact Nat.le_refl _)] at hD1'
    refine q D _ nDH (fun b o e => ?_) (by rw [upd_ne DL]; exact hD1')
    by_cases hb : b = a
    · subst hb; rw [upd_same, ← e, hL]
    · rw [upd_ne hb]; exact s1' _ _ ((hlo b hb).trans e)

theorem dcK_it {J : It} {n : Nat} {G : Hp → Prop} {Y : Nat → Hp → V → Hp → Prop} (w : Walk J n G Y) {g : TG} {tt : TT} {tk tv : TE} {vs : List Nat} {σ : L2.St} {H1 : Hp} {D : Addr} {Qd : Hp → Prop} (Pv : Nat → Hp → Prop) (h0 : Pv 0 (upd H1 D (.dK []))) (hG : ∀ i H, i ≤ n → Pv i H → G H)
    (hs : ∀ i x H H', i < n → Pv i H → Y i H x H' → g x (wipe σ vs) H' fun σ2 H2 => wipe σ2 vs = wipe σ vs ∧ tt σ2 H2 fun b H3 => if b = true then tk σ2 H3 fun y H4 => tv σ2 H4 fun z H5 => ∃ kvs k, y = kV k ∧ H5 D = some (.dK kvs) ∧ kvs.length < sizeLine ∧ Pv (i + 1) (upd H5 D (.dK (putK kvs k z))) else Pv (i + 1) H3) (hd : ∀ H, Pv n H → Qd H) :
    ∃ Wv : Nat → Nat → Hp → Prop, (∃ m, Wv 0 m (upd H1 D (.dK []))) ∧ ∀ i m H, Wv i m H → (J.stop i H ∧ Qd H) ∨ (J.go i H ∧ ∃ Nx : Hp → Prop, (∀ H', Nx H' → ∃ m', m' < m ∧ Wv (i + 1) m' H') ∧ ∀ x H', J.yld i H x H' → g x (wipe σ vs) H' fun σ2 H2 =>
      wipe σ2 vs = wipe σ vs ∧ tt σ2 H2 fun b H3 => if b = true then tk σ2 H3 fun y H4 => tv σ2 H4 fun z H5 => ∃ kvs k, y = kV k ∧ H5 D = some (.dK kvs) ∧ kvs.length < sizeLine ∧ Nx (upd H5 D (.dK (putK kvs k z))) else Nx H3) := by
  refine ⟨fun i m H => m = n - i ∧ i ≤ n ∧ Pv i H, ⟨n, by simp, Nat.zero_le _, h0⟩, ?_⟩
  rintro i m H ⟨rfl, hi, p⟩
  rcases Nat.lt_or_ge i n with lt | ge
  · exact .inr ⟨w.goes i H lt (hG i H hi p), Pv (i + 1), fun H' p' => ⟨n - (i + 1), by omega, rfl, lt, p'⟩, fun x H' y => hs i x H H' lt p (w.yields i H x H' lt (hG i H hi p) y)⟩
  · obtain rfl : i = n := by omega
    exact .inl ⟨w.stops H (hG i H hi p), hd H p⟩
theorem FactsAt.hidX {H : Hp} {x l C dx : Addr} {u : List (Str × V)} {fs : List Fact} (hx : H x = some (.ins C dx u)) (h : FactsAt H l fs) : FactsAt (hid [x] H) l fs := by
  obtain ⟨ts, h1, h2⟩ := h
  refine ⟨ts, hid_to (ni1 (ne_of h1 hx (fun z => nomatch z))) h1, Paired.mapP h2 fun f t r => ?_⟩
  obtain ⟨v, e, a1, a2, a3⟩ := r.ex
  exact ⟨v, e, hid_to (ni1 (ne_of a1 hx (fun z => nomatch z))) a1, hid_to (ni1 (ne_of a2 hx (fun z => nomatch z))) a2, hid_to (ni1 (ne_of a3 hx (fun z => nomatch z))) a3⟩
/-- the places of rows, from 0 -/
def plK (rows : List (List Str)) : Nat → List (List Key × V)
  | 0 => []
  | i + 1 => putK (plK rows i) ((rows.getD i []).map Sum.inr) (.int (i : Nat))
theorem plK_len (rows : List (List Str)) : ∀ i, (plK rows i).length ≤ i
  | 0 => Nat.le_refl _
  | i + 1 => by
    have := plK_len rows i
    have := length_putK (plK rows i) ((rows.getD i []).map Sum.inr : List Key) (.int (i : Nat))
    rw [plK]
    omega
theorem sts_kV (row : List Str) : sts row = ((row.map Sum.inr : List Key)).map kV := by
  unfold sts
  rw [List.map_map]
  rfl
theorem true_keys (l : List Str) : (trueK l).map (fun kv => kV kv.1) = sts l := by
  unfold trueK sts
  rw [List.map_map]
  rfl
theorem lkv_keys (l : List (Str × Nat)) : (lkv l).map (fun kv => kV kv.1) = sts (l.map (·.1)) := by
  unfold lkv sts
  rw [List.map_map, List.map_map]
  rfl
theorem allPerms_len {ls mv : List Str} (h1 : ls.length ≤ 20) (h2 : mv.length ≤ 20) : (allPerms ls mv).length ≤ 1000 := by
  unfold allPerms
  have := shTo_len mv mv.length
  have := prod_le h2 h2
  simp only [List.length_append, List.length_map, showsOf_len]
  omega
theorem filter_sub {c l : List Str} (h : c.Sublist l) : l.Nodup → l.filter (fun x => decide (x ∈ c)) = c := by
  induction h with
  | slnil => intro _; rfl
  | @cons c l a h ih =>
    intro nd
    have nd' := List.nodup_cons.mp nd
    rw [List.filter_cons_of_neg (by simp; exact fun m => nd'.1 (h.subset m)), ih nd'.2]
  | @cons_cons c l a h ih =>
    intro nd
    have nd' := List.nodup_cons.mp nd
    rw [List.filter_cons_of_pos (by simp)]
    congr 1
    rw [← ih nd'.2]
    refine List.filter_congr fun x hx => ?_
    have hne : x ≠ a := fun e => nd'.1 (e ▸ hx)
    have hmem : (x ∈ (l.filter fun x => decide (x ∈ c))) ↔ x ∈ c := by rw [ih nd'.2]
    simp [hne, hmem]
/-- {x: True for x in letters if x not in fixed} -/
def tMov : TE := fun σ H Q => ∃ (s0 : Option V) (a : Addr) (s3 s4 s5 s6 s7 : Option V) (b : Addr) (ls : List (Str × Nat)) (fx : List Str), σ = [s0, some (.ref a), some (.ref b), s3, s4, s5, s6, s7] ∧ H a = some (.dK (lkv ls)) ∧ H b = some (.lst (sts fx)) ∧ (ls.map (·.1)).Nodup ∧ ls.length ≤ 1000 ∧
  ∀ l H', H l = none → Same H H' → H' l = some (.dK (trueK ((ls.map (·.1)).filter fun x => !decide (x ∈ fx)))) → Q (.ref l) H'
theorem putTrue {l : List Str} {x : Str} (h : x ∉ l) : putK (trueK l) (.inr x : Key) (.bl true) = trueK (l ++ [x]) := by
  rw [putK_new _ (by rw [trueK_in, if_neg h])]
  unfold trueK
  rw [List.map_append]
  rfl
theorem mov_weak {K : PySem.W.Frag} (σ : L2.St) (H : Hp) (Q : VK) (h : tMov σ H Q) : tLockE (tDc (iKeys (tVar 1)) (gName 5) (tTest (tOp (rIn K true) (tVar 5) (tVar 2))) (tVar 5) (tC (.bl true)) [5]) σ H Q := by
  obtain ⟨s0, a, s3, s4, s5, s6, s7, b, ls, fx, rfl, hL, hF, nd, hz, q⟩ := h
  have ab : b ≠ a := ne_of hF hL (by intro z; cases z)
  refine ⟨a, _, hL, trivial, fun od => ?_⟩
  obtain ⟨Hl, hlL, hlo, el⟩ : ∃ Hl, Hl a = some (.frz od (.dK (lkv ls))) ∧ (∀ b, b ≠ a → Hl b = H b) ∧ upd H a (.frz od (.dK (lkv ls))) = Hl := ⟨_, upd_same, fun b hb => upd_ne hb, rfl⟩
  rw [el]
  have hFl := (hlo b ab).trans hF
  refine ⟨_, rfl, a, od, rfl, .inl ⟨_, hlL, fun D nD => dcK_it walk_keys (fun i H' => Same Hl H' ∧ H' D = some (.dK (trueK (((ls.map (·.1)).take i).filter fun x => !decide (x ∈ fx))))) ⟨same_new nD, upd_same⟩ (fun i H' _ ⟨s', _⟩ => s' _ _ hlL) ?_ ?_⟩⟩
  · rintro i x H1 H1' hi ⟨s1, hD⟩ ⟨rfl, k, v, hk, rfl⟩
    obtain ⟨⟨sx, m⟩, hq, eq⟩ : ∃ q, ls[i]? = some q ∧ (Sum.inr q.1, V.int q.2) = (k, v) := by
      unfold lkv at hk
      rw [List.getElem?_map] at hk
      cases e : ls[i]? with
      | none => rw [e] at hk; cases hk
      | some q => rw [e] at hk; exact ⟨q, rfl, Option.some.inj hk⟩
    obtain ⟨rfl, rfl⟩ := Prod.mk.inj eq
    have hkx : (ls.map (·.1))[i]? = some sx := by rw [List.getElem?_map, hq]; rfl
    have ec := take_at hkx
    refine ⟨rfl, ?_⟩
    refine ⟨_, rfl, _, rfl, b, sts fx, rfl, .inl (SqL.of (s1 _ _ hFl)), rfl, flat_sts _, _, rfl, ?_⟩
    rw [show (if true = true then !inV (kV (Sum.inr sx)) (sts fx) else inV (kV (Sum.inr sx)) (sts fx)) = !decide (sx ∈ fx) from congrArg (!·) (inV_sts _ _)]
    rw [ec, List.filter_append]
    by_cases c : sx ∈ fx
    · rw [decide_eq_true c]
      refine ⟨s1, ?_⟩
      rw [List.filter_cons_of_neg (by simp [c]), List.filter_nil, List.append_nil]
      exact hD
    · rw [decide_eq_false c]
      have hn : sx ∉ ((ls.map (·.1)).take i).filter fun x => !decide (x ∈ fx) := fun z => not_in_take nd hkx (List.mem_filter.mp z).1
      refine ⟨_, rfl, _, .inr sx, rfl, hD, ?_, ?_⟩
      · unfold trueK
        rw [List.length_map, sizeLine_eq]
        have h1 := List.length_filter_le (fun x => !decide (x ∈ fx)) ((ls.map (·.1)).take i)
        rw [List.length_take, List.length_map] at h1
        omega
      · refine ⟨fun b o e => ?_, ?_⟩
        · rw [upd_ne (ne_of_none e nD)]; exact s1 _ _ e
        · rw [upd_same, putTrue hn, List.filter_cons_of_pos (by simp [c]), List.filter_nil]
  · rintro H1' ⟨s1', hD1'⟩
    refine ⟨s1' _ _ hlL, ?_⟩
    have DL : D ≠ a := fun e => by rw [e, hlL] at nD; cases nD
    have nDH : H D = none := by rw [← hlo D DL]; exact nD
    rw [List.take_of_length_le (by rw [List.length_map]; show ls.length ≤ (lkv ls).length; unfold lkv; rw [List.length_map]; exact Nat.le_refl _)] at hD1'
    refine q D _ nDH (fun b o e => ?_) (by rw [upd_ne DL]; exact hD1')
    by_cases hb : b = a
    · subst hb; rw [upd_same, ← e, hL]
    · rw [upd_ne hb]; exact s1' _ _ ((hlo b hb).trans e)
end GB
namespace K7
open PySem PySem.Spec L2 GB
abbrev sGI : Stmt := inClass (topS 23) 0
abbrev sMade : Stmt := topS 40
def giN : List Str := ["self", "letters", "fixed", "commuting", "facts", "letter", "place", "row"]
section
variable {P : Program} {w : World} {K : PySem.W.Frag} {mg : Str → Option Value} {base : Heap} {C : Addr}
theorem scGI : FnScope giN ["self", "letters", "fixed", "commuting", "facts"] (defScope sGI) := ⟨rfl, rfl, rfl, by decide +kernel, rfl, by decide +kernel, by decide +kernel⟩
theorem scMade : FnScope ["_law_g"] ["_law_g"] (defScope sMade) := ⟨rfl, rfl, rfl, by decide +kernel, rfl, by decide +kernel, by decide +kernel⟩

end
end K7
set_option Elab.async false
set_option linter.all false
set_option autoImplicit false
set_option maxRecDepth 100000
set_option maxHeartbeats 8000000
namespace GB
open PySem PySem.Spec L2
theorem slTo27 {K : PySem.W.Frag} {H : Hp} {Q : VK} {p : Addr} {xs : List V} (h : SqA K H p xs) (k : Nat) (hk : k ≤ xs.length) (q : ∀ b H', Same H H' → SqA K H' b (xs.take k) → Q (.ref b) H') : rSlAny K (.ref p) none (some (k : Int)) H Q := by
  rcases h with h | h
  · refine .inl ⟨p, xs, rfl, h, fun a na => ?_⟩
    obtain ⟨H1, s1, h1, e1⟩ := lay (o := .lst (cutV xs none (some (k : Int)))) na
    rw [e1]
    exact q a H1 s1 (by rw [← cut_to _ _ hk]; exact .inl (SqL.of h1))
  · refine .inr ⟨p, xs, rfl, h, fun hw => ?_, fun _ a na => ?_⟩
    · have h0 := hw.2
      rw [HT.sIx_nat] at h0
      have e : xs.take k = xs := List.take_of_length_le (by omega)
      exact q p H (Same.refl _) (by rw [e]; exact .inr h)
    · obtain ⟨H1, s1, h1, e1⟩ := lay (o := .tup (cutV xs none (some (k : Int)))) na
      rw [e1]
      exact q a H1 s1 (by rw [← cut_to _ _ hk]; exact .inr (SqT.of h1))
end GB
namespace K7
open PySem PySem.Spec L2 GB
def spCkF2 (K : PySem.W.Frag) : Sp := fun vs H Q _ => ∃ (a b : Addr) (ls : List (Str × Nat)) (fx : List Str), vs = [.ref a, .ref b] ∧ H a = some (.dK (lkv ls)) ∧ (ls.map (·.1)).Nodup ∧ SqA K H b (sts fx) ∧ fx.Nodup ∧ (∀ x ∈ fx, x ∈ ls.map (·.1)) ∧ ∀ H', Same H H' → Q .non H'
def spCkC2 (K : PySem.W.Frag) : Sp := fun vs H Q _ => ∃ (a b c : Addr) (ls : List (Str × Nat)) (fx cm : List Str), vs = [.ref a, .ref b, .ref c] ∧ H a = some (.dK (lkv ls)) ∧ (ls.map (·.1)).Nodup ∧ SqA K H b (sts fx) ∧ SqA K H c (sts cm) ∧ cm.Nodup ∧ (∀ x ∈ cm, x ∈ fx) ∧ (∀ x ∈ cm, (x, 2) ∈ ls) ∧ ∀ H', Same H H' → Q .non H'
def spTE2 (K : PySem.W.Frag) : Sp := fun vs H Q _ => ∃ (e : Addr) (k n : Str), vs = [.ref e] ∧ SqA K H e [.str k, .str n] ∧ (k = "value" ∨ k = "fail") ∧ nameB n = true ∧ ∀ H', Same H H' → Q (.bl true) H'
section
variable {P : Program} {w : World} {K : PySem.W.Frag} {mg : Str → Option Value} {base : Heap}
theorem ok_ckF2 {f : Addr} {fd : FuncData} (F : Fun K "_check_fixed" "_check_fixed" sCkF f fd) (T : Bl mg) (IL : Fns P w K mg base "is_list" 1 ["thing"] (spIsL K)) : FnOk P w K mg base CX0 2 f fd ["letters", "fixed"] (spCkF2 K) := by
  refine F.ok scCkF (fun vs H Q E h => ?_) (fun cdv A outer s H vs Q E hr h => ?_)
  · obtain ⟨a, b, ls, fx, rfl, _⟩ := h
    rfl
  · obtain ⟨a, b, ls, fx, rfl, hL, lnd, hF, fnd, sub, q⟩ := h
    have hu := hu_of hr
    refine ⟨_, pss_cons (ps_if (pt_not (pt_val (pe_fn IL hr (by decide) rfl (pa_cons (pv 1) (pa_nil))))) (pss_one ps_never) (pss_nil)) (pss_one (ps_for PassesOwn.never rfl (pi_enumW rfl T.enum (pa_cons (pv 1) (pa_nil))) (pg_tup rfl (pgs_cons (pg_name (i := 2) scCkF.nd rfl (.inl rfl)) (pgs_cons (pg_name (i := 3) scCkF.nd rfl (.inl rfl)) (pgs_nil)))) (pss_one (ps_if (PW.pt (pw_or (pt_not (pt_val (pe_callB call_isi (by rfl) T.isi (by decide +kernel) (pa_cons (pv 3) (pa_cons (pe_bltn (v := .ty "str") (by rfl) T.str (by decide +kernel) rfl) (pa_nil)))))) (pw_or (pt_cmp (pc_dnotin hu (pv 3) (pv 0))) (pw_or1 (pt_cmpR op_in_seq (pv 3) (pe_slice sl_any (pv 1) po_none (po_some (pv 2))) (by rfl)))))) (pss_one ps_never) (pss_nil))))), ?_⟩
    obtain ⟨ty, ht, hty⟩ := tyS hF
    refine ⟨_, rfl, .ref b, _, true, rfl, hty, kit_seq ht, fun H1 s1 => ⟨_, rfl, ?_⟩⟩
    refine iteF ?_
    obtain ⟨kb, hqv⟩ := sqV ((hF.mono s1).mono (fun b o e => hid_to (ps := []) (by simp) e))
    refine ⟨_, rfl, b, sts fx, kb, [], rfl, hqv, fun J WJ => ?_⟩
    refine for_it WJ (fun i σ H' => ∃ o1 o2, σ = [some (.ref a), some (.ref b), o1, o2] ∧ Same H1 H') ⟨none, none, rfl, Same.refl _⟩ (fun i σ H' _ ⟨o1, o2, _, s'⟩ => hqv.mono (hid_same s')) ?_ ?_
    · rintro i x σ H2 H2' hi ⟨o1, o2, rfl, s2⟩ ⟨Tp, y1, y2, rfl, nT, rfl, e1, e2⟩
      obtain rfl := Option.some.inj e1
      obtain ⟨sx, hsx, rfl⟩ := sts_at e2
      obtain ⟨H3, s3, h3, e3⟩ := lay (o := .tup [.int (i : Nat), .str sx]) nT
      rw [e3]
      have S13 := s2.trans s3
      have S3 := s1.trans S13
      have mfx := List.mem_of_getElem? hsx
      obtain ⟨q1, hq1, eq1⟩ := List.mem_map.mp (sub _ mfx)
      refine ⟨Tp, _, rfl, SqT.of h3, rfl, _, _, rfl, _, _, rfl, rfl, ?_⟩
      refine ⟨_, rfl, .str sx, .ty "str", .type "str", .type "str", true, rfl, .ty "str", .base (.str sx), kit_ty (by decide +kernel), true, rfl, ?_⟩
      refine iteF ?_
      have hv : valV (lkv ls) (.inr sx : Key) = some (.int (q1.2 : Int)) := valV_lkv lnd (by rw [← eq1]; exact hq1)
      refine ⟨_, rfl, _, rfl, a, some (.int (q1.2 : Int)), rfl, (by rw [← hv]; exact DGet.k (k := .inr sx) (S3 _ _ hL)), _, rfl, ?_⟩
      refine iteF ?_
      refine ⟨_, rfl, _, rfl, _, rfl, _, rfl, ?_⟩
      have hil : i < fx.length := (List.getElem?_eq_some_iff.mp hsx).1
      refine slTo27 (hF.mono S3) i (by rw [sts_len]; omega) fun p H4 s4 h4 => ?_
      have h4' : SqA K H4 p (sts (fx.take i)) := by
        have e : (sts fx).take i = sts (fx.take i) := by unfold sts; rw [List.map_take]
        rw [← e]
        exact h4
      refine ⟨p, sts (fx.take i), rfl, h4', rfl, flat_sts _, _, rfl, ?_⟩
      rw [show (if false = true then !inV (.str sx) (sts (fx.take i)) else inV (.str sx) (sts (fx.take i))) = false from (inV_sts _ _).trans (decide_eq_false (not_in_take fnd hsx))]
      refine iteF ?_
      exact ⟨_, _, rfl, S13.trans s4⟩
    · rintro σ H2 ⟨o1, o2, rfl, s2⟩
      exact q _ (s1.trans s2)
theorem ok_ckC2 {f : Addr} {fd : FuncData} (F : Fun K "_check_commuting" "_check_commuting" sCkC f fd) (T : Bl mg) (IL : Fns P w K mg base "is_list" 1 ["thing"] (spIsL K)) : FnOk P w K mg base CX0 2 f fd ["letters", "fixed", "commuting"] (spCkC2 K) := by
  refine F.ok scCkC (fun vs H Q E h => ?_) (fun cdv A outer s H vs Q E hr h => ?_)
  · obtain ⟨a, b, c, ls, fx, cm, rfl, _⟩ := h
    rfl
  · obtain ⟨a, b, c, ls, fx, cm, rfl, hL, lnd, hF, hC, cnd, sub, c2, q⟩ := h
    have hu := hu_of hr
    refine ⟨_, pss_cons (ps_if (pt_not (pt_val (pe_fn IL hr (by decide) rfl (pa_cons (pv 2) (pa_nil))))) (pss_one ps_never) (pss_nil)) (pss_one (ps_for PassesOwn.never rfl (pi_enumW rfl T.enum (pa_cons (pv 2) (pa_nil))) (pg_tup rfl (pgs_cons (pg_name (i := 3) scCkC.nd rfl (.inl rfl)) (pgs_cons (pg_name (i := 4) scCkC.nd rfl (.inl rfl)) (pgs_nil)))) (pss_one (ps_if (PW.pt (pw_or (pt_cmpR op_notIn_seq (pv 4) (pv 1) (by rfl)) (pw_or (pt_cmpR op_ne (pe_dget hu (pv 0) (pv 4) (fun _ _ => rfl)) (pe_int) (nomark _)) (pw_or1 (pt_cmpR op_in_seq (pv 4) (pe_slice sl_any (pv 2) po_none (po_some (pv 3))) (by rfl)))))) (pss_one ps_never) (pss_nil))))), ?_⟩
    obtain ⟨ty, ht, hty⟩ := tyS hC
    refine ⟨_, rfl, .ref c, _, true, rfl, hty, kit_seq ht, fun H1 s1 => ⟨_, rfl, ?_⟩⟩
    refine iteF ?_
    obtain ⟨kb, hqv⟩ := sqV ((hC.mono s1).mono (fun b o e => hid_to (ps := []) (by simp) e))
    refine ⟨_, rfl, c, sts cm, kb, [], rfl, hqv, fun J WJ => ?_⟩
    refine for_it WJ (fun i σ H' => ∃ o1 o2, σ = [some (.ref a), some (.ref b), some (.ref c), o1, o2] ∧ Same H1 H') ⟨none, none, rfl, Same.refl _⟩ (fun i σ H' _ ⟨o1, o2, _, s'⟩ => hqv.mono (hid_same s')) ?_ ?_
    · rintro i x σ H2 H2' hi ⟨o1, o2, rfl, s2⟩ ⟨Tp, y1, y2, rfl, nT, rfl, e1, e2⟩
      obtain rfl := Option.some.inj e1
      obtain ⟨sx, hsx, rfl⟩ := sts_at e2
      obtain ⟨H3, s3, h3, e3⟩ := lay (o := .tup [.int (i : Nat), .str sx]) nT
      rw [e3]
      have S13 := s2.trans s3
      have S3 := s1.trans S13
      have mcm := List.mem_of_getElem? hsx
      refine ⟨Tp, _, rfl, SqT.of h3, rfl, _, _, rfl, _, _, rfl, rfl, ?_⟩
      refine ⟨_, rfl, _, rfl, b, sts fx, rfl, hF.mono S3, rfl, flat_sts _, _, rfl, ?_⟩
      rw [show (if true = true then !inV (.str sx) (sts fx) else inV (.str sx) (sts fx)) = false from by rw [if_pos rfl, inV_sts, decide_eq_true (sub _ mcm)]; rfl]
      refine iteF ?_
      have hv : valV (lkv ls) (.inr sx : Key) = some (.int ((2 : Nat) : Int)) := valV_lkv lnd (c2 _ mcm)
      refine ⟨_, rfl, _, rfl, a, .int ((2 : Nat) : Int), rfl, (by rw [← hv]; exact DGet.k (k := .inr sx) (S3 _ _ hL)), rfl, _, rfl, ?_⟩
      refine iteNS rfl ?_
      refine ⟨_, rfl, _, rfl, _, rfl, _, rfl, ?_⟩
      have hil : i < cm.length := (List.getElem?_eq_some_iff.mp hsx).1
      refine slTo27 (hC.mono S3) i (by rw [sts_len]; omega) fun p H4 s4 h4 => ?_
      have h4' : SqA K H4 p (sts (cm.take i)) := by
        have e : (sts cm).take i = sts (cm.take i) := by unfold sts; rw [List.map_take]
        rw [← e]
        exact h4
      refine ⟨p, sts (cm.take i), rfl, h4', rfl, flat_sts _, _, rfl, ?_⟩
      rw [show (if false = true then !inV (.str sx) (sts (cm.take i)) else inV (.str sx) (sts (cm.take i))) = false from (inV_sts _ _).trans (decide_eq_false (not_in_take cnd hsx))]
      refine iteF ?_
      exact ⟨_, _, rfl, S13.trans s4⟩
    · rintro σ H2 ⟨o1, o2, rfl, s2⟩
      exact q _ (s1.trans s2)
theorem ok_te2 {f : Addr} {fd : FuncData} (F : Fun K "_is_told_end" "_is_told_end" sTE f fd) (T : Bl mg) (IL : Fns P w K mg base "is_list" 1 ["thing"] (spIsL K)) (NM : Fns P w K mg base "is_name" 1 ["thing"] (spIsNm K)) : FnOk P w K mg base CX0 2 f fd ["thing"] (spTE2 K) := by
  refine F.ok scTE (fun vs H Q E h => ?_) (fun cdv A outer s H vs Q E hr h => ?_)
  · obtain ⟨e, k, n, rfl, _⟩ := h
    rfl
  · obtain ⟨e, k, n, rfl, he, hk, hn, q⟩ := h
    refine ⟨_, pss_cons (ps_if (PW.pt (pw_or (pt_not (pt_val (pe_fn IL hr (by decide) rfl (pa_cons (pv 0) (pa_nil))))) (pw_or1 (pt_cmpR op_ne (pe_callB call_len_seq (by rfl) T.len PySem.boot_len (pa_cons (pv 0) (pa_nil))) (pe_int) (nomark _))))) (pss_one (ps_ret pe_bl)) (pss_nil)) (pss_one (ps_ret (pe_and (pe_cmpR op_in_seq (pe_ix ix_seq (pv 0) (pe_int) (fun _ _ => rfl)) (pe_tup (pa_cons (pe_str) (pa_cons (pe_str) (pa_nil)))) (by rfl)) (pe_one (pe_fn NM hr (by decide) rfl (pa_cons (pe_ix ix_seq (pv 0) (pe_int) (fun _ _ => rfl)) (pa_nil))))))), ?_⟩
    obtain ⟨ty, ht, hty⟩ := tyS he
    refine ⟨_, rfl, .ref e, _, true, rfl, hty, kit_seq ht, fun H1 s1 => ⟨_, rfl, ?_⟩⟩
    refine iteF ?_
    refine ⟨_, rfl, e, _, rfl, he.mono s1, rfl, _, rfl, ?_⟩
    refine iteF ?_
    refine ⟨_, rfl, ixA (he.mono s1) 0 rfl ⟨by show 2 ≤ sizeLine; decide, fun t nt => ?_⟩⟩
    obtain ⟨H2, s2, h2, e2⟩ := lay (o := .tup (sts ["value", "fail"])) nt
    rw [show ([V.str "value", V.str "fail"] : List V) = sts ["value", "fail"] from rfl, e2]
    refine ⟨t, sts ["value", "fail"], rfl, .inr (SqT.of h2), rfl, flat_sts _, true, ?_, ?_⟩
    · rw [show (if false = true then !inV (.str k) (sts ["value", "fail"]) else inV (.str k) (sts ["value", "fail"])) = true from (inV_sts _ _).trans (decide_eq_true (by rcases hk with rfl | rfl <;> decide))]
    · refine iteT ?_
      refine ⟨_, rfl, ixA (he.mono (s1.trans s2)) 1 rfl ⟨_, rfl, .inl ⟨n, rfl, len8 hn, fun H3 s3 => ?_⟩⟩⟩
      rw [hn]
      exact q _ ((s1.trans s2).trans s3)
end
end K7
set_option Elab.async false
set_option linter.all false
set_option maxRecDepth 100000
set_option maxHeartbeats 8000000
namespace GB
open PySem PySem.Spec L2
def tAsk2 (K : PySem.W.Frag) : TE := fun σ H Q => ∃ (x : Str) (v c : Addr) (vals cm : List Str), σ[7]? = some (some (.str x)) ∧ σ[2]? = some (some (.ref c)) ∧ σ[8]? = some (some (.ref v)) ∧ SqA K H c (sts cm) ∧ PlA H v (sts vals) ∧ vals.length ≤ 2 ∧ (∀ x ∈ vals, x ∈ va3) ∧
  ∀ kv H6, Same H H6 → H6 kv = some (.tup (sts (if x ∈ cm then sort2 vals else vals))) → Q (.ref kv) H6
theorem ask_weak2 {K : PySem.W.Frag} (σ : L2.St) (H : Hp) (Q : VK) (h : tAsk2 K σ H Q) : tCB (fun xs H_1 Q => ∃ p ys, xs = [V.ref p] ∧ ((SqL K H_1 p ys ∧ ∀ l, H_1 l = none → Q (.ref l) (upd H_1 l (.tup ys))) ∨ (SqT K H_1 p ys ∧ Q (.ref p) H_1)))
    (tCons (tIf (tTest (tOp (rIn K false) (tVar 7) (tVar 2))) (tCB (rSrtA K) (tCons (tVar 8) tNil)) (tVar 8)) tNil) σ H Q := by
  obtain ⟨x, v, c, vals, cm, h7, h2, h8, hc, hv, l2, v3, q⟩ := h
  refine ⟨_, h7, _, h2, c, sts cm, rfl, hc, rfl, flat_sts _, _, rfl, ?_⟩
  rw [show (if false = true then !inV (.str x) (sts cm) else inV (.str x) (sts cm)) = decide (x ∈ cm) from inV_sts _ _]
  by_cases m : x ∈ cm
  · rw [decide_eq_true m]
    refine iteT ?_
    refine ⟨_, h8, srtA hv.sq (by omega) fun ys p hperm hsrt np => ?_⟩
    obtain ⟨H1, s1, h1, e1⟩ := lay (o := .lst (sts ys)) np
    rw [e1]
    refine ⟨p, sts ys, rfl, .inl ⟨SqL.of h1, fun l nl => ?_⟩⟩
    obtain ⟨H2, s2, h2, e2⟩ := lay (o := .tup (sts ys)) nl
    rw [e2]
    exact q l H2 (s1.trans s2) (by rw [if_pos m, ← sort2_of hperm hsrt l2 v3]; exact h2)
  · rw [decide_eq_false m]
    refine iteF ?_
    exact ⟨_, h8, v, sts vals, rfl, tupP hv fun l H' s' h' => q l H' s' (by rw [if_neg m]; exact h')⟩
def tTupV (k : Nat) : TE := fun σ H Q => ∃ (p : Addr) (ys : List V), σ[k]? = some (some (.ref p)) ∧ PlA H p ys ∧ ∀ l H', Same H H' → H' l = some (.tup ys) → Q (.ref l) H'
theorem tupV_weak {K : PySem.W.Frag} (k : Nat) (σ : L2.St) (H : Hp) (Q : VK) (h : tTupV k σ H Q) : tCB (fun xs H_1 Q => ∃ p ys, xs = [V.ref p] ∧ ((SqL K H_1 p ys ∧ ∀ l, H_1 l = none → Q (.ref l) (upd H_1 l (.tup ys))) ∨ (SqT K H_1 p ys ∧ Q (.ref p) H_1)))
    (tCons (tVar k) tNil) σ H Q := by
  obtain ⟨p, ys, hk, hp, q⟩ := h
  exact ⟨_, hk, p, ys, rfl, tupP hp q⟩
end GB
namespace K7
open PySem PySem.Spec L2 GB
def spIsF2 (K : PySem.W.Frag) : Sp := fun vs H Q _ => ∃ (a b t : Addr) (ls : List (Str × Nat)) (fx : List Str) (f : Fact), vs = [.ref a, .ref b, .ref t] ∧ H a = some (.dK (lkv ls)) ∧ (ls.map (·.1)).Nodup ∧ SqA K H b (sts fx) ∧ FactA H f t ∧ f.Ok ls fx ∧ (∀ q ∈ ls, q.2 ≤ 2) ∧ ∀ H', Same H H' → Q (.bl true) H'
def spFT2 (K : PySem.W.Frag) : Sp := fun vs H Q _ => ∃ (a b c d : Addr) (g : GD), vs = [.ref a, .ref b, .ref c, .ref d] ∧ H a = some (.dK (lkv g.letters)) ∧ SqA K H b (sts g.fixed) ∧ SqA K H c (sts g.comm) ∧ (∃ ts : List Addr, SqA K H d (ts.map V.ref) ∧ Paired (FactA H) g.facts ts) ∧ g.Fit ∧
  ∀ l H', H l = none → Same H H' → FactsAt H' l g.facts → Q (.ref l) H'
section
variable {P : Program} {w : World} {K : PySem.W.Frag} {mg : Str → Option Value} {base : Heap}
theorem ok_isF2 {f : Addr} {fd : FuncData} (F : Fun K "_is_fact" "_is_fact" sIsF f fd) (T : Bl mg) (IL : Fns P w K mg base "is_list" 1 ["thing"] (spIsL K)) (NM : Fns P w K mg base "is_name" 1 ["thing"] (spIsNm K)) (TE : Fns P w K mg base "_is_told_end" 2 ["thing"] (spTE2 K)) :
    FnOk P w K mg base CX0 3 f fd ["letters", "fixed", "thing"] (spIsF2 K) := by
  refine F.ok scIsF (fun vs H Q E h => ?_) (fun cdv A outer s H vs Q E hr h => ?_)
  · obtain ⟨a, b, t, ls, fx, fa, rfl, _⟩ := h
    rfl
  · obtain ⟨a, b, t, ls, fx, fa, rfl, hL, lnd, hF, hA, ok, har, q⟩ := h
    have hu := hu_of hr
    refine ⟨_, pss_cons (ps_if (PW.pt (pw_or (pt_not (pt_val (pe_fn IL hr (by decide) rfl (pa_cons (pv 2) (pa_nil))))) (pw_or1 (pt_cmpR op_ne (pe_callB call_len_seq (by rfl) T.len PySem.boot_len (pa_cons (pv 2) (pa_nil))) (pe_int) (nomark _))))) (pss_one (ps_ret pe_bl)) (pss_nil)) (pss_cons (ps_asg (pv 2) (pg_sqA rfl (pgs_cons (pg_name (i := 3) scIsF.nd rfl (.inl rfl)) (pgs_cons (pg_name (i := 4) scIsF.nd rfl (.inl rfl)) (pgs_cons (pg_name (i := 5) scIsF.nd rfl (.inl rfl)) (pgs_nil)))))) (pss_cons (ps_if (PW.pt (pw_or (pt_cmpR op_notIn_seq (pv 3) (pv 1) (by rfl)) (pw_or (pt_not (pt_val (pe_fn IL hr (by decide) rfl (pa_cons (pv 4) (pa_nil))))) (pw_or1 (pt_cmpR op_ne (pe_callB call_len_seq (by rfl) T.len PySem.boot_len (pa_cons (pv 4) (pa_nil))) (pe_dget hu (pv 0) (pv 3) (fun _ _ => rfl)) (nomark _)))))) (pss_one (ps_ret pe_bl)) (pss_nil)) (pss_one (ps_ret (pe_and (pe_callB (cr_all rfl) (by rfl) T.all (by decide +kernel) (pa_cons (pe_lc (own := [("value", 6)]) (g := gName 6) (tt := tYes) rfl scIsF.nd (pi_seqW (pv 4)) (blkOk_by (own := [("value", 6)]) (N := isfN) (sc := defScope sIsF) (by decide +kernel)) (fun _ _ _ _ _ => pg_name (i := 6) scIsF.nd rfl (.inl rfl)) (fun _ _ _ _ _ => pts_nil) (fun _ _ _ _ _ => pe_fn NM hr (by decide) rfl (pa_cons (pv 6) (pa_nil)))) (pa_nil))) (pe_one (pe_fn TE hr (by decide) rfl (pa_cons (pv 5) (pa_nil))))))))), ?_⟩
    obtain ⟨v, e, ht, hv, he⟩ := hA.ex
    obtain ⟨k, hk, hvl⟩ := ok.len
    obtain ⟨ty, hty0, hty⟩ := tyS ht.sq
    refine ⟨_, rfl, .ref t, _, true, rfl, hty, kit_seq hty0, fun H1 s1 => ⟨_, rfl, ?_⟩⟩
    refine iteF ?_
    refine ⟨_, rfl, t, _, rfl, (ht.mono s1).sq, rfl, _, rfl, ?_⟩
    refine iteF ?_
    refine ⟨_, rfl, t, _, rfl, (ht.mono s1).sq, rfl, _, _, rfl, _, _, rfl, _, _, rfl, rfl, ?_⟩
    refine ⟨_, rfl, _, rfl, b, sts fx, rfl, hF.mono s1, rfl, flat_sts _, _, rfl, ?_⟩
    rw [show (if true = true then !inV (.str fa.x) (sts fx) else inV (.str fa.x) (sts fx)) = false from by rw [if_pos rfl, inV_sts, decide_eq_true ok.x]; rfl]
    refine iteF ?_
    obtain ⟨ty2, hty2, hty3⟩ := tyS (hv.mono s1).sq
    refine ⟨_, rfl, .ref v, _, true, rfl, hty3, kit_seq hty2, fun H2 s2 => ⟨_, rfl, ?_⟩⟩
    refine iteF ?_
    have S2 := s1.trans s2
    have hvv : valV (lkv ls) (.inr fa.x : Key) = some (.int (k : Int)) := valV_lkv lnd hk
    refine ⟨_, rfl, v, sts fa.vals, rfl, (hv.mono S2).sq, _, rfl, _, rfl, a, .int (k : Int), rfl, (by rw [← hvv]; exact DGet.k (k := .inr fa.x) (S2 _ _ hL)), rfl, _, rfl, ?_⟩
    rw [show (!decide (V.int ((sts fa.vals).length : Int) = V.int (k : Int))) = false from by rw [sts_len, hvl, decide_eq_true rfl]; rfl]
    refine iteF ?_
    obtain ⟨kb, hqv⟩ := sqV ((hv.mono S2).sq.mono (fun b o e => hid_to (ps := []) (by simp) e))
    refine ⟨_, rfl, v, sts fa.vals, kb, [], rfl, hqv, fun J WJ D nD => ?_⟩
    refine lc_it WJ (fun i H' => Same H2 H' ∧ H' D = some (.lst ((List.replicate i true).map V.bl))) ⟨same_new nD, upd_same⟩ (fun i H' _ ⟨s', _⟩ => hqv.mono (hid_same s')) ?_ ?_
    · rintro i x H3 H3' hi ⟨s3, h3⟩ ⟨rfl, hx⟩
      obtain ⟨sx, hsx, rfl⟩ := sts_at hx
      have nB : nameB sx = true := (show ∀ x ∈ va3, nameB x = true by decide +kernel) _ (ok.vals _ (List.mem_of_getElem? hsx))
      have hil : i < fa.vals.length := (List.getElem?_eq_some_iff.mp hsx).1
      have kl : k ≤ 2 := har _ hk
      refine ⟨rfl, ?_⟩
      refine ⟨_, rfl, _, rfl, .inl ⟨sx, rfl, len8 nB, fun H4 s4 => ?_⟩⟩
      refine ⟨_, s4 _ _ h3, by rw [List.length_map, List.length_replicate, sizeLine_eq]; omega, fun b o e => ?_, ?_⟩
      · rw [upd_ne (ne_of_none e nD)]; exact s4 _ _ (s3 _ _ e)
      · rw [upd_same, nB, List.replicate_succ', List.map_append]; rfl
    · rintro H3 ⟨s3, h3⟩
      refine ⟨D, _, rfl, SqL.of h3, true, ?_, ?_⟩
      · rw [List.all_replicate]; simp
      · refine iteT ?_
        exact ⟨_, rfl, e, fa.kind, fa.en, rfl, (he.mono (S2.trans s3)).sq, ok.kind, by rcases ok.en with h | h <;> rw [h] <;> decide +kernel, fun H4 s4 => q _ ((S2.trans s3).trans s4)⟩
theorem ok_ft2 {f : Addr} {fd : FuncData} (F : Fun K "_facts_as_told" "_facts_as_told" sFT f fd) (T : Bl mg) (IL : Fns P w K mg base "is_list" 1 ["thing"] (spIsL K)) (ISF : Fns P w K mg base "_is_fact" 3 ["letters", "fixed", "thing"] (spIsF2 K)) :
    FnOk P w K mg base CX0 4 f fd ["letters", "fixed", "commuting", "facts"] (spFT2 K) := by
  refine F.ok scFT (fun vs H Q E h => ?_) (fun cdv A outer s H vs Q E hr h => ?_)
  · obtain ⟨a, b, c, d, g, rfl, _⟩ := h
    rfl
  · obtain ⟨a, b, c, d, g, rfl, hL, hF, hC, ⟨ts, hd, hts⟩, wf, q⟩ := h
    have hu9 : (A.deeper (PyProof.Rows.envOfC "_facts_as_told" (defScope sFT) s.heap.objs.size f cdv)).units + 9 < cLine := by have := hr.un; omega
    refine ⟨_, pss_cons (ps_if (pt_not (pt_val (pe_fn IL hr (by decide) rfl (pa_cons (pv 3) (pa_nil))))) (pss_one ps_never) (pss_nil)) (pss_cons (ps_set (i := 4) scFT.nd rfl (.inl rfl) (pe_dnewN)) (pss_cons (ps_for PassesOwn.never rfl (pi_enumW rfl T.enum (pa_cons (pv 3) (pa_nil))) (pg_tup rfl (pgs_cons (pg_name (i := 5) scFT.nd rfl (.inl rfl)) (pgs_cons (pg_name (i := 6) scFT.nd rfl (.inl rfl)) (pgs_nil)))) (pss_cons (ps_if (pt_not (pt_val (pe_fn ISF hr (by decide) rfl (pa_cons (pv 0) (pa_cons (pv 1) (pa_cons (pv 6) (pa_nil))))))) (pss_one ps_never) (pss_nil)) (pss_cons (ps_asg (pv 6) (pg_sqA rfl (pgs_cons (pg_name (i := 7) scFT.nd rfl (.inl rfl)) (pgs_cons (pg_name (i := 8) scFT.nd rfl (.inl rfl)) (pgs_cons (pg_name (i := 9) scFT.nd rfl (.inl rfl)) (pgs_nil)))))) (pss_cons (ps_set (i := 10) scFT.nd rfl (.inl rfl) (pe_tup (pa_cons (pv 7) (pa_cons (pe_weak (t' := tAsk2 K) (pe_callTy (call_tuple_of) (by rfl) T.tuple (by decide +kernel) (pa_cons (pe_ifExp (pt_cmpR op_in_seq (pv 7) (pv 2) (by rfl)) (pe_callB (cr_srtA) (by rfl) T.sorted (by decide +kernel) (pa_cons (pv 8) (pa_nil))) (pv 8)) (pa_nil))) ask_weak2) (pa_nil))))) (pss_cons (ps_if (pt_cmpR (op_inN hu9) (pv 10) (pv 4) (by rfl)) (pss_one ps_never) (pss_nil)) (pss_one (ps_asg (pe_tup (pa_cons (pv 7) (pa_cons (pe_weak (t' := tTupV 8) (pe_callTy (call_tuple_of) (by rfl) T.tuple (by decide +kernel) (pa_cons (pv 8) (pa_nil))) (tupV_weak 8)) (pa_cons (pe_weak (t' := tTupV 9) (pe_callTy (call_tuple_of) (by rfl) T.tuple (by decide +kernel) (pa_cons (pv 9) (pa_nil))) (tupV_weak 9)) (pa_nil))))) (pg_sub (pv 4) (pv 10) (set_dictN hu9))))))))) (pss_one (ps_ret (pe_callTy ((call_listVN rfl)) (by rfl) T.list (by decide +kernel) (pa_cons (pe_valsN (pv 4)) (pa_nil))))))), ?_⟩
    obtain ⟨ty, hty0, hty⟩ := tyS (K := K) hd
    refine ⟨_, rfl, .ref d, _, true, rfl, hty, kit_seq hty0, fun H1 s1 => ⟨_, rfl, ?_⟩⟩
    refine iteF ?_
    intro D nD
    obtain ⟨H2, s2, h2, e2⟩ := lay (o := ndO P w D []) nD
    have e2' : upd H1 D (ndO (cxOf CX0 P w K mg base ftN "_facts_as_told" (defScope sFT) f cdv A outer s H E).nox.prog (cxOf CX0 P w K mg base ftN "_facts_as_told" (defScope sFT) f cdv A outer s H E).nox.w D []) = H2 := e2
    rw [e2']
    have nDH : H D = none := s1.free nD
    have S2 : Same H (hid [D] H2) := same_hid_new nDH (s1.trans s2)
    have ltd : ts.length = g.facts.length := (Paired.length hts).symm
    obtain ⟨kb, hkv⟩ : ∃ kb, ∀ H', Same H H' → SqV K H' d (ts.map V.ref) kb := hd.elim (fun h => ⟨true, fun H' s => Same.seq s h⟩) (fun h => ⟨false, fun H' s => Same.seqT s h⟩)
    refine ⟨_, rfl, d, ts.map V.ref, kb, [D], rfl, hkv _ S2, fun J WJ => ?_⟩
    refine for_it WJ (fun i σ H' => ∃ (o5 o6 o7 o8 o9 o10 : Option V) (xs : NX) (bs : List Addr), σ = [some (.ref a), some (.ref b), some (.ref c), some (.ref d), some (.ref D), o5, o6, o7, o8, o9, o10] ∧ Same H (hid [D] H') ∧ H' D = some (ndO P w D xs) ∧ NdKeys (hid [D] H') xs ∧
      xs.map (·.1) = (g.facts.take i).map (fun f => nkO (g.asked f)) ∧ xs.map (fun x => x.2.2) = bs.map Value.ref ∧ Paired (FactAt (hid [D] H')) (g.facts.take i) bs) ⟨none, none, none, none, none, none, [], [], rfl, S2, h2, (fun e he => nomatch he), rfl, rfl, .nil⟩ (fun i σ H' _ ⟨_, _, _, _, _, _, _, _, _, S, _⟩ => hkv _ S) ?_ ?_
    · rintro i x σ H3 H3' hi ⟨o5, o6, o7, o8, o9, o10, xs, bs, rfl, S3, h3, k3, e31, e32, p3⟩ ⟨Tp, y1, y2, rfl, nT, rfl, e1, ey⟩
      obtain rfl := Option.some.inj e1
      obtain ⟨t, htt, rfl⟩ : ∃ t, ts[i]? = some t ∧ y2 = V.ref t := by
        have ey : (ts.map V.ref)[i]? = some y2 := ey
        rw [List.getElem?_map] at ey
        cases e : ts[i]? with
        | none => rw [e] at ey; cases ey
        | some y => rw [e] at ey; exact ⟨y, rfl, (Option.some.inj ey).symm⟩
      have hig : i < g.facts.length := by rw [← ltd]; exact (List.getElem?_eq_some_iff.mp htt).1
      have hfi : g.facts[i]? = some g.facts[i] := List.getElem?_eq_getElem hig
      generalize hfa : g.facts[i] = fa at hfi
      have fmem := List.mem_of_getElem? hfi
      obtain ⟨t', ht', hA⟩ : ∃ t', ts[i]? = some t' ∧ FactA H fa t' := paired_at' hts hfi
      obtain rfl : t' = t := by rw [htt] at ht'; exact (Option.some.inj ht').symm
      have ok := wf.fa _ fmem
      obtain ⟨H4, s4, h4, e4⟩ := lay (o := .tup [.int (i : Nat), .ref t']) nT
      rw [e4]
      have S4 : Same H (hid [D] H4) := S3.trans (hid_same s4)
      have S40 : Same H H4 := S4.trans (hid_low _ _)
      refine ⟨Tp, _, rfl, SqT.of h4, rfl, _, _, rfl, _, _, rfl, rfl, ?_⟩
      refine ⟨_, rfl, _, rfl, _, rfl, a, b, t', g.letters, g.fixed, fa, rfl, S40 _ _ hL, wf.nd, hF.mono S40, hA.mono S40, ok, wf.ar, fun H5 s5 => ⟨_, rfl, ?_⟩⟩
      refine iteF ?_
      have S5 : Same H (hid [D] H5) := S4.trans (hid_same s5)
      have S50 : Same H H5 := S5.trans (hid_low _ _)
      obtain ⟨v, e, ht0, hv0, he0⟩ := (hA.mono S50).ex
      refine ⟨_, rfl, t', _, rfl, ht0.sq, rfl, _, _, rfl, _, _, rfl, _, _, rfl, rfl, ?_⟩
      have h5D : H5 D = some (ndO P w D xs) := s5 _ _ (s4 _ _ h3)
      have len2 : fa.vals.length ≤ 2 := by
        obtain ⟨k, hk, e⟩ := ok.len
        have h2 : k ≤ 2 := wf.ar _ hk
        omega
      have hask : g.asked fa = (fa.x, if fa.x ∈ g.comm then sort2 fa.vals else fa.vals) := rfl
      refine ⟨_, rfl, fa.x, v, c, fa.vals, g.comm, rfl, rfl, rfl, hC.mono S50, hv0, len2, ok.vals, fun kv H6 s6 hkv => ?_⟩
      refine ⟨by show 2 ≤ sizeLine; decide, fun ka nka => ?_⟩
      obtain ⟨H7, s7, h7, e7⟩ := lay (o := .tup [.str fa.x, .ref kv]) nka
      rw [e7]
      have S57 : Same H5 H7 := s6.trans s7
      have h7D := S57 _ _ h5D
      have nD7 : ∀ {q : Addr} {o : List V}, H7 q = some (.tup o) → hid [D] H7 q = some (.tup o) := fun h => hid_to (ni1 (ne_of h h7D (fun z => nomatch z))) h
      have k7 : NdKeys (hid [D] H7) xs := k3.mono (hid_same ((s4.trans s5).trans S57))
      have nk7 : NkV (hid [D] H7) (nkO (g.asked fa)) (.ref ka) := by
        rw [hask]
        exact .tup (nD7 h7) (.cons (.text _) (.cons (.tup (nD7 (s7 _ _ hkv)) (nk_txk _)) .nil))
      have nokey : nkO (g.asked fa) ∉ xs.map (·.1) := by
        rw [e31]
        intro m
        obtain ⟨fb, hfb, eb⟩ := List.mem_map.mp m
        have eq := nkO_inj eb
        exact not_in_take_map wf.fd hfi hfb eq
      have hnone := atKey_none nokey
      refine ⟨_, rfl, _, rfl, ka, D, nkO (g.asked fa), xs, rfl, rfl, h7D, k7.mono (hid_low _ _), NkV.mono (hid_low _ _) _ _ nk7, nkO_depth _, _, rfl, ?_⟩
      rw [hnone]
      refine iteF ?_
      have hv7 := hv0.mono S57
      have he7 := he0.mono S57
      refine ⟨_, rfl, v, sts fa.vals, rfl, hv7, fun v2 Hv sv hv2 => ?_⟩
      refine ⟨e, _, rfl, he7.mono sv, fun e2 He se he2 => ?_⟩
      refine ⟨by show 3 ≤ sizeLine; decide, fun b nb => ?_⟩
      obtain ⟨H8, s80, h8, e8⟩ := lay (o := .tup [.str fa.x, .ref v2, .ref e2]) nb
      rw [e8]
      have s8 : Same H7 H8 := (sv.trans se).trans s80
      have h8D := s8 _ _ h7D
      have lxs : xs.length ≤ 6 := by
        have := congrArg List.length e31
        rw [List.length_map, List.length_map, List.length_take] at this
        have := wf.fl
        omega
      have k8 := k7.mono (hid_same s8)
      have nk8 := NkV.mono (hid_same s8) _ _ nk7
      refine ⟨_, rfl, _, rfl, D, ka, b, nkO (g.asked fa), xs, rfl, rfl, rfl, h8D, k8.mono (hid_low _ _), NkV.mono (hid_low _ _) _ _ nk8, nkO_depth _, by omega, ?_⟩
      rw [storedH_new hnone]
      have B8 : Bt [D] H8 (upd H8 D (ndO P w D (xs ++ [(nkO (g.asked fa), ka, Value.ref b)]))) := bt_upd (by simp)
      have S58 : Same (hid [D] H5) (hid [D] (upd H8 D (ndO P w D (xs ++ [(nkO (g.asked fa), ka, Value.ref b)])))) := (hid_same (S57.trans s8)).trans B8
      have bD : b ∉ [D] := ni1 (ne_of_none ((sv.trans se) _ _ h7D) nb).symm
      have hv8 := s80 _ _ (se _ _ hv2)
      have he8 := s80 _ _ he2
      have vD : v2 ∉ [D] := ni1 (ne_of hv8 h8D (fun z => nomatch z))
      have eD : e2 ∉ [D] := ni1 (ne_of he8 h8D (fun z => nomatch z))
      refine ⟨_, _, _, _, _, _, xs ++ [(nkO (g.asked fa), ka, Value.ref b)], bs ++ [b], rfl, S5.trans S58, upd_same, ?_, ?_, ?_, ?_⟩
      · intro en hen
        rcases List.mem_append.mp hen with h | h
        · exact (k8.mono B8) en h
        · rw [List.mem_singleton.mp h]
          exact ⟨NkV.mono B8 _ _ nk8, nkO_depth _⟩
      · rw [take_at hfi, List.map_append, List.map_append, e31]; rfl
      · rw [List.map_append, List.map_append, e32]; rfl
      · rw [take_at hfi]
        exact paired_app (Paired.mapP p3 fun _ _ r => r.mono ((hid_same (s4.trans s5)).trans S58)) (.cons ⟨v2, e2, B8 _ _ (hid_to bD h8), B8 _ _ (hid_to vD hv8), B8 _ _ (hid_to eD he8)⟩ .nil)
    · rintro σ H3 ⟨o5, o6, o7, o8, o9, o10, xs, bs, rfl, S3, h3, k3, e31, e32, p3⟩
      have lbs : bs.length = g.facts.length := by rw [← Paired.length p3, List.length_take]; rw [List.length_map, ltd]; omega
      refine ⟨_, rfl, D, xs, rfl, h3, fun vw nvw => ?_⟩
      obtain ⟨H4, s4, h4, e4⟩ := lay (o := valsO vw D) nvw
      rw [e4]
      refine ⟨vw, D, xs, bs, rfl, h4, s4 _ _ h3, e32, by rw [lbs]; have := wf.fl; omega, fun l nl => ?_⟩
      obtain ⟨H5, s5, h5, e5⟩ := lay (o := .lst (bs.map V.ref)) nl
      rw [e5]
      have S5 : Same H H5 := (S3.trans (hid_low _ _)).trans (s4.trans s5)
      rw [List.take_of_length_le (by rw [List.length_map, ltd]; exact Nat.le_refl _)] at p3
      exact q l H5 (((S3.trans (hid_low _ _)).trans s4).free nl) S5 ⟨bs, h5, Paired.mapP p3 fun _ _ r => r.mono ((hid_low _ _).trans (s4.trans s5))⟩
end
end K7
set_option Elab.async false
set_option linter.all false
set_option maxRecDepth 100000
set_option maxHeartbeats 8000000
namespace GB
open PySem PySem.Spec L2
theorem sqA_off {K : PySem.W.Frag} {H : Hp} {a b : Addr} {xs : List V} (h1 : ∀ ys, H a ≠ some (.lst ys)) (h2 : ∀ ys, H a ≠ some (.tup ys)) (h3 : ∀ o ys, H a ≠ some (.frz o (.lst ys))) (h4 : ∀ o ys, H a ≠ some (.frz o (.tup ys))) (h : SqA K H b xs) : SqA K (hid [a] H) b xs := by
  rcases h with ((h | ⟨o, h⟩) | h) | ((h | ⟨o, h⟩) | h)
  · exact .inl (.inl (.inl (hid_to (fun m => h1 xs (by rw [← List.mem_singleton.mp m]; exact h)) h)))
  · exact .inl (.inl (.inr ⟨o, hid_to (fun m => h3 o xs (by rw [← List.mem_singleton.mp m]; exact h)) h⟩))
  · exact .inl (.inr h)
  · exact .inr (.inl (.inl (hid_to (fun m => h2 xs (by rw [← List.mem_singleton.mp m]; exact h)) h)))
  · exact .inr (.inl (.inr ⟨o, hid_to (fun m => h4 o xs (by rw [← List.mem_singleton.mp m]; exact h)) h⟩))
  · exact .inr (.inr h)
/-- [x for x in letters if x in fixed] -/
def tSel2 (K : PySem.W.Frag) (j : Nat) : TE := fun σ H Q => ∃ (s0 : Option V) (a : Addr) (s2 s3 s4 s5 s6 s7 : Option V) (b : Addr) (ls : List (Str × Nat)) (fx : List Str), σ = [s0, some (.ref a), s2, s3, s4, s5, s6, s7] ∧ ((j = 2 ∧ s2 = some (.ref b)) ∨ (j = 3 ∧ s3 = some (.ref b))) ∧ H a = some (.dK (lkv ls)) ∧ SqA K H b (sts fx) ∧ ls.length ≤ 1000 ∧
  ∀ l H', H l = none → Same H H' → H' l = some (.lst (sts ((ls.map (·.1)).filter fun x => decide (x ∈ fx)))) → Q (.ref l) H'

theorem sel_weakA {K : PySem.W.Frag} (σ : L2.St) (H : Hp) (Q : VK) (h : tSel2 K 2 σ H Q) : tLockE (tLc (iKeys (tVar 1)) (gName 5) (tTest (tOp (rIn K false) (tVar 5) (tVar 2))) (tVar 5) [5]) σ H Q := by
  obtain ⟨s0, a, s2, s3, s4, s5, s6, s7, b, ls, fx, rfl, hj, hL, hF, hz, q⟩ := h
  obtain rfl : s2 = some (.ref b) := by
    rcases hj with h | h
    · first | exact h.2 | exact absurd h.1 (by decide)
    · first | exact h.2 | exact absurd h.1 (by decide)
  refine ⟨a, _, hL, trivial, fun od => ?_⟩
  obtain ⟨Hl, hlL, hlo, el⟩ : ∃ Hl, Hl a = some (.frz od (.dK (lkv ls))) ∧ (∀ b, b ≠ a → Hl b = H b) ∧ upd H a (.frz od (.dK (lkv ls))) = Hl := ⟨_, upd_same, fun b hb => upd_ne hb, rfl⟩
  rw [el]
  have hFl : SqA K Hl b (sts fx) := (sqA_off (fun ys z => by rw [hL] at z; cases z) (fun ys z => by rw [hL] at z; cases z) (fun o ys z => by rw [hL] at z; cases z) (fun o ys z => by rw [hL] at z; cases z) hF).mono (fun b' o e => by obtain ⟨e1, m⟩ := hid_in e; rw [hlo b' (fun z => m (by simp [z]))]; exact e1)
  refine ⟨_, rfl, a, od, rfl, .inl ⟨_, hlL, fun D nD => ?_⟩⟩
  refine lc_it walk_keys (fun i H' => Same Hl H' ∧ H' D = some (.lst (sts (((ls.map (·.1)).take i).filter fun x => decide (x ∈ fx))))) ⟨same_new nD, upd_same⟩ (fun i H' _ ⟨s', _⟩ => s' _ _ hlL) ?_ ?_
  · rintro i x H1 H1' hi ⟨s1, hD⟩ ⟨rfl, k, v, hk, rfl⟩
    obtain ⟨⟨sx, m⟩, hq, eq⟩ : ∃ q, ls[i]? = some q ∧ (Sum.inr q.1, V.int q.2) = (k, v) := by
      unfold lkv at hk
      rw [List.getElem?_map] at hk
      cases e : ls[i]? with
      | none => rw [e] at hk; cases hk
      | some q => rw [e] at hk; exact ⟨q, rfl, Option.some.inj hk⟩
    obtain ⟨rfl, rfl⟩ := Prod.mk.inj eq
    have hkx : (ls.map (·.1))[i]? = some sx := by rw [List.getElem?_map, hq]; rfl
    have ec := take_at hkx
    refine ⟨rfl, ?_⟩
    refine ⟨_, rfl, _, rfl, b, sts fx, rfl, hFl.mono s1, rfl, flat_sts _, _, rfl, ?_⟩
    rw [show (if false = true then !inV (kV (Sum.inr sx)) (sts fx) else inV (kV (Sum.inr sx)) (sts fx)) = decide (sx ∈ fx) from inV_sts _ _]
    rw [ec, List.filter_append]
    by_cases c : sx ∈ fx
    · rw [decide_eq_true c]
      refine ⟨_, rfl, _, hD, ?_, fun b o e => ?_, ?_⟩
      · rw [sts_len, sizeLine_eq]
        have h1 := List.length_filter_le (fun x => decide (x ∈ fx)) ((ls.map (·.1)).take i)
        rw [List.length_take, List.length_map] at h1
        omega
      · rw [upd_ne (ne_of_none e nD)]; exact s1 _ _ e
      · rw [upd_same, List.filter_cons_of_pos (by simp [c]), List.filter_nil]
        unfold sts
        rw [List.map_append]
        rfl
    · rw [decide_eq_false c]
      refine ⟨s1, ?_⟩
      rw [List.filter_cons_of_neg (by simp [c]), List.filter_nil, List.append_nil]
      exact hD
  · rintro H1' ⟨s1', hD1'⟩
    refine ⟨s1' _ _ hlL, ?_⟩
    have DL : D ≠ a := fun e => by rw [e, hlL] at nD; cases nD
    have nDH : H D = none := by rw [← hlo D DL]; exact nD
    rw [List.take_of_length_le (by rw [List.length_map]; show ls.length ≤ (lkv ls).length; unfold lkv; rw [List.length_map]; exact Nat.le_refl _)] at hD1'
    refine q D _ nDH (fun b o e => ?_) (by rw [upd_ne DL]; exact hD1')
    by_cases hb : b = a
    · subst hb; rw [upd_same, ← e, hL]
    · rw [upd_ne hb]; exact s1' _ _ ((hlo b hb).trans e)

theorem sel_weakB {K : PySem.W.Frag} (σ : L2.St) (H : Hp) (Q : VK) (h : tSel2 K 3 σ H Q) : tLockE (tLc (iKeys (tVar 1)) (gName 5) (tTest (tOp (rIn K false) (tVar 5) (tVar 3))) (tVar 5) [5]) σ H Q := by
  obtain ⟨s0, a, s2, s3, s4, s5, s6, s7, b, ls, fx, rfl, hj, hL, hF, hz, q⟩ := h
  obtain rfl : s3 = some (.ref b) := by
    rcases hj with h | h
    · first | exact h.2 | exact absurd h.1 (by decide)
    · first | exact h.2 | exact absurd h.1 (by decide)
  refine ⟨a, _, hL, trivial, fun od => ?_⟩
  obtain ⟨Hl, hlL, hlo, el⟩ : ∃ Hl, Hl a = some (.frz od (.dK (lkv ls))) ∧ (∀ b, b ≠ a → Hl b = H b) ∧ upd H a (.frz od (.dK (lkv ls))) = Hl := ⟨_, upd_same, fun b hb => upd_ne hb, rfl⟩
  rw [el]
  have hFl : SqA K Hl b (sts fx) := (sqA_off (fun ys z => by rw [hL] at z; cases z) (fun ys z => by rw [hL] at z; cases z) (fun o ys z => by rw [hL] at z; cases z) (fun o ys z => by rw [hL] at z; cases z) hF).mono (fun b' o e => by obtain ⟨e1, m⟩ := hid_in e; rw [hlo b' (fun z => m (by simp [z]))]; exact e1)
  refine ⟨_, rfl, a, od, rfl, .inl ⟨_, hlL, fun D nD => ?_⟩⟩
  refine lc_it walk_keys (fun i H' => Same Hl H' ∧ H' D = some (.lst (sts (((ls.map (·.1)).take i).filter fun x => decide (x ∈ fx))))) ⟨same_new nD, upd_same⟩ (fun i H' _ ⟨s', _⟩ => s' _ _ hlL) ?_ ?_
  · rintro i x H1 H1' hi ⟨s1, hD⟩ ⟨rfl, k, v, hk, rfl⟩
    obtain ⟨⟨sx, m⟩, hq, eq⟩ : ∃ q, ls[i]? = some q ∧ (Sum.inr q.1, V.int q.2) = (k, v) := by
      unfold lkv at hk
      rw [List.getElem?_map] at hk
      cases e : ls[i]? with
      | none => rw [e] at hk; cases hk
      | some q => rw [e] at hk; exact ⟨q, rfl, Option.some.inj hk⟩
    obtain ⟨rfl, rfl⟩ := Prod.mk.inj eq
    have hkx : (ls.map (·.1))[i]? = some sx := by rw [List.getElem?_map, hq]; rfl
    have ec := take_at hkx
    refine ⟨rfl, ?_⟩
    refine ⟨_, rfl, _, rfl, b, sts fx, rfl, hFl.mono s1, rfl, flat_sts _, _, rfl, ?_⟩
    rw [show (if false = true then !inV (kV (Sum.inr sx)) (sts fx) else inV (kV (Sum.inr sx)) (sts fx)) = decide (sx ∈ fx) from inV_sts _ _]
    rw [ec, List.filter_append]
    by_cases c : sx ∈ fx
    · rw [decide_eq_true c]
      refine ⟨_, rfl, _, hD, ?_, fun b o e => ?_, ?_⟩
      · rw [sts_len, sizeLine_eq]
        have h1 := List.length_filter_le (fun x => decide (x ∈ fx)) ((ls.map (·.1)).take i)
        rw [List.length_take, List.length_map] at h1
        omega
      · rw [upd_ne (ne_of_none e nD)]; exact s1 _ _ e
      · rw [upd_same, List.filter_cons_of_pos (by simp [c]), List.filter_nil]
        unfold sts
        rw [List.map_append]
        rfl
    · rw [decide_eq_false c]
      refine ⟨s1, ?_⟩
      rw [List.filter_cons_of_neg (by simp [c]), List.filter_nil, List.append_nil]
      exact hD
  · rintro H1' ⟨s1', hD1'⟩
    refine ⟨s1' _ _ hlL, ?_⟩
    have DL : D ≠ a := fun e => by rw [e, hlL] at nD; cases nD
    have nDH : H D = none := by rw [← hlo D DL]; exact nD
    rw [List.take_of_length_le (by rw [List.length_map]; show ls.length ≤ (lkv ls).length; unfold lkv; rw [List.length_map]; exact Nat.le_refl _)] at hD1'
    refine q D _ nDH (fun b o e => ?_) (by rw [upd_ne DL]; exact hD1')
    by_cases hb : b = a
    · subst hb; rw [upd_same, ← e, hL]
    · rw [upd_ne hb]; exact s1' _ _ ((hlo b hb).trans e)

def tMov2 (K : PySem.W.Frag) : TE := fun σ H Q => ∃ (s0 : Option V) (a : Addr) (s3 s4 s5 s6 s7 : Option V) (b : Addr) (ls : List (Str × Nat)) (fx : List Str), σ = [s0, some (.ref a), some (.ref b), s3, s4, s5, s6, s7] ∧ H a = some (.dK (lkv ls)) ∧ SqA K H b (sts fx) ∧ (ls.map (·.1)).Nodup ∧ ls.length ≤ 1000 ∧
  ∀ l H', H l = none → Same H H' → H' l = some (.dK (trueK ((ls.map (·.1)).filter fun x => !decide (x ∈ fx)))) → Q (.ref l) H'
theorem mov_weakA {K : PySem.W.Frag} (σ : L2.St) (H : Hp) (Q : VK) (h : tMov2 K σ H Q) : tLockE (tDc (iKeys (tVar 1)) (gName 5) (tTest (tOp (rIn K true) (tVar 5) (tVar 2))) (tVar 5) (tC (.bl true)) [5]) σ H Q := by
  obtain ⟨s0, a, s3, s4, s5, s6, s7, b, ls, fx, rfl, hL, hF, nd, hz, q⟩ := h
  refine ⟨a, _, hL, trivial, fun od => ?_⟩
  obtain ⟨Hl, hlL, hlo, el⟩ : ∃ Hl, Hl a = some (.frz od (.dK (lkv ls))) ∧ (∀ b, b ≠ a → Hl b = H b) ∧ upd H a (.frz od (.dK (lkv ls))) = Hl := ⟨_, upd_same, fun b hb => upd_ne hb, rfl⟩
  rw [el]
  have hFl : SqA K Hl b (sts fx) := (sqA_off (fun ys z => by rw [hL] at z; cases z) (fun ys z => by rw [hL] at z; cases z) (fun o ys z => by rw [hL] at z; cases z) (fun o ys z => by rw [hL] at z; cases z) hF).mono (fun b' o e => by obtain ⟨e1, m⟩ := hid_in e; rw [hlo b' (fun z => m (by simp [z]))]; exact e1)
  refine ⟨_, rfl, a, od, rfl, .inl ⟨_, hlL, fun D nD => dcK_it walk_keys (fun i H' => Same Hl H' ∧ H' D = some (.dK (trueK (((ls.map (·.1)).take i).filter fun x => !decide (x ∈ fx))))) ⟨same_new nD, upd_same⟩ (fun i H' _ ⟨s', _⟩ => s' _ _ hlL) ?_ ?_⟩⟩
  · rintro i x H1 H1' hi ⟨s1, hD⟩ ⟨rfl, k, v, hk, rfl⟩
    obtain ⟨⟨sx, m⟩, hq, eq⟩ : ∃ q, ls[i]? = some q ∧ (Sum.inr q.1, V.int q.2) = (k, v) := by
      unfold lkv at hk
      rw [List.getElem?_map] at hk
      cases e : ls[i]? with
      | none => rw [e] at hk; cases hk
      | some q => rw [e] at hk; exact ⟨q, rfl, Option.some.inj hk⟩
    obtain ⟨rfl, rfl⟩ := Prod.mk.inj eq
    have hkx : (ls.map (·.1))[i]? = some sx := by rw [List.getElem?_map, hq]; rfl
    have ec := take_at hkx
    refine ⟨rfl, ?_⟩
    refine ⟨_, rfl, _, rfl, b, sts fx, rfl, hFl.mono s1, rfl, flat_sts _, _, rfl, ?_⟩
    rw [show (if true = true then !inV (kV (Sum.inr sx)) (sts fx) else inV (kV (Sum.inr sx)) (sts fx)) = !decide (sx ∈ fx) from congrArg (!·) (inV_sts _ _)]
    rw [ec, List.filter_append]
    by_cases c : sx ∈ fx
    · rw [decide_eq_true c]
      refine ⟨s1, ?_⟩
      rw [List.filter_cons_of_neg (by simp [c]), List.filter_nil, List.append_nil]
      exact hD
    · rw [decide_eq_false c]
      have hn : sx ∉ ((ls.map (·.1)).take i).filter fun x => !decide (x ∈ fx) := fun z => not_in_take nd hkx (List.mem_filter.mp z).1
      refine ⟨_, rfl, _, .inr sx, rfl, hD, ?_, ?_⟩
      · unfold trueK
        rw [List.length_map, sizeLine_eq]
        have h1 := List.length_filter_le (fun x => !decide (x ∈ fx)) ((ls.map (·.1)).take i)
        rw [List.length_take, List.length_map] at h1
        omega
      · refine ⟨fun b o e => ?_, ?_⟩
        · rw [upd_ne (ne_of_none e nD)]; exact s1 _ _ e
        · rw [upd_same, putTrue hn, List.filter_cons_of_pos (by simp [c]), List.filter_nil]
  · rintro H1' ⟨s1', hD1'⟩
    refine ⟨s1' _ _ hlL, ?_⟩
    have DL : D ≠ a := fun e => by rw [e, hlL] at nD; cases nD
    have nDH : H D = none := by rw [← hlo D DL]; exact nD
    rw [List.take_of_length_le (by rw [List.length_map]; show ls.length ≤ (lkv ls).length; unfold lkv; rw [List.length_map]; exact Nat.le_refl _)] at hD1'
    refine q D _ nDH (fun b o e => ?_) (by rw [upd_ne DL]; exact hD1')
    by_cases hb : b = a
    · subst hb; rw [upd_same, ← e, hL]
    · rw [upd_ne hb]; exact s1' _ _ ((hlo b hb).trans e)
/-- the letters that move -/
def GD.mv (g : GD) : List Str := (g.letters.map (·.1)).filter fun x => !decide (x ∈ g.fixed)
/-- all permissions, in order -/
def GD.perms (g : GD) : List (List Str) := allPerms (g.letters.map (·.1)) g.mv
/-- what a ground tells of the places -/
structure PlG (C : Addr) (H : Hp) (G : Addr) (g : GD) : Prop where
  ex : ∃ dx fs D, H G = some (.ins C dx fs) ∧ fs.lookup ("places" : Str) = some (.ref D) ∧ H D = some (.dT (plK g.perms g.perms.length))
theorem PlG.mono {C : Addr} {H H' : Hp} {G : Addr} {g : GD} (s : Same H H') (h : PlG C H G g) : PlG C H' G g := let ⟨dx, fs, D, h1, h2, h3⟩ := h.ex; ⟨dx, fs, D, s _ _ h1, h2, s _ _ h3⟩
/-- a ground of the package, with its places -/
structure IsGr3 (C : Addr) (H : Hp) (G : Addr) (g : GD) : Prop where
  gr : IsGr2 C H G g
  pl : PlG C H G g
theorem IsGr3.mono {C : Addr} {H H' : Hp} {G : Addr} {g : GD} (s : Same H H') (h : IsGr3 C H G g) : IsGr3 C H' G g := ⟨h.gr.mono s, h.pl.mono s⟩
end GB
namespace K7
open PySem PySem.Spec L2 GB
def spGI2 (K : PySem.W.Frag) (C : Addr) : Sp := fun vs H Q _ => ∃ (x dx a b c d : Addr) (g : GD), vs = [.ref x, .ref a, .ref b, .ref c, .ref d] ∧ H x = some (.ins C dx []) ∧ H a = some (.dK (lkv g.letters)) ∧ SqA K H b (sts g.fixed) ∧ SqA K H c (sts g.comm) ∧ (∃ ts : List Addr, SqA K (hid [x] H) d (ts.map V.ref) ∧ Paired (FactA (hid [x] H)) g.facts ts) ∧ g.Fit ∧
  ∀ H', Bt [x] H H' → (∀ N : List Addr, (∀ n ∈ N, n ≠ x ∧ H n ≠ none ∧ ∀ ts, H n ≠ some (.tup ts)) → IsGr2 C (hid N H') x g) → PlG C H' x g → Q .non H'
section
variable {P : Program} {w : World} {K : PySem.W.Frag} {mg : Str → Option Value} {base : Heap} {C : Addr}
theorem ok_gi2 {f : Addr} {fd : FuncData} {dvs : List V} {kws : List (Str × V)} (F : FunD K "__init__" "Ground.__init__" (defArgs sGI) (defBody sGI) (defScope sGI) dvs kws f fd) (T : Bl mg) (cl : Cls K C) (n1 : NoAttr K C "_facts") (n2 : NoAttr K C "_letters") (n3 : NoAttr K C "_order") (n4 : NoAttr K C "_fixed") (n5 : NoAttr K C "_commuting") (n6 : NoAttr K C "moving") (n7 : NoAttr K C "commutes") (n8 : NoAttr K C "known_ends") (n9 : NoAttr K C "places")
    (CL : Fns P w K mg base "_check_letters" 2 ["letters"] spCkL) (CF : Fns P w K mg base "_check_fixed" 2 ["letters", "fixed"] (spCkF2 K)) (CC : Fns P w K mg base "_check_commuting" 2 ["letters", "fixed", "commuting"] (spCkC2 K))
    (FT : Fns P w K mg base "_facts_as_told" 4 ["letters", "fixed", "commuting", "facts"] (spFT2 K)) (EB : Fns P w K mg base "_ends_by_values" 2 ["facts", "commutes"] (spEbv P w)) (PM : Fns P w K mg base "_all_permissions" 1 ["letters", "moving"] spPerm) : FnOk P w K mg base CX0 5 f fd ["self", "letters", "fixed", "commuting", "facts"] (spGI2 K C) := by
  refine FX.FunD.ok0 F scGI (fun vs H Q E h => ?_) (fun cdv A outer s H vs Q E hr h => ?_)
  · obtain ⟨x, dx, a, b, c, d, g, rfl, _⟩ := h
    rfl
  · obtain ⟨x, dx, a, b, c, d, g, rfl, hx, hL, hF, hC, ⟨tsA, hAd, hAp⟩, wf, q⟩ := h
    have offx : ∀ {b' : Addr} {ys : List V}, SqA K H b' ys → SqA K (hid [x] H) b' ys := fun h => sqA_off (fun ys z => by rw [hx] at z; cases z) (fun ys z => by rw [hx] at z; cases z) (fun o ys z => by rw [hx] at z; cases z) (fun o ys z => by rw [hx] at z; cases z) h
    have hA2 : ∀ {J : Hp}, Same H J → ∃ ts : List Addr, SqA K J d (ts.map V.ref) ∧ Paired (FactA J) g.facts ts := fun {J} s => ⟨tsA, hAd.mono ((hid_low _ _).trans s), Paired.mapP hAp fun _ _ r => r.mono ((hid_low _ _).trans s)⟩
    refine ⟨_, pss_cons (ps_expr (pe_fn CL hr (by decide) rfl (pa_cons (pv 1) (pa_nil)))) (pss_cons (ps_expr (pe_fn CF hr (by decide) rfl (pa_cons (pv 1) (pa_cons (pv 2) (pa_nil))))) (pss_cons (ps_expr (pe_fn CC hr (by decide) rfl (pa_cons (pv 1) (pa_cons (pv 2) (pa_cons (pv 3) (pa_nil)))))) (pss_cons (ps_fld (pv 0) (pe_fn FT hr (by decide) rfl (pa_cons (pv 1) (pa_cons (pv 2) (pa_cons (pv 3) (pa_cons (pv 4) (pa_nil)))))) rfl) (pss_cons (ps_fld (pv 0) (pe_callTy (call_dictD) (by rfl) T.dict (by decide +kernel) (pa_cons (pv 1) (pa_nil))) rfl) (pss_cons (ps_fld (pv 0) (pe_callTy ((call_listD rfl)) (by rfl) T.list (by decide +kernel) (pa_cons (pv 1) (pa_nil))) rfl) (pss_cons (ps_fld (pv 0) (pe_weak (t' := tSel2 K 2) (pe_lock (pe_lc (own := [("letter", 5)]) (g := gName 5) (tt := tTest (tOp (rIn K false) (tVar 5) (tVar 2))) rfl scGI.nd (pi_keys (pv 1)) (blkOk_by (own := [("letter", 5)]) (N := giN) (sc := defScope sGI) (by decide +kernel)) (fun _ _ _ _ _ => pg_name (i := 5) scGI.nd rfl (.inl rfl)) (fun _ _ _ _ _ => pts_one (pt_cmpR op_in_seq (pv 5) (pv 2) (by rfl))) (fun _ _ _ _ _ => pv 5))) sel_weakA) rfl) (pss_cons (ps_fld (pv 0) (pe_weak (t' := tSel2 K 3) (pe_lock (pe_lc (own := [("letter", 5)]) (g := gName 5) (tt := tTest (tOp (rIn K false) (tVar 5) (tVar 3))) rfl scGI.nd (pi_keys (pv 1)) (blkOk_by (own := [("letter", 5)]) (N := giN) (sc := defScope sGI) (by decide +kernel)) (fun _ _ _ _ _ => pg_name (i := 5) scGI.nd rfl (.inl rfl)) (fun _ _ _ _ _ => pts_one (pt_cmpR op_in_seq (pv 5) (pv 3) (by rfl))) (fun _ _ _ _ _ => pv 5))) sel_weakB) rfl) (pss_cons (ps_fld (pv 0) (pe_weak (t' := tMov2 K) (pe_lock (pe_dc (own := [("letter", 5)]) (g := gName 5) (tt := tTest (tOp (rIn K true) (tVar 5) (tVar 2))) (tk := tVar 5) (tv := tC (.bl true)) rfl scGI.nd (pi_keys (pv 1)) (blkOk_by (own := [("letter", 5)]) (N := giN) (sc := defScope sGI) (by decide +kernel)) (fun _ _ _ _ _ => pg_name (i := 5) scGI.nd rfl (.inl rfl)) (fun _ _ _ _ _ => pts_one (pt_cmpR op_notIn_seq (pv 5) (pv 2) (by rfl))) (fun _ _ _ _ _ => pv 5) (fun _ _ _ _ _ => pe_bl))) mov_weakA) rfl) (pss_cons (ps_fld (pv 0) (pe_dc (own := [("letter", 5)]) (g := gName 5) (tt := tYes) (tk := tVar 5) (tv := tC (.bl true)) rfl scGI.nd (pi_seqW (pe_fld (pv 0) rfl)) (blkOk_by (own := [("letter", 5)]) (N := giN) (sc := defScope sGI) (by decide +kernel)) (fun _ _ _ _ _ => pg_name (i := 5) scGI.nd rfl (.inl rfl)) (fun _ _ _ _ _ => pts_nil) (fun _ _ _ _ _ => pv 5) (fun _ _ _ _ _ => pe_bl)) rfl) (pss_cons (ps_fld (pv 0) (pe_fn EB hr (by decide) rfl (pa_cons (pe_fld (pv 0) rfl) (pa_cons (pe_fld (pv 0) rfl) (pa_nil)))) rfl) (pss_one (ps_fld (pv 0) (DictT.pe_dcT (own := [("place", 6), ("row", 7)]) (g := gTup K 2 (gCons (gName 6) (gCons (gName 7) gNil))) (tt := tYes) (tk := tVar 7) (tv := tVar 6) .t (hu_of hr) rfl scGI.nd (pi_enumW rfl T.enum (pa_cons (pe_fn PM hr (by decide) rfl (pa_cons (pe_fld (pv 0) rfl) (pa_cons (pe_callTy (call_listD rfl) (by rfl) T.list (by decide +kernel) (pa_cons (pe_fld (pv 0) rfl) (pa_nil))) (pa_nil)))) pa_nil)) (blkOk_by (own := [("place", 6), ("row", 7)]) (N := giN) (sc := defScope sGI) (by decide +kernel)) (fun _ _ _ _ _ => pg_tup rfl (pgs_cons (pg_name (i := 6) scGI.nd rfl (.inl rfl)) (pgs_cons (pg_name (i := 7) scGI.nd rfl (.inl rfl)) (pgs_nil)))) (fun _ _ _ _ _ => pts_nil) (fun _ _ _ _ _ => pv 7) (fun _ _ _ _ _ => pv 6)) rfl)))))))))))), ?_⟩
    have nm : ∀ x ∈ nmA, nameB x = true := by decide +kernel
    refine ⟨_, rfl, a, g.letters, rfl, hL, wf.ne, fun q hq => ⟨wf.nm q hq, wf.ar q hq⟩, fun H1 s1 => ?_⟩
    refine ⟨_, rfl, _, rfl, a, b, g.letters, g.fixed, rfl, s1 _ _ hL, wf.nd, hF.mono s1, wf.fx, wf.fs, fun H2 s2 => ?_⟩
    have S2 := s1.trans s2
    refine ⟨_, rfl, _, rfl, _, rfl, a, b, c, g.letters, g.fixed, g.comm, rfl, S2 _ _ hL, wf.nd, hF.mono S2, hC.mono S2, wf.cm, wf.cs, wf.c2, fun H3 s3 => ?_⟩
    have S3 := S2.trans s3
    refine ⟨_, rfl, _, rfl, _, rfl, _, rfl, a, b, c, d, g, rfl, S3 _ _ hL, hF.mono S3, hC.mono S3, hA2 S3, wf, fun l1 H4 nl1 s4 hl1 => ?_⟩
    have S4 := S3.trans s4
    have xa : a ≠ x := ne_of hL hx (fun z => nomatch z)
    refine ⟨_, rfl, x, C, dx, _, rfl, S4 _ _ hx, cl, n1, by show 0 < 1000; decide, ?_⟩
    obtain ⟨H5, b5, h5, B5, e5⟩ : ∃ H5, (∀ b o, b ≠ x → H4 b = some o → H5 b = some o) ∧ H5 x = some (.ins C dx (putF "_facts" (.ref l1) [])) ∧ Bt [x] H4 H5 ∧ upd H4 x (.ins C dx (putF "_facts" (.ref l1) [])) = H5 := ⟨_, fun b o z e => by rw [upd_ne z]; exact e, upd_same, bt_upd (by simp), rfl⟩
    rw [e5]
    have hL5 := b5 _ _ xa (S4 _ _ hL)
    refine ⟨_, rfl, a, _, rfl, .inl hL5, fun l2 nl2 => ?_⟩
    obtain ⟨H6, s6, h6, e6⟩ := lay (o := .dK (lkv g.letters)) nl2
    rw [e6]
    refine ⟨_, rfl, x, C, dx, _, rfl, s6 _ _ h5, cl, n2, by show 1 < 1000; decide, ?_⟩
    obtain ⟨H7, b7, h7, B7, e7⟩ : ∃ H7, (∀ b o, b ≠ x → H6 b = some o → H7 b = some o) ∧ H7 x = some (.ins C dx (putF "_letters" (.ref l2) (putF "_facts" (.ref l1) []))) ∧ Bt [x] H6 H7 ∧ upd H6 x (.ins C dx (putF "_letters" (.ref l2) (putF "_facts" (.ref l1) []))) = H7 := ⟨_, fun b o z e => by rw [upd_ne z]; exact e, upd_same, bt_upd (by simp), rfl⟩
    rw [e7]
    have x2 : l2 ≠ x := fun e => by rw [e, h5] at nl2; cases nl2
    have hL7 := b7 _ _ xa (s6 _ _ hL5)
    have h7l := b7 _ _ x2 h6
    refine ⟨_, rfl, a, _, rfl, .inl hL7, fun l3 nl3 => ?_⟩
    obtain ⟨H8, s8, h8, e8⟩ := lay (o := .lst ((lkv g.letters).map fun kv => kV kv.1)) nl3
    rw [e8]
    refine ⟨_, rfl, x, C, dx, _, rfl, s8 _ _ h7, cl, n3, by show 2 < 1000; decide, ?_⟩
    obtain ⟨H9, b9, h9, B9, e9⟩ : ∃ H9, (∀ b o, b ≠ x → H8 b = some o → H9 b = some o) ∧ H9 x = some (.ins C dx (putF "_order" (.ref l3) (putF "_letters" (.ref l2) (putF "_facts" (.ref l1) [])))) ∧ Bt [x] H8 H9 ∧ upd H8 x (.ins C dx (putF "_order" (.ref l3) (putF "_letters" (.ref l2) (putF "_facts" (.ref l1) [])))) = H9 := ⟨_, fun b o z e => by rw [upd_ne z]; exact e, upd_same, bt_upd (by simp), rfl⟩
    rw [e9]
    have B49 : Bt [x] H4 H9 := B5.trans ((bt_of s6).trans (B7.trans ((bt_of s8).trans B9)))
    have hL9 := bt_at B49 (ni1 xa) (S4 _ _ hL)
    have hFh9 := (offx hF).mono ((hid_same S4).trans B49)
    have hF9 := hFh9.mono (hid_low _ _)
    have hCh9 := (offx hC).mono ((hid_same S4).trans B49)
    have h9l := b9 _ _ x2 (s8 _ _ h7l)
    have l8 : g.letters.length ≤ 1000 := by
      have := wf.le
      omega
    refine ⟨_, a, _, _, _, _, _, _, b, g.letters, g.fixed, rfl, .inl ⟨rfl, rfl⟩, hL9, hF9, l8, fun l4 H10 nl4 s10 hl4 => ?_⟩
    refine ⟨_, rfl, x, C, dx, _, rfl, s10 _ _ h9, cl, n4, by show 3 < 1000; decide, ?_⟩
    obtain ⟨H11, b11, h11, B11, e11⟩ : ∃ H11, (∀ b o, b ≠ x → H10 b = some o → H11 b = some o) ∧ H11 x = some (.ins C dx (putF "_fixed" (.ref l4) (putF "_order" (.ref l3) (putF "_letters" (.ref l2) (putF "_facts" (.ref l1) []))))) ∧ Bt [x] H10 H11 ∧ upd H10 x (.ins C dx (putF "_fixed" (.ref l4) (putF "_order" (.ref l3) (putF "_letters" (.ref l2) (putF "_facts" (.ref l1) []))))) = H11 := ⟨_, fun b o z e => by rw [upd_ne z]; exact e, upd_same, bt_upd (by simp), rfl⟩
    rw [e11]
    refine ⟨_, a, _, _, _, _, _, _, c, g.letters, g.comm, rfl, .inr ⟨rfl, rfl⟩, b11 _ _ xa (s10 _ _ hL9), (hCh9.mono ((hid_same s10).trans B11)).mono (hid_low _ _), l8, fun l5 H12 nl5 s12 hl5 => ?_⟩
    refine ⟨_, rfl, x, C, dx, _, rfl, s12 _ _ h11, cl, n5, by show 4 < 1000; decide, ?_⟩
    obtain ⟨H13, b13, h13, B13, e13⟩ : ∃ H13, (∀ b o, b ≠ x → H12 b = some o → H13 b = some o) ∧ H13 x = some (.ins C dx (putF "_commuting" (.ref l5) (putF "_fixed" (.ref l4) (putF "_order" (.ref l3) (putF "_letters" (.ref l2) (putF "_facts" (.ref l1) [])))))) ∧ Bt [x] H12 H13 ∧ upd H12 x (.ins C dx (putF "_commuting" (.ref l5) (putF "_fixed" (.ref l4) (putF "_order" (.ref l3) (putF "_letters" (.ref l2) (putF "_facts" (.ref l1) [])))))) = H13 := ⟨_, fun b o z e => by rw [upd_ne z]; exact e, upd_same, bt_upd (by simp), rfl⟩
    rw [e13]
    have B913 : Bt [x] H9 H13 := (bt_of s10).trans (B11.trans ((bt_of s12).trans B13))
    have lk5 : (putF "_commuting" (.ref l5) (putF "_fixed" (.ref l4) (putF "_order" (.ref l3) (putF "_letters" (.ref l2) (putF "_facts" (.ref l1) []))))).lookup ("_commuting" : Str) = some (.ref l5) := by rw [lookup_putF, if_pos rfl]
    have hL13 := b13 _ _ xa (s12 _ _ (b11 _ _ xa (s10 _ _ hL9)))
    have hF13 := (hFh9.mono ((hid_same s10).trans (B11.trans ((hid_same s12).trans B13)))).mono (hid_low _ _)
    refine ⟨_, a, _, _, _, _, _, b, g.letters, g.fixed, rfl, hL13, hF13, wf.nd, l8, fun l6 H14 nl6 s14 hl6 => ?_⟩
    refine ⟨_, rfl, x, C, dx, _, rfl, s14 _ _ h13, cl, n6, by show 5 < 1000; decide, ?_⟩
    obtain ⟨H15, b15, h15, B15, e15⟩ : ∃ H15, (∀ b o, b ≠ x → H14 b = some o → H15 b = some o) ∧ H15 x = some (.ins C dx (putF "moving" (.ref l6) (putF "_commuting" (.ref l5) (putF "_fixed" (.ref l4) (putF "_order" (.ref l3) (putF "_letters" (.ref l2) (putF "_facts" (.ref l1) []))))))) ∧ Bt [x] H14 H15 ∧ upd H14 x (.ins C dx (putF "moving" (.ref l6) (putF "_commuting" (.ref l5) (putF "_fixed" (.ref l4) (putF "_order" (.ref l3) (putF "_letters" (.ref l2) (putF "_facts" (.ref l1) []))))))) = H15 := ⟨_, fun b o z e => by rw [upd_ne z]; exact e, upd_same, bt_upd (by simp), rfl⟩
    rw [e15]
    have x5 : l5 ≠ x := fun e => by rw [e, h11] at nl5; cases nl5
    have hl5c : H15 l5 = some (.lst (sts (g.sel g.comm))) := by
      exact b15 _ _ x5 (s14 _ _ (b13 _ _ x5 hl5))
    refine ⟨_, rfl, x, C, dx, _, _, rfl, h15, cl, n5, (by rw [lookup_putF, if_neg (by decide +kernel), lookup_putF, if_pos rfl] : (putF "moving" (.ref l6) (putF "_commuting" (.ref l5) (putF "_fixed" (.ref l4) (putF "_order" (.ref l3) (putF "_letters" (.ref l2) (putF "_facts" (.ref l1) [])))))).lookup ("_commuting" : Str) = some (.ref l5)), l5, sts (g.sel g.comm), true, [], rfl, SqL.of (hid_to (by simp) hl5c), fun J WJ l7 nl7 => ?_⟩
    refine dcK_it WJ (fun i H' => Same H15 H' ∧ H' l7 = some (.dK (trueK ((g.sel g.comm).take i)))) ⟨same_new nl7, upd_same⟩ (fun i H' _ s => SqL.of (hid_to (by simp) (s.1 _ _ hl5c))) ?_ ?_
    · rintro i y H1' H2' hi ⟨sc, hD⟩ ⟨rfl, hy⟩
      obtain ⟨sy, hsy, rfl⟩ := sts_at hy
      refine ⟨rfl, ?_⟩
      have hn : sy ∉ (g.sel g.comm).take i := not_in_take wf.norm.cm hsy
      refine ⟨_, rfl, _, .inr sy, rfl, hD, ?_, ?_⟩
      · unfold trueK
        rw [List.length_map, List.length_take, sizeLine_eq]
        have : (g.sel g.comm).length ≤ (g.letters.map (·.1)).length := List.length_filter_le _ _
        rw [List.length_map] at this
        omega
      · refine ⟨fun b o e => ?_, ?_⟩
        · rw [upd_ne (ne_of_none e nl7)]; exact sc _ _ e
        · rw [upd_same, putTrue hn, take_at hsy]
    rintro H16 ⟨s16, hl7⟩
    rw [List.take_of_length_le (by rw [sts_len]; exact Nat.le_refl _)] at hl7
    refine ⟨_, rfl, x, C, dx, _, rfl, s16 _ _ h15, cl, n7, by show 6 < 1000; decide, ?_⟩
    obtain ⟨H17, b17, h17, B17, e17⟩ : ∃ H17, (∀ b o, b ≠ x → H16 b = some o → H17 b = some o) ∧ H17 x = some (.ins C dx (putF "commutes" (.ref l7) (putF "moving" (.ref l6) (putF "_commuting" (.ref l5) (putF "_fixed" (.ref l4) (putF "_order" (.ref l3) (putF "_letters" (.ref l2) (putF "_facts" (.ref l1) [])))))))) ∧ Bt [x] H16 H17 ∧ upd H16 x (.ins C dx (putF "commutes" (.ref l7) (putF "moving" (.ref l6) (putF "_commuting" (.ref l5) (putF "_fixed" (.ref l4) (putF "_order" (.ref l3) (putF "_letters" (.ref l2) (putF "_facts" (.ref l1) [])))))))) = H17 := ⟨_, fun b o z e => by rw [upd_ne z]; exact e, upd_same, bt_upd (by simp), rfl⟩
    rw [e17]
    have x7 : l7 ≠ x := fun e => by rw [e, h15] at nl7; cases nl7
    have x6 : l6 ≠ x := fun e => by rw [e, h13] at nl6; cases nl6
    have x3 : l3 ≠ x := fun e => by rw [e, h7] at nl3; cases nl3
    have B417 : Bt [x] H4 H17 := B49.trans (B913.trans ((bt_of s14).trans (B15.trans ((bt_of s16).trans B17))))
    have hA17 : FactsAt H17 l1 g.facts := ((hl1.hidX (S4 _ _ hx)).mono B417).mono (hid_low _ _)
    have hl6c : H17 l6 = some (.dK (trueK ((g.letters.map (·.1)).filter fun x => !decide (x ∈ g.fixed)))) := b17 _ _ x6 (s16 _ _ (b15 _ _ x6 hl6))
    have hl3c : H17 l3 = some (.lst (sts (g.letters.map (·.1)))) := by
      rw [lkv_keys] at h8
      exact bt_at ((B9.trans B913).trans ((bt_of s14).trans (B15.trans ((bt_of s16).trans B17)))) (ni1 x3) h8
    refine ⟨_, rfl, x, C, dx, _, _, rfl, h17, cl, n1, (by rw [lookup_putF, if_neg (by decide +kernel), lookup_putF, if_neg (by decide +kernel), lookup_putF, if_neg (by decide +kernel), lookup_putF, if_neg (by decide +kernel), lookup_putF, if_neg (by decide +kernel), lookup_putF, if_neg (by decide +kernel), lookup_putF, if_pos rfl] : (putF "commutes" (.ref l7) (putF "moving" (.ref l6) (putF "_commuting" (.ref l5) (putF "_fixed" (.ref l4) (putF "_order" (.ref l3) (putF "_letters" (.ref l2) (putF "_facts" (.ref l1) []))))))).lookup ("_facts" : Str) = some (.ref l1)), _, rfl, x, C, dx, _, _, rfl, h17, cl, n7, (by rw [lookup_putF, if_pos rfl] : (putF "commutes" (.ref l7) (putF "moving" (.ref l6) (putF "_commuting" (.ref l5) (putF "_fixed" (.ref l4) (putF "_order" (.ref l3) (putF "_letters" (.ref l2) (putF "_facts" (.ref l1) []))))))).lookup ("commutes" : Str) = some (.ref l7)), l1, l7, g.norm, rfl, hA17, b17 _ _ x7 hl7, wf.norm, fun l8 xs H18 nl8 s18 h18d k18 p18 => ?_⟩
    refine ⟨_, rfl, x, C, dx, _, rfl, s18 _ _ h17, cl, n8, by show 7 < 1000; decide, ?_⟩
    obtain ⟨H19, b19, h19, B19, e19⟩ : ∃ H19, (∀ b o, b ≠ x → H18 b = some o → H19 b = some o) ∧ H19 x = some (.ins C dx (putF "known_ends" (.ref l8) (putF "commutes" (.ref l7) (putF "moving" (.ref l6) (putF "_commuting" (.ref l5) (putF "_fixed" (.ref l4) (putF "_order" (.ref l3) (putF "_letters" (.ref l2) (putF "_facts" (.ref l1) []))))))))) ∧ Bt [x] H18 H19 ∧ upd H18 x (.ins C dx (putF "known_ends" (.ref l8) (putF "commutes" (.ref l7) (putF "moving" (.ref l6) (putF "_commuting" (.ref l5) (putF "_fixed" (.ref l4) (putF "_order" (.ref l3) (putF "_letters" (.ref l2) (putF "_facts" (.ref l1) []))))))))) = H19 := ⟨_, fun b o z e => by rw [upd_ne z]; exact e, upd_same, bt_upd (by simp), rfl⟩
    rw [e19]
    have lm : (g.letters.map (·.1)).length ≤ 20 := by
      have := wf.le
      rw [List.length_map]
      omega
    have lm2 := List.length_filter_le (fun x => !decide (x ∈ g.fixed)) (g.letters.map (·.1))
    refine ⟨_, rfl, x, C, dx, _, _, rfl, h19, cl, n3, (by rw [lookup_putF, if_neg (by decide +kernel), lookup_putF, if_neg (by decide +kernel), lookup_putF, if_neg (by decide +kernel), lookup_putF, if_neg (by decide +kernel), lookup_putF, if_neg (by decide +kernel), lookup_putF, if_pos rfl] : (putF "known_ends" (.ref l8) (putF "commutes" (.ref l7) (putF "moving" (.ref l6) (putF "_commuting" (.ref l5) (putF "_fixed" (.ref l4) (putF "_order" (.ref l3) (putF "_letters" (.ref l2) (putF "_facts" (.ref l1) [])))))))).lookup ("_order" : Str) = some (.ref l3)), _, rfl, x, C, dx, _, _, rfl, h19, cl, n6, (by rw [lookup_putF, if_neg (by decide +kernel), lookup_putF, if_neg (by decide +kernel), lookup_putF, if_pos rfl] : (putF "known_ends" (.ref l8) (putF "commutes" (.ref l7) (putF "moving" (.ref l6) (putF "_commuting" (.ref l5) (putF "_fixed" (.ref l4) (putF "_order" (.ref l3) (putF "_letters" (.ref l2) (putF "_facts" (.ref l1) [])))))))).lookup ("moving" : Str) = some (.ref l6)), l6, _, rfl, .inl (b19 _ _ x6 (s18 _ _ hl6c)), fun lv nlv => ?_⟩
    rw [true_keys]
    obtain ⟨H20, s20, h20, e20⟩ := lay (o := .lst (sts ((g.letters.map (·.1)).filter fun x => !decide (x ∈ g.fixed)))) nlv
    rw [e20]
    refine ⟨l3, lv, _, _, rfl, s20 _ _ (b19 _ _ x3 (s18 _ _ hl3c)), h20, lm, by omega, fun lp ts H21 nlp s21 hlp rlp => ?_⟩
    have lrow := allPerms_len lm (show ((g.letters.map (·.1)).filter fun x => !decide (x ∈ g.fixed)).length ≤ 20 by omega)
    generalize hrows : allPerms (g.letters.map (·.1)) ((g.letters.map (·.1)).filter fun x => !decide (x ∈ g.fixed)) = rows at rlp lrow
    refine ⟨lp, ts.map V.ref, true, [], rfl, SqL.of (hid_to (by simp) hlp), fun J WJ l9 nl9 => ?_⟩
    refine DictT.dc_it WJ (fun i H' => Same H21 H' ∧ H' l9 = some (.dT (plK rows i))) ⟨same_new nl9, upd_same⟩ (fun i H' _ s => SqL.of (hid_to (by simp) (s.1 _ _ hlp))) ?_ ?_
    · rintro i y H1' H2' hi ⟨sc, hD⟩ ⟨Tp, y1, y2, rfl, nT, rfl, e1, e2⟩
      obtain rfl := Option.some.inj e1
      have e2 : (ts.map V.ref)[i]? = some y2 := e2
      rw [List.getElem?_map] at e2
      obtain ⟨t, htt, rfl⟩ := Option.map_eq_some_iff.mp e2
      have hir : i < rows.length := by rw [rlp.len]; exact (List.getElem?_eq_some_iff.mp htt).1
      obtain ⟨t', ht', hrt⟩ := paired_at' rlp (List.getElem?_eq_getElem hir)
      obtain rfl : t' = t := by rw [htt] at ht'; exact (Option.some.inj ht').symm
      obtain ⟨H3', s3', h3', e3'⟩ := lay (o := .tup [.int (i : Nat), .ref t']) nT
      rw [e3']
      have hrt : H21 t' = some (.tup (sts rows[i])) := hrt
      have hk : H3' t' = some (.tup (((rows[i].map Sum.inr : List Key)).map kV)) := by rw [← sts_kV]; exact s3' _ _ (sc _ _ hrt)
      have hl := plK_len rows i
      have eg : rows.getD i [] = rows[i] := by rw [List.getD_eq_getElem?_getD, List.getElem?_eq_getElem hir]; rfl
      refine ⟨Tp, _, rfl, SqT.of h3', rfl, _, _, rfl, _, _, rfl, rfl, ?_⟩
      refine ⟨rfl, ?_⟩
      refine ⟨_, rfl, _, rfl, _, DPut.t (s3' _ _ hD) hk (by rw [sizeLine_eq]; omega), fun b o e => ?_, ?_⟩
      · rw [upd_ne (ne_of_none e nl9)]; exact s3' _ _ (sc _ _ e)
      · rw [upd_same, plK, eg]
    rintro H22 ⟨s22, hl9⟩
    refine ⟨_, rfl, x, C, dx, _, rfl, s22 _ _ (s21 _ _ (s20 _ _ h19)), cl, n9, by show 8 < 1000; decide, ?_⟩
    obtain ⟨H23, b23, h23, B23, e23⟩ : ∃ H23, (∀ b o, b ≠ x → H22 b = some o → H23 b = some o) ∧ H23 x = some (.ins C dx (putF "places" (.ref l9) (putF "known_ends" (.ref l8) (putF "commutes" (.ref l7) (putF "moving" (.ref l6) (putF "_commuting" (.ref l5) (putF "_fixed" (.ref l4) (putF "_order" (.ref l3) (putF "_letters" (.ref l2) (putF "_facts" (.ref l1) [])))))))))) ∧ Bt [x] H22 H23 ∧ upd H22 x (.ins C dx (putF "places" (.ref l9) (putF "known_ends" (.ref l8) (putF "commutes" (.ref l7) (putF "moving" (.ref l6) (putF "_commuting" (.ref l5) (putF "_fixed" (.ref l4) (putF "_order" (.ref l3) (putF "_letters" (.ref l2) (putF "_facts" (.ref l1) [])))))))))) = H23 := ⟨_, fun b o z e => by rw [upd_ne z]; exact e, upd_same, bt_upd (by simp), rfl⟩
    rw [e23]
    have B1723 : Bt [x] H17 H23 := (bt_of s18).trans (B19.trans ((bt_of ((s20.trans s21).trans s22)).trans B23))
    have h17l := bt_at ((B913.trans ((bt_of s14).trans (B15.trans ((bt_of s16).trans B17)))).trans B1723) (ni1 x2) h9l
    have x4 : l4 ≠ x := fun e => by rw [e, h9] at nl4; cases nl4
    have hA23 : FactsAt H23 l1 g.facts := ((hl1.hidX (S4 _ _ hx)).mono (B417.trans B1723)).mono (hid_low _ _)
    have B1323 : Bt [x] H13 H23 := ((bt_of s14).trans (B15.trans ((bt_of s16).trans B17))).trans B1723
    have hl4c := bt_at ((B11.trans ((bt_of s12).trans B13)).trans B1323) (ni1 x4) hl4
    have hl5d := bt_at (((bt_of s16).trans B17).trans B1723) (ni1 x5) hl5c
    have hl3d := bt_at B1723 (ni1 x3) hl3c
    have gone : ∀ {J : Hp} {l : Addr}, Bt [x] H J → J l = none → l ≠ x → H l = none := fun {J l} B e n => by
      cases h : H l with
      | none => rfl
      | some o =>
        have := bt_at B (ni1 n) h
        rw [e] at this
        cases this
    have B4 : Bt [x] H H4 := bt_of S4
    have x1 : l1 ≠ x := fun e => by
      have := S3 _ _ hx
      rw [← e, nl1] at this
      cases this
    have f1 : H l1 = none := S3.free nl1
    have f2 : H l2 = none := gone (B4.trans B5) nl2 x2
    have f3 : H l3 = none := gone (B4.trans (B5.trans ((bt_of s6).trans B7))) nl3 x3
    have f4 : H l4 = none := gone (B4.trans B49) nl4 x4
    have f5 : H l5 = none := gone (B4.trans (B49.trans ((bt_of s10).trans B11))) nl5 x5
    have B023 : Bt [x] H H23 := B4.trans (B417.trans B1723)
    have x9 : l9 ≠ x := fun e => by
      have := s21 _ _ (s20 _ _ h19)
      rw [← e, nl9] at this
      cases this
    have pl : PlG C H23 x g := by
      refine ⟨dx, _, l9, h23, by rw [lookup_putF, if_pos rfl], ?_⟩
      have e : (ts.map V.ref).length = g.perms.length := by
        rw [List.length_map, ← rlp.len, ← hrows]
        rfl
      rw [← e]
      have := b23 _ _ x9 hl9
      rw [← hrows] at this
      exact this
    refine q H23 B023 (fun N hN => ?_) pl
    have off : ∀ {l : Addr}, H l = none → l ∉ N := fun e m => (hN _ m).2.1 e
    have offT : ∀ {t : Addr} {ys : List V}, H23 t = some (.tup ys) → t ∉ N := fun {t ys} e m => by
      obtain ⟨n1, n2, n3⟩ := hN t m
      cases h : H t with
      | none => exact n2 h
      | some o =>
        have := bt_at B023 (ni1 n1) h
        rw [e] at this
        rw [← this] at h
        exact n3 ys h
    have hA23 : FactsAt (hid N H23) l1 g.facts := by
      obtain ⟨ts, k1, k2⟩ := hA23
      refine ⟨ts, hid_to (off f1) k1, Paired.mapP k2 fun f t r => ?_⟩
      obtain ⟨v, e, r1, r2, r3⟩ := r.ex
      exact ⟨v, e, hid_to (offT r1) r1, hid_to (offT r2) r2, hid_to (offT r3) r3⟩
    refine ⟨dx, _, l1, l2, l3, l4, l5, hid_to (fun m => (hN x m).1 rfl) h23, ⟨?_, hA23⟩, ⟨?_, hid_to (off f2) h17l⟩, ⟨?_, hid_to (off f3) hl3d⟩, ⟨?_, hid_to (off f4) hl4c⟩, ⟨?_, hid_to (off f5) hl5d⟩, ?_⟩
    all_goals try (repeat (rw [lookup_putF]; first | rw [if_neg (by decide +kernel)] | rw [if_pos rfl]))
    intro m hm
    have : m = "letters" ∨ m = "fixed" ∨ m = "commuting" ∨ m = "facts" := by simpa using hm
    rcases this with rfl | rfl | rfl | rfl
    all_goals (repeat (rw [lookup_putF]; rw [if_neg (by decide +kernel)])); rfl
/-- what Ground(a, b, c, d) asks, and what it gives -/
theorem gr_make {H : Hp} {Q : VK} {a b c d : Addr} {g : GD} (hL : H a = some (.dK (lkv g.letters))) (hF : SqA K H b (sts g.fixed)) (hC : SqA K H c (sts g.comm)) (hT : ∃ ts : List Addr, SqA K H d (ts.map V.ref) ∧ Paired (FactA H) g.facts ts) (fit : g.Fit)
    (q : ∀ G H', H G = none → Same H H' → (∀ N : List Addr, (∀ n ∈ N, H n ≠ none ∧ ∀ ts, H n ≠ some (.tup ts)) → IsGr2 C (hid N H') G g) → PlG C H' G g → Q (.ref G) H') (x dx : Addr) (nx : H x = none) (ndx : H dx = none) (ne : dx ≠ x) :
    spGI2 K C [.ref x, .ref a, .ref b, .ref c, .ref d] (upd (upd H dx (.own x)) x (.ins C dx [])) (fun v H' => v = .non ∧ Q (.ref x) H') E0 := by
  have s0 : Same H (upd (upd H dx (.own x)) x (.ins C dx [])) := fun b o e => by
    rw [upd_ne (ne_of_none e nx), upd_ne (ne_of_none e ndx)]
    exact e
  have sx : Same H (hid [x] (upd (upd H dx (.own x)) x (.ins C dx []))) := same_hid_new nx s0
  obtain ⟨ts, t1, t2⟩ := hT
  refine ⟨x, dx, a, b, c, d, g, rfl, upd_same, s0 _ _ hL, hF.mono s0, hC.mono s0, ⟨ts, t1.mono sx, Paired.mapP t2 fun _ _ r => r.mono sx⟩, fit, fun H' B' gr pl => ⟨rfl, q x H' nx ((sx.trans B').trans (hid_low _ _)) (fun N hN => gr N fun n m => ?_) pl⟩⟩
  obtain ⟨n1, n2⟩ := hN n m
  cases h : H n with
  | none => exact absurd h n1
  | some o =>
    refine ⟨fun e => ?_, ?_, fun ts e => ?_⟩
    · rw [e, nx] at h; cases h
    · rw [s0 _ _ h]; exact fun z => nomatch z
    · rw [s0 _ _ h] at e
      exact n2 ts (by rw [h]; exact e)
theorem gr_make2 {H : Hp} {R : Hp → Prop} {a b c d : Addr} {g : GD} {x dx : Addr} (nx : H x = none) (ndx : H dx = none) (ne : dx ≠ x) (hL : H a = some (.dK (lkv g.letters))) (hF : SqA K H b (sts g.fixed)) (hC : SqA K H c (sts g.comm)) (hT : ∃ ts : List Addr, SqA K H d (ts.map V.ref) ∧ Paired (FactA H) g.facts ts) (fit : g.Fit)
    (q : ∀ H', Same H H' → (∀ N : List Addr, (∀ n ∈ N, H n ≠ none ∧ ∀ ts, H n ≠ some (.tup ts)) → IsGr2 C (hid N H') x g) → PlG C H' x g → R H') :
    spGI2 K C [.ref x, .ref a, .ref b, .ref c, .ref d] (upd (upd H dx (.own x)) x (.ins C dx [])) (fun v H' => v = .non ∧ R H') E0 := by
  obtain ⟨x', dx', a', b', c', d', g', e, h1, h2, h3, h4, h5, h6, h7⟩ := gr_make (C := C) (Q := fun v H' => v = .ref x → R H') hL hF hC hT fit (fun G H' _ s gr pl => fun eg => by
    cases eg
    exact q H' s gr pl) x dx nx ndx ne
  exact ⟨x', dx', a', b', c', d', g', e, h1, h2, h3, h4, h5, h6, fun H' B' gr pl => let z := h7 H' B' gr pl; ⟨z.1, z.2 rfl⟩⟩
/-- what Ground(a, b, c, d) asks and gives, nothing being changed behind -/
theorem gr_make3 {H : Hp} {R : Hp → Prop} {a b c d : Addr} {g : GD} {x dx : Addr} (nx : H x = none) (ndx : H dx = none) (ne : dx ≠ x) (hL : H a = some (.dK (lkv g.letters))) (hF : SqA K H b (sts g.fixed)) (hC : SqA K H c (sts g.comm)) (hT : ∃ ts : List Addr, SqA K H d (ts.map V.ref) ∧ Paired (FactA H) g.facts ts) (fit : g.Fit)
    (q : ∀ H', Same H H' → IsGr3 C H' x g → R H') :
    spGI2 K C [.ref x, .ref a, .ref b, .ref c, .ref d] (upd (upd H dx (.own x)) x (.ins C dx [])) (fun v H' => v = .non ∧ R H') E0 :=
  gr_make2 nx ndx ne hL hF hC hT fit fun H' s gr pl => q H' s ⟨(gr [] (fun n hn => nomatch hn)).mono (hid_low _ _), pl⟩
end
end K7
set_option Elab.async false
set_option linter.all false
set_option autoImplicit false
set_option maxRecDepth 100000
set_option maxHeartbeats 4000000
/-! d == e of two dicts whose keys are tuples and whose values are all True. -/
namespace EqT
open PySem PySem.Spec PyProof.Rows L2 PySem.W
open PySem.SeqAt (EqIn EqAt)
section
variable {prog : Program} {w : World} {KK : Type} [DecidableEq KK] {knd : HeapKind prog w KK} {A : Around} {E : Value → Shared → Prop} {s : Shared}
/-- all of the one stand in the other -/
def allIn {KK : Type} [DecidableEq KK] (xs ys : List (KK × Addr × Value)) : Bool := xs.all fun x => (atKey ys x.1).isSome
theorem same_T {nm : String} {a b : Addr} {xs ys : List (KK × Addr × Value)} {Q : Bool → Shared → Prop} (na : (a == sysModules) = false) (nb : (b == sysModules) = false)
    (da : s.heap.DictOfH knd a xs) (db : s.heap.DictOfH knd b ys) (hu : knd.room A) (ta : ∀ x ∈ xs, x.2.2 = .bool true) (tb : ∀ y ∈ ys, y.2.2 = .bool true)
    (h : Q (xs.length == ys.length && allIn xs ys) s) : wpAny (model prog w) A (Builtin.Dict.samePairs nm a b) Q E s := by
  obtain ⟨oa, ea, na1, ga, _, fa, la, ka, _⟩ := da
  obtain ⟨ob, eb, nb1, gb, _, fb, lb, kb, ub⟩ := db
  have za : ea.size = xs.length := size_of_entries la
  have zb : eb.size = ys.length := size_of_entries lb
  unfold Builtin.Dict.samePairs Builtin.Dict.showsAll
  rw [if_neg (show ¬ (a == sysModules) = true by rw [na]; decide), if_neg (show ¬ (b == sysModules) = true by rw [nb]; decide)]
  refine wpAny_bind (wpAny_pure (wpAny_bind (wpAny_pure (wpAny_bind (wpAny_dictEntries ga fa ?_)))))
  dsimp only
  refine wpAny_bind (wpAny_dictEntries gb fb ?_)
  rw [← za, ← zb] at h
  by_cases sz : ea.size = eb.size
  case neg =>
    rw [if_pos (by simpa using sz)]
    rw [show (ea.size == eb.size) = false by simpa using sz, Bool.false_and] at h
    exact wpAny_bind (wpAny_rule (wpAny_pure h))
  case pos =>
    rw [show (ea.size == eb.size) = true by simpa using sz, Bool.true_and] at h
    rw [if_neg (by rw [sz]; simp)]
    refine wpAny_bind (wpAny_dictEpoch ga fa (wpAny_bind ?_))
    rw [Std.Legacy.Range.forIn_eq_forIn_range']
    simp only [Std.Legacy.Range.size, Nat.sub_zero, Nat.add_sub_cancel, Nat.div_one]
    refine wpAny_forIn_list _
      (fun left st t => t = s ∧ st = (none, ()) ∧ ∃ j, left = List.range' j (ea.size - j) ∧ j ≤ ea.size ∧ allIn xs ys = allIn (xs.drop j) ys) _ ?_ ?_ _ _ ⟨rfl, rfl, 0, by simp, Nat.zero_le _, by rw [List.drop_zero]⟩
    · rintro y left st t ⟨rfl, rfl, j, hl, hj, hall⟩
      have lt : j < ea.size := by
        rcases Nat.lt_or_ge j ea.size with z | z
        · exact z
        · rw [Nat.sub_eq_zero_of_le z] at hl; simp at hl
      obtain ⟨rfl, hl2⟩ : y = j ∧ left = List.range' (j + 1) (ea.size - (j + 1)) := by
        rw [show ea.size - j = (ea.size - (j + 1)) + 1 by omega, List.range'_succ] at hl
        injection hl with q1 q2
        exact ⟨q1, q2⟩
      refine wpAny_bind (wpAny_dictEntries ga fa ?_)
      have lx : y < xs.length := by omega
      have ex : ea[y]? = some (entryOfKey knd xs[y]) := by rw [PySem.entry_at la y, List.getElem?_eq_getElem lx]; rfl
      rw [ex]
      generalize hx : xs[y] = x at ex
      have xm : x ∈ xs := by rw [← hx]; exact List.getElem_mem lx
      have dr : xs.drop y = x :: xs.drop (y + 1) := by rw [← hx]; exact List.drop_eq_getElem_cons lx
      rw [dr] at hall
      obtain ⟨k, p, v⟩ := x
      have hv : v = .bool true := ta _ xm
      subst hv
      show wpAny _ _ (holding [Value.ref p, Value.bool true] _ >>= _) _ _ _
      refine wpAny_bind (wpAny_holding (wpAny_bind (wpAny_dictFind_heap hu (ka _ xm) gb fb lb kb ub (fun no => ?_) (fun i q hq => ?_))))
      · have hn : atKey ys k = none := atKey_none_of_get no
        have e0 : allIn ((k, p, Value.bool true) :: xs.drop (y + 1)) ys = false := by
          unfold allIn
          rw [List.all_cons]
          show ((atKey ys k).isSome && _) = false
          rw [hn]
          rfl
        rw [hall, e0] at h
        refine wpAny_pure ?_
        show wpAny _ _ (if (!false) = true then _ else _) _ _ _
        rw [if_pos (by decide)]
        exact wpAny_pure (wpAny_pure h)
      · have hn : atKey ys k = some q := atKey_of_get ub hq
        have e0 : allIn ((k, p, Value.bool true) :: xs.drop (y + 1)) ys = allIn (xs.drop (y + 1)) ys := by
          unfold allIn
          rw [List.all_cons]
          show ((atKey ys k).isSome && _) = _
          rw [hn]
          rfl
        have hqt : q.2 = .bool true := tb _ (List.mem_of_getElem? hq)
        refine wpAny_bind (wpAny_dictEntries gb fb ?_)
        rw [PySem.entry_at lb i, hq]
        obtain ⟨q1, q2⟩ := q
        have hqt : q2 = .bool true := hqt
        subst hqt
        show wpAny _ _ (holding [Value.bool true] (eqBool (Value.bool true) (Value.bool true))) _ _ _
        refine wpAny_holding ((SeqAt.EqAt.same (.bool true)).inModel prog w _ _ ?_)
        show wpAny _ _ (if (!true) = true then _ else _) _ _ _
        rw [if_neg (by decide)]
        refine wpAny_bind (wpAny_dictEpoch ga fa ?_)
        rw [if_neg (by simp)]
        exact wpAny_pure ⟨rfl, rfl, y + 1, hl2, lt, by rw [hall, e0]⟩
    · rintro st t ⟨rfl, rfl, j, hl, hj, hall⟩
      have e : j = ea.size := by
        rcases Nat.lt_or_ge j ea.size with z | z
        · rw [show ea.size - j = (ea.size - (j + 1)) + 1 by omega, List.range'_succ] at hl
          cases hl
        · omega
      refine wpAny_pure ?_
      rw [hall, e, za, List.drop_length] at h
      exact h
theorem eq_T {a b : Addr} {xs ys : List (KK × Addr × Value)} {Q : Value → Shared → Prop} (na : (a == sysModules) = false) (nb : (b == sysModules) = false)
    (da : s.heap.DictOfH knd a xs) (db : s.heap.DictOfH knd b ys) (hr : knd.room A.in1) (hu : A.units < cLine) (ta : ∀ x ∈ xs, x.2.2 = .bool true) (tb : ∀ y ∈ ys, y.2.2 = .bool true)
    (h : Q (.bool (xs.length == ys.length && allIn xs ys)) s) : wpAny (model prog w) A (compareOp .Eq (.ref a) (.ref b)) Q E s := by
  have tya := da.typeIs
  have tyb := db.typeIs
  refine wpAny_richCompare_same_room (op := .Eq) tya tyb PySem.F.slot_dict_eq (wpAny_call_entry PySem.F.slot_dict_eq tya PySem.F.entry_dict_eq ?_ (PySem.F.args_dict_eq_2 _ _)) hu
  show wpAny _ _ (Builtin.Dict.dictSlotArgs "__eq__" ⟨[.ref a, .ref b], []⟩ >>= _) _ _ s
  unfold Builtin.Dict.dictSlotArgs
  refine wpAny_bind (wpAny_bind (wpAny_notOrdered_dict tya ?_))
  refine wpAny_pure (wpAny_bind (wpAny_isInstance (T := "dict") tyb PySem.F.sub_dict_dict ?_))
  simp only [Bool.not_true, Bool.false_eq_true, if_false]
  refine wpAny_bind (wpAny_pure (wpAny_bind (wpAny_pure (wpAny_bind (same_T na nb da db hr ta tb (wpAny_pure ⟨_, rfl, ?_, ?_⟩))))))
  · exact fun z => nomatch z
  · simpa using h
end
section
variable {X : Cx}
/-- the key that a row of texts is -/
def rkey (r : List Str) : List L2.Key := r.map Sum.inr
theorem rkey_inj {a b : List Str} (h : rkey a = rkey b) : a = b := by
  have := congrArg (fun l : List L2.Key => l.filterMap fun k => match k with | .inr x => some x | .inl _ => none) h
  unfold rkey at this
  simpa [List.filterMap_map, Function.comp_def] using this
/-- the dict that maps these rows to True -/
def trR (rows : List (List Str)) : List (List L2.Key × V) := rows.map fun r => (rkey r, V.bl true)
def rEqTr : R2 := fun x y H Q => ∃ a b rs ls, x = .ref a ∧ y = .ref b ∧ H a = some (.dT (trR rs)) ∧ H b = some (.dT (trR ls)) ∧ Q (.bl (rs.length == ls.length && rs.all fun r => decide (r ∈ ls))) H
theorem tr_vals {H : Hp} : ∀ {rs : List (List Str)} {xs : List (List L2.Key × Addr × Value)}, KT H (trR rs) xs → xs.map (·.1) = rs.map rkey ∧ ∀ x ∈ xs, x.2.2 = .bool true
  | [], [], _ => ⟨rfl, fun x hx => nomatch hx⟩
  | [], _ :: _, h => nomatch h
  | _ :: _, [], h => nomatch h
  | k :: ks, x :: xs, h => by
    cases h with
    | cons h1 h2 =>
      obtain ⟨e1, e2⟩ := tr_vals h2
      refine ⟨?_, fun y hy => ?_⟩
      · rw [List.map_cons, List.map_cons, e1, ← h1.1]
      · rcases List.mem_cons.mp hy with rfl | m
        · exact h1.2.2
        · exact e2 y m
theorem atKey_row {xs : List (List L2.Key × Addr × Value)} {r : List Str} : ∀ {ls : List (List Str)}, xs.map (·.1) = ls.map rkey → (atKey xs (rkey r)).isSome = decide (r ∈ ls) := by
  unfold atKey
  rw [Option.isSome_map, List.isSome_find?]
  induction xs with
  | nil =>
    intro ls h
    cases ls with
    | nil => rfl
    | cons _ _ => cases h
  | cons x xs ih =>
    intro ls h
    cases ls with
    | nil => cases h
    | cons l ls =>
      rw [List.map_cons, List.map_cons] at h
      injection h with h1 h2
      rw [List.any_cons, ih h2, h1]
      by_cases e : l = r
      · subst e; simp
      · have e2 : ¬ rkey l = rkey r := fun z => e (rkey_inj z)
        have e3 : ¬ r = l := fun z => e z.symm
        simp [e2, e3]
theorem op_eqTr (hu : X.A.units + 2 < cLine) : OpR X (compareOp .Eq) rEqTr := by
  intro pins s σ H x y v u Q I rx ry h
  obtain ⟨a, b, ks, ls, rfl, rfl, ea, eb, q⟩ := h
  obtain rfl : v = Value.ref a := rx
  obtain rfl : u = Value.ref b := ry
  obtain ⟨_, ya, va, ra, da⟩ := dt_of I.hok ea
  obtain ⟨_, yb, vb, rb, db⟩ := dt_of I.hok eb
  obtain ⟨a1, a2⟩ := tr_vals ra
  obtain ⟨b1, b2⟩ := tr_vals rb
  have l1 : va.length = ks.length := by have := congrArg List.length a1; rwa [List.length_map, List.length_map] at this
  have l2 : vb.length = ls.length := by have := congrArg List.length b1; rwa [List.length_map, List.length_map] at this
  refine eq_T ya yb da db (tupleKind_room_in1 (by omega)) (by omega) a2 b2 ⟨.bl _, H, I, rfl, ?_⟩
  have e : allIn va vb = ks.all fun r => decide (r ∈ ls) := by
    have : (va.map (·.1)).all (fun k => (atKey vb k).isSome) = (ks.map rkey).all fun k => (atKey vb k).isSome := by rw [a1]
    rw [List.all_map, List.all_map] at this
    unfold allIn
    rw [show (va.all fun x => (atKey vb x.1).isSome) = ks.all ((fun k => (atKey vb k).isSome) ∘ rkey) from this]
    refine List.all_congr rfl fun r => ?_
    exact atKey_row b1
  rw [l1, l2, e]
  exact q
end
end EqT
set_option Elab.async false
set_option linter.all false
set_option autoImplicit false
set_option maxRecDepth 100000
set_option maxHeartbeats 4000000
/-! Permissions as rows of texts: no heap here. -/
namespace GB
open PySem PySem.Spec L2 EqT
abbrev PRow := List Str
def wF : Str := "fails"
def wS : Str := "stays"
def wW : Str := "writes"
def wH : Str := "shows"
def wA : Str := "shares"
theorem w_ne : wF ≠ wS ∧ wF ≠ wW ∧ wF ≠ wH ∧ wF ≠ wA ∧ wS ≠ wW ∧ wS ≠ wH ∧ wS ≠ wA ∧ wW ≠ wH ∧ wW ≠ wA ∧ wH ≠ wA := by decide +kernel
/-- what stands among all permissions -/
inductive PermR (ls mv : List Str) : PRow → Prop
  | f {x} : x ∈ ls → PermR ls mv [wF, x]
  | s {x} : x ∈ ls → PermR ls mv [wS, x]
  | w {x} : x ∈ mv → PermR ls mv [wW, x]
  | h {x y} : x ∈ mv → y ∈ mv → PermR ls mv [wH, x, y]
  | a {i j : Nat} {x y} : i < j → mv[i]? = some x → mv[j]? = some y → PermR ls mv [wA, x, y]
theorem mem_shows {mv : List Str} {r : PRow} : ∀ {a : List Str}, r ∈ showsOf a mv ↔ ∃ x ∈ a, ∃ y ∈ mv, r = [wH, x, y]
  | [] => by simp [showsOf]
  | z :: a => by
    have ih := mem_shows (mv := mv) (r := r) (a := a)
    unfold showsOf at ih ⊢
    rw [List.flatMap_cons, List.mem_append, ih, List.mem_map]
    constructor
    · rintro (⟨y, hy, e⟩ | ⟨x, hx, y, hy, e⟩)
      · exact ⟨z, List.mem_cons_self, y, hy, e.symm⟩
      · exact ⟨x, List.mem_cons_of_mem _ hx, y, hy, e⟩
    · rintro ⟨x, hx, y, hy, e⟩
      rcases List.mem_cons.mp hx with rfl | hx
      · exact .inl ⟨y, hy, e.symm⟩
      · exact .inr ⟨x, hx, y, hy, e⟩
theorem mem_shTo {mv : List Str} {r : PRow} : ∀ {n : Nat}, n ≤ mv.length → (r ∈ shTo mv n ↔ ∃ i j x y, i < n ∧ i < j ∧ mv[i]? = some x ∧ mv[j]? = some y ∧ r = [wA, x, y])
  | 0, _ => by simp [shTo]
  | n + 1, hn => by
    have ih := mem_shTo (mv := mv) (r := r) (n := n) (by omega)
    rw [shTo, List.mem_append, ih, List.mem_map]
    have hx : mv[n]? = some (mv.getD n "") := by rw [List.getD_eq_getElem?_getD, List.getElem?_eq_getElem (by omega)]; rfl
    constructor
    · rintro (⟨i, j, x, y, h1, h2, h3, h4, e⟩ | ⟨y, hy, e⟩)
      · exact ⟨i, j, x, y, by omega, h2, h3, h4, e⟩
      · obtain ⟨k, hk⟩ := List.getElem?_of_mem hy
        rw [List.getElem?_drop] at hk
        exact ⟨n, n + 1 + k, _, y, by omega, by omega, hx, hk, e.symm⟩
    · rintro ⟨i, j, x, y, h1, h2, h3, h4, e⟩
      by_cases c : i < n
      · exact .inl ⟨i, j, x, y, c, h2, h3, h4, e⟩
      · obtain rfl : i = n := by omega
        rw [hx] at h3
        refine .inr ⟨y, ?_, by rw [e, Option.some.inj h3]; rfl⟩
        refine List.mem_of_getElem? (i := j - (i + 1)) ?_
        rw [List.getElem?_drop, show i + 1 + (j - (i + 1)) = j by omega]
        exact h4
theorem mem_perms {ls mv : List Str} {r : PRow} : r ∈ allPerms ls mv ↔ PermR ls mv r := by
  unfold allPerms
  rw [List.mem_append, List.mem_append, List.mem_append, List.mem_append, List.mem_map, List.mem_map, List.mem_map, mem_shows, mem_shTo (Nat.le_refl _)]
  constructor
  · rintro ((((⟨x, hx, e⟩ | ⟨x, hx, e⟩) | ⟨x, hx, e⟩) | ⟨x, hx, y, hy, e⟩) | ⟨i, j, x, y, _, h2, h3, h4, e⟩)
    · rw [← e]; exact .f hx
    · rw [← e]; exact .s hx
    · rw [← e]; exact .w hx
    · rw [e]; exact .h hx hy
    · rw [e]; exact .a h2 h3 h4
  · intro h
    cases h with
    | f hx => exact .inl (.inl (.inl (.inl ⟨_, hx, rfl⟩)))
    | s hx => exact .inl (.inl (.inl (.inr ⟨_, hx, rfl⟩)))
    | w hx => exact .inl (.inl (.inr ⟨_, hx, rfl⟩))
    | h hx hy => exact .inl (.inr ⟨_, hx, _, hy, rfl⟩)
    | a h1 h2 h3 => exact .inr ⟨_, _, _, _, (List.getElem?_eq_some_iff.mp h2).1, h1, h2, h3, rfl⟩
theorem nd_map {α β : Type} {f : α → β} (hf : ∀ a b, f a = f b → a = b) {l : List α} (h : l.Nodup) : (l.map f).Nodup := by
  unfold List.Nodup
  rw [List.pairwise_map]
  exact h.imp fun n e => n (hf _ _ e)
theorem nd_shows {mv : List Str} (hm : mv.Nodup) : ∀ {a : List Str}, a.Nodup → (showsOf a mv).Nodup
  | [], _ => by simp [showsOf]
  | x :: a, h => by
    obtain ⟨h1, h2⟩ := List.nodup_cons.mp h
    have ih := nd_shows hm h2
    have e : showsOf (x :: a) mv = (mv.map fun y => ([wH, x, y] : PRow)) ++ showsOf a mv := by unfold showsOf; rw [List.flatMap_cons]; rfl
    rw [e]
    refine List.nodup_append.mpr ⟨nd_map (fun a b e => by simpa using e) hm, ih, fun r hr s hs z => ?_⟩
    obtain ⟨y, _, rfl⟩ := List.mem_map.mp hr
    obtain ⟨x', hx', y', _, rfl⟩ := mem_shows.mp hs
    simp only [List.cons.injEq] at z
    exact h1 (by rw [z.2.1]; exact hx')
theorem at_inj {α : Type} {l : List α} (h : l.Nodup) {i j : Nat} {x : α} (hi : l[i]? = some x) (hj : l[j]? = some x) : i = j := by
  obtain ⟨li, ei⟩ := List.getElem?_eq_some_iff.mp hi
  obtain ⟨lj, ej⟩ := List.getElem?_eq_some_iff.mp hj
  have pw := List.pairwise_iff_getElem.mp h
  rcases Nat.lt_trichotomy i j with c | c | c
  · exact absurd (ei.trans ej.symm) (pw i j li lj c)
  · exact c
  · exact absurd (ej.trans ei.symm) (pw j i lj li c)
theorem nd_shTo {mv : List Str} (hm : mv.Nodup) : ∀ {n : Nat}, n ≤ mv.length → (shTo mv n).Nodup
  | 0, _ => by simp [shTo]
  | n + 1, hn => by
    have ih := nd_shTo hm (n := n) (by omega)
    have hx : mv[n]? = some (mv.getD n "") := by rw [List.getD_eq_getElem?_getD, List.getElem?_eq_getElem (by omega)]; rfl
    rw [shTo]
    refine List.nodup_append.mpr ⟨ih, nd_map (fun a b e => by simpa using e) (hm.sublist (List.drop_sublist _ _)), fun r hr s hs z => ?_⟩
    obtain ⟨i, j, x, y, h1, h2, h3, h4, rfl⟩ := (mem_shTo (by omega)).mp hr
    obtain ⟨y', _, rfl⟩ := List.mem_map.mp hs
    simp only [List.cons.injEq] at z
    have := at_inj hm h3 (by rw [z.2.1]; exact hx)
    omega
theorem nd_perms {ls mv : List Str} (h1 : ls.Nodup) (h2 : mv.Nodup) : (allPerms ls mv).Nodup := by
  obtain ⟨n1, n2, n3, n4, n5, n6, n7, n8, n9, n10⟩ := w_ne
  have hd : ∀ {a b : Str} {l m : List Str}, a :: l = b :: m → a = b := fun e => (List.cons.inj e).1
  have one : ∀ w : Str, ∀ {l : List Str}, l.Nodup → (l.map fun x => ([w, x] : PRow)).Nodup := fun w l h => nd_map (fun a b e => by simpa using e) h
  unfold allPerms
  refine List.nodup_append.mpr ⟨List.nodup_append.mpr ⟨List.nodup_append.mpr ⟨List.nodup_append.mpr ⟨one _ h1, one _ h1, ?_⟩, one _ h2, ?_⟩, nd_shows h2 h2, ?_⟩, nd_shTo h2 (Nat.le_refl _), ?_⟩
  · intro r hr s hs e
    obtain ⟨x, _, rfl⟩ := List.mem_map.mp hr
    obtain ⟨y, _, rfl⟩ := List.mem_map.mp hs
    exact n1 (hd e)
  · intro r hr s hs e
    obtain ⟨y, _, rfl⟩ := List.mem_map.mp hs
    rcases List.mem_append.mp hr with hr | hr
    · obtain ⟨x, _, rfl⟩ := List.mem_map.mp hr
      exact n2 (hd e)
    · obtain ⟨x, _, rfl⟩ := List.mem_map.mp hr
      exact n5 (hd e)
  · intro r hr s hs e
    obtain ⟨x, _, y, _, rfl⟩ := mem_shows.mp hs
    rcases List.mem_append.mp hr with hr | hr
    · rcases List.mem_append.mp hr with hr | hr
      · obtain ⟨x, _, rfl⟩ := List.mem_map.mp hr
        exact n3 (hd e)
      · obtain ⟨x, _, rfl⟩ := List.mem_map.mp hr
        exact n6 (hd e)
    · obtain ⟨x, _, rfl⟩ := List.mem_map.mp hr
      exact n8 (hd e)
  · intro r hr s hs e
    obtain ⟨i, j, x, y, _, _, _, _, rfl⟩ := (mem_shTo (Nat.le_refl _)).mp hs
    rcases List.mem_append.mp hr with hr | hr
    · rcases List.mem_append.mp hr with hr | hr
      · rcases List.mem_append.mp hr with hr | hr
        · obtain ⟨x, _, rfl⟩ := List.mem_map.mp hr
          exact n4 (hd e)
        · obtain ⟨x, _, rfl⟩ := List.mem_map.mp hr
          exact n7 (hd e)
      · obtain ⟨x, _, rfl⟩ := List.mem_map.mp hr
        exact n9 (hd e)
    · obtain ⟨x', _, y', _, rfl⟩ := mem_shows.mp hr
      exact n10 (hd e)
theorem GD.Fit.mvnd {g : GD} (h : g.Fit) : g.mv.Nodup := h.nd.filter _
theorem GD.Fit.pnd {g : GD} (h : g.Fit) : g.perms.Nodup := nd_perms h.nd h.mvnd
/-- the place of a row -/
theorem plK_at {rows : List PRow} (nd : rows.Nodup) : ∀ {n : Nat}, n ≤ rows.length → (∀ i r, i < n → rows[i]? = some r → valV (plK rows n) (rkey r) = some (.int (i : Nat))) ∧ (plK rows n).map (·.1) = (rows.take n).map rkey
  | 0, _ => ⟨fun i r h => absurd h (Nat.not_lt_zero _), by simp [plK]⟩
  | n + 1, hn => by
    obtain ⟨ih1, ih2⟩ := plK_at nd (n := n) (by omega)
    have hx : rows[n]? = some (rows.getD n []) := by rw [List.getD_eq_getElem?_getD, List.getElem?_eq_getElem (by omega)]; rfl
    have hno : valV (plK rows n) (rkey (rows.getD n [])) = none := by
      have : rkey (rows.getD n []) ∉ (plK rows n).map (·.1) := by
        rw [ih2]
        intro m
        obtain ⟨r, hr, e⟩ := List.mem_map.mp m
        have e := rkey_inj e
        subst e
        obtain ⟨k, hk⟩ := List.getElem?_of_mem hr
        have lk := (List.getElem?_eq_some_iff.mp hk).1
        rw [List.length_take] at lk
        rw [List.getElem?_take_of_lt (by omega)] at hk
        have := at_inj nd hk hx
        omega
      unfold valV
      rw [Option.map_eq_none_iff, List.find?_eq_none]
      intro e he z
      exact this (List.mem_map.mpr ⟨e, he, by simpa using z⟩)
    refine ⟨fun i r hi hr => ?_, ?_⟩
    · rw [plK]
      show valV (putK (plK rows n) (rkey (rows.getD n [])) _) (rkey r) = _
      rw [valV_put]
      by_cases c : i = n
      · subst c
        rw [hx] at hr
        rw [if_pos (by rw [Option.some.inj hr])]
      · rw [if_neg (fun e => c (at_inj nd hr (by rw [rkey_inj e]; exact hx)))]
        exact ih1 i r (by omega) hr
    · rw [plK]
      show (putK (plK rows n) (rkey (rows.getD n [])) _).map (·.1) = _
      rw [putK_new _ hno, List.map_append, ih2, List.take_add_one, hx, List.map_append]
      rfl
/-- the place told by that dict -/
def placeK (rows : List PRow) (k : List Key) : Int := match valV (plK rows rows.length) k with | some (.int n) => n | _ => 0
theorem placeK_at {rows : List PRow} (nd : rows.Nodup) {i : Nat} {r : PRow} (h : rows[i]? = some r) : placeK rows (rkey r) = (i : Nat) ∧ valV (plK rows rows.length) (rkey r) = some (.int (i : Nat)) := by
  have := (plK_at nd (Nat.le_refl _)).1 i r (List.getElem?_eq_some_iff.mp h).1 h
  refine ⟨?_, this⟩
  unfold placeK
  rw [this]
theorem place_rising {rows : List PRow} (nd : rows.Nodup) : (rows.map rkey).Pairwise fun a b => placeK rows a < placeK rows b := by
  rw [List.pairwise_iff_getElem]
  intro i j hi hj hij
  rw [List.length_map] at hi hj
  rw [List.getElem_map, List.getElem_map, (placeK_at nd (List.getElem?_eq_getElem hi)).1, (placeK_at nd (List.getElem?_eq_getElem hj)).1]
  omega
/-- THE order of some rows -/
theorem sorted_rows {rows had : List PRow} {ks : List (List Key)} (nd : rows.Nodup) (hn : had.Nodup) (sub : ∀ r ∈ had, r ∈ rows) (pm : ks.Perm (had.map rkey)) (srt : ks.Pairwise fun a b => placeK rows a ≤ placeK rows b) : ks = (rows.filter fun r => decide (r ∈ had)).map rkey := by
  have up := place_rising nd
  have fl : ((rows.filter fun r => decide (r ∈ had)).map rkey).Pairwise fun a b => placeK rows a < placeK rows b := by
    rw [List.pairwise_map] at up ⊢
    exact up.filter _
  have inj : ∀ a ∈ rows, ∀ b ∈ rows, placeK rows (rkey a) = placeK rows (rkey b) → a = b := fun a ha b hb e => by
    obtain ⟨i, hi⟩ := List.getElem?_of_mem ha
    obtain ⟨j, hj⟩ := List.getElem?_of_mem hb
    rw [(placeK_at nd hi).1, (placeK_at nd hj).1] at e
    obtain rfl : i = j := by omega
    rw [hi] at hj
    exact Option.some.inj hj
  refine List.Perm.eq_of_pairwise (le := fun a b => placeK rows a ≤ placeK rows b) (fun a b ha hb h1 h2 => ?_) srt (fl.imp fun h => by omega) (pm.trans ?_)
  · obtain ⟨x, hx, rfl⟩ := List.mem_map.mp (pm.mem_iff.mp ha)
    obtain ⟨y, hy, rfl⟩ := List.mem_map.mp hb
    rw [inj x (sub x hx) y (List.mem_filter.mp hy).1 (by omega)]
  · refine List.Perm.map _ ((List.perm_ext_iff_of_nodup hn (nd.filter _)).mpr fun r => ?_)
    rw [List.mem_filter]
    simp only [decide_eq_true_eq]
    exact ⟨fun h => ⟨sub r h, h⟩, fun h => h.2⟩
/-- the one of the known rows that a row tells -/
def amgR (known : List PRow) (r : PRow) : PRow := if r.length = 3 ∧ r.getD 0 "" = wA ∧ r ∉ known then [wA, r.getD 2 "", r.getD 1 ""] else r
def amg (known : List PRow) (r : PRow) : Option PRow := if amgR known r ∈ known then some (amgR known r) else none
theorem valV_row {r : PRow} : ∀ {kvs : List (List Key × V)} {known : List PRow}, kvs.map (·.1) = known.map rkey → (valV kvs (rkey r)).isSome = decide (r ∈ known)
  | [], [], _ => rfl
  | [], _ :: _, h => nomatch h
  | _ :: _, [], h => nomatch h
  | e :: kvs, l :: known, h => by
    rw [List.map_cons, List.map_cons] at h
    injection h with h1 h2
    by_cases c : l = r
    · subst c
      rw [valV_pos h1]
      simp
    · rw [valV_neg (fun z => c (rkey_inj (h1.symm.trans z))), valV_row h2]
      have : ¬ r = l := fun z => c z.symm
      simp [this]
theorem trR_keys (rs : List PRow) : (trR rs).map (·.1) = rs.map rkey := by unfold trR; rw [List.map_map]; rfl
theorem row_kV (r : PRow) : sts r = (rkey r).map kV := sts_kV r
end GB
set_option Elab.async false
set_option linter.all false
set_option autoImplicit false
set_option maxRecDepth 100000
set_option maxHeartbeats 4000000
/-! Plain data of texts and truths, compared: equal just if the very same. -/
namespace GB
open PySem PySem.Spec L2
mutual
def plO : PyData → Bool
  | .str _ => true
  | .bool _ => true
  | .list ds => plOs ds
  | .tuple ds => plOs ds
  | _ => false
def plOs : List PyData → Bool
  | [] => true
  | d :: r => plO d && plOs r
end
mutual
theorem eqv_pl : ∀ d e : PyData, plO d = true → plO e = true → PyData.eqv d e = true → d = e
  | .str a, .str b, _, _, h => by simp [PyData.eqv] at h; rw [h]
  | .bool a, .bool b, _, _, h => by simp [PyData.eqv] at h; rw [h]
  | .tuple xs, .tuple ys, h1, h2, h => by
    rw [plO] at h1 h2
    simp only [PyData.eqv] at h
    rw [eqv_pls xs ys h1 h2 h]
  | .list xs, .list ys, h1, h2, h => by
    rw [plO] at h1 h2
    simp only [PyData.eqv] at h
    rw [eqv_pls xs ys h1 h2 h]
  | .str a, .bool b, _, _, h => by simp [PyData.eqv] at h
  | .str a, .list b, _, _, h => by simp [PyData.eqv] at h
  | .str a, .tuple b, _, _, h => by simp [PyData.eqv] at h
  | .bool a, .str b, _, _, h => by simp [PyData.eqv] at h
  | .bool a, .list b, _, _, h => by simp [PyData.eqv] at h
  | .bool a, .tuple b, _, _, h => by simp [PyData.eqv] at h
  | .list a, .str b, _, _, h => by simp [PyData.eqv] at h
  | .list a, .bool b, _, _, h => by simp [PyData.eqv] at h
  | .list a, .tuple b, _, _, h => by simp [PyData.eqv] at h
  | .tuple a, .str b, _, _, h => by simp [PyData.eqv] at h
  | .tuple a, .bool b, _, _, h => by simp [PyData.eqv] at h
  | .tuple a, .list b, _, _, h => by simp [PyData.eqv] at h
theorem eqv_pls : ∀ xs ys : List PyData, plOs xs = true → plOs ys = true → PyData.eqvAll xs ys = true → xs = ys
  | [], [], _, _, _ => rfl
  | x :: xs, y :: ys, h1, h2, h => by
    rw [plOs] at h1 h2
    obtain ⟨a1, a2⟩ := Bool.and_eq_true_iff.mp h1
    obtain ⟨b1, b2⟩ := Bool.and_eq_true_iff.mp h2
    simp only [PyData.eqvAll] at h
    obtain ⟨c1, c2⟩ := Bool.and_eq_true_iff.mp h
    rw [eqv_pl x y a1 b1 c1, eqv_pls xs ys a2 b2 c2]
  | [], y :: ys, _, _, h => by simp [PyData.eqvAll] at h
  | x :: xs, [], _, _, h => by simp [PyData.eqvAll] at h
end
mutual
theorem eqv_self : ∀ d : PyData, plO d = true → PyData.eqv d d = true
  | .str a, _ => by simp [PyData.eqv]
  | .bool a, _ => by simp [PyData.eqv]
  | .tuple xs, h => by
    rw [plO] at h
    simp only [PyData.eqv]
    exact eqv_selfs xs h
  | .list xs, h => by
    rw [plO] at h
    simp only [PyData.eqv]
    exact eqv_selfs xs h
theorem eqv_selfs : ∀ xs : List PyData, plOs xs = true → PyData.eqvAll xs xs = true
  | [], _ => by simp [PyData.eqvAll]
  | x :: xs, h => by
    rw [plOs] at h
    obtain ⟨a1, a2⟩ := Bool.and_eq_true_iff.mp h
    simp only [PyData.eqvAll]
    rw [eqv_self x a1, eqv_selfs xs a2]
    rfl
end
/-- a list of texts -/
def strD (l : List Str) : PyData := .list (l.map .str)
def strT (l : List Str) : PyData := .tuple (l.map .str)
def factD (f : Fact) : PyData := .tuple [.str f.x, strT f.vals, .tuple [.str f.kind, .str f.en]]
def factsD (fs : List Fact) : PyData := .list (fs.map factD)
theorem pl_strs (l : List Str) : plOs (l.map PyData.str) = true := by
  induction l with
  | nil => rfl
  | cons x r ih => rw [List.map_cons, plOs, ih]; rfl
theorem pl_strD (l : List Str) : plO (strD l) = true := by rw [strD, plO]; exact pl_strs l
theorem pl_factD (f : Fact) : plO (factD f) = true := by
  simp only [factD, strT, plO, plOs, pl_strs, Bool.and_true, Bool.true_and]
theorem pl_factsD (fs : List Fact) : plO (factsD fs) = true := by
  rw [factsD, plO]
  induction fs with
  | nil => rfl
  | cons f r ih => rw [List.map_cons, plOs, ih, pl_factD]; rfl
theorem strs_inj : ∀ {a b : List Str}, a.map PyData.str = b.map PyData.str → a = b
  | [], [], _ => rfl
  | [], _ :: _, h => nomatch h
  | _ :: _, [], h => nomatch h
  | x :: a, y :: b, h => by
    rw [List.map_cons, List.map_cons] at h
    injection h with h1 h2
    injection h1 with h1
    rw [h1, strs_inj h2]
theorem factD_inj {f f' : Fact} (h : factD f = factD f') : f = f' := by
  obtain ⟨x, vs, k, n⟩ := f
  obtain ⟨x', vs', k', n'⟩ := f'
  simp only [factD, strT] at h
  injection h with h
  injection h with h1 h
  injection h with h2 h
  injection h with h3 h
  injection h1 with h1
  injection h2 with h2
  injection h3 with h3
  injection h3 with h4 h5
  injection h5 with h5 h6
  injection h4 with h4
  injection h5 with h5
  rw [h1, strs_inj h2, h4, h5]
theorem factsD_inj : ∀ {a b : List Fact}, a.map factD = b.map factD → a = b
  | [], [], _ => rfl
  | [], _ :: _, h => nomatch h
  | _ :: _, [], h => nomatch h
  | x :: a, y :: b, h => by
    rw [List.map_cons, List.map_cons] at h
    injection h with h1 h2
    rw [factD_inj h1, factsD_inj h2]
instance : DecidableEq Fact := fun a b =>
  if h : a.x = b.x ∧ a.vals = b.vals ∧ a.kind = b.kind ∧ a.en = b.en then .isTrue (by
    obtain ⟨x, vs, k, n⟩ := a
    obtain ⟨x', vs', k', n'⟩ := b
    obtain ⟨h1, h2, h3, h4⟩ := h
    simp only at h1 h2 h3 h4
    subst h1 h2 h3 h4
    rfl) else .isFalse fun e => h (by subst e; exact ⟨rfl, rfl, rfl, rfl⟩)
theorem eqv_strD (a b : List Str) : PyData.eqv (strD a) (strD b) = decide (a = b) := by
  by_cases h : a = b
  · subst h
    rw [decide_eq_true rfl]
    exact eqv_self _ (pl_strD a)
  · rw [decide_eq_false h]
    refine Bool.eq_false_iff.mpr fun e => h ?_
    have := eqv_pl _ _ (pl_strD a) (pl_strD b) e
    simp only [strD] at this
    injection this with this
    exact strs_inj this
theorem eqv_factsD (a b : List Fact) : PyData.eqv (factsD a) (factsD b) = decide (a = b) := by
  by_cases h : a = b
  · subst h
    rw [decide_eq_true rfl]
    exact eqv_self _ (pl_factsD a)
  · rw [decide_eq_false h]
    refine Bool.eq_false_iff.mpr fun e => h ?_
    have := eqv_pl _ _ (pl_factsD a) (pl_factsD b) e
    simp only [factsD] at this
    injection this with this
    exact factsD_inj this
/-! ### where they stand -/
section
variable {K : PySem.W.Frag} {H : Hp}
theorem dps_sts : ∀ l : List Str, DpAll K H (sts l) (l.map PyData.str)
  | [] => .nil
  | x :: r => .cons (.str x) (dps_sts r)
theorem dp_strD {a : Addr} {l : List Str} (h : SqL K H a (sts l)) : Dp K H (.ref a) (strD l) := .lst h (dps_sts l)
theorem dp_factD {f : Fact} {t : Addr} (h : FactAt H f t) : Dp K H (.ref t) (factD f) := by
  obtain ⟨v, e, h1, h2, h3⟩ := h.ex
  exact .tup (SqT.of h1) (.cons (.str _) (.cons (.tup (SqT.of h2) (dps_sts _)) (.cons (.tup (SqT.of h3) (dps_sts [f.kind, f.en])) .nil)))
theorem dps_facts : ∀ {fs : List Fact} {ts : List Addr}, Paired (FactAt H) fs ts → DpAll K H (ts.map V.ref) (fs.map factD)
  | _, _, .nil => .nil
  | _, _, .cons h t => .cons (dp_factD h) (dps_facts t)
theorem dp_factsD {a : Addr} {fs : List Fact} (h : FactsAt H a fs) : Dp K H (.ref a) (factsD fs) := by
  obtain ⟨ts, h1, h2⟩ := h
  exact .lst (SqL.of h1) (dps_facts h2)
end
/-! ### they can be compared -/
theorem dep_strs (l : List Str) : PyData.depthAll (l.map PyData.str) = 0 := by
  induction l with
  | nil => simp [PyData.depthAll]
  | cons x r ih => simp [PyData.depthAll, PyData.depth, ih]
theorem dep_facts (fs : List Fact) : PyData.depthAll (fs.map factD) ≤ 2 := by
  induction fs with
  | nil => simp [PyData.depthAll]
  | cons f r ih =>
    have : PyData.depth (factD f) ≤ 2 := by simp [factD, strT, PyData.depth, PyData.depthAll, dep_strs]
    simp only [List.map_cons, PyData.depthAll]
    omega
theorem lay_strs : ∀ l : List Str, (∀ x ∈ l, PyData.strOk x = true) → PyData.canLayAll0 (l.map PyData.str) = true
  | [], _ => by simp [PyData.canLayAll0]
  | x :: r, h => by
    simp only [List.map_cons, PyData.canLayAll0, PyData.canLay0, h x List.mem_cons_self, lay_strs r fun y hy => h y (List.mem_cons_of_mem _ hy), Bool.and_true]
theorem shp_strD {l : List Str} (h : ∀ x ∈ l, PyData.strOk x = true) : SeqAt.shaped (strD l) = true := by
  have d := dep_strs l
  simp only [SeqAt.shaped, strD, PyData.canLay0, PyData.depth, lay_strs l h, d]
  rfl
theorem lay_facts : ∀ fs : List Fact, (∀ f ∈ fs, PyData.strOk f.x = true ∧ (∀ v ∈ f.vals, PyData.strOk v = true) ∧ PyData.strOk f.kind = true ∧ PyData.strOk f.en = true) → PyData.canLayAll0 (fs.map factD) = true
  | [], _ => by simp [PyData.canLayAll0]
  | f :: r, h => by
    obtain ⟨h1, h2, h3, h4⟩ := h f List.mem_cons_self
    simp only [List.map_cons, PyData.canLayAll0, factD, strT, PyData.canLay0, h1, lay_strs _ h2, h3, h4, lay_facts r fun y hy => h y (List.mem_cons_of_mem _ hy), Bool.and_true]
theorem shp_factsD {fs : List Fact} (h : ∀ f ∈ fs, PyData.strOk f.x = true ∧ (∀ v ∈ f.vals, PyData.strOk v = true) ∧ PyData.strOk f.kind = true ∧ PyData.strOk f.en = true) : SeqAt.shaped (factsD fs) = true := by
  have d := dep_facts fs
  simp only [SeqAt.shaped, factsD, PyData.canLay0, PyData.depth, lay_facts fs h, Bool.true_and, decide_eq_true_eq]
  omega
end GB
set_option Elab.async false
set_option linter.all false
set_option maxRecDepth 100000
set_option maxHeartbeats 4000000
/-! for x in o, [.. for x in o]: o of a class with its own def __iter__ that gives a new iterator over a list. -/
namespace GB
open PySem PySem.Spec L2 PyProof.Rows ItX
/-- a def's promise, told by the number of objects that there were -/
structure FnN (P : Program) (w : World) (K : PySem.W.Frag) (mg : Str → Option Value) (base : Heap) (k : Nat) (f : Addr) (fd : FuncData) (ps : List Str) (sp : Nat → Sp) : Prop where
  len : ∀ n vs H Q E, sp n vs H Q E → vs.length = ps.length
  run : ∀ (A : Around) (outer : List Env) (s : Shared) (H : Hp) (args : Args) (us : List Value) (vs : List V) (Q : VK) (E : XK), Room k A → Env0 P w K mg base A outer s H → BindsTo s fd args (ps.zip us) → Vals vs us → sp s.heap.objs.size vs H Q E →
    codeAny (model P w) A (.call (.ref f) args) (CR CX0 outer P w H s Q E) s
section
variable {P : Program} {w : World} {K : PySem.W.Frag} {mg : Str → Option Value} {base : Heap}
theorem okN {x qual : Str} {st : Stmt} {f : Addr} {fd : FuncData} {N ps : List Str} {k : Nat} {sp : Nat → Sp} (F : Fun K x qual st f fd) (S : FnScope N ps (defScope st)) (len : ∀ n vs H Q E, sp n vs H Q E → vs.length = ps.length)
    (go : ∀ (cdv : Value) (A : Around) (outer : List Env) (s : Shared) (H : Hp) (vs : List V) (Q : VK) (E : XK), Room k (A.deeper (envOfC qual (defScope st) s.heap.objs.size f cdv)) → sp s.heap.objs.size vs H Q E →
      ∃ t, PSs (cxOf CX0 P w K mg base N qual (defScope st) f cdv A outer s H E).nox (defBody st) t ∧ t { nx := fun _ H' => Q .non H', rt := Q } (start N vs) H) : FnN P w K mg base (k + 1) f fd ps sp := by
  obtain ⟨oc, od, kV, doc, pm, an, cdv, ct, osl, rfl, lk, cd⟩ := F.ex
  refine ⟨len, fun A up s H args us vs Q E room e0 bnd rel h => ?_⟩
  have hl := len _ _ _ _ _ h
  have kx : K.In s.heap := e0.mod.kin.keeps fun b o e => (e0.bs b o e).1
  have nl : s.heap.NoLimit := e0.mod.nolimit.keeps fun b o e => (e0.bs b o e).1
  have kinds : ∀ y ∈ ps.zip us, (defScope st).names.lookup y.1 = some .local ∨ ((defScope st).names.lookup y.1 = some .cell ∧ ((cellsFrom (s.heap.objs.size + 1) (defScope st).names []).lookup y.1).isSome = true) := by
    rintro ⟨n, v⟩ hy
    exact (S.par n (List.of_mem_zip hy).1).imp id fun q => ⟨q, PySem.W.cellsFrom_some _ _ _ (.inl q)⟩
  refine codeAny_call_function room.depth (kx _ _ lk) rfl S.co S.gen rfl (PySem.W.codeRec_of kx cd) (bnd _ _ _ _ ?_)
  refine wpAny_newFunctionEnv_cells S.kind kinds fun env he s1 z => ?_
  cases he
  obtain ⟨t, ht, hq⟩ := go cdv A up s H vs Q E (room.deeper _) h
  have I : Inv (cxOf CX0 P w K mg base N qual (defScope st) f cdv A up s H E) [] (start N vs) H s1 := inv_start S room.hd e0 hl rel z
  refine ⟨nl.keeps z.toInCall.keep, codeAny_func (wpAny_mono (ht.nox.run [] s1 (start N vs) H _ I hq) (fun fl s' hs => ?_) fun _ _ hs => hs)⟩
  cases fl with
  | ret u =>
    obtain ⟨v, σ', H', J, rv, q⟩ := hs
    exact ⟨v, H', J.os, J.bare, J.base, J.hok, rv, q⟩
  | next =>
    obtain ⟨σ', H', J, q⟩ := hs
    exact ⟨V.non, H', J.os, J.bare, J.base, J.hok, rfl, q⟩
  | brk => exact hs.elim fun _ z => z.elim fun _ z => z.2.elim
  | cont => exact hs.elim fun _ z => z.elim fun _ z => z.2.elim
end
/-- a walk over o: its __iter__ is asked -/
def iItOwn (K : PySem.W.Frag) (C : Addr) (sp : Nat → Sp) (n0 : Nat) (tl : TE) : TI := fun σ H R => tl σ H fun x H1 => ∃ a dx fs, x = .ref a ∧ H1 a = some (.ins C dx fs) ∧ ∀ n, n0 ≤ n → sp n [.ref a] H1 (fun z H' => ∃ l it, z = .ref it ∧ n0 ≤ it ∧ H' it = some (ItO l it 0) ∧ R (Itl K l) (dropH H' it)) E0
section
variable {X : Cx} {k : Nat} {f C : Addr} {fd : FuncData} {ps : List Str} {sp : Nat → Sp} {tg l : Expr} {tl : TE}
theorem pi_itOwn (hs : PySem.W.findIn X.K (.ref C) "__iter__" = some (some (.ref f))) (hf : PySem.W.isFn X.K (.ref f) = true) (F : FnN X.prog X.w X.K X.mg X.base k f fd ps sp) (hr : Room k X.A) (hb : Binds X.K fd ps []) (hl : PE X l tl) : PI X tg l (iItOwn X.K C sp X.s_0.heap.objs.size tl) := by
  refine ⟨fun pins s σ H R I h => ?_⟩
  refine thn (hl.run pins s σ H _ I h) fun v s1 ⟨x, H1, I1, r1, a, dx, fs, ex, ha, q⟩ => ?_
  subst ex
  cases (show v = Value.ref a from r1)
  obtain ⟨mA, O, _, _, _, _⟩ := ins_get I1.hok ha
  obtain ⟨od, J, _⟩ := O.look
  obtain ⟨m, hF⟩ := I1.fr
  have q := q _ I1.sz
  have r2 : Vals [.ref a] [.ref a] := .cons rfl .nil
  have hl : ([Value.ref a] ++ ([] : List Value)).length = ps.length := by
    rw [List.append_nil, ← r2.length]; exact F.len _ _ _ _ _ q
  refine PySem.W.owit_iter hF I1.ok.mod.kin J hs hf (wpAny_call (codeAny_mono (F.run X.A X.stack s1 H1 ⟨[.ref a], []⟩ ([.ref a] ++ []) ([.ref a] ++ []) _ E0 hr I1.env0 (hb s1 [.ref a] I1.kIn hl) (r2.append .nil) q) fun r s' hq => ?_))
  cases r with
  | error e => exact (pass0 pins σ H1 s1 e s' I1 hq)
  | ok fl =>
    cases fl with
    | ret w =>
      obtain ⟨z', H', I', rz, l, it, ez, hn, hi, qz⟩ := I1.after hq
      subst ez
      cases (show w = Value.ref it from rz)
      have eo := itO_get I' hi
      have hT : s'.TypeIs (.ref it) "list_iterator" := ⟨_, eo, rfl⟩
      have st : s'.heap.IsListIter it l 0 := ⟨_, eo, rfl, rfl⟩
      unfold ItO at hi
      show PySem.W.OwitIt _ _ _ _ _ _
      unfold PySem.W.OwitIt
      refine wpAny_specialOf (name := Str.ofString "__next__") hT slot_listiter_next.lookup ?_
      refine ⟨it, [it], _, _, dropH H' it, rfl, inv_drop I' hi, turn_list l it, st, fun b hb => ?_, qz⟩
      have e : b = it := by simpa using hb
      rw [e]
      exact inv_fp I' hi hn
    | next => exact False.elim hq
    | brk => exact False.elim hq
    | cont => exact False.elim hq
end
end GB
set_option Elab.async false
set_option linter.all false
set_option autoImplicit false
set_option maxRecDepth 100000
set_option maxHeartbeats 4000000
/-! Texts of terms as lists of signs, and that unlike terms have unlike texts. -/
namespace GB
open PySem PySem.Spec L2
def cl (s : Str) : List Nat := s.cps.toList
def wdsW : List Str := ["if", "and", "or", "not", "then", "bind", "try", "last", "fail"]
mutual
def txL : Tm → List Nat
  | .mk w n ks =>
    if w = "value" then 39 :: cl n
    else if w = "name" then cl n
    else if w = "fail" then cl "fail" ++ 40 :: (cl n ++ [41])
    else if w = "use" then (if n ∈ wdsW then [46] else []) ++ (cl n ++ 40 :: (txA ks ++ [41]))
    else if w = "bind" then cl "bind" ++ 40 :: (cl n ++ (txR ks ++ [41]))
    else cl w ++ 40 :: (txA ks ++ [41])
def txA : List Tm → List Nat
  | [] => []
  | k :: r => txL k ++ txR r
def txR : List Tm → List Nat
  | [] => []
  | k :: r => 44 :: 32 :: (txL k ++ txR r)
end
theorem cl_inj {a b : Str} (h : cl a = cl b) : a = b := by
  cases a with
  | mk a => cases b with
    | mk b => exact congrArg Str.mk (Array.toList_inj.mp h)
def ltr (c : Nat) : Prop := 97 ≤ c ∧ c ≤ 122
theorem signB_iff {c : Nat} : signB c = true ↔ ltr c := by
  unfold signB ltr
  have h1 : ([c] < [97]) ↔ c < 97 := by simp [List.cons_lt_cons_iff]
  have h2 : ([122] < [c]) ↔ 122 < c := by simp [List.cons_lt_cons_iff]
  simp only [h1, h2, Bool.and_eq_true, Bool.not_eq_true', decide_eq_false_iff_not]
  omega
theorem nameB_ltr {n : Str} (h : nameB n = true) : (∀ c ∈ cl n, ltr c) ∧ 1 ≤ (cl n).length ∧ (cl n).length ≤ 8 := by
  unfold nameB at h
  obtain ⟨h1, h2⟩ := Bool.and_eq_true_iff.mp h
  have h1 := of_decide_eq_true h1
  refine ⟨fun c hc => signB_iff.mp (List.all_eq_true.mp h2 c hc), ?_⟩
  have e : (cl n).length = n.length := by unfold cl; rw [Array.length_toList]; rfl
  omega
def NoL (q : List Nat) : Prop := ∀ c r, q = c :: r → ¬ ltr c
def Stop (q : List Nat) : Prop := ∀ c r, q = c :: r → c = 41 ∨ c = 44
theorem Stop.nol {q : List Nat} (h : Stop q) : NoL q := fun c r e l => by
  unfold ltr at l
  rcases h c r e with z | z <;> omega
theorem stop41 (q : List Nat) : Stop (41 :: q) := fun c r e => by cases e; exact .inl rfl
theorem nol40 (q : List Nat) : NoL (40 :: q) := fun c r e l => by cases e; unfold ltr at l; omega
theorem name_split : ∀ {a b q q' : List Nat}, (∀ c ∈ a, ltr c) → (∀ c ∈ b, ltr c) → NoL q → NoL q' → a ++ q = b ++ q' → a = b ∧ q = q'
  | [], [], _, _, _, _, _, _, e => ⟨rfl, e⟩
  | [], y :: b, q, q', _, hb, hq, _, e => absurd (hb y List.mem_cons_self) (hq y _ e)
  | x :: a, [], q, q', ha, _, _, hq', e => absurd (ha x List.mem_cons_self) (hq' x _ e.symm)
  | x :: a, y :: b, q, q', ha, hb, hq, hq', e => by
    have e1 : x = y := (List.cons.inj e).1
    obtain ⟨i, j⟩ := name_split (fun c hc => ha c (List.mem_cons_of_mem _ hc)) (fun c hc => hb c (List.mem_cons_of_mem _ hc)) hq hq' (List.cons.inj e).2
    exact ⟨by rw [e1, i], j⟩
/-- what stands ahead of a bracket, and what behind it -/
structure Call (t : Tm) (a : Str) (rest : List Nat) : Prop where
  tx : txL t = cl a ++ 40 :: rest
  lt : ∀ c ∈ cl a, ltr c
  ne : cl a ≠ []
inductive Shp (L : List (Str × Nat)) (t : Tm) : Prop
  | val {n} : t = .mk "value" n [] → nameB n = true → txL t = 39 :: cl n → Shp L t
  | name {n} : t = .mk "name" n [] → nameB n = true → txL t = cl n → Shp L t
  | fail {n} : t = .mk "fail" n [] → nameB n = true → Call t "fail" (cl n ++ [41]) → Shp L t
  | dot {n ks} : t = .mk "use" n ks → nameB n = true → n ∈ wdsW → txL t = 46 :: (cl n ++ 40 :: (txA ks ++ [41])) → Shp L t
  | use {n ks} : t = .mk "use" n ks → nameB n = true → n ∉ wdsW → Call t n (txA ks ++ [41]) → Shp L t
  | bind {n ks} : t = .mk "bind" n ks → nameB n = true → Call t "bind" (cl n ++ (txR ks ++ [41])) → Shp L t
  | op {w m ks} : t = .mk w "" ks → (w, m) ∈ opsW → Call t w (txA ks ++ [41]) → Shp L t
theorem shp {L : List (Str × Nat)} (hL : ∀ q ∈ L, nameB q.1 = true) {ns : List Str} {t : Tm} (h : TmOk L ns t) : Shp L t := by
  cases h with
  | @mk _ w n ks hH hK =>
  have nil : ks.length = 0 → ks = [] := List.eq_nil_of_length_eq_zero
  have op' : ∀ {m : Nat}, (w, m) ∈ opsW → w ≠ "value" ∧ w ≠ "name" ∧ w ≠ "fail" ∧ w ≠ "use" ∧ w ≠ "bind" ∧ nameB w = true := fun hm => (show ∀ q ∈ opsW, q.1 ≠ "value" ∧ q.1 ≠ "name" ∧ q.1 ≠ "fail" ∧ q.1 ≠ "use" ∧ q.1 ≠ "bind" ∧ nameB q.1 = true by decide +kernel) _ hm
  generalize hm : ks.length = m at hH
  have ne : ∀ {x : Str}, nameB x = true → cl x ≠ [] := fun h e => by
    have := (nameB_ltr h).2.1
    rw [e] at this
    simp at this
  cases hH with
  | val h => obtain rfl := nil hm; exact .val rfl h (by rw [txL, if_pos rfl])
  | name h _ => obtain rfl := nil hm; exact .name rfl h (by rw [txL, if_neg (by decide), if_pos rfl])
  | fail h => obtain rfl := nil hm; exact .fail rfl h ⟨by rw [txL, if_neg (by decide), if_neg (by decide), if_pos rfl], (nameB_ltr (by decide +kernel)).1, ne (by decide +kernel)⟩
  | use h =>
    have nb := hL _ h
    by_cases hw : n ∈ wdsW
    · exact .dot rfl nb hw (by rw [txL, if_neg (by decide), if_neg (by decide), if_neg (by decide), if_pos rfl, if_pos hw]; rfl)
    · exact .use rfl nb hw ⟨by rw [txL, if_neg (by decide), if_neg (by decide), if_neg (by decide), if_pos rfl, if_neg hw]; rfl, (nameB_ltr nb).1, ne nb⟩
  | bind h _ => exact .bind rfl h ⟨by rw [txL, if_neg (by decide), if_neg (by decide), if_neg (by decide), if_neg (by decide), if_pos rfl], (nameB_ltr (by decide +kernel)).1, ne (by decide +kernel)⟩
  | op h =>
    obtain ⟨h1, h2, h3, h4, h5, h6⟩ := op' h
    exact .op rfl h ⟨by rw [txL, if_neg h1, if_neg h2, if_neg h3, if_neg h4, if_neg h5], (nameB_ltr h6).1, ne h6⟩
/-- the first sign -/
theorem Shp.first {L : List (Str × Nat)} {t : Tm} (h : Shp L t) : ∃ c r, txL t = c :: r ∧ c ≠ 41 ∧ c ≠ 44 := by
  have lt : ∀ {l : List Nat} {q : List Nat}, (∀ c ∈ l, ltr c) → l ≠ [] → ∃ c r, l ++ q = c :: r ∧ c ≠ 41 ∧ c ≠ 44 := fun {l q} h n => by
    cases l with
    | nil => exact absurd rfl n
    | cons c r =>
      have := h c List.mem_cons_self
      unfold ltr at this
      exact ⟨c, r ++ q, rfl, by omega, by omega⟩
  have ne : ∀ {x : Str}, nameB x = true → cl x ≠ [] := fun h e => by
    have := (nameB_ltr h).2.1
    rw [e] at this
    simp at this
  cases h with
  | val e hn tx => exact ⟨39, _, tx, by decide, by decide⟩
  | name e hn tx =>
    rw [tx]
    have := lt (q := []) (nameB_ltr hn).1 (ne hn)
    rwa [List.append_nil] at this
  | fail e hn c => rw [c.tx]; exact lt c.lt c.ne
  | dot e hn hw tx => exact ⟨46, _, tx, by decide, by decide⟩
  | use e hn hw c => rw [c.tx]; exact lt c.lt c.ne
  | bind e hn c => rw [c.tx]; exact lt c.lt c.ne
  | op e hm c => rw [c.tx]; exact lt c.lt c.ne
end GB
namespace GB
open PySem PySem.Spec L2
theorem call_eq {L : List (Str × Nat)} {t t' : Tm} {a a' : Str} {r r' p p' : List Nat} (c : Call t a r) (c' : Call t' a' r') (e : txL t ++ p = txL t' ++ p') : a = a' ∧ r ++ p = r' ++ p' := by
  rw [c.tx, c'.tx, List.append_assoc, List.append_assoc] at e
  obtain ⟨h1, h2⟩ := name_split c.lt c'.lt (nol40 _) (nol40 _) e
  exact ⟨cl_inj h1, (List.cons.inj h2).2⟩
theorem args_inj {L : List (Str × Nat)} (hL : ∀ q ∈ L, nameB q.1 = true) {z : Nat} (ih : ∀ {t t' : Tm} {ns ns' : List Str} {p p' : List Nat}, t.size ≤ z → TmOk L ns t → TmOk L ns' t' → Stop p → Stop p' → txL t ++ p = txL t' ++ p' → t = t' ∧ p = p') :
    ∀ (ks ks' : List Tm) {p p' : List Nat}, Tm.sizes ks ≤ z → (∀ k ∈ ks, ∃ ns, TmOk L ns k) → (∀ k ∈ ks', ∃ ns, TmOk L ns k) → txR ks ++ 41 :: p = txR ks' ++ 41 :: p' → ks = ks' ∧ p = p'
  | [], [], p, p', _, _, _, e => ⟨rfl, (List.cons.inj e).2⟩
  | [], k' :: r', p, p', _, _, _, e => by
    rw [txR, txR] at e
    exact absurd (List.cons.inj e).1 (by decide)
  | k :: r, [], p, p', _, _, _, e => by
    rw [txR, txR] at e
    exact absurd (List.cons.inj e).1 (by decide)
  | k :: r, k' :: r', p, p', hz, hk, hk', e => by
    rw [txR, txR] at e
    have e1 : (txL k ++ txR r) ++ 41 :: p = (txL k' ++ txR r') ++ 41 :: p' := (List.cons.inj (List.cons.inj e).2).2
    rw [List.append_assoc, List.append_assoc] at e1
    obtain ⟨ns, o⟩ := hk k List.mem_cons_self
    obtain ⟨ns', o'⟩ := hk' k' List.mem_cons_self
    rw [Tm.sizes] at hz
    have st : ∀ (l : List Tm) (q : List Nat), Stop (txR l ++ 41 :: q) := fun l q => by
      cases l with
      | nil => rw [txR]; exact stop41 q
      | cons x y => rw [txR]; exact fun c r e => by cases e; exact .inr rfl
    obtain ⟨h1, h2⟩ := ih (by omega) o o' (st r p) (st r' p') e1
    obtain ⟨h3, h4⟩ := args_inj hL ih r r' (by omega) (fun x hx => hk x (List.mem_cons_of_mem _ hx)) (fun x hx => hk' x (List.mem_cons_of_mem _ hx)) h2
    exact ⟨by rw [h1, h3], h4⟩
theorem argsA_inj {L : List (Str × Nat)} (hL : ∀ q ∈ L, nameB q.1 = true) {z : Nat} (ih : ∀ {t t' : Tm} {ns ns' : List Str} {p p' : List Nat}, t.size ≤ z → TmOk L ns t → TmOk L ns' t' → Stop p → Stop p' → txL t ++ p = txL t' ++ p' → t = t' ∧ p = p') :
    ∀ (ks ks' : List Tm) {p p' : List Nat}, Tm.sizes ks ≤ z → (∀ k ∈ ks, ∃ ns, TmOk L ns k) → (∀ k ∈ ks', ∃ ns, TmOk L ns k) → txA ks ++ 41 :: p = txA ks' ++ 41 :: p' → ks = ks' ∧ p = p'
  | [], [], p, p', _, _, _, e => ⟨rfl, (List.cons.inj e).2⟩
  | [], k' :: r', p, p', _, _, hk', e => by
    obtain ⟨ns', o'⟩ := hk' k' List.mem_cons_self
    obtain ⟨c, r, e1, n1, n2⟩ := (shp hL o').first
    rw [txA, txA, e1] at e
    exact absurd (List.cons.inj e).1.symm n1
  | k :: r, [], p, p', _, hk, _, e => by
    obtain ⟨ns, o⟩ := hk k List.mem_cons_self
    obtain ⟨c, r, e1, n1, n2⟩ := (shp hL o).first
    rw [txA, txA, e1] at e
    exact absurd (List.cons.inj e).1 n1
  | k :: r, k' :: r', p, p', hz, hk, hk', e => by
    rw [txA, txA, List.append_assoc, List.append_assoc] at e
    have h : txR (k :: r) ++ 41 :: p = txR (k' :: r') ++ 41 :: p' := by
      rw [txR, txR, List.cons_append, List.cons_append, List.cons_append, List.cons_append, List.append_assoc, List.append_assoc, e]
    exact args_inj hL ih _ _ hz hk hk' h
theorem txL_inj {L : List (Str × Nat)} (hL : ∀ q ∈ L, nameB q.1 = true) : ∀ (z : Nat) {t t' : Tm} {ns ns' : List Str} {p p' : List Nat}, t.size ≤ z → TmOk L ns t → TmOk L ns' t' → Stop p → Stop p' → txL t ++ p = txL t' ++ p' → t = t' ∧ p = p' := by
  intro z
  induction z with
  | zero =>
    intro t t' ns ns' p p' hz
    exact absurd hz (by have := size_pos t; omega)
  | succ z ih =>
    intro t t' ns ns' p p' hz h h' hp hp' e
    have kids : ∀ {t : Tm} {ns : List Str} {w n : Str} {ks : List Tm}, TmOk L ns t → t = .mk w n ks → ∀ k ∈ ks, ∃ ns, TmOk L ns k := fun h e k hk => by
      subst e
      cases h with
      | mk _ hK =>
        obtain ⟨i, hi⟩ := List.mem_iff_getElem?.mp hk
        exact ⟨_, hK i k hi⟩
    have sz : ∀ {w n : Str} {ks : List Tm}, t = .mk w n ks → Tm.sizes ks ≤ z := fun e => by
      rw [e, Tm.size] at hz
      omega
    have lt : ∀ {l l' : List Nat} {q q' : List Nat} {c : Nat}, (∀ c ∈ l, ltr c) → l ≠ [] → ¬ ltr c → l ++ q = c :: q' → False := fun {l l' q q' c} h n nc e => by
      cases l with
      | nil => exact n rfl
      | cons x r => exact nc ((List.cons.inj e).1 ▸ h x List.mem_cons_self)
    have ne : ∀ {x : Str}, nameB x = true → cl x ≠ [] := fun h e => by
      have := (nameB_ltr h).2.1
      rw [e] at this
      simp at this
    have n39 : ¬ ltr 39 := by unfold ltr; omega
    have n46 : ¬ ltr 46 := by unfold ltr; omega
    -- a name and a call
    have nc : ∀ {n a : Str} {t : Tm} {r q q' : List Nat}, nameB n = true → Call t a r → Stop q → cl n ++ q = txL t ++ q' → False := fun {n a t r q q'} hn c hq e => by
      rw [c.tx, List.append_assoc] at e
      have := (name_split (nameB_ltr hn).1 c.lt hq.nol (nol40 _) e).2
      rcases hq _ _ this with z | z <;> omega
    -- a call and a quote or a dot
    have cq : ∀ {a : Str} {t : Tm} {r q q' : List Nat} {c : Nat}, Call t a r → ¬ ltr c → txL t ++ q = c :: q' → False := fun {a t r q q' c} h hc e => by
      rw [h.tx, List.append_assoc] at e
      exact lt (l' := []) h.lt h.ne hc e
    -- two calls
    have cc : ∀ {a a' : Str} {r r' : List Nat}, Call t a r → Call t' a' r' → a = a' ∧ r ++ p = r' ++ p' := fun c c' => call_eq (L := L) c c' e
    have wd : ∀ {w : Str} {m : Nat}, (w, m) ∈ opsW → w ∈ wdsW ∧ w ≠ "fail" ∧ w ≠ "bind" := fun hm => (show ∀ q ∈ opsW, q.1 ∈ wdsW ∧ q.1 ≠ "fail" ∧ q.1 ≠ "bind" by decide +kernel) _ hm
    have fw : ("fail" : Str) ∈ wdsW := by decide +kernel
    have bw : ("bind" : Str) ∈ wdsW := by decide +kernel
    have aA : ∀ {ks ks' : List Tm}, Tm.sizes ks ≤ z → (∀ k ∈ ks, ∃ ns, TmOk L ns k) → (∀ k ∈ ks', ∃ ns, TmOk L ns k) → (txA ks ++ [41]) ++ p = (txA ks' ++ [41]) ++ p' → ks = ks' ∧ p = p' := fun hz k1 k2 e => by
      rw [List.append_assoc, List.append_assoc] at e
      exact argsA_inj hL ih _ _ hz k1 k2 e
    have s1 := shp hL h
    have s2 := shp hL h'
    cases s1 with
    | val e1 n1 x1 =>
      rw [x1] at e
      cases s2 with
      | val e2 n2 x2 =>
        rw [x2] at e
        obtain ⟨i, j⟩ := name_split (nameB_ltr n1).1 (nameB_ltr n2).1 hp.nol hp'.nol (List.cons.inj e).2
        exact ⟨by rw [e1, e2, cl_inj i], j⟩
      | name e2 n2 x2 => rw [x2] at e; exact (lt (l' := []) (nameB_ltr n2).1 (ne n2) n39 e.symm).elim
      | fail e2 n2 c2 => exact (cq c2 n39 e.symm).elim
      | dot e2 n2 w2 x2 => rw [x2] at e; exact absurd (List.cons.inj e).1 (by decide)
      | use e2 n2 w2 c2 => exact (cq c2 n39 e.symm).elim
      | bind e2 n2 c2 => exact (cq c2 n39 e.symm).elim
      | op e2 m2 c2 => exact (cq c2 n39 e.symm).elim
    | name e1 n1 x1 =>
      rw [x1] at e
      cases s2 with
      | val e2 n2 x2 => rw [x2] at e; exact (lt (l' := []) (nameB_ltr n1).1 (ne n1) n39 e).elim
      | name e2 n2 x2 =>
        rw [x2] at e
        obtain ⟨i, j⟩ := name_split (nameB_ltr n1).1 (nameB_ltr n2).1 hp.nol hp'.nol e
        exact ⟨by rw [e1, e2, cl_inj i], j⟩
      | fail e2 n2 c2 => exact (nc n1 c2 hp e).elim
      | dot e2 n2 w2 x2 => rw [x2] at e; exact (lt (l' := []) (nameB_ltr n1).1 (ne n1) n46 e).elim
      | use e2 n2 w2 c2 => exact (nc n1 c2 hp e).elim
      | bind e2 n2 c2 => exact (nc n1 c2 hp e).elim
      | op e2 m2 c2 => exact (nc n1 c2 hp e).elim
    | dot e1 n1 w1 x1 =>
      rw [x1] at e
      cases s2 with
      | val e2 n2 x2 => rw [x2] at e; exact absurd (List.cons.inj e).1 (by decide)
      | name e2 n2 x2 => rw [x2] at e; exact (lt (l' := []) (nameB_ltr n2).1 (ne n2) n46 e.symm).elim
      | fail e2 n2 c2 => exact (cq c2 n46 e.symm).elim
      | dot e2 n2 w2 x2 =>
        rw [x2, List.cons_append, List.cons_append] at e
        have e3 := (List.cons.inj e).2
        rw [List.append_assoc, List.append_assoc] at e3
        obtain ⟨i, j⟩ := name_split (nameB_ltr n1).1 (nameB_ltr n2).1 (nol40 _) (nol40 _) e3
        obtain ⟨k1, k2⟩ := aA (sz e1) (kids h e1) (kids h' e2) (List.cons.inj j).2
        exact ⟨by rw [e1, e2, cl_inj i, k1], k2⟩
      | use e2 n2 w2 c2 => exact (cq c2 n46 e.symm).elim
      | bind e2 n2 c2 => exact (cq c2 n46 e.symm).elim
      | op e2 m2 c2 => exact (cq c2 n46 e.symm).elim
    | fail e1 n1 c1 =>
      cases s2 with
      | val e2 n2 x2 => rw [x2] at e; exact (cq c1 n39 e).elim
      | name e2 n2 x2 => rw [x2] at e; exact (nc n2 c1 hp' e.symm).elim
      | fail e2 n2 c2 =>
        have e3 := (cc c1 c2).2
        rw [List.append_assoc, List.append_assoc] at e3
        obtain ⟨i, j⟩ := name_split (nameB_ltr n1).1 (nameB_ltr n2).1 (stop41 _).nol (stop41 _).nol e3
        exact ⟨by rw [e1, e2, cl_inj i], (List.cons.inj j).2⟩
      | dot e2 n2 w2 x2 => rw [x2] at e; exact (cq c1 n46 e).elim
      | use e2 n2 w2 c2 => exact absurd ((cc c1 c2).1 ▸ fw) w2
      | bind e2 n2 c2 => exact absurd (cc c1 c2).1 (by decide)
      | op e2 m2 c2 => exact absurd (cc c1 c2).1.symm (wd m2).2.1
    | use e1 n1 w1 c1 =>
      cases s2 with
      | val e2 n2 x2 => rw [x2] at e; exact (cq c1 n39 e).elim
      | name e2 n2 x2 => rw [x2] at e; exact (nc n2 c1 hp' e.symm).elim
      | fail e2 n2 c2 => exact absurd ((cc c1 c2).1 ▸ fw) w1
      | dot e2 n2 w2 x2 => rw [x2] at e; exact (cq c1 n46 e).elim
      | use e2 n2 w2 c2 =>
        obtain ⟨i, j⟩ := cc c1 c2
        obtain ⟨k1, k2⟩ := aA (sz e1) (kids h e1) (kids h' e2) j
        exact ⟨by rw [e1, e2, i, k1], k2⟩
      | bind e2 n2 c2 => exact absurd ((cc c1 c2).1 ▸ bw) w1
      | op e2 m2 c2 => exact absurd ((cc c1 c2).1 ▸ (wd m2).1) w1
    | bind e1 n1 c1 =>
      cases s2 with
      | val e2 n2 x2 => rw [x2] at e; exact (cq c1 n39 e).elim
      | name e2 n2 x2 => rw [x2] at e; exact (nc n2 c1 hp' e.symm).elim
      | fail e2 n2 c2 => exact absurd (cc c1 c2).1 (by decide)
      | dot e2 n2 w2 x2 => rw [x2] at e; exact (cq c1 n46 e).elim
      | use e2 n2 w2 c2 => exact absurd ((cc c1 c2).1 ▸ bw) w2
      | bind e2 n2 c2 =>
        have e3 := (cc c1 c2).2
        rw [List.append_assoc, List.append_assoc, List.append_assoc, List.append_assoc] at e3
        have st : ∀ (l : List Tm) (q : List Nat), Stop (txR l ++ ([41] ++ q)) := fun l q => by
          cases l with
          | nil => rw [txR]; exact stop41 q
          | cons x y => rw [txR]; exact fun c r e => by cases e; exact .inr rfl
        obtain ⟨i, j⟩ := name_split (nameB_ltr n1).1 (nameB_ltr n2).1 (st _ _).nol (st _ _).nol e3
        obtain ⟨k1, k2⟩ := args_inj hL ih _ _ (sz e1) (kids h e1) (kids h' e2) j
        exact ⟨by rw [e1, e2, cl_inj i, k1], k2⟩
      | op e2 m2 c2 => exact absurd (cc c1 c2).1.symm (wd m2).2.2
    | op e1 m1 c1 =>
      cases s2 with
      | val e2 n2 x2 => rw [x2] at e; exact (cq c1 n39 e).elim
      | name e2 n2 x2 => rw [x2] at e; exact (nc n2 c1 hp' e.symm).elim
      | fail e2 n2 c2 => exact absurd (cc c1 c2).1 (wd m1).2.1
      | dot e2 n2 w2 x2 => rw [x2] at e; exact (cq c1 n46 e).elim
      | use e2 n2 w2 c2 => exact absurd ((cc c1 c2).1 ▸ (wd m1).1) w2
      | bind e2 n2 c2 => exact absurd (cc c1 c2).1 (wd m1).2.2
      | op e2 m2 c2 =>
        obtain ⟨i, j⟩ := cc c1 c2
        obtain ⟨k1, k2⟩ := aA (sz e1) (kids h e1) (kids h' e2) j
        exact ⟨by rw [e1, e2, i, k1], k2⟩
end GB
set_option Elab.async false
set_option linter.all false
set_option autoImplicit false
set_option maxRecDepth 100000
set_option maxHeartbeats 4000000
namespace GB
open PySem PySem.Spec L2
def txS (t : Tm) : Str := ⟨(txL t).toArray⟩
theorem cl_txS (t : Tm) : cl (txS t) = txL t := rfl
theorem cl_mk (l : List Nat) : cl ⟨l.toArray⟩ = l := rfl
theorem cl_app (a b : Str) : cl (a ++ b) = cl a ++ cl b := TL.tl_append a b
theorem mk_cl (s : Str) : (⟨(cl s).toArray⟩ : Str) = s := cl_inj rfl
theorem cl_len (s : Str) : s.length = (cl s).length := by unfold cl; rw [Array.length_toList]; rfl
theorem eq_txS {s : Str} {t : Tm} (h : cl s = txL t) : s = txS t := cl_inj h
theorem cl_join1 : ∀ (s : Str) (ks : List Tm), cl (Txt.join ", " (s :: ks.map txS)) = cl s ++ txR ks
  | s, [] => by rw [TL.join_eq]; show cl s = cl s ++ txR []; rw [txR, List.append_nil]
  | s, k :: r => by
    have h := cl_join1 (txS k) r
    rw [TL.join_eq] at h ⊢
    show cl (s ++ (", " : Str) ++ Str.join ", " (txS k :: r.map txS)) = _
    rw [cl_app, cl_app, h, cl_txS, txR, List.append_assoc]
    rfl
theorem cl_join : ∀ ks : List Tm, cl (Txt.join ", " (ks.map txS)) = txA ks
  | [] => by rw [TL.join_eq, txA]; rfl
  | k :: r => by rw [List.map_cons, cl_join1, txA]; rfl
mutual
theorem txL_len {L : List (Str × Nat)} (hL : ∀ q ∈ L, nameB q.1 = true) : ∀ (t : Tm) {ns : List Str}, TmOk L ns t → (txL t).length + 2 ≤ 20 * t.size
  | .mk w n ks, ns, h => by
    have hk : ∀ k ∈ ks, ∃ ns, TmOk L ns k := fun k hk => by
      cases h with
      | mk _ hK =>
        obtain ⟨i, hi⟩ := List.mem_iff_getElem?.mp hk
        exact ⟨_, hK i k hi⟩
    obtain ⟨a1, a2⟩ := txs_len hL ks hk
    rw [Tm.size]
    have l8 : ∀ {x : Str}, nameB x = true → (cl x).length ≤ 8 := fun h => (nameB_ltr h).2.2
    have wl : ∀ {w : Str} {m : Nat}, (w, m) ∈ opsW → (cl w).length ≤ 4 := fun hm => (show ∀ q ∈ opsW, (cl q.1).length ≤ 4 by decide +kernel) _ hm
    have f4 : (cl "fail").length = 4 := by decide +kernel
    have b4 : (cl "bind").length = 4 := by decide +kernel
    cases shp hL h with
    | val e hn tx => rw [tx]; cases e; have := l8 hn; rw [List.length_cons]; omega
    | name e hn tx => rw [tx]; cases e; have := l8 hn; omega
    | fail e hn c => rw [c.tx]; cases e; have := l8 hn; rw [List.length_append, List.length_cons, List.length_append, f4]; simp only [List.length_singleton]; omega
    | dot e hn hw tx => rw [tx]; cases e; have := l8 hn; rw [List.length_cons, List.length_append, List.length_cons, List.length_append]; simp only [List.length_singleton]; omega
    | use e hn hw c => rw [c.tx]; cases e; have := l8 hn; rw [List.length_append, List.length_cons, List.length_append]; simp only [List.length_singleton]; omega
    | bind e hn c => rw [c.tx]; cases e; have := l8 hn; rw [List.length_append, List.length_cons, List.length_append, List.length_append, b4]; simp only [List.length_singleton]; omega
    | op e hm c => rw [c.tx]; cases e; have := wl hm; rw [List.length_append, List.length_cons, List.length_append]; simp only [List.length_singleton]; omega
theorem txs_len {L : List (Str × Nat)} (hL : ∀ q ∈ L, nameB q.1 = true) : ∀ (ks : List Tm), (∀ k ∈ ks, ∃ ns, TmOk L ns k) → (txA ks).length ≤ 20 * Tm.sizes ks ∧ (txR ks).length ≤ 20 * Tm.sizes ks
  | [], _ => by rw [txA, txR]; exact ⟨Nat.zero_le _, Nat.zero_le _⟩
  | k :: r, h => by
    obtain ⟨ns, o⟩ := h k List.mem_cons_self
    have a := txL_len hL k o
    obtain ⟨b1, b2⟩ := txs_len hL r fun x hx => h x (List.mem_cons_of_mem _ hx)
    rw [txA, txR, Tm.sizes, List.length_cons, List.length_cons, List.length_append]
    omega
end
theorem sum_len {L : List (Str × Nat)} (hL : ∀ q ∈ L, nameB q.1 = true) : ∀ (ks : List Tm), (∀ k ∈ ks, ∃ ns, TmOk L ns k) → ((ks.map txS).map (·.length)).sum ≤ 20 * Tm.sizes ks
  | [], _ => Nat.zero_le _
  | k :: r, h => by
    obtain ⟨ns, o⟩ := h k List.mem_cons_self
    have a := txL_len hL k o
    have b := sum_len hL r fun x hx => h x (List.mem_cons_of_mem _ hx)
    rw [Tm.sizes]
    show (txS k).length + ((r.map txS).map (·.length)).sum ≤ _
    rw [cl_len, cl_txS]
    omega
theorem nameB_of {L : List (Str × Nat)} (hL : ∀ q ∈ L, nameB q.1 = true) {ns : List Str} {w n : Str} {m : Nat} (h : HeadOk L ns w n m) (hw : w ∉ opsW.map (·.1)) : nameB n = true := by
  cases h with
  | val h => exact h
  | fail h => exact h
  | name h _ => exact h
  | use h => exact hL _ h
  | bind h _ => exact h
  | op h => exact absurd (List.mem_map.mpr ⟨_, h, rfl⟩) hw
end GB
set_option Elab.async false
set_option linter.all false
set_option maxRecDepth 100000
set_option maxHeartbeats 4000000
/-! o == x, o != x: o of a class with its own def __eq__ that gives True or False, and no __ne__ of its own. -/
namespace GB
open PySem PySem.Spec L2 PyProof.Rows
/-- x is no instance of a class below C -/
def NotBelow (K : PySem.W.Frag) (C : Addr) (H : Hp) (y : V) : Prop := ∃ t, TyX K H y t ∧ PySem.W.notFirst K C t = true
def rEqOwn (K : PySem.W.Frag) (C : Addr) (sp : Sp) (n : Bool) : R2 := fun x y H Q => ∃ a dx fs, x = .ref a ∧ H a = some (.ins C dx fs) ∧ NotBelow K C H y ∧ sp [x, y] H (fun z H' => ∃ b, z = .bl b ∧ Q (.bl (n != b)) H') E0
section
variable {prog : Program} {w : World} {A : Around} {E : Value → Shared → Prop} {s : Shared} {K : PySem.W.Frag} {x C L f : Addr} {h₀ : Heap} {m : Str → Option Value} {ox : Obj} {od : Option Obj} {b tb : Value}
open PySem.W Builtin in
theorem ne_entry {Q : Fin → Shared → Prop} (hu : A.units < cLine) (X : K.In s.heap) (I : PySem.W.InstAt s.heap x ox C od) (he : findIn K (.ref C) "__eq__" = some (some (.ref f))) (hf : isFn K (.ref f) = true)
    (h : wpAny (model prog w) A (call (.ref f) [.ref x, b]) (fun v s' => ∃ c, v = .bool c ∧ Q (.done (.ret (.bool (!c)))) s') E s) :
    wpAny (model prog w) A (Builtin.«object.__ne__» ⟨[.ref x, b], []⟩) Q E s := by
  unfold Builtin.«object.__ne__»
  repeat (first
    | with_reducible refine wpAny_cRoomFor hu ?_
    | (refine wpAny_bind (m := callSpecialIfBound? (.ref x) (Str.ofString "__eq__") [b])
        (ifBound_K X I he hf (wpAny_mono h (fun r s' hr => by
          obtain ⟨c, rfl, hq⟩ := hr
          repeat (first | exact hq | exact wpAny_pure hq | exact wpAny_truthy_bool hq | (refine wpAny_bind (m := truthy (.bool _)) (wpAny_truthy_bool ?_)) | wp_step)) fun _ _ e => e)))
    | wp_step)
open PySem.W Builtin in
theorem ne_K {Q : Value → Shared → Prop} (hu : A.units + 1 < cLine) (X : K.In s.heap) (I : PySem.W.InstAt s.heap x ox C od) (hb : Looks (model prog w) s.heap (typeOf b) tb) (hn : notFirst K C tb = true)
    (hs : findIn K (.ref C) "__ne__" = some (some (.builtin "object.__ne__"))) (hm : mroIn K C (.type "object") = some true) (he : findIn K (.ref C) "__eq__" = some (some (.ref f))) (hf : isFn K (.ref f) = true)
    (h : wpAny (model prog w) A.in1 (call (.ref f) [.ref x, b]) (fun v s' => ∃ c, v = .bool c ∧ Q (.bool (!c)) s') E s) : wpAny (model prog w) A (richCompare .NotEq (.ref x) b) Q E s := by
  have S := PySem.F.cmp_object.ne
  have one : wpAny (model prog w) A (tryCompare (.ref x) "__ne__" b) (fun r s' => ∃ v, r = some v ∧ Q v s') E s := by
    unfold tryCompare
    have go : wpAny (model prog w) A (call (.builtin "object.__ne__") ([.ref x] ++ [b])) (fun r s' => ∃ c, r = .bool (!c) ∧ Q (.bool (!c)) s') E s := by
      refine wpAny_call (codeAny_call_builtin S.plain PySem.F.cmpEntry_ne (@check_slot (model prog w) _ _ s "object.__ne__" "object" "__ne__" (.ref x) [b] [] _ PySem.F.cmpKind_ne PySem.F.cmpSplit_ne (I.type.andThen (looks_mroIn X hm)) (PySem.F.cmpArgs_ne _ _) ?_))
      refine ne_entry (A := A.in1) hu X I he hf (wpAny_mono h (fun v s' hv => ?_) fun _ _ e => e)
      obtain ⟨c, rfl, hq⟩ := hv
      exact ⟨c, rfl, c, rfl, hq⟩
    simp only [callSpecialIfBound?, bindSpecialIfBound?]
    refine wpAny_bind (wpAny_holding (wpAny_bind (wpAny_bind (wpAny_bind (I.type.here ((looks_findIn X hs).here ?_))))))
    simp only [S.bind]
    have fin : wpAny (model prog w) A (call (.builtin "object.__ne__") ([.ref x] ++ [b]) >>= fun v => pure (some v)) (fun r s' => ∃ c, r = some (Value.bool (!c)) ∧ Q (.bool (!c)) s') E s := by
      refine wpAny_bind (wpAny_mono go (fun v s' h' => wpAny_pure ?_) fun _ _ h' => h')
      obtain ⟨c, rfl, hq⟩ := h'
      exact ⟨c, rfl, hq⟩
    refine wpAny_bind (wpAny_askSetting (wpAny_ite ?_))
    split
    · refine wpAny_bind (wpAny_pure (wpAny_pure (wpAny_mono fin (fun v s' h' => ?_) fun _ _ h' => h')))
      obtain ⟨c, rfl, hq⟩ := h'
      exact wpAny_pure ⟨_, rfl, hq⟩
    · refine wpAny_tryCatch (wpAny_bind (wpAny_pure (wpAny_pure (wpAny_mono fin (fun v s' h' => ?_) fun _ _ h' => h'))))
      obtain ⟨c, rfl, hq⟩ := h'
      exact wpAny_pure ⟨_, rfl, hq⟩
  unfold richCompare
  simp only [oneThing_ref]
  refine wpAny_holding (wpAny_bind (wpAny_cRoomFor (Nat.lt_of_succ_lt hu) ?_))
  refine wpAny_bind (I.type.here (wpAny_bind (hb.here ?_)))
  split
  · rename_i q
    have e : subIn K tb (.ref C) = some false := by
      rcases Bool.or_eq_true_iff.mp hn with e | e
      · rw [beq_iff_eq.mp e] at q; simp at q
      · exact beq_iff_eq.mp e
    refine wpAny_bind ((looks_subIn X e).here ?_)
    simp only [Bool.false_eq_true, if_false]
    refine wpAny_bind (wpAny_mono one (fun r s' z => ?_) fun _ _ e => e)
    obtain ⟨v, rfl, hq⟩ := z
    exact wpAny_pure hq
  · refine wpAny_bind (wpAny_pure ?_)
    simp only [Bool.false_eq_true, if_false]
    refine wpAny_bind (wpAny_mono one (fun r s' z => ?_) fun _ _ e => e)
    obtain ⟨v, rfl, hq⟩ := z
    exact wpAny_pure hq
end
section
variable {X : Cx} {CX : CXT} {k : Nat} {f C : Addr} {fd : FuncData} {ps : List Str} {sp : Sp}
theorem op_eqOwn (hs : PySem.W.findIn X.K (.ref C) "__eq__" = some (some (.ref f))) (hf : PySem.W.isFn X.K (.ref f) = true) (F : FnOk X.prog X.w X.K X.mg X.base CX0 k f fd ps sp) (hr : Room k X.A) (hb : Binds X.K fd ps []) : OpR X (compareOp .Eq) (rEqOwn X.K C sp false) := by
  intro pins s σ H x y v u Q I rx ry h
  obtain ⟨a, dx, fs, rfl, ha, ⟨t, ty, nf⟩, q⟩ := h
  cases (show v = Value.ref a from rx)
  obtain ⟨mA, O, _, _, _, _⟩ := ins_get I.hok ha
  obtain ⟨od, J, _⟩ := O.look
  obtain ⟨m, hF⟩ := I.fr
  obtain ⟨P, Z, p, _⟩ := kit_of I ry ty
  have lt := Z.ty (model X.prog X.w) s.heap I.kIn p
  rw [show compareOp .Eq (.ref a) u = richCompare .Eq (.ref a) u from rfl]
  refine PySem.W.cmp_K (op := .Eq) (tb := t) hr.units0 hF I.ok.mod.kin J lt nf hs hf ?_
  refine wpAny_mono (run_fn (us := [.ref a, u]) (vs := [.ref a, y]) F hr hb .nil pass0 I (.cons rfl (.cons ry .nil)) q) (fun w s' z => ?_) fun _ _ x => x
  obtain ⟨z', H', I', rz, b, eb, qz⟩ := z
  subst eb
  cases (show w = Value.bool b from rz)
  exact ⟨.bl b, H', I', rfl, by simpa using qz⟩
theorem op_neOwn (hs : PySem.W.findIn X.K (.ref C) "__eq__" = some (some (.ref f))) (hf : PySem.W.isFn X.K (.ref f) = true) (hne : PySem.W.findIn X.K (.ref C) "__ne__" = some (some (.builtin "object.__ne__"))) (hm : PySem.W.mroIn X.K C (.type "object") = some true) (F : FnOk X.prog X.w X.K X.mg X.base CX0 k f fd ps sp) (hr : Room (k + 1) X.A) (hb : Binds X.K fd ps []) : OpR X (compareOp .NotEq) (rEqOwn X.K C sp true) := by
  intro pins s σ H x y v u Q I rx ry h
  obtain ⟨a, dx, fs, rfl, ha, ⟨t, ty, nf⟩, q⟩ := h
  cases (show v = Value.ref a from rx)
  obtain ⟨mA, O, _, _, _, _⟩ := ins_get I.hok ha
  obtain ⟨od, J, _⟩ := O.look
  obtain ⟨m, hF⟩ := I.fr
  obtain ⟨P, Z, p, _⟩ := kit_of I ry ty
  have lt := Z.ty (model X.prog X.w) s.heap I.kIn p
  rw [show compareOp .NotEq (.ref a) u = richCompare .NotEq (.ref a) u from rfl]
  have hu : X.A.units + 1 < cLine := (show Room k X.A.in1 from hr.in1).units0
  refine ne_K (tb := t) hu I.kIn J lt nf hne hm hs hf ?_
  have r2 : Vals [.ref a, y] [.ref a, u] := .cons rfl (.cons ry .nil)
  have hl : ([Value.ref a, u] ++ ([] : List Value)).length = ps.length := by
    rw [List.append_nil, ← r2.length]; exact F.len _ _ _ _ q
  refine wpAny_call (codeAny_mono (F.run X.A.in1 X.stack s H ⟨[.ref a, u], []⟩ ([.ref a, u] ++ []) ([.ref a, y] ++ []) _ E0 hr.in1 I.env0.in1 (hb s [.ref a, u] I.kIn hl) (r2.append .nil) q) fun r s' hq => ?_)
  cases r with
  | error e => exact (pass0 pins σ H s e s' I hq)
  | ok fl =>
    cases fl with
    | ret w =>
      obtain ⟨z', H', I', rz, b, eb, qz⟩ := I.after hq
      subst eb
      cases (show w = Value.bool b from rz)
      exact ⟨b, rfl, .bl (!b), H', I', rfl, by simpa using qz⟩
    | next => exact False.elim hq
    | brk => exact False.elim hq
    | cont => exact False.elim hq
/-- the def runs below a built-in -/
theorem run_in1 {pins : List (Addr × Obj)} {σ : L2.St} {H : Hp} {s : Shared} {Q : VK} {us : List Value} {vs : List V} (F : FnOk X.prog X.w X.K X.mg X.base CX0 k f fd ps sp) (hr : Room (k + 1) X.A) (hb : Binds X.K fd ps []) (I : Inv X pins σ H s) (r : Vals vs us) (h : sp vs H Q E0) :
    wpAny (model X.prog X.w) X.A.in1 (call (.ref f) us) (EP X pins σ Q) X.xe s := by
  have hl : (us ++ ([] : List Value)).length = ps.length := by
    rw [List.append_nil, ← r.length]; exact F.len _ _ _ _ h
  refine wpAny_call (codeAny_mono (F.run X.A.in1 X.stack s H ⟨us, []⟩ (us ++ []) (vs ++ []) Q E0 hr.in1 I.env0.in1 (hb s us I.kIn hl) (r.append .nil) (by rw [List.append_nil]; exact h)) fun r s' hq => ?_)
  cases r with
  | error e => exact (pass0 pins σ H s e s' I hq)
  | ok fl =>
    cases fl with
    | ret w => exact I.after hq
    | next => exact False.elim hq
    | brk => exact False.elim hq
    | cont => exact False.elim hq
/-- len(o) -/
def rLenOwn (C : Addr) (sp : Sp) : List V → Hp → VK → Prop := fun xs H Q => ∃ a dx fs, xs = [.ref a] ∧ H a = some (.ins C dx fs) ∧ sp [.ref a] H (fun z H' => ∃ n : Nat, z = .int n ∧ n ≤ sizeLine ∧ Q (.int n) H') E0
theorem call_lenOwn (hs : PySem.W.findIn X.K (.ref C) "__len__" = some (some (.ref f))) (hf : PySem.W.isFn X.K (.ref f) = true) (F : FnOk X.prog X.w X.K X.mg X.base CX0 k f fd ps sp) (hr : Room (k + 1) X.A) (hb : Binds X.K fd ps []) : CallR X (.builtin "len") (rLenOwn C sp) := by
  intro pins s σ H xs us Q I r h
  obtain ⟨a, dx, fs, rfl, ha, q⟩ := h
  obtain ⟨u, rfl, ru⟩ := vals1 r
  cases (show u = Value.ref a from ru)
  obtain ⟨mA, O, _, _, _, _⟩ := ins_get I.hok ha
  obtain ⟨od, J, _⟩ := O.look
  obtain ⟨m, hF⟩ := I.fr
  have hl := line63
  refine PySem.W.len_K hF I.ok.mod.kin J hs hf (wpAny_mono (run_in1 (us := [.ref a]) (vs := [.ref a]) F hr hb I (.cons rfl .nil) q) (fun w s' z => ?_) fun _ _ x => x)
  obtain ⟨z', H', I', rz, n, e, hn, qz⟩ := z
  subst e
  obtain ⟨t, e⟩ := (show ∃ t, w = Value.int n t from rz)
  subst e
  exact ⟨⟨by omega, by omega⟩, .int n, H', I'.tok _, ⟨_, rfl⟩, qz⟩
end
end GB
set_option Elab.async false
set_option linter.all false
set_option maxRecDepth 100000
set_option maxHeartbeats 8000000
namespace GB
open PySem PySem.Spec L2 PyProof.Rows ItX
/-- the class of grounds, as its methods ask -/
structure GrK (K : PySem.W.Frag) (C : Addr) : Prop where
  cl : Cls K C
  n1 : NoAttr K C "_facts"
  n2 : NoAttr K C "_letters"
  n3 : NoAttr K C "_order"
  n4 : NoAttr K C "_fixed"
  n5 : NoAttr K C "_commuting"
  ty : ∀ (H : Hp) (a dx : Addr) (fs : List (Str × V)), H a = some (.ins C dx fs) → TyX K H (.ref a) (.ref C)
/-- whether two grounds tell the same -/
def eqG (g h : GD) : Bool := decide (g.letters.map (·.1) = h.letters.map (·.1)) && (decide (g.sel g.fixed = h.sel h.fixed) && (decide (g.sel g.comm = h.sel h.comm) && decide (g.facts = h.facts)))
def spLetM (C : Addr) : Sp := fun vs H Q _ => ∃ (G : Addr) (g : GD), vs = [.ref G] ∧ IsGr2 C H G g ∧ ∀ l H', H l = none → Same H H' → H' l = some (.dK (lkv g.letters)) → Q (.ref l) H'
def spFixM (C : Addr) : Sp := fun vs H Q _ => ∃ (G : Addr) (g : GD), vs = [.ref G] ∧ IsGr2 C H G g ∧ ∀ l H', H l = none → Same H H' → H' l = some (.lst (sts (g.sel g.fixed))) → Q (.ref l) H'
def spComM (C : Addr) : Sp := fun vs H Q _ => ∃ (G : Addr) (g : GD), vs = [.ref G] ∧ IsGr2 C H G g ∧ ∀ l H', H l = none → Same H H' → H' l = some (.lst (sts (g.sel g.comm))) → Q (.ref l) H'
def spFacM (C : Addr) : Sp := fun vs H Q _ => ∃ (G : Addr) (g : GD), vs = [.ref G] ∧ IsGr2 C H G g ∧ ∀ l H', H l = none → Same H H' → FactsAt H' l g.facts → Q (.ref l) H'
def spLenM (C : Addr) : Sp := fun vs H Q _ => ∃ (G : Addr) (g : GD), vs = [.ref G] ∧ IsGr2 C H G g ∧ Q (.int ((g.letters.length : Nat) : Int)) H
def spHasM (K : PySem.W.Frag) (C : Addr) : Sp := fun vs H Q _ => ∃ (G : Addr) (x : V) (g : GD), vs = [.ref G, x] ∧ IsGr2 C H G g ∧ ((∃ s : Str, x = .str s ∧ (g.letters.map (·.1)).Nodup ∧ Q (.bl (decide (s ∈ g.letters.map (·.1)))) H) ∨ (∃ t, TyX K H x t ∧ PySem.W.kitOne K t (.type "str") = some false ∧ Q (.bl false) H))
def spItM (C : Addr) : Nat → Sp := fun n vs H Q _ => ∃ (G : Addr) (g : GD), vs = [.ref G] ∧ IsGr2 C H G g ∧ ∀ l it, H l = some (.lst (sts (g.letters.map (·.1)))) → H it = none → n ≤ it → Q (.ref it) (upd H it (ItO l it 0))
def spEqM (K : PySem.W.Frag) (C : Addr) : Sp := fun vs H Q _ => ∃ (G : Addr) (y : V) (g : GD), vs = [.ref G, y] ∧ IsGr2 C H G g ∧ g.Fit ∧
  ((∃ G2 g2, y = .ref G2 ∧ IsGr2 C H G2 g2 ∧ g2.Fit ∧ (g.letters.map (·.1) = g2.letters.map (·.1) → g.letters = g2.letters) ∧ Q (.bl (eqG g g2)) H) ∨ (∃ t, TyX K H y t ∧ PySem.W.kitOne K t (.ref C) = some false ∧ Q (.bl false) H))
end GB
namespace K7
open PySem PySem.Spec L2 GB ItX
abbrev sLet : Stmt := inClass (topS 23) 1
abbrev sFix : Stmt := inClass (topS 23) 2
abbrev sCom : Stmt := inClass (topS 23) 3
abbrev sFac : Stmt := inClass (topS 23) 4
abbrev sLen : Stmt := inClass (topS 23) 6
abbrev sHas : Stmt := inClass (topS 23) 7
abbrev sIt : Stmt := inClass (topS 23) 8
abbrev sEq : Stmt := inClass (topS 23) 9
section
variable {P : Program} {w : World} {K : PySem.W.Frag} {mg : Str → Option Value} {base : Heap} {C : Addr}
theorem scLet : FnScope ["self"] ["self"] (defScope sLet) := ⟨rfl, rfl, rfl, by decide +kernel, rfl, by decide +kernel, by decide +kernel⟩
theorem scFix : FnScope ["self"] ["self"] (defScope sFix) := ⟨rfl, rfl, rfl, by decide +kernel, rfl, by decide +kernel, by decide +kernel⟩
theorem scCom : FnScope ["self"] ["self"] (defScope sCom) := ⟨rfl, rfl, rfl, by decide +kernel, rfl, by decide +kernel, by decide +kernel⟩
theorem scFac : FnScope ["self"] ["self"] (defScope sFac) := ⟨rfl, rfl, rfl, by decide +kernel, rfl, by decide +kernel, by decide +kernel⟩
theorem scLen : FnScope ["self"] ["self"] (defScope sLen) := ⟨rfl, rfl, rfl, by decide +kernel, rfl, by decide +kernel, by decide +kernel⟩
theorem scIt : FnScope ["self"] ["self"] (defScope sIt) := ⟨rfl, rfl, rfl, by decide +kernel, rfl, by decide +kernel, by decide +kernel⟩
theorem scHas : FnScope ["self", "letter"] ["self", "letter"] (defScope sHas) := ⟨rfl, rfl, rfl, by decide +kernel, rfl, by decide +kernel, by decide +kernel⟩
theorem scEq : FnScope ["self", "other"] ["self", "other"] (defScope sEq) := ⟨rfl, rfl, rfl, by decide +kernel, rfl, by decide +kernel, by decide +kernel⟩
theorem ok_let {f : Addr} {fd : FuncData} (F : Fun K "letters" "Ground.letters" sLet f fd) (T : Bl mg) (c : GrK K C) : FnOk P w K mg base CX0 1 f fd ["self"] (spLetM C) := by
  refine F.ok scLet (fun vs H Q E h => ?_) (fun cdv A outer s H vs Q E hr h => ?_)
  · obtain ⟨G, g, rfl, _⟩ := h
    rfl
  · obtain ⟨G, g, rfl, hG, q⟩ := h
    obtain ⟨dx, fs, l1, l2, l3, l4, l5, h0, h1, h2, h3, h4, h5, h6⟩ := hG.ex
    refine ⟨_, pss_one (ps_ret (pe_callTy call_dictD (by rfl) T.dict (by decide +kernel) (pa_cons (pe_fld (pv 0) rfl) pa_nil))), ?_⟩
    refine ⟨_, rfl, G, C, dx, fs, _, rfl, h0, c.cl, c.n2, h2.1, l2, _, rfl, .inl h2.2, fun l nl => ?_⟩
    obtain ⟨H1, s1, k1, e1⟩ := lay (o := .dK (lkv g.letters)) nl
    rw [e1]
    exact q l H1 nl s1 k1
theorem ok_fix {f : Addr} {fd : FuncData} (F : Fun K "fixed" "Ground.fixed" sFix f fd) (T : Bl mg) (c : GrK K C) : FnOk P w K mg base CX0 1 f fd ["self"] (spFixM C) := by
  refine F.ok scFix (fun vs H Q E h => ?_) (fun cdv A outer s H vs Q E hr h => ?_)
  · obtain ⟨G, g, rfl, _⟩ := h
    rfl
  · obtain ⟨G, g, rfl, hG, q⟩ := h
    obtain ⟨dx, fs, l1, l2, l3, l4, l5, h0, h1, h2, h3, h4, h5, h6⟩ := hG.ex
    refine ⟨_, pss_one (ps_ret (pe_callTy call_list_of (by rfl) T.list (by decide +kernel) (pa_cons (pe_fld (pv 0) rfl) pa_nil))), ?_⟩
    refine ⟨_, rfl, G, C, dx, fs, _, rfl, h0, c.cl, c.n4, h4.1, l4, _, rfl, .inl (SqL.of h4.2), fun l nl => ?_⟩
    obtain ⟨H1, s1, k1, e1⟩ := lay (o := .lst (sts (g.sel g.fixed))) nl
    rw [e1]
    exact q l H1 nl s1 k1
theorem ok_com {f : Addr} {fd : FuncData} (F : Fun K "commuting" "Ground.commuting" sCom f fd) (T : Bl mg) (c : GrK K C) : FnOk P w K mg base CX0 1 f fd ["self"] (spComM C) := by
  refine F.ok scCom (fun vs H Q E h => ?_) (fun cdv A outer s H vs Q E hr h => ?_)
  · obtain ⟨G, g, rfl, _⟩ := h
    rfl
  · obtain ⟨G, g, rfl, hG, q⟩ := h
    obtain ⟨dx, fs, l1, l2, l3, l4, l5, h0, h1, h2, h3, h4, h5, h6⟩ := hG.ex
    refine ⟨_, pss_one (ps_ret (pe_callTy call_list_of (by rfl) T.list (by decide +kernel) (pa_cons (pe_fld (pv 0) rfl) pa_nil))), ?_⟩
    refine ⟨_, rfl, G, C, dx, fs, _, rfl, h0, c.cl, c.n5, h5.1, l5, _, rfl, .inl (SqL.of h5.2), fun l nl => ?_⟩
    obtain ⟨H1, s1, k1, e1⟩ := lay (o := .lst (sts (g.sel g.comm))) nl
    rw [e1]
    exact q l H1 nl s1 k1
theorem ok_fac {f : Addr} {fd : FuncData} (F : Fun K "facts" "Ground.facts" sFac f fd) (T : Bl mg) (c : GrK K C) : FnOk P w K mg base CX0 1 f fd ["self"] (spFacM C) := by
  refine F.ok scFac (fun vs H Q E h => ?_) (fun cdv A outer s H vs Q E hr h => ?_)
  · obtain ⟨G, g, rfl, _⟩ := h
    rfl
  · obtain ⟨G, g, rfl, hG, q⟩ := h
    obtain ⟨dx, fs, l1, l2, l3, l4, l5, h0, h1, h2, h3, h4, h5, h6⟩ := hG.ex
    obtain ⟨ts, ht, hp⟩ := h1.2
    refine ⟨_, pss_one (ps_ret (pe_callTy call_list_of (by rfl) T.list (by decide +kernel) (pa_cons (pe_fld (pv 0) rfl) pa_nil))), ?_⟩
    refine ⟨_, rfl, G, C, dx, fs, _, rfl, h0, c.cl, c.n1, h1.1, l1, _, rfl, .inl (SqL.of ht), fun l nl => ?_⟩
    obtain ⟨H1, s1, k1, e1⟩ := lay (o := .lst (ts.map V.ref)) nl
    rw [e1]
    exact q l H1 nl s1 ⟨ts, k1, Paired.mapP hp fun _ _ r => r.mono s1⟩
theorem ok_len {f : Addr} {fd : FuncData} (F : Fun K "__len__" "Ground.__len__" sLen f fd) (T : Bl mg) (c : GrK K C) : FnOk P w K mg base CX0 1 f fd ["self"] (spLenM C) := by
  refine F.ok scLen (fun vs H Q E h => ?_) (fun cdv A outer s H vs Q E hr h => ?_)
  · obtain ⟨G, g, rfl, _⟩ := h
    rfl
  · obtain ⟨G, g, rfl, hG, q⟩ := h
    obtain ⟨dx, fs, l1, l2, l3, l4, l5, h0, h1, h2, h3, h4, h5, h6⟩ := hG.ex
    refine ⟨_, pss_one (ps_ret (pe_callB call_len_seq (by rfl) T.len PySem.boot_len (pa_cons (pe_fld (pv 0) rfl) pa_nil))), ?_⟩
    refine ⟨_, rfl, G, C, dx, fs, _, rfl, h0, c.cl, c.n3, h3.1, l3, _, rfl, .inl (SqL.of h3.2), ?_⟩
    rw [sts_len, List.length_map]
    exact q
theorem ok_it {f : Addr} {fd : FuncData} (F : Fun K "__iter__" "Ground.__iter__" sIt f fd) (TI : mg "iter" = none) (c : GrK K C) : FnN P w K mg base 1 f fd ["self"] (spItM C) := by
  refine okN F scIt (fun n vs H Q E h => ?_) (fun cdv A outer s H vs Q E hr h => ?_)
  · obtain ⟨G, g, rfl, _⟩ := h
    rfl
  · obtain ⟨G, g, rfl, hG, q⟩ := h
    obtain ⟨dx, fs, l1, l2, l3, l4, l5, h0, h1, h2, h3, h4, h5, h6⟩ := hG.ex
    refine ⟨_, pss_one (ps_ret (pe_callB call_iterN (by rfl) TI (by decide +kernel) (pa_cons (pe_fld (pv 0) rfl) pa_nil))), ?_⟩
    exact ⟨_, rfl, G, C, dx, fs, _, rfl, h0, c.cl, c.n3, h3.1, l3, _, rfl, SqL.of h3.2, fun it ni hn => q l3 it h3.2 ni hn⟩
theorem ok_has {f : Addr} {fd : FuncData} (F : Fun K "__contains__" "Ground.__contains__" sHas f fd) (T : Bl mg) (c : GrK K C) : FnOk P w K mg base CX0 1 f fd ["self", "letter"] (spHasM K C) := by
  refine F.ok scHas (fun vs H Q E h => ?_) (fun cdv A outer s H vs Q E hr h => ?_)
  · obtain ⟨G, x, g, rfl, _⟩ := h
    rfl
  · obtain ⟨G, x, g, rfl, hG, h⟩ := h
    obtain ⟨dx, fs, l1, aL, l3, l4, l5, h0, h1, ⟨hl, hL⟩, h3, h4, h5, h6⟩ := hG.ex
    have hu := hu_of hr
    refine ⟨_, pss_one (ps_ret (pe_and (pe_callB call_isi (by rfl) T.isi (by decide +kernel) (pa_cons (pv 1) (pa_cons (pe_bltn (v := .ty "str") (by rfl) T.str (by decide +kernel) rfl) (pa_nil)))) (pe_one (pe_cmp (pc_din hu (pv 1) (pe_fld (pv 0) rfl)) rfl)))), ?_⟩
    rcases h with ⟨z, rfl, nd, q⟩ | ⟨t, ht, hk, q⟩
    · refine ⟨_, rfl, .str z, .ty "str", .type "str", .type "str", true, rfl, .ty "str", .base (.str z), kit_ty (by decide +kernel), true, rfl, ?_⟩
      by_cases m : z ∈ g.letters.map (·.1)
      · obtain ⟨q1, hq1, e1⟩ := List.mem_map.mp m
        rw [decide_eq_true m] at q
        have hv : valV (lkv g.letters) (.inr z : Key) = some (.int (q1.2 : Int)) := valV_lkv nd (by rw [← e1]; exact hq1)
        refine ⟨_, rfl, _, rfl, G, C, dx, fs, _, rfl, h0, c.cl, c.n2, hl, aL, some (.int (q1.2 : Int)), rfl, (by rw [← hv]; exact DGet.k (k := .inr z) hL), ?_⟩
        exact q
      · rw [decide_eq_false m] at q
        have hv : valV (lkv g.letters) (.inr z : Key) = none := valV_no m
        refine ⟨_, rfl, _, rfl, G, C, dx, fs, _, rfl, h0, c.cl, c.n2, hl, aL, none, rfl, (by rw [← hv]; exact DGet.k (k := .inr z) hL), ?_⟩
        exact q
    · exact ⟨_, rfl, x, .ty "str", t, .type "str", false, rfl, .ty "str", ht, hk, false, rfl, q⟩
end
end K7
set_option Elab.async false
set_option linter.all false
set_option autoImplicit false
set_option maxRecDepth 100000
set_option maxHeartbeats 8000000
namespace GB
open PySem PySem.Spec L2 EqT
/-- a row and those that it brings -/
def withB (r : PRow) : List PRow := if r.getD 0 "" = wH then [r, [wW, r.getD 1 ""]] else if r.getD 0 "" = wA then [r, [wW, r.getD 1 ""], [wW, r.getD 2 ""]] else [r]
theorem PermR.form {ls mv : List Str} {r : PRow} (h : PermR ls mv r) : (∃ wd x, r = [wd, x] ∧ wd ≠ wH ∧ wd ≠ wA) ∨ (∃ x y, r = [wH, x, y]) ∨ ∃ x y, r = [wA, x, y] := by
  obtain ⟨n1, n2, n3, n4, n5, n6, n7, n8, n9, n10⟩ := w_ne
  cases h with
  | f h => exact .inl ⟨_, _, rfl, n3, n4⟩
  | s h => exact .inl ⟨_, _, rfl, n6, n7⟩
  | w h => exact .inl ⟨_, _, rfl, n8, n9⟩
  | h a b => exact .inr (.inl ⟨_, _, rfl⟩)
  | a a b c => exact .inr (.inr ⟨_, _, rfl⟩)
theorem dec_str (a b : Str) : decide (V.str a = V.str b) = decide (a = b) := by
  by_cases h : a = b
  · subst h; simp
  · rw [decide_eq_false h, decide_eq_false fun e => h (V.str.inj e)]
theorem lay2 {H : Hp} {t : Addr} {r : PRow} (h : H t = none) : ∃ H', Same H H' ∧ RowAt H' r t ∧ upd H t (.tup (sts r)) = H' := lay (o := .tup (sts r)) h
end GB
namespace K7
open PySem PySem.Spec L2 GB EqT
abbrev sWB : Stmt := topS 18
abbrev sRA : Stmt := topS 20
def wbN : List Str := ["row"]
def raN : List Str := ["known", "thing", "part", "row"]
def spWB : Sp := fun vs H Q _ => ∃ (t : Addr) (r : PRow) (ls mv : List Str), vs = [.ref t] ∧ RowAt H r t ∧ PermR ls mv r ∧ ∀ l ts H', H l = none → Same H H' → H' l = some (.lst (ts.map V.ref)) → RowsAt H' (withB r) ts → Q (.ref l) H'
/-- whether a value is a text -/
def StrB (K : PySem.W.Frag) (H : Hp) (x : V) (b : Bool) : Prop := ∃ t, (∀ H', Same H H' → TyX K H' x t) ∧ PySem.W.kitOne K t (.type "str") = some b
theorem strB_s {K : PySem.W.Frag} {H : Hp} (s : Str) : StrB K H (.str s) true := ⟨.type "str", fun _ _ => .base (.str s), kit_ty (by decide +kernel)⟩
theorem StrB.mono {K : PySem.W.Frag} {H H' : Hp} {x : V} {b : Bool} (s : Same H H') (h : StrB K H x b) : StrB K H' x b := let ⟨t, h1, h2⟩ := h; ⟨t, fun J s' => h1 J (s.trans s'), h2⟩
/-- all([isinstance(part, str) for part in thing]) -/
def tAllT (K : PySem.W.Frag) : TE := fun σ H Q => ∃ (d : Option V) (a : Addr) (xs : List V) (bs : List Bool), σ = [d, some (.ref a), none, none] ∧ PlA H a xs ∧ Paired (StrB K H) xs bs ∧ xs.length ≤ 100 ∧ ∀ H', Same H H' → Q (.bl (bs.all id)) H'
theorem all_weak {K : PySem.W.Frag} (σ : L2.St) (H : Hp) (Q : VK) (h : tAllT K σ H Q) : tCB (rAll K) (tCons (tLc (iSeqW K (tVar 1)) (gName 2) tYes (tCB (rIsi K) (tCons (tVar 2) (tCons (tC (.ty "str")) tNil))) [2]) tNil) σ H Q := by
  obtain ⟨d, a, xs, bs, rfl, ha, hb, hl, q⟩ := h
  have lb := Paired.length hb
  obtain ⟨kb, hqv⟩ := sqV ((ha.sq (K := K)).mono (fun b o e => hid_to (ps := []) (by simp) e))
  refine ⟨_, rfl, a, xs, kb, [], rfl, hqv, fun W WJ D nD => ?_⟩
  refine lc_it WJ (fun i H' => Same H H' ∧ H' D = some (.lst ((bs.take i).map V.bl))) ⟨same_new nD, upd_same⟩ (fun i H' _ s' => hqv.mono (hid_same s'.1)) ?_ ?_
  · rintro i y H1 H2 hi ⟨s1, h1⟩ ⟨rfl, hy⟩
    obtain ⟨b, hbi, t, ty, kt⟩ := paired_at' hb hy
    refine ⟨rfl, ?_⟩
    refine ⟨_, rfl, y, .ty "str", t, .type "str", b, rfl, .ty "str", ty _ s1, kt, _, h1, ?_, fun c o e => ?_, ?_⟩
    · rw [List.length_map, List.length_take, sizeLine_eq]; omega
    · rw [upd_ne (ne_of_none e nD)]; exact s1 _ _ e
    · rw [upd_same, take_at hbi, List.map_append]; rfl
  · rintro H1 ⟨s1, h1⟩
    rw [lb, List.take_length] at h1
    exact ⟨D, _, rfl, SqL.of h1, q H1 s1⟩
/-- tuple(x) of a list or a tuple in a slot -/
def tTupP (i : Nat) : TE := fun σ H Q => ∃ a ys, σ[i]? = some (some (.ref a)) ∧ PlA H a ys ∧ ∀ l H', Same H H' → H' l = some (.tup ys) → Q (.ref l) H'
theorem tup_weak {K : PySem.W.Frag} {i : Nat} (σ : L2.St) (H : Hp) (Q : VK) (h : tTupP i σ H Q) : tCB (fun xs H_1 Q => ∃ p ys, xs = [V.ref p] ∧ ((SqL K H_1 p ys ∧ ∀ l, H_1 l = none → Q (.ref l) (upd H_1 l (.tup ys))) ∨ (SqT K H_1 p ys ∧ Q (.ref p) H_1))) (tCons (tVar i) tNil) σ H Q := by
  obtain ⟨p, ys, hk, hp, q⟩ := h
  exact ⟨_, hk, p, ys, rfl, tupP hp q⟩
def spRA (K : PySem.W.Frag) : Sp := fun vs H Q _ => ∃ (d : Addr) (kvs : List (List Key × V)) (known : List PRow) (x : V), vs = [.ref d, x] ∧ H d = some (.dT kvs) ∧ kvs.map (·.1) = known.map rkey ∧
  ((∃ a r, x = .ref a ∧ PlA H a (sts r) ∧ r.length ≤ 100 ∧ (∀ r', amg known r = some r' → ∀ t H', Same H H' → RowAt H' r' t → Q (.ref t) H') ∧ (amg known r = none → ∀ H', Same H H' → Q .non H')) ∨
   (∃ t, (∀ H', Same H H' → TyX K H' x t) ∧ PySem.W.kitAny K t [.type "list", .type "tuple"] = some false ∧ ∀ H', Same H H' → Q .non H') ∨
   (∃ a xs bs, x = .ref a ∧ PlA H a xs ∧ xs.length ≤ 100 ∧ Paired (StrB K H) xs bs ∧ bs.all id = false ∧ ∀ H', Same H H' → Q .non H'))
section
variable {P : Program} {w : World} {K : PySem.W.Frag} {mg : Str → Option Value} {base : Heap} {C : Addr}
theorem scWB : FnScope wbN ["row"] (defScope sWB) := ⟨rfl, rfl, rfl, by decide +kernel, rfl, by decide +kernel, by decide +kernel⟩
theorem scRA : FnScope raN ["known", "thing"] (defScope sRA) := ⟨rfl, rfl, rfl, by decide +kernel, rfl, by decide +kernel, by decide +kernel⟩
theorem ok_wb {f : Addr} {fd : FuncData} (F : Fun K "with_brought" "with_brought" sWB f fd) (T : Bl mg) : FnOk P w K mg base CX0 1 f fd ["row"] spWB := by
  refine F.ok scWB (fun vs H Q E h => ?_) (fun cdv A outer s H vs Q E hr h => ?_)
  · obtain ⟨t, r, ls, mv, rfl, _⟩ := h
    rfl
  · obtain ⟨t, r, ls, mv, rfl, ht, hp, q⟩ := h
    refine ⟨_, pss_cons (ps_if (pt_cmpR op_eq (pe_ix (r := rIxT K) ix_tup (pv 0) (pe_int) (fun _ _ => rfl)) (pe_str) (nomark _)) (pss_one (ps_ret (pe_lst (pa_cons (pv 0) (pa_cons (pe_tup (pa_cons (pe_str) (pa_cons (pe_ix (r := rIxT K) ix_tup (pv 0) (pe_int) (fun _ _ => rfl)) (pa_nil)))) (pa_nil)))))) (pss_nil)) (pss_cons (ps_if (pt_cmpR op_eq (pe_ix (r := rIxT K) ix_tup (pv 0) (pe_int) (fun _ _ => rfl)) (pe_str) (nomark _)) (pss_one (ps_ret (pe_lst (pa_cons (pv 0) (pa_cons (pe_tup (pa_cons (pe_str) (pa_cons (pe_ix (r := rIxT K) ix_tup (pv 0) (pe_int) (fun _ _ => rfl)) (pa_nil)))) (pa_cons (pe_tup (pa_cons (pe_str) (pa_cons (pe_ix (r := rIxT K) ix_tup (pv 0) (pe_int) (fun _ _ => rfl)) (pa_nil)))) (pa_nil))))))) (pss_nil)) (pss_one (ps_ret (pe_lst (pa_cons (pv 0) (pa_nil)))))), ?_⟩
    have ht0 : H t = some (.tup (sts r)) := ht
    obtain ⟨n1, n2, n3, n4, n5, n6, n7, n8, n9, n10⟩ := w_ne
    have tp : ∀ {J : Hp} {l : Addr} {a b : Str}, J l = none → ∃ J', Same J J' ∧ RowAt J' [a, b] l ∧ upd J l (.tup [.str a, .str b]) = J' := fun n => lay (o := .tup _) n
    rcases hp.form with ⟨wd, x, rfl, a, b⟩ | ⟨x, y, rfl⟩ | ⟨x, y, rfl⟩
    · refine ⟨_, rfl, t, _, 0, .str wd, rfl, rfl, SqT.of ht0, rfl, rfl, _, rfl, ?_⟩
      rw [show decide (V.str wd = V.str ("shows" : Str)) = false from (dec_str _ _).trans (decide_eq_false a)]
      refine iteF ?_
      refine ⟨_, rfl, t, _, 0, .str wd, rfl, rfl, SqT.of ht0, rfl, rfl, _, rfl, ?_⟩
      rw [show decide (V.str wd = V.str ("shares" : Str)) = false from (dec_str _ _).trans (decide_eq_false b)]
      refine iteF ?_
      refine ⟨_, rfl, by show 1 ≤ sizeLine; decide, fun l nl => ?_⟩
      obtain ⟨H1, s1, h1, e1⟩ := lay (o := .lst [.ref t]) nl
      rw [e1]
      refine q l [t] H1 nl s1 h1 ?_
      unfold withB
      rw [if_neg (by exact a), if_neg (by exact b)]
      exact .cons (s1 _ _ ht0) .nil
    · refine ⟨_, rfl, t, _, 0, .str wH, rfl, rfl, SqT.of ht0, rfl, rfl, _, rfl, ?_⟩
      rw [show decide (V.str wH = V.str ("shows" : Str)) = true from decide_eq_true rfl]
      refine iteT ?_
      refine ⟨_, rfl, _, rfl, t, _, 1, .str x, rfl, rfl, SqT.of ht0, rfl, by show 2 ≤ sizeLine; decide, fun u nu => ?_⟩
      obtain ⟨H1, s1, h1, e1⟩ := tp (a := wW) (b := x) nu
      rw [show upd H u (.tup [.str ("writes" : Str), .str x]) = H1 from e1]
      refine ⟨by show 2 ≤ sizeLine; decide, fun l nl => ?_⟩
      obtain ⟨H2, s2, h2, e2⟩ := lay (o := .lst [.ref t, .ref u]) nl
      rw [e2]
      refine q l [t, u] H2 (s1.free nl) (s1.trans s2) h2 ?_
      unfold withB
      rw [if_pos (by rfl)]
      exact .cons (s2 _ _ (s1 _ _ ht0)) (.cons (s2 _ _ h1) .nil)
    · have nH : wA ≠ wH := w_ne.2.2.2.2.2.2.2.2.2.symm
      refine ⟨_, rfl, t, _, 0, .str wA, rfl, rfl, SqT.of ht0, rfl, rfl, _, rfl, ?_⟩
      rw [show decide (V.str wA = V.str ("shows" : Str)) = false from (dec_str _ _).trans (decide_eq_false nH)]
      refine iteF ?_
      refine ⟨_, rfl, t, _, 0, .str wA, rfl, rfl, SqT.of ht0, rfl, rfl, _, rfl, ?_⟩
      rw [show decide (V.str wA = V.str ("shares" : Str)) = true from decide_eq_true rfl]
      refine iteT ?_
      refine ⟨_, rfl, _, rfl, t, _, 1, .str x, rfl, rfl, SqT.of ht0, rfl, by show 2 ≤ sizeLine; decide, fun u nu => ?_⟩
      obtain ⟨H1, s1, h1, e1⟩ := tp (a := wW) (b := x) nu
      rw [show upd H u (.tup [.str ("writes" : Str), .str x]) = H1 from e1]
      refine ⟨_, rfl, t, _, 2, .str y, rfl, rfl, SqT.of (s1 _ _ ht0), rfl, by show 2 ≤ sizeLine; decide, fun v nv => ?_⟩
      obtain ⟨H2, s2, h2, e2⟩ := tp (a := wW) (b := y) nv
      rw [show upd H1 v (.tup [.str ("writes" : Str), .str y]) = H2 from e2]
      refine ⟨by show 3 ≤ sizeLine; decide, fun l nl => ?_⟩
      obtain ⟨H3, s3, h3, e3⟩ := lay (o := .lst [.ref t, .ref u, .ref v]) nl
      rw [e3]
      refine q l [t, u, v] H3 ((s1.trans s2).free nl) ((s1.trans s2).trans s3) h3 ?_
      unfold withB
      rw [if_neg (by exact nH), if_pos (by rfl)]
      exact .cons (s3 _ _ (s2 _ _ (s1 _ _ ht0))) (.cons (s3 _ _ (s2 _ _ h1)) (.cons (s3 _ _ h2) .nil))
theorem ok_ra {f : Addr} {fd : FuncData} (F : Fun K "_row_among" "_row_among" sRA f fd) (T : Bl mg) (IL : Fns P w K mg base "is_list" 1 ["thing"] (spIsL K)) : FnOk P w K mg base CX0 2 f fd ["known", "thing"] (spRA K) := by
  refine F.ok scRA (fun vs H Q E h => ?_) (fun cdv A outer s H vs Q E hr h => ?_)
  · obtain ⟨d, kvs, known, x, rfl, _⟩ := h
    rfl
  · obtain ⟨d, kvs, known, x, rfl, hd, hk, h⟩ := h
    have hu := hu_of hr
    refine ⟨_, pss_cons (ps_if (PW.pt (pw_or (pt_not (pt_val (pe_fn IL hr (by decide) rfl (pa_cons (pv 1) (pa_nil))))) (pw_or1 (pt_not (pt_val (pe_weak (t' := tAllT K) (pe_callB (cr_all rfl) (by rfl) T.all (by decide +kernel) (pa_cons (pe_lc (own := [("part", 2)]) (g := gName 2) (tt := tYes) rfl scRA.nd (pi_seqW (pv 1)) (blkOk_by (own := [("part", 2)]) (N := raN) (sc := defScope sRA) (by decide +kernel)) (fun _ _ _ _ _ => pg_name (i := 2) scRA.nd rfl (.inl rfl)) (fun _ _ _ _ _ => pts_nil) (fun _ _ _ _ _ => pe_callB (id := "isinstance") (r := rIsi K) call_isi (by rfl) T.isi (by decide +kernel) (pa_cons (pv 2) (pa_cons (pe_bltn (v := .ty "str") (by rfl) T.str (by decide +kernel) rfl) (pa_nil))))) (pa_nil))) all_weak)))))) (pss_one (ps_ret (pe_non))) (pss_nil)) (pss_cons (ps_set (i := 3) scRA.nd rfl (.inl rfl) (pe_weak (t' := tTupP 1) (pe_callTy call_tuple_of (by rfl) T.tuple (by decide +kernel) (pa_cons (pv 1) pa_nil)) tup_weak)) (pss_cons (ps_if (PW.pt (pw_and (pt_cmpR op_eq (pe_callB call_len_seq (by rfl) T.len PySem.boot_len (pa_cons (pv 3) pa_nil)) (pe_int) (nomark _)) (pw_and (pt_cmpR op_eq (pe_ix (r := rIxT K) ix_tup (pv 3) (pe_int) (fun _ _ => rfl)) (pe_str) (nomark _)) (pw_and1 (pt_cmp (pc_dnotin hu (pv 3) (pv 0))))))) (pss_one (ps_set (i := 3) scRA.nd rfl (.inl rfl) (pe_tup (pa_cons (pe_str) (pa_cons (pe_ix (r := rIxT K) ix_tup (pv 3) (pe_int) (fun _ _ => rfl)) (pa_cons (pe_ix (r := rIxT K) ix_tup (pv 3) (pe_int) (fun _ _ => rfl)) (pa_nil))))))) (pss_nil)) (pss_one (ps_ret (pe_ifExp (pt_cmp (pc_din hu (pv 3) (pv 0))) (pv 3) (pe_non)))))), ?_⟩
    rcases h with ⟨a, r, rfl, ha, hl, q1, q2⟩ | ⟨t, ht, hkt, q⟩ | ⟨a, xs, bs, rfl, ha, hl, hb, hall, q⟩
    · obtain ⟨ty, ht, hty⟩ := tyS (ha.sq (K := K))
      refine ⟨_, rfl, .ref a, _, true, rfl, hty, kit_seq ht, fun H1 s1 => ⟨_, rfl, ?_⟩⟩
      refine iteF ?_
      have hb : Paired (StrB K H) (sts r) (r.map fun _ => true) := by
        clear hl q1 q2 hty ht ha
        induction r with
        | nil => exact .nil
        | cons s r ih => exact .cons (strB_s s) ih
      refine ⟨_, a, sts r, _, rfl, ha.mono s1, Paired.mapP hb fun _ _ z => z.mono s1, by rw [sts_len]; exact hl, fun H2 s2 => ⟨_, rfl, ?_⟩⟩
      rw [show (r.map fun _ => true).all id = true by simp]
      refine iteF ?_
      have S2 := s1.trans s2
      have fin : ∀ (t' : Addr) (H4 : Hp) (r' : PRow), Same H H4 → RowAt H4 r' t' → amgR known r = r' → tRet (tIf (tB (tDIn (tVar 3) (tVar 0))) (tVar 3) (tC .non)) { nx := fun x H' => Q .non H', rt := Q } [some (.ref d), some (.ref a), none, some (.ref t')] H4 := by
        intro t' H4 r' s4 h4 e
        refine ⟨_, rfl, _, rfl, d, valV kvs (rkey r'), rfl, DGet.t (s4 _ _ hd) (by rw [← row_kV]; exact h4), _, rfl, ?_⟩
        rw [valV_row hk]
        by_cases c : r' ∈ known
        · rw [decide_eq_true c]
          refine iteT ?_
          exact ⟨_, rfl, q1 r' (by unfold amg; rw [e, if_pos c]) t' H4 s4 h4⟩
        · rw [decide_eq_false c]
          refine iteF ?_
          exact q2 (by unfold amg; rw [e, if_neg c]) H4 s4
      refine ⟨a, sts r, rfl, ha.mono S2, fun t H3 s3 h3 => ?_⟩
      have S3 := S2.trans s3
      have h3' : RowAt H3 r t := h3
      refine ⟨_, rfl, t, sts r, rfl, .inr (SqT.of h3), rfl, _, rfl, ?_⟩
      rw [sts_len, show decide (V.int (r.length : Nat) = V.int 3) = decide (r.length = 3) from by
        by_cases c : r.length = 3
        · rw [c]; rfl
        · rw [decide_eq_false c, decide_eq_false fun e => c (by have := V.int.inj e; omega)]]
      by_cases c3 : r.length = 3
      · rw [decide_eq_true c3]
        refine iteT ?_
        obtain ⟨x, y, z, rfl⟩ : ∃ x y z, r = [x, y, z] := by
          match r, c3 with
          | [x, y, z], _ => exact ⟨x, y, z, rfl⟩
        refine ⟨_, rfl, t, _, 0, .str x, rfl, rfl, SqT.of h3, rfl, rfl, _, rfl, ?_⟩
        rw [show decide (V.str x = V.str ("shares" : Str)) = decide (x = wA) from dec_str _ _]
        by_cases cA : x = wA
        · rw [decide_eq_true cA]
          refine iteT ?_
          refine ⟨_, rfl, _, rfl, d, valV kvs (rkey [x, y, z]), rfl, DGet.t (S3 _ _ hd) (by rw [← row_kV]; exact h3), _, rfl, ?_⟩
          rw [valV_row hk]
          by_cases c : [x, y, z] ∈ known
          · rw [decide_eq_true c]
            refine iteF ?_
            exact fin t H3 _ S3 h3' (by unfold amgR; rw [if_neg (fun e => e.2.2 c)])
          · rw [decide_eq_false c]
            refine iteT ?_
            refine ⟨_, rfl, t, _, 2, .str z, rfl, rfl, SqT.of h3, rfl, _, rfl, t, _, 1, .str y, rfl, rfl, SqT.of h3, rfl, by show 3 ≤ sizeLine; decide, fun u nu => ?_⟩
            obtain ⟨H4, s4, h4, e4⟩ := lay (o := .tup [.str wA, .str z, .str y]) nu
            rw [show upd H3 u (.tup [.str ("shares" : Str), .str z, .str y]) = H4 from e4]
            exact fin u H4 [wA, z, y] (S3.trans s4) h4 (by unfold amgR; rw [if_pos ⟨rfl, cA, c⟩]; rfl)
        · rw [decide_eq_false cA]
          refine iteF ?_
          exact fin t H3 _ S3 h3' (by unfold amgR; rw [if_neg (fun e => cA e.2.1)])
      · rw [decide_eq_false c3]
        refine iteF ?_
        exact fin t H3 _ S3 h3' (by unfold amgR; rw [if_neg (fun e => c3 e.1)])
    · refine ⟨_, rfl, x, t, false, rfl, ht, hkt, fun H1 s1 => ⟨_, rfl, ?_⟩⟩
      refine iteT ?_
      exact q H1 s1
    · obtain ⟨ty, ht, hty⟩ := tyS (ha.sq (K := K))
      refine ⟨_, rfl, .ref a, _, true, rfl, hty, kit_seq ht, fun H1 s1 => ⟨_, rfl, ?_⟩⟩
      refine iteF ?_
      refine ⟨_, a, xs, bs, rfl, ha.mono s1, Paired.mapP hb fun _ _ z => z.mono s1, hl, fun H2 s2 => ⟨_, rfl, ?_⟩⟩
      rw [hall]
      refine iteT ?_
      exact q H2 (s1.trans s2)
end
end K7
set_option Elab.async false
set_option linter.all false
set_option maxRecDepth 100000
set_option maxHeartbeats 4000000
/-! Two tuples of the very same things. -/
namespace GB
open PySem PySem.Spec L2 PyProof.Rows PySem.SeqAt
def simpV : V → Bool
  | .non => true
  | .bl _ => true
  | .int _ => true
  | .str _ => true
  | .ref _ => true
  | _ => false
theorem simp_eq {A : Around} {s : Shared} {v : V} {u u' : Value} (h : simpV v = true) (r : RelV v u) (r' : RelV v u') : EqAt A s u u' true := by
  cases v with
  | non => cases (show u = Value.none from r); cases (show u' = Value.none from r'); exact .same _
  | bl b => cases (show u = Value.bool b from r); cases (show u' = Value.bool b from r'); exact .same _
  | int i =>
    obtain ⟨t, rfl⟩ := (show ∃ t, u = Value.int i t from r)
    obtain ⟨t', rfl⟩ := (show ∃ t, u' = Value.int i t from r')
    have := EqAt.int_int (A := A) (s := s) i t i t'
    rwa [beq_self_eq_true] at this
  | str x =>
    obtain ⟨t, rfl⟩ := (show ∃ t, u = Value.str x t from r)
    obtain ⟨t', rfl⟩ := (show ∃ t, u' = Value.str x t from r')
    have := EqAt.str_str (A := A) (s := s) x t x t'
    rwa [beq_self_eq_true] at this
  | ref a => cases (show u = Value.ref a from r); cases (show u' = Value.ref a from r'); exact .same _
  | _ => cases h
theorem vals_idx : ∀ {xs : List V} {us : List Value}, Vals xs us → ∀ j (h : j < us.length), ∃ v, xs[j]? = some v ∧ RelV v us[j]
  | _, _, .cons r _, 0, _ => ⟨_, rfl, r⟩
  | _, _, .cons _ t, j + 1, h => vals_idx t j (by simpa using h)
def rNeI : R2 := fun x y H Q => ∃ p q xs, x = .ref p ∧ y = .ref q ∧ H p = some (.tup xs) ∧ H q = some (.tup xs) ∧ (∀ v ∈ xs, simpV v = true) ∧ Q (.bl false) H
theorem op_neI {X : Cx} (hu : X.A.units < cLine) : OpR X (compareOp .NotEq) rNeI := by
  intro pins s σ H x y v u Q I rx ry h
  obtain ⟨p, q, xs, rfl, rfl, hp, hq, hs, k⟩ := h
  cases rx
  cases ry
  obtain ⟨_, its, r1, t1⟩ := (show ObjOk X.prog X.w H s.heap p (.tup xs) from I.hok p _ hp)
  obtain ⟨_, its2, r2, t2⟩ := (show ObjOk X.prog X.w H s.heap q (.tup xs) from I.hok q _ hq)
  have e := RcNeAt.tuples (e := fun _ => true) t1 t2 hu fun j h1 h2 => by
    obtain ⟨v1, e1, q1⟩ := vals_idx r1 j (by simpa using h1)
    obtain ⟨v2, e2, q2⟩ := vals_idx r2 j (by simpa using h2)
    rw [e1] at e2
    obtain rfl := Option.some.inj e2
    exact simp_eq (hs _ (List.mem_of_getElem? e1)) (by simpa using q1) (by simpa using q2)
  have hsz : its.toArray.size = its2.toArray.size := by simp [← r1.length, ← r2.length]
  refine e X.prog X.w X.xe _ ?_
  have eb : (!((List.range (min its.toArray.size its2.toArray.size)).all (fun _ => true) && its.toArray.size == its2.toArray.size)) = false := by
    rw [hsz]; simp
  first
    | (rw [eb]; exact ⟨.bl false, H, I, rfl, k⟩)
    | (show EP X pins σ Q (.bool _) s; rw [eb]; exact ⟨.bl false, H, I, rfl, k⟩)
end GB
set_option Elab.async false
set_option linter.all false
set_option maxRecDepth 100000
set_option maxHeartbeats 4000000
/-! A ground's terms can be laid: their texts are plain, they are not deep. -/
namespace GB
open PySem PySem.Spec L2
theorem name_ok {z : Str} (h : nameB z = true) : PyData.strOk z = true := by
  unfold nameB at h
  have h2 := (Bool.and_eq_true_iff.mp h).2
  unfold PyData.strOk
  rw [Array.all_eq_true]
  intro i hi
  have hm : z.cps[i] ∈ z.cps.toList := Array.getElem_mem_toList hi
  have hs := List.all_eq_true.mp h2 _ hm
  unfold signB at hs
  have h3 := (Bool.and_eq_true_iff.mp hs).2
  have h4 : ¬ ([122] < [z.cps[i]]) := by
    intro hlt
    rw [decide_eq_true hlt] at h3
    cases h3
  have h5 : ¬ (122 < z.cps[i]) := fun hlt => h4 (List.Lex.rel hlt)
  exact decide_eq_true (by omega)
theorem ds_lay : ∀ {ds : List PyData} {m : Nat}, (∀ (i : Nat) d, ds[i]? = some d → PyData.canLay0 d = true ∧ PyData.depth d ≤ m) → PyData.canLayAll0 ds = true ∧ PyData.depthAll ds ≤ m
  | [], m, _ => ⟨rfl, Nat.zero_le _⟩
  | d :: r, m, h => by
    obtain ⟨a1, a2⟩ := h 0 d rfl
    obtain ⟨b1, b2⟩ := ds_lay (ds := r) (m := m) fun i e he => h (i + 1) e he
    refine ⟨?_, ?_⟩
    · show (PyData.canLay0 d && PyData.canLayAll0 r) = true
      rw [a1, b1]; rfl
    · show max (PyData.depth d) (PyData.depthAll r) ≤ m
      omega
theorem tm_lay {L : List (Str × Nat)} (hL : ∀ q ∈ L, PyData.strOk q.1 = true) {ns : List Str} {t : Tm} (h : TmOk L ns t) : PyData.canLay0 t.d = true ∧ PyData.depth t.d ≤ 2 * t.size := by
  induction h with
  | @mk ns w n ks hH hK ih =>
    have hks : PyData.canLayAll0 (ks.map Tm.d) = true ∧ PyData.depthAll (ks.map Tm.d) ≤ 2 * Tm.sizes ks := ds_lay fun i d hd => by
      rw [List.getElem?_map] at hd
      cases e : ks[i]? with
      | none => rw [e] at hd; cases hd
      | some k =>
        rw [e] at hd
        obtain rfl := Option.some.inj hd
        obtain ⟨a1, a2⟩ := ih i k e
        have := sizes_mem (List.mem_of_getElem? e)
        exact ⟨a1, by omega⟩
    obtain ⟨k1, k2⟩ := hks
    have hn : PyData.strOk n = true := by
      clear hK ih k1 k2
      generalize ks.length = m at hH
      cases hH with
      | val h => exact name_ok h
      | fail h => exact name_ok h
      | name h _ => exact name_ok h
      | use h => exact hL _ h
      | bind h _ => exact name_ok h
      | op h => decide +kernel
    have hw : PyData.strOk w = true := by
      clear hK ih k1 k2
      generalize ks.length = m at hH
      cases hH with
      | op h => exact (show ∀ q ∈ opsW, PyData.strOk q.1 = true by decide +kernel) _ h
      | _ => decide +kernel
    rw [d_node, Tm.size]
    unfold nodeT
    have cs : ∀ x : Str, PyData.canLay0 (.str x) = PyData.strOk x := fun x => by rw [PyData.canLay0]
    have ct : ∀ l : List PyData, PyData.canLay0 (.tuple l) = PyData.canLayAll0 l := fun l => by rw [PyData.canLay0]
    have cc : ∀ (d : PyData) (l : List PyData), PyData.canLayAll0 (d :: l) = (PyData.canLay0 d && PyData.canLayAll0 l) := fun d l => rfl
    have cn : PyData.canLayAll0 [] = true := rfl
    have es : ∀ x : Str, PyData.depth (.str x) = 0 := fun x => by rw [PyData.depth]
    have et : ∀ l : List PyData, PyData.depth (.tuple l) = PyData.depthAll l + 1 := fun l => by rw [PyData.depth]
    have ec : ∀ (d : PyData) (l : List PyData), PyData.depthAll (d :: l) = max (PyData.depth d) (PyData.depthAll l) := fun d l => rfl
    have en : PyData.depthAll [] = 0 := rfl
    split
    · simp only [cs, ct, cc, cn, es, et, ec, en, hn, hw, k1, Bool.and_self, true_and]
      omega
    · split
      · simp only [cs, ct, cc, cn, es, et, ec, en, hn, hw, k1, Bool.and_self, true_and]
        omega
      · split
        · simp only [cs, ct, cc, cn, es, et, ec, en, hn, hw, k1, Bool.and_self, true_and]
          omega
        · simp only [cs, ct, cc, cn, es, et, ec, en, hn, hw, Bool.and_self, true_and]
          omega
theorem tm_shaped {L : List (Str × Nat)} (hL : ∀ q ∈ L, PyData.strOk q.1 = true) {ns : List Str} {t : Tm} (h : TmOk L ns t) (hs : t.size ≤ 32) : SeqAt.shaped t.d = true := by
  obtain ⟨h1, h2⟩ := tm_lay hL h
  unfold SeqAt.shaped
  rw [h1, decide_eq_true (by omega)]
  rfl
end GB
set_option Elab.async false
set_option linter.all false
set_option maxRecDepth 100000
set_option maxHeartbeats 8000000
namespace GB
open PySem PySem.Spec L2 PyProof.Rows
theorem GD.Fit.okl {g : GD} (h : g.Fit) : ∀ x ∈ g.letters.map (·.1), PyData.strOk x = true := fun x hx => by
  obtain ⟨q, hq, rfl⟩ := List.mem_map.mp hx
  exact name_ok (h.nm q hq)
theorem GD.Fit.oks {g : GD} (h : g.Fit) (xs : List Str) : ∀ x ∈ g.sel xs, PyData.strOk x = true := fun x hx => h.okl x (List.mem_filter.mp hx).1
theorem GD.Fit.okf {g : GD} (h : g.Fit) : ∀ f ∈ g.facts, PyData.strOk f.x = true ∧ (∀ v ∈ f.vals, PyData.strOk v = true) ∧ PyData.strOk f.kind = true ∧ PyData.strOk f.en = true := fun f hf =>
  have o := h.fa f hf
  ⟨h.okl _ (h.fs _ o.x), fun v hv => ok3 v (o.vals v hv), by rcases o.kind with e | e <;> rw [e] <;> decide +kernel, by rcases o.en with e | e <;> rw [e] <;> decide +kernel⟩
theorem lkv_same {ls : List (Str × Nat)} (nd : (ls.map (·.1)).Nodup) : ∀ p ∈ lkv ls, valV (lkv ls) p.1 = some p.2 ∧ flatB p.2 = true := fun p hp => by
  obtain ⟨q, hq, rfl⟩ := List.mem_map.mp hp
  exact ⟨valV_lkv nd hq, rfl⟩
end GB
namespace K7
open PySem PySem.Spec L2 GB
section
variable {P : Program} {w : World} {K : PySem.W.Frag} {mg : Str → Option Value} {base : Heap} {C : Addr}
theorem ok_eq {f : Addr} {fd : FuncData} (F : Fun K "__eq__" "Ground.__eq__" sEq f fd) (T : Bl mg) (mG : mg "Ground" = some (.ref C)) (kO : PySem.W.kitOne K (.ref C) (.ref C) = some true) (c : GrK K C) : FnOk P w K mg base CX0 1 f fd ["self", "other"] (spEqM K C) := by
  refine F.ok scEq (fun vs H Q E h => ?_) (fun cdv A outer s H vs Q E hr h => ?_)
  · obtain ⟨G, y, g, rfl, _⟩ := h
    rfl
  · obtain ⟨G, y, g, rfl, hG, fit, h⟩ := h
    have hu : (A.deeper (PyProof.Rows.envOfC "Ground.__eq__" (defScope sEq) s.heap.objs.size f cdv)).units + 64 < cLine := by have := hr.un; omega
    have hu0 : (A.deeper (PyProof.Rows.envOfC "Ground.__eq__" (defScope sEq) s.heap.objs.size f cdv)).units < cLine := by omega
    refine ⟨_, pss_one (ps_ret (pe_and (pe_callB call_isi (by rfl) T.isi (by decide +kernel) (pa_cons (pv 1) (pa_cons (pe_glob (v := .ref C) rfl mG rfl) (pa_nil))))
      (pe_and (pe_cmpR (op_eqD hu) (pe_fld (pv 0) rfl) (pe_fld (pv 1) rfl) (nomark _)) (pe_and (pe_cmpR (op_eq_dictA hu0) (pe_fld (pv 0) rfl) (pe_fld (pv 1) rfl) (nomark _))
      (pe_and (pe_cmpR (op_eqD hu) (pe_fld (pv 0) rfl) (pe_fld (pv 1) rfl) (nomark _)) (pe_and (pe_cmpR (op_eqD hu) (pe_fld (pv 0) rfl) (pe_fld (pv 1) rfl) (nomark _)) (pe_one (pe_cmpR (op_eqD hu) (pe_fld (pv 0) rfl) (pe_fld (pv 1) rfl) (nomark _))))))))), ?_⟩
    rcases h with ⟨G2, g2, rfl, hG2, fit2, cond, q⟩ | ⟨t, ht, hk, q⟩
    · obtain ⟨dx, fs, l1, l2, l3, l4, l5, h0, h1, h2, h3, h4, h5, h6⟩ := hG.ex
      obtain ⟨dx', fs', m1, m2, m3, m4, m5, k0, k1, k2, k3, k4, k5, k6⟩ := hG2.ex
      refine ⟨_, rfl, .ref G2, .ref C, .ref C, .ref C, true, rfl, .own C, c.ty H G2 dx' fs' k0, kO, true, rfl, ?_⟩
      refine iteT ?_
      refine ⟨_, rfl, G, C, dx, fs, _, rfl, h0, c.cl, c.n3, h3.1, _, rfl, G2, C, dx', fs', _, rfl, k0, c.cl, c.n3, k3.1, strD (g.letters.map (·.1)), strD (g2.letters.map (·.1)), dp_strD (SqL.of h3.2), dp_strD (SqL.of k3.2), shp_strD fit.okl, shp_strD fit2.okl, ?_⟩
      rw [eqv_strD]
      unfold eqG at q
      by_cases e1 : g.letters.map (·.1) = g2.letters.map (·.1)
      · rw [decide_eq_true e1] at q ⊢
        refine ⟨true, rfl, ?_⟩
        refine iteT ?_
        have eL := cond e1
        refine ⟨_, rfl, G, C, dx, fs, _, rfl, h0, c.cl, c.n2, h2.1, _, rfl, G2, C, dx', fs', _, rfl, k0, c.cl, c.n2, k2.1, l2, m2, lkv g.letters, lkv g2.letters, rfl, rfl, h2.2, k2.2, by rw [eL], by rw [← eL]; exact lkv_same fit.nd, ?_⟩
        refine ⟨true, rfl, ?_⟩
        refine iteT ?_
        refine ⟨_, rfl, G, C, dx, fs, _, rfl, h0, c.cl, c.n4, h4.1, _, rfl, G2, C, dx', fs', _, rfl, k0, c.cl, c.n4, k4.1, strD (g.sel g.fixed), strD (g2.sel g2.fixed), dp_strD (SqL.of h4.2), dp_strD (SqL.of k4.2), shp_strD (fit.oks _), shp_strD (fit2.oks _), ?_⟩
        rw [eqv_strD]
        by_cases e2 : g.sel g.fixed = g2.sel g2.fixed
        · rw [decide_eq_true e2] at q ⊢
          refine ⟨true, rfl, ?_⟩
          refine iteT ?_
          refine ⟨_, rfl, G, C, dx, fs, _, rfl, h0, c.cl, c.n5, h5.1, _, rfl, G2, C, dx', fs', _, rfl, k0, c.cl, c.n5, k5.1, strD (g.sel g.comm), strD (g2.sel g2.comm), dp_strD (SqL.of h5.2), dp_strD (SqL.of k5.2), shp_strD (fit.oks _), shp_strD (fit2.oks _), ?_⟩
          rw [eqv_strD]
          by_cases e3 : g.sel g.comm = g2.sel g2.comm
          · rw [decide_eq_true e3] at q ⊢
            refine ⟨true, rfl, ?_⟩
            refine iteT ?_
            refine ⟨_, rfl, G, C, dx, fs, _, rfl, h0, c.cl, c.n1, h1.1, _, rfl, G2, C, dx', fs', _, rfl, k0, c.cl, c.n1, k1.1, factsD g.facts, factsD g2.facts, dp_factsD h1.2, dp_factsD k1.2, shp_factsD fit.okf, shp_factsD fit2.okf, ?_⟩
            rw [eqv_factsD]
            exact q
          · rw [decide_eq_false e3] at q ⊢
            refine ⟨false, rfl, ?_⟩
            refine iteF ?_
            exact q
        · rw [decide_eq_false e2] at q ⊢
          refine ⟨false, rfl, ?_⟩
          refine iteF ?_
          exact q
      · rw [decide_eq_false e1] at q ⊢
        refine ⟨false, rfl, ?_⟩
        refine iteF ?_
        exact q
    · refine ⟨_, rfl, y, .ref C, t, .ref C, false, rfl, .own C, ht, hk, false, rfl, ?_⟩
      exact q
end
end K7
set_option Elab.async false
set_option linter.all false
set_option maxRecDepth 100000
set_option maxHeartbeats 4000000
/-! a != b, two lists whose items are equal: each pair of items plain data, or two dicts of plain values. -/
namespace PySem.SeqAt
open AutoSeq1 (wpAny_loadPart')
open MeetsSeq MeetsSeq2 MeetsSeq3 SeqRoads2
section
variable {prog : Program} {w : World}
theorem gb_ne_turns (l b : Addr) (us ws : Array Value) (n n2 : Nat) (dd dd2 : Option Addr) (sl sl2 : Array (Option Value)) (hsz : us.size = ws.size) (k : Nat) :
    ∀ i : Nat, us.size - i = k → MeetsIn prog w (Builtin.«list.__eq__.loop» ⟨[.ref l, .ref b, rawInt i, rawInt 3], []⟩)
      (fun A R s => s.heap.get? l = some { cls := .type "list", dict := dd, data := .seq us n, slots := sl } ∧ s.heap.get? b = some { cls := .type "list", dict := dd2, data := .seq ws n2, slots := sl2 } ∧
        (∀ j (h1 : j < us.size) (h2 : j < ws.size), EqP prog w A.in1 s us[j] ws[j] true) ∧ R (.ok (.ret (.bool false))) s) := by
  induction k with
  | zero =>
    intro i hk A R s h
    obtain ⟨hp, g, d, tk, os⟩ := s
    obtain ⟨hl, hb, he, h⟩ := h
    wp_walk using wpAny_loadPart' hl, wpAny_loadPart' hb
    have e1 : us[((i : Nat) : Int).toNat]? = none := by simp; omega
    have e2 : ws[((i : Nat) : Int).toNat]? = none := by simp; omega
    rw [e1, e2]
    wp_walk using wpAny_loadPart' hl, wpAny_loadPart' hb
    show R (.ok (.ret (.bool (us.size != ws.size)))) _
    rw [hsz]
    simpa using h
  | succ k ih =>
    intro i hk A R s h
    obtain ⟨hp, g, d, tk, os⟩ := s
    obtain ⟨hl, hb, he, h⟩ := h
    wp_walk using wpAny_loadPart' hl, wpAny_loadPart' hb
    have l1 : i < us.size := by omega
    have l2 : i < ws.size := by omega
    have e1 : us[((i : Nat) : Int).toNat]? = some us[i] := by simp [l1]
    have e2 : ws[((i : Nat) : Int).toNat]? = some ws[i] := by simp [l2]
    have ec : ((i : Int) + 1) = ((i + 1 : Nat) : Int) := by push_cast; rfl
    rw [e1, e2]
    refine wpAny_bind (he i l1 l2 _ _ ?_)
    wp_walk
    rw [ec]
    exact ⟨plainId_quiet plain_eq_loop _, codeAny_builtin entry_eq_loop (by
      rw [Around.under_plainId plain_eq_loop _]
      exact ih (i + 1) (by omega) A R _ ⟨hl, hb, he, h⟩)⟩
theorem gb_ne_lists (l b : Addr) (us ws : Array Value) (n n2 : Nat) (dd dd2 : Option Addr) (sl sl2 : Array (Option Value)) (hsz : us.size = ws.size) :
    MeetsIn prog w (Builtin.«list.__ne__» ⟨[.ref l, .ref b], []⟩)
      (fun A R s => s.heap.get? l = some { cls := .type "list", dict := dd, data := .seq us n, slots := sl } ∧ s.heap.get? b = some { cls := .type "list", dict := dd2, data := .seq ws n2, slots := sl2 } ∧
        (∀ j (h1 : j < us.size) (h2 : j < ws.size), EqP prog w A.in1 s us[j] ws[j] true) ∧ R (.ok (.ret (.bool false))) s) := by
  intro A R s h
  obtain ⟨hp, g, d, tk, os⟩ := s
  obtain ⟨hl, hb, he, h⟩ := h
  have f3 := AutoSeq1.sub_list_list
  have hne : ¬ (us.size != ws.size) = true := by simp [hsz]
  wp_walk using wpAny_loadPart' hl, wpAny_loadPart' hb
  exact ⟨plainId_quiet plain_eq_loop _, codeAny_builtin entry_eq_loop (by
    rw [Around.under_plainId plain_eq_loop _]
    exact gb_ne_turns l b us ws n n2 dd dd2 sl sl2 hsz _ 0 rfl A R _ ⟨hl, hb, he, h⟩)⟩
theorem gb_rc_ne {A : Around} {s : Shared} {l b : Addr} {us ws : Array Value} (hl : s.heap.IsList l us) (hb : s.heap.IsList b ws) (hsz : us.size = ws.size) (hu : A.units < cLine)
    (he : ∀ j (h1 : j < us.size) (h2 : j < ws.size), EqP prog w A.in1 s us[j] ws[j] true) (E Q : Value → Shared → Prop) (h : Q (.bool false) s) : wpAny (model prog w) A (richCompare .NotEq (.ref l) (.ref b)) Q E s := by
  obtain ⟨⟨c, dd, da, sl⟩, ho, hc, n, hd⟩ := id hl
  obtain ⟨⟨c2, dd2, da2, sl2⟩, ho2, hc2, n2, hd2⟩ := id hb
  simp only at hc hd hc2 hd2
  subst hc hd hc2 hd2
  have ta : s.TypeIs (.ref l) "list" := ⟨_, ho, rfl⟩
  have tb : s.TypeIs (.ref b) "list" := ⟨_, ho2, rfl⟩
  exact wpAny_richCompare_same_room (op := .NotEq) ta tb F.slot_list_ne (call_meetsIn F.slot_list_ne ta F.entry_list_ne (F.args_list_ne_2 _ _) (gb_ne_lists l b us ws n n2 dd dd2 sl sl2 hsz)
    ⟨ho, ho2, he, show Value.bool false ≠ Value.notImplemented ∧ Q (.bool false) s from ⟨(fun x => nomatch x), h⟩⟩) hu
end
end PySem.SeqAt
namespace GB
open PySem PySem.Spec L2 PyProof.Rows
/-- two equal things: plain data, or two dicts of plain values -/
def EqI (K : PySem.W.Frag) (H : Hp) (x y : V) : Prop := (∃ d e, Dp K H x d ∧ Dp K H y e ∧ SeqAt.shaped d = true ∧ SeqAt.shaped e = true ∧ PyData.eqv d e = true) ∨
  ∃ a b ks ls, x = .ref a ∧ y = .ref b ∧ a ≠ b ∧ H a = some (.dK ks) ∧ H b = some (.dK ls) ∧ ks.length = ls.length ∧ ∀ p ∈ ks, valV ls p.1 = some p.2 ∧ flatB p.2 = true
def rNeLE (K : PySem.W.Frag) : R2 := fun x y H Q => ∃ a b xs ys, x = .ref a ∧ y = .ref b ∧ SqL K H a xs ∧ SqL K H b ys ∧ Paired (EqI K H) xs ys ∧ Q (.bl false) H
section
variable {X : Cx} {pins : List (Addr × Obj)} {σ : L2.St} {H : Hp} {s : Shared}
theorem eqI_run (I : Inv X pins σ H s) {A : Around} (hu : A.units + 64 < cLine) : ∀ (x y : V) (v u : Value), EqI X.K H x y → RelV x v → RelV y u → SeqAt.EqP X.prog X.w A s v u true := by
  intro x y v u h rx ry
  rcases h with ⟨d, e, hd, he, sd, se, q⟩ | ⟨a, b, ks, ls, rfl, rfl, ne, ea, eb, hl, hp⟩
  · obtain ⟨as, r1⟩ := Dp.reads I d x v hd rx
    obtain ⟨bs, r2⟩ := Dp.reads I e y u he ry
    have := SeqAt.eqAt_reads d e A s v u as bs r1 r2 (SeqAt.canLay_of_shaped sd) (SeqAt.canLay_of_shaped se) (SeqAt.room_of_shaped sd hu)
    rw [q] at this
    exact this.eqP
  · cases (show v = Value.ref a from rx)
    cases (show u = Value.ref b from ry)
    obtain ⟨_, ya, va, ra, da⟩ := (show ObjOk X.prog X.w H s.heap a (.dK ks) from I.hok a _ ea)
    obtain ⟨_, yb, vb, rb, db⟩ := (show ObjOk X.prog X.w H s.heap b (.dK ls) from I.hok b _ eb)
    have e : va.length = vb.length := by rw [← ra.length, ← rb.length]; exact hl
    refine SeqAt.eqP_refs ne fun E Q h => ?_
    refine PySem.W.keq_eq (knd := mixKind X.prog X.w) (r := true) ya yb da db (by omega) (fun _ => hits_all rb ra hp) ?_
    simpa [e] using h
theorem eqIs_run (I : Inv X pins σ H s) {A : Around} (hu : A.units + 64 < cLine) {xs ys : List V} (hp : Paired (EqI X.K H) xs ys) :
    ∀ {us ws : List Value}, Vals xs us → Vals ys ws → ∀ j (h1 : j < us.length) (h2 : j < ws.length), SeqAt.EqP X.prog X.w A s us[j] ws[j] true := by
  induction hp with
  | nil =>
    intro us ws r1 r2 j h1 h2
    cases r1
    exact absurd h1 (Nat.not_lt_zero j)
  | cons h _ k =>
    intro us ws r1 r2 j h1 h2
    cases r1 with
    | cons a1 b1 =>
      cases r2 with
      | cons a2 b2 =>
        cases j with
        | zero => exact eqI_run I hu _ _ _ _ h a1 a2
        | succ j => exact k b1 b2 j (Nat.lt_of_succ_lt_succ h1) (Nat.lt_of_succ_lt_succ h2)
end
section
variable {X : Cx}
theorem op_neLE (hu : X.A.units + 65 < cLine) : OpR X (compareOp .NotEq) (rNeLE X.K) := by
  intro pins s σ H x y v u Q I rx ry h
  obtain ⟨a, b, xs, ys, rfl, rfl, ha, hb, hp, q⟩ := h
  cases (show v = Value.ref a from rx)
  cases (show u = Value.ref b from ry)
  obtain ⟨us, r1, p1, _⟩ := I.list ha
  obtain ⟨ws, r2, p2, _⟩ := I.list hb
  have hsz : us.toArray.size = ws.toArray.size := by
    rw [List.size_toArray, List.size_toArray, ← r1.length, ← r2.length]
    exact Paired.length hp
  rw [show compareOp .NotEq (.ref a) (.ref b) = richCompare .NotEq (.ref a) (.ref b) from rfl]
  refine SeqAt.gb_rc_ne p1.isList p2.isList hsz (by omega) (fun j h1 h2 => ?_) _ _ ⟨.bl false, H, I, rfl, q⟩
  have k := eqIs_run I (A := X.A.in1) (show X.A.units + 1 + 64 < cLine by omega) hp r1 r2 j (by simpa using h1) (by simpa using h2)
  simpa using k
end
end GB
set_option Elab.async false
set_option linter.all false
set_option maxRecDepth 100000
set_option maxHeartbeats 8000000
namespace GB
open PySem PySem.Spec L2 K7
/-- the same list of texts several times -/
def repD (l : List Str) (n : Nat) : PyData := .list (List.replicate n (strD l))
theorem dps_rep {K : PySem.W.Frag} {H : Hp} {l : List Str} : ∀ {ws : List Addr} {n : Nat}, ws.length = n → (∀ w ∈ ws, H w = some (.lst (sts l))) → DpAll K H (ws.map V.ref) (List.replicate n (strD l))
  | [], n, h, _ => by subst h; exact .nil
  | w :: ws, n, h, k => by
    subst h
    rw [List.length_cons, List.replicate_succ]
    exact .cons (dp_strD (SqL.of (k w List.mem_cons_self))) (dps_rep rfl fun x hx => k x (List.mem_cons_of_mem _ hx))
theorem pl_rep (l : List Str) (n : Nat) : plO (repD l n) = true := by
  rw [repD, plO]
  induction n with
  | zero => rfl
  | succ n ih => rw [List.replicate_succ, plOs, ih, pl_strD]; rfl
theorem shp_rep {l : List Str} (h : ∀ x ∈ l, PyData.strOk x = true) (n : Nat) : SeqAt.shaped (repD l n) = true := by
  have h1 : PyData.canLayAll0 (List.replicate n (strD l)) = true := by
    induction n with
    | zero => simp [PyData.canLayAll0]
    | succ n ih =>
      have c0 : PyData.canLay0 (strD l) = true := by simp only [strD, PyData.canLay0, lay_strs l h]
      simp only [List.replicate_succ, PyData.canLayAll0, ih, c0, Bool.and_true]
  have h2 : PyData.depthAll (List.replicate n (strD l)) ≤ 1 := by
    induction n with
    | zero => simp [PyData.depthAll]
    | succ n ih =>
      have : PyData.depth (strD l) = 1 := by simp [strD, PyData.depth, dep_strs]
      have ih' := ih (by
        simp only [List.replicate_succ, PyData.canLayAll0, Bool.and_eq_true] at h1
        exact h1.2)
      simp only [List.replicate_succ, PyData.depthAll]
      omega
  simp only [SeqAt.shaped, repD, PyData.canLay0, PyData.depth, h1, Bool.true_and, decide_eq_true_eq]
  omega
/-- a list of truths -/
def bolD (l : List Bool) : PyData := .list (l.map .bool)
theorem dps_bol {K : PySem.W.Frag} {H : Hp} : ∀ l : List Bool, DpAll K H (l.map V.bl) (l.map PyData.bool)
  | [] => .nil
  | b :: r => .cons (.bl b) (dps_bol r)
theorem pl_bol (l : List Bool) : plO (bolD l) = true := by
  rw [bolD, plO]
  induction l with
  | nil => rfl
  | cons b r ih => rw [List.map_cons, plOs, ih]; rfl
theorem shp_bol (l : List Bool) : SeqAt.shaped (bolD l) = true := by
  have h1 : PyData.canLayAll0 (l.map PyData.bool) = true := by
    induction l with
    | nil => simp [PyData.canLayAll0]
    | cons b r ih => simp only [List.map_cons, PyData.canLayAll0, ih, PyData.canLay0, Bool.and_true]
  have h2 : PyData.depthAll (l.map PyData.bool) = 0 := by
    induction l with
    | nil => simp [PyData.depthAll]
    | cons b r ih => simp [PyData.depthAll, PyData.depth, ih (by simp only [List.map_cons, PyData.canLayAll0, Bool.and_eq_true] at h1; exact h1.2)]
  simp only [SeqAt.shaped, bolD, PyData.canLay0, PyData.depth, h1, h2]
  rfl
theorem rep1 {α : Type} (n : Nat) (x : α) : (List.replicate n [x]).flatten = List.replicate n x := by
  induction n with
  | zero => rfl
  | succ n ih => rw [List.replicate_succ, List.flatten_cons, ih]; rfl
/-- the class of grounds, all that laws ask of it -/
structure GrM (P : Program) (w : World) (K : PySem.W.Frag) (mg : Str → Option Value) (base : Heap) (C : Addr) : Prop where
  k : GrK K C
  let_ : ∃ f fd, Meth K C "letters" f ∧ FnOk P w K mg base CX0 1 f fd ["self"] (spLetM C) ∧ Binds K fd ["self"] []
  fix_ : ∃ f fd, Meth K C "fixed" f ∧ FnOk P w K mg base CX0 1 f fd ["self"] (spFixM C) ∧ Binds K fd ["self"] []
  com_ : ∃ f fd, Meth K C "commuting" f ∧ FnOk P w K mg base CX0 1 f fd ["self"] (spComM C) ∧ Binds K fd ["self"] []
  fac_ : ∃ f fd, Meth K C "facts" f ∧ FnOk P w K mg base CX0 1 f fd ["self"] (spFacM C) ∧ Binds K fd ["self"] []
  len_ : ∃ f fd, PySem.W.findIn K (.ref C) "__len__" = some (some (.ref f)) ∧ PySem.W.isFn K (.ref f) = true ∧ FnOk P w K mg base CX0 1 f fd ["self"] (spLenM C) ∧ Binds K fd ["self"] []
  has_ : ∃ f fd, PySem.W.findIn K (.ref C) "__contains__" = some (some (.ref f)) ∧ PySem.W.isFn K (.ref f) = true ∧ FnOk P w K mg base CX0 1 f fd ["self", "letter"] (spHasM K C) ∧ Binds K fd ["self", "letter"] []
  it_ : ∃ f fd, PySem.W.findIn K (.ref C) "__iter__" = some (some (.ref f)) ∧ PySem.W.isFn K (.ref f) = true ∧ FnN P w K mg base 1 f fd ["self"] (spItM C) ∧ Binds K fd ["self"] []
  eq_ : ∃ f fd, PySem.W.findIn K (.ref C) "__eq__" = some (some (.ref f)) ∧ PySem.W.isFn K (.ref f) = true ∧ FnOk P w K mg base CX0 1 f fd ["self", "other"] (spEqM K C) ∧ Binds K fd ["self", "other"] []
  ne_ : PySem.W.findIn K (.ref C) "__ne__" = some (some (.builtin "object.__ne__"))
  mro : PySem.W.mroIn K C (.type "object") = some true
/-- a drawn ground's order is the letters' own -/
structure GD.Own (g : GD) : Prop where
  fit : g.Fit
  f : g.sel g.fixed = g.fixed
  c : g.sel g.comm = g.comm
  z : ("zz" : Str) ∉ g.letters.map (·.1)
end GB
set_option Elab.async false
set_option linter.all false
set_option maxRecDepth 100000
set_option maxHeartbeats 8000000
/-! y = {..: .. for .. in ..} -/
namespace DictT
open PySem PySem.Spec PyProof.Rows L2
section
variable {X : Cx}
theorem ps_setDcT {o0 : HO} (fr : Fresh o0) {i : Nat} {y : Str} {py : PySem.Pos} {kx vx tg iter : Expr} {ifs : List Expr} {sc : Scope} {own : List (Str × Nat)} {pos spos : PySem.Pos} {wi : TI} {g : TG} {tt : TT} {tk tv : TE} (hu : X.A.units + 1 < cLine) (hc : X.calm = true) (hN : X.N.Nodup) (hy : X.N[i]? = some y) (hyl : X.env.scope.names.lookup y = some .local)
    (hsw : swapsWith (.DictComp kx vx [⟨tg, iter, ifs, 0⟩] sc pos) (some (.Name y py)) spos.line X.env = pure true) (hi : PI X tg iter wi) (ok : BlkOk X.N X.env.scope sc own)
    (hg : ∀ (t : Shared) (J : Hp) (C : Addr) (cl : List (Str × Addr)) (fp : List Addr), PG (X.blk t J sc (compEnvC sc cl C X.env) fp) tg g) (ht : ∀ (t : Shared) (J : Hp) (C : Addr) (cl : List (Str × Addr)) (fp : List Addr), PTs (X.blk t J sc (compEnvC sc cl C X.env) fp) ifs tt)
    (hk : ∀ (t : Shared) (J : Hp) (C : Addr) (cl : List (Str × Addr)) (fp : List Addr), PE (X.blk t J sc (compEnvC sc cl C X.env) fp) kx tk) (hv : ∀ (t : Shared) (J : Hp) (C : Addr) (cl : List (Str × Addr)) (fp : List Addr), PE (X.blk t J sc (compEnvC sc cl C X.env) fp) vx tv)
    (hfs : ∀ x, foldedSetIterable iter X.env x = pure x := by intro _; rfl) : PS X (.Assign [.Name y py] (.DictComp kx vx [⟨tg, iter, ifs, 0⟩] sc pos) spos) (tAsg (tDcT o0 wi g tt tk tv (own.map (·.2))) (gName i)) := by
  refine ⟨fun pins s σ H D I h => ?_⟩
  rw [exec_Assign_Name_used _ _ _ _ hsw]
  refine wpAny_bind (wpAny_standAt (wpAny_bind ?_))
  show wpAny _ X.A (do let _ ← comprehension (.DictComp kx vx [⟨tg, iter, ifs, 0⟩] sc pos) sc X.env (firstIterPos [⟨tg, iter, ifs, 0⟩] pos) newDict false (eval iter X.env) (some (assign (.Name y py) X.env))) _ _ s
  have h : tDcT o0 wi g tt tk tv (own.map (·.2)) σ H (fun x H1 => gName i x σ H1 D.nx) := h
  refine wpAny_bind (thn (dcT_core (Qf := fun _ t => SP X pins D .next t) fr hu hc hN I hi ok hg ht hk hv hfs h fun L C t m J I' q hn f => ?_) fun _ t hq => wpAny_pure (wpAny_pure hq))
  show wpAny _ _ (assign (.Name y py) X.env (.ref L)) _ _ _
  refine wpAny_assign_Name (store_ok2 (v := V.ref L) I' hN hy (.inl hyl) rfl (fun t2 I2 ⟨a, sb, ha⟩ => ?_) (.inr hyl))
  obtain ⟨f0, f1, f2, f3, f4, f5⟩ := f
  have aC : C ≠ a := by
    rcases ha with z | z
    · rw [z]; exact f1
    · exact fun e => f4 y a z e.symm
  refine ⟨m, hn.sameBut sb aC, fun h3 sb3 => ?_⟩
  exact ⟨_, J, I2.turned (t' := t2.toks) (fun b o hb e => (sb3.2 b hb).trans e) f0 f1 f3 f4 f5, q⟩
theorem swD_true {kx vx : Expr} {gs : List Comprehension} {sc : Scope} {pos py : PySem.Pos} {y : Str} {l : Nat} {env : Env} (hk : env.scope.kind = .function) (hy : env.scope.names.lookup y = some .local) (hl : (py.line == pos.line) = true)
    (ha : (sc.names.any fun (n, k) => n == y && (k == .local || k == .cell)) = false) : swapsWith (.DictComp kx vx gs sc pos) (some (.Name y py)) l env = pure true := by
  have ky : env.kindOf y = some .local := hy
  have hb : env.blockKind = .function := by unfold Env.blockKind; rw [hk]; rfl
  unfold swapsWith
  simp only [hb, ky, ha, Expr.pos, hl]
  rfl
end
end DictT
set_option Elab.async false
set_option linter.all false
set_option autoImplicit false
set_option maxRecDepth 100000
set_option maxHeartbeats 8000000
namespace GB
open PySem PySem.Spec L2 EqT
def addU (l : List Str) (x : Str) : List Str := if x ∈ l then l else l ++ [x]
theorem mem_addU {l : List Str} {x y : Str} : y ∈ addU l x ↔ y ∈ l ∨ y = x := by
  unfold addU
  by_cases h : x ∈ l
  · rw [if_pos h]
    exact ⟨.inl, fun e => e.elim id fun e => e ▸ h⟩
  · rw [if_neg h, List.mem_append, List.mem_singleton]
theorem put_addU (l : List Str) (x : Str) : putK (trueK l) (.inr x : Key) (.bl true) = trueK (addU l x) := by
  unfold addU
  by_cases h : x ∈ l
  · rw [if_pos h]
    have e : ∀ m : List Str, (trueK m).map (fun p => if p.1 = (Sum.inr x : Key) then (p.1, V.bl true) else p) = trueK m := fun m => by
      unfold trueK
      rw [List.map_map]
      refine List.map_congr_left fun y _ => ?_
      show (if (Sum.inr y : Key) = Sum.inr x then _ else _) = _
      split <;> rfl
    unfold putK
    rw [valV_any, trueK_in, if_pos h]
    exact e l
  · rw [if_neg h]
    exact putTrue h
def alwL (fs : List Fact) : List Str := fs.foldl (fun acc f => if f.kind = ("fail" : Str) then addU acc f.x else acc) []
theorem alwL_snoc (fs : List Fact) (f : Fact) : alwL (fs ++ [f]) = if f.kind = ("fail" : Str) then addU (alwL fs) f.x else alwL fs := by
  unfold alwL
  rw [List.foldl_append]
  rfl
theorem mem_alwL {x : Str} (fs : List Fact) : x ∈ alwL fs ↔ ∃ f ∈ fs, f.kind = ("fail" : Str) ∧ f.x = x := by
  have key : ∀ (gs : List Fact) (acc : List Str), x ∈ gs.foldl (fun acc f => if f.kind = ("fail" : Str) then addU acc f.x else acc) acc ↔ x ∈ acc ∨ ∃ f ∈ gs, f.kind = ("fail" : Str) ∧ f.x = x := by
    intro gs
    induction gs with
    | nil => intro acc; simp
    | cons f gs ih =>
      intro acc
      rw [List.foldl_cons, ih]
      by_cases c : f.kind = ("fail" : Str)
      · rw [if_pos c, mem_addU]
        constructor
        · rintro ((h | rfl) | ⟨g, hg, r⟩)
          · exact .inl h
          · exact .inr ⟨f, List.mem_cons_self, c, rfl⟩
          · exact .inr ⟨g, List.mem_cons_of_mem _ hg, r⟩
        · rintro (h | ⟨g, hg, r1, r2⟩)
          · exact .inl (.inl h)
          · rcases List.mem_cons.mp hg with rfl | hg
            · exact .inl (.inr r2.symm)
            · exact .inr ⟨g, hg, r1, r2⟩
      · rw [if_neg c]
        constructor
        · rintro (h | ⟨g, hg, r⟩)
          · exact .inl h
          · exact .inr ⟨g, List.mem_cons_of_mem _ hg, r⟩
        · rintro (h | ⟨g, hg, r1, r2⟩)
          · exact .inl h
          · rcases List.mem_cons.mp hg with rfl | hg
            · exact absurd r1 c
            · exact .inr ⟨g, hg, r1, r2⟩
  have := key fs []
  unfold alwL
  rw [this]
  simp
theorem alwL_len (fs : List Fact) : (alwL fs).length ≤ fs.length := by
  have key : ∀ (gs : List Fact) (acc : List Str), (gs.foldl (fun acc f => if f.kind = ("fail" : Str) then addU acc f.x else acc) acc).length ≤ acc.length + gs.length := by
    intro gs
    induction gs with
    | nil => intro acc; simp
    | cons f gs ih =>
      intro acc
      rw [List.foldl_cons]
      have := ih (if f.kind = ("fail" : Str) then addU acc f.x else acc)
      have h2 : (if f.kind = ("fail" : Str) then addU acc f.x else acc).length ≤ acc.length + 1 := by
        split
        · unfold addU
          split
          · omega
          · simp
        · omega
      rw [List.length_cons]
      omega
  have := key fs []
  simpa [alwL] using this
/-- the rows that all permits of a ground have -/
def GD.alw (g : GD) : List PRow := (alwL g.facts).map fun x => [wF, x]
end GB
namespace K7
open PySem PySem.Spec L2 GB EqT
abbrev sAL : Stmt := topS 17
abbrev sCR : Stmt := topS 19
def alN : List Str := ["ground", "told", "letter", "_", "end"]
def crN : List Str := ["ground", "rows", "found", "index", "thing", "row"]
def spAL (C : Addr) : Sp := fun vs H Q _ => ∃ (G : Addr) (g : GD), vs = [.ref G] ∧ IsGr2 C H G g ∧ g.Fit ∧ ∀ l ts H', H l = none → Same H H' → H' l = some (.lst (ts.map V.ref)) → RowsAt H' g.alw ts → Q (.ref l) H'
/-- a row as it is handed over -/
def HRow (H : Hp) (known : List PRow) (r : PRow) (t : Addr) : Prop := ∃ r', PlA H t (sts r') ∧ r'.length ≤ 100 ∧ amg known r' = some r
theorem HRow.mono {H H' : Hp} {known : List PRow} {r : PRow} {t : Addr} (s : Same H H') (h : HRow H known r t) : HRow H' known r t := let ⟨r', h1, h2, h3⟩ := h; ⟨r', h1.mono s, h2, h3⟩
def spCR (K : PySem.W.Frag) (C : Addr) : Sp := fun vs H Q _ => ∃ (G R : Addr) (g : GD) (rs : List PRow) (ts : List Addr), vs = [.ref G, .ref R] ∧ IsGr3 C H G g ∧ g.Fit ∧ SqA K H R (ts.map V.ref) ∧ rs.length ≤ 200 ∧ Paired (HRow H g.perms) rs ts ∧ ∀ l us H', H l = none → Same H H' → H' l = some (.lst (us.map V.ref)) → RowsAt H' rs us → Q (.ref l) H'
section
variable {P : Program} {w : World} {K : PySem.W.Frag} {mg : Str → Option Value} {base : Heap} {C : Addr}
theorem scAL : FnScope alN ["ground"] (defScope sAL) := ⟨rfl, rfl, rfl, by decide +kernel, rfl, by decide +kernel, by decide +kernel⟩
theorem scCR : FnScope crN ["ground", "rows"] (defScope sCR) := ⟨rfl, rfl, rfl, by decide +kernel, rfl, by decide +kernel, by decide +kernel⟩
theorem ok_al {f : Addr} {fd : FuncData} (F : Fun K "rows_always" "rows_always" sAL f fd) (T : Bl mg) (gk : GrK K C) (FAC : ∃ f fd, Meth K C "facts" f ∧ FnOk P w K mg base CX0 1 f fd ["self"] (spFacM C) ∧ Binds K fd ["self"] []) : FnOk P w K mg base CX0 2 f fd ["ground"] (spAL C) := by
  obtain ⟨fF, dF, mF, FF, bF⟩ := FAC
  refine F.ok scAL (fun vs H Q E h => ?_) (fun cdv A outer s H vs Q E hr h => ?_)
  · obtain ⟨G, g, rfl, _⟩ := h
    rfl
  · obtain ⟨G, g, rfl, hG, fit, q⟩ := h
    have hr1 : Room 1 (A.deeper (PyProof.Rows.envOfC "rows_always" (defScope sAL) s.heap.objs.size f cdv)) := hr.mono (by decide)
    refine ⟨_, pss_cons (DictT.ps_setDcT (i := 1) (own := [("letter", 2), ("_", 3), ("end", 4)]) (g := gTup K 3 (gCons (gName 2) (gCons (gName 3) (gCons (gName 4) (gNil))))) (tt := tTest (tOp rEq (tOp (rIxT K) (tVar 4) (tC (.int 0))) (tC (.str "fail")))) (tk := tVar 2) (tv := tC (.bl true)) .k (hu_of hr) rfl scAL.nd rfl rfl (DictT.swD_true rfl rfl rfl (by decide +kernel)) (pi_seqW (pe_meth0 (pv 0) gk.cl mF FF hr1 bF .nil pass0)) (blkOk_by (own := [("letter", 2), ("_", 3), ("end", 4)]) (N := alN) (sc := defScope sAL) (by decide +kernel)) (fun _ _ _ _ _ => pg_tup rfl (pgs_cons (pg_name (i := 2) scAL.nd rfl (.inl rfl)) (pgs_cons (pg_name (i := 3) scAL.nd rfl (.inl rfl)) (pgs_cons (pg_name (i := 4) scAL.nd rfl (.inl rfl)) (pgs_nil))))) (fun _ _ _ _ _ => pts_one (pt_cmpR op_eq (pe_ix (r := rIxT K) ix_tup (pv 4) pe_int (fun _ _ => rfl)) pe_str (nomark _))) (fun _ _ _ _ _ => pv 2) (fun _ _ _ _ _ => pe_bl)) (pss_one (ps_ret (pe_lock (pe_lc (own := [("letter", 2)]) (g := gName 2) (tt := tYes) rfl scAL.nd (pi_keys (pv 1)) (blkOk_by (own := [("letter", 2)]) (N := alN) (sc := defScope sAL) (by decide +kernel)) (fun _ _ _ _ _ => pg_name (i := 2) scAL.nd rfl (.inl rfl)) (fun _ _ _ _ _ => pts_nil) (fun _ _ _ _ _ => pe_tup (pa_cons (pe_str) (pa_cons (pv 2) (pa_nil)))))))), ?_⟩
    obtain ⟨dx, fs, l1, l2, l3, l4, l5, h0, h1, h2, h3, h4, h5, h6⟩ := hG.ex
    refine ⟨_, rfl, G, dx, fs, rfl, h0, h6 _ (by simp), G, g, rfl, hG, fun lf H1 nlf s1 ⟨tsF, hf, pF⟩ => ?_⟩
    refine ⟨lf, tsF.map V.ref, true, [], rfl, SqL.of (hid_to (by simp) hf), fun W WJ D nD => ?_⟩
    have lF : tsF.length = g.facts.length := (Paired.length pF).symm
    refine DictT.dc_it WJ (fun i H' => Same H1 H' ∧ H' D = some (.dK (trueK (alwL (g.facts.take i))))) ⟨same_new nD, upd_same⟩ (fun i H' _ s' => SqL.of (hid_to (by simp) (s'.1 _ _ hf))) ?_ ?_
    · rintro i y H2 H2' hi ⟨s2, hD⟩ ⟨rfl, hy⟩
      have hy : (tsF.map V.ref)[i]? = some y := hy
      rw [List.getElem?_map] at hy
      obtain ⟨t, htt, rfl⟩ := Option.map_eq_some_iff.mp hy
      have hig : i < g.facts.length := by rw [← lF]; exact (List.getElem?_eq_some_iff.mp htt).1
      have hfi : g.facts[i]? = some g.facts[i] := List.getElem?_eq_getElem hig
      generalize hfa : g.facts[i] = fa at hfi
      obtain ⟨t', ht', hA⟩ := paired_at' pF hfi
      obtain rfl : t' = t := by rw [htt] at ht'; exact (Option.some.inj ht').symm
      obtain ⟨v, e, a1, a2, a3⟩ := hA.ex
      refine ⟨t', _, rfl, SqT.of (s2 _ _ a1), rfl, _, _, rfl, _, _, rfl, _, _, rfl, rfl, ?_⟩
      refine ⟨rfl, ?_⟩
      refine ⟨_, rfl, e, _, 0, .str fa.kind, rfl, rfl, SqT.of (s2 _ _ a3), rfl, rfl, _, rfl, ?_⟩
      rw [show decide (V.str fa.kind = V.str ("fail" : Str)) = decide (fa.kind = ("fail" : Str)) from dec_str _ _, take_at hfi, alwL_snoc]
      by_cases c : fa.kind = ("fail" : Str)
      · rw [decide_eq_true c, if_pos c]
        refine ⟨_, rfl, _, DPut.k (k := .inr fa.x) hD ?_, fun b o e => ?_, ?_⟩
        · unfold trueK
          rw [List.length_map, sizeLine_eq]
          have h1 := alwL_len (g.facts.take i)
          have h2 := fit.fl
          rw [List.length_take] at h1
          omega
        · rw [upd_ne (ne_of_none e nD)]; exact s2 _ _ e
        · rw [upd_same, put_addU]
      · rw [decide_eq_false c, if_neg c]
        exact ⟨s2, hD⟩
    rintro H2 ⟨s2, hD⟩
    rw [List.take_of_length_le (by rw [List.length_map, lF]; exact Nat.le_refl _)] at hD
    have S2 := s1.trans s2
    have DH : ∀ b o, H b = some o → b ≠ D := fun b o e z => by
      rw [z] at e
      rw [s1 _ _ e] at nD
      cases nD
    refine ⟨D, _, hD, trivial, fun od => ?_⟩
    obtain ⟨Hl, hlD, hlo, el⟩ : ∃ Hl, Hl D = some (.frz od (.dK (trueK (alwL g.facts)))) ∧ (∀ b, b ≠ D → Hl b = H2 b) ∧ upd H2 D (.frz od (.dK (trueK (alwL g.facts)))) = Hl := ⟨_, upd_same, fun b hb => upd_ne hb, rfl⟩
    rw [el]
    refine ⟨_, rfl, D, od, rfl, .inl ⟨_, hlD, fun E' nE => ?_⟩⟩
    refine lc_it walk_keys (fun i H' => RowsIn Hl H' E' (((alwL g.facts).take i).map fun x => ([wF, x] : PRow))) (RowsIn.start nE) (fun i H' _ r => r.same _ _ hlD) ?_ ?_
    · rintro i x H3 H3' hi r ⟨rfl, k, v, hk, rfl⟩
      obtain ⟨sx, hsx, ek⟩ : ∃ sx, (alwL g.facts)[i]? = some sx ∧ k = Sum.inr sx := by
        unfold trueK at hk
        rw [List.getElem?_map] at hk
        cases e : (alwL g.facts)[i]? with
        | none => rw [e] at hk; cases hk
        | some q => rw [e] at hk; exact ⟨q, rfl, (Prod.mk.inj (Option.some.inj hk)).1.symm⟩
      subst ek
      refine ⟨rfl, ?_⟩
      refine ⟨_, rfl, by show 2 ≤ sizeLine; decide, fun t nt => ?_⟩
      have := r.more (row := [wF, sx]) (Same.refl _) (by
        rw [List.length_map, List.length_take]
        have := alwL_len g.facts
        have := fit.fl
        omega) nt
      rw [take_at hsx, List.map_append]
      exact this
    rintro H3 r
    rw [List.take_of_length_le (by unfold trueK; rw [List.length_map]; exact Nat.le_refl _)] at r
    obtain ⟨ts, g1, g2⟩ := r.done
    have hl3 := r.same _ _ hlD
    refine ⟨hl3, ?_⟩
    have ED : E' ≠ D := fun z => by rw [z, hlD] at nE; cases nE
    have nEH : H E' = none := by
      have : H2 E' = none := by rw [← hlo E' ED]; exact nE
      exact S2.free this
    refine q E' ts _ nEH (fun b o e => ?_) (by rw [upd_ne ED]; exact g1) (Paired.mapP g2 fun row t rt => ?_)
    · have bD := DH b o e
      rw [upd_ne bD]
      exact r.same _ _ ((hlo b bD).trans (S2 _ _ e))
    · have : t ≠ D := ne_of (show H3 t = some (.tup (sts row)) from rt) hl3 (fun z => nomatch z)
      show upd H3 D _ t = _
      rw [upd_ne this]
      exact rt
theorem ok_cr {f : Addr} {fd : FuncData} (F : Fun K "_checked_rows" "_checked_rows" sCR f fd) (T : Bl mg) (gk : GrK K C) (np : NoAttr K C "places") (IL : Fns P w K mg base "is_list" 1 ["thing"] (spIsL K)) (RAM : Fns P w K mg base "_row_among" 2 ["known", "thing"] (spRA K)) : FnOk P w K mg base CX0 3 f fd ["ground", "rows"] (spCR K C) := by
  refine F.ok scCR (fun vs H Q E h => ?_) (fun cdv A outer s H vs Q E hr h => ?_)
  · obtain ⟨G, R, g, rs, ts, rfl, _⟩ := h
    rfl
  · obtain ⟨G, R, g, rs, ts, rfl, hG, fit, hR, hl, hp, q⟩ := h
    refine ⟨_, pss_cons (ps_if (pt_not (pt_val (pe_fn IL hr (by decide) rfl (pa_cons (pv 1) (pa_nil))))) (pss_one (ps_never)) (pss_nil)) (pss_cons (ps_set (i := 2) scCR.nd rfl (.inl rfl) (pe_lst (pa_nil))) (pss_cons (ps_for PassesOwn.never rfl (pi_enumW rfl T.enum (pa_cons (pv 1) (pa_nil))) (pg_tup rfl (pgs_cons (pg_name (i := 3) scCR.nd rfl (.inl rfl)) (pgs_cons (pg_name (i := 4) scCR.nd rfl (.inl rfl)) (pgs_nil)))) (pss_cons (ps_set (i := 5) scCR.nd rfl (.inl rfl) (pe_fn RAM hr (by decide) rfl (pa_cons (pe_fld (pv 0) rfl) (pa_cons (pv 4) (pa_nil))))) (pss_cons (ps_if (pt_cmpR op_isN (pv 5) (pe_non) (nomark _)) (pss_one (ps_never)) (pss_nil)) (pss_one (ps_expr (pe_bm PySem.F.plainAttrs_list PySem.F.slot_list_append PySem.F.type_list_append mt_append (pv 2) (pa_cons (pv 5) (pa_nil)))))))) (pss_one (ps_ret (pv 2))))), ?_⟩
    obtain ⟨dx, fs, DP, p0, p1, p2⟩ := hG.pl.ex
    have pk := (plK_at fit.pnd (Nat.le_refl _)).2
    rw [List.take_length] at pk
    obtain ⟨ty, ht, hty⟩ := tyS hR
    refine ⟨_, rfl, .ref R, _, true, rfl, hty, kit_seq ht, fun H1 s1 => ⟨_, rfl, ?_⟩⟩
    refine iteF ?_
    refine ⟨by show 0 ≤ sizeLine; decide, fun L nL => ?_⟩
    have lts := Paired.length hp
    obtain ⟨H2, s2, h2, e2⟩ := lay (o := .lst []) nL
    rw [e2]
    have S2 : Same H (hid [L] H2) := s1.trans (same_hid_new nL s2)
    obtain ⟨kb, hqv⟩ := sqV (hR.mono S2)
    refine ⟨_, rfl, R, ts.map V.ref, kb, [L], rfl, hqv, fun J WJ => ?_⟩
    refine for_it WJ (fun i σ H' => ∃ (o3 o4 o5 : Option V) (us : List Addr), σ = [some (.ref G), some (.ref R), some (.ref L), o3, o4, o5] ∧ Same H (hid [L] H') ∧ Same (hid [L] H2) (hid [L] H') ∧ H' L = some (.lst (us.map V.ref)) ∧ RowsAt (hid [L] H') (rs.take i) us)
      ⟨none, none, none, [], rfl, S2, Same.refl _, h2, .nil⟩ (fun i σ H' _ ⟨_, _, _, _, _, _, S, _⟩ => hqv.mono S) ?_ ?_
    · rintro i x σ H3 H3' hi ⟨o3, o4, o5, us, rfl, S3, S23, hL, hus⟩ ⟨Tp, y1, y2, rfl, nT, rfl, q1, q2⟩
      obtain rfl := Option.some.inj q1
      have q2 : (ts.map V.ref)[i]? = some y2 := q2
      rw [List.getElem?_map] at q2
      obtain ⟨t, htt, rfl⟩ := Option.map_eq_some_iff.mp q2
      have hir : i < rs.length := by rw [lts]; exact (List.getElem?_eq_some_iff.mp htt).1
      have hri : rs[i]? = some rs[i] := List.getElem?_eq_getElem hir
      generalize rs[i] = r at hri
      obtain ⟨t', ht', r', a1, a2, a3⟩ := paired_at' hp hri
      obtain rfl : t' = t := by rw [htt] at ht'; exact (Option.some.inj ht').symm
      obtain ⟨H4, s4, h4, e4⟩ := lay (o := .tup [.int (i : Nat), .ref t']) nT
      rw [e4]
      have S3l : Same H H3 := S3.trans (hid_low _ _)
      have S4 : Same H H4 := S3l.trans s4
      refine ⟨Tp, _, rfl, SqT.of h4, rfl, _, _, rfl, _, _, rfl, rfl, ?_⟩
      refine ⟨_, rfl, G, C, dx, fs, _, rfl, S4 _ _ p0, gk.cl, np, p1, _, rfl, DP, _, g.perms, .ref t', rfl, S4 _ _ p2, pk, .inl ⟨t', r', rfl, a1.mono S4, a2, fun r1 e1 u H5 s5 h5 => ?_, fun e1 => ?_⟩⟩
      · obtain rfl : r1 = r := by rw [a3] at e1; exact (Option.some.inj e1).symm
        refine ⟨_, rfl, rfl, _, rfl, ?_⟩
        rw [show decide (V.ref u = V.non) = false from decide_eq_false (fun z => nomatch z)]
        refine iteF ?_
        have S45 := s4.trans s5
        have hL5 := S45 _ _ hL
        have lu := Paired.length hus
        rw [List.length_take] at lu
        have hu5 : H5 u = some (.tup (sts r1)) := h5
        have uL : u ≠ L := ne_of hu5 hL5 (fun z => nomatch z)
        refine ⟨_, rfl, .inl ⟨rfl, _, SqL.of hL5⟩, _, rfl, L, _, _, rfl, rfl, hL5, by rw [List.length_map, sizeLine_eq]; omega, ?_⟩
        have B : Bt [L] H5 (upd H5 L (.lst (us.map V.ref ++ [.ref u]))) := bt_upd (by simp)
        have S35 : Same (hid [L] H3) (hid [L] (upd H5 L (.lst (us.map V.ref ++ [.ref u])))) := (hid_same S45).trans B
        refine ⟨_, _, _, us ++ [u], rfl, S3.trans S35, S23.trans S35, by rw [upd_same, List.map_append]; rfl, ?_⟩
        rw [take_at hri]
        exact (hus.mono S35).app (.cons (B _ _ (hid_to (ni1 uL) hu5)) .nil)
      · rw [a3] at e1; cases e1
    · rintro σ H3 ⟨o3, o4, o5, us, rfl, S3, S23, hL, hus⟩
      rw [List.take_of_length_le (by rw [List.length_map, ← lts]; exact Nat.le_refl _)] at hus
      exact ⟨_, rfl, q L us H3 (s1.free nL) (S3.trans (hid_low _ _)) hL (hus.mono (hid_low _ _))⟩
end
end K7
set_option Elab.async false
set_option linter.all false
set_option maxRecDepth 100000
set_option maxHeartbeats 4000000
/-! Heaps without code tables. -/
namespace GB
open PySem PySem.Spec L2 LamX
def hidT (H : Hp) : Hp := fun b => match H b with | some (.tbl _) => none | x => x
theorem hidT_to {H : Hp} {b : Addr} {o : HO} (e : H b = some o) (n : ∀ ps, o ≠ .tbl ps) : hidT H b = some o := by
  unfold hidT
  rw [e]
  cases o with
  | tbl ps => exact absurd rfl (n ps)
  | _ => rfl
theorem hidT_in {H : Hp} {b : Addr} {o : HO} (e : hidT H b = some o) : H b = some o ∧ ∀ ps, o ≠ .tbl ps := by
  unfold hidT at e
  cases h : H b with
  | none => rw [h] at e; cases e
  | some u =>
    rw [h] at e
    cases u with
    | tbl ps => cases e
    | _ => cases e; exact ⟨rfl, fun ps z => nomatch z⟩
theorem hidT_low (H : Hp) : Same (hidT H) H := fun b o e => (hidT_in e).1
theorem extN_same {H H1 : Hp} (e : ExtN H H1) : Same (hidT H) (hidT H1) := fun b o h => by
  obtain ⟨h1, n⟩ := hidT_in h
  exact hidT_to (e b o h1 n) n
section
variable {K : PySem.W.Frag} {H : Hp}
theorem sqL_T {a : Addr} {xs : List V} (h : SqL K H a xs) : SqL K (hidT H) a xs := by
  rcases h with (h | ⟨o, h⟩) | h
  · exact .inl (.inl (hidT_to h fun ps z => nomatch z))
  · exact .inl (.inr ⟨o, hidT_to h fun ps z => nomatch z⟩)
  · exact .inr h
theorem sqT_T {a : Addr} {xs : List V} (h : SqT K H a xs) : SqT K (hidT H) a xs := by
  rcases h with (h | ⟨o, h⟩) | h
  · exact .inl (.inl (hidT_to h fun ps z => nomatch z))
  · exact .inl (.inr ⟨o, hidT_to h fun ps z => nomatch z⟩)
  · exact .inr h
mutual
theorem dp_T : ∀ (d : PyData) (v : V), Dp K H v d → Dp K (hidT H) v d
  | .tuple ds, v, h => by cases h with | tup h1 h2 => exact .tup (sqT_T h1) (dps_T ds _ h2)
  | .list ds, v, h => by cases h with | lst h1 h2 => exact .lst (sqL_T h1) (dps_T ds _ h2)
  | .str _, v, h => by cases h; exact .str _
  | .int _, v, h => by cases h; exact .int _
  | .none, v, h => by cases h; exact .non
  | .bool _, v, h => by cases h; exact .bl _
theorem dps_T : ∀ (ds : List PyData) (vs : List V), DpAll K H vs ds → DpAll K (hidT H) vs ds
  | [], vs, h => by cases h; exact .nil
  | d :: r, vs, h => by cases h with | cons h1 h2 => exact .cons (dp_T d _ h1) (dps_T r _ h2)
end
end
theorem sameT {H H' : Hp} (s : Same H H') : Same (hidT H) (hidT H') := fun b o h => by
  obtain ⟨h1, n⟩ := hidT_in h
  exact hidT_to (s _ _ h1) n
theorem fact_T {H : Hp} {f : Fact} {t : Addr} (h : FactAt H f t) : FactAt (hidT H) f t := by
  obtain ⟨v, e, h1, h2, h3⟩ := h.ex
  exact ⟨v, e, hidT_to h1 (fun _ z => nomatch z), hidT_to h2 (fun _ z => nomatch z), hidT_to h3 (fun _ z => nomatch z)⟩
theorem IsG_T {H : Hp} {g : Addr} {d : GD} (h : IsG H g d) : IsG (hidT H) g d := by
  obtain ⟨aL, aF, aC, aT, h1, h2, h3, h4, ts, h5, h6⟩ := h.ex
  exact ⟨aL, aF, aC, aT, hidT_to h1 (fun _ z => nomatch z), hidT_to h2 (fun _ z => nomatch z), hidT_to h3 (fun _ z => nomatch z), hidT_to h4 (fun _ z => nomatch z), ts, hidT_to h5 (fun _ z => nomatch z), Paired.mapP h6 fun _ _ r => fact_T r⟩
theorem factsT {H : Hp} {a : Addr} {fs : List Fact} (h : FactsAt H a fs) : FactsAt (hidT H) a fs := let ⟨ts, h1, h2⟩ := h; ⟨ts, hidT_to h1 (fun _ z => nomatch z), Paired.mapP h2 fun _ _ r => fact_T r⟩
theorem rowsT {H : Hp} {rs : List PRow} {ts : List Addr} (h : RowsAt H rs ts) : RowsAt (hidT H) rs ts := Paired.mapP h fun _ _ r => hidT_to r (fun _ z => nomatch z)
theorem plaT {H : Hp} {a : Addr} {xs : List V} (h : PlA H a xs) : PlA (hidT H) a xs := h.imp (fun e => hidT_to e (fun _ z => nomatch z)) (fun e => hidT_to e (fun _ z => nomatch z))
theorem sqaT {K : PySem.W.Frag} {H : Hp} {a : Addr} {xs : List V} (h : SqA K H a xs) : SqA K (hidT H) a xs := h.imp sqL_T sqT_T
theorem gr2T {C : Addr} {H : Hp} {G : Addr} {g : GD} (h : IsGr2 C H G g) : IsGr2 C (hidT H) G g :=
  let ⟨dx, fs, l1, l2, l3, l4, l5, h0, h1, h2, h3, h4, h5, h6⟩ := h.ex
  have n : ∀ {b : Addr} {o : HO}, H b = some o → (∀ ps, o ≠ .tbl ps) → hidT H b = some o := hidT_to
  ⟨dx, fs, l1, l2, l3, l4, l5, n h0 (fun _ z => nomatch z), ⟨h1.1, factsT h1.2⟩, ⟨h2.1, n h2.2 (fun _ z => nomatch z)⟩, ⟨h3.1, n h3.2 (fun _ z => nomatch z)⟩, ⟨h4.1, n h4.2 (fun _ z => nomatch z)⟩, ⟨h5.1, n h5.2 (fun _ z => nomatch z)⟩, h6⟩
theorem plgT {C : Addr} {H : Hp} {G : Addr} {g : GD} (h : PlG C H G g) : PlG C (hidT H) G g := let ⟨dx, fs, D, h1, h2, h3⟩ := h.ex; ⟨dx, fs, D, hidT_to h1 (fun _ z => nomatch z), h2, hidT_to h3 (fun _ z => nomatch z)⟩
theorem gr3T {C : Addr} {H : Hp} {G : Addr} {g : GD} (h : IsGr3 C H G g) : IsGr3 C (hidT H) G g := ⟨gr2T h.gr, plgT h.pl⟩
theorem tabS {H H' : Hp} {PT : Addr} {q : Str} (s : Same H H') (t : TabS H PT q) : TabS H' PT q := t.ext s
/-- a table stays where what changes is no table and no code -/
theorem tabB {ps : List Addr} {H H' : Hp} {PT : Addr} {q : Str} (hl : ∀ z ∈ ps, ∃ o, H z = some o ∧ (∀ vs, o ≠ .tbl vs) ∧ ∀ c, o ≠ CodeO c q) (B : Bt ps H H') (t : TabS H PT q) : TabS H' PT q := by
  obtain ⟨vs, h1, h2, h3⟩ := t
  refine ⟨vs, bt_at B (fun m => ?_) h1, h2, fun pos cv hc => ?_⟩
  · obtain ⟨o, e, n, _⟩ := hl _ m
    rw [h1] at e
    exact n vs (Option.some.inj e).symm
  · obtain ⟨c, e1, e2⟩ := h3 pos cv hc
    refine ⟨c, e1, bt_at B (fun m => ?_) e2⟩
    obtain ⟨o, e, _, n⟩ := hl _ m
    rw [e2] at e
    exact n c (Option.some.inj e).symm
theorem gone_T {H H' : Hp} {l : Addr} (s : Same (hidT H) (hidT H')) (e : H' l = none) : hidT H l = none := by
  cases h : hidT H l with
  | none => rfl
  | some o =>
    have := (hidT_in (s _ _ h)).1
    rw [e] at this
    cases this
end GB
set_option Elab.async false
set_option linter.all false
set_option autoImplicit false
set_option maxRecDepth 100000
set_option maxHeartbeats 4000000
/-! sorted(d, key=lambda r: g.f[r]) of a dict whose keys are tuples. -/
namespace LSo
open PySem PySem.Spec PyProof.Rows L2 LamX
/-- the lambda's names: one parameter, one that it captures -/
structure LamP (sc scope : Scope) (rn gn : Str) : Prop where
  kind : scope.kind = .function
  co : scope.isCoroutine = false
  gen : scope.isGenerator = false
  own : ∀ y ∈ scope.names, y.2 ≠ .cell
  loc : scope.names.lookup rn = some .local
  fre : scope.names.lookup gn = some .free
  free : ∀ y ∈ scope.names, y.2 = .free → sc.names.lookup y.1 = some .cell ∨ sc.names.lookup y.1 = some .free
def lamPB (sc scope : Scope) (rn gn : Str) : Bool :=
  decide (scope.kind = .function) && !scope.isCoroutine && !scope.isGenerator && decide (scope.names.lookup rn = some .local) && decide (scope.names.lookup gn = some .free) && scope.names.all fun y => !decide (y.2 = .cell) && (!decide (y.2 = .free) || decide (sc.names.lookup y.1 = some .cell) || decide (sc.names.lookup y.1 = some .free))
theorem lamP_by {sc scope : Scope} {rn gn : Str} (h : lamPB sc scope rn gn = true) : LamP sc scope rn gn := by
  unfold lamPB at h
  simp only [Bool.and_eq_true, Bool.or_eq_true, Bool.not_eq_true', decide_eq_true_eq, decide_eq_false_iff_not, List.all_eq_true] at h
  obtain ⟨⟨⟨⟨⟨h1, h2⟩, h3⟩, h5⟩, h6⟩, h4⟩ := h
  refine ⟨h1, h2, h3, fun y hy => (h4 y hy).1, h5, h6, fun y hy e => ?_⟩
  rcases (h4 y hy).2 with (z | z) | z
  · exact absurd e z
  · exact .inl z
  · exact .inr z
section
variable {X : Cx} {pins : List (Addr × Obj)} {σ : L2.St} {H : Hp} {s : Shared} {scope : Scope} {rn gn fn : Str} {f c' G C dx D b : Addr} {pm ctv : Value} {params : Arguments} {p1 p2 p3 p4 : PySem.Pos} {i : Nat} {fs : List (Str × V)} {pls : List (List Key × V)} {k : List Key} {n : Int}
theorem LamP.has (L : LamP X.env.scope scope rn gn) (ok : X.Ok) : ∀ y ∈ scope.names, y.2 = .free → ∃ c, X.env.cells.lookup y.1 = some c := fun y hy e => by
  rcases L.free y hy e with k | k
  · exact ok.has _ (.inl k)
  · exact ok.has _ (.inr k)
/-- its call: the heap is kept, the place is told -/
theorem lam_key {A : Around} (hr : Room 1 A) (I : Inv X pins σ H s) (L : LamP X.env.scope scope rn gn)
    (hf : s.heap.get? f = some (PySem.W.kla_obj "<lambda>" (X.env.qual ++ "<lambda>") params (.Subscript (.Attribute (.Name gn p1) fn p2) (.Name rn p3) p4) scope (cloFrom X.env.cells scope.names []) pm c' ctv))
    (hco : H c' = some (CodeO c' (X.env.qual ++ "<lambda>")))
    (hbind : ∀ v, bindArgs (PySem.W.kla_fn "<lambda>" (X.env.qual ++ "<lambda>") params (.Subscript (.Attribute (.Name gn p1) fn p2) (.Name rn p3) p4) scope (cloFrom X.env.cells scope.names []) pm (.ref c') ctv) ⟨[v], []⟩ = pure [(rn, v)])
    (hN : X.N[i]? = some gn) (hσ : σ[i]? = some (some (.ref G))) (hcell : X.env.scope.names.lookup gn = some .cell)
    (hG : H G = some (.ins C dx fs)) (c : Cls X.K C) (na : NoAttr X.K C fn) (l : fs.lookup fn = some (.ref D)) (hD : H D = some (.dT pls)) (hb : H b = some (.tup (k.map kV))) (hv : valV pls k = some (.int n))
    (d1 : (gn == ("__debug__" : Str)) = false) (d2 : (rn == ("__debug__" : Str)) = false) (d3 : (gn == ("__classdict__" : Str)) = false)
    (hba : ∀ env : Env, attributeBase (.Name gn p1) fn env (eval (.Name gn p1) env) = eval (.Name gn p1) env) (hsl : NoSl (.Name rn p3)) :
    wpAny (model X.prog X.w) A (call (.ref f) [.ref b]) (PySem.W.KeyPure (.int n) s) (fun _ _ => False) s := by
  obtain ⟨⟨oc, vs, t, hoc, hdc, hvc⟩, _, _⟩ := I.hok c' _ hco
  have hfree := L.has I.ok
  have rc : codeAny (model X.prog X.w) A (.call (.ref f) ⟨[.ref b], []⟩) (fun r s' => ∃ v, r = .ok (.ret v) ∧ PySem.W.KeyPure (.int n) s v s') s := by
    refine PySem.W.kla_callFunE hr.depth hf rfl L.co L.gen rfl ⟨c', oc, vs, t, rfl, hoc, hdc, hvc⟩ ?_
    rw [hbind]
    refine wpAny_pure (wpAny_newFunctionEnv (fun y hy => L.own y hy) (fun y hy => ?_) (fun h₁ hns hsb => ⟨I.nolimit.fresh _ hsb, ?_⟩) L.kind)
    · obtain rfl := List.mem_singleton.mp hy
      exact L.loc
    show codeAny _ _ (.expr _ (PySem.W.envX (X.env.qual ++ "<lambda>") scope s.heap.objs.size f (.ref c') (cloFrom X.env.cells scope.names []))) _ _
    have kp : ∀ b o, s.heap.get? b = some o → h₁.get? b = some o := fun b o e => hsb.extBut b o (Nat.ne_of_lt (Heap.lt_size e)) (Heap.get?_push_of_some _ e)
    have J : Inv X pins σ H { s with heap := h₁, toks := s.toks + ([(rn, Value.ref b)] : List (Str × Value)).length } := I.kept kp
    generalize hs1 : ({ s with heap := h₁, toks := s.toks + ([(rn, Value.ref b)] : List (Str × Value)).length } : Shared) = s1 at J ⊢
    have e1 : s1.heap = h₁ := by rw [← hs1]
    -- the captured cell
    obtain ⟨m, _, hl⟩ := J.loc
    obtain ⟨u, ru, lk⟩ := hl i gn (.ref G) hN hσ (.inr (.inl hcell))
    obtain rfl : u = Value.ref G := ru
    obtain ⟨cc, hc1, hc2⟩ : ∃ cc, X.env.cells.lookup gn = some cc ∧ s1.heap.IsCell cc (some (.ref G)) := by
      rcases lk with ⟨k', _⟩ | ⟨_, c3, e', z⟩
      · have k' : X.env.scope.names.lookup gn = some .local := k'
        rw [hcell] at k'
        cases k'
      · exact ⟨c3, e', z⟩
    have hgm : (gn, NameKind.free) ∈ scope.names := PySem.mem_of_lookup L.fre
    have hcl : (cloFrom X.env.cells scope.names []).lookup gn = some cc := by
      obtain ⟨c4, h4⟩ := mem_lookup (cloFrom_has (cells := X.env.cells) (acc := []) hgm)
      rcases cloFrom_mem (PySem.mem_of_lookup h4) with hm | ⟨_, h2⟩
      · cases hm
      · rw [hc1] at h2
        rw [h4, h2]
        rfl
    refine PySem.W.kla_codeExpr ?_
    have hu : (A.deeper (PySem.W.envX (X.env.qual ++ "<lambda>") scope s.heap.objs.size f (.ref c') (cloFrom X.env.cells scope.names []))).units + 1 < cLine := by
      have := hr.un
      show A.units + 3 + 1 < cLine
      omega
    generalize A.deeper (PySem.W.envX (X.env.qual ++ "<lambda>") scope s.heap.objs.size f (.ref c') (cloFrom X.env.cells scope.names [])) = A2 at hu ⊢
    refine subD_of PySem.F.slot_dict_getitem.lookup hsl ?_
    refine attr_of (hba _) ?_
    refine wpAny_Name (wpAny_loadName_free L.kind L.fre hcl hc2 ?_ d3) d1
    obtain ⟨mA, O, r, _, _, _⟩ := ins_get J.hok hG
    obtain ⟨u2, hu2, ru2⟩ := RelO.some_of (v := .ref D) (o := mA fn) (by rw [← l]; exact r fn)
    obtain rfl : u2 = Value.ref D := ru2
    refine get_map J.kIn O (c.get fn) c.hd na hu2 (handed_of (v := V.ref D) rfl) ?_
    have hns' : ({ s1 with toks := s1.toks + 1 } : Shared).heap.Ns s.heap.objs.size fun x => ([(rn, Value.ref b)] : List (Str × Value)).reverse.lookup x := by
      show s1.heap.Ns _ _
      rw [e1]
      exact hns
    refine wpAny_Name (wpAny_loadName_local L.kind L.loc hns' (v := .ref b) (by simp) ?_) d2
    have J2 := J.tok (s1.toks + 1)
    refine ⟨dict_typeIs J2 (DGet.t (k := k) hD hb), ?_⟩
    obtain ⟨z, hd, xs, rel, dd⟩ := dt_rd J2.hok (.inl hD)
    obtain ⟨w', hw, rw'⟩ := RelO.some_of (v := .int n) (o := (atKey xs k).map (·.2)) (by rw [← hv]; exact rel.val k)
    obtain ⟨p, hp, hp2⟩ := Option.map_eq_some_iff.mp hw
    refine wpAny_getItem_heap (tupleKind_room_in1 hu) (key_of J2.hok hb) dd hp ?_
    rw [hp2]
    obtain ⟨tw, rfl⟩ : ∃ t, w' = Value.int n t := rw'
    refine ⟨_, rfl, h₁, s1.toks + 1 + (tupleKind (mixKind X.prog X.w)).draws k, ?_, kp, .int n tw⟩
    subst hs1
    rfl
  exact wpAny_call (codeAny_mono rc fun r s' hq => by
    obtain ⟨v, rfl, hk⟩ := hq
    exact hk)
/-- what the lambda asks -/
structure LamA (X : Cx) (scope : Scope) (rn gn fn : Str) (params : Arguments) (p1 p2 p3 p4 : PySem.Pos) : Prop where
  L : LamP X.env.scope scope rn gn
  bind : ∀ (q : Str) (cl : List (Str × Addr)) (pm cv ctv v : Value), bindArgs (PySem.W.kla_fn "<lambda>" q params (.Subscript (.Attribute (.Name gn p1) fn p2) (.Name rn p3) p4) scope cl pm cv ctv) ⟨[v], []⟩ = pure [(rn, v)]
  cell : X.env.scope.names.lookup gn = some .cell
  d1 : (gn == ("__debug__" : Str)) = false
  d2 : (rn == ("__debug__" : Str)) = false
  d3 : (gn == ("__classdict__" : Str)) = false
  ba : ∀ env : Env, attributeBase (.Name gn p1) fn env (eval (.Name gn p1) env) = eval (.Name gn p1) env
  sl : NoSl (.Name rn p3)
/-- where the places are told -/
structure PlAt (K : PySem.W.Frag) (H : Hp) (G : Addr) (fn : Str) (pls : List (List Key × V)) : Prop where
  ex : ∃ C dx fs D, H G = some (.ins C dx fs) ∧ Cls K C ∧ NoAttr K C fn ∧ fs.lookup fn = some (.ref D) ∧ H D = some (.dT pls)
/-- the keys of a dict, told by a new list -/
def KeysAt (H : Hp) (ks : List (List Key)) (bs : List Addr) : Prop := Paired (fun k b => H b = some (.tup (k.map kV))) ks bs
theorem each_paired {α : Type} {R : Value → α × Addr → Prop} : ∀ {out : List Value} {zs : List (α × Addr)}, PySem.W.EachIs R out zs → (∀ v z, R v z → v = .ref z.2) → out = (zs.map (·.2)).map Value.ref
  | _, _, .nil, _ => rfl
  | _, _, .cons r t, h => by rw [h _ _ r, each_paired t h]; rfl
theorem refs_vals : ∀ bs : List Addr, Vals (bs.map V.ref) (bs.map Value.ref)
  | [] => .nil
  | _ :: r => .cons rfl (refs_vals r)
theorem each_refs {α : Type} : ∀ {zs : List (α × Addr)}, PySem.W.EachIs (fun (v : Value) (z : α × Addr) => v = .ref z.2) ((zs.map (·.2)).map Value.ref) zs
  | [] => .nil
  | _ :: _ => .cons rfl each_refs
theorem sorted_lam {d : Addr} {kvs : List (List Key × V)} {place : List Key → Int} {Q : VK} (hr : Room 4 X.A) (hc : X.calm = true) (I : Inv X pins σ H s) (LA : LamA X scope rn gn fn params p1 p2 p3 p4)
    (hf : s.heap.get? f = some (PySem.W.kla_obj "<lambda>" (X.env.qual ++ "<lambda>") params (.Subscript (.Attribute (.Name gn p1) fn p2) (.Name rn p3) p4) scope (cloFrom X.env.cells scope.names []) pm c' ctv))
    (hco : H c' = some (CodeO c' (X.env.qual ++ "<lambda>"))) (hN : X.N[i]? = some gn) (hσ : σ[i]? = some (some (.ref G)))
    (hd : H d = some (.dT kvs)) (hz : kvs.length ≤ 1000) (hG : PlAt X.K H G fn pls) (hp : ∀ e ∈ kvs, valV pls e.1 = some (.int (place e.1)))
    (q : ∀ p ks bs, H p = none → ks.Perm (kvs.map (·.1)) → ks.Pairwise (fun a b => place a ≤ place b) → KeysAt H ks bs → Q (.ref p) (upd H p (.lst (bs.map V.ref)))) :
    wpAny (model X.prog X.w) X.A (call (.builtin "sorted") [.ref d] [(Str.ofString "key", .ref f)]) (EP X pins σ Q) X.xe s := by
  obtain ⟨C, dx, fs, D, g1, g2, g3, g4, g5⟩ := hG.ex
  obtain ⟨z, hs, ks, pr, o, es, ep, ho, hx, hdt, he, hn⟩ := (show ObjOk X.prog X.w H s.heap d (.dT kvs) from I.hok d _ hd)
  have l1 : es.size = ks.length := size_of_entries he
  have l2 : kvs.length = ks.length := Paired.length pr
  have kat : KeysAt H (kvs.map (·.1)) (ks.map fun x => x.2.1) := by
    have := isKeys_of pr
    unfold IsKeys at this
    unfold KeysAt
    generalize (ks.map fun x => x.2.1) = bs at this
    clear hd hz hp q pr l2 z
    induction this with
    | nil => exact .nil
    | cons h _ ih => exact .cons h ih
  generalize hbs : (ks.map fun x => x.2.1) = bs at kat
  have lb : bs.length = kvs.length := by rw [← hbs, List.length_map, l2]
  refine PyProof.Rows.call_function_entry_kw PyProof.Rows.kind_sorted PyProof.Rows.plain_sorted PyProof.Rows.entry_sorted (PyProof.Rows.ksk_s1 _ _) ?_
  unfold Builtin.«sorted»
  refine wpAny_bind (m := checkCount "sorted" 1 1 _) (wpAny_pure ?_)
  refine wpAny_bind (PySem.W.kdu_collect (A := X.A.in1) (kdl_raw hs hx hdt) (I.ok.hd hc) ho (by omega) fun h' tk acc kp it => ?_)
  have eacc : acc.toList = bs.map Value.ref := by
    rw [← hbs, List.map_map]
    refine List.ext_getElem? fun j => ?_
    rw [List.getElem?_map]
    cases ej : acc.toList[j]? with
    | none =>
      have h0 := List.getElem?_eq_none_iff.mp ej
      rw [Array.length_toList, it.1] at h0
      rw [List.getElem?_eq_none (by omega)]
      rfl
    | some v =>
      obtain ⟨en, hen, hv⟩ := it.2 j v (by rw [← Array.getElem?_toList]; exact ej)
      have qe := PySem.entry_at he j
      rw [hen] at qe
      cases hb : ks[j]? with
      | none => rw [hb] at qe; cases qe
      | some y =>
        rw [hb] at qe
        rw [hv, Option.some.inj qe]
        rfl
  have I1 : Inv X pins σ H { s with heap := h', toks := tk } := I.kept kp
  have lk : (kvs.map (·.1)).length = bs.length := by rw [List.length_map, lb]
  obtain ⟨zs, hz1, hz2⟩ : ∃ zs : List (List Key × Addr), zs.map (·.1) = kvs.map (·.1) ∧ zs.map (·.2) = bs := ⟨(kvs.map (·.1)).zip bs, List.map_fst_zip (by omega), List.map_snd_zip (by omega)⟩
  have lz : zs.length = kvs.length := by rw [← lb, ← hz2, List.length_map]
  have zat : ∀ e ∈ zs, H e.2 = some (.tup (e.1.map kV)) := by
    rw [← hz1, ← hz2] at kat
    clear hz1 hz2 lz
    induction zs with
    | nil => intro e he; cases he
    | cons e r ih =>
      unfold KeysAt at kat
      rw [List.map_cons, List.map_cons] at kat
      cases kat with
      | cons h1 h2 =>
        intro e' he'
        rcases List.mem_cons.mp he' with rfl | m
        · exact h1
        · exact ih h2 e' m
  have zpl : ∀ e ∈ zs, valV pls e.1 = some (.int (place e.1)) := fun e he => by
    have : e.1 ∈ kvs.map (·.1) := by rw [← hz1]; exact List.mem_map.mpr ⟨e, he, rfl⟩
    obtain ⟨e', he', ee⟩ := List.mem_map.mp this
    rw [← ee]
    exact hp e' he'
  have hz3 : bs.length ≤ sizeLine := by rw [sizeLine_eq]; omega
  rw [eacc]
  refine wpAny_bind (wpAny_newList ?_ (by rw [List.length_map]; exact hz3))
  have hoL : (h'.push (seqObj "list" (bs.map Value.ref).toArray 0)).get? h'.objs.size = some (seqObj "list" (bs.map Value.ref).toArray 0) := Heap.get?_push_size _ rfl
  show wpAny _ _ _ _ _ { s with heap := h'.push (seqObj "list" (bs.map Value.ref).toArray 0), toks := tk }
  refine wpAny_bind (wpAny_holding (PyProof.Rows.wpAny_call_entry_kw PyProof.Rows.slot_list_sort ⟨_, hoL, rfl⟩ PyProof.Rows.entry_list_sort ?_ (PyProof.Rows.ksk_l1 _ _)))
  rw [PyProof.Rows.ksk_t1]
  have up : ∀ {g : Heap}, PySem.W.KeepsBut h'.objs.size (h'.push (seqObj "list" (bs.map Value.ref).toArray 0)) g → ∀ b o, h'.get? b = some o → g.get? b = some o := fun {g} kb b o e =>
    kb b o (Nat.ne_of_lt (Heap.lt_size e)) (Heap.get?_push_of_some _ e)
  have eR : PySem.W.EachIs (fun (v : Value) (e : List Key × Addr) => v = .ref e.2) (bs.map Value.ref) zs := by rw [← hz2]; exact each_refs
  refine PySem.W.keyH_tree (kz := zs.map fun e => PyData.int (place e.1)) (s := { s with heap := h'.push (seqObj "list" (bs.map Value.ref).toArray 0), toks := tk }) hoL (by rw [List.length_map, List.length_map]; omega) (by rw [List.length_map]; exact hz3) (fun x hx y hy => ?_) (.inr fun x hx => ?_) (fun x hx => ?_)
    (PySem.W.keyH_turns (s := { s with heap := h'.push (seqObj "list" (bs.map Value.ref).toArray 0), toks := tk }) (k := fun e : List Key × Addr => PyData.int (place e.1)) eR fun v e hv he g tk2 kb => ?_) fun g tk2 out c kb hD ko => ⟨.none, rfl, ?_⟩
  · obtain ⟨e1, _, rfl⟩ := List.mem_map.mp hx
    obtain ⟨e2, _, rfl⟩ := List.mem_map.mp hy
    rfl
  · obtain ⟨e1, _, rfl⟩ := List.mem_map.mp hx
    exact ⟨fun z => (nomatch z), fun _ z => (nomatch z)⟩
  · obtain ⟨e1, _, rfl⟩ := List.mem_map.mp hx
    have := hr.un
    show X.A.units + 1 + 1 + PyData.depth (.int _) < cLine
    rw [PyData.depth]
    omega
  · subst hv
    have I2 : Inv X pins σ H { s with heap := g, toks := tk2 } := I1.kept (up kb)
    exact lam_key (hr.mono (by decide : 3 ≤ 4)).in1.in1 I2 LA.L (up kb _ _ (kp _ _ hf)) hco (LA.bind _ _ _ _ _) hN hσ LA.cell g1 g2 g3 g4 g5 (zat e he) (zpl e he) LA.d1 LA.d2 LA.d3 LA.ba LA.sl
  · have lo : out.length = zs.length := (ko.length (by rw [List.length_map, List.length_map]; omega)).trans (by rw [List.length_map]; omega)
    have oe := PySem.W.keyedOut_each (fun e : List Key × Addr => PyData.int (place e.1)) ko eR
    rw [PySem.W.dataLe_int (fun e : List Key × Addr => place e.1)] at oe
    generalize hms : (zs.mergeSort fun a b => decide (place a.1 ≤ place b.1)) = ms at oe
    have pm : ms.Perm zs := by rw [← hms]; exact List.mergeSort_perm _ _
    have srt : ms.Pairwise fun a b => place a.1 ≤ place b.1 := by
      rw [← hms]
      have := List.pairwise_mergeSort (le := fun a b : List Key × Addr => decide (place a.1 ≤ place b.1)) (fun a b c h1 h2 => by
        simp only [decide_eq_true_eq] at *; omega) (fun a b => by simp only [Bool.or_eq_true, decide_eq_true_eq]; omega) zs
      exact this.imp fun h => by simpa using h
    have eo : out = (ms.map (·.2)).map Value.ref := each_paired oe fun _ _ h => h
    have lm : (ms.map (·.2)).length = bs.length := by rw [List.length_map, pm.length_eq, ← hz2, List.length_map]
    refine wpAny_pure ⟨_, rfl, .ref h'.objs.size, upd H h'.objs.size (.lst ((ms.map (·.2)).map V.ref)), I1.laid (t' := tk2) (up kb) (Nat.le_refl _) ⟨by rw [List.length_map, lm]; exact hz3, out, c, by rw [eo]; exact refs_vals _, hD⟩, rfl, q _ (ms.map (·.1)) (ms.map (·.2)) (I1.hok.fresh (Nat.le_refl _)) ?_ ?_ ?_⟩
    · rw [← hz1]; exact pm.map _
    · rw [List.pairwise_map]; exact srt
    · unfold KeysAt
      have zat' : ∀ e ∈ ms, H e.2 = some (.tup (e.1.map kV)) := fun e he => zat e (pm.mem_iff.mp he)
      clear eo lm srt pm oe hms
      induction ms with
      | nil => exact .nil
      | cons e r ih => exact .cons (zat' e List.mem_cons_self) (ih fun e' h => zat' e' (List.mem_cons_of_mem _ h))
/-- sorted(e, key=lambda r: g.f[r]): but for the table of code all stays -/
def tSrtL (K : PySem.W.Frag) (PT : Addr) (qq : Str) (i : Nat) (fn : Str) (ta : TA) : TE := fun σ H Q => ta σ H fun vs H1 => ∃ (d : Addr) (kvs : List (List Key × V)) (G : Addr) (pls : List (List Key × V)) (place : List Key → Int), vs = [.ref d] ∧ H1 d = some (.dT kvs) ∧ kvs.length ≤ 1000 ∧ σ[i]? = some (some (.ref G)) ∧
  PlAt K H1 G fn pls ∧ (∀ e ∈ kvs, valV pls e.1 = some (.int (place e.1))) ∧ TabS H1 PT qq ∧
  ∀ (H2 : Hp) (p : Addr) (ks : List (List Key)) (bs : List Addr), ExtN H1 H2 → TabS H2 PT qq → H2 p = none → ks.Perm (kvs.map (·.1)) → ks.Pairwise (fun a b => place a ≤ place b) → KeysAt H2 ks bs → Q (.ref p) (upd H2 p (.lst (bs.map V.ref)))
theorem PlAt.ext {K : PySem.W.Frag} {H H' : Hp} {G : Addr} {fn : Str} {pls : List (List Key × V)} (e : ExtN H H') (h : PlAt K H G fn pls) : PlAt K H' G fn pls :=
  let ⟨C, dx, fs, D, h1, h2, h3, h4, h5⟩ := h.ex
  ⟨C, dx, fs, D, e _ _ h1 (fun _ z => nomatch z), h2, h3, h4, e _ _ h5 (fun _ z => nomatch z)⟩
theorem pe_srtL {PT c : Addr} {e : Expr} {ta : TA} {p pos lpos kpos : PySem.Pos} (hr : Room 4 X.A) (hc : X.calm = true) (hg : Gl X "sorted") (hm : X.mg "sorted" = none) (ha : PA X [e] ta) (LA : LamA X scope rn gn fn params p1 p2 p3 p4) (hN : X.N[i]? = some gn)
    (TB : TabB X.base X.mg c PT) (hcode : X.env.code = .ref c) (hdef : defaultsOf params X.env = ([], []))
    (hst : backTo pos (starEach [e] X.env) = (false, eval e X.env) :: backTo pos (starEach [] X.env) := by rfl) (hpl : (backTo pos (starEach [e] X.env)).any (·.1) = false := by rfl) :
    PE X (.Call (.Name "sorted" p) [e] [⟨some "key", .Lambda params (.Subscript (.Attribute (.Name gn p1) fn p2) (.Name rn p3) p4) scope lpos, kpos⟩] pos) (tSrtL X.K PT (X.env.qual ++ "<lambda>") i fn ta) := by
  refine ⟨fun pins s σ H Q I h => ?_⟩
  refine wpAny_Call_Name_kw (ld_blt (u := .builtin "sorted") I hg hm (by first | rfl | decide +kernel) ?_ (by decide) (by decide))
  refine PyProof.Rows.callWith_kw (thn (ha.run pos pins s σ H _ I h) fun us s1 ⟨vs, H1, I1, r1, d, kvs, G, pls, place, ev, hd, hz, hσ, hG, hp, hT, q⟩ => ?_) hst hpl rfl rfl
  · subst ev
    obtain ⟨u, rfl, ru⟩ := vals1 r1
    obtain rfl : u = Value.ref d := ru
    show wpAny _ _ (evalAll ((do let v ← eval (.Lambda params (.Subscript (.Attribute (.Name gn p1) fn p2) (.Name rn p3) p4) scope lpos) X.env; standAt pos; pure v) :: [])) _ _ s1
    refine wpAny_evalAll_cons (wpAny_bind (lam_make2 (T := [(PT, X.env.qual ++ "<lambda>")]) I1 TB hcode (List.mem_singleton.mpr rfl) (fun z hz _ => by rw [List.mem_singleton.mp hz]) (fun z hz => by rw [List.mem_singleton.mp hz]; exact hT) hdef (LA.L.has I1.ok) fun f c' pm' ctv H2 s2 I2 eN T2 hf hfn hfr hco => wpAny_bind (wpAny_standAt (wpAny_pure ?_))))
    refine wpAny_evalAll_nil ?_
    exact sorted_lam hr hc I2 LA hf hco hN hσ (eN _ _ hd (fun _ z => nomatch z)) hz (hG.ext eN) hp fun p' ks bs h1 h2 h3 h4 => q H2 p' ks bs eN (T2 _ (List.mem_singleton.mpr rfl)) h1 h2 h3 h4
end
end LSo
set_option Elab.async false
set_option linter.all false
set_option autoImplicit false
set_option maxRecDepth 100000
set_option maxHeartbeats 8000000
namespace GB
open PySem PySem.Spec L2 EqT LamX
theorem qual_of {ql : Str} {sc : Scope} {n f : Addr} {cd : Value} : (PyProof.Rows.envOfC ql sc n f cd).qual = (PyProof.Rows.envOfC ql sc 0 0 .none).qual := rfl
def addR (l : List PRow) (r : PRow) : List PRow := if r ∈ l then l else l ++ [r]
theorem mem_addR {l : List PRow} {r y : PRow} : y ∈ addR l r ↔ y ∈ l ∨ y = r := by
  unfold addR
  by_cases h : r ∈ l
  · rw [if_pos h]
    exact ⟨.inl, fun e => e.elim id fun e => e ▸ h⟩
  · rw [if_neg h, List.mem_append, List.mem_singleton]
theorem put_addR (l : List PRow) (r : PRow) : putK (trR l) (rkey r) (.bl true) = trR (addR l r) := by
  have hv := valV_row (r := r) (trR_keys l)
  unfold addR
  by_cases h : r ∈ l
  · rw [if_pos h]
    unfold putK
    rw [valV_any, hv, decide_eq_true h, if_pos rfl]
    unfold trR
    rw [List.map_map]
    refine List.map_congr_left fun y _ => ?_
    show (if rkey y = rkey r then _ else _) = _
    split <;> rfl
  · rw [if_neg h, putK_new _ (by rw [decide_eq_false h] at hv; exact Option.not_isSome_iff_eq_none.mp (by rw [hv]; decide))]
    unfold trR
    rw [List.map_append]
    rfl
def addRs (acc rs : List PRow) : List PRow := rs.foldl addR acc
theorem addRs_snoc (acc rs : List PRow) (r : PRow) : addRs acc (rs ++ [r]) = addR (addRs acc rs) r := by unfold addRs; rw [List.foldl_append]; rfl
theorem addRs_app (acc rs ss : List PRow) : addRs acc (rs ++ ss) = addRs (addRs acc rs) ss := by unfold addRs; rw [List.foldl_append]
theorem mem_addRs {y : PRow} : ∀ {rs acc : List PRow}, y ∈ addRs acc rs ↔ y ∈ acc ∨ y ∈ rs
  | [], acc => by simp [addRs]
  | r :: rs, acc => by
    have ih := mem_addRs (y := y) (rs := rs) (acc := addR acc r)
    unfold addRs at ih ⊢
    rw [List.foldl_cons, ih, mem_addR, List.mem_cons, or_assoc]
theorem nd_addR {l : List PRow} (h : l.Nodup) (r : PRow) : (addR l r).Nodup := by
  unfold addR
  by_cases c : r ∈ l
  · rw [if_pos c]; exact h
  · rw [if_neg c]
    exact List.nodup_append.mpr ⟨h, by simp, fun a ha b hb e => c (by rw [← List.mem_singleton.mp hb, ← e]; exact ha)⟩
theorem nd_addRs : ∀ {rs acc : List PRow}, acc.Nodup → (addRs acc rs).Nodup
  | [], _, h => h
  | r :: rs, acc, h => by
    have ih := nd_addRs (rs := rs) (nd_addR h r)
    unfold addRs at ih ⊢
    rw [List.foldl_cons]
    exact ih
theorem len_addRs : ∀ {rs acc : List PRow}, (addRs acc rs).length ≤ acc.length + rs.length
  | [], acc => by simp [addRs]
  | r :: rs, acc => by
    have ih := len_addRs (rs := rs) (acc := addR acc r)
    have h2 : (addR acc r).length ≤ acc.length + 1 := by
      unfold addR
      split
      · omega
      · simp
    unfold addRs at ih ⊢
    rw [List.foldl_cons, List.length_cons]
    omega
theorem nodup_leR : ∀ {l m : List PRow}, l.Nodup → (∀ x ∈ l, x ∈ m) → l.length ≤ m.length
  | [], _, _, _ => Nat.zero_le _
  | x :: l, m, h, s => by
    have hx := s x List.mem_cons_self
    have h' := List.nodup_cons.mp h
    have := nodup_leR (l := l) (m := m.erase x) h'.2 fun y hy => (List.mem_erase_of_ne (fun e => h'.1 (by rw [← e]; exact hy))).mpr (s y (List.mem_cons_of_mem _ hy))
    rw [List.length_erase_of_mem hx] at this
    have := List.length_pos_of_mem hx
    rw [List.length_cons]
    omega
theorem addRs_nd {l : List PRow} (h : l.Nodup) : addRs [] l = l := by
  have key : ∀ (m acc : List PRow), (acc ++ m).Nodup → addRs acc m = acc ++ m := by
    intro m
    induction m with
    | nil => intro acc _; simp [addRs]
    | cons r m ih =>
      intro acc hn
      have hr : r ∉ acc := fun e => (List.nodup_append.mp hn).2.2 r e r List.mem_cons_self rfl
      have e : addR acc r = acc ++ [r] := by unfold addR; rw [if_neg hr]
      show addRs (addR acc r) m = _
      rw [e, ih _ (by rw [List.append_assoc]; exact hn), List.append_assoc]
      rfl
  simpa using key l [] (by simpa using h)
theorem vwx {ps : List Addr} {H H' : Hp} (s : Same (hidT H) (hidT H')) : Same (hidT (hid ps H)) (hidT (hid ps H')) := fun b o h => by
  obtain ⟨h1, n⟩ := hidT_in h
  obtain ⟨h2, m⟩ := hid_in h1
  exact hidT_to (hid_to m (hidT_in (s _ _ (hidT_to h2 n))).1) n
theorem withB_len (r : PRow) : (withB r).length ≤ 3 := by
  unfold withB
  split
  · exact Nat.le_of_ble_eq_true rfl
  · split <;> exact Nat.le_of_ble_eq_true rfl
theorem keys_rows {H : Hp} : ∀ {rs : List PRow} {bs : List Addr}, LSo.KeysAt H (rs.map rkey) bs → RowsAt H rs bs
  | [], [], _ => .nil
  | [], _ :: _, h => nomatch h
  | _ :: _, [], h => nomatch h
  | r :: rs, b :: bs, h => by
    unfold LSo.KeysAt at h
    rw [List.map_cons] at h
    cases h with
    | cons h1 h2 =>
      refine .cons ?_ (keys_rows h2)
      show H b = some (.tup (sts r))
      rw [row_kV]
      exact h1
end GB
namespace K7
open PySem PySem.Spec L2 GB EqT LamX
abbrev sIO : Stmt := topS 16
abbrev sPI : Stmt := inClass (topS 14) 0
def ioN : List Str := ["ground", "rows"]
def piN : List Str := ["self", "ground", "rows", "had", "row", "brought"]
end K7
namespace GB
open PySem PySem.Spec L2 EqT LamX
/-- what Permits(ground, rows) collects, and what it keeps -/
def GD.had (g : GD) (rs : List PRow) : List PRow := addRs (addRs [] g.alw) (rs.flatMap withB)
def GD.pset (g : GD) (rs : List PRow) : List PRow := g.perms.filter fun r => decide (r ∈ g.had rs)
theorem withB_sub {ls mv : List Str} (sub : ∀ x ∈ mv, x ∈ ls) {r q : PRow} (h : PermR ls mv r) (hq : q ∈ withB r) : PermR ls mv q := by
  obtain ⟨n1, n2, n3, n4, n5, n6, n7, n8, n9, n10⟩ := w_ne
  unfold withB at hq
  have h0 := h
  cases h with
  | f hx => rw [if_neg (by exact n3), if_neg (by exact n4)] at hq; rw [List.mem_singleton.mp hq]; exact h0
  | s hx => rw [if_neg (by exact n6), if_neg (by exact n7)] at hq; rw [List.mem_singleton.mp hq]; exact h0
  | w hx => rw [if_neg (by exact n8), if_neg (by exact n9)] at hq; rw [List.mem_singleton.mp hq]; exact h0
  | h hx hy =>
    rw [if_pos (by rfl)] at hq
    rcases List.mem_cons.mp hq with rfl | hq
    · exact h0
    · rw [List.mem_singleton.mp hq]; exact .w hx
  | a hi hx hy =>
    rw [if_neg (by exact n10.symm), if_pos (by rfl)] at hq
    rcases List.mem_cons.mp hq with rfl | hq
    · exact h0
    · rcases List.mem_cons.mp hq with rfl | hq
      · exact .w (List.mem_of_getElem? hx)
      · rw [List.mem_singleton.mp hq]; exact .w (List.mem_of_getElem? hy)
theorem had_sub {g : GD} (fit : g.Fit) {rs : List PRow} (h : ∀ r ∈ rs, r ∈ g.perms) : ∀ r ∈ g.had rs, r ∈ g.perms := by
  intro r hr
  unfold GD.had at hr
  rw [mem_addRs, mem_addRs] at hr
  rcases hr with (hr | hr) | hr
  · cases hr
  · unfold GD.alw at hr
    obtain ⟨x, hx, rfl⟩ := List.mem_map.mp hr
    obtain ⟨f, hf, _, rfl⟩ := (mem_alwL g.facts).mp hx
    exact mem_perms.mpr (.f (fit.fs _ (fit.fa f hf).x))
  · obtain ⟨q, hq, hr⟩ := List.mem_flatMap.mp hr
    exact mem_perms.mpr (withB_sub (fun x hx => (List.mem_filter.mp hx).1) (mem_perms.mp (h q hq)) hr)
theorem had_nd (g : GD) (rs : List PRow) : (g.had rs).Nodup := nd_addRs (nd_addRs (by simp))
theorem flat_len (rs : List PRow) : (rs.flatMap withB).length ≤ 3 * rs.length := by
  induction rs with
  | nil => simp
  | cons r rs ih =>
    rw [List.flatMap_cons, List.length_append, List.length_cons]
    have := withB_len r
    omega
theorem had_len {g : GD} (fit : g.Fit) (rs : List PRow) : (g.had rs).length ≤ 6 + 3 * rs.length := by
  unfold GD.had
  have h1 := len_addRs (rs := rs.flatMap withB) (acc := addRs [] g.alw)
  have h2 := len_addRs (rs := g.alw) (acc := [])
  have h3 := flat_len rs
  have h4 : g.alw.length ≤ g.facts.length := by unfold GD.alw; rw [List.length_map]; exact alwL_len _
  have h5 := fit.fl
  simp only [List.length_nil] at h2
  omega
/-- permits of a ground with these rows -/
structure IsP (CP : Addr) (H : Hp) (x G : Addr) (rows : List PRow) : Prop where
  ex : ∃ dx fs d, H x = some (.ins CP dx fs) ∧ fs.lookup ("ground" : Str) = some (.ref G) ∧ (fs.lookup ("_rows" : Str) = some (.ref d) ∧ H d = some (.dT (trR rows))) ∧ (∀ m ∈ (["rows", "without", "within", "joined", "common"] : List Str), fs.lookup m = none) ∧ fs.length ≤ 10
theorem IsP.mono {CP : Addr} {H H' : Hp} {x G : Addr} {rows : List PRow} (s : Same H H') (h : IsP CP H x G rows) : IsP CP H' x G rows := let ⟨dx, fs, d, h1, h2, h3, h4⟩ := h.ex; ⟨dx, fs, d, s _ _ h1, h2, ⟨h3.1, s _ _ h3.2⟩, h4⟩
theorem isPT {CP : Addr} {H : Hp} {x G : Addr} {rows : List PRow} (h : IsP CP H x G rows) : IsP CP (hidT H) x G rows := let ⟨dx, fs, d, h1, h2, h3, h4⟩ := h.ex; ⟨dx, fs, d, hidT_to h1 (fun _ z => nomatch z), h2, ⟨h3.1, hidT_to h3.2 (fun _ z => nomatch z)⟩, h4⟩
theorem amg_sub {known : List PRow} {r r' : PRow} (h : amg known r' = some r) : r ∈ known := by
  unfold amg at h
  split at h
  · rename_i c
    rw [← Option.some.inj h]; exact c
  · cases h
theorem hrow_sub {H : Hp} {known rs : List PRow} {ts : List Addr} (h : Paired (K7.HRow H known) rs ts) : ∀ r ∈ rs, r ∈ known := by
  induction h with
  | nil => intro r hr; cases hr
  | cons h _ ih =>
    intro r hr
    rcases List.mem_cons.mp hr with rfl | hr
    · obtain ⟨r', _, _, e⟩ := h
      exact amg_sub e
    · exact ih r hr
end GB
namespace K7
open PySem PySem.Spec L2 GB EqT LamX
/-- the name of the lambda -/
def qqIO : Str := (PyProof.Rows.envOfC "in_order" (defScope sIO) 0 0 .none).qual ++ ("<lambda>" : Str)
def spIO (C PT : Addr) : Sp := fun vs H Q _ => ∃ (G d : Addr) (g : GD) (had : List PRow), vs = [.ref G, .ref d] ∧ IsGr3 C H G g ∧ g.Fit ∧ H d = some (.dT (trR had)) ∧ had.Nodup ∧ had.length ≤ 1000 ∧ (∀ r ∈ had, r ∈ g.perms) ∧ TabS H PT qqIO ∧
  ∀ l ts H', hidT H l = none → Same (hidT H) (hidT H') → TabS H' PT qqIO → H' l = some (.lst (ts.map V.ref)) → RowsAt H' (g.perms.filter fun r => decide (r ∈ had)) ts → Q (.ref l) H'
def spPI (K : PySem.W.Frag) (C CP PT : Addr) : Sp := fun vs H Q _ => ∃ (x dx G R : Addr) (g : GD) (rs : List PRow) (ts : List Addr), vs = [.ref x, .ref G, .ref R] ∧ H x = some (.ins CP dx []) ∧ IsGr3 C (hid [x] H) G g ∧ g.Fit ∧ SqA K (hid [x] H) R (ts.map V.ref) ∧ rs.length ≤ 200 ∧ Paired (HRow (hid [x] H) g.perms) rs ts ∧ TabS H PT qqIO ∧
  ∀ H', Same (hidT (hid [x] H)) (hidT (hid [x] H')) → TabS H' PT qqIO → IsP CP H' x G (g.pset rs) → Q .non H'
section
variable {P : Program} {w : World} {K : PySem.W.Frag} {mg : Str → Option Value} {base : Heap} {C CP PT c : Addr}
theorem scIO : FnScope ioN ["ground", "rows"] (defScope sIO) := ⟨rfl, rfl, rfl, by decide +kernel, rfl, by decide +kernel, by decide +kernel⟩
theorem ok_io {f : Addr} {oc : Value} {od an : Option Addr} {osl : Array (Option Value)} {kV doc pm ct : Value} (lk : K.lookup f = some ⟨oc, od, .func (PySem.W.fnOf "in_order" "in_order" (defArgs sIO) (defBody sIO) (defScope sIO) .none kV doc pm an (.ref c) ct), osl⟩)
    (hcd : PySem.W.codeIn K (.ref c) "in_order" = true) (T : Bl mg) (cl : Cls K C) (np : NoAttr K C "places") (TB : TabB base mg c PT) : FnOk P w K mg base CX0 6 f (PySem.W.fnOf "in_order" "in_order" (defArgs sIO) (defBody sIO) (defScope sIO) .none kV doc pm an (.ref c) ct) ["ground", "rows"] (spIO C PT) := by
  refine fn_of lk hcd scIO (fun vs H Q E h => ?_) (fun A outer s H vs Q E hr h => ?_)
  · obtain ⟨G, d, g, had, rfl, _⟩ := h
    rfl
  · obtain ⟨G, d, g, had, rfl, hG, fit, hd, nd, hl, sub, hT, q⟩ := h
    have hr4 : Room 4 (A.deeper (PyProof.Rows.envOfC "in_order" (defScope sIO) s.heap.objs.size f (.ref c))) := hr.mono (by decide)
    have key : ∃ t, PSs (cxOf CX0 P w K mg base ioN "in_order" (defScope sIO) f (.ref c) A outer s H E).nox (defBody sIO) t ∧ t { nx := fun _ H' => Q .non H', rt := Q } (L2.start ioN [.ref G, .ref d]) H := by
      refine ⟨_, pss_one (ps_ret (LSo.pe_srtL (i := 0) hr4 rfl (by rfl) T.sorted (pa_cons (pv 1) pa_nil) ⟨LSo.lamP_by (sc := defScope sIO) (by decide +kernel), fun _ _ _ _ _ _ => rfl, rfl, by decide, by decide, by decide, fun _ => rfl, fun _ _ => rfl⟩ rfl TB rfl rfl)), ?_⟩
      have eq : (cxOf CX0 P w K mg base ioN "in_order" (defScope sIO) f (.ref c) A outer s H E).nox.env.qual ++ ("<lambda>" : Str) = qqIO := congrArg (· ++ ("<lambda>" : Str)) (qual_of (ql := "in_order") (sc := defScope sIO) (n := s.heap.objs.size) (f := f) (cd := .ref c))
      rw [eq]
      obtain ⟨dx, fs, D, p0, p1, p2⟩ := hG.pl.ex
      refine ⟨_, rfl, d, trR had, G, _, placeK g.perms, rfl, hd, by unfold trR; rw [List.length_map]; exact hl, rfl, ⟨C, dx, fs, D, p0, cl, np, p1, p2⟩, fun e he => ?_, hT, fun H2 p ks bs eN T2 np2 pm srt kat => ?_⟩
      · obtain ⟨r, hr', rfl⟩ := List.mem_map.mp he
        obtain ⟨i, hi⟩ := List.getElem?_of_mem (sub r hr')
        obtain ⟨e1, e2⟩ := placeK_at fit.pnd hi
        show valV _ (rkey r) = some (.int (placeK g.perms (rkey r)))
        rw [e1, e2]
      · rw [trR_keys] at pm
        have := sorted_rows fit.pnd nd sub pm srt
        subst this
        obtain ⟨H3, s3, h3, e3⟩ := lay (o := .lst (bs.map V.ref)) np2
        rw [e3]
        exact q p bs H3 (gone_T (extN_same eN) np2) ((extN_same eN).trans (sameT s3)) (tabS s3 T2) h3 ((keys_rows kat).mono s3)
    obtain ⟨t, ht, hq⟩ := key
    exact ⟨t, ht.nox, hq⟩
theorem scPI : FnScope piN ["self", "ground", "rows"] (defScope sPI) := ⟨rfl, rfl, rfl, by decide +kernel, rfl, by decide +kernel, by decide +kernel⟩
theorem ok_pi {f : Addr} {fd : FuncData} {dvs : List V} {kws : List (Str × V)} (F : FunD K "__init__" "Permits.__init__" (defArgs sPI) (defBody sPI) (defScope sPI) dvs kws f fd) (T : Bl mg) (clP : Cls K CP) (n1 : NoAttr K CP "ground") (n2 : NoAttr K CP "_rows")
    (AL : Fns P w K mg base "rows_always" 2 ["ground"] (spAL C)) (CR : Fns P w K mg base "_checked_rows" 3 ["ground", "rows"] (spCR K C)) (WB : Fns P w K mg base "with_brought" 1 ["row"] spWB) (IO : Fns P w K mg base "in_order" 6 ["ground", "rows"] (spIO C PT)) : FnOk P w K mg base CX0 7 f fd ["self", "ground", "rows"] (spPI K C CP PT) := by
  refine FX.FunD.ok0 F scPI (fun vs H Q E h => ?_) (fun cdv A outer s H vs Q E hr h => ?_)
  · obtain ⟨x, dx, G, R, g, rs, ts, rfl, _⟩ := h
    rfl
  · obtain ⟨x, dx, G, R, g, rs, ts, rfl, hx, hG, fit, hR, hl, hp, hT, q⟩ := h
    refine ⟨_, pss_cons (DictT.ps_setDcT (i := 3) (own := [("row", 4)]) (g := gName 4) (tt := tYes) (tk := tVar 4) (tv := tC (.bl true)) .t (hu_of hr) rfl scPI.nd rfl rfl (DictT.swD_true rfl rfl rfl (by decide +kernel)) (pi_seqW (pe_fn AL hr (by decide) rfl (pa_cons (pv 1) (pa_nil)))) (blkOk_by (own := [("row", 4)]) (N := piN) (sc := defScope sPI) (by decide +kernel)) (fun _ _ _ _ _ => pg_name (i := 4) scPI.nd rfl (.inl rfl)) (fun _ _ _ _ _ => pts_nil) (fun _ _ _ _ _ => pv 4) (fun _ _ _ _ _ => pe_bl)) (pss_cons (ps_for PassesOwn.never rfl (pi_seqW (pe_fn CR hr (by decide) rfl (pa_cons (pv 1) (pa_cons (pv 2) (pa_nil))))) (pg_name (i := 4) scPI.nd rfl (.inl rfl)) (pss_one (ps_for PassesOwn.never rfl (pi_seqW (pe_fn WB hr (by decide) rfl (pa_cons (pv 4) (pa_nil)))) (pg_name (i := 5) scPI.nd rfl (.inl rfl)) (pss_one (ps_dput (hu_of hr) (pv 3) (pv 5) pe_bl rfl))))) (pss_cons (ps_fld (pv 0) (pv 1) rfl) (pss_one (ps_fld (pv 0) (DictT.pe_dcT (own := [("row", 4)]) (g := gName 4) (tt := tYes) (tk := tVar 4) (tv := tC (.bl true)) .t (hu_of hr) rfl scPI.nd (pi_seqW (pe_fn IO hr (by decide) rfl (pa_cons (pv 1) (pa_cons (pv 3) (pa_nil))))) (blkOk_by (own := [("row", 4)]) (N := piN) (sc := defScope sPI) (by decide +kernel)) (fun _ _ _ _ _ => pg_name (i := 4) scPI.nd rfl (.inl rfl)) (fun _ _ _ _ _ => pts_nil) (fun _ _ _ _ _ => pv 4) (fun _ _ _ _ _ => pe_bl)) rfl)))), ?_⟩
    have hid0 := hid_low [x] H
    refine ⟨_, rfl, G, g, rfl, hG.gr.mono hid0, fit, fun l0 ts0 H1 nl0 s1 hl0 r0 => ?_⟩
    refine ⟨l0, ts0.map V.ref, true, [], rfl, SqL.of (hid_to (by simp) hl0), fun W WJ D nD => ?_⟩
    have lal : g.alw.length ≤ 6 := by unfold GD.alw; rw [List.length_map]; exact Nat.le_trans (alwL_len _) fit.fl
    have l0t := Paired.length r0
    refine DictT.dc_it WJ (fun i H' => Same H1 H' ∧ H' D = some (.dT (trR (addRs [] (g.alw.take i))))) ⟨same_new nD, upd_same⟩ (fun i H' _ s' => SqL.of (hid_to (by simp) (s'.1 _ _ hl0))) ?_ ?_
    · rintro i y H2 H2' hi ⟨s2, hD⟩ ⟨rfl, hy⟩
      have hy : (ts0.map V.ref)[i]? = some y := hy
      rw [List.getElem?_map] at hy
      obtain ⟨t, htt, rfl⟩ := Option.map_eq_some_iff.mp hy
      have hir : i < g.alw.length := by rw [l0t]; exact (List.getElem?_eq_some_iff.mp htt).1
      have hri : g.alw[i]? = some g.alw[i] := List.getElem?_eq_getElem hir
      generalize g.alw[i] = r at hri
      obtain ⟨t', ht', hrt⟩ := paired_at' r0 hri
      obtain rfl : t' = t := by rw [htt] at ht'; exact (Option.some.inj ht').symm
      refine ⟨rfl, ?_⟩
      refine ⟨_, rfl, _, DPut.t (k := rkey r) hD (by rw [← row_kV]; exact s2 _ _ hrt) ?_, fun b o e => ?_, ?_⟩
      · unfold trR
        rw [List.length_map, sizeLine_eq]
        have h1 := len_addRs (rs := g.alw.take i) (acc := [])
        rw [List.length_take] at h1
        simp only [List.length_nil] at h1
        omega
      · rw [upd_ne (ne_of_none e nD)]; exact s2 _ _ e
      · rw [upd_same, put_addR, take_at hri, addRs_snoc]
    rintro H2 ⟨s2, hD⟩
    rw [List.take_of_length_le (by rw [List.length_map, l0t]; exact Nat.le_refl _)] at hD
    have S2 := s1.trans s2
    have sv : Same (hid [x] H) H2 := hid0.trans S2
    have hpH : Paired (HRow H2 g.perms) rs ts := Paired.mapP hp fun _ _ z => z.mono sv
    refine ⟨_, rfl, _, rfl, G, R, g, rs, ts, rfl, hG.mono sv, fit, hR.mono sv, hl, hpH, fun L us H3 nL s3 hL hus => ?_⟩
    have hD3 := s3 _ _ hD
    have DL : L ≠ D := ne_of hL hD3 (fun z => nomatch z)
    have lus := Paired.length hus
    have hus3 : RowsAt (hid [D] H3) rs us := Paired.mapP hus fun row t rt => hid_to (ni1 (ne_of (show H3 t = some (.tup (sts row)) from rt) hD3 (fun z => nomatch z))) rt
    refine ⟨L, us.map V.ref, true, [D], rfl, SqL.of (hid_to (ni1 DL) hL), fun W2 WJ2 => ?_⟩
    generalize hA0 : addRs [] g.alw = A0 at hD hD3
    have lA0 : A0.length ≤ 6 := by
      rw [← hA0]
      have h1 := len_addRs (rs := g.alw) (acc := [])
      simp only [List.length_nil] at h1
      omega
    have rsub := hrow_sub hp
    refine for_it WJ2 (fun i σ H' => ∃ (o4 o5 : Option V), σ = [some (.ref x), some (.ref G), some (.ref R), some (.ref D), o4, o5] ∧ Same (hid [D] H3) (hid [D] H') ∧ H' D = some (.dT (trR (addRs A0 ((rs.take i).flatMap withB)))))
      ⟨none, none, rfl, Same.refl _, hD3⟩ (fun i σ H' _ ⟨_, _, _, S, _⟩ => SqL.of (S _ _ (hid_to (ni1 DL) hL))) ?_ ?_
    · rintro i y σ H4' H4 hi ⟨o4, o5, rfl, S4, hD4⟩ ⟨rfl, hy⟩
      have hy : (us.map V.ref)[i]? = some y := hy
      rw [List.getElem?_map] at hy
      obtain ⟨t, htt, rfl⟩ := Option.map_eq_some_iff.mp hy
      have hir : i < rs.length := by rw [lus]; exact (List.getElem?_eq_some_iff.mp htt).1
      have hri : rs[i]? = some rs[i] := List.getElem?_eq_getElem hir
      have rmem := rsub _ (List.mem_of_getElem? hri)
      generalize rs[i] = r at hri rmem
      obtain ⟨t', ht', hrt⟩ := paired_at' hus3 hri
      obtain rfl : t' = t := by rw [htt] at ht'; exact (Option.some.inj ht').symm
      have hrt4 : RowAt H4 r t' := (hid_low _ _) _ _ (S4 _ _ hrt)
      refine ⟨_, rfl, t', r, _, _, rfl, hrt4, mem_perms.mp rmem, fun M ws H5 nM s5 hM hws => ?_⟩
      have hD5 := s5 _ _ hD4
      have DM : M ≠ D := ne_of hM hD5 (fun z => nomatch z)
      have lws := Paired.length hws
      have hws5 : RowsAt (hid [D] H5) (withB r) ws := Paired.mapP hws fun row t rt => hid_to (ni1 (ne_of (show H5 t = some (.tup (sts row)) from rt) hD5 (fun z => nomatch z))) rt
      have S35 : Same (hid [D] H3) (hid [D] H5) := S4.trans (hid_same s5)
      have lB : (addRs A0 ((rs.take i).flatMap withB)).length ≤ 606 := by
        have h1 := len_addRs (rs := (rs.take i).flatMap withB) (acc := A0)
        have h2 := flat_len (rs.take i)
        rw [List.length_take] at h2
        omega
      have hfl : addRs A0 ((rs.take (i + 1)).flatMap withB) = addRs (addRs A0 ((rs.take i).flatMap withB)) (withB r) := by
        rw [take_at hri, List.flatMap_append, List.flatMap_cons, List.flatMap_nil, List.append_nil, addRs_app]
      rw [hfl]
      generalize addRs A0 ((rs.take i).flatMap withB) = B0 at hD5 lB
      refine ⟨M, ws.map V.ref, true, [D], rfl, SqL.of (hid_to (ni1 DM) hM), fun W3 WJ3 => ?_⟩
      refine for_it WJ3 (fun j σ H' => ∃ (o5 : Option V), σ = [some (.ref x), some (.ref G), some (.ref R), some (.ref D), some (.ref t'), o5] ∧ Same (hid [D] H5) (hid [D] H') ∧ H' D = some (.dT (trR (addRs B0 ((withB r).take j)))))
        ⟨_, rfl, Same.refl _, hD5⟩ (fun j σ H' _ ⟨_, _, S, _⟩ => SqL.of (S _ _ (hid_to (ni1 DM) hM))) ?_ ?_
      · rintro j y σ H6' H6 hj ⟨o5, rfl, S6, hD6⟩ ⟨rfl, hy⟩
        have hy : (ws.map V.ref)[j]? = some y := hy
        rw [List.getElem?_map] at hy
        obtain ⟨v, hvv, rfl⟩ := Option.map_eq_some_iff.mp hy
        have hjr : j < (withB r).length := by rw [lws]; exact (List.getElem?_eq_some_iff.mp hvv).1
        have hrj : (withB r)[j]? = some (withB r)[j] := List.getElem?_eq_getElem hjr
        generalize (withB r)[j] = rq at hrj
        obtain ⟨v', hv', hqt⟩ := paired_at' hws5 hrj
        obtain rfl : v' = v := by rw [hvv] at hv'; exact (Option.some.inj hv').symm
        have hqt6 : H6 v' = some (.tup (sts rq)) := (hid_low _ _) _ _ (S6 _ _ hqt)
        have wl := withB_len r
        refine ⟨_, rfl, _, rfl, D, _, rfl, DPut.t (k := rkey rq) hD6 (by rw [← row_kV]; exact hqt6) ?_, _, rfl, S6.trans (bt_upd (by simp)), ?_⟩
        · unfold trR
          rw [List.length_map, sizeLine_eq]
          have h1 := len_addRs (rs := (withB r).take j) (acc := B0)
          rw [List.length_take] at h1
          omega
        · rw [upd_same, put_addR, take_at hrj, addRs_snoc]
      · rintro σ H6 ⟨o5, rfl, S6, hD6⟩
        rw [List.take_of_length_le (by rw [List.length_map, lws]; exact Nat.le_refl _)] at hD6
        exact ⟨_, _, rfl, S35.trans S6, hD6⟩
    rintro σ H4 ⟨o4, o5, rfl, S4, hD4⟩
    rw [List.take_of_length_le (by rw [List.length_map, lus]; exact Nat.le_refl _)] at hD4
    have SD : Same H (hid [D] H3) := fun b o e => hid_to (ni1 (fun z => by
      rw [z] at e
      have := s1 _ _ e
      rw [nD] at this
      cases this)) (s3 _ _ (S2 _ _ e))
    have SH4 : Same H H4 := (SD.trans S4).trans (hid_low _ _)
    have hx4 := SH4 _ _ hx
    have T4 : TabS H4 PT qqIO := tabB (ps := [D]) (fun z hz => by
      rw [List.mem_singleton.mp hz]
      exact ⟨_, hD3, (fun _ z => nomatch z), (fun _ z => by unfold CodeO at z; cases z)⟩) S4 (tabS (S2.trans s3) hT)
    refine ⟨_, rfl, _, rfl, x, CP, dx, _, rfl, hx4, clP, n1, by show 0 < 1000; decide, ?_⟩
    have B5 : Bt [x] H4 (upd H4 x (.ins CP dx (putF "ground" (.ref G) []))) := bt_upd (by simp)
    have T5 : TabS (upd H4 x (.ins CP dx (putF "ground" (.ref G) []))) PT qqIO := tabB (ps := [x]) (fun z hz => by
      rw [List.mem_singleton.mp hz]
      exact ⟨_, hx4, (fun _ z => nomatch z), (fun _ z => by unfold CodeO at z; cases z)⟩) B5 T4
    have xD : D ≠ x := fun e => by
      have := s1 _ _ hx
      rw [← e, nD] at this
      cases this
    have hD5 := bt_at B5 (ni1 xD) hD4
    have h5x : (upd H4 x (.ins CP dx (putF "ground" (.ref G) []))) x = some (.ins CP dx (putF "ground" (.ref G) [])) := upd_same
    generalize upd H4 x (.ins CP dx (putF "ground" (.ref G) [])) = H5 at B5 T5 hD5 h5x
    have S05 : Same (hid [x] H) (hid [x] H5) := (hid_same SH4).trans B5
    have hhad : addRs A0 (rs.flatMap withB) = g.had rs := by unfold GD.had; rw [hA0]
    rw [hhad] at hD5
    refine ⟨_, rfl, _, rfl, G, D, g, g.had rs, rfl, (hG.mono S05).mono (hid_low _ _), fit, hD5, had_nd g rs, by have := had_len fit rs; omega, had_sub fit rsub, T5, fun l7 ts7 H6 g7 S56 T6 hl7 r7 => ?_⟩
    refine ⟨l7, ts7.map V.ref, true, [], rfl, SqL.of (hid_to (by simp) hl7), fun W4 WJ4 D2 nD2 => ?_⟩
    have r7 : RowsAt H6 (g.pset rs) ts7 := r7
    have lp7 := Paired.length r7
    have ndp : (g.pset rs).Nodup := fit.pnd.filter _
    have lpl : (g.pset rs).length ≤ 700 := by
      have h1 : (g.pset rs).length ≤ (g.had rs).length := nodup_leR ndp fun r hr => by simpa using (List.mem_filter.mp hr).2
      have := had_len fit rs
      omega
    refine DictT.dc_it WJ4 (fun i H' => Same H6 H' ∧ H' D2 = some (.dT (trR (addRs [] ((g.pset rs).take i))))) ⟨same_new nD2, upd_same⟩ (fun i H' _ s' => SqL.of (hid_to (by simp) (s'.1 _ _ hl7))) ?_ ?_
    · rintro i y H7' H7 hi ⟨s7, hD7⟩ ⟨rfl, hy⟩
      have hy : (ts7.map V.ref)[i]? = some y := hy
      rw [List.getElem?_map] at hy
      obtain ⟨t, htt, rfl⟩ := Option.map_eq_some_iff.mp hy
      have hir : i < (g.pset rs).length := by rw [lp7]; exact (List.getElem?_eq_some_iff.mp htt).1
      have hri : (g.pset rs)[i]? = some (g.pset rs)[i] := List.getElem?_eq_getElem hir
      generalize (g.pset rs)[i] = r at hri
      obtain ⟨t', ht', hrt⟩ := paired_at' r7 hri
      obtain rfl : t' = t := by rw [htt] at ht'; exact (Option.some.inj ht').symm
      refine ⟨rfl, ?_⟩
      refine ⟨_, rfl, _, DPut.t (k := rkey r) hD7 (by rw [← row_kV]; exact s7 _ _ hrt) ?_, fun b o e => ?_, ?_⟩
      · unfold trR
        rw [List.length_map, sizeLine_eq]
        have h1 := len_addRs (rs := (g.pset rs).take i) (acc := [])
        rw [List.length_take] at h1
        simp only [List.length_nil] at h1
        omega
      · rw [upd_ne (ne_of_none e nD2)]; exact s7 _ _ e
      · rw [upd_same, put_addR, take_at hri, addRs_snoc]
    rintro H7 ⟨s7, hD7⟩
    rw [List.take_of_length_le (by rw [List.length_map, lp7]; exact Nat.le_refl _), addRs_nd ndp] at hD7
    have h6x : H6 x = some (.ins CP dx (putF "ground" (.ref G) [])) := (hidT_in (S56 _ _ (hidT_to h5x (fun _ z => nomatch z)))).1
    have h7x := s7 _ _ h6x
    have D2x : D2 ≠ x := fun e => by rw [e, h6x] at nD2; cases nD2
    refine ⟨_, rfl, x, CP, dx, _, rfl, h7x, clP, n2, by show 1 < 1000; decide, ?_⟩
    have B8 : Bt [x] H7 (upd H7 x (.ins CP dx (putF "_rows" (.ref D2) (putF "ground" (.ref G) [])))) := bt_upd (by simp)
    refine q _ ((((sameT S05).trans (vwx S56)).trans (sameT (hid_same s7))).trans (sameT B8)) (tabB (ps := [x]) (fun z hz => by
      rw [List.mem_singleton.mp hz]
      exact ⟨_, h7x, (fun _ z => nomatch z), (fun _ z => by unfold CodeO at z; cases z)⟩) B8 (tabS s7 T6)) ⟨dx, _, D2, upd_same, ?_, ⟨?_, by rw [upd_ne D2x]; exact hD7⟩, ?_, by show 2 ≤ 10; decide⟩
    · rw [lookup_putF, if_neg (by decide +kernel), lookup_putF, if_pos rfl]
    · rw [lookup_putF, if_pos rfl]
    · intro m hm
      have : m = "rows" ∨ m = "without" ∨ m = "within" ∨ m = "joined" ∨ m = "common" := by simpa using hm
      rcases this with rfl | rfl | rfl | rfl | rfl
      all_goals (repeat (rw [lookup_putF]; rw [if_neg (by decide +kernel)])); rfl
end
end K7
set_option Elab.async false
set_option linter.all false
set_option maxRecDepth 100000
set_option maxHeartbeats 4000000
/-! for x in o, [.. for x in o]: o of a class with its own def __iter__ that gives a new iterator over a dict whose keys are tuples. -/
namespace GB
open PySem PySem.Spec L2 PyProof.Rows ItX
/-- a new iterator over the n keys of the dict at d -/
def KtO (d it : Addr) (n ep : Nat) : HO := .ext fun h => h.IsKeyIter it d 0 n ep
theorem ktO_get {X : Cx} {pins : List (Addr × Obj)} {σ : L2.St} {H : Hp} {s : Shared} {d it : Addr} {n ep : Nat} (I : Inv X pins σ H s) (e : H it = some (KtO d it n ep)) : s.heap.IsKeyIter it d 0 n ep :=
  (show ObjOk X.prog X.w H s.heap it (KtO d it n ep) from I.hok it _ e).1
def rIterT (n0 : Nat) : List V → Hp → VK → Prop := fun xs H Q => ∃ (d : Addr) (o : Obj) (kvs : List (List Key × V)), xs = [.ref d] ∧ H d = some (.frz o (.dT kvs)) ∧ ∀ it es ep, o.data = .dict es ep → H it = none → n0 ≤ it → Q (.ref it) (upd H it (KtO d it kvs.length ep))
section
variable {X : Cx}
theorem call_iterT : CallR X (.builtin "iter") (rIterT X.s_0.heap.objs.size) := by
  intro pins s σ H xs us Q I r h
  obtain ⟨d, o, kvs, rfl, hd, q⟩ := h
  obtain ⟨u, rfl, ru⟩ := vals1 r
  obtain rfl : u = Value.ref d := ru
  obtain ⟨hs, hgd, hx, es, ep, hdt, hsz, _⟩ := I.frzT hd
  refine Calls.call_function_entry (by decide +kernel) (by decide +kernel) PySem.W.kdk_entry_iter (PySem.W.kdk_args_iter _) ?_
  unfold Builtin.«iter»
  refine wpAny_bind (m := someArgs "iter" 1 2 _) (wpAny_of_eq (a := [Value.ref d]) (by first | rfl | kernel_rfl!) ?_)
  show wpAny _ _ (pyIter (.ref d) >>= _) _ _ _
  refine wpAny_bind (iter_keys hs hgd hx hdt (wpAny_pure ⟨_, rfl, ?_⟩))
  have st : (s.heap.push { cls := .type "dict_keyiterator", data := .fields #[.ref d, .int 0 0, .int es.size 0, .int ep 0] }).IsKeyIter s.heap.objs.size d 0 kvs.length ep := by
    rw [← hsz]
    exact ⟨_, Heap.get?_push_size _ rfl, rfl, rfl⟩
  refine ⟨.ref s.heap.objs.size, _, I.laid (t' := s.toks) (o := KtO d s.heap.objs.size kvs.length ep) (fun b u e => Heap.get?_push_of_some _ e) (Nat.le_refl _) ⟨st, ⟨_, Heap.get?_push_size _ rfl⟩, fun h1 h2 z k => Heap.IsKeyIter.at z fun oi e => k oi e⟩, rfl, q _ _ _ hdt (I.hok.fresh (Nat.le_refl _)) I.sz⟩
end
/-- a walk over o: its __iter__ is asked -/
def iItOwnT (C : Addr) (sp : Nat → Sp) (n0 : Nat) (tl : TE) : TI := fun σ H R => tl σ H fun x H1 => ∃ a dx fs, x = .ref a ∧ H1 a = some (.ins C dx fs) ∧ ∀ n, n0 ≤ n → sp n [.ref a] H1 (fun z H' => ∃ (d : Addr) (o : Obj) (kvs : List (List Key × V)) (es : Array DictEntry) (ep : Nat) (it : Addr), z = .ref it ∧ n0 ≤ it ∧ o.data = .dict es ep ∧ H' it = some (KtO d it kvs.length ep) ∧ R (Itkt d o kvs) (dropH H' it)) E0
section
variable {X : Cx} {k : Nat} {f C : Addr} {fd : FuncData} {ps : List Str} {sp : Nat → Sp} {tg l : Expr} {tl : TE}
theorem pi_itOwnT (hs : PySem.W.findIn X.K (.ref C) "__iter__" = some (some (.ref f))) (hf : PySem.W.isFn X.K (.ref f) = true) (F : FnN X.prog X.w X.K X.mg X.base k f fd ps sp) (hr : Room k X.A) (hb : Binds X.K fd ps []) (hl : PE X l tl) : PI X tg l (iItOwnT C sp X.s_0.heap.objs.size tl) := by
  refine ⟨fun pins s σ H R I h => ?_⟩
  refine thn (hl.run pins s σ H _ I h) fun v s1 ⟨x, H1, I1, r1, a, dx, fs, ex, ha, q⟩ => ?_
  subst ex
  obtain rfl : v = Value.ref a := r1
  obtain ⟨mA, O, _, _, _, _⟩ := ins_get I1.hok ha
  obtain ⟨od, J, _⟩ := O.look
  obtain ⟨m, hF⟩ := I1.fr
  have q1 := q _ I1.sz
  have rel : Vals [.ref a] [.ref a] := .cons rfl .nil
  have hlen : ([Value.ref a] ++ ([] : List Value)).length = ps.length := by
    rw [List.append_nil, ← rel.length]; exact F.len _ _ _ _ _ q1
  refine PySem.W.owit_iter hF I1.ok.mod.kin J hs hf (wpAny_call (codeAny_mono (F.run X.A X.stack s1 H1 ⟨[.ref a], []⟩ ([.ref a] ++ []) ([.ref a] ++ []) _ E0 hr I1.env0 (hb s1 [.ref a] I1.kIn hlen) (rel.append .nil) q1) fun r s2 hq => ?_))
  cases r with
  | error e => exact (pass0 pins σ H1 s1 e s2 I1 hq)
  | ok fl =>
    cases fl with
    | ret w =>
      obtain ⟨z, H2, I2, rz, d, o, kvs, es, ep, it, ez, hn, hod, hi, qz⟩ := I1.after hq
      subst ez
      obtain rfl : w = Value.ref it := rz
      have st := ktO_get I2 hi
      unfold KtO at hi
      show PySem.W.OwitIt _ _ _ _ _ _
      unfold PySem.W.OwitIt
      refine wpAny_specialOf (name := Str.ofString "__next__") st.typeIs PySem.F.slot_dict_keyiterator_next.lookup ?_
      refine ⟨it, [it], _, _, dropH H2 it, rfl, inv_drop I2 hi, turn_keysT it hod, st, fun b hb => ?_, qz⟩
      have e : b = it := by simpa using hb
      rw [e]
      exact inv_fp I2 hi hn
    | next => exact False.elim hq
    | brk => exact False.elim hq
    | cont => exact False.elim hq
end
end GB
set_option Elab.async false
set_option linter.all false
set_option autoImplicit false
set_option maxRecDepth 100000
set_option maxHeartbeats 8000000
namespace GB
open PySem PySem.Spec L2 EqT LamX
/-- the class of permits, as its methods ask -/
structure PrK (K : PySem.W.Frag) (CP : Addr) : Prop where
  cl : Cls K CP
  n1 : NoAttr K CP "ground"
  n2 : NoAttr K CP "_rows"
  ty : ∀ (H : Hp) (a dx : Addr) (fs : List (Str × V)), H a = some (.ins CP dx fs) → TyX K H (.ref a) (.ref CP)
def eqRows (rs ls : List PRow) : Bool := rs.length == ls.length && rs.all fun r => decide (r ∈ ls)
theorem is_rows {H : Hp} {rows : List PRow} {bs : List Addr} (h : IsKeys H (trR rows) bs) : RowsAt H rows bs := by
  have key : ∀ (rows : List PRow) (bs : List Addr), IsKeys H (trR rows) bs → RowsAt H rows bs := by
    intro rows
    induction rows with
    | nil =>
      intro bs h
      cases bs with
      | nil => exact .nil
      | cons _ _ => exact nomatch h
    | cons r rows ih =>
      intro bs h
      cases bs with
      | nil => exact nomatch h
      | cons b bs =>
        unfold IsKeys trR at h
        rw [List.map_cons] at h
        cases h with
        | cons h1 h2 =>
          refine .cons ?_ (ih bs h2)
          show H b = some (.tup (sts r))
          rw [row_kV]
          exact h1
  exact key rows bs h
end GB
namespace K7
open PySem PySem.Spec L2 GB EqT LamX ItX
abbrev sRw : Stmt := inClass (topS 14) 1
abbrev sLn : Stmt := inClass (topS 14) 7
abbrev sHs : Stmt := inClass (topS 14) 8
abbrev sIr : Stmt := inClass (topS 14) 9
abbrev sEp : Stmt := inClass (topS 14) 10
def spRowsP (CP : Addr) : Sp := fun vs H Q _ => ∃ (x G : Addr) (rows : List PRow), vs = [.ref x] ∧ IsP CP H x G rows ∧ ∀ l ts H', H l = none → Same H H' → H' l = some (.lst (ts.map V.ref)) → RowsAt H' rows ts → Q (.ref l) H'
def spLenP (CP : Addr) : Sp := fun vs H Q _ => ∃ (x G : Addr) (rows : List PRow), vs = [.ref x] ∧ IsP CP H x G rows ∧ Q (.int ((rows.length : Nat) : Int)) H
def spHasP (K : PySem.W.Frag) (CP : Addr) : Sp := fun vs H Q _ => ∃ (x G : Addr) (y : V) (rows : List PRow), vs = [.ref x, y] ∧ IsP CP H x G rows ∧
  ((∃ a r, y = .ref a ∧ PlA H a (sts r) ∧ r.length ≤ 100 ∧ ∀ H', Same H H' → Q (.bl (amg rows r).isSome) H') ∨
   (∃ t, (∀ H', Same H H' → TyX K H' y t) ∧ PySem.W.kitAny K t [.type "list", .type "tuple"] = some false ∧ ∀ H', Same H H' → Q (.bl false) H') ∨
   (∃ a xs bs, y = .ref a ∧ PlA H a xs ∧ xs.length ≤ 100 ∧ Paired (StrB K H) xs bs ∧ bs.all id = false ∧ ∀ H', Same H H' → Q (.bl false) H'))
def spItP (CP : Addr) : Nat → Sp := fun n vs H Q _ => ∃ (x dx d : Addr) (fs : List (Str × V)) (o : Obj) (kvs : List (List Key × V)), vs = [.ref x] ∧ H x = some (.ins CP dx fs) ∧ fs.lookup ("_rows" : Str) = some (.ref d) ∧ H d = some (.frz o (.dT kvs)) ∧
  ∀ it es ep, o.data = .dict es ep → H it = none → n ≤ it → Q (.ref it) (upd H it (KtO d it kvs.length ep))
def spEqP (K : PySem.W.Frag) (C CP : Addr) : Sp := fun vs H Q _ => ∃ (x G : Addr) (y : V) (g : GD) (rows : List PRow), vs = [.ref x, y] ∧ IsP CP H x G rows ∧ IsGr3 C H G g ∧ g.Fit ∧
  ((∃ x2 G2 g2 rows2, y = .ref x2 ∧ IsP CP H x2 G2 rows2 ∧ IsGr3 C H G2 g2 ∧ g2.Fit ∧ (g.letters.map (·.1) = g2.letters.map (·.1) → g.letters = g2.letters) ∧ Q (.bl (eqG g g2 && eqRows rows rows2)) H) ∨ (∃ t, TyX K H y t ∧ PySem.W.kitOne K t (.ref CP) = some false ∧ Q (.bl false) H))
section
variable {P : Program} {w : World} {K : PySem.W.Frag} {mg : Str → Option Value} {base : Heap} {C CP : Addr}
def irN : List Str := ["self"]
theorem scRw : FnScope ["self"] ["self"] (defScope sRw) := ⟨rfl, rfl, rfl, by decide +kernel, rfl, by decide +kernel, by decide +kernel⟩
theorem scLn : FnScope ["self"] ["self"] (defScope sLn) := ⟨rfl, rfl, rfl, by decide +kernel, rfl, by decide +kernel, by decide +kernel⟩
theorem scHs : FnScope ["self", "row"] ["self", "row"] (defScope sHs) := ⟨rfl, rfl, rfl, by decide +kernel, rfl, by decide +kernel, by decide +kernel⟩
theorem scIr : FnScope ["self"] ["self"] (defScope sIr) := ⟨rfl, rfl, rfl, by decide +kernel, rfl, by decide +kernel, by decide +kernel⟩
theorem scEp : FnScope ["self", "other"] ["self", "other"] (defScope sEp) := ⟨rfl, rfl, rfl, by decide +kernel, rfl, by decide +kernel, by decide +kernel⟩
theorem ok_rw {f : Addr} {fd : FuncData} (F : Fun K "rows" "Permits.rows" sRw f fd) (T : Bl mg) (c : PrK K CP) : FnOk P w K mg base CX0 1 f fd ["self"] (spRowsP CP) := by
  refine F.ok scRw (fun vs H Q E h => ?_) (fun cdv A outer s H vs Q E hr h => ?_)
  · obtain ⟨x, G, rows, rfl, _⟩ := h
    rfl
  · obtain ⟨x, G, rows, rfl, hP, q⟩ := h
    obtain ⟨dx, fs, d, h1, h2, h3, h4⟩ := hP.ex
    refine ⟨_, pss_one (ps_ret (pe_callTy (call_list_dT rfl) (by rfl) T.list (by decide +kernel) (pa_cons (pe_fld (pv 0) rfl) pa_nil))), ?_⟩
    refine ⟨_, rfl, x, CP, dx, fs, _, rfl, h1, c.cl, c.n2, h3.1, d, _, rfl, .inl h3.2, fun l bs nl hk => ?_⟩
    obtain ⟨H1, s1, g1, e1⟩ := lay (o := .lst (bs.map V.ref)) nl
    rw [e1]
    exact q l bs H1 nl s1 g1 ((is_rows hk).mono s1)
theorem ok_ln {f : Addr} {fd : FuncData} (F : Fun K "__len__" "Permits.__len__" sLn f fd) (T : Bl mg) (c : PrK K CP) : FnOk P w K mg base CX0 1 f fd ["self"] (spLenP CP) := by
  refine F.ok scLn (fun vs H Q E h => ?_) (fun cdv A outer s H vs Q E hr h => ?_)
  · obtain ⟨x, G, rows, rfl, _⟩ := h
    rfl
  · obtain ⟨x, G, rows, rfl, hP, q⟩ := h
    obtain ⟨dx, fs, d, h1, h2, h3, h4⟩ := hP.ex
    refine ⟨_, pss_one (ps_ret (pe_callB call_len_dT (by rfl) T.len PySem.boot_len (pa_cons (pe_fld (pv 0) rfl) pa_nil))), ?_⟩
    refine ⟨_, rfl, x, CP, dx, fs, _, rfl, h1, c.cl, c.n2, h3.1, d, _, rfl, h3.2, ?_⟩
    unfold trR
    rw [List.length_map]
    exact q
theorem ok_hs {f : Addr} {fd : FuncData} (F : Fun K "__contains__" "Permits.__contains__" sHs f fd) (T : Bl mg) (c : PrK K CP) (RAM : Fns P w K mg base "_row_among" 2 ["known", "thing"] (spRA K)) : FnOk P w K mg base CX0 3 f fd ["self", "row"] (spHasP K CP) := by
  refine F.ok scHs (fun vs H Q E h => ?_) (fun cdv A outer s H vs Q E hr h => ?_)
  · obtain ⟨x, G, y, rows, rfl, _⟩ := h
    rfl
  · obtain ⟨x, G, y, rows, rfl, hP, h⟩ := h
    obtain ⟨dx, fs, d, h1, h2, h3, h4⟩ := hP.ex
    refine ⟨_, pss_one (ps_ret (pe_cmpR op_notN (pe_fn RAM hr (by decide) rfl (pa_cons (pe_fld (pv 0) rfl) (pa_cons (pv 1) pa_nil))) pe_non (nomark _))), ?_⟩
    refine ⟨_, rfl, x, CP, dx, fs, _, rfl, h1, c.cl, c.n2, h3.1, _, rfl, d, _, rows, y, rfl, h3.2, trR_keys rows, ?_⟩
    rcases h with ⟨a, r, rfl, ha, hl, q⟩ | ⟨t, ht, hk, q⟩ | ⟨a, xs, bs, rfl, ha, hl, hb, hall, q⟩
    · refine .inl ⟨a, r, rfl, ha, hl, fun r' e t H' s' _ => ⟨rfl, ?_⟩, fun e H' s' => ⟨rfl, ?_⟩⟩
      · have := q H' s'
        rw [e] at this
        exact this
      · have := q H' s'
        rw [e] at this
        exact this
    · exact .inr (.inl ⟨t, ht, hk, fun H' s' => ⟨rfl, q H' s'⟩⟩)
    · exact .inr (.inr ⟨a, xs, bs, rfl, ha, hl, hb, hall, fun H' s' => ⟨rfl, q H' s'⟩⟩)
theorem ok_ir {f : Addr} {fd : FuncData} (F : Fun K "__iter__" "Permits.__iter__" sIr f fd) (TI : mg "iter" = none) (c : PrK K CP) : FnN P w K mg base 1 f fd ["self"] (spItP CP) := by
  refine okN F scIr (fun n vs H Q E h => ?_) (fun cdv A outer s H vs Q E hr h => ?_)
  · obtain ⟨x, dx, d, fs, o, kvs, rfl, _⟩ := h
    rfl
  · obtain ⟨x, dx, d, fs, o, kvs, rfl, h1, h2, h3, q⟩ := h
    refine ⟨_, pss_one (ps_ret (pe_callB call_iterT (by rfl) TI (by decide +kernel) (pa_cons (pe_fld (pv 0) rfl) pa_nil))), ?_⟩
    exact ⟨_, rfl, x, CP, dx, fs, _, rfl, h1, c.cl, c.n2, h2, d, o, kvs, rfl, h3, fun it es ep hod ni hn => q it es ep hod ni hn⟩
theorem ok_ep {f : Addr} {fd : FuncData} (F : Fun K "__eq__" "Permits.__eq__" sEp f fd) (T : Bl mg) (mP : mg "Permits" = some (.ref CP)) (kO : PySem.W.kitOne K (.ref CP) (.ref CP) = some true) (c : PrK K CP) (gk : GrK K C)
    (EQ : ∃ f fd, PySem.W.findIn K (.ref C) "__eq__" = some (some (.ref f)) ∧ PySem.W.isFn K (.ref f) = true ∧ FnOk P w K mg base CX0 1 f fd ["self", "other"] (spEqM K C) ∧ Binds K fd ["self", "other"] []) : FnOk P w K mg base CX0 2 f fd ["self", "other"] (spEqP K C CP) := by
  obtain ⟨fE, dE, hsE, hfE, FE, bE⟩ := EQ
  refine F.ok scEp (fun vs H Q E h => ?_) (fun cdv A outer s H vs Q E hr h => ?_)
  · obtain ⟨x, G, y, g, rows, rfl, _⟩ := h
    rfl
  · obtain ⟨x, G, y, g, rows, rfl, hP, hG, fit, h⟩ := h
    have huT : (A.deeper (PyProof.Rows.envOfC "Permits.__eq__" (defScope sEp) s.heap.objs.size f cdv)).units + 2 < cLine := by have := hr.un; omega
    obtain ⟨dx, fs, d, h1, h2, h3, h4⟩ := hP.ex
    refine ⟨_, pss_one (ps_ret (pe_and (pe_callB call_isi (by rfl) T.isi (by decide +kernel) (pa_cons (pv 1) (pa_cons (pe_glob (v := .ref CP) rfl mP rfl) pa_nil))) (pe_and (pe_cmpR (op_eqOwn hsE hfE FE (hr.mono (by decide)) bE) (pe_fld (pv 0) rfl) (pe_fld (pv 1) rfl) (nomark _)) (pe_one (pe_cmpR (op_eqTr huT) (pe_fld (pv 0) rfl) (pe_fld (pv 1) rfl) (nomark _)))))), ?_⟩
    rcases h with ⟨x2, G2, g2, rows2, rfl, hP2, hG2, fit2, cond, q⟩ | ⟨t, ht, hk, q⟩
    · obtain ⟨dx2, fs2, d2, k1, k2, k3, k4⟩ := hP2.ex
      obtain ⟨gx, gf, _, _, _, _, _, g0, _⟩ := hG.gr.ex
      obtain ⟨gx2, gf2, _, _, _, _, _, g02, _⟩ := hG2.gr.ex
      refine ⟨_, rfl, .ref x2, .ref CP, .ref CP, .ref CP, true, rfl, .own CP, c.ty H x2 dx2 fs2 k1, kO, true, rfl, ?_⟩
      refine iteT ?_
      refine ⟨_, rfl, x, CP, dx, fs, _, rfl, h1, c.cl, c.n1, h2, _, rfl, x2, CP, dx2, fs2, _, rfl, k1, c.cl, c.n1, k2, G, gx, gf, rfl, g0, ⟨.ref C, gk.ty H G2 gx2 gf2 g02, by unfold PySem.W.notFirst; simp⟩, G, .ref G2, g, rfl, hG.gr, fit, .inl ⟨G2, g2, rfl, hG2.gr, fit2, cond, _, rfl, ?_⟩⟩
      refine ⟨_, rfl, ?_⟩
      cases hE : eqG g g2 with
      | false =>
        rw [hE] at q
        refine iteF ?_
        exact q
      | true =>
        rw [hE] at q
        refine iteT ?_
        exact ⟨_, rfl, x, CP, dx, fs, _, rfl, h1, c.cl, c.n2, h3.1, _, rfl, x2, CP, dx2, fs2, _, rfl, k1, c.cl, c.n2, k3.1, d, d2, rows, rows2, rfl, rfl, h3.2, k3.2, q⟩
    · refine ⟨_, rfl, y, .ref CP, t, .ref CP, false, rfl, .own CP, ht, hk, false, rfl, ?_⟩
      exact q
end
end K7
set_option Elab.async false
set_option linter.all false
set_option maxRecDepth 100000
set_option maxHeartbeats 4000000
/-! C.m(..), m a static method of the program's own class C. -/
namespace SmX
open PySem PySem.Spec PyProof.Rows L2 ClX
/-- C.m is a staticmethod: its record at p, its def at g -/
structure SMet (K : PySem.W.Frag) (C : Addr) (mc : Value) (m : Str) (p g : Addr) : Prop where
  at_ : PySem.W.findCls K (.ref C) mc m = some (.get (.builtin "staticmethod.__get__") (.ref p) .none (.ref C))
  rc : ∃ rest, PySem.W.recIn K p "staticmethod" = some (.ref g :: rest)
  kp : PySem.W.keepIn K (.ref g) = true
section
variable {X : Cx} {pins : List (Addr × Obj)} {σ : L2.St} {H : Hp} {s : Shared} {C p g : Addr} {mc : Value} {m : Str} {A : Around} {E : Value → Shared → Prop}
theorem getmethsm {pl : Sem Bool} {Q : Value × List Value → Shared → Prop} (I : Inv X pins σ H s) (r : CRead X.K C mc) (k : SMet X.K C mc m p g) (h : ∀ s', Inv X pins σ H s' → Q (.ref g, []) s') : wpAny (model X.prog X.w) A (getMethod (.ref C) m pl) Q E s := by
  obtain ⟨rest, hp⟩ := k.rc
  exact PySem.W.method_cls I.kIn r.ga (PySem.W.cls_bind I.kIn r.rd k.at_ (wpAny_call (PySem.W.sm_get (s := { s with toks := s.toks + 1 }) I.kIn hp (PySem.W.handed_on rfl (h _ (I.tok _))))))
end
def tSMeth (C : Addr) (sp : Sp) (E : XK) (ta : TE) (t : TA) : TE := fun σ H Q => ta σ H fun x H1 => x = .ref C ∧ t σ H1 fun vs H2 => sp vs H2 Q E
section
variable {X : Cx} {k : Nat} {C p g : Addr} {mc : Value} {sp : Sp} {o e : Expr} {es : List Expr} {m : Str} {pos apos : PySem.Pos} {ta : TE} {t : TA} {pl : Sem Bool} {fd : FuncData} {ps : List Str}
theorem pe_smeth (he : PE X o ta) (r : CRead X.K C mc) (c : SMet X.K C mc m p g) (F : FnOk X.prog X.w X.K X.mg X.base CX0 k g fd ps sp) (hr : Room k X.A) (hb : Binds X.K fd ps []) (ha : PA X (e :: es) t)
    (hst : starEach (e :: es) X.env = (false, eval e X.env) :: starEach es X.env := by rfl) (hpl : (backTo pos (starEach es X.env)).any (·.1) = false := by rfl)
    (ht : eval (.Call (.Attribute o m apos) (e :: es) [] pos) X.env = (do
      let ov ← eval o X.env
      standAt apos.atName
      let (f, first) ← holding [ov] (getMethod ov m pl)
      callWith pos f first (backTo pos (starEach (e :: es) X.env)) (backToKw pos (keywordEach [] X.env))) := by rfl) :
    PE X (.Call (.Attribute o m apos) (e :: es) [] pos) (tSMeth C sp E0 ta t) := by
  refine ⟨fun pins s σ H Q I h => ?_⟩
  refine PySem.W.methodCall_KW (pl := pl) (thn (he.run pins s σ H _ I h) fun u s1 ⟨x, H1, I1, rx, ex, q⟩ => ?_) ht
  subst ex
  obtain rfl : u = Value.ref C := rx
  refine getmethsm I1 r c fun s2 I2 => ?_
  refine PySem.W.callWith_K (h₀ := X.base) I2.ok.mod.kin c.kp (thn (ha.run pos pins s2 σ H1 _ I2 q) fun us s3 ⟨vs, H2, I3, rv, q2⟩ => ⟨I3.kIn, ?_⟩) hst hpl
  have l2 : vs.length = us.length := rv.length
  simp only [List.nil_append]
  refine run_fn F hr hb .nil pass0 I3 rv ?_
  rw [List.append_nil]
  exact q2
end
end SmX
set_option Elab.async false
set_option linter.all false
set_option autoImplicit false
set_option maxRecDepth 100000
set_option maxHeartbeats 8000000
namespace GB
open PySem PySem.Spec L2 EqT LamX
theorem len_putF_has {f : Str} {v w : V} : ∀ {fs : List (Str × V)}, fs.lookup f = some w → (putF f v fs).length = fs.length
  | [], h => nomatch h
  | (g, x) :: r, h => by
    unfold putF
    by_cases c : g = f
    · rw [if_pos c]; rfl
    · rw [if_neg c, List.length_cons, List.length_cons, len_putF_has (w := w) (by
        rw [List.lookup_cons, (beq_eq_false_iff_ne.mpr fun e => c e.symm : (f == g) = false)] at h
        exact h)]
theorem keys_of_rows {H : Hp} : ∀ {kvs : List (List Key × V)} {rows : List PRow} {bs : List Addr}, IsKeys H kvs bs → kvs.map (·.1) = rows.map rkey → RowsAt H rows bs
  | [], [], [], _, _ => .nil
  | [], [], _ :: _, h, _ => nomatch h
  | [], _ :: _, _, _, e => nomatch e
  | _ :: _, [], _, _, e => nomatch e
  | _ :: _, _ :: _, [], h, _ => nomatch h
  | k :: kvs, r :: rows, b :: bs, h, e => by
    unfold IsKeys at h
    rw [List.map_cons, List.map_cons] at e
    injection e with e1 e2
    cases h with
    | cons h1 h2 =>
      refine .cons ?_ (keys_of_rows h2 e2)
      show H b = some (.tup (sts r))
      rw [row_kV, ← e1]
      exact h1
end GB
namespace K7
open PySem PySem.Spec L2 GB EqT LamX
abbrev sPW : Stmt := topS 15
abbrev sFu : Stmt := inClass (topS 14) 6
def pwN : List Str := ["ground", "rows", "permits", "row"]
/-- Permits(ground, rows), as a call asks and gives -/
theorem pr_make {K : PySem.W.Frag} {C CP PT : Addr} {H : Hp} {R : Hp → Prop} {G Rw : Addr} {g : GD} {rs : List PRow} {ts : List Addr} {x dx : Addr} (nx : H x = none) (ndx : H dx = none) (ne : dx ≠ x) (hG : IsGr3 C H G g) (fit : g.Fit) (hR : SqA K H Rw (ts.map V.ref)) (hl : rs.length ≤ 200) (hp : Paired (HRow H g.perms) rs ts) (hT : TabS H PT qqIO)
    (q : ∀ H', Same (hidT H) (hidT H') → TabS H' PT qqIO → IsP CP H' x G (g.pset rs) → R H') :
    spPI K C CP PT [.ref x, .ref G, .ref Rw] (upd (upd H dx (.own x)) x (.ins CP dx [])) (fun v H' => v = .non ∧ R H') E0 := by
  have s0 : Same H (upd (upd H dx (.own x)) x (.ins CP dx [])) := fun b o e => by
    rw [upd_ne (ne_of_none e nx), upd_ne (ne_of_none e ndx)]
    exact e
  have sx : Same H (hid [x] (upd (upd H dx (.own x)) x (.ins CP dx []))) := same_hid_new nx s0
  exact ⟨x, dx, G, Rw, g, rs, ts, rfl, upd_same, hG.mono sx, fit, hR.mono sx, hl, Paired.mapP hp fun _ _ r => r.mono sx, tabS s0 hT, fun H' B' T' iP => ⟨rfl, q H' (((sameT sx).trans B').trans (sameT (hid_low _ _))) T' iP⟩⟩
def spPW (K : PySem.W.Frag) (C CP PT : Addr) : Sp := fun vs H Q _ => ∃ (G R : Addr) (g : GD) (rs : List PRow) (ts : List Addr), vs = [.ref G, .ref R] ∧ IsGr3 C H G g ∧ g.Fit ∧ SqA K H R (ts.map V.ref) ∧ RowsAt H rs ts ∧ rs.Nodup ∧ rs.length ≤ 500 ∧ TabS H PT qqIO ∧
  ∀ x H', hidT H x = none → Same (hidT H) (hidT H') → TabS H' PT qqIO → IsP CP H' x G rs → Q (.ref x) H'
def spFu (C CP PT : Addr) : Sp := fun vs H Q _ => ∃ (G : Addr) (g : GD), vs = [.ref G] ∧ IsGr3 C H G g ∧ g.Fit ∧ g.perms.length ≤ 500 ∧ TabS H PT qqIO ∧
  ∀ x H', hidT H x = none → Same (hidT H) (hidT H') → TabS H' PT qqIO → IsP CP H' x G g.perms → Q (.ref x) H'
section
variable {P : Program} {w : World} {K : PySem.W.Frag} {mg : Str → Option Value} {base : Heap} {C CP PT : Addr}
theorem scPW : FnScope pwN ["ground", "rows"] (defScope sPW) := ⟨rfl, rfl, rfl, by decide +kernel, rfl, by decide +kernel, by decide +kernel⟩
theorem scFu : FnScope ["ground"] ["ground"] (defScope sFu) := ⟨rfl, rfl, rfl, by decide +kernel, rfl, by decide +kernel, by decide +kernel⟩
theorem ok_pw {f fI : Addr} {fd fdI : FuncData} (F : Fun K "permits_with" "permits_with" sPW f fd) (T : Bl mg) (c : PrK K CP) (gP : mg "Permits" = some (.ref CP)) (MK : Mk K CP fI) (FI : FnOk P w K mg base CX0 7 fI fdI ["self", "ground", "rows"] (spPI K C CP PT)) {dP : Addr} {ds : List Value} (bI : Binds K fdI ["self", "ground", "rows"] ds) (rdI : Vals [.ref dP] ds) (em : ∀ H, SqT K H dP []) : FnOk P w K mg base CX0 9 f fd ["ground", "rows"] (spPW K C CP PT) := by
  refine F.ok scPW (fun vs H Q E h => ?_) (fun cdv A outer s H vs Q E hr h => ?_)
  · obtain ⟨G, R, g, rs, ts, rfl, _⟩ := h
    rfl
  · obtain ⟨G, R, g, rs, ts, rfl, hG, fit, hR, hrs, nd, hl, hT, q⟩ := h
    have hr8 : Room 8 (A.deeper (PyProof.Rows.envOfC "permits_with" (defScope sPW) s.heap.objs.size f cdv)) := hr
    refine ⟨_, pss_cons (ps_set (i := 2) scPW.nd rfl (.inl rfl) (pe_make MK FI hr8 rfl gP bI rdI pass0 (pa_cons (pv 0) pa_nil))) (pss_cons (ps_fld (pv 2) (DictT.pe_dcT (own := [("row", 3)]) (g := gName 3) (tt := tYes) (tk := tVar 3) (tv := tC (.bl true)) .t (hu_of hr) rfl scPW.nd (pi_seqW (pv 1)) (blkOk_by (own := [("row", 3)]) (N := pwN) (sc := defScope sPW) (by decide +kernel)) (fun _ _ _ _ _ => pg_name (i := 3) scPW.nd rfl (.inl rfl)) (fun _ _ _ _ _ => pts_nil) (fun _ _ _ _ _ => pv 3) (fun _ _ _ _ _ => pe_bl)) rfl) (pss_one (ps_ret (pv 2)))), ?_⟩
    refine ⟨_, rfl, fun x dx nx ndx ne => ?_⟩
    refine pr_make (rs := []) (ts := []) nx ndx ne hG fit (.inr (em _)) (by decide) .nil hT fun H1 S1 T1 iP => ?_
    have hR1 : SqA K H1 R (ts.map V.ref) := ((sqaT hR).mono S1).mono (hidT_low _)
    have hrs1 : RowsAt H1 rs ts := ((rowsT hrs).mono S1).mono (hidT_low _)
    obtain ⟨kb, hqv⟩ := sqV (hR1.mono (fun b o e => hid_to (ps := []) (by simp) e))
    have lts := Paired.length hrs
    refine ⟨_, rfl, R, ts.map V.ref, kb, [], rfl, hqv, fun W WJ D nD => ?_⟩
    refine DictT.dc_it WJ (fun i H' => Same H1 H' ∧ H' D = some (.dT (trR (addRs [] (rs.take i))))) ⟨same_new nD, upd_same⟩ (fun i H' _ s' => hqv.mono (hid_same s'.1)) ?_ ?_
    · rintro i y H2' H2 hi ⟨s2, hD⟩ ⟨rfl, hy⟩
      have hy : (ts.map V.ref)[i]? = some y := hy
      rw [List.getElem?_map] at hy
      obtain ⟨t, htt, rfl⟩ := Option.map_eq_some_iff.mp hy
      have hir : i < rs.length := by rw [lts]; exact (List.getElem?_eq_some_iff.mp htt).1
      have hri : rs[i]? = some rs[i] := List.getElem?_eq_getElem hir
      generalize rs[i] = r at hri
      obtain ⟨t', ht', hrt⟩ := paired_at' hrs1 hri
      obtain rfl : t' = t := by rw [htt] at ht'; exact (Option.some.inj ht').symm
      refine ⟨rfl, ?_⟩
      refine ⟨_, rfl, _, DPut.t (k := rkey r) hD (by rw [← row_kV]; exact s2 _ _ hrt) ?_, fun b o e => ?_, ?_⟩
      · unfold trR
        rw [List.length_map, sizeLine_eq]
        have h1 := len_addRs (rs := rs.take i) (acc := [])
        rw [List.length_take] at h1
        simp only [List.length_nil] at h1
        omega
      · rw [upd_ne (ne_of_none e nD)]; exact s2 _ _ e
      · rw [upd_same, put_addR, take_at hri, addRs_snoc]
    rintro H2 ⟨s2, hD⟩
    rw [List.take_of_length_le (by rw [List.length_map, lts]; exact Nat.le_refl _), addRs_nd nd] at hD
    obtain ⟨dx2, fs, d, h1, h2, h3, h4, h5⟩ := iP.ex
    have h2x := s2 _ _ h1
    have Dx : D ≠ x := fun e => by rw [e, h1] at nD; cases nD
    refine ⟨_, rfl, x, CP, dx2, fs, rfl, h2x, c.cl, c.n2, by omega, ?_⟩
    have B3 : Bt [x] H2 (upd H2 x (.ins CP dx2 (putF "_rows" (.ref D) fs))) := bt_upd (by simp)
    have T3 := tabB (ps := [x]) (fun z hz => by
      rw [List.mem_singleton.mp hz]
      exact ⟨_, h2x, (fun _ z => nomatch z), (fun _ z => by unfold CodeO at z; cases z)⟩) B3 (tabS s2 T1)
    have nxT : hidT H x = none := by
      cases e : hidT H x with
      | none => rfl
      | some o =>
        have := (hidT_in e).1
        rw [nx] at this
        cases this
    have SN : Same (hidT H) (hidT (hid [x] H1)) := fun b o e => by
      have hb : b ≠ x := fun z => by rw [z, nxT] at e; cases e
      obtain ⟨e1, e2⟩ := hidT_in (S1 _ _ e)
      exact hidT_to (hid_to (ni1 hb) e1) e2
    refine ⟨_, rfl, q x _ nxT (((SN.trans (sameT (hid_same s2))).trans (sameT B3)).trans (sameT (hid_low _ _))) T3 ⟨dx2, _, D, upd_same, ?_, ⟨?_, by rw [upd_ne Dx]; exact hD⟩, fun m hm => ?_, ?_⟩⟩
    · rw [lookup_putF, if_neg (by decide +kernel)]; exact h2
    · rw [lookup_putF, if_pos rfl]
    · rw [lookup_putF, if_neg (by
        have : m = "rows" ∨ m = "without" ∨ m = "within" ∨ m = "joined" ∨ m = "common" := by simpa using hm
        rcases this with rfl | rfl | rfl | rfl | rfl <;> decide +kernel)]
      exact h4 m hm
    · rw [len_putF_has h3.1]; exact h5
theorem ok_fu {f : Addr} {fd : FuncData} (F : Fun K "full" "Permits.full" sFu f fd) (T : Bl mg) (gk : GrK K C) (np : NoAttr K C "places") (PW : Fns P w K mg base "permits_with" 9 ["ground", "rows"] (spPW K C CP PT)) : FnOk P w K mg base CX0 10 f fd ["ground"] (spFu C CP PT) := by
  refine F.ok scFu (fun vs H Q E h => ?_) (fun cdv A outer s H vs Q E hr h => ?_)
  · obtain ⟨G, g, rfl, _⟩ := h
    rfl
  · obtain ⟨G, g, rfl, hG, fit, hl, hT, q⟩ := h
    refine ⟨_, pss_one (ps_ret (pe_fn PW hr (by decide) rfl (pa_cons (pv 0) (pa_cons (pe_callTy (call_list_dT rfl) (by rfl) T.list (by decide +kernel) (pa_cons (pe_fld (pv 0) rfl) pa_nil)) (pa_nil))))), ?_⟩
    obtain ⟨dx, fs, DP, p0, p1, p2⟩ := hG.pl.ex
    have pk := (plK_at fit.pnd (Nat.le_refl _)).2
    rw [List.take_length] at pk
    refine ⟨_, rfl, _, rfl, G, C, dx, fs, _, rfl, p0, gk.cl, np, p1, DP, _, rfl, .inl p2, fun l bs nl hk => ?_⟩
    obtain ⟨H1, s1, h1, e1⟩ := lay (o := .lst (bs.map V.ref)) nl
    rw [e1]
    refine ⟨G, l, g, g.perms, bs, rfl, hG.mono s1, fit, .inl (SqL.of h1), (keys_of_rows hk pk).mono s1, fit.pnd, hl, tabS s1 hT, fun x H2 nx S2 T2 iP => q x H2 ?_ ((sameT s1).trans S2) T2 iP⟩
    cases e : hidT H x with
    | none => rfl
    | some o =>
      have := (sameT s1) _ _ e
      rw [nx] at this
      cases this
end
end K7
set_option Elab.async false
set_option linter.all false
set_option maxRecDepth 100000
set_option maxHeartbeats 8000000
namespace K7
open PySem PySem.Spec L2 GB
abbrev sGround : Stmt := topS 39
def grN : List Str := ["_law_pool_here", "_law_most", "_law_names", "_law_letters", "_law_fixed", "_law_name", "_law_x", "_law_commuting", "_law_facts", "_law_seen", "_law_k", "_law_values", "_law_key", "_law_end", "_law_j"]
def spGround : Sp := fun vs H Q _ => ∃ (p : Addr) (m : Int) (n : Nat), vs = [.ref p, .int m] ∧ 0 < m ∧ m ≤ 7 ∧ n + 500 ≤ 1000000 ∧ PoolIs H p n ∧
  ∀ g gd H', Bt [p] H H' → IsG (hid [p] H') g gd → gd.Wf → (gd.letters.length : Int) ≤ m → PoolIs H' p (n + 500) → Q (.ref g) H'
def grI (p : Addr) (m : Int) (n : Nat) (H : Hp) (aN dL fA : Addr) (ns : List Str) (i : Nat) (σ : L2.St) (H' : Hp) : Prop := ∃ (ls : List (Str × Nat)) (fx : List Str) (o5 : Option V), σ = [some (.ref p), some (.int m), some (.ref aN), some (.ref dL), some (.ref fA), o5, none, none, none, none, none, none, none, none, none] ∧
        Bt [p] H H' ∧ H' aN = some (.lst (sts ns)) ∧ H' dL = some (.dK (lkv ls)) ∧ H' fA = some (.lst (sts fx)) ∧ ls.map (·.1) = ns.take i ∧ (∀ q ∈ ls, q.2 ≤ 2) ∧ fx.Sublist (ns.take i) ∧ ls.length ≤ fx.length + 3 ∧ PoolIs H' p (n + 61 + 2 * i)
/-- after k turns of the facts' loop -/
def frI (K : PySem.W.Frag) (p : Addr) (m : Int) (aN dL fA cA tA eA : Addr) (o5 : Option V) (ls : List (Str × Nat)) (fx cm : List Str) (H11 : Hp) (n : Nat) (k : Nat) (σ : L2.St) (H' : Hp) : Prop :=
  ∃ (fs : List Fact) (ts ks : List Addr) (o6 o10 o11 o12 o13 : Option V), σ = [some (.ref p), some (.int m), some (.ref aN), some (.ref dL), some (.ref fA), o5, o6, some (.ref cA), some (.ref tA), some (.ref eA), o10, o11, o12, o13, none] ∧
    Bt [p, tA, eA] H11 H' ∧ H' tA = some (.lst (ts.map V.ref)) ∧ H' eA = some (.lst (ks.map V.ref)) ∧ Paired (FactAt (hid [p, tA, eA] H')) fs ts ∧ DpAll K (hid [p, tA, eA] H') (ks.map V.ref) ((fs.map (GD.mk ls fx cm []).asked).map kd) ∧
    fs.length ≤ k ∧ (∀ f ∈ fs, f.Ok ls fx) ∧ (fs.map (GD.mk ls fx cm []).asked).Nodup ∧ ks.length = fs.length ∧ PoolIs H' p (n + 5 * k)
section
variable {P : Program} {w : World} {K : PySem.W.Frag} {mg : Str → Option Value} {base : Heap}
theorem scGround : FnScope grN ["_law_pool_here", "_law_most"] (defScope sGround) := ⟨rfl, rfl, rfl, by decide +kernel, rfl, by decide +kernel, by decide +kernel⟩
theorem ok_ground {f : Addr} {fd : FuncData} (F : Fun K "_law_ground" "_law_ground" sGround f fd) (T : Bl mg) (TK : Fns P w K mg base "_law_take" 1 ["_law_pool_here", "_law_many"] spTake)
    (MX : Fns P w K mg base "_law_mixed" 2 ["_law_pool_here", "_law_things"] (spMixed K)) (ON : Fns P w K mg base "_law_one" 2 ["_law_pool_here", "_law_things"] (spOne K)) : FnOk P w K mg base CX0 3 f fd ["_law_pool_here", "_law_most"] spGround := by
  refine F.ok scGround (fun vs H Q E h => ?_) (fun cdv A outer s H vs Q E hr h => ?_)
  · obtain ⟨p, m, n, rfl, _⟩ := h
    rfl
  · obtain ⟨p, m, n, rfl, m0, m7, hn, hP, q⟩ := h
    have hu65 : (A.deeper (PyProof.Rows.envOfC "_law_ground" (defScope sGround) s.heap.objs.size f cdv)).units + 65 < cLine := by have := hr.un; omega
    refine ⟨_, pss_cons (ps_set (i := 2) scGround.nd rfl (.inl rfl) (pe_slice sl_list (pe_fn MX hr (by decide) rfl (pa_cons (pv 0) (pa_cons (pe_lst (pa_cons (pe_str) (pa_cons (pe_str) (pa_cons (pe_str) (pa_cons (pe_str) (pa_cons (pe_str) (pa_cons (pe_str) (pa_cons (pe_str) (pa_cons (pe_str) (pa_nil)))))))))) (pa_nil)))) po_none (po_some (pe_op op_add (pe_int) (pe_fn TK hr (by decide) rfl (pa_cons (pv 0) (pa_cons (pv 1) (pa_nil)))))))) (pss_cons (ps_asg (pe_tup (pa_cons (pe_dnewK) (pa_cons (pe_lst (pa_nil)) (pa_nil)))) (pg_tup rfl (pgs_cons (pg_name (i := 3) scGround.nd rfl (.inr rfl)) (pgs_cons (pg_name (i := 4) scGround.nd rfl (.inl rfl)) (pgs_nil))))) (pss_cons (ps_for PassesOwn.never rfl (pi_list (pv 2)) (pg_name (i := 5) scGround.nd rfl (.inl rfl)) (pss_cons (ps_dput (hu_of hr) (pv 3) (pv 5) (pe_fn ON hr (by decide) rfl (pa_cons (pv 0) (pa_cons (pe_lst (pa_cons (pe_int) (pa_cons (pe_int) (pa_cons (pe_int) (pa_cons (pe_int) (pa_cons (pe_int) (pa_nil))))))) (pa_nil)))) rfl) (pss_one (ps_if (PW.pt (pw_or (pt_cmpR op_gt (pe_op op_sub (pe_callB call_lenD (by rfl) T.len PySem.boot_len (pa_cons (pv 3) (pa_nil))) (pe_callB call_len_seq (by rfl) T.len PySem.boot_len (pa_cons (pv 4) (pa_nil)))) (pe_int) (nomark _)) (pw_or1 (pt_cmpR op_eq (pe_fn TK hr (by decide) rfl (pa_cons (pv 0) (pa_cons (pe_int) (pa_nil)))) (pe_int) (nomark _))))) (pss_one (ps_expr (pe_bm PySem.F.plainAttrs_list PySem.F.slot_list_append PySem.F.type_list_append mt_append (pv 4) (pa_cons (pv 5) (pa_nil))))) (pss_nil))))) (pss_cons (ps_setLc (i := 7) (own := [("_law_x", 6)]) (g := gName 6) (tt := tAnd (tTest (tOp rEq (tDGet (tVar 3) (tVar 6)) (tC (.int 2)))) (tTest (tOp rEq (tCall spTake [] E0 (tCons (tVar 0) (tCons (tC (.int 2)) tNil))) (tC (.int 0))))) rfl scGround.nd rfl rfl (sw_true rfl rfl rfl (by decide +kernel)) (pi_list (pv 4)) (blkOk_by (own := [("_law_x", 6)]) (N := grN) (sc := defScope sGround) (by decide +kernel)) (fun _ _ _ _ _ => pg_name (i := 6) scGround.nd rfl (.inl rfl)) (fun _ _ _ _ _ => pts_one (PW.pt (pw_and (pt_cmpR op_eq (pe_dget (hu_of hr) (pv 3) (pv 6) (fun _ _ => rfl)) (pe_int) (nomark _)) (pw_and1 (pt_cmpR op_eq (pe_fn TK hr (by decide) rfl (pa_cons (pv 0) (pa_cons (pe_int) (pa_nil)))) (pe_int) (nomark _)))))) (fun _ _ _ _ _ => pv 6)) (pss_cons (ps_par (i := 8) (j := 9) rfl scGround.nd rfl rfl (by decide) rfl rfl (pa_cons (pe_lst (pa_nil)) (pa_cons (pe_lst (pa_nil)) (pa_nil))) (by rfl)) (pss_cons (ps_for PassesOwn.never rfl (pi_range1 rfl T.range (pa_cons (pe_op op_mul (pe_ix ix_list (pe_lst (pa_cons (pe_int) (pa_cons (pe_int) (pa_cons (pe_int) (pa_cons (pe_int) (pa_cons (pe_int) (pa_nil))))))) (pe_fn TK hr (by decide) rfl (pa_cons (pv 0) (pa_cons (pe_int) (pa_nil)))) (fun _ _ => rfl)) (pe_callTy (call_int1) (by rfl) T.int (by decide +kernel) (pa_cons (pe_cmpR (op_neD hr.units) (pv 4) (pe_lst (pa_nil)) (nomark _)) (pa_nil)))) (pa_nil))) (pg_name (i := 10) scGround.nd rfl (.inl rfl)) (pss_cons (ps_set (i := 6) scGround.nd rfl (.inl rfl) (pe_fn ON hr (by decide) rfl (pa_cons (pv 0) (pa_cons (pv 4) (pa_nil))))) (pss_cons (ps_setLc (i := 11) (own := [("_law_j", 14)]) (g := gName 14) (tt := tYes) rfl scGround.nd rfl rfl (sw_true rfl rfl rfl (by decide +kernel)) (pi_range1 rfl T.range (pa_cons (pe_dget (hu_of hr) (pv 3) (pv 6) (fun _ _ => rfl)) (pa_nil))) (blkOk_by (own := [("_law_j", 14)]) (N := grN) (sc := defScope sGround) (by decide +kernel)) (fun _ _ _ _ _ => pg_name (i := 14) scGround.nd rfl (.inl rfl)) (fun _ _ _ _ _ => pts_nil) (fun _ _ _ _ _ => pe_fn ON hr (by decide) rfl (pa_cons (pv 0) (pa_cons (pe_lst (pa_cons (pe_str) (pa_cons (pe_str) (pa_cons (pe_str) (pa_nil))))) (pa_nil))))) (pss_cons (ps_set (i := 12) scGround.nd rfl (.inl rfl) (pe_tup (pa_cons (pv 6) (pa_cons (pe_ifExp (pt_cmpR op_in_seq (pv 6) (pv 7) (by rfl)) (pe_callB (cr_sortedS) (by rfl) T.sorted (by decide +kernel) (pa_cons (pv 11) (pa_nil))) (pv 11)) (pa_nil))))) (pss_one (ps_if (pt_cmpR (op_notInD hu65) (pv 12) (pv 9) (by rfl)) (pss_cons (ps_expr (pe_bm PySem.F.plainAttrs_list PySem.F.slot_list_append PySem.F.type_list_append mt_append (pv 9) (pa_cons (pv 12) (pa_nil)))) (pss_cons (ps_set (i := 13) scGround.nd rfl (.inl rfl) (pe_tup (pa_cons (pe_fn ON hr (by decide) rfl (pa_cons (pv 0) (pa_cons (pe_lst (pa_cons (pe_str) (pa_cons (pe_str) (pa_cons (pe_str) (pa_nil))))) (pa_nil)))) (pa_cons (pe_fn ON hr (by decide) rfl (pa_cons (pv 0) (pa_cons (pe_lst (pa_cons (pe_str) (pa_cons (pe_str) (pa_nil)))) (pa_nil)))) (pa_nil))))) (pss_one (ps_expr (pe_bm PySem.F.plainAttrs_list PySem.F.slot_list_append PySem.F.type_list_append mt_append (pv 8) (pa_cons (pe_tup (pa_cons (pv 6) (pa_cons (pe_callTy (call_tuple_of) (by rfl) T.tuple (by decide +kernel) (pa_cons (pv 11) (pa_nil))) (pa_cons (pv 13) (pa_nil))))) (pa_nil))))))) (pss_nil))))))) (pss_one (ps_ret (pe_callTy (call_dictP rfl) (by rfl) T.dict (by decide +kernel) (pa_cons (pe_lst (pa_cons (pe_tup (pa_cons (pe_str) (pa_cons (pv 3) (pa_nil)))) (pa_cons (pe_tup (pa_cons (pe_str) (pa_cons (pv 4) (pa_nil)))) (pa_cons (pe_tup (pa_cons (pe_str) (pa_cons (pv 7) (pa_nil)))) (pa_cons (pe_tup (pa_cons (pe_str) (pa_cons (pv 8) (pa_nil)))) (pa_nil)))))) (pa_nil)))))))))), ?_⟩
    refine ⟨_, rfl, by show 8 ≤ sizeLine; decide, fun a8 n8 => ?_⟩
    obtain ⟨H1, s1, h1, e1⟩ := lay (o := .lst [.str "x", .str "y", .str "z", .str "plus", .str "if", .str "name", .str "abcdefgh", .str "fail"]) n8
    rw [e1]
    have P1 := hP.mono s1 (Nat.le_refl _)
    have na8 := hP.ne n8
    refine ⟨p, a8, sts nm8, n, rfl, SqL.of (hid_to (ni1 na8) h1), by decide, by omega, P1, fun qa ys H2 hperm nqa b2 hqa P2 => ?_⟩
    refine ⟨_, rfl, _, rfl, p, m, n + 60, rfl, m0, by omega, by omega, P2, fun r H3 hr3 b3 P3 => ?_⟩
    have nqp : qa ≠ p := P1.ne nqa
    refine ⟨_, _, rfl, rfl, _, rfl, qa, ys, rfl, SqL.of (bt_at b3 (ni1 nqp) hqa), fun aN nN => ?_⟩
    obtain ⟨ns8, rfl, hp8⟩ := sts_perm hperm
    obtain ⟨H4, s4, h4, e4⟩ := lay (o := .lst (cutV (sts ns8) none (some (((1 + r : Nat) : Int))))) nN
    rw [show ((1 : Int) + (r : Int)) = ((1 + r : Nat) : Int) from (Int.natCast_add 1 r).symm, e4]
    have l8 : ns8.length = 8 := hp8.length_eq
    have hr4 : 1 + r ≤ 7 := by have := hr3; omega
    obtain ⟨ns, hns⟩ : ∃ ns, ns = ns8.take (1 + r) := ⟨_, rfl⟩
    have h4' : H4 aN = some (.lst (sts ns)) := by
      rw [h4, cut_to _ _ (by unfold sts; rw [List.length_map]; omega), hns]
      unfold sts
      rw [List.map_take]
    have nsl : ns.length = 1 + r := by rw [hns, List.length_take]; omega
    have nsub : ∀ x ∈ ns, x ∈ nmA := fun x hx => nmA_of <| hp8.subset (List.mem_of_mem_take (by rw [← hns]; exact hx))
    have nsnd : ns.Nodup := by
      rw [hns]
      exact (hp8.nodup_iff.mpr (by decide)).sublist (List.take_sublist _ _)
    have P4 := P3.mono s4 (Nat.le_refl _)
    have nNp : aN ≠ p := P3.ne nN
    have B4 : Bt [p] H H4 := ((bt_of s1).trans (b2.trans b3)).trans (bt_of s4)
    clear h4 e4 hqa h1 e1 hperm
    intro dL ndL
    obtain ⟨H5, s5, h5, e5⟩ := lay (o := .dK []) ndL
    rw [e5]
    refine ⟨by show 0 ≤ sizeLine; decide, fun fA nfA => ?_⟩
    obtain ⟨H6, s6, h6, e6⟩ := lay (o := .lst []) nfA
    rw [e6]
    refine ⟨by show 2 ≤ sizeLine; decide, fun tA ntA => ?_⟩
    obtain ⟨H7, s7, h7, e7⟩ := lay (o := .tup [.ref dL, .ref fA]) ntA
    rw [e7]
    refine ⟨tA, [.ref dL, .ref fA], rfl, SqT.of h7, rfl, .ref dL, [.ref fA], rfl, .ref fA, [], rfl, rfl, ?_⟩
    have s47 : Same H4 H7 := (s5.trans s6).trans s7
    have P7 := P4.mono s47 (Nat.le_refl _)
    have ndp : dL ≠ p := P4.ne ndL
    have nfp : fA ≠ p := (P4.mono s5 (Nat.le_refl _)).ne nfA
    have ndf : dL ≠ fA := ne_of_none h5 nfA
    have ndN : aN ≠ dL := ne_of_none h4' ndL
    have nfN : aN ≠ fA := ne_of_none (s5 _ _ h4') nfA
    have B7 : Bt [p] H H7 := B4.trans (bt_of s47)
    have ndLH : H dL = none := by
      cases e : H dL with
      | none => rfl
      | some o => rw [bt_at B4 (ni1 ndp) e] at ndL; cases ndL
    have nfAH : H fA = none := by
      cases e : H fA with
      | none => rfl
      | some o => rw [s5 _ _ (bt_at B4 (ni1 nfp) e)] at nfA; cases nfA
    have hS5 : ∀ {H' : Hp}, PoolIs H' p n → True := fun _ => trivial
    refine ⟨_, rfl, aN, rfl, ⟨_, SqL.of (s47 _ _ h4')⟩, for_list (K := K) (a := aN) (xs := sts ns) (grI p m n H aN dL fA ns)
      ⟨[], [], none, rfl, B7, s47 _ _ h4', s7 _ _ (s6 _ _ h5), s7 _ _ h6, rfl, (fun _ h => nomatch h), List.Sublist.refl _, Nat.zero_le _, P7.mono (Same.refl _) (by omega)⟩ (fun i σ H' _ ⟨_, _, _, _, _, h, _⟩ => SqL.of h) ?_ ?_⟩
    · rintro i x σ H8 hi ⟨ls, fx, o5, rfl, B8, hN8, hL8, hF8, hls, har, hfx, hnf, P8⟩
      obtain ⟨nm, hnm, rfl⟩ := sts_at hi
      have hil' : i < ns.length := (List.getElem?_eq_some_iff.mp hnm).1
      have tk : ns.take (i + 1) = ns.take i ++ [nm] := by rw [List.take_add_one, hnm]; rfl
      have nmn : nm ∉ ls.map (·.1) := by
        rw [hls]
        intro hm
        have nd := nsnd.sublist (List.take_sublist (i + 1) ns)
        rw [tk] at nd
        exact (List.nodup_append.mp nd).2.2 nm hm nm List.mem_cons_self rfl
      have lsl : ls.length = i := by
        have := congrArg List.length hls
        rw [List.length_map, List.length_take] at this
        omega
      refine ⟨_, rfl, by show 5 ≤ sizeLine; decide, fun b5 nb5 => ?_⟩
      obtain ⟨H9, s9, h9, e9⟩ := lay (o := .lst [.int 0, .int 0, .int 0, .int 1, .int 2]) nb5
      rw [e9]
      have P9 := P8.mono s9 (Nat.le_refl _)
      refine ⟨p, b5, [.int 0, .int 0, .int 0, .int 1, .int 2], _, rfl, SqL.of (hid_to (ni1 (P8.ne nb5)) h9), (fun h => nomatch h), (by show 5 ≤ 100000; decide), (by omega), P9, fun v H10 hv b10 P10 => ?_⟩
      obtain ⟨k, hk, rfl⟩ : ∃ k : Nat, k ≤ 2 ∧ v = .int k := by
        simp only [List.mem_cons, List.not_mem_nil, or_false] at hv
        rcases hv with rfl | rfl | rfl | rfl | rfl
        · exact ⟨0, by decide, rfl⟩
        · exact ⟨0, by decide, rfl⟩
        · exact ⟨0, by decide, rfl⟩
        · exact ⟨1, by decide, rfl⟩
        · exact ⟨2, by decide, rfl⟩
      have hL10 := bt_at b10 (ni1 ndp) (s9 _ _ hL8)
      have hF10 := bt_at b10 (ni1 nfp) (s9 _ _ hF8)
      have hN10 := bt_at b10 (ni1 nNp) (s9 _ _ hN8)
      refine ⟨_, rfl, _, rfl, dL, _, rfl, DPut.k (k := .inr nm) hL10 (by unfold lkv; rw [List.length_map, sizeLine_eq]; omega), ?_⟩
      have ep : putK (lkv ls) (.inr nm : Key) (V.int k) = lkv (ls ++ [(nm, k)]) := by
        rw [putK_new _ (valV_no nmn)]
        unfold lkv
        rw [List.map_append]
        rfl
      rw [ep]
      obtain ⟨H11, b11, h11, e11⟩ : ∃ H11, (∀ b o, b ≠ dL → H10 b = some o → H11 b = some o) ∧ H11 dL = some (.dK (lkv (ls ++ [(nm, k)]))) ∧ upd H10 dL (.dK (lkv (ls ++ [(nm, k)]))) = H11 :=
        ⟨upd H10 dL (.dK (lkv (ls ++ [(nm, k)]))), fun b o z e => by rw [upd_ne z]; exact e, upd_same, rfl⟩
      rw [e11]
      have hF11 := b11 _ _ ndf.symm hF10
      have hN11 := b11 _ _ ndN hN10
      have P11 : PoolIs H11 p (n + 61 + 2 * i + 1) := by
        obtain ⟨x, y, z, e, r⟩ := P10
        exact ⟨x, y, z, b11 _ _ ndp.symm e, r⟩
      have B11 : Bt [p] H H11 := fun b o e => by
        obtain ⟨e', nb⟩ := hid_in e
        exact hid_to nb (b11 _ _ (ne_of_none e' ndLH) (bt_at b10 nb (s9 _ _ (bt_at B8 nb e'))))
      have har' : ∀ q ∈ ls ++ [(nm, k)], q.2 ≤ 2 := fun q hq => by
        rcases List.mem_append.mp hq with h | h
        · exact har q h
        · rw [List.mem_singleton.mp h]; exact hk
      have hls' : (ls ++ [(nm, k)]).map (·.1) = ns.take (i + 1) := by rw [tk, List.map_append, hls]; rfl
      have fl : fx.length ≤ i := by
        have := hfx.length_le
        rw [List.length_take] at this
        omega
      refine ⟨_, rfl, dL, _, rfl, h11, _, rfl, fA, _, rfl, .inl (SqL.of hF11), _, _, rfl, rfl, _, _, rfl, rfl, _, rfl, ?_⟩
      have app : ∀ H12, Bt [p] H11 H12 → PoolIs H12 p (n + 61 + 2 * (i + 1)) → ∀ D : Ends, (∀ σ' H', grI p m n H aN dL fA ns (i + 1) σ' H' → D.nx σ' H') → (tDrop (tBM K "list" rAppend (tVar 4) (tCons (tVar 5) tNil))) D [some (.ref p), some (.int m), some (.ref aN), some (.ref dL), some (.ref fA), some (.str nm), none, none, none, none, none, none, none, none, none] H12 := fun H12 b12 P12 D fin => by
        have hF12 := bt_at b12 (ni1 nfp) hF11
        have hL12 := bt_at b12 (ni1 ndp) h11
        have hN12 := bt_at b12 (ni1 nNp) hN11
        refine ⟨_, rfl, .inl ⟨rfl, _, SqL.of hF12⟩, _, rfl, fA, _, _, rfl, rfl, hF12, (by rw [sts_len, sizeLine_eq]; omega), ?_⟩
        obtain ⟨H13, b13, h13, e13⟩ : ∃ H13, (∀ b o, b ≠ fA → H12 b = some o → H13 b = some o) ∧ H13 fA = some (.lst (sts (fx ++ [nm]))) ∧ upd H12 fA (.lst (sts fx ++ [.str nm])) = H13 :=
          ⟨upd H12 fA (.lst (sts fx ++ [.str nm])), fun b o z e => by rw [upd_ne z]; exact e, by rw [upd_same]; unfold sts; rw [List.map_append]; rfl, rfl⟩
        rw [e13]
        obtain ⟨x, y, z, ep12, pr12⟩ := P12
        refine fin _ _ ⟨ls ++ [(nm, k)], fx ++ [nm], _, rfl, fun b o e => ?_, b13 _ _ nfN hN12, b13 _ _ ndf hL12, h13, hls', har', ?_, ?_, ⟨x, y, z, b13 _ _ nfp.symm ep12, pr12⟩⟩
        · obtain ⟨e', nb⟩ := hid_in e
          exact hid_to nb (b13 _ _ (ne_of_none e' nfAH) (bt_at b12 nb (bt_at B11 nb e')))
        · rw [tk]; exact hfx.append (List.Sublist.refl _)
        · rw [List.length_append, List.length_append]; simp only [List.length_singleton]; omega
      have skip : ∀ H12, Bt [p] H11 H12 → PoolIs H12 p (n + 61 + 2 * (i + 1)) → ls.length + 1 ≤ fx.length + 3 → grI p m n H aN dL fA ns (i + 1) [some (.ref p), some (.int m), some (.ref aN), some (.ref dL), some (.ref fA), some (.str nm), none, none, none, none, none, none, none, none, none] H12 := fun H12 b12 P12 hle =>
        ⟨ls ++ [(nm, k)], fx, some (.str nm), rfl, B11.trans b12, bt_at b12 (ni1 nNp) hN11, bt_at b12 (ni1 ndp) h11, bt_at b12 (ni1 nfp) hF11, hls', har', (by rw [tk]; exact hfx.trans (List.sublist_append_left _ _)), (by rw [List.length_append]; exact hle), P12⟩
      by_cases c : (3 : Int) < (((lkv (ls ++ [(nm, k)])).length : Nat) : Int) - (((sts fx).length : Nat) : Int)
      · rw [decide_eq_true c]
        refine iteT (iteT (app H11 (Same.refl _) (P11.mono (Same.refl _) (by omega)) _ fun _ _ h => h))
      · rw [decide_eq_false c]
        refine iteF ⟨_, rfl, p, 3, _, rfl, by decide, by decide, (by omega), P11, fun r H12 hr12 b12 P12 => ⟨rfl, _, rfl, ?_⟩⟩
        have P12' := P12.mono (Same.refl _) (show _ ≤ n + 61 + 2 * (i + 1) by omega)
        by_cases c2 : (V.int (r : Int)) = .int 0
        · rw [decide_eq_true c2]
          exact iteT (app H12 b12 P12' _ fun _ _ h => h)
        · rw [decide_eq_false c2]
          refine iteF (skip H12 b12 P12' ?_)
          unfold lkv at c
          rw [List.length_map, List.length_append, sts_len] at c
          simp only [List.length_singleton] at c
          omega
    · rintro σ H8 ⟨ls, fx, o5, rfl, B8, hN8, hL8, hF8, hls, har, hfx, hnf, P8⟩
      rw [sts_len, List.take_length] at hls hfx
      rw [sts_len] at P8
      have lnd : (ls.map (·.1)).Nodup := by rw [hls]; exact nsnd
      have fin : ∀ x ∈ fx, ∃ k, (x, k) ∈ ls := fun x hx => by
        have := hfx.subset hx
        rw [← hls] at this
        obtain ⟨q, hq, rfl⟩ := List.mem_map.mp this
        exact ⟨q.2, hq⟩
      have lls : ls.length ≤ 7 := by
        have := congrArg List.length hls
        rw [List.length_map] at this
        omega
      have lfx : fx.length ≤ 7 := by have := hfx.length_le; omega
      have P8' : PoolIs H8 p (n + 80) := P8.mono (Same.refl _) (by omega)
      have f8 : ∀ x ∈ fx, x ∈ nmA := fun x hx => nsub x (hfx.subset hx)
      -- commuting
      refine ⟨_, rfl, fA, rfl, ⟨_, SqL.of hF8⟩, fun cA ncA => lc_list (K := K) (a := fA) (xs := sts fx) (fun i H' => ∃ cm : List Str, Bt [p, cA] H8 H' ∧ H' cA = some (.lst (sts cm)) ∧ cm.Sublist (fx.take i) ∧ (∀ x ∈ cm, (x, 2) ∈ ls) ∧ PoolIs H' p (n + 80 + i))
        ⟨[], bt_upd (by simp), upd_same, List.Sublist.refl _, (fun _ h => nomatch h), (by
          obtain ⟨x, y, z, e, r⟩ := P8'
          exact ⟨x, y, z, by rw [upd_ne (ne_of_none e ncA)]; exact e, r⟩)⟩ ?_ ?_ ?_⟩
      · rintro i H9 _ ⟨cm, B9, _⟩
        exact SqL.of (bt_at B9 (by simp [nfp, ne_of_none hF8 ncA]) hF8)
      · rintro i x H9 hi ⟨cm, B9, hC9, hcm, hc2, P9⟩
        obtain ⟨s, hs, rfl⟩ := sts_at hi
        have hsx : s ∈ fx := List.mem_of_getElem? hs
        obtain ⟨k, hk⟩ := fin s hsx
        have tk : fx.take (i + 1) = fx.take i ++ [s] := by rw [List.take_add_one, hs]; rfl
        have cp : cA ≠ p := P8.ne ncA
        have hL9 := bt_at B9 (by simp [ndp, ne_of_none hL8 ncA]) hL8
        have il : i < fx.length := (List.getElem?_eq_some_iff.mp hs).1
        have cml : cm.length ≤ 7 := by
          have := hcm.length_le
          rw [List.length_take] at this
          omega
        have drop : ∀ H', Bt [p] H9 H' → PoolIs H' p (n + 80 + (i + 1)) → ∃ cm : List Str, Bt [p, cA] H8 H' ∧ H' cA = some (.lst (sts cm)) ∧ cm.Sublist (fx.take (i + 1)) ∧ (∀ x ∈ cm, (x, 2) ∈ ls) ∧ PoolIs H' p (n + 80 + (i + 1)) := fun H' b P =>
          ⟨cm, B9.trans (bt_weak (by simp) b), bt_at b (ni1 cp) hC9, (by rw [tk]; exact hcm.trans (List.sublist_append_left _ _)), hc2, P⟩
        refine ⟨rfl, _, rfl, _, rfl, dL, .int k, rfl, (by rw [← valV_lkv lnd hk]; exact DGet.k (k := .inr s) hL9), rfl, _, rfl, ?_⟩
        by_cases c : (V.int (k : Int)) = .int 2
        · rw [decide_eq_true c]
          refine iteT ⟨_, rfl, p, 2, _, rfl, by decide, by decide, (by omega), P9, fun r H10 hr10 b10 P10 => ⟨rfl, _, rfl, ?_⟩⟩
          by_cases c2 : (V.int (r : Int)) = .int 0
          · rw [decide_eq_true c2]
            refine iteT ⟨_, rfl, sts cm, bt_at b10 (ni1 cp) hC9, (by rw [sts_len, sizeLine_eq]; omega), cm ++ [s], ?_, ?_, ?_, ?_, ?_⟩
            · exact B9.trans ((bt_weak (by simp) b10).trans (bt_upd (by simp)))
            · rw [upd_same]; unfold sts; rw [List.map_append]; rfl
            · rw [tk]; exact hcm.append (List.Sublist.refl _)
            · intro x hx
              rcases List.mem_append.mp hx with h | h
              · exact hc2 x h
              · obtain rfl := List.mem_singleton.mp h
                have : k = 2 := by injection c with c; omega
                rw [← this]; exact hk
            · obtain ⟨x, y, z, e, r⟩ := P10
              exact ⟨x, y, z, by rw [upd_ne cp.symm]; exact e, r⟩
          · rw [decide_eq_false c2]
            exact iteF (drop H10 b10 (P10.mono (Same.refl _) (by omega)))
        · rw [decide_eq_false c]
          exact iteF (iteF (drop H9 (Same.refl _) (P9.mono (Same.refl _) (by omega))))
      · rintro H9 ⟨cm, B9, hC9, hcm, hc2, P9⟩
        rw [sts_len, List.take_length] at hcm
        rw [sts_len] at P9
        have cp : cA ≠ p := P8.ne ncA
        have hL9 := bt_at B9 (by simp [ndp, ne_of_none hL8 ncA]) hL8
        have hF9 := bt_at B9 (by simp [nfp, ne_of_none hF8 ncA]) hF8
        have hN9 := bt_at B9 (by simp [nNp, ne_of_none hN8 ncA]) hN8
        have ncAH : H cA = none := by
          cases e : H cA with
          | none => rfl
          | some o => rw [bt_at B8 (ni1 cp) e] at ncA; cases ncA
        have B9' : Bt [p] H H9 := fun b o e => by
          obtain ⟨e', nb⟩ := hid_in e
          exact hid_to nb (bt_at B9 (by
            have := ne_of_none e' ncAH
            simp only [List.mem_cons, List.not_mem_nil, or_false, not_or]
            exact ⟨fun z => nb (by rw [z]; exact List.mem_cons_self), this⟩) (bt_at B8 nb e'))
        refine ⟨by show 0 ≤ sizeLine; decide, fun tA' ntA' => ?_⟩
        obtain ⟨H10, s10, h10, e10⟩ := lay (o := .lst []) ntA'
        rw [e10]
        refine ⟨by show 0 ≤ sizeLine; decide, fun eA neA => ?_⟩
        obtain ⟨H11, s11, h11, e11⟩ := lay (o := .lst []) neA
        rw [e11]
        refine ⟨_, _, rfl, ?_⟩
        have tp : tA' ≠ p := P9.ne ntA'
        have P11 := P9.mono (s10.trans s11) (Nat.le_refl _)
        have ep : eA ≠ p := (P9.mono s10 (Nat.le_refl _)).ne neA
        have te : tA' ≠ eA := ne_of_none h10 neA
        have s911 := s10.trans s11
        have hL11 := s911 _ _ hL9
        have hF11 := s911 _ _ hF9
        have hC11 := s911 _ _ hC9
        have nLt : dL ≠ tA' := ne_of_none hL9 ntA'
        have nFt : fA ≠ tA' := ne_of_none hF9 ntA'
        have nCt : cA ≠ tA' := ne_of_none hC9 ntA'
        have nLe : dL ≠ eA := ne_of_none (s10 _ _ hL9) neA
        have nFe : fA ≠ eA := ne_of_none (s10 _ _ hF9) neA
        have nCe : cA ≠ eA := ne_of_none (s10 _ _ hC9) neA
        have cmx : ∀ x ∈ cm, x ∈ fx := fun x hx => hcm.subset hx
        have cml : cm.length ≤ 7 := by have := hcm.length_le; omega
        refine ⟨by show 5 ≤ sizeLine; decide, fun b5 n5 => ?_⟩
        obtain ⟨H12, s12, h12, e12⟩ := lay (o := .lst [.int 0, .int 1, .int 2, .int 3, .int 6]) n5
        rw [e12]
        have P12 := P11.mono s12 (Nat.le_refl _)
        refine ⟨_, rfl, p, 5, _, rfl, by decide, by decide, by omega, P12, fun r H13 hr13 b13 P13 => ?_⟩
        obtain ⟨c, hc6, hv⟩ : ∃ c : Nat, c ≤ 6 ∧ ([.int 0, .int 1, .int 2, .int 3, .int 6] : List V)[r]? = some (.int c) := by
          have hr5 : r < 5 := by have := hr13; omega
          match r, hr5 with
          | 0, _ => exact ⟨0, by decide, rfl⟩
          | 1, _ => exact ⟨1, by decide, rfl⟩
          | 2, _ => exact ⟨2, by decide, rfl⟩
          | 3, _ => exact ⟨3, by decide, rfl⟩
          | 4, _ => exact ⟨6, by decide, rfl⟩
        refine ⟨b5, _, _, _, rfl, rfl, SqL.of (bt_at b13 (ni1 (P11.ne n5)) h12), atI_nat hv, ?_⟩
        have hF13 := bt_at b13 (ni1 nfp) (s12 _ _ hF11)
        refine ⟨_, rfl, by show 0 ≤ sizeLine; decide, fun zA nzA => ?_⟩
        obtain ⟨H14, s14, h14, e14⟩ := lay (o := .lst []) nzA
        rw [e14]
        refine ⟨.list (pst fx), .list [], .lst (SqL.of (s14 _ _ hF13)) (dp_sts fx), .lst (SqL.of h14) .nil, sh_pst (fun v hv => ok8 v (f8 v hv)), by decide +kernel, .inr ⟨_, rfl, _, _, rfl, rfl, .inl ⟨by omega, by omega⟩, ?_⟩⟩
        rw [ne_nil]
        obtain ⟨N, hN, hN6, hNx⟩ : ∃ N : Nat, (c : Int) * (if decide (fx ≠ []) = true then 1 else 0) = (N : Int) ∧ N ≤ 6 ∧ (0 < N → fx ≠ []) := by
          by_cases h : fx = []
          · exact ⟨0, by rw [decide_eq_false (not_not_intro h)]; simp, by decide, fun z => absurd z (by decide)⟩
          · exact ⟨c, by rw [decide_eq_true h]; simp, hc6, fun _ => h⟩
        have P14 := P13.mono s14 (Nat.le_refl _)
        have B1114 : Bt [p] H11 H14 := (bt_of s12).trans (b13.trans (bt_of s14))
        refine ⟨(N : Int), congrArg (fun z => [V.int z]) hN, by omega, by omega, for_range (lo := 0) (n := N) (frI K p m aN dL fA cA tA' eA o5 ls fx cm H11 (n + 90)) ?_ ?_ ?_⟩
        · refine ⟨[], [], [], none, none, none, none, none, rfl, bt3 B1114, bt_at B1114 (ni1 tp) (s11 _ _ h10), bt_at B1114 (ni1 ep) h11, .nil, .nil, Nat.zero_le _, (fun _ h => nomatch h), List.nodup_nil, rfl, P14.mono (Same.refl _) (by omega)⟩
        · rintro k σ H15 hk ⟨fs, ts, ks, o6, o10, o11, o12, o13, rfl, B15, hT15, hE15, hts, hks, hfl, hfo, hfd, hkl, P15⟩
          have hFx : hid [p, tA', eA] H15 fA = some (.lst (sts fx)) := B15 _ _ (hid_to (ni3 nfp nFt nFe) hF11)
          have hF15 := (hid_in hFx).1
          have hL15 := bt_at B15 (ni3 ndp nLt nLe) hL11
          have hC15 := bt_at B15 (ni3 cp nCt nCe) hC11
          refine ⟨_, rfl, _, rfl, p, fA, sts fx, _, rfl, SqL.of (hid_to (ni1 nfp) hF15), ?_, (by rw [sts_len]; omega), (by omega), P15, fun v H16 hv16 b16 P16 => ?_⟩
          · have := hNx (by omega)
            cases fx with
            | nil => exact absurd rfl this
            | cons y z => exact fun e => nomatch e
          obtain ⟨x, hx, rfl⟩ := mem_sts hv16
          obtain ⟨kx, hkx⟩ := fin x hx
          have kx2 : kx ≤ 2 := har _ hkx
          have hL16 := bt_at b16 (ni1 ndp) hL15
          refine ⟨_, rfl, _, rfl, dL, .int kx, rfl, (by rw [← valV_lkv lnd hkx]; exact DGet.k (k := .inr x) hL16), kx, rfl, by omega, by omega, fun D nD => lc_range (lo := 0) (n := kx) (fun i H' => ∃ vs : List Str, Bt [p, D] H16 H' ∧ H' D = some (.lst (sts vs)) ∧ vs.length = i ∧ (∀ v ∈ vs, v ∈ va3) ∧ PoolIs H' p (n + 90 + 5 * k + 1 + i))
            ⟨[], bt_upd (by simp), upd_same, rfl, (fun _ h => nomatch h), (by
              obtain ⟨x, y, z, e, r⟩ := P16
              exact ⟨x, y, z, by rw [upd_ne (ne_of_none e nD)]; exact e, r⟩)⟩ ?_ ?_⟩
          · rintro i H17 hi ⟨vs, B17, hD17, hvl, hv3, P17⟩
            have Dp1 : D ≠ p := P16.ne nD
            refine ⟨rfl, _, rfl, by show 3 ≤ sizeLine; decide, fun b3 nb3 => ?_⟩
            obtain ⟨H18, s18, h18, e18⟩ := lay (o := .lst [.str "one", .str "two", .str "false"]) nb3
            rw [e18]
            refine ⟨p, b3, sts va3, _, rfl, SqL.of (hid_to (ni1 (P17.ne nb3)) h18), (fun z => nomatch z), by decide, by omega, P17.mono s18 (Nat.le_refl _), fun v H19 hv19 b19 P19 => ?_⟩
            obtain ⟨u, hu, rfl⟩ := mem_sts hv19
            have hD19 := bt_at b19 (ni1 Dp1) (s18 _ _ hD17)
            refine ⟨_, hD19, (by rw [sts_len, sizeLine_eq]; omega), vs ++ [u], ?_, ?_, ?_, ?_, ?_⟩
            · exact B17.trans ((bt_of s18).trans ((bt_weak (by simp) b19).trans (bt_upd (by simp))))
            · rw [upd_same]; unfold sts; rw [List.map_append]; rfl
            · rw [List.length_append, hvl]; rfl
            · intro v hv
              rcases List.mem_append.mp hv with h | h
              · exact hv3 v h
              · rw [List.mem_singleton.mp h]; exact hu
            · obtain ⟨x, y, z, e, r⟩ := P19
              exact ⟨x, y, z, by rw [upd_ne Dp1.symm]; exact e, r⟩
          · rintro H17 ⟨vs, B17, hD17, hvl, hv3, P17⟩
            have Dp1 : D ≠ p := P16.ne nD
            have nDx : ∀ {b : Addr} {o : HO}, H16 b = some o → b ≠ D := fun e => ne_of_none e nD
            have B1617 : ∀ {qs : List Addr}, p ∈ qs → Bt qs H16 H17 := fun {qs} hq b o e => by
              obtain ⟨e', nb⟩ := hid_in e
              refine hid_to nb (bt_at B17 ?_ e')
              intro mm
              simp only [List.mem_cons, List.not_mem_nil, or_false] at mm
              rcases mm with rfl | rfl
              · exact nb hq
              · exact nDx e' rfl
            have B1517 : Bt [p, tA', eA] H15 H17 := (bt3 b16).trans (B1617 (by simp))
            have B1117 := B15.trans B1517
            have hT16 := bt_at b16 (ni1 tp) hT15
            have hE16 := bt_at b16 (ni1 ep) hE15
            have hT17 := bt_at B17 (by simp [tp, nDx hT16]) hT16
            have hE17 := bt_at B17 (by simp [ep, nDx hE16]) hE16
            have hC17 := bt_at B1117 (ni3 cp nCt nCe) hC11
            have Dn3 : D ∉ [p, tA', eA] := ni3 Dp1 (nDx hT16).symm (nDx hE16).symm
            have v2l : vs.length ≤ 2 := by omega
            have okx : PyData.strOk x = true := ok8 x (f8 x hx)
            have lts : ts.length ≤ 100 := by
              have := Paired.length hts
              omega
            have askok : ∀ f, f.Ok ls fx → OkS ((GD.mk ls fx cm []).asked f) := fun f hf => ⟨ok8 _ (f8 _ hf.x), fun v hv => by
              have e : v ∈ f.vals := by
                unfold GD.asked at hv
                dsimp only at hv
                split at hv
                · have hp := sort2_perm f.vals
                  exact hp.subset hv
                · exact hv
              exact ok3 v (hf.vals v e)⟩
            have oks : ∀ a ∈ fs.map (GD.mk ls fx cm []).asked, OkS a := fun a ha => by
              obtain ⟨f, hf, rfl⟩ := List.mem_map.mp ha
              exact askok f (hfo f hf)
            have fOk : ∀ kk en : Str, (kk = "value" ∨ kk = "fail") → (en = "one" ∨ en = "false") → Fact.Ok ls fx ⟨x, vs, kk, en⟩ := fun kk en h1 h2 => ⟨hx, ⟨kx, hkx, hvl⟩, hv3, h1, h2⟩
            have tail : ∀ (H18 : Hp) (kT : Addr) (l : List Str), Same H17 H18 → (GD.mk ls fx cm []).asked ⟨x, vs, "value", "one"⟩ = (x, l) →
                ((x, l) ∈ fs.map (GD.mk ls fx cm []).asked → frI K p m aN dL fA cA tA' eA o5 ls fx cm H11 (n + 90) (k + 1) [some (.ref p), some (.int m), some (.ref aN), some (.ref dL), some (.ref fA), o5, some (.str x), some (.ref cA), some (.ref tA'), some (.ref eA), some (.int (0 + (k : Int))), some (.ref D), some (.ref kT), o13, none] H18) ∧
                ((x, l) ∉ fs.map (GD.mk ls fx cm []).asked → ∀ (H' : Hp) (t : Addr) (kk en : Str) (s13' : Option V), Bt [p, tA', eA] H18 H' → H' tA' = some (.lst ((ts ++ [t]).map V.ref)) → H' eA = some (.lst ((ks ++ [kT]).map V.ref)) → FactAt (hid [p, tA', eA] H') ⟨x, vs, kk, en⟩ t →
                  DpAll K (hid [p, tA', eA] H') ((ks ++ [kT]).map V.ref) ((fs.map (GD.mk ls fx cm []).asked ++ [(x, l)]).map kd) → (kk = "value" ∨ kk = "fail") → (en = "one" ∨ en = "false") → PoolIs H' p (n + 90 + 5 * k + 1 + kx + 2) →
                  frI K p m aN dL fA cA tA' eA o5 ls fx cm H11 (n + 90) (k + 1) [some (.ref p), some (.int m), some (.ref aN), some (.ref dL), some (.ref fA), o5, some (.str x), some (.ref cA), some (.ref tA'), some (.ref eA), some (.int (0 + (k : Int))), some (.ref D), some (.ref kT), s13', none] H') := fun H18 kT l s18 hask => by
              refine ⟨fun _ => ⟨fs, ts, ks, _, _, _, _, _, rfl, B1117.trans (bt_of s18), s18 _ _ hT17, s18 _ _ hE17, Paired.mapP hts fun _ _ r => r.mono (B1517.trans (bt_of s18)), dps_mono (B1517.trans (bt_of s18)) hks, (by omega), hfo, hfd, hkl, P17.mono s18 (by omega)⟩, fun hnew H' t kk en s13' b' hT' hE' hf' hs' h1 h2 P' => ?_⟩
              have eq : (GD.mk ls fx cm []).asked ⟨x, vs, kk, en⟩ = (x, l) := hask
              refine ⟨fs ++ [⟨x, vs, kk, en⟩], ts ++ [t], ks ++ [kT], _, _, _, _, _, rfl, (B1117.trans (bt_of s18)).trans b', hT', hE', ?_, ?_, ?_, ?_, ?_, ?_, P'.mono (Same.refl _) (by omega)⟩
              · exact paired_app (Paired.mapP hts fun _ _ r => r.mono ((B1517.trans (bt_of s18)).trans b')) (.cons hf' .nil)
              · rw [List.map_append (f := (GD.mk ls fx cm []).asked)]
                show DpAll K _ _ ((fs.map (GD.mk ls fx cm []).asked ++ [(GD.mk ls fx cm []).asked ⟨x, vs, kk, en⟩]).map kd)
                rw [eq]
                exact hs'
              · rw [List.length_append]
                show fs.length + 1 ≤ k + 1
                omega
              · intro f hf
                rcases List.mem_append.mp hf with h | h
                · exact hfo f h
                · rw [List.mem_singleton.mp h]; exact fOk kk en h1 h2
              · rw [List.map_append, List.nodup_append]
                refine ⟨hfd, by simp, fun a ha b hb e => ?_⟩
                have hb' : b = (GD.mk ls fx cm []).asked ⟨x, vs, kk, en⟩ := List.mem_singleton.mp hb
                rw [hb', eq] at e
                rw [e] at ha
                exact hnew ha
              · rw [List.length_append, List.length_append, hkl]
                rfl
            refine ⟨_, rfl, _, rfl, _, rfl, cA, sts cm, rfl, .inl (SqL.of hC17), rfl, flat_sts cm, _, rfl, ?_⟩
            rw [if_neg Bool.false_ne_true, inV_sts]
            by_cases hxc : x ∈ cm
            · rw [decide_eq_true hxc]
              refine iteT ⟨_, rfl, D, vs, rfl, SqL.of hD17, by omega, fun ys q2 hperm hsrt nq2 => ?_⟩
              obtain ⟨H18, s18, h18, e18⟩ := lay (o := .lst (ys.map V.str)) nq2
              rw [e18]
              refine ⟨by show 2 ≤ sizeLine; decide, fun kT nkT => ?_⟩
              obtain ⟨H19, s19, h19, e19⟩ := lay (o := .tup [.str x, .ref q2]) nkT
              rw [e19]
              have ey : ys = sort2 vs := sort2_of hperm hsrt v2l hv3
              have s1719 := s18.trans s19
              have hask : (GD.mk ls fx cm []).asked ⟨x, vs, "value", "one"⟩ = (x, ys) := by
                rw [ey]
                show (x, if x ∈ cm then sort2 vs else vs) = (x, sort2 vs)
                rw [if_pos hxc]
              have q2n : q2 ∉ [p, tA', eA] := ni3 (P17.ne nq2) (ne_of_none hT17 nq2).symm (ne_of_none hE17 nq2).symm
              exact fact_tail (P17.mono s1719 (Nat.le_refl _)) (by omega) (s1719 _ _ hT17) (s1719 _ _ hE17) tp ep te lts (by omega) h19 (s19 _ _ h18) q2n (s1719 _ _ hD17) Dn3 (dps_mono (B1517.trans (bt_of s1719)) hks) oks
                ⟨okx, fun v hv => ok3 v (hv3 v (hperm.subset hv))⟩ (tail H19 kT ys s1719 hask).1 (tail H19 kT ys s1719 hask).2
            · rw [decide_eq_false hxc]
              refine iteF ⟨_, rfl, by show 2 ≤ sizeLine; decide, fun kT nkT => ?_⟩
              obtain ⟨H19, s19, h19, e19⟩ := lay (o := .tup [.str x, .ref D]) nkT
              rw [e19]
              have hask : (GD.mk ls fx cm []).asked ⟨x, vs, "value", "one"⟩ = (x, vs) := by
                show (x, if x ∈ cm then sort2 vs else vs) = (x, vs)
                rw [if_neg hxc]
              exact fact_tail (P17.mono s19 (Nat.le_refl _)) (by omega) (s19 _ _ hT17) (s19 _ _ hE17) tp ep te lts (by omega) h19 (s19 _ _ hD17) Dn3 (s19 _ _ hD17) Dn3 (dps_mono (B1517.trans (bt_of s19)) hks) oks
                ⟨okx, fun v hv => ok3 v (hv3 v hv)⟩ (tail H19 kT vs s19 hask).1 (tail H19 kT vs s19 hask).2
        · rintro σ H15 ⟨fs, ts, ks, o6, o10, o11, o12, o13, rfl, B15, hT15, hE15, hts, hks, hfl, hfo, hfd, hkl, P15⟩
          have hFx := bt_at B15 (ni3 nfp nFt nFe) hF11
          have hLx := bt_at B15 (ni3 ndp nLt nLe) hL11
          have hCx := bt_at B15 (ni3 cp nCt nCe) hC11
          have ntH : ∀ {b : Addr} {o : HO}, H b = some o → b ≠ p → b ∉ [p, tA', eA] := fun e np => by
            have e9 := bt_at B9' (ni1 np) e
            exact ni3 np (ne_of_none e9 ntA') (ne_of_none (s10 _ _ e9) neA)
          have B015 : Bt [p] H H15 := fun b o e => by
            obtain ⟨e', nb⟩ := hid_in e
            have np : b ≠ p := fun z => nb (by rw [z]; exact List.mem_cons_self)
            exact hid_to nb (bt_at B15 (ntH e' np) (s911 _ _ (bt_at B9' nb e')))
          refine ⟨_, rfl, by show 2 ≤ sizeLine; decide, fun t1 n1 => ?_⟩
          obtain ⟨G1, g1, k1, e1⟩ := lay (o := .tup [.str "letters", .ref dL]) n1
          rw [e1]
          refine ⟨_, rfl, by show 2 ≤ sizeLine; decide, fun t2 n2 => ?_⟩
          obtain ⟨G2, g2, k2, e2⟩ := lay (o := .tup [.str "fixed", .ref fA]) n2
          rw [e2]
          refine ⟨_, rfl, by show 2 ≤ sizeLine; decide, fun t3 n3 => ?_⟩
          obtain ⟨G3, g3, k3, e3⟩ := lay (o := .tup [.str "commuting", .ref cA]) n3
          rw [e3]
          refine ⟨_, rfl, by show 2 ≤ sizeLine; decide, fun t4 n4 => ?_⟩
          obtain ⟨G4, g4, k4, e4⟩ := lay (o := .tup [.str "facts", .ref tA']) n4
          rw [e4]
          refine ⟨by show 4 ≤ sizeLine; decide, fun tl ntl => ?_⟩
          obtain ⟨G5, g5, k5, e5⟩ := lay (o := .lst [.ref t1, .ref t2, .ref t3, .ref t4]) ntl
          rw [e5]
          refine ⟨tl, [t1, t2, t3, t4], [(.inr "letters", .ref dL), (.inr "fixed", .ref fA), (.inr "commuting", .ref cA), (.inr "facts", .ref tA')], rfl, SqL.of k5,
            .cons (SqT.of (g5 _ _ (g4 _ _ (g3 _ _ (g2 _ _ k1))))) (.cons (SqT.of (g5 _ _ (g4 _ _ (g3 _ _ k2)))) (.cons (SqT.of (g5 _ _ (g4 _ _ k3))) (.cons (SqT.of (g5 _ _ k4)) .nil))), fun g ng => ?_⟩
          obtain ⟨G6, g6, k6, e6⟩ := lay (o := .dK [(.inr "letters", .ref dL), (.inr "fixed", .ref fA), (.inr "commuting", .ref cA), (.inr "facts", .ref tA')]) ng
          have em : mergeK [] [((.inr "letters" : Key), V.ref dL), (.inr "fixed", .ref fA), (.inr "commuting", .ref cA), (.inr "facts", .ref tA')] = [(.inr "letters", .ref dL), (.inr "fixed", .ref fA), (.inr "commuting", .ref cA), (.inr "facts", .ref tA')] := by rfl
          show Q (.ref g) (upd G5 g (.dK (mergeK [] [((.inr "letters" : Key), V.ref dL), (.inr "fixed", .ref fA), (.inr "commuting", .ref cA), (.inr "facts", .ref tA')])))
          rw [em, e6]
          have s156 : Same H15 G6 := ((((g1.trans g2).trans g3).trans g4).trans g5).trans g6
          have gp : g ≠ p := (P15.mono ((((g1.trans g2).trans g3).trans g4).trans g5) (Nat.le_refl _)).ne ng
          refine q g ⟨ls, fx, cm, fs⟩ G6 (B015.trans (bt_of s156)) ⟨dL, fA, cA, tA', hid_to (ni1 gp) k6, hid_to (ni1 ndp) (s156 _ _ hLx), hid_to (ni1 nfp) (s156 _ _ hFx), hid_to (ni1 cp) (s156 _ _ hCx), ts, hid_to (ni1 tp) (s156 _ _ hT15), Paired.mapP hts fun _ _ r => r.mono ((hid_less (by simp)).trans (hid_same s156))⟩ ?_ (by show (ls.length : Int) ≤ m; have := congrArg List.length hls; rw [List.length_map] at this; omega) (P15.mono s156 (by omega))
          refine ⟨?_, lnd, ?_, (show ls.length ≤ 8 by have := congrArg List.length hls; rw [List.length_map] at this; omega), har, ?_, hcm, hc2, (show fs.length ≤ 6 by omega), hfo, hfd⟩
          · intro e
            have : ls.length = 0 := by
              have e' : ls = [] := e
              rw [e']; rfl
            have := congrArg List.length hls
            rw [List.length_map] at this
            omega
          · intro q hq
            refine nsub q.1 ?_
            rw [← hls]
            exact List.mem_map.mpr ⟨q, hq, rfl⟩
          · show fx.Sublist (ls.map (·.1))
            rw [hls]
            exact hfx
    --END
end
end K7
set_option Elab.async false
set_option linter.all false
set_option autoImplicit false
set_option maxRecDepth 100000
set_option maxHeartbeats 8000000
namespace GB
open PySem PySem.Spec L2 EqT LamX
/-- [(word, x) for x in xs] -/
def tR1 (K : PySem.W.Frag) (i k : Nat) (wd : Str) : TE := fun σ H Q => ∃ (a : Addr) (xs : List Str), σ[i]? = some (some (.ref a)) ∧ k < σ.length ∧ SqL K H a (sts xs) ∧ xs.length ≤ 100 ∧ ∀ D H', RowsIn H H' D (xs.map fun x => ([wd, x] : List Str)) → Q (.ref D) H'
theorem r1_weak {K : PySem.W.Frag} {i k : Nat} {wd : Str} (σ : L2.St) (H : Hp) (Q : VK) (h : tR1 K i k wd σ H Q) : tLc (iSeqW K (tVar i)) (gName k) tYes (tTup (tCons (tC (.str wd)) (tCons (tVar k) tNil))) [k] σ H Q := by
  obtain ⟨a, xs, hi, hk, hS, hl, q⟩ := h
  exact rows1 hi hk hS hl q
/-- [row of x for x in xs] -/
def tRG (K : PySem.W.Frag) (i k : Nat) (te : TE) : TE := fun σ H Q => ∃ (a : Addr) (xs : List Str) (f : Str → PRow), σ[i]? = some (some (.ref a)) ∧ k < σ.length ∧ SqL K H a (sts xs) ∧ xs.length ≤ 100 ∧
  (∀ (H' : Hp) (y : Str) (Q' : VK), Same H H' → (∀ t, H' t = none → Q' (.ref t) (upd H' t (.tup (sts (f y))))) → te ((wipe σ [k]).set k (some (.str y))) H' Q') ∧ ∀ D H', RowsIn H H' D (xs.map f) → Q (.ref D) H'
theorem rowsGJ {K : PySem.W.Frag} {k : Nat} {te : TE} {f : Str → PRow} {σ : L2.St} {H : Hp} {Q : VK} {a : Addr} {xs : List Str} {J : It} (WJ : Walk J (sts xs).length (fun H => SqV K (hid [] H) a (sts xs) true) (YAt (sts xs))) (hS : SqV K (hid [] H) a (sts xs) true) (hl : xs.length ≤ 100)
    (hte : ∀ (H' : Hp) (y : Str) (Q' : VK), Same H H' → (∀ t, H' t = none → Q' (.ref t) (upd H' t (.tup (sts (f y))))) → te ((wipe σ [k]).set k (some (.str y))) H' Q')
    (q : ∀ D H', RowsIn H H' D (xs.map f) → Q (.ref D) H') : tLcJ J (gName k) tYes te [k] σ H Q := by
  intro D nD
  refine lc_it WJ (fun j H' => RowsIn H H' D ((xs.take j).map f)) (RowsIn.start nD) (fun j H' _ r => hS.mono (hid_same r.same)) ?_ ?_
  · rintro j x H2 H3 hj r ⟨rfl, hx⟩
    obtain ⟨sx, hsx, rfl⟩ := sts_at hx
    have hlen : ((xs.take j).map f).length ≤ 1000 := by rw [List.length_map, List.length_take]; omega
    refine ⟨?_, ?_⟩
    · simp [wipe, List.set_set]
    · refine hte _ sx _ r.same fun t nt => ?_
      have := r.more (row := f sx) (Same.refl _) hlen nt
      rw [take_at hsx, List.map_append]
      exact this
  · intro H' r
    rw [List.take_of_length_le (by rw [sts_len]; exact Nat.le_refl _)] at r
    exact q D H' r
theorem rg_weak {K : PySem.W.Frag} {i k : Nat} {te : TE} (σ : L2.St) (H : Hp) (Q : VK) (h : tRG K i k te σ H Q) : tLc (iSeqW K (tVar i)) (gName k) tYes te [k] σ H Q := by
  obtain ⟨a, xs, f, hi, hk, hS, hl, hte, q⟩ := h
  exact ⟨_, hi, a, sts xs, true, [], rfl, same_hid0.seq hS, fun J WJ => rowsGJ WJ (same_hid0.seq hS) hl hte q⟩
/-- [row of x for x in xs[i + 1:]], xs in the slot 2, i in the slot 6 -/
def tRSl (K : PySem.W.Frag) (te : TE) : TE := fun σ H Q => ∃ (a : Addr) (xs : List Str) (i : Nat) (f : Str → PRow), σ[2]? = some (some (.ref a)) ∧ σ[6]? = some (some (.int (0 + (i : Nat)))) ∧ SqL K H a (sts xs) ∧ xs.length ≤ 100 ∧
  (∀ (H' : Hp) (y : Str) (Q' : VK), Same H H' → (∀ t, H' t = none → Q' (.ref t) (upd H' t (.tup (sts (f y))))) → te ((wipe σ [5]).set 5 (some (.str y))) H' Q') ∧ ∀ D H', RowsIn H H' D ((xs.drop (i + 1)).map f) → Q (.ref D) H'
theorem rsl_weak {K : PySem.W.Frag} {te : TE} (σ : L2.St) (H : Hp) (Q : VK) (h : tRSl K te σ H Q) : tLc (iSeqW K (tSl (rSlL K) (tVar 2) (tPart (tOp (rI0 fun i j => .int (i + j)) (tVar 6) (tC (.int 1)))) tNoPart)) (gName 5) tYes te [5] σ H Q := by
  obtain ⟨a, xs, i, f, h2, h6, hS, hl, hte, q⟩ := h
  refine ⟨_, h2, _, h6, _, _, rfl, rfl, _, rfl, a, sts xs, rfl, hS, fun c nc => ?_⟩
  rw [show ((0 + (i : Nat) : Int) + 1) = ((i + 1 : Nat) : Int) by omega, cut_from, show (sts xs).drop (i + 1) = sts (xs.drop (i + 1)) from (List.map_drop).symm]
  obtain ⟨H1, s1, h1, e1⟩ := lay (o := .lst (sts (xs.drop (i + 1)))) nc
  rw [e1]
  refine ⟨c, sts (xs.drop (i + 1)), true, [], rfl, same_hid0.seq (SqL.of h1), fun J WJ => ?_⟩
  exact rowsGJ (Q := Q) (f := f) WJ (same_hid0.seq (SqL.of h1)) (by rw [List.length_drop]; omega) (fun H' y Q' s' k => hte H' y Q' (s1.trans s') k) fun D H' r => q D H' ⟨s1.free r.nw, s1.trans r.same, r.ex⟩
/-- a list of rows that is made longer -/
theorem ext_rows {H1 H2 : Hp} {D E : Addr} {rs ss : List PRow} {ts : List Addr} (hD : H1 D = some (.lst (ts.map V.ref))) (hr : RowsAt (hid [D] H1) rs ts) (R : RowsIn H1 H2 E ss) (hl : rs.length + ss.length ≤ 1000) :
    ∃ us, H2 E = some (.lst (us.map V.ref)) ∧ H2 D = some (.lst (ts.map V.ref)) ∧ (ts.map V.ref).length + (us.map V.ref).length ≤ sizeLine ∧ Same (hid [D] H1) (hid [D] (upd H2 D (.lst (ts.map V.ref ++ us.map V.ref)))) ∧ (upd H2 D (.lst (ts.map V.ref ++ us.map V.ref))) D = some (.lst ((ts ++ us).map V.ref)) ∧ RowsAt (hid [D] (upd H2 D (.lst (ts.map V.ref ++ us.map V.ref)))) (rs ++ ss) (ts ++ us) := by
  obtain ⟨us, hE, hu⟩ := R.done
  have l1 := Paired.length hr
  have l2 := Paired.length hu
  have hD2 := R.same _ _ hD
  have B : Bt [D] H2 (upd H2 D (.lst (ts.map V.ref ++ us.map V.ref))) := bt_upd (by simp)
  have S : Same (hid [D] H1) (hid [D] (upd H2 D (.lst (ts.map V.ref ++ us.map V.ref)))) := (hid_same R.same).trans B
  refine ⟨us, hE, hD2, by rw [List.length_map, List.length_map, sizeLine_eq]; omega, S, by rw [upd_same, List.map_append], (hr.mono S).app (Paired.mapP hu fun row t rt => B _ _ (hid_to (ni1 (ne_of (show H2 t = some (.tup (sts row)) from rt) hD2 (fun z => nomatch z))) rt))⟩
end GB
namespace K7
open PySem PySem.Spec L2 GB EqT LamX
abbrev sEv : Stmt := topS 41
def evN : List Str := ["_law_g", "_law_letters", "_law_free", "_law_x", "_law_found", "_law_y", "_law_at"]
def spEv : Sp := fun vs H Q _ => ∃ (a : Addr) (gd : GD), vs = [.ref a] ∧ IsG H a gd ∧ gd.Fit ∧ ∀ l ts H', H l = none → Same H H' → H' l = some (.lst (ts.map V.ref)) → RowsAt H' gd.perms ts → Q (.ref l) H'
section
variable {P : Program} {w : World} {K : PySem.W.Frag} {mg : Str → Option Value} {base : Heap} {C CP PT : Addr}
theorem scEv : FnScope evN ["_law_g"] (defScope sEv) := ⟨rfl, rfl, rfl, by decide +kernel, rfl, by decide +kernel, by decide +kernel⟩
theorem ok_ev {f : Addr} {fd : FuncData} (F : Fun K "_law_every" "_law_every" sEv f fd) (T : Bl mg) : FnOk P w K mg base CX0 1 f fd ["_law_g"] spEv := by
  refine F.ok scEv (fun vs H Q E h => ?_) (fun cdv A outer s H vs Q E hr h => ?_)
  · obtain ⟨a, gd, rfl, _⟩ := h
    rfl
  · obtain ⟨a, gd, rfl, hG, fit, q⟩ := h
    refine ⟨_, pss_cons (ps_set (i := 1) scEv.nd rfl (.inl rfl) (pe_callTy (call_listD rfl) (by rfl) T.list (by decide +kernel) (pa_cons (pe_dget (hu_of hr) (pv 0) pe_str (fun _ _ => rfl)) pa_nil))) (pss_cons (ps_set (i := 2) scEv.nd rfl (.inr rfl) (pe_lc (own := [("_law_x", 3)]) (g := gName 3) (tt := tTest (tOp (rIn K true) (tVar 3) (tDGet (tVar 0) (tC (.str "fixed"))))) rfl scEv.nd (pi_seqW (pv 1)) (blkOk_by (own := [("_law_x", 3)]) (N := evN) (sc := defScope sEv) (by decide +kernel)) (fun _ _ _ _ _ => pg_name (i := 3) scEv.nd rfl (.inl rfl)) (fun _ _ _ _ _ => pts_one (pt_cmpR op_notIn_seq (pv 3) (pe_dget (hu_of hr) (pv 0) pe_str (fun _ _ => rfl)) (by rfl))) (fun _ _ _ _ _ => pv 3))) (pss_cons (ps_set (i := 4) scEv.nd rfl (.inl rfl) (pe_op op_cat (pe_op op_cat (pe_weak (t' := tR1 K 1 3 "fails") (pe_lc (own := [("_law_x", 3)]) (g := gName 3) (tt := tYes) rfl scEv.nd (pi_seqW (pv 1)) (blkOk_by (own := [("_law_x", 3)]) (N := evN) (sc := defScope sEv) (by decide +kernel)) (fun _ _ _ _ _ => pg_name (i := 3) scEv.nd rfl (.inl rfl)) (fun _ _ _ _ _ => pts_nil) (fun _ _ _ _ _ => pe_tup (pa_cons (pe_str) (pa_cons (pv 3) (pa_nil))))) r1_weak) (pe_weak (t' := tR1 K 1 3 "stays") (pe_lc (own := [("_law_x", 3)]) (g := gName 3) (tt := tYes) rfl scEv.nd (pi_seqW (pv 1)) (blkOk_by (own := [("_law_x", 3)]) (N := evN) (sc := defScope sEv) (by decide +kernel)) (fun _ _ _ _ _ => pg_name (i := 3) scEv.nd rfl (.inl rfl)) (fun _ _ _ _ _ => pts_nil) (fun _ _ _ _ _ => pe_tup (pa_cons (pe_str) (pa_cons (pv 3) (pa_nil))))) r1_weak)) (pe_weak (t' := tR1 K 2 3 "writes") (pe_lc (own := [("_law_x", 3)]) (g := gName 3) (tt := tYes) rfl scEv.nd (pi_seqW (pv 2)) (blkOk_by (own := [("_law_x", 3)]) (N := evN) (sc := defScope sEv) (by decide +kernel)) (fun _ _ _ _ _ => pg_name (i := 3) scEv.nd rfl (.inl rfl)) (fun _ _ _ _ _ => pts_nil) (fun _ _ _ _ _ => pe_tup (pa_cons (pe_str) (pa_cons (pv 3) (pa_nil))))) r1_weak))) (pss_cons (ps_for PassesOwn.never rfl (pi_seqW (pv 2)) (pg_name (i := 3) scEv.nd rfl (.inr rfl)) (pss_one (ps_expr (pe_bm PySem.F.plainAttrs_list PySem.F.slot_list_extend PySem.F.type_list_extend mt_extend (pv 4) (pa_cons (pe_weak (t' := tRG K 2 5 (tTup (tCons (tC (.str "shows")) (tCons (tVar 3) (tCons (tVar 5) tNil))))) (pe_lc (own := [("_law_y", 5)]) (g := gName 5) (tt := tYes) rfl scEv.nd (pi_seqW (pv 2)) (blkOk_by (own := [("_law_y", 5)]) (N := evN) (sc := defScope sEv) (by decide +kernel)) (fun _ _ _ _ _ => pg_name (i := 5) scEv.nd rfl (.inl rfl)) (fun _ _ _ _ _ => pts_nil) (fun _ _ _ _ _ => pe_tup (pa_cons (pe_str) (pa_cons (pv 3) (pa_cons (pv 5) (pa_nil)))))) rg_weak) (pa_nil)))))) (pss_cons (ps_for PassesOwn.never rfl (pi_range1 rfl T.range (pa_cons (pe_callB call_len_seq (by rfl) T.len PySem.boot_len (pa_cons (pv 2) (pa_nil))) (pa_nil))) (pg_name (i := 6) scEv.nd rfl (.inr rfl)) (pss_one (ps_expr (pe_bm PySem.F.plainAttrs_list PySem.F.slot_list_extend PySem.F.type_list_extend mt_extend (pv 4) (pa_cons (pe_weak (t' := tRSl K (tTup (tCons (tC (.str "shares")) (tCons (tOp (rIxL K) (tVar 2) (tVar 6)) (tCons (tVar 5) tNil))))) (pe_lc (own := [("_law_y", 5)]) (g := gName 5) (tt := tYes) rfl scEv.nd (pi_seqW (pe_slice sl_list (pv 2) (po_some (pe_op op_add (pv 6) pe_int)) po_none)) (blkOk_by (own := [("_law_y", 5)]) (N := evN) (sc := defScope sEv) (by decide +kernel)) (fun _ _ _ _ _ => pg_name (i := 5) scEv.nd rfl (.inl rfl)) (fun _ _ _ _ _ => pts_nil) (fun _ _ _ _ _ => pe_tup (pa_cons (pe_str) (pa_cons (pe_ix (r := rIxL K) ix_list (pv 2) (pv 6) (fun _ _ => rfl)) (pa_cons (pv 5) (pa_nil)))))) rsl_weak) (pa_nil)))))) (pss_one (ps_ret (pv 4))))))), ?_⟩
    obtain ⟨aL, aF, aC, aT, g1, g2, g3, g4, g5⟩ := hG.ex
    have v1 : valV [(.inr "letters", .ref aL), (.inr "fixed", .ref aF), (.inr "commuting", .ref aC), (.inr "facts", .ref aT)] (.inr "letters" : Key) = some (.ref aL) := by rfl
    have v2 : valV [(.inr "letters", .ref aL), (.inr "fixed", .ref aF), (.inr "commuting", .ref aC), (.inr "facts", .ref aT)] (.inr "fixed" : Key) = some (.ref aF) := by rfl
    refine ⟨_, rfl, a, .ref aL, rfl, (by rw [← v1]; exact DGet.k (k := .inr "letters") g1), aL, _, rfl, .inl g2, fun L nL => ?_⟩
    rw [lkv_keys]
    obtain ⟨H1, s1, h1, e1⟩ := lay (o := .lst (sts (gd.letters.map (·.1)))) nL
    rw [e1]
    have lle : (gd.letters.map (·.1)).length ≤ 12 := by rw [List.length_map]; exact fit.le
    have lmv : gd.mv.length ≤ 12 := Nat.le_trans (List.length_filter_le _ _) lle
    generalize hls : gd.letters.map (·.1) = ls at h1 lle
    have hmv : gd.mv = ls.filter fun x => !decide (x ∈ gd.fixed) := by rw [← hls]; rfl
    refine ⟨_, rfl, L, sts ls, true, [], rfl, same_hid0.seq (SqL.of h1), fun J WJ M nM => ?_⟩
    refine lc_it WJ (fun i H' => Same H1 H' ∧ H' M = some (.lst (sts ((ls.take i).filter fun x => !decide (x ∈ gd.fixed))))) ⟨same_new nM, upd_same⟩ (fun i H' _ s' => same_hid0.seq (SqL.of (s'.1 _ _ h1))) ?_ ?_
    · rintro i x H2' H2 hi ⟨s2, hM⟩ ⟨rfl, hx⟩
      obtain ⟨sx, hsx, rfl⟩ := sts_at hx
      refine ⟨rfl, ?_⟩
      refine ⟨_, rfl, _, rfl, a, .ref aF, rfl, (by rw [← v2]; exact DGet.k (k := .inr "fixed") (s2 _ _ (s1 _ _ g1))), aF, sts gd.fixed, rfl, .inl (SqL.of (s2 _ _ (s1 _ _ g3))), rfl, flat_sts _, _, rfl, ?_⟩
      rw [show (if true = true then !inV (.str sx) (sts gd.fixed) else inV (.str sx) (sts gd.fixed)) = !decide (sx ∈ gd.fixed) from congrArg (!·) (inV_sts _ _)]
      rw [take_at hsx, List.filter_append]
      by_cases c : sx ∈ gd.fixed
      · rw [decide_eq_true c]
        refine ⟨s2, ?_⟩
        rw [List.filter_cons_of_neg (by simp [c]), List.filter_nil, List.append_nil]
        exact hM
      · rw [decide_eq_false c]
        refine ⟨_, rfl, _, hM, ?_, fun b o e => ?_, ?_⟩
        · rw [sts_len, sizeLine_eq]
          have h1 := List.length_filter_le (fun x => !decide (x ∈ gd.fixed)) (ls.take i)
          rw [List.length_take] at h1
          omega
        · rw [upd_ne (ne_of_none e nM)]; exact s2 _ _ e
        · rw [upd_same, List.filter_cons_of_pos (by simp [c]), List.filter_nil]
          unfold sts
          rw [List.map_append]
          rfl
    rintro H2 ⟨s2, hM⟩
    rw [List.take_of_length_le (by rw [sts_len]; exact Nat.le_refl _), ← hmv] at hM
    generalize hm : gd.mv = mv at hM lmv
    have S2 := s1.trans s2
    refine ⟨L, ls, rfl, by show 3 < 7; decide, SqL.of (s2 _ _ h1), by omega, fun D1 H3 r1 => ?_⟩
    refine ⟨L, ls, rfl, by show 3 < 7; decide, SqL.of (r1.same _ _ (s2 _ _ h1)), by omega, fun D2 H4 r2 => ?_⟩
    obtain ⟨t1, d1, p1⟩ := r1.done
    obtain ⟨t2, d2, p2⟩ := r2.done
    have l1 := Paired.length p1
    have l2 := Paired.length p2
    rw [List.length_map] at l1 l2
    refine ⟨D1, D2, _, _, rfl, rfl, r2.same _ _ d1, d2, by rw [List.length_map, List.length_map, sizeLine_eq]; omega, fun D3 n3 => ?_⟩
    obtain ⟨H5, s5, h5, e5⟩ := lay (o := .lst (t1.map V.ref ++ t2.map V.ref)) n3
    rw [e5]
    refine ⟨M, mv, rfl, by show 3 < 7; decide, SqL.of (s5 _ _ (r2.same _ _ (r1.same _ _ hM))), by omega, fun D4 H6 r4 => ?_⟩
    obtain ⟨t4, d4, p4⟩ := r4.done
    have l4 := Paired.length p4
    rw [List.length_map] at l4
    refine ⟨D3, D4, _, _, rfl, rfl, r4.same _ _ h5, d4, by rw [List.length_append, List.length_map, List.length_map, List.length_map, sizeLine_eq]; omega, fun D nD => ?_⟩
    obtain ⟨H7, s7, h7, e7⟩ := lay (o := .lst (t1.map V.ref ++ t2.map V.ref ++ t4.map V.ref)) nD
    rw [e7]
    have S37 : Same H3 H7 := ((r2.same.trans s5).trans r4.same).trans s7
    have R0 : RowsAt H7 (((ls.map fun x => ([wF, x] : PRow)) ++ (ls.map fun x => ([wS, x] : PRow))) ++ (mv.map fun x => ([wW, x] : PRow))) (t1 ++ t2 ++ t4) := ((p1.mono S37).app (p2.mono ((s5.trans r4.same).trans s7))).app (p4.mono s7)
    have lR0 : (((ls.map fun x => ([wF, x] : PRow)) ++ (ls.map fun x => ([wS, x] : PRow))) ++ (mv.map fun x => ([wW, x] : PRow))).length ≤ 36 := by
      rw [List.length_append, List.length_append, List.length_map, List.length_map, List.length_map]
      omega
    have h7' : H7 D = some (.lst ((t1 ++ t2 ++ t4).map V.ref)) := by rw [h7]; simp
    have R0h : RowsAt (hid [D] H7) (((ls.map fun x => ([wF, x] : PRow)) ++ (ls.map fun x => ([wS, x] : PRow))) ++ (mv.map fun x => ([wW, x] : PRow))) (t1 ++ t2 ++ t4) := Paired.mapP R0 fun row t rt => hid_to (ni1 (ne_of (show H7 t = some (.tup (sts row)) from rt) h7' (fun z => nomatch z))) rt
    generalize hRR : ((ls.map fun x => ([wF, x] : PRow)) ++ (ls.map fun x => ([wS, x] : PRow))) ++ (mv.map fun x => ([wW, x] : PRow)) = RR at R0h lR0
    have hM7 := S37 _ _ (r1.same _ _ hM)
    have DM : M ≠ D := fun z => by
      have := ((((r1.same.trans r2.same).trans s5).trans r4.same) _ _ hM)
      rw [z, nD] at this
      cases this
    have hMh : hid [D] H7 M = some (.lst (sts mv)) := hid_to (ni1 DM) hM7
    have SH : Same H (hid [D] H7) := fun b o e => by
      have e6 := ((((r1.same.trans r2.same).trans s5).trans r4.same) _ _ (S2 _ _ e))
      exact hid_to (ni1 (fun z => by rw [z, nD] at e6; cases e6)) (s7 _ _ e6)
    have nDH : H D = none := (((S2.trans r1.same).trans r2.same).trans (s5.trans r4.same)).free nD
    refine ⟨_, rfl, M, sts mv, true, [D], rfl, SqL.of hMh, fun J1 WJ1 => ?_⟩
    refine for_it WJ1 (fun i σ H' => ∃ (o3 : Option V) (ts : List Addr), σ = [some (.ref a), some (.ref L), some (.ref M), o3, some (.ref D), none, none] ∧ Same (hid [D] H7) (hid [D] H') ∧ H' D = some (.lst (ts.map V.ref)) ∧ RowsAt (hid [D] H') (RR ++ showsOf (mv.take i) mv) ts)
      ⟨none, _, rfl, Same.refl _, h7', by rw [List.take_zero]; show RowsAt _ (RR ++ []) _; rw [List.append_nil]; exact R0h⟩ (fun i σ H' _ ⟨_, _, _, S, _⟩ => SqL.of (S _ _ hMh)) ?_ ?_
    · rintro i x σ H8' H8 hi ⟨o3, ts, rfl, S8, hD8, r8⟩ ⟨rfl, hx⟩
      obtain ⟨sx, hsx, rfl⟩ := sts_at hx
      have hM8 : H8 M = some (.lst (sts mv)) := (hid_low _ _) _ _ (S8 _ _ hMh)
      refine ⟨_, rfl, .inl ⟨rfl, _, SqL.of hD8⟩, M, mv, fun y => [wH, sx, y], rfl, by show 5 < 7; decide, SqL.of hM8, by omega, fun H' y Q' s' k => ?_, fun E H9 r9 => ?_⟩
      · exact ⟨_, rfl, _, rfl, by show 3 ≤ sizeLine; decide, k⟩
      · have lsh : (showsOf (mv.take i) mv).length ≤ 400 := by
          rw [showsOf_len]
          have := prod_le (show (mv.take i).length ≤ 20 by rw [List.length_take]; omega) (show mv.length ≤ 20 by omega)
          omega
        obtain ⟨us, x1, x2, x3, x4, x5, x6⟩ := ext_rows hD8 r8 r9 (by rw [List.length_append, List.length_map]; omega)
        refine ⟨D, E, _, _, rfl, rfl, x2, x1, x3, ?_⟩
        refine ⟨_, _, rfl, S8.trans x4, x5, ?_⟩
        rw [take_at hsx]
        unfold showsOf
        rw [List.flatMap_append, List.flatMap_cons, List.flatMap_nil, List.append_nil, ← List.append_assoc]
        exact x6
    rintro σ H8 ⟨o3, ts8, rfl, S8, hD8, r8⟩
    rw [List.take_of_length_le (by rw [sts_len]; exact Nat.le_refl _)] at r8
    have hM8 : H8 M = some (.lst (sts mv)) := (hid_low _ _) _ _ (S8 _ _ hMh)
    have lsh : (showsOf mv mv).length ≤ 400 := by
      rw [showsOf_len]
      have := prod_le (show mv.length ≤ 20 by omega) (show mv.length ≤ 20 by omega)
      omega
    refine ⟨_, rfl, M, sts mv, rfl, .inl (SqL.of hM8), mv.length, by rw [sts_len], by omega, by omega, for_range (lo := 0) (n := mv.length) (fun i σ H' => ∃ (o6 : Option V) (ts : List Addr), σ = [some (.ref a), some (.ref L), some (.ref M), o3, some (.ref D), none, o6] ∧ Same (hid [D] H7) (hid [D] H') ∧ H' D = some (.lst (ts.map V.ref)) ∧ RowsAt (hid [D] H') (RR ++ showsOf mv mv ++ shTo mv i) ts)
      ⟨none, _, rfl, S8, hD8, by show RowsAt _ (_ ++ []) _; rw [List.append_nil]; exact r8⟩ ?_ ?_⟩
    · rintro i σ H9 hi ⟨o6, ts, rfl, S9, hD9, r9⟩
      have hM9 : H9 M = some (.lst (sts mv)) := (hid_low _ _) _ _ (S9 _ _ hMh)
      refine ⟨_, rfl, .inl ⟨rfl, _, SqL.of hD9⟩, ?_⟩
      have hix : mv[i]? = some (mv.getD i "") := by rw [List.getD_eq_getElem?_getD, List.getElem?_eq_getElem hi]; rfl
      refine ⟨M, mv, i, fun y => [wA, mv.getD i "", y], rfl, rfl, SqL.of hM9, by omega, fun H' y Q' s' k => ?_, fun E H10 r10 => ?_⟩
      · refine ⟨_, rfl, _, rfl, M, sts mv, _, .str (mv.getD i ""), rfl, rfl, SqL.of (s' _ _ hM9), ?_, _, rfl, by show 3 ≤ sizeLine; decide, k⟩
        rw [Int.zero_add]
        exact atI_nat (by unfold sts; rw [List.getElem?_map, hix]; rfl)
      · have lto : (shTo mv i).length ≤ 400 := by
          have h1 := shTo_len mv i
          have h2 := prod_le (show i ≤ 20 by omega) (show mv.length ≤ 20 by omega)
          omega
        obtain ⟨us, x1, x2, x3, x4, x5, x6⟩ := ext_rows hD9 r9 r10 (by rw [List.length_append, List.length_append, List.length_map, List.length_drop]; omega)
        refine ⟨D, E, _, _, rfl, rfl, x2, x1, x3, ?_⟩
        refine ⟨_, _, rfl, S9.trans x4, x5, ?_⟩
        rw [shTo, ← List.append_assoc]
        exact x6
    · rintro σ H9 ⟨o6, ts, rfl, S9, hD9, r9⟩
      refine ⟨_, rfl, q D ts H9 nDH ((SH.trans S9).trans (hid_low _ _)) hD9 ?_⟩
      have e : gd.perms = RR ++ showsOf mv mv ++ shTo mv mv.length := by
        rw [← hRR]
        unfold GD.perms allPerms
        rw [hm, hls]
        rfl
      rw [e]
      exact r9.mono (hid_low _ _)
end
end K7
set_option Elab.async false
set_option linter.all false
set_option autoImplicit false
set_option maxRecDepth 100000
set_option maxHeartbeats 8000000
/-! Comprehensions over lists of rows; rows as data. -/
namespace GB
open PySem PySem.Spec L2 EqT LamX
theorem RowsIn.push {H H2 H3 : Hp} {D : Addr} {rows : List PRow} {row : PRow} {u : Addr} (r : RowsIn H H2 D rows) (s : Same H2 H3) (hl : rows.length ≤ 1000) (hu : RowAt H3 row u) :
    ∃ acc, H3 D = some (.lst acc) ∧ acc.length < sizeLine ∧ RowsIn H (upd H3 D (.lst (acc ++ [.ref u]))) D (rows ++ [row]) := by
  obtain ⟨n, s1, ts, h1, h2⟩ := r
  have h13 := s _ _ h1
  have hu' : H3 u = some (.tup (sts row)) := hu
  have uD : u ≠ D := ne_of hu' h13 (fun z => nomatch z)
  have B : Bt [D] H3 (upd H3 D (.lst (ts.map V.ref ++ [.ref u]))) := bt_upd (by simp)
  refine ⟨_, h13, ?_, ⟨n, fun c o e => ?_, ts ++ [u], by rw [upd_same, List.map_append]; rfl, ?_⟩⟩
  · rw [List.length_map, sizeLine_eq]
    have := h2.len
    omega
  · rw [upd_ne (ne_of_none e n)]
    exact s _ _ (s1 _ _ e)
  · exact RowsAt.app (h2.mono ((hid_same s).trans B)) (.cons (B _ _ (hid_to (ni1 uD) hu')) .nil)
/-- the turns of such a comprehension: which rows are taken, and what becomes of them -/
def TurnR (te : TE) (tt : TT) (k : Nat) (σ : L2.St) (H : Hp) (rs : List PRow) (p : PRow → Bool) (f : PRow → PRow) : Prop :=
  (∀ (H' : Hp) (r : PRow) (t : Addr) (R : Bool → Hp → Prop), r ∈ rs → Same H H' → RowAt H' r t → (∀ H'', Same H' H'' → R (p r) H'') → tt ((wipe σ [k]).set k (some (.ref t))) H' R) ∧
  ∀ (H' : Hp) (r : PRow) (t : Addr) (Q' : VK), r ∈ rs → p r = true → Same H H' → RowAt H' r t → (∀ u H'', Same H' H'' → RowAt H'' (f r) u → Q' (.ref u) H'') → te ((wipe σ [k]).set k (some (.ref t))) H' Q'
theorem rowsFJ {K : PySem.W.Frag} {k : Nat} {tt : TT} {te : TE} {p : PRow → Bool} {f : PRow → PRow} {σ : L2.St} {H : Hp} {Q : VK} {a : Addr} {rs : List PRow} {ts : List Addr} {kb : Bool} {J : It}
    (WJ : Walk J (ts.map V.ref).length (fun H => SqV K (hid [] H) a (ts.map V.ref) kb) (YAt (ts.map V.ref))) (hS : SqV K (hid [] H) a (ts.map V.ref) kb) (hr : RowsAt H rs ts) (hl : rs.length ≤ 1000) (tr : TurnR te tt k σ H rs p f)
    (q : ∀ D H', RowsIn H H' D ((rs.filter p).map f) → Q (.ref D) H') : tLcJ J (gName k) tt te [k] σ H Q := by
  intro D nD
  have lr := Paired.length hr
  refine lc_it WJ (fun j H' => RowsIn H H' D (((rs.take j).filter p).map f)) (RowsIn.start nD) (fun j H' _ r => hS.mono (hid_same r.same)) ?_ ?_
  · rintro j x H2' H2 hj r2 ⟨rfl, hx⟩
    have hx : (ts.map V.ref)[j]? = some x := hx
    rw [List.getElem?_map] at hx
    obtain ⟨t, htt, rfl⟩ := Option.map_eq_some_iff.mp hx
    have hjr : j < rs.length := by rw [lr]; exact (List.getElem?_eq_some_iff.mp htt).1
    have hrj : rs[j]? = some rs[j] := List.getElem?_eq_getElem hjr
    generalize rs[j] = r at hrj
    obtain ⟨t', ht', hrt⟩ := paired_at' hr hrj
    obtain rfl : t' = t := by rw [htt] at ht'; exact (Option.some.inj ht').symm
    have hrt2 : RowAt H2 r t' := r2.same _ _ hrt
    have rm := List.mem_of_getElem? hrj
    have hlen : (((rs.take j).filter p).map f).length ≤ 1000 := by
      rw [List.length_map]
      have := List.length_filter_le p (rs.take j)
      rw [List.length_take] at this
      omega
    refine ⟨by simp [wipe, List.set_set], tr.1 H2 r t' _ rm r2.same hrt2 fun H3 s3 => ?_⟩
    rw [take_at hrj, List.filter_append, List.map_append]
    cases c : p r with
    | false =>
      rw [if_neg (by decide), List.filter_cons_of_neg (by simp [c]), List.filter_nil, List.map_nil, List.append_nil]
      exact r2.next s3
    | true =>
      rw [if_pos rfl, List.filter_cons_of_pos c, List.filter_nil]
      exact tr.2 H3 r t' _ rm c (r2.same.trans s3) (s3 _ _ hrt2) fun u H4 s4 hu => r2.push (s3.trans s4) hlen hu
  · intro H' r
    rw [List.take_of_length_le (by rw [List.length_map, lr]; exact Nat.le_refl _)] at r
    exact q D H' r
/-- [.. for row in rows if ..], rows in a slot -/
def tRF (K : PySem.W.Frag) (i k : Nat) (tt : TT) (te : TE) : TE := fun σ H Q => ∃ (a : Addr) (rs : List PRow) (ts : List Addr) (p : PRow → Bool) (f : PRow → PRow), σ[i]? = some (some (.ref a)) ∧ SqA K H a (ts.map V.ref) ∧ RowsAt H rs ts ∧ rs.length ≤ 1000 ∧ TurnR te tt k σ H rs p f ∧
  ∀ D H', RowsIn H H' D ((rs.filter p).map f) → Q (.ref D) H'
theorem rf_weak {K : PySem.W.Frag} {i k : Nat} {tt : TT} {te : TE} (σ : L2.St) (H : Hp) (Q : VK) (h : tRF K i k tt te σ H Q) : tLc (iSeqW K (tVar i)) (gName k) tt te [k] σ H Q := by
  obtain ⟨a, rs, ts, p, f, hi, hS, hr, hl, tr, q⟩ := h
  obtain ⟨kb, hqv⟩ := sqV (hS.mono (same_hid0))
  exact ⟨_, hi, a, ts.map V.ref, kb, [], rfl, hqv, fun J WJ => rowsFJ WJ hqv hr hl tr q⟩
/-- [.. for row in _law_every(g) if ..], g in a slot -/
def tEvF (i k : Nat) (tt : TT) (te : TE) : TE := fun σ H Q => ∃ (g : Addr) (gd : GD), σ[i]? = some (some (.ref g)) ∧ IsG H g gd ∧ gd.Fit ∧ gd.perms.length ≤ 1000 ∧ ∀ H1, Same H H1 → ∃ (p : PRow → Bool) (f : PRow → PRow), TurnR te tt k σ H1 gd.perms p f ∧ ∀ D H', RowsIn H H' D ((gd.perms.filter p).map f) → Q (.ref D) H'
theorem evf_weak {K : PySem.W.Frag} {i k : Nat} {tt : TT} {te : TE} (σ : L2.St) (H : Hp) (Q : VK) (h : tEvF i k tt te σ H Q) : tLc (iSeqW K (tCall K7.spEv [] E0 (tCons (tVar i) tNil))) (gName k) tt te [k] σ H Q := by
  obtain ⟨g, gd, hi, hG, fit, hl, tr⟩ := h
  refine ⟨_, hi, g, gd, rfl, hG, fit, fun l ts H1 nl s1 h1 r1 => ?_⟩
  obtain ⟨p, f, t1, q⟩ := tr H1 s1
  have hqv : SqV K (hid [] H1) l (ts.map V.ref) true := same_hid0.seq (SqL.of h1)
  exact ⟨l, ts.map V.ref, true, [], rfl, hqv, fun J WJ => rowsFJ (Q := Q) WJ hqv r1 hl t1 fun D H' r => q D H' ⟨s1.free r.nw, s1.trans r.same, r.ex⟩⟩
/-! rows as data -/
def rowD (r : PRow) : PyData := .tuple (pst r)
def rowDs (rs : List PRow) : List PyData := rs.map rowD
theorem rowD_eqv (a b : PRow) : PyData.eqv (rowD a) (rowD b) = decide (a = b) := by
  show PyData.eqv (.tuple (pst a)) (.tuple (pst b)) = _
  simp only [PyData.eqv]
  exact eqvAll_pst a b
theorem any_rowD (rs : List PRow) (r : PRow) : ((rowDs rs).any fun z => PyData.eqv z (rowD r)) = decide (r ∈ rs) := by
  unfold rowDs
  induction rs with
  | nil => rfl
  | cons b rs ih =>
    rw [List.map_cons, List.any_cons, ih, rowD_eqv]
    by_cases h : b = r
    · subst h; simp
    · rw [decide_eq_false h, Bool.false_or]
      have : (r ∈ b :: rs) = (r ∈ rs) := propext ⟨fun m => (List.mem_cons.mp m).resolve_left fun e => h e.symm, List.mem_cons_of_mem _⟩
      simp only [this]
theorem dp_row {K : PySem.W.Frag} {H : Hp} {r : PRow} {t : Addr} (h : RowAt H r t) : Dp K H (.ref t) (rowD r) := .tup (SqT.of h) (dp_sts r)
theorem dp_rows {K : PySem.W.Frag} {H : Hp} {rs : List PRow} {ts : List Addr} (h : RowsAt H rs ts) : DpAll K H (ts.map V.ref) (rowDs rs) := by
  induction h with
  | nil => exact .nil
  | cons h _ ih => exact .cons (dp_row h) ih
def OkRow (r : PRow) : Prop := ∀ x ∈ r, PyData.strOk x = true
theorem lay_row {r : PRow} (h : OkRow r) : PyData.canLay0 (rowD r) = true := by
  unfold rowD
  rw [PyData.canLay0]
  exact lay_pst h
theorem dep_row (r : PRow) : PyData.depth (rowD r) = 1 := by
  unfold rowD
  rw [PyData.depth, dep_pst]
theorem shp_row {r : PRow} (h : OkRow r) : SeqAt.shaped (rowD r) = true := by
  unfold SeqAt.shaped
  rw [lay_row h, dep_row]
  rfl
theorem lay_rows {rs : List PRow} (h : ∀ r ∈ rs, OkRow r) : PyData.canLayAll0 (rowDs rs) = true := by
  unfold rowDs
  induction rs with
  | nil => rfl
  | cons r rs ih =>
    rw [List.map_cons, PyData.canLayAll0, lay_row (h r List.mem_cons_self), ih fun b hb => h b (List.mem_cons_of_mem _ hb)]
    rfl
theorem dep_rows (rs : List PRow) : PyData.depthAll (rowDs rs) ≤ 1 := by
  unfold rowDs
  induction rs with
  | nil => decide
  | cons r rs ih =>
    rw [List.map_cons, PyData.depthAll, dep_row]
    omega
theorem shp_rows {rs : List PRow} (h : ∀ r ∈ rs, OkRow r) : SeqAt.shaped (.list (rowDs rs)) = true := by
  unfold SeqAt.shaped
  rw [PyData.canLay0, lay_rows h, PyData.depth]
  have := dep_rows rs
  rw [decide_eq_true (by omega)]
  rfl
theorem okW : PyData.strOk wF = true ∧ PyData.strOk wS = true ∧ PyData.strOk wW = true ∧ PyData.strOk wH = true ∧ PyData.strOk wA = true := by decide +kernel
theorem okr_perm {g : GD} (fit : g.Fit) {r : PRow} (h : r ∈ g.perms) : OkRow r := by
  obtain ⟨o1, o2, o3, o4, o5⟩ := okW
  have okl := fit.okl
  have okm : ∀ x ∈ g.mv, PyData.strOk x = true := fun x hx => okl x (List.mem_filter.mp hx).1
  have two : ∀ {a b : Str}, PyData.strOk a = true → PyData.strOk b = true → OkRow [a, b] := fun h1 h2 x hx => by
    rcases List.mem_cons.mp hx with rfl | hx
    · exact h1
    · rw [List.mem_singleton.mp hx]; exact h2
  have three : ∀ {a b c : Str}, PyData.strOk a = true → PyData.strOk b = true → PyData.strOk c = true → OkRow [a, b, c] := fun h1 h2 h3 x hx => by
    rcases List.mem_cons.mp hx with rfl | hx
    · exact h1
    · exact two h2 h3 x hx
  have hp := mem_perms.mp h
  cases hp with
  | f hx => exact two o1 (okl _ hx)
  | s hx => exact two o2 (okl _ hx)
  | w hx => exact two o3 (okm _ hx)
  | h hx hy => exact three o4 (okm _ hx) (okm _ hy)
  | a hi hx hy => exact three o5 (okm _ (List.mem_of_getElem? hx)) (okm _ (List.mem_of_getElem? hy))
end GB
set_option Elab.async false
set_option linter.all false
set_option autoImplicit false
set_option maxRecDepth 100000
set_option maxHeartbeats 8000000
namespace GB
open PySem PySem.Spec L2 EqT LamX
def isHA (r : PRow) : Bool := decide (r.getD 0 "" ∈ ([wH, wA] : List Str))
def isA (r : PRow) : Bool := decide (r.getD 0 "" = wA)
/-- what the law adds -/
def GD.more (g : GD) (rs : List PRow) : List PRow := ((rs.filter isHA).map fun r => [wW, r.getD 1 ""]) ++ ((rs.filter isA).map fun r => [wW, r.getD 2 ""]) ++ ((g.facts.filter fun f => decide (f.kind = ("fail" : Str))).map fun f => [wF, f.x])
def GD.clo (g : GD) (rs : List PRow) : List PRow := g.perms.filter fun r => decide (r ∈ rs) || decide (r ∈ g.more rs)
theorem mem_more {g : GD} {rs : List PRow} (sub : ∀ r ∈ rs, r ∈ g.perms) {r : PRow} : (r ∈ rs ∨ r ∈ g.more rs) ↔ r ∈ g.had rs := by
  obtain ⟨n1, n2, n3, n4, n5, n6, n7, n8, n9, n10⟩ := w_ne
  unfold GD.had
  rw [mem_addRs, mem_addRs]
  unfold GD.more
  rw [List.mem_append, List.mem_append, List.mem_flatMap]
  constructor
  · rintro (h | (h | h) | h)
    · refine .inr ⟨r, h, ?_⟩
      unfold withB
      split
      · exact List.mem_cons_self
      · split <;> exact List.mem_cons_self
    · obtain ⟨q, hq, rfl⟩ := List.mem_map.mp h
      obtain ⟨h1, h2⟩ := List.mem_filter.mp hq
      refine .inr ⟨q, h1, ?_⟩
      unfold isHA at h2
      have h2 := of_decide_eq_true h2
      unfold withB
      rcases List.mem_cons.mp h2 with e | e
      · rw [if_pos e]
        exact List.mem_cons_of_mem _ List.mem_cons_self
      · have e := List.mem_singleton.mp e
        rw [if_neg (by rw [e]; exact n10.symm), if_pos e]
        exact List.mem_cons_of_mem _ List.mem_cons_self
    · obtain ⟨q, hq, rfl⟩ := List.mem_map.mp h
      obtain ⟨h1, h2⟩ := List.mem_filter.mp hq
      refine .inr ⟨q, h1, ?_⟩
      unfold isA at h2
      have e := of_decide_eq_true h2
      unfold withB
      rw [if_neg (by rw [e]; exact n10.symm), if_pos e]
      exact List.mem_cons_of_mem _ (List.mem_cons_of_mem _ List.mem_cons_self)
    · obtain ⟨f, hf, rfl⟩ := List.mem_map.mp h
      obtain ⟨h1, h2⟩ := List.mem_filter.mp hf
      refine .inl (.inr ?_)
      unfold GD.alw
      exact List.mem_map.mpr ⟨f.x, (mem_alwL _).mpr ⟨f, h1, of_decide_eq_true h2, rfl⟩, rfl⟩
  · rintro ((h | h) | ⟨q, hq, hr⟩)
    · cases h
    · unfold GD.alw at h
      obtain ⟨x, hx, rfl⟩ := List.mem_map.mp h
      obtain ⟨f, hf, hk, rfl⟩ := (mem_alwL _).mp hx
      exact .inr (.inr (List.mem_map.mpr ⟨f, List.mem_filter.mpr ⟨hf, decide_eq_true hk⟩, rfl⟩))
    · unfold withB at hr
      by_cases c : q.getD 0 "" = wH
      · rw [if_pos c] at hr
        rcases List.mem_cons.mp hr with rfl | hr
        · exact .inl hq
        · rw [List.mem_singleton.mp hr]
          exact .inr (.inl (.inl (List.mem_map.mpr ⟨q, List.mem_filter.mpr ⟨hq, by unfold isHA; rw [c]; exact decide_eq_true List.mem_cons_self⟩, rfl⟩)))
      · rw [if_neg c] at hr
        by_cases c2 : q.getD 0 "" = wA
        · rw [if_pos c2] at hr
          rcases List.mem_cons.mp hr with rfl | hr
          · exact .inl hq
          · rcases List.mem_cons.mp hr with rfl | hr
            · exact .inr (.inl (.inl (List.mem_map.mpr ⟨q, List.mem_filter.mpr ⟨hq, by unfold isHA; rw [c2]; exact decide_eq_true (List.mem_cons_of_mem _ List.mem_cons_self)⟩, rfl⟩)))
            · rw [List.mem_singleton.mp hr]
              exact .inr (.inl (.inr (List.mem_map.mpr ⟨q, List.mem_filter.mpr ⟨hq, by unfold isA; exact decide_eq_true c2⟩, rfl⟩)))
        · rw [if_neg c2] at hr
          rw [List.mem_singleton.mp hr]
          exact .inl hq
theorem clo_pset {g : GD} {rs qs : List PRow} (sub : ∀ r ∈ rs, r ∈ g.perms) (same : ∀ r, r ∈ rs ↔ r ∈ qs) : g.clo rs = g.pset qs := by
  unfold GD.clo GD.pset
  refine List.filter_congr fun r _ => ?_
  have h1 := mem_more (g := g) sub (r := r)
  have h2 : r ∈ g.had rs ↔ r ∈ g.had qs := by
    unfold GD.had
    rw [mem_addRs, mem_addRs, List.mem_flatMap, mem_addRs, mem_addRs, List.mem_flatMap]
    constructor
    · rintro (h | ⟨q, hq, h⟩)
      · exact .inl h
      · exact .inr ⟨q, (same q).mp hq, h⟩
    · rintro (h | ⟨q, hq, h⟩)
      · exact .inl h
      · exact .inr ⟨q, (same q).mpr hq, h⟩
  rw [← Bool.decide_or]
  exact decide_eq_decide.mpr (h1.trans h2)
theorem row_at {r : PRow} {i : Nat} (h : i < r.length) : atI (sts r) (i : Int) = some (.str (r.getD i "")) := by
  refine atI_nat ?_
  unfold sts
  rw [List.getElem?_map, List.getD_eq_getElem?_getD, List.getElem?_eq_getElem h]
  rfl
theorem perm_len {g : GD} {r : PRow} (h : r ∈ g.perms) : 2 ≤ r.length ∧ (r.getD 0 "" = wA → r.length = 3) := by
  rcases (mem_perms.mp h).form with ⟨wd, x, rfl, a, b⟩ | ⟨x, y, rfl⟩ | ⟨x, y, rfl⟩
  · exact ⟨Nat.le_of_ble_eq_true rfl, fun e => absurd e b⟩
  · exact ⟨Nat.le_of_ble_eq_true rfl, fun _ => rfl⟩
  · exact ⟨Nat.le_of_ble_eq_true rfl, fun _ => rfl⟩
theorem ok_more {g : GD} (fit : g.Fit) {rs : List PRow} (sub : ∀ r ∈ rs, r ∈ g.perms) : ∀ r ∈ g.more rs, OkRow r := fun r hr => okr_perm fit (had_sub fit sub r (mem_more sub |>.mp (.inr hr)))
end GB
namespace K7
open PySem PySem.Spec L2 GB EqT LamX
abbrev sMd : Stmt := topS 40
abbrev sCl : Stmt := topS 42
def clN : List Str := ["_law_g", "_law_rows", "_law_more", "_law_row", "_law_fact"]
def spMade3 (C : Addr) : Sp := fun vs H Q _ => ∃ (g : Addr) (gd : GD), vs = [.ref g] ∧ IsG H g gd ∧ gd.Fit ∧ ∀ G H', H G = none → Same H H' → IsGr3 C H' G gd → Q (.ref G) H'
def spCl : Sp := fun vs H Q _ => ∃ (g a : Addr) (gd : GD) (rs : List PRow) (ts : List Addr), vs = [.ref g, .ref a] ∧ IsG H g gd ∧ gd.Fit ∧ H a = some (.lst (ts.map V.ref)) ∧ RowsAt H rs ts ∧ (∀ r ∈ rs, r ∈ gd.perms) ∧ rs.length ≤ 200 ∧ gd.perms.length ≤ 200 ∧
  ∀ l us H', H l = none → Same H H' → H' l = some (.lst (us.map V.ref)) → RowsAt H' (gd.clo rs) us → Q (.ref l) H'
section
variable {P : Program} {w : World} {K : PySem.W.Frag} {mg : Str → Option Value} {base : Heap} {C CP PT : Addr}
theorem scMd : FnScope ["_law_g"] ["_law_g"] (defScope sMd) := ⟨rfl, rfl, rfl, by decide +kernel, rfl, by decide +kernel, by decide +kernel⟩
theorem scCl : FnScope clN ["_law_g", "_law_rows"] (defScope sCl) := ⟨rfl, rfl, rfl, by decide +kernel, rfl, by decide +kernel, by decide +kernel⟩
theorem ok_md {f fI : Addr} {fd fdI : FuncData} (F : Fun K "_law_made" "_law_made" sMd f fd) (MK : Mk K C fI) (FI : FnOk P w K mg base CX0 5 fI fdI ["self", "letters", "fixed", "commuting", "facts"] (spGI2 K C)) (bI : Binds K fdI ["self", "letters", "fixed", "commuting", "facts"] []) (gC : mg "Ground" = some (.ref C)) :
    FnOk P w K mg base CX0 7 f fd ["_law_g"] (spMade3 C) := by
  refine F.ok scMd (fun vs H Q E h => ?_) (fun cdv A outer s H vs Q E hr h => ?_)
  · obtain ⟨g, gd, rfl, _⟩ := h
    rfl
  · obtain ⟨g, gd, rfl, hG, fit, q⟩ := h
    refine ⟨_, pss_one (ps_ret (pe_make MK FI hr rfl gC bI .nil pass0 (pa_cons (pe_dget (hu_of hr) (pv 0) (pe_str) (fun _ _ => rfl)) (pa_cons (pe_dget (hu_of hr) (pv 0) (pe_str) (fun _ _ => rfl)) (pa_cons (pe_dget (hu_of hr) (pv 0) (pe_str) (fun _ _ => rfl)) (pa_cons (pe_dget (hu_of hr) (pv 0) (pe_str) (fun _ _ => rfl)) (pa_nil))))))), ?_⟩
    obtain ⟨aL, aF, aC, aT, g1, g2, g3, g4, g5⟩ := hG.ex
    have v1 : valV [(.inr "letters", .ref aL), (.inr "fixed", .ref aF), (.inr "commuting", .ref aC), (.inr "facts", .ref aT)] (.inr "letters" : Key) = some (.ref aL) := by rfl
    have v2 : valV [(.inr "letters", .ref aL), (.inr "fixed", .ref aF), (.inr "commuting", .ref aC), (.inr "facts", .ref aT)] (.inr "fixed" : Key) = some (.ref aF) := by rfl
    have v3 : valV [(.inr "letters", .ref aL), (.inr "fixed", .ref aF), (.inr "commuting", .ref aC), (.inr "facts", .ref aT)] (.inr "commuting" : Key) = some (.ref aC) := by rfl
    have v4 : valV [(.inr "letters", .ref aL), (.inr "fixed", .ref aF), (.inr "commuting", .ref aC), (.inr "facts", .ref aT)] (.inr "facts" : Key) = some (.ref aT) := by rfl
    obtain ⟨ts, k1, k2⟩ := g5
    refine ⟨_, rfl, g, .ref aL, rfl, (by rw [← v1]; exact DGet.k (k := .inr "letters") g1), _, rfl, g, .ref aF, rfl, (by rw [← v2]; exact DGet.k (k := .inr "fixed") g1), _, rfl, g, .ref aC, rfl, (by rw [← v3]; exact DGet.k (k := .inr "commuting") g1), _, rfl, g, .ref aT, rfl, (by rw [← v4]; exact DGet.k (k := .inr "facts") g1), fun x dx nx ndx nex => ?_⟩
    exact gr_make3 nx ndx nex g2 (.inl (SqL.of g3)) (.inl (SqL.of g4)) ⟨ts, .inl (SqL.of k1), Paired.mapP k2 fun _ _ r => r.any⟩ fit fun H' s gr => q x H' nx s gr
theorem ok_cl {f : Addr} {fd : FuncData} (F : Fun K "_law_closed" "_law_closed" sCl f fd) (T : Bl mg) (EV : Fns P w K mg base "_law_every" 1 ["_law_g"] spEv) : FnOk P w K mg base CX0 2 f fd ["_law_g", "_law_rows"] spCl := by
  refine F.ok scCl (fun vs H Q E h => ?_) (fun cdv A outer s H vs Q E hr h => ?_)
  · obtain ⟨g, a, gd, rs, ts, rfl, _⟩ := h
    rfl
  · obtain ⟨g, a, gd, rs, ts, rfl, hG, fit, ha, hrs, sub, hl, hpl, q⟩ := h
    have hu65 : (A.deeper (PyProof.Rows.envOfC "_law_closed" (defScope sCl) s.heap.objs.size f cdv)).units + 65 < cLine := by have := hr.un; omega
    refine ⟨_, pss_cons (ps_set (i := 2) scCl.nd rfl (.inr rfl) (pe_weak (t' := tRF K 1 3 (tTest (tOp (rIn K false) (tOp (rIxT K) (tVar 3) (tC (.int 0))) (tTup (tCons (tC (.str "shows")) (tCons (tC (.str "shares")) tNil))))) (tTup (tCons (tC (.str "writes")) (tCons (tOp (rIxT K) (tVar 3) (tC (.int 1))) tNil)))) (pe_lc (own := [("_law_row", 3)]) (g := gName 3) (tt := tTest (tOp (rIn K false) (tOp (rIxT K) (tVar 3) (tC (.int 0))) (tTup (tCons (tC (.str "shows")) (tCons (tC (.str "shares")) tNil))))) rfl scCl.nd (pi_seqW (pv 1)) (blkOk_by (own := [("_law_row", 3)]) (N := clN) (sc := defScope sCl) (by decide +kernel)) (fun _ _ _ _ _ => pg_name (i := 3) scCl.nd rfl (.inl rfl)) (fun _ _ _ _ _ => pts_one (pt_cmpR (r := rIn K false) op_in_seq (pe_ix (r := rIxT K) ix_tup (pv 3) pe_int (fun _ _ => rfl)) (pe_tup (pa_cons pe_str (pa_cons pe_str pa_nil))) (by rfl))) (fun _ _ _ _ _ => pe_tup (pa_cons (pe_str) (pa_cons (pe_ix (r := rIxT K) ix_tup (pv 3) (pe_int) (fun _ _ => rfl)) (pa_nil))))) rf_weak)) (pss_cons (ps_set (i := 2) scCl.nd rfl (.inr rfl) (pe_op op_cat (pv 2) (pe_weak (t' := tRF K 1 3 (tTest (tOp rEq (tOp (rIxT K) (tVar 3) (tC (.int 0))) (tC (.str "shares")))) (tTup (tCons (tC (.str "writes")) (tCons (tOp (rIxT K) (tVar 3) (tC (.int 2))) tNil)))) (pe_lc (own := [("_law_row", 3)]) (g := gName 3) (tt := tTest (tOp rEq (tOp (rIxT K) (tVar 3) (tC (.int 0))) (tC (.str "shares")))) rfl scCl.nd (pi_seqW (pv 1)) (blkOk_by (own := [("_law_row", 3)]) (N := clN) (sc := defScope sCl) (by decide +kernel)) (fun _ _ _ _ _ => pg_name (i := 3) scCl.nd rfl (.inl rfl)) (fun _ _ _ _ _ => pts_one (pt_cmpR op_eq (pe_ix (r := rIxT K) ix_tup (pv 3) (pe_int) (fun _ _ => rfl)) (pe_str) (nomark _))) (fun _ _ _ _ _ => pe_tup (pa_cons (pe_str) (pa_cons (pe_ix (r := rIxT K) ix_tup (pv 3) (pe_int) (fun _ _ => rfl)) (pa_nil))))) rf_weak))) (pss_cons (ps_set (i := 2) scCl.nd rfl (.inr rfl) (pe_op op_cat (pv 2) (pe_lc (own := [("_law_fact", 4)]) (g := gName 4) (tt := tTest (tOp rEq (tOp (rIxT K) (tOp (rIxT K) (tVar 4) (tC (.int 2))) (tC (.int 0))) (tC (.str "fail")))) rfl scCl.nd (pi_seqW (pe_dget (hu_of hr) (pv 0) pe_str (fun _ _ => rfl))) (blkOk_by (own := [("_law_fact", 4)]) (N := clN) (sc := defScope sCl) (by decide +kernel)) (fun _ _ _ _ _ => pg_name (i := 4) scCl.nd rfl (.inl rfl)) (fun _ _ _ _ _ => pts_one (pt_cmpR op_eq (pe_ix (r := rIxT K) ix_tup (pe_ix (r := rIxT K) ix_tup (pv 4) (pe_int) (fun _ _ => rfl)) (pe_int) (fun _ _ => rfl)) (pe_str) (nomark _))) (fun _ _ _ _ _ => pe_tup (pa_cons (pe_str) (pa_cons (pe_ix (r := rIxT K) ix_tup (pv 4) (pe_int) (fun _ _ => rfl)) (pa_nil))))))) (pss_one (ps_ret (pe_weak (t' := tEvF 0 3 (tOr (tTest (tOp (rInD K) (tVar 3) (tVar 1))) (tTest (tOp (rInD K) (tVar 3) (tVar 2)))) (tVar 3)) (pe_lc (own := [("_law_row", 3)]) (g := gName 3) (tt := tOr (tTest (tOp (rInD K) (tVar 3) (tVar 1))) (tTest (tOp (rInD K) (tVar 3) (tVar 2)))) rfl scCl.nd (pi_seqW (pe_fn EV hr (by decide) rfl (pa_cons (pv 0) (pa_nil)))) (blkOk_by (own := [("_law_row", 3)]) (N := clN) (sc := defScope sCl) (by decide +kernel)) (fun _ _ _ _ _ => pg_name (i := 3) scCl.nd rfl (.inl rfl)) (fun _ _ _ _ _ => pts_one (PW.pt (pw_or (pt_cmpR (r := rInD K) (op_inD hu65) (pv 3) (pv 1) (by rfl)) (pw_or1 (pt_cmpR (r := rInD K) (op_inD hu65) (pv 3) (pv 2) (by rfl)))))) (fun _ _ _ _ _ => pv 3)) evf_weak))))), ?_⟩
    obtain ⟨o1, o2, o3, o4, o5⟩ := okW
    have sx : ∀ {J : Hp} {r : PRow} {t : Addr}, RowAt J r t → SqT K J t (sts r) := fun h => SqT.of h
    refine ⟨a, rs, ts, isHA, fun r => [wW, r.getD 1 ""], rfl, .inl (SqL.of ha), hrs, by omega, ⟨fun J r t R hr sJ ht k => ?_, fun J r t Q' hr pr sJ ht k => ?_⟩, fun D1 H1 r1 => ?_⟩
    · refine ⟨_, rfl, t, sts r, 0, _, rfl, rfl, sx ht, row_at (i := 0) (by have := (perm_len (sub r hr)).1; omega), by show 2 ≤ sizeLine; decide, fun u nu => ?_⟩
      obtain ⟨J1, s1, h1, e1⟩ := lay (o := .tup (sts [wH, wA])) nu
      rw [show ([V.str ("shows" : Str), V.str ("shares" : Str)] : List V) = sts [wH, wA] from rfl, e1]
      refine ⟨u, sts [wH, wA], rfl, .inr (SqT.of h1), rfl, flat_sts _, _, rfl, ?_⟩
      rw [show (if false = true then !inV (.str (r.getD 0 "")) (sts [wH, wA]) else inV (.str (r.getD 0 "")) (sts [wH, wA])) = isHA r from inV_sts _ _]
      exact k _ s1
    · refine ⟨_, rfl, t, sts r, 1, _, rfl, rfl, sx ht, row_at (i := 1) (by have := (perm_len (sub r hr)).1; omega), by show 2 ≤ sizeLine; decide, fun u nu => ?_⟩
      obtain ⟨J1, s1, h1, e1⟩ := lay (o := .tup (sts [wW, r.getD 1 ""])) nu
      rw [show ([V.str ("writes" : Str), V.str (r.getD 1 "")] : List V) = sts [wW, r.getD 1 ""] from rfl, e1]
      exact k u J1 s1 h1
    obtain ⟨t1, d1, p1⟩ := r1.done
    have hrs1 := hrs.mono r1.same
    refine ⟨_, rfl, a, rs, ts, isA, fun r => [wW, r.getD 2 ""], rfl, .inl (SqL.of (r1.same _ _ ha)), hrs1, by omega, ⟨fun J r t R hr sJ ht k => ?_, fun J r t Q' hr pr sJ ht k => ?_⟩, fun D2 H2 r2 => ?_⟩
    · refine ⟨_, rfl, t, sts r, 0, _, rfl, rfl, sx ht, row_at (i := 0) (by have := (perm_len (sub r hr)).1; omega), rfl, _, rfl, ?_⟩
      rw [show decide (V.str (r.getD 0 "") = V.str ("shares" : Str)) = isA r from dec_str _ _]
      exact k _ (Same.refl _)
    · refine ⟨_, rfl, t, sts r, 2, _, rfl, rfl, sx ht, row_at (i := 2) (by have := (perm_len (sub r hr)).2 (by unfold isA at pr; exact of_decide_eq_true pr); omega), by show 2 ≤ sizeLine; decide, fun u nu => ?_⟩
      obtain ⟨J1, s1, h1, e1⟩ := lay (o := .tup (sts [wW, r.getD 2 ""])) nu
      rw [show ([V.str ("writes" : Str), V.str (r.getD 2 "")] : List V) = sts [wW, r.getD 2 ""] from rfl, e1]
      exact k u J1 s1 h1
    obtain ⟨t2, d2, p2⟩ := r2.done
    have l1 := Paired.length p1
    have l2 := Paired.length p2
    rw [List.length_map] at l1 l2
    have lf1 := List.length_filter_le isHA rs
    have lf2 := List.length_filter_le isA rs
    refine ⟨D1, D2, _, _, rfl, rfl, r2.same _ _ d1, d2, by rw [List.length_map, List.length_map, sizeLine_eq]; omega, fun D3 n3 => ?_⟩
    obtain ⟨H3, s3, h3, e3⟩ := lay (o := .lst (t1.map V.ref ++ t2.map V.ref)) n3
    rw [e3]
    obtain ⟨aL, aF, aC, aT, g1, g2, g3, g4, tsF, g5, g6⟩ := hG.ex
    have v4 : valV [(.inr "letters", .ref aL), (.inr "fixed", .ref aF), (.inr "commuting", .ref aC), (.inr "facts", .ref aT)] (.inr "facts" : Key) = some (.ref aT) := by rfl
    have S3 : Same H H3 := (r1.same.trans r2.same).trans s3
    have lF : tsF.length = gd.facts.length := (Paired.length g6).symm
    refine ⟨_, rfl, _, rfl, g, .ref aT, rfl, (by rw [← v4]; exact DGet.k (k := .inr "facts") (S3 _ _ g1)), aT, tsF.map V.ref, true, [], rfl, same_hid0.seq (SqL.of (S3 _ _ g5)), fun J WJ D4 n4 => ?_⟩
    refine lc_it WJ (fun i H' => RowsIn H3 H' D4 (((gd.facts.take i).filter fun f => decide (f.kind = ("fail" : Str))).map fun f => ([wF, f.x] : PRow))) (RowsIn.start n4) (fun i H' _ r => same_hid0.seq (SqL.of (r.same _ _ (S3 _ _ g5)))) ?_ ?_
    · rintro i y H4' H4 hi r4 ⟨rfl, hy⟩
      have hy : (tsF.map V.ref)[i]? = some y := hy
      rw [List.getElem?_map] at hy
      obtain ⟨t, htt, rfl⟩ := Option.map_eq_some_iff.mp hy
      have hig : i < gd.facts.length := by rw [← lF]; exact (List.getElem?_eq_some_iff.mp htt).1
      have hfi : gd.facts[i]? = some gd.facts[i] := List.getElem?_eq_getElem hig
      generalize gd.facts[i] = fa at hfi
      obtain ⟨t', ht', hA⟩ := paired_at' g6 hfi
      obtain rfl : t' = t := by rw [htt] at ht'; exact (Option.some.inj ht').symm
      obtain ⟨v, e, a1, a2, a3⟩ := (hA.mono (S3.trans r4.same)).ex
      refine ⟨rfl, ?_⟩
      refine ⟨_, rfl, t', _, 2, .ref e, rfl, rfl, SqT.of a1, rfl, e, _, 0, .str fa.kind, rfl, rfl, SqT.of a3, rfl, rfl, _, rfl, ?_⟩
      rw [show decide (V.str fa.kind = V.str ("fail" : Str)) = decide (fa.kind = ("fail" : Str)) from dec_str _ _, take_at hfi, List.filter_append, List.map_append]
      by_cases c : fa.kind = ("fail" : Str)
      · rw [decide_eq_true c, List.filter_cons_of_pos (by simp [c]), List.filter_nil]
        refine ⟨_, rfl, t', _, 0, .str fa.x, rfl, rfl, SqT.of a1, rfl, by show 2 ≤ sizeLine; decide, fun u nu => ?_⟩
        refine r4.more (row := [wF, fa.x]) (Same.refl _) ?_ nu
        rw [List.length_map]
        have h1 := List.length_filter_le (fun f : Fact => decide (f.kind = ("fail" : Str))) (gd.facts.take i)
        have h2 := fit.fl
        rw [List.length_take] at h1
        omega
      · rw [decide_eq_false c, List.filter_cons_of_neg (by simp [c]), List.filter_nil, List.map_nil, List.append_nil]
        exact r4
    rintro H4 r4
    rw [List.take_of_length_le (by rw [List.length_map, lF]; exact Nat.le_refl _)] at r4
    obtain ⟨t4, d4, p4⟩ := r4.done
    have l4 := Paired.length p4
    rw [List.length_map] at l4
    have lf4 := List.length_filter_le (fun f : Fact => decide (f.kind = ("fail" : Str))) gd.facts
    have lff := fit.fl
    refine ⟨D3, D4, _, _, rfl, rfl, r4.same _ _ h3, d4, by rw [List.length_append, List.length_map, List.length_map, List.length_map, sizeLine_eq]; omega, fun D5 n5 => ?_⟩
    obtain ⟨H5, s5, h5, e5⟩ := lay (o := .lst (t1.map V.ref ++ t2.map V.ref ++ t4.map V.ref)) n5
    rw [e5]
    have S45 := r4.same.trans s5
    have S35 : Same H2 H5 := s3.trans S45
    have pm : RowsAt H5 (gd.more rs) (t1 ++ t2 ++ t4) := ((p1.mono (r2.same.trans S35)).app (p2.mono S35)).app (p4.mono s5)
    have hm5 : H5 D5 = some (.lst ((t1 ++ t2 ++ t4).map V.ref)) := by rw [h5]; simp
    have S5 : Same H H5 := S3.trans S45
    refine ⟨g, gd, rfl, hG.mono S5, fit, by omega, fun H6 s6 => ⟨fun r => decide (r ∈ rs) || decide (r ∈ gd.more rs), id, ⟨fun J r t R hr sJ ht k => ?_, fun J r t Q' hr pr sJ ht k => ?_⟩, fun D H7 r7 => ?_⟩⟩
    · have S6 := (S5.trans s6).trans sJ
      refine ⟨_, rfl, _, rfl, rowD r, rowDs rs, dp_row ht, .lst (SqL.of (S6 _ _ ha)) (dp_rows (hrs.mono S6)), shp_row (okr_perm fit hr), shp_rows (fun q hq => okr_perm fit (sub q hq)), _, rfl, ?_⟩
      rw [any_rowD]
      have kk : R (decide (r ∈ rs) || decide (r ∈ gd.more rs)) J := k J (Same.refl _)
      cases c : decide (r ∈ rs) with
      | true =>
        rw [c] at kk
        exact kk
      | false =>
        rw [c] at kk
        refine ⟨_, rfl, _, rfl, rowD r, rowDs (gd.more rs), dp_row ht, .lst (SqL.of (sJ _ _ (s6 _ _ hm5))) (dp_rows (pm.mono (s6.trans sJ))), shp_row (okr_perm fit hr), shp_rows (ok_more fit sub), _, rfl, ?_⟩
        rw [any_rowD]
        exact kk
    · exact ⟨_, rfl, k t J (Same.refl _) ht⟩
    · rw [List.map_id] at r7
      obtain ⟨us, x1, x2⟩ := r7.done
      exact q D us H7 (S5.free r7.nw) (S5.trans r7.same) x1 x2
end
end K7
set_option Elab.async false
set_option linter.all false
set_option autoImplicit false
set_option maxRecDepth 100000
set_option maxHeartbeats 8000000
namespace GB
open PySem PySem.Spec L2 EqT LamX
def rLof (K : PySem.W.Frag) : List V → Hp → VK → Prop := fun xs H Q => ∃ p ys, xs = [.ref p] ∧ (SqL K H p ys ∨ SqT K H p ys) ∧ ∀ l, H l = none → Q (.ref l) (upd H l (.lst ys))
theorem call_lof {X : Cx} : CallR X (.type "list") (rLof X.K) := call_list_of
/-- a row, shares in either order -/
def SwR (r r' : PRow) : Prop := r' = r ∨ ∃ x y, r = [wA, x, y] ∧ r' = [wA, y, x]
def SwAt (H : Hp) (r : PRow) (u : Addr) : Prop := ∃ r', SwR r r' ∧ RowAt H r' u
theorem SwAt.mono {H H' : Hp} {r : PRow} {u : Addr} (s : Same H H') (h : SwAt H r u) : SwAt H' r u := let ⟨r', h1, h2⟩ := h; ⟨r', h1, s _ _ h2⟩
/-- a row as the law hands it over: a list of its own (in N), or a tuple -/
def HItem (H : Hp) (N : List Addr) (r : PRow) (u : Addr) : Prop := ∃ r', SwR r r' ∧ ((u ∈ N ∧ H u = some (.lst (sts r'))) ∨ H u = some (.tup (sts r')))
theorem HItem.mono {H H' : Hp} {N : List Addr} {r : PRow} {u : Addr} (s : Same H H') (h : HItem H N r u) : HItem H' N r u := let ⟨r', h1, h2⟩ := h; ⟨r', h1, h2.imp (fun h => ⟨h.1, s _ _ h.2⟩) (s _ _)⟩
theorem HItem.more {H : Hp} {N M : List Addr} {r : PRow} {u : Addr} (s : ∀ a ∈ N, a ∈ M) (h : HItem H N r u) : HItem H M r u := let ⟨r', h1, h2⟩ := h; ⟨r', h1, h2.imp (fun h => ⟨s _ h.1, h.2⟩) id⟩
theorem paired_perm {α β : Type} {R : α → β → Prop} {l : List α} {m : List β} (h : Paired R l m) : ∀ {m2 : List β}, m2.Perm m → ∃ l2 : List α, l2.Perm l ∧ Paired R l2 m2 := by
  intro m2 pm
  have key : ∀ {a b : List β}, a.Perm b → ∀ {l : List α}, Paired R l b → ∃ l2 : List α, l2.Perm l ∧ Paired R l2 a := by
    intro a b p
    induction p with
    | nil => intro l h; exact ⟨l, .refl _, h⟩
    | cons x _ ih =>
      intro l h
      cases h with
      | cons h1 h2 =>
        obtain ⟨l2, p2, q2⟩ := ih h2
        exact ⟨_, p2.cons _, .cons h1 q2⟩
    | swap x y l' =>
      intro l h
      cases h with
      | cons h1 h2 =>
        cases h2 with
        | cons h3 h4 => exact ⟨_, List.Perm.swap _ _ _, .cons h3 (.cons h1 h4)⟩
    | trans _ _ ih1 ih2 =>
      intro l h
      obtain ⟨l2, p2, q2⟩ := ih2 h
      obtain ⟨l3, p3, q3⟩ := ih1 q2
      exact ⟨l3, p3.trans p2, q3⟩
  exact key pm h
theorem refs_perm {ys : List V} {us : List Addr} (h : ys.Perm (us.map V.ref)) : ∃ ws : List Addr, ys = ws.map V.ref ∧ ws.Perm us := by
  let g : V → Addr := fun v => match v with | .ref a => a | _ => 0
  refine ⟨ys.map g, ?_, ?_⟩
  · rw [List.map_map]
    conv => lhs; rw [← List.map_id ys]
    refine List.map_congr_left fun v hv => ?_
    obtain ⟨a, _, rfl⟩ := List.mem_map.mp (h.subset hv)
    rfl
  · have := h.map g
    rw [List.map_map] at this
    have e : us.map (g ∘ V.ref) = us := by
      conv => rhs; rw [← List.map_id us]
      exact List.map_congr_left fun s _ => rfl
    rwa [e] at this
theorem PoolIs.bt {H H' : Hp} {p D : Addr} {n : Nat} {o : HO} (P : PoolIs H p n) (h : D ≠ p) (e : H' = upd H D o) : PoolIs H' p n := by
  obtain ⟨a, b, c, e1, r⟩ := P
  exact ⟨a, b, c, by rw [e, upd_ne (Ne.symm h)]; exact e1, r⟩
theorem cut_to' (xs : List V) (r : Nat) : cutV xs none (some (r : Int)) = xs.take r := by
  by_cases h : r ≤ xs.length
  · exact cut_to xs r h
  · unfold cutV
    rw [HT.sIx_none, HT.sIx_nat, List.drop_zero, Nat.min_eq_right (by omega), Nat.sub_zero, List.take_of_length_le (Nat.le_refl _), List.take_of_length_le (by omega)]
theorem paired_take {α β : Type} {R : α → β → Prop} : ∀ {l : List α} {m : List β} (n : Nat), Paired R l m → Paired R (l.take n) (m.take n)
  | _, _, 0, _ => by rw [List.take_zero, List.take_zero]; exact .nil
  | _, _, n + 1, .nil => by rw [List.take_nil, List.take_nil]; exact .nil
  | _, _, n + 1, .cons h t => by rw [List.take_succ_cons, List.take_succ_cons]; exact .cons h (paired_take n t)
theorem pool_lst {H : Hp} {p : Addr} {n : Nat} (P : PoolIs H p n) : ∃ xs, H p = some (.lst xs) := let ⟨a, b, c, h, _⟩ := P.ex; ⟨_, h⟩
theorem gone2 {ps qs : List Addr} {H H' : Hp} {l : Addr} (s : Same (hid ps H) (hid qs H')) (n : l ∉ ps) (e : H' l = none) : H l = none := by
  cases h : H l with
  | none => rfl
  | some o =>
    have := (hid_in (s _ _ (hid_to n h))).1
    rw [e] at this
    cases this
theorem swr_mem {g : GD} (fit : g.Fit) {r r' : PRow} (h : r ∈ g.perms) (s : SwR r r') : amg g.perms r' = some r ∧ r'.length ≤ 3 ∧ OkRow r' := by
  have okr := okr_perm fit h
  have hp := mem_perms.mp h
  rcases s with rfl | ⟨x, y, rfl, rfl⟩
  · refine ⟨?_, ?_, okr⟩
    · have e : amgR g.perms r' = r' := by unfold amgR; rw [if_neg (fun e => e.2.2 h)]
      unfold amg
      rw [e, if_pos h]
    · rcases hp.form with ⟨wd, x, rfl, _⟩ | ⟨x, y, rfl⟩ | ⟨x, y, rfl⟩ <;> exact Nat.le_of_ble_eq_true rfl
  · have no : ([wA, y, x] : PRow) ∉ g.perms := by
      intro m
      have hq := mem_perms.mp m
      obtain ⟨n1, n2, n3, n4, n5, n6, n7, n8, n9, n10⟩ := w_ne
      generalize e1 : ([wA, x, y] : PRow) = q1 at hp
      generalize e2 : ([wA, y, x] : PRow) = q2 at hq
      cases hp with
      | f _ => simp at e1
      | s _ => simp at e1
      | w _ => simp at e1
      | h _ _ => exact n10 (List.cons.inj e1).1.symm
      | @a i j a b h1 h2 h3 =>
        simp only [List.cons.injEq, and_true] at e1
        cases hq with
        | f _ => simp at e2
        | s _ => simp at e2
        | w _ => simp at e2
        | h _ _ => exact n10 (List.cons.inj e2).1.symm
        | @a i' j' a' b' k1 k2 k3 =>
          simp only [List.cons.injEq, and_true] at e2
          obtain ⟨_, rfl, rfl⟩ := e1
          obtain ⟨_, rfl, rfl⟩ := e2
          have u1 := at_inj fit.mvnd h2 k3
          have u2 := at_inj fit.mvnd h3 k2
          omega
    refine ⟨?_, Nat.le_of_ble_eq_true rfl, fun z hz => okr z ?_⟩
    · have e : amgR g.perms [wA, y, x] = [wA, x, y] := by unfold amgR; rw [if_pos ⟨rfl, rfl, no⟩]; rfl
      unfold amg
      rw [e, if_pos h]
    · simp only [List.mem_cons, List.not_mem_nil, or_false] at hz ⊢
      rcases hz with rfl | rfl | rfl
      · exact .inl rfl
      · exact .inr (.inr rfl)
      · exact .inr (.inl rfl)
end GB
namespace K7
open PySem PySem.Spec L2 GB EqT LamX
abbrev sHn : Stmt := topS 43
def hnN : List Str := ["_law_pool_here", "_law_rows", "_law_found", "_law_row"]
def spHn (K : PySem.W.Frag) : Sp := fun vs H Q _ => ∃ (p a : Addr) (gd : GD) (rs : List PRow) (ts : List Addr) (n : Nat), vs = [.ref p, .ref a] ∧ hid [p] H a = some (.lst (ts.map V.ref)) ∧ RowsAt (hid [p] H) rs ts ∧ (∀ r ∈ rs, r ∈ gd.perms) ∧ rs.length ≤ 60 ∧ n + 300 ≤ 1000000 ∧ PoolIs H p n ∧
  ∀ l rs' us N H', Bt [p] H H' → H l = none → H' l = some (.lst (us.map V.ref)) → (∀ m ∈ N, H m = none ∧ m ≠ l) → Paired (HItem (hid [p] H') N) rs' us → (∀ r, r ∈ rs' ↔ r ∈ rs) → rs'.length ≤ 61 → PoolIs H' p (n + 300) → Q (.ref l) H'
section
variable {P : Program} {w : World} {K : PySem.W.Frag} {mg : Str → Option Value} {base : Heap} {C CP PT : Addr}
theorem scHn : FnScope hnN ["_law_pool_here", "_law_rows"] (defScope sHn) := ⟨rfl, rfl, rfl, by decide +kernel, rfl, by decide +kernel, by decide +kernel⟩
theorem ok_hn {f : Addr} {fd : FuncData} (F : Fun K "_law_handed" "_law_handed" sHn f fd) (T : Bl mg) (TK : Fns P w K mg base "_law_take" 1 ["_law_pool_here", "_law_many"] spTake) (MX : Fns P w K mg base "_law_mixed" 2 ["_law_pool_here", "_law_things"] (spMixed K)) : FnOk P w K mg base CX0 4 f fd ["_law_pool_here", "_law_rows"] (spHn K) := by
  refine F.ok scHn (fun vs H Q E h => ?_) (fun cdv A outer s H vs Q E hr h => ?_)
  · obtain ⟨p, a, gd, rs, ts, n, rfl, _⟩ := h
    rfl
  · obtain ⟨p, a, gd, rs, ts, n, rfl, ha, hrs, sub, hl, hn, P0, q⟩ := h
    refine ⟨_, pss_cons (ps_setLc (i := 2) (own := [("_law_row", 3)]) (g := gName 3) (tt := tYes) rfl scHn.nd rfl rfl (sw_true rfl rfl rfl (by decide +kernel)) (pi_seqW (pv 1)) (blkOk_by (own := [("_law_row", 3)]) (N := hnN) (sc := defScope sHn) (by decide +kernel)) (fun _ _ _ _ _ => pg_name (i := 3) scHn.nd rfl (.inl rfl)) (fun _ _ _ _ _ => pts_nil) (fun _ _ _ _ _ => pe_ifExp (PW.pt (pw_and (pt_cmpR op_eq (pe_ix (r := rIxT K) ix_tup (pv 3) (pe_int) (fun _ _ => rfl)) (pe_str) (nomark _)) (pw_and1 (pt_cmpR op_eq (pe_fn TK hr (by decide) rfl (pa_cons (pv 0) (pa_cons (pe_int) (pa_nil)))) (pe_int) (nomark _))))) (pe_tup (pa_cons (pe_ix (r := rIxT K) ix_tup (pv 3) (pe_int) (fun _ _ => rfl)) (pa_cons (pe_ix (r := rIxT K) ix_tup (pv 3) (pe_int) (fun _ _ => rfl)) (pa_cons (pe_ix (r := rIxT K) ix_tup (pv 3) (pe_int) (fun _ _ => rfl)) (pa_nil))))) (pv 3))) (pss_cons (ps_setLc (i := 2) (own := [("_law_row", 3)]) (g := gName 3) (tt := tYes) rfl scHn.nd rfl rfl (sw_true rfl rfl rfl (by decide +kernel)) (pi_seqW (pe_fn MX hr (by decide) rfl (pa_cons (pv 0) (pa_cons (pv 2) (pa_nil))))) (blkOk_by (own := [("_law_row", 3)]) (N := hnN) (sc := defScope sHn) (by decide +kernel)) (fun _ _ _ _ _ => pg_name (i := 3) scHn.nd rfl (.inl rfl)) (fun _ _ _ _ _ => pts_nil) (fun _ _ _ _ _ => pe_ifExp (pt_cmpR op_eq (pe_fn TK hr (by decide) rfl (pa_cons (pv 0) (pa_cons (pe_int) (pa_nil)))) (pe_int) (nomark _)) (pe_callTy (r := rLof K) call_lof (by rfl) T.list (by decide +kernel) (pa_cons (pv 3) pa_nil)) (pv 3))) (pss_one (ps_ret (pe_op op_cat (pv 2) (pe_slice sl_list (pv 2) po_none (po_some (pe_fn TK hr (by decide) rfl (pa_cons (pv 0) (pa_cons (pe_int) (pa_nil)))))))))), ?_⟩
    have hu9 := hu_of hr
    obtain ⟨haH, hap⟩ := hid_in ha
    have lrs := Paired.length hrs
    -- shares in either order
    refine ⟨_, rfl, a, ts.map V.ref, true, [p], rfl, SqL.of ha, fun J WJ D nD => ?_⟩
    have Dp : D ≠ p := P0.ne nD
    have aD : a ≠ D := fun z => by rw [z, nD] at haH; cases haH
    have sH0 : Same (hid [p] H) (hid [p, D] (upd H D (.lst []))) := fun b o e => by
      obtain ⟨e1, e2⟩ := hid_in e
      have bD : b ≠ D := fun z => by rw [z, nD] at e1; cases e1
      exact hid_to (by simp only [List.mem_cons, List.not_mem_nil, or_false, not_or] at e2 ⊢; exact ⟨e2, bD⟩) (by rw [upd_ne bD]; exact e1)
    refine lc_it WJ (fun i H' => ∃ us : List Addr, Same (hid [p] H) (hid [p, D] H') ∧ H' D = some (.lst (us.map V.ref)) ∧ Paired (SwAt (hid [p, D] H')) (rs.take i) us ∧ PoolIs H' p (n + i))
      ⟨[], sH0, upd_same, .nil, P0.bt Dp rfl⟩ (fun i H' _ ⟨us, S, _⟩ => SqL.of (hid_to (hap) ((hid_low _ _) _ _ (S _ _ ha)))) ?_ ?_
    · rintro i y H2' H2 hi ⟨us, S2, hD2, hus, P2⟩ ⟨rfl, hy⟩
      have hy : (ts.map V.ref)[i]? = some y := hy
      rw [List.getElem?_map] at hy
      obtain ⟨t, htt, rfl⟩ := Option.map_eq_some_iff.mp hy
      have hir : i < rs.length := by rw [lrs]; exact (List.getElem?_eq_some_iff.mp htt).1
      have hri : rs[i]? = some rs[i] := List.getElem?_eq_getElem hir
      generalize rs[i] = r at hri
      obtain ⟨t', ht', hrt⟩ := paired_at' hrs hri
      obtain rfl : t' = t := by rw [htt] at ht'; exact (Option.some.inj ht').symm
      have hrt2 : hid [p, D] H2 t' = some (.tup (sts r)) := S2 _ _ hrt
      have hrt3 : H2 t' = some (.tup (sts r)) := (hid_low _ _) _ _ hrt2
      have rm := sub r (List.mem_of_getElem? hri)
      have lus := Paired.length hus
      rw [List.length_take] at lus
      have fin : ∀ (H4 : Hp) (u : Addr) (r' : PRow), Same (hid [p, D] H2) (hid [p, D] H4) → H4 D = some (.lst (us.map V.ref)) → PoolIs H4 p (n + (i + 1)) → SwR r r' → H4 u = some (.tup (sts r')) →
          ∃ acc, H4 D = some (.lst acc) ∧ acc.length < sizeLine ∧ ∃ us : List Addr, Same (hid [p] H) (hid [p, D] (upd H4 D (.lst (acc ++ [V.ref u])))) ∧ (upd H4 D (.lst (acc ++ [V.ref u]))) D = some (.lst (us.map V.ref)) ∧ Paired (SwAt (hid [p, D] (upd H4 D (.lst (acc ++ [V.ref u]))))) (rs.take (i + 1)) us ∧ PoolIs (upd H4 D (.lst (acc ++ [V.ref u]))) p (n + (i + 1)) := by
        intro H4 u r' s4 hD4 P4 sw hu
        have B : Bt [p, D] H4 (upd H4 D (.lst (us.map V.ref ++ [V.ref u]))) := bt_upd (by simp)
        obtain ⟨pxs, hpx⟩ := pool_lst P4
        have uD : u ≠ D := ne_of hu hD4 (fun z => nomatch z)
        have up : u ≠ p := ne_of hu hpx (fun z => nomatch z)
        refine ⟨_, hD4, by rw [List.length_map, sizeLine_eq]; omega, us ++ [u], (S2.trans s4).trans B, by rw [upd_same, List.map_append]; rfl, ?_, P4.bt Dp rfl⟩
        rw [take_at hri]
        exact paired_app (Paired.mapP hus fun _ _ z => z.mono (s4.trans B)) (.cons ⟨r', sw, B _ _ (hid_to (by simp [uD, up]) hu)⟩ .nil)
      refine ⟨rfl, ?_⟩
      refine ⟨_, rfl, t', sts r, 0, _, rfl, rfl, SqT.of hrt3, row_at (i := 0) (by have := (perm_len rm).1; omega), rfl, _, rfl, ?_⟩
      rw [show decide (V.str (r.getD 0 "") = V.str ("shares" : Str)) = isA r from dec_str _ _]
      cases cA : isA r with
      | false => exact ⟨_, rfl, fin H2 t' r (Same.refl _) hD2 (P2.mono (Same.refl _) (by omega)) (.inl rfl) hrt3⟩
      | true =>
        refine ⟨_, rfl, p, 2, n + i, rfl, by decide, by decide, by omega, P2, fun r0 H4 hr0 b4 P4 => ⟨rfl, _, rfl, ?_⟩⟩
        have b4' : Bt [p, D] H2 H4 := bt_weak (by simp) b4
        have hD4 := bt_at b4 (ni1 Dp) hD2
        have ht4 : H4 t' = some (.tup (sts r)) := (hid_low _ _) _ _ (b4' _ _ hrt2)
        cases c0 : decide (V.int (r0 : Nat) = V.int 0) with
        | false => exact ⟨_, rfl, fin H4 t' r b4' hD4 (P4.mono (Same.refl _) (by omega)) (.inl rfl) ht4⟩
        | true =>
          have l3 := (perm_len rm).2 (by unfold isA at cA; exact of_decide_eq_true cA)
          obtain ⟨w1, x, y, rfl⟩ : ∃ w1 x y, r = [w1, x, y] := by
            match r, l3 with
            | [w1, x, y], _ => exact ⟨w1, x, y, rfl⟩
          have hw : w1 = wA := by unfold isA at cA; exact of_decide_eq_true cA
          subst hw
          refine ⟨_, rfl, t', _, 0, .str wA, rfl, rfl, SqT.of ht4, rfl, _, rfl, t', _, 2, .str y, rfl, rfl, SqT.of ht4, rfl, _, rfl, t', _, 1, .str x, rfl, rfl, SqT.of ht4, rfl, by show 3 ≤ sizeLine; decide, fun u nu => ?_⟩
          obtain ⟨H5, s5, h5, e5⟩ := lay (o := .tup [.str wA, .str y, .str x]) nu
          rw [e5]
          exact fin H5 u [wA, y, x] (b4'.trans (hid_same s5)) (s5 _ _ hD4) (P4.mono s5 (by omega)) (.inr ⟨x, y, rfl, rfl⟩) h5
    rintro H2 ⟨us, S2, hD2, hus, P2⟩
    rw [List.length_map, ← lrs] at hus P2
    rw [List.take_length] at hus
    have lus := Paired.length hus
    have hDh : hid [p] H2 D = some (.lst (us.map V.ref)) := hid_to (ni1 Dp) hD2
    refine ⟨_, rfl, _, rfl, p, D, us.map V.ref, n + rs.length, rfl, SqL.of hDh, by rw [List.length_map]; omega, by omega, P2, fun q2 ys H3 hperm nq b3 hq P3 => ?_⟩
    obtain ⟨ws, rfl, pmw⟩ := refs_perm hperm
    obtain ⟨rs2, pr2, hp2⟩ := paired_perm hus pmw
    have S20 : Same (hid [p, D] H2) (hid [p] H3) := (hid_less (by simp)).trans b3
    have S3 : Same (hid [p] H) (hid [p] H3) := S2.trans S20
    have hp3 : Paired (SwAt (hid [p] H3)) rs2 ws := Paired.mapP hp2 fun _ _ z => z.mono S20
    have lws := Paired.length hp3
    have l2 := pr2.length_eq
    have q2p : q2 ≠ p := P2.ne nq
    have hqh : hid [p] H3 q2 = some (.lst (ws.map V.ref)) := hid_to (ni1 q2p) hq
    clear WJ
    refine ⟨q2, ws.map V.ref, true, [p], rfl, SqL.of hqh, fun J2 WJ E' nE => ?_⟩
    have Ep : E' ≠ p := P3.ne nE
    have sE : Same (hid [p] H3) (hid [p, E'] (upd H3 E' (.lst []))) := fun b o e => by
      obtain ⟨e1, e2⟩ := hid_in e
      have bD : b ≠ E' := fun z => by rw [z, nE] at e1; cases e1
      exact hid_to (by simp only [List.mem_cons, List.not_mem_nil, or_false, not_or] at e2 ⊢; exact ⟨e2, bD⟩) (by rw [upd_ne bD]; exact e1)
    refine lc_it WJ (fun i H' => ∃ (vs N : List Addr), Same (hid [p] H3) (hid [p, E'] H') ∧ H' E' = some (.lst (vs.map V.ref)) ∧ (∀ m ∈ N, H3 m = none ∧ ∃ xs, hid [p, E'] H' m = some (.lst xs)) ∧ Paired (HItem (hid [p, E'] H') N) (rs2.take i) vs ∧ PoolIs H' p (n + rs.length + 60 + i))
      ⟨[], [], sE, upd_same, (fun _ h => nomatch h), .nil, P3.bt Ep rfl⟩ (fun i H' _ ⟨vs, N, S, _⟩ => SqL.of (hid_to (ni1 q2p) ((hid_low _ _) _ _ (S _ _ hqh)))) ?_ ?_
    · rintro i y H4' H4 hi ⟨vs, N, S4, hE4, hN, hvs, P4⟩ ⟨rfl, hy⟩
      have hy : (ws.map V.ref)[i]? = some y := hy
      rw [List.getElem?_map] at hy
      obtain ⟨t, htt, rfl⟩ := Option.map_eq_some_iff.mp hy
      have hir : i < rs2.length := by rw [lws]; exact (List.getElem?_eq_some_iff.mp htt).1
      have hri : rs2[i]? = some rs2[i] := List.getElem?_eq_getElem hir
      generalize rs2[i] = r at hri
      obtain ⟨t', ht', r', sw, hrt⟩ := paired_at' hp3 hri
      obtain rfl : t' = t := by rw [htt] at ht'; exact (Option.some.inj ht').symm
      have hrt2 : hid [p, E'] H4 t' = some (.tup (sts r')) := S4 _ _ hrt
      have lvs := Paired.length hvs
      rw [List.length_take] at lvs
      have fin : ∀ (H5 : Hp) (u : Addr) (M : List Addr), Same (hid [p, E'] H4) (hid [p, E'] H5) → H5 E' = some (.lst (vs.map V.ref)) → PoolIs H5 p (n + rs.length + 60 + (i + 1)) → (∀ m ∈ M, H3 m = none ∧ ∃ xs, hid [p, E'] H5 m = some (.lst xs)) → HItem (hid [p, E'] H5) (M ++ N) r u →
          ∃ acc, H5 E' = some (.lst acc) ∧ acc.length < sizeLine ∧ ∃ (vs N : List Addr), Same (hid [p] H3) (hid [p, E'] (upd H5 E' (.lst (acc ++ [V.ref u])))) ∧ (upd H5 E' (.lst (acc ++ [V.ref u]))) E' = some (.lst (vs.map V.ref)) ∧ (∀ m ∈ N, H3 m = none ∧ ∃ xs, hid [p, E'] (upd H5 E' (.lst (acc ++ [V.ref u]))) m = some (.lst xs)) ∧ Paired (HItem (hid [p, E'] (upd H5 E' (.lst (acc ++ [V.ref u])))) N) (rs2.take (i + 1)) vs ∧ PoolIs (upd H5 E' (.lst (acc ++ [V.ref u]))) p (n + rs.length + 60 + (i + 1)) := by
        intro H5 u M s5 hE5 P5 hM hu
        have B : Bt [p, E'] H5 (upd H5 E' (.lst (vs.map V.ref ++ [V.ref u]))) := bt_upd (by simp)
        refine ⟨_, hE5, by rw [List.length_map, sizeLine_eq]; omega, vs ++ [u], M ++ N, (S4.trans s5).trans B, by rw [upd_same, List.map_append]; rfl, fun m hm => ?_, ?_, P5.bt Ep rfl⟩
        · rcases List.mem_append.mp hm with h | h
          · obtain ⟨h1, xs, h2⟩ := hM m h
            exact ⟨h1, xs, B _ _ h2⟩
          · obtain ⟨h1, xs, h2⟩ := hN m h
            exact ⟨h1, xs, B _ _ (s5 _ _ h2)⟩
        · rw [take_at hri]
          exact paired_app (Paired.mapP hvs fun _ _ z => (z.mono (s5.trans B)).more (fun a h => List.mem_append_right _ h)) (.cons (hu.mono B) .nil)
      refine ⟨rfl, ?_⟩
      refine ⟨_, rfl, p, 2, n + rs.length + 60 + i, rfl, by decide, by decide, by omega, P4, fun r0 H5 hr0 b5 P5 => ⟨rfl, _, rfl, ?_⟩⟩
      have b5' : Bt [p, E'] H4 H5 := bt_weak (by simp) b5
      have hE5 := bt_at b5 (ni1 Ep) hE4
      have ht5 := b5' _ _ hrt2
      cases c0 : decide (V.int (r0 : Nat) = V.int 0) with
      | false => exact ⟨_, rfl, fin H5 t' [] b5' hE5 (P5.mono (Same.refl _) (by omega)) (fun _ h => nomatch h) ⟨r', sw, .inr ht5⟩⟩
      | true =>
        refine ⟨_, rfl, t', sts r', rfl, .inr (SqT.of ((hid_low _ _) _ _ ht5)), fun l nl => ?_⟩
        obtain ⟨H6, s6, h6, e6⟩ := lay (o := .lst (sts r')) nl
        rw [e6]
        have lp : l ≠ p := P5.ne nl
        have lE : l ≠ E' := fun z => by rw [z, hE5] at nl; cases nl
        have h6h : hid [p, E'] H6 l = some (.lst (sts r')) := hid_to (by simp [lp, lE]) h6
        exact fin H6 l [l] (b5'.trans (hid_same s6)) (s6 _ _ hE5) (P5.mono s6 (by omega)) (fun m hm => by
          rw [List.mem_singleton.mp hm]
          exact ⟨gone2 (S4.trans b5') (ni1 lp) nl, _, h6h⟩) ⟨r', sw, .inl ⟨by simp, h6h⟩⟩
    rintro H4 ⟨vs, N, S4, hE4, hN, hvs, P4⟩
    rw [List.length_map, ← lws] at hvs P4
    rw [List.take_length] at hvs
    have lvs := Paired.length hvs
    refine ⟨_, rfl, _, rfl, _, rfl, p, 2, n + rs.length + 60 + rs2.length, rfl, by decide, by decide, by omega, P4, fun r0 H5 hr0 b5 P5 => ⟨_, rfl, ?_⟩⟩
    have b5' : Bt [p, E'] H4 H5 := bt_weak (by simp) b5
    have hE5 := bt_at b5 (ni1 Ep) hE4
    refine ⟨E', vs.map V.ref, rfl, SqL.of hE5, fun c nc => ?_⟩
    rw [cut_to', ← List.map_take]
    obtain ⟨H6, s6, h6, e6⟩ := lay (o := .lst ((vs.take r0).map V.ref)) nc
    rw [e6]
    refine ⟨E', c, _, _, rfl, rfl, s6 _ _ hE5, h6, by rw [List.length_map, List.length_map, List.length_take, sizeLine_eq]; omega, fun l nl => ?_⟩
    obtain ⟨H7, s7, h7, e7⟩ := lay (o := .lst (vs.map V.ref ++ (vs.take r0).map V.ref)) nl
    rw [e7]
    have S47 : Same (hid [p, E'] H4) (hid [p, E'] H7) := b5'.trans (hid_same (s6.trans s7))
    have S07 : Same (hid [p] H) (hid [p] H7) := (S3.trans (S4.trans S47)).trans (hid_less (by simp))
    have lp : l ≠ p := (P5.mono s6 (Nat.le_refl _)).ne nl
    have nlH : H l = none := gone2 (S3.trans (S4.trans (b5'.trans (hid_same s6)))) (ni1 lp) nl
    refine q l (rs2 ++ rs2.take r0) (vs ++ vs.take r0) N H7 S07 nlH (by rw [h7, List.map_append]) (fun m hm => ?_) ?_ (fun r => ?_) ?_ (P5.mono (s6.trans s7) (by omega))
    · obtain ⟨h1, xs, h2⟩ := hN m hm
      obtain ⟨h3, h4⟩ := hid_in (b5' _ _ h2)
      have mp : m ∉ [p] := fun z => h4 (by rw [List.mem_singleton.mp z]; simp)
      exact ⟨gone2 S3 mp h1, ne_of_none (s6 _ _ h3) nl⟩
    · exact paired_app (Paired.mapP hvs fun _ _ z => (z.mono S47).mono (hid_less (by simp))) (paired_take r0 (Paired.mapP hvs fun _ _ z => (z.mono S47).mono (hid_less (by simp))))
    · rw [List.mem_append, pr2.mem_iff]
      exact ⟨fun h => h.elim id fun h => pr2.mem_iff.mp (List.mem_of_mem_take h), .inl⟩
    · rw [List.length_append, List.length_take]
      have : r0 < 2 := by have := hr0; omega
      omega
end
end K7
set_option Elab.async false
set_option linter.all false
set_option autoImplicit false
set_option maxRecDepth 100000
set_option maxHeartbeats 8000000
/-! Readings that the check of permits asks. -/
namespace GB
open PySem PySem.Spec L2 EqT LamX ItX K7
/-- the class of permits, all that laws ask of it -/
structure PrM (P : Program) (w : World) (K : PySem.W.Frag) (mg : Str → Option Value) (base : Heap) (C CP : Addr) : Prop where
  k : PrK K CP
  rows_ : ∃ f fd, Meth K CP "rows" f ∧ FnOk P w K mg base CX0 1 f fd ["self"] (spRowsP CP) ∧ Binds K fd ["self"] []
  len_ : ∃ f fd, PySem.W.findIn K (.ref CP) "__len__" = some (some (.ref f)) ∧ PySem.W.isFn K (.ref f) = true ∧ FnOk P w K mg base CX0 1 f fd ["self"] (spLenP CP) ∧ Binds K fd ["self"] []
  has_ : ∃ f fd, PySem.W.findIn K (.ref CP) "__contains__" = some (some (.ref f)) ∧ PySem.W.isFn K (.ref f) = true ∧ FnOk P w K mg base CX0 3 f fd ["self", "row"] (spHasP K CP) ∧ Binds K fd ["self", "row"] []
  it_ : ∃ f fd, PySem.W.findIn K (.ref CP) "__iter__" = some (some (.ref f)) ∧ PySem.W.isFn K (.ref f) = true ∧ FnN P w K mg base 1 f fd ["self"] (spItP CP) ∧ Binds K fd ["self"] []
  eq_ : ∃ f fd, PySem.W.findIn K (.ref CP) "__eq__" = some (some (.ref f)) ∧ PySem.W.isFn K (.ref f) = true ∧ FnOk P w K mg base CX0 2 f fd ["self", "other"] (spEqP K C CP) ∧ Binds K fd ["self", "other"] []
  ne_ : PySem.W.findIn K (.ref CP) "__ne__" = some (some (.builtin "object.__ne__"))
  mro : PySem.W.mroIn K CP (.type "object") = some true
/-- permits whose rows' dict at d is walked -/
def FrzP (CP : Addr) (H : Hp) (x d : Addr) (o : Obj) (rows : List PRow) : Prop := ∃ dx fs, H x = some (.ins CP dx fs) ∧ fs.lookup ("_rows" : Str) = some (.ref d) ∧ H d = some (.frz o (.dT (trR rows)))
theorem wset {σ : L2.St} {k : Nat} {v : Option V} (h : k < σ.length) : ((wipe σ [k]).set k v)[k]? = some v := by
  unfold wipe wipe
  rw [List.getElem?_set_self (by rw [List.length_set]; exact h)]
theorem wset2 {σ : L2.St} {k j : Nat} {v : Option V} (h : k ≠ j) : ((wipe σ [k]).set k v)[j]? = σ[j]? := by
  unfold wipe wipe
  rw [List.getElem?_set_ne h, List.getElem?_set_ne h]
theorem FrzP.mono {CP : Addr} {H H' : Hp} {x d : Addr} {o : Obj} {rows : List PRow} (s : Same H H') (h : FrzP CP H x d o rows) : FrzP CP H' x d o rows := let ⟨dx, fs, h1, h2, h3⟩ := h; ⟨dx, fs, s _ _ h1, h2, s _ _ h3⟩
/-- the walk's item: the row's own tuple -/
def YRow (rows : List PRow) (i : Nat) (H : Hp) (x : V) (H' : Hp) : Prop := H' = H ∧ ∃ (r : PRow) (q : Addr), rows[i]? = some r ∧ x = .ref q ∧ RowAt H r q
theorem walk_rowsT {d : Addr} {o : Obj} {rows : List PRow} : Walk (Itkt d o (trR rows)) rows.length (fun H => H d = some (.frz o (.dT (trR rows)))) (YRow rows) := by
  have w := walk_keysT (d := d) (o := o) (kvs := trR rows)
  have l : (trR rows).length = rows.length := by unfold trR; rw [List.length_map]
  refine ⟨fun i H hi q => w.goes i H (by omega) q, fun H q => ?_, fun i H x H' hi q y => ?_⟩
  · have := w.stops H q
    rw [l] at this
    exact this
  · obtain ⟨e, k, v, q2, hk, rfl, hq⟩ := w.yields i H x H' (by omega) q y
    unfold trR at hk
    rw [List.getElem?_map] at hk
    obtain ⟨r, hr, e2⟩ := Option.map_eq_some_iff.mp hk
    cases e2
    refine ⟨e, r, q2, hr, rfl, ?_⟩
    show H q2 = some (.tup (sts r))
    rw [row_kV]
    exact hq
theorem own_walk {CP x d n0 : Addr} {o : Obj} {rows : List PRow} {σ : L2.St} {H : Hp} {R : It → Hp → Prop} (h0 : σ[0]? = some (some (.ref x))) (hF : FrzP CP H x d o rows) (q : R (Itkt d o (trR rows)) H) : iItOwnT CP (spItP CP) n0 (tVar 0) σ H R := by
  obtain ⟨dx, fs, h1, h2, h3⟩ := hF
  refine ⟨_, h0, x, dx, fs, rfl, h1, fun n hn => ⟨x, dx, d, fs, o, _, rfl, h1, h2, h3, fun it es ep hod ni hni => ⟨d, o, _, es, ep, it, rfl, Nat.le_trans hn hni, hod, upd_same, ?_⟩⟩⟩
  rw [ItX.dropH_upd ni]
  exact q
/-- [x for x in permits] -/
def tOwnL (CP : Addr) : TE := fun σ H Q => ∃ (x d : Addr) (o : Obj) (rows : List PRow), σ[0]? = some (some (.ref x)) ∧ 5 < σ.length ∧ FrzP CP H x d o rows ∧ rows.length ≤ 1000 ∧ ∀ D H', RowsIn H H' D rows → Q (.ref D) H'
theorem ownL_weak {CP n0 : Addr} (σ : L2.St) (H : Hp) (Q : VK) (h : tOwnL CP σ H Q) : tLc (iItOwnT CP (spItP CP) n0 (tVar 0)) (gName 5) tYes (tVar 5) [5] σ H Q := by
  obtain ⟨x, d, o, rows, h0, h5, hF, hl, q⟩ := h
  have hd : H d = some (.frz o (.dT (trR rows))) := hF.choose_spec.choose_spec.2.2
  refine own_walk h0 hF fun D nD => ?_
  refine lc_it walk_rowsT (fun j H' => RowsIn H H' D (rows.take j)) (RowsIn.start nD) (fun j H' _ r => r.same _ _ hd) ?_ ?_
  · rintro j y H2' H2 hj r2 ⟨rfl, r, t, hr, rfl, ht⟩
    refine ⟨by simp [wipe, List.set_set], ?_⟩
    refine ⟨_, wset h5, ?_⟩
    have := r2.push (row := r) (Same.refl _) (by rw [List.length_take]; omega) ht
    rw [take_at hr]
    exact this
  · intro H' r
    rw [List.take_length] at r
    exact q D H' r
/-- all([isinstance(x, tuple) for x in permits]) -/
def tOwnT (CP : Addr) : TE := fun σ H Q => ∃ (x d : Addr) (o : Obj) (rows : List PRow), σ[0]? = some (some (.ref x)) ∧ 4 < σ.length ∧ FrzP CP H x d o rows ∧ rows.length ≤ 1000 ∧ ∀ H', Same H H' → Q (.bl true) H'
theorem ownT_weak {K : PySem.W.Frag} {CP n0 : Addr} (σ : L2.St) (H : Hp) (Q : VK) (h : tOwnT CP σ H Q) : tCB (rAll K) (tCons (tLc (iItOwnT CP (spItP CP) n0 (tVar 0)) (gName 4) tYes (tCB (rIsi K) (tCons (tVar 4) (tCons (tC (.ty "tuple")) tNil))) [4]) tNil) σ H Q := by
  obtain ⟨x, d, o, rows, h0, h5, hF, hl, q⟩ := h
  have hd : H d = some (.frz o (.dT (trR rows))) := hF.choose_spec.choose_spec.2.2
  show tLc _ _ _ _ _ σ H (fun v H1 => tNil σ H1 fun vs H2 => rAll K (v :: vs) H2 Q)
  refine own_walk h0 hF fun D nD => ?_
  refine lc_it walk_rowsT (fun j H' => Same H H' ∧ H' D = some (.lst ((List.replicate j true).map V.bl))) ⟨same_new nD, upd_same⟩ (fun j H' _ r => r.1 _ _ hd) ?_ ?_
  · rintro j y H2' H2 hj ⟨s2, h2⟩ ⟨rfl, r, t, hr, rfl, ht⟩
    refine ⟨by simp [wipe, List.set_set], ?_⟩
    refine ⟨_, wset h5, .ref t, .ty "tuple", .type "tuple", .type "tuple", true, rfl, .ty "tuple", .base (.tup ht), kit_ty (by decide +kernel), _, h2, ?_, fun c o e => ?_, ?_⟩
    · rw [List.length_map, List.length_replicate, sizeLine_eq]; omega
    · rw [upd_ne (ne_of_none e nD)]; exact s2 _ _ e
    · rw [upd_same, List.replicate_succ', List.map_append]; rfl
  · rintro H1 ⟨s1, h1⟩
    refine ⟨D, _, rfl, SqL.of h1, ?_⟩
    rw [show (List.replicate rows.length true).all id = true by simp]
    exact q H1 s1
/-- whether a value is told by permits with these rows -/
def HasV (K : PySem.W.Frag) (rows : List PRow) (H : Hp) (x : V) (b : Bool) : Prop :=
  (∃ a r, x = .ref a ∧ PlA H a (sts r) ∧ r.length ≤ 100 ∧ (amg rows r).isSome = b) ∨
  (b = false ∧ ∃ t, (∀ H', Same H H' → TyX K H' x t) ∧ PySem.W.kitAny K t [.type "list", .type "tuple"] = some false) ∨
  (b = false ∧ ∃ a xs bs, x = .ref a ∧ PlA H a xs ∧ xs.length ≤ 100 ∧ Paired (StrB K H) xs bs ∧ bs.all id = false)
theorem HasV.mono {K : PySem.W.Frag} {rows : List PRow} {H H' : Hp} {x : V} {b : Bool} (s : Same H H') (h : HasV K rows H x b) : HasV K rows H' x b := by
  rcases h with ⟨a, r, h1, h2, h3, h4⟩ | ⟨h1, t, h2, h3⟩ | ⟨h1, a, xs, bs, h2, h3, h4, h5, h6⟩
  · exact .inl ⟨a, r, h1, h2.mono s, h3, h4⟩
  · exact .inr (.inl ⟨h1, t, fun J sJ => h2 J (s.trans sJ), h3⟩)
  · exact .inr (.inr ⟨h1, a, xs, bs, h2, h3.mono s, h4, Paired.mapP h5 fun _ _ z => z.mono s, h6⟩)
theorem hasJ {K : PySem.W.Frag} {CP : Addr} {σ : L2.St} {H : Hp} {Q : VK} {x G a : Addr} {rows : List PRow} {xs : List V} {bs : List Bool} {kb : Bool} {J : It} (WJ : Walk J xs.length (fun H => SqV K (hid [] H) a xs kb) (YAt xs)) (hS : SqV K (hid [] H) a xs kb)
    (h0 : σ[0]? = some (some (.ref x))) (h4 : 4 < σ.length) (hP : IsP CP H x G rows) (hb : Paired (HasV K rows H) xs bs) (hl : xs.length ≤ 100000) (q : ∀ D H', Same H H' → H' D = some (.lst (bs.map V.bl)) → Q (.ref D) H') :
    tLcJ J (gName 4) tYes (tOp (rInOwn CP (spHasP K CP) false) (tVar 4) (tVar 0)) [4] σ H Q := by
  intro D nD
  have lb := Paired.length hb
  refine lc_it WJ (fun i H' => Same H H' ∧ H' D = some (.lst ((bs.take i).map V.bl))) ⟨same_new nD, upd_same⟩ (fun i H' _ s' => hS.mono (hid_same s'.1)) ?_ ?_
  · rintro i y H1' H1 hi ⟨s1, h1⟩ ⟨rfl, hy⟩
    obtain ⟨b, hbi, hV⟩ := paired_at' hb hy
    refine ⟨by simp [wipe, List.set_set], ?_⟩
    obtain ⟨dx, fs, d, p1, p2, p3, p4⟩ := (hP.mono s1).ex
    refine ⟨_, wset h4, _, by rw [wset2 (by decide)]; exact h0, x, dx, fs, rfl, p1, x, G, y, rows, rfl, hP.mono s1, ?_⟩
    have fin : ∀ H', Same H1 H' → ∃ acc, H' D = some (.lst acc) ∧ acc.length < sizeLine ∧ Same H (upd H' D (.lst (acc ++ [V.bl (false != b)]))) ∧ (upd H' D (.lst (acc ++ [V.bl (false != b)]))) D = some (.lst ((bs.take (i + 1)).map V.bl)) := fun H' s' => by
      refine ⟨_, s' _ _ h1, ?_, fun c o e => ?_, ?_⟩
      · rw [List.length_map, List.length_take, sizeLine_eq]; omega
      · rw [upd_ne (ne_of_none e nD)]; exact s' _ _ (s1 _ _ e)
      · rw [upd_same, take_at hbi, List.map_append, Bool.false_bne]; rfl
    rcases hV.mono s1 with ⟨a, r, e1, e2, e3, rfl⟩ | ⟨rfl, t, e2, e3⟩ | ⟨rfl, a, xs, bs, e2, e3, e4, e5, e6⟩
    · exact .inl ⟨a, r, e1, e2, e3, fun H' s' => ⟨_, rfl, fin H' s'⟩⟩
    · exact .inr (.inl ⟨t, e2, e3, fun H' s' => ⟨_, rfl, fin H' s'⟩⟩)
    · exact .inr (.inr ⟨a, xs, bs, e2, e3, e4, e5, e6, fun H' s' => ⟨_, rfl, fin H' s'⟩⟩)
  · rintro H1 ⟨s1, h1⟩
    rw [lb, List.take_length] at h1
    exact q D H1 s1 h1
theorem RowsIn.unlock {H H' : Hp} {D d : Addr} {od : Obj} {u : HO} {rows : List PRow} (hd : H d = some u) (hd' : H' d = some (.frz od u)) (r : RowsIn (upd H d (.frz od u)) H' D rows) : RowsIn H (upd H' d u) D rows := by
  obtain ⟨n, s, ts, h1, h2⟩ := r
  have Dd : D ≠ d := fun e => by rw [e, upd_same] at n; cases n
  refine ⟨by rw [upd_ne Dd] at n; exact n, fun b o e => ?_, ts, by rw [upd_ne Dd]; exact h1, Paired.mapP h2 fun row t rt => ?_⟩
  · by_cases c : b = d
    · rw [c, upd_same, ← hd, ← c]; exact e
    · rw [upd_ne c]
      exact s _ _ (by rw [upd_ne c]; exact e)
  · obtain ⟨e1, e2⟩ := hid_in (show hid [D] H' t = some (.tup (sts row)) from rt)
    refine hid_to e2 ?_
    rw [upd_ne (fun z => by rw [z, hd'] at e1; cases e1)]
    exact e1
/-- [row of x for x in a list of texts], the row made in any way -/
theorem rowsJ2 {K : PySem.W.Frag} {k : Nat} {te : TE} {f : Str → PRow} {σ : L2.St} {H : Hp} {Q : VK} {a : Addr} {xs : List Str} {J : It} (WJ : Walk J (sts xs).length (fun H => SqV K (hid [] H) a (sts xs) true) (YAt (sts xs))) (hS : SqV K (hid [] H) a (sts xs) true) (hl : xs.length ≤ 100)
    (hte : ∀ (H' : Hp) (y : Str) (Q' : VK), Same H H' → (∀ u H'', Same H' H'' → RowAt H'' (f y) u → Q' (.ref u) H'') → te ((wipe σ [k]).set k (some (.str y))) H' Q')
    (q : ∀ D H', RowsIn H H' D (xs.map f) → Q (.ref D) H') : tLcJ J (gName k) tYes te [k] σ H Q := by
  intro D nD
  refine lc_it WJ (fun j H' => RowsIn H H' D ((xs.take j).map f)) (RowsIn.start nD) (fun j H' _ r => hS.mono (hid_same r.same)) ?_ ?_
  · rintro j x H2 H3 hj r ⟨rfl, hx⟩
    obtain ⟨sx, hsx, rfl⟩ := sts_at hx
    have hlen : ((xs.take j).map f).length ≤ 1000 := by rw [List.length_map, List.length_take]; omega
    refine ⟨?_, ?_⟩
    · simp [wipe, List.set_set]
    · refine hte _ sx _ r.same fun u H4 s4 h4 => ?_
      rw [take_at hsx, List.map_append]
      exact r.push s4 hlen h4
  · intro H' r
    rw [List.take_of_length_le (by rw [sts_len]; exact Nat.le_refl _)] at r
    exact q D H' r
/-- .. for x in a locked dict of letters -/
theorem rowsKJ {k : Nat} {te : TE} {f : Str → PRow} {σ : L2.St} {H : Hp} {Q : VK} {d : Addr} {o : Obj} {ls : List (Str × Nat)} (hd : H d = some (.frz o (.dK (lkv ls)))) (hl : ls.length ≤ 100)
    (hte : ∀ (H' : Hp) (y : Str) (Q' : VK), Same H H' → (∀ u H'', Same H' H'' → RowAt H'' (f y) u → Q' (.ref u) H'') → te ((wipe σ [k]).set k (some (.str y))) H' Q')
    (q : ∀ D H', RowsIn H H' D ((ls.map (·.1)).map f) → Q (.ref D) H') : tLcJ (Itk d o (lkv ls)) (gName k) tYes te [k] σ H Q := by
  intro D nD
  have ll : (lkv ls).length = ls.length := by unfold lkv; rw [List.length_map]
  refine lc_it (walk_keys (kvs := lkv ls)) (fun j H' => RowsIn H H' D (((ls.map (·.1)).take j).map f)) (RowsIn.start nD) (fun j H' _ r => r.same _ _ hd) ?_ ?_
  · rintro j x H3 H2 hj r ⟨rfl, kk, v, hk, rfl⟩
    unfold lkv at hk
    rw [List.getElem?_map] at hk
    obtain ⟨p, hp, e⟩ := Option.map_eq_some_iff.mp hk
    cases e
    have hsx : (ls.map (·.1))[j]? = some p.1 := by rw [List.getElem?_map, hp]; rfl
    have hlen : (((ls.map (·.1)).take j).map f).length ≤ 1000 := by rw [List.length_map, List.length_take, List.length_map]; omega
    refine ⟨?_, ?_⟩
    · simp [wipe, List.set_set]
    · refine hte _ p.1 _ r.same fun u H4 s4 h4 => ?_
      rw [take_at hsx, List.map_append]
      exact r.push s4 hlen h4
  · intro H' r
    rw [ll, ← List.length_map (f := (·.1)), List.take_length] at r
    exact q D H' r
/-- a list of new lists that hold rows -/
def LstsIn (H H' : Hp) (D : Addr) (rows : List PRow) : Prop := H D = none ∧ Same H H' ∧ ∃ us : List Addr, H' D = some (.lst (us.map V.ref)) ∧ Paired (fun r u => hid [D] H' u = some (.lst (sts r))) rows us
theorem lstsJ {K : PySem.W.Frag} {k : Nat} {te : TE} {σ : L2.St} {H : Hp} {Q : VK} {a : Addr} {rs : List PRow} {ts : List Addr} {kb : Bool} {J : It}
    (WJ : Walk J (ts.map V.ref).length (fun H => SqV K (hid [] H) a (ts.map V.ref) kb) (YAt (ts.map V.ref))) (hS : SqV K (hid [] H) a (ts.map V.ref) kb) (hr : RowsAt H rs ts) (hl : rs.length ≤ 1000)
    (hte : ∀ (H' : Hp) (r : PRow) (t : Addr) (Q' : VK), Same H H' → RowAt H' r t → (∀ u, H' u = none → Q' (.ref u) (upd H' u (.lst (sts r)))) → te ((wipe σ [k]).set k (some (.ref t))) H' Q')
    (q : ∀ D H', LstsIn H H' D rs → Q (.ref D) H') : tLcJ J (gName k) tYes te [k] σ H Q := by
  intro D nD
  have lr := Paired.length hr
  refine lc_it WJ (fun j H' => LstsIn H H' D (rs.take j)) ⟨nD, same_new nD, [], upd_same, .nil⟩ (fun j H' _ r => hS.mono (hid_same r.2.1)) ?_ ?_
  · rintro j x H2' H2 hj ⟨_, s2, us, hD, hu⟩ ⟨rfl, hx⟩
    have hx : (ts.map V.ref)[j]? = some x := hx
    rw [List.getElem?_map] at hx
    obtain ⟨t, htt, rfl⟩ := Option.map_eq_some_iff.mp hx
    have hjr : j < rs.length := by rw [lr]; exact (List.getElem?_eq_some_iff.mp htt).1
    have hrj : rs[j]? = some rs[j] := List.getElem?_eq_getElem hjr
    generalize rs[j] = r at hrj
    obtain ⟨t', ht', hrt⟩ := paired_at' hr hrj
    obtain rfl : t' = t := by rw [htt] at ht'; exact (Option.some.inj ht').symm
    have lu := Paired.length hu
    rw [List.length_take] at lu
    refine ⟨by simp [wipe, List.set_set], hte H2 r t' _ s2 (s2 _ _ hrt) fun u nu => ?_⟩
    have uD : u ≠ D := fun e => by rw [e, hD] at nu; cases nu
    have h3D : (upd H2 u (.lst (sts r))) D = some (.lst (us.map V.ref)) := by rw [upd_ne (Ne.symm uD)]; exact hD
    refine ⟨_, h3D, ?_, nD, fun b o e => ?_, us ++ [u], by rw [upd_same, List.map_append]; rfl, ?_⟩
    · rw [List.length_map, sizeLine_eq]; omega
    · rw [upd_ne (ne_of_none e nD), upd_ne (ne_of_none (s2 _ _ e) nu)]
      exact s2 _ _ e
    · rw [take_at hrj]
      refine paired_app (Paired.mapP hu fun row v hv => ?_) (.cons (hid_to (ni1 uD) ?_) .nil)
      · obtain ⟨e1, e2⟩ := hid_in hv
        refine hid_to e2 ?_
        rw [upd_ne (fun z => e2 (by rw [z]; simp)), upd_ne (ne_of_none e1 nu)]
        exact e1
      · rw [upd_ne uD, upd_same]
  · intro H' r
    rw [List.take_of_length_le (by rw [List.length_map, lr]; exact Nat.le_refl _)] at r
    exact q D H' r
theorem ps_weak {X : Cx} {st : Stmt} {t t' : TS} (h : PS X st t) (w : ∀ D σ H, t' D σ H → t D σ H) : PS X st t' := ⟨fun pins s σ H D I q => h.run pins s σ H D I (w D σ H q)⟩
/-- [list of row for row in rows], rows in a slot -/
def tLs (K : PySem.W.Frag) (i k : Nat) (te : TE) : TE := fun σ H Q => ∃ (a : Addr) (rs : List PRow) (ts : List Addr), σ[i]? = some (some (.ref a)) ∧ SqA K H a (ts.map V.ref) ∧ RowsAt H rs ts ∧ rs.length ≤ 1000 ∧
  (∀ (H' : Hp) (r : PRow) (t : Addr) (Q' : VK), Same H H' → RowAt H' r t → (∀ u, H' u = none → Q' (.ref u) (upd H' u (.lst (sts r)))) → te ((wipe σ [k]).set k (some (.ref t))) H' Q') ∧ ∀ D H', LstsIn H H' D rs → Q (.ref D) H'
theorem ls_weak {K : PySem.W.Frag} {i k : Nat} {te : TE} (σ : L2.St) (H : Hp) (Q : VK) (h : tLs K i k te σ H Q) : tLc (iSeqW K (tVar i)) (gName k) tYes te [k] σ H Q := by
  obtain ⟨a, rs, ts, hi, hS, hr, hl, hte, q⟩ := h
  obtain ⟨kb, hqv⟩ := sqV (hS.mono (same_hid0))
  exact ⟨_, hi, a, ts.map V.ref, kb, [], rfl, hqv, fun J WJ => lstsJ WJ hqv hr hl hte q⟩
/-- [row of x for x in d[key]], d in a slot -/
def tRD (K : PySem.W.Frag) (j : Nat) (key : Str) (k : Nat) (te : TE) : TE := fun σ H Q => ∃ (g a : Addr) (xs : List Str) (f : Str → PRow), σ[j]? = some (some (.ref g)) ∧ DGet H g (.str key) (some (.ref a)) ∧ SqL K H a (sts xs) ∧ xs.length ≤ 100 ∧
  (∀ (H' : Hp) (y : Str) (Q' : VK), Same H H' → (∀ u H'', Same H' H'' → RowAt H'' (f y) u → Q' (.ref u) H'') → te ((wipe σ [k]).set k (some (.str y))) H' Q') ∧ ∀ D H', RowsIn H H' D (xs.map f) → Q (.ref D) H'
theorem rd_weak {K : PySem.W.Frag} {j k : Nat} {key : Str} {te : TE} (σ : L2.St) (H : Hp) (Q : VK) (h : tRD K j key k te σ H Q) : tLc (iSeqW K (tDGet (tVar j) (tC (.str key)))) (gName k) tYes te [k] σ H Q := by
  obtain ⟨g, a, xs, f, hj, hg, hS, hl, hte, q⟩ := h
  exact ⟨_, hj, g, .ref a, rfl, hg, a, sts xs, true, [], rfl, same_hid0.seq hS, fun J WJ => rowsJ2 WJ (same_hid0.seq hS) hl hte q⟩
/-- .. for x in the dict d[key] -/
def tRK (j : Nat) (key : Str) (k : Nat) (te : TE) : TE := fun σ H Q => ∃ (g a : Addr) (kvs : List (Key × V)) (ls : List (Str × Nat)) (f : Str → PRow), σ[j]? = some (some (.ref g)) ∧ H g = some (.dK kvs) ∧ valV kvs (.inr key) = some (.ref a) ∧ H a = some (.dK (lkv ls)) ∧ ls.length ≤ 100 ∧
  (∀ (H' : Hp) (y : Str) (Q' : VK), (∀ u H'', Same H' H'' → RowAt H'' (f y) u → Q' (.ref u) H'') → te ((wipe σ [k]).set k (some (.str y))) H' Q') ∧ ∀ D H', RowsIn H H' D ((ls.map (·.1)).map f) → Q (.ref D) H'
theorem rk_weak {j k : Nat} {key : Str} {te : TE} (σ : L2.St) (H : Hp) (Q : VK) (h : tRK j key k te σ H Q) : tLockE (tLc (iKeys (tDGet (tVar j) (tC (.str key)))) (gName k) tYes te [k]) σ H Q := by
  obtain ⟨g, a, kvs, ls, f, hj, hg, hv, ha, hl, hte, q⟩ := h
  have ga : g ≠ a := fun e => by
    rw [e, ha] at hg
    have e2 : kvs = lkv ls := (HO.dK.inj (Option.some.inj hg)).symm
    rw [e2] at hv
    unfold valV at hv
    obtain ⟨p, hp, e3⟩ := Option.map_eq_some_iff.mp hv
    have := List.mem_of_find?_eq_some hp
    unfold lkv at this
    obtain ⟨q, _, rfl⟩ := List.mem_map.mp this
    cases e3
  refine ⟨a, .dK (lkv ls), ha, trivial, fun od => ⟨_, hj, g, .ref a, rfl, ?_, a, od, rfl, .inl ⟨_, upd_same, ?_⟩⟩⟩
  · rw [← hv]
    exact DGet.k (k := .inr key) (by rw [upd_ne ga]; exact hg)
  · refine rowsKJ (Q := fun v H' => H' a = some (.frz od (.dK (lkv ls))) ∧ Q v (upd H' a (.dK (lkv ls)))) upd_same hl (fun H' y Q' _ k => hte H' y Q' k) fun D H' r => ?_
    have hf : H' a = some (.frz od (.dK (lkv ls))) := r.same _ _ upd_same
    exact ⟨hf, q D _ (RowsIn.unlock ha hf r)⟩
/-- all([row in permits for row in xs]) -/
def tHasA (K : PySem.W.Frag) (CP : Addr) (i : Nat) : TE := fun σ H Q => ∃ (x G a : Addr) (rows : List PRow) (xs : List V) (bs : List Bool), σ[i]? = some (some (.ref a)) ∧ SqL K H a xs ∧ σ[0]? = some (some (.ref x)) ∧ 4 < σ.length ∧ IsP CP H x G rows ∧ Paired (HasV K rows H) xs bs ∧ xs.length ≤ 100000 ∧ ∀ H', Same H H' → Q (.bl (bs.all id)) H'
theorem hasA_weak {K : PySem.W.Frag} {CP : Addr} {i : Nat} (σ : L2.St) (H : Hp) (Q : VK) (h : tHasA K CP i σ H Q) : tCB (rAll K) (tCons (tLc (iSeqW K (tVar i)) (gName 4) tYes (tOp (rInOwn CP (spHasP K CP) false) (tVar 4) (tVar 0)) [4]) tNil) σ H Q := by
  obtain ⟨x, G, a, rows, xs, bs, hi, hS, h0, h4, hP, hb, hl, q⟩ := h
  refine ⟨_, hi, a, xs, true, [], rfl, same_hid0.seq hS, fun J WJ => ?_⟩
  exact hasJ (Q := fun v H' => tNil σ H' fun vs H2 => rAll K (v :: vs) H2 Q) WJ (same_hid0.seq hS) h0 h4 hP hb hl fun D H' s' hD => ⟨D, _, rfl, SqL.of hD, q H' s'⟩
/-- any([row in permits for row in xs + ys]) -/
def tHasN (K : PySem.W.Frag) (CP : Addr) (i j : Nat) : TE := fun σ H Q => ∃ (x G a b : Addr) (rows : List PRow) (xs ys : List V) (bs : List Bool), σ[i]? = some (some (.ref a)) ∧ σ[j]? = some (some (.ref b)) ∧ H a = some (.lst xs) ∧ H b = some (.lst ys) ∧ σ[0]? = some (some (.ref x)) ∧ 4 < σ.length ∧ IsP CP H x G rows ∧ Paired (HasV K rows H) (xs ++ ys) bs ∧ xs.length + ys.length ≤ 100000 ∧ ∀ H', Same H H' → Q (.bl (bs.any id)) H'
theorem hasN_weak {K : PySem.W.Frag} {CP : Addr} {i j : Nat} (σ : L2.St) (H : Hp) (Q : VK) (h : tHasN K CP i j σ H Q) : tCB (rAny K) (tCons (tLc (iSeqW K (tOp rCat (tVar i) (tVar j))) (gName 4) tYes (tOp (rInOwn CP (spHasP K CP) false) (tVar 4) (tVar 0)) [4]) tNil) σ H Q := by
  obtain ⟨x, G, a, b, rows, xs, ys, bs, hi, hj, ha, hb', h0, h4, hP, hb, hl, q⟩ := h
  refine ⟨_, hi, _, hj, a, b, _, _, rfl, rfl, ha, hb', by rw [sizeLine_eq]; omega, fun c nc => ?_⟩
  obtain ⟨H1, s1, h1, e1⟩ := lay (o := .lst (xs ++ ys)) nc
  rw [e1]
  have hS : SqL K H1 c (xs ++ ys) := SqL.of h1
  refine ⟨c, xs ++ ys, true, [], rfl, same_hid0.seq hS, fun J WJ => ?_⟩
  exact hasJ (Q := fun v H' => tNil σ H' fun vs H2 => rAny K (v :: vs) H2 Q) WJ (same_hid0.seq hS) h0 h4 (hP.mono s1) (Paired.mapP hb fun _ _ z => z.mono s1) (by rw [List.length_append]; exact hl) fun D H' s' hD => ⟨D, _, rfl, SqL.of hD, q H' (s1.trans s')⟩
end GB
set_option Elab.async false
set_option linter.all false
set_option autoImplicit false
set_option maxRecDepth 100000
set_option maxHeartbeats 8000000
namespace GB
open PySem PySem.Spec L2 EqT LamX ItX K7
theorem eqG_self (g : GD) : eqG g g = true := by unfold eqG; simp
theorem pl_rowDs (rs : List PRow) : plOs (rowDs rs) = true := by
  unfold rowDs
  induction rs with
  | nil => rfl
  | cons r rs ih =>
    rw [List.map_cons, plOs, ih, Bool.and_true]
    show plO (.tuple (pst r)) = true
    rw [plO]
    have := pl_strD r
    rw [strD, plO] at this
    exact this
theorem pl_rows (rs : List PRow) : plO (.list (rowDs rs)) = true := by rw [plO]; exact pl_rowDs rs
/-- the same list of rows several times -/
def repR (rs : List PRow) (n : Nat) : PyData := .list (List.replicate n (.list (rowDs rs)))
theorem dps_repR {K : PySem.W.Frag} {H : Hp} {rs : List PRow} : ∀ {ws : List Addr} {n : Nat}, ws.length = n → (∀ w ∈ ws, ∃ vs : List Addr, H w = some (.lst (vs.map V.ref)) ∧ RowsAt H rs vs) → DpAll K H (ws.map V.ref) (List.replicate n (.list (rowDs rs)))
  | [], n, h, _ => by subst h; exact .nil
  | w :: ws, n, h, k => by
    subst h
    rw [List.length_cons, List.replicate_succ]
    obtain ⟨vs, h1, h2⟩ := k w List.mem_cons_self
    exact .cons (.lst (SqL.of h1) (dp_rows h2)) (dps_repR rfl fun x hx => k x (List.mem_cons_of_mem _ hx))
theorem pl_repR (rs : List PRow) (n : Nat) : plO (repR rs n) = true := by
  rw [repR, plO]
  induction n with
  | zero => rfl
  | succ n ih => rw [List.replicate_succ, plOs, ih, pl_rows]; rfl
theorem shp_repR {rs : List PRow} (h : ∀ r ∈ rs, OkRow r) (n : Nat) : SeqAt.shaped (repR rs n) = true := by
  have h1 : PyData.canLayAll0 (List.replicate n (.list (rowDs rs))) = true := by
    induction n with
    | zero => simp [PyData.canLayAll0]
    | succ n ih =>
      have c0 : PyData.canLay0 (.list (rowDs rs)) = true := by simp only [PyData.canLay0, lay_rows h]
      simp only [List.replicate_succ, PyData.canLayAll0, ih, c0, Bool.and_true]
  have h2 : PyData.depthAll (List.replicate n (.list (rowDs rs))) ≤ 2 := by
    clear h1
    induction n with
    | zero => simp [PyData.depthAll]
    | succ n ih =>
      have d1 := dep_rows rs
      simp only [List.replicate_succ, PyData.depthAll, PyData.depth]
      omega
  simp only [SeqAt.shaped, repR, PyData.canLay0, PyData.depth, h1, Bool.true_and, decide_eq_true_eq]
  omega
/-- what is told -/
theorem amg_in {rows : List PRow} {r : PRow} (h : r ∈ rows) : (amg rows r).isSome = true := by
  have e : amgR rows r = r := by unfold amgR; rw [if_neg (fun z => z.2.2 h)]
  unfold amg
  rw [e, if_pos h]
  rfl
theorem amg_swap {rows : List PRow} {x y : Str} (h : [wA, x, y] ∈ rows) : (amg rows [wA, y, x]).isSome = true := by
  by_cases c : [wA, y, x] ∈ rows
  · exact amg_in c
  · have e : amgR rows [wA, y, x] = [wA, x, y] := by unfold amgR; rw [if_pos ⟨rfl, rfl, c⟩]; rfl
    unfold amg
    rw [e, if_pos h]
    rfl
theorem amg_out {rows : List PRow} {r : PRow} (h1 : r ∉ rows) (h2 : ∀ x y, r = [wA, x, y] → [wA, y, x] ∉ rows) : (amg rows r).isSome = false := by
  unfold amg amgR
  by_cases c : r.length = 3 ∧ r.getD 0 "" = wA ∧ r ∉ rows
  · rw [if_pos c]
    obtain ⟨c1, c2, _⟩ := c
    match r, c1, c2 with
    | [a, x, y], _, c2 =>
      have c2 : a = wA := c2
      subst c2
      have := h2 x y rfl
      show (if [wA, y, x] ∈ rows then _ else _ : Option PRow).isSome = false
      rw [if_neg this]
      rfl
  · rw [if_neg c, if_neg h1]
    rfl
theorem share_one {g : GD} (fit : g.Fit) {x y : Str} (h1 : [wA, x, y] ∈ g.perms) (h2 : [wA, y, x] ∈ g.perms) : False := by
  obtain ⟨n1, n2, n3, n4, n5, n6, n7, n8, n9, n10⟩ := w_ne
  have nd := fit.mvnd
  have key : ∀ {a b : Str}, [wA, a, b] ∈ g.perms → ∃ i j : Nat, i < j ∧ g.mv[i]? = some a ∧ g.mv[j]? = some b := fun h => by
    generalize hr : [wA, _, _] = r at h
    have hp := mem_perms.mp h
    cases hp with
    | f _ => simp at hr
    | s _ => simp at hr
    | w _ => simp at hr
    | h _ _ => exact absurd (List.cons.inj hr).1.symm n10
    | a hi hx hy =>
      simp only [List.cons.injEq] at hr
      exact ⟨_, _, hi, by rw [hr.2.1]; exact hx, by rw [hr.2.2.1]; exact hy⟩
  obtain ⟨i, j, l1, a1, a2⟩ := key h1
  obtain ⟨k, m, l2, b1, b2⟩ := key h2
  have := at_inj nd a1 b2
  have := at_inj nd a2 b1
  omega
theorem perm_wF {g : GD} {x : Str} (h : [wF, x] ∈ g.perms) : x ∈ g.letters.map (·.1) := by
  obtain ⟨n1, n2, n3, n4, n5, n6, n7, n8, n9, n10⟩ := w_ne
  generalize hr : [wF, x] = r at h
  have hp := mem_perms.mp h
  cases hp with
  | f hx => simp only [List.cons.injEq] at hr; rw [hr.2.1]; exact hx
  | s _ => exact absurd (List.cons.inj hr).1 n1
  | w _ => exact absurd (List.cons.inj hr).1 n2
  | h _ _ => simp at hr
  | a _ _ _ => simp at hr
theorem perm_wW {g : GD} {x : Str} (h : [wW, x] ∈ g.perms) : x ∈ g.mv := by
  obtain ⟨n1, n2, n3, n4, n5, n6, n7, n8, n9, n10⟩ := w_ne
  generalize hr : [wW, x] = r at h
  have hp := mem_perms.mp h
  cases hp with
  | f _ => exact absurd (List.cons.inj hr).1.symm n2
  | s _ => exact absurd (List.cons.inj hr).1.symm n5
  | w hx => simp only [List.cons.injEq] at hr; rw [hr.2.1]; exact hx
  | h _ _ => simp at hr
  | a _ _ _ => simp at hr
theorem perm_wH {g : GD} {x y : Str} (h : [wH, x, y] ∈ g.perms) : x ∈ g.mv := by
  obtain ⟨n1, n2, n3, n4, n5, n6, n7, n8, n9, n10⟩ := w_ne
  generalize hr : [wH, x, y] = r at h
  have hp := mem_perms.mp h
  cases hp with
  | f _ => simp at hr
  | s _ => simp at hr
  | w _ => simp at hr
  | h hx _ => simp only [List.cons.injEq] at hr; rw [hr.2.1]; exact hx
  | a _ _ _ => exact absurd (List.cons.inj hr).1 n10
theorem mv_fixed {g : GD} {x : Str} (h : x ∈ g.mv) (f : x ∈ g.fixed) : False := by
  have := (List.mem_filter.mp h).2
  simp [f] at this
theorem nodup_leS : ∀ {l m : List Str}, l.Nodup → (∀ x ∈ l, x ∈ m) → l.length ≤ m.length
  | [], _, _, _ => Nat.zero_le _
  | x :: l, m, h, s => by
    have hx := s x List.mem_cons_self
    have h' := List.nodup_cons.mp h
    have := nodup_leS (l := l) (m := m.erase x) h'.2 fun y hy => (List.mem_erase_of_ne (fun e => h'.1 (by rw [← e]; exact hy))).mpr (s y (List.mem_cons_of_mem _ hy))
    rw [List.length_erase_of_mem hx] at this
    have := List.length_pos_of_mem hx
    rw [List.length_cons]
    omega
theorem has_rows {K : PySem.W.Frag} {rows : List PRow} {H : Hp} {b : Bool} {rs : List PRow} {ts : List Addr} (h : RowsAt H rs ts) (hb : ∀ r ∈ rs, r.length ≤ 100 ∧ (amg rows r).isSome = b) : Paired (HasV K rows H) (ts.map V.ref) (rs.map fun _ => b) := by
  induction h with
  | nil => exact .nil
  | cons h _ ih =>
    obtain ⟨h1, h2⟩ := hb _ List.mem_cons_self
    exact .cons (.inl ⟨_, _, rfl, .inr h, h1, h2⟩) (ih fun r hr => hb r (List.mem_cons_of_mem _ hr))
theorem has_lsts {K : PySem.W.Frag} {rows : List PRow} {H : Hp} {b : Bool} {rs : List PRow} {us : List Addr} (h : Paired (fun r u => H u = some (.lst (sts r))) rs us) (hb : ∀ r ∈ rs, r.length ≤ 100 ∧ (amg rows r).isSome = b) : Paired (HasV K rows H) (us.map V.ref) (rs.map fun _ => b) := by
  induction h with
  | nil => exact .nil
  | cons h _ ih =>
    obtain ⟨h1, h2⟩ := hb _ List.mem_cons_self
    exact .cons (.inl ⟨_, _, rfl, .inl h, h1, h2⟩) (ih fun r hr => hb r (List.mem_cons_of_mem _ hr))
theorem same_unlock {H H' : Hp} {d : Addr} {od : Obj} {u : HO} (hd : H d = some u) (s : Same (upd H d (.frz od u)) H') : Same H (upd H' d u) := fun b o e => by
  by_cases c : b = d
  · rw [c, upd_same, ← hd, ← c]; exact e
  · rw [upd_ne c]
    exact s _ _ (by rw [upd_ne c]; exact e)
theorem frz_of {CP : Addr} {H : Hp} {x d dx : Addr} {fs : List (Str × V)} {rows : List PRow} {od : Obj} (h1 : H x = some (.ins CP dx fs)) (h2 : fs.lookup ("_rows" : Str) = some (.ref d)) (h3 : H d = some (.dT (trR rows))) : FrzP CP (upd H d (.frz od (.dT (trR rows)))) x d od rows :=
  ⟨dx, fs, by rw [upd_ne (ne_of h1 h3 (fun z => nomatch z))]; exact h1, h2, upd_same⟩
theorem notseq {K : PySem.W.Frag} {t : String} (h : t = "NoneType" ∨ t = "int" ∨ t = "str" ∨ t = "dict" ∨ t = "bool") : PySem.W.kitAny K (.type t) [.type "list", .type "tuple"] = some false := by
  rcases h with rfl | rfl | rfl | rfl | rfl <;>
  exact kitAny_cons (b := false) (kit_ty (by decide +kernel)) (fun _ => kitAny_cons (b := false) (kit_ty (by decide +kernel)) (fun _ => kitAny_nil) (fun h => nomatch h)) (fun h => nomatch h)
theorem perm_len3 {g : GD} {r : PRow} (h : r ∈ g.perms) : r.length ≤ 3 := by
  rcases (mem_perms.mp h).form with ⟨wd, x, rfl, a, b⟩ | ⟨x, y, rfl⟩ | ⟨x, y, rfl⟩ <;> exact Nat.le_of_ble_eq_true rfl
end GB
namespace K7
open PySem PySem.Spec L2 GB EqT LamX ItX
abbrev sRi : Stmt := topS 44
def riN : List Str := ["_law_permits", "_law_g", "_law_due", "_law_walked", "_law_row", "_law_x", "_law_mixed_here", "_law_absent", "_law_odd"]
def spRi (C CP : Addr) : Sp := fun vs H Q _ => ∃ (x g D G : Addr) (gd : GD) (rows : List PRow) (ts : List Addr), vs = [.ref x, .ref g, .ref D] ∧ IsP CP H x G rows ∧ IsGr3 C H G gd ∧ IsG H g gd ∧ gd.Fit ∧ ("none" : Str) ∉ gd.letters.map (·.1) ∧ H D = some (.lst (ts.map V.ref)) ∧ RowsAt H rows ts ∧ rows.Nodup ∧ (∀ r ∈ rows, r ∈ gd.perms) ∧ gd.perms.length ≤ 200 ∧ ∀ H', Same H H' → Q (.bl true) H'
def rLd : List V → Hp → VK → Prop := fun xs H Q => ∃ (a : Addr) (kvs : List (Key × V)), xs = [.ref a] ∧ Rd H a (.dK kvs) ∧ ∀ p, H p = none → Q (.ref p) (upd H p (.lst (kvs.map fun kv => kV kv.1)))
section
variable {P : Program} {w : World} {K : PySem.W.Frag} {mg : Str → Option Value} {base : Heap} {C CP : Addr}
theorem scRi : FnScope riN ["_law_permits", "_law_g", "_law_due"] (defScope sRi) := ⟨rfl, rfl, rfl, by decide +kernel, rfl, by decide +kernel, by decide +kernel⟩
theorem ok_ri {f : Addr} {fd : FuncData} (F : Fun K "_law_is_right" "_law_is_right" sRi f fd) (T : Bl mg) (MP : PrM P w K mg base C CP) (MG : GrM P w K mg base C) (MD : Fns P w K mg base "_law_made" 7 ["_law_g"] (spMade3 C)) (EV : Fns P w K mg base "_law_every" 1 ["_law_g"] spEv) : FnOk P w K mg base CX0 8 f fd ["_law_permits", "_law_g", "_law_due"] (spRi C CP) := by
  obtain ⟨ck, ⟨fR, dR, mR, FR, bR⟩, ⟨fL, dL, hsL, hfL, FL, bL⟩, ⟨fH, dH, hsH, hfH, FH, bH⟩, ⟨fI, dI, hsI, hfI, FI, bI⟩, _, _, _⟩ := MP
  obtain ⟨gk, _, _, _, _, _, _, _, ⟨fE, dE, hsE, hfE, FE, bE⟩, hne, hmro⟩ := MG
  refine F.ok scRi (fun vs H Q E h => ?_) (fun cdv A outer s H vs Q E hr h => ?_)
  · obtain ⟨x, g, D, G, gd, rows, ts, rfl, _⟩ := h
    rfl
  · obtain ⟨x, g, D, G, gd, rows, ts, rfl, hP, hR, hG, fit, nn, hD, hrs, nd, sub, hpl, q⟩ := h
    have hu65 : (A.deeper (PyProof.Rows.envOfC "_law_is_right" (defScope sRi) s.heap.objs.size f cdv)).units + 65 < cLine := by have := hr.un; omega
    have hu64 : (A.deeper (PyProof.Rows.envOfC "_law_is_right" (defScope sRi) s.heap.objs.size f cdv)).units + 64 < cLine := by omega
    have hr1 : Room 1 (A.deeper (PyProof.Rows.envOfC "_law_is_right" (defScope sRi) s.heap.objs.size f cdv)) := hr.mono (by decide)
    have hr2 : Room 2 (A.deeper (PyProof.Rows.envOfC "_law_is_right" (defScope sRi) s.heap.objs.size f cdv)) := hr.mono (by decide)
    refine ⟨_, pss_cons (ps_if (PW.pt (pw_or (pt_cmpR (op_neOwn hsE hfE hne hmro FE hr2 bE) (pe_fld (pv 0) rfl) (pe_fn MD hr (by decide) rfl (pa_cons (pv 1) pa_nil)) (nomark _)) (pw_or (pt_cmpR (op_neD hu64) (pe_meth0 (pv 0) ck.cl mR FR hr1 bR .nil pass0) (pv 2) (nomark _)) (pw_or1 (pt_cmpR op_ne (pe_callB (call_lenOwn hsL hfL FL hr2 bL) (by rfl) T.len PySem.boot_len (pa_cons (pv 0) pa_nil)) (pe_callB call_len_seq (by rfl) T.len PySem.boot_len (pa_cons (pv 2) (pa_nil))) (nomark _)))))) (pss_one (ps_ret (pe_bl))) (pss_nil)) (pss_cons (ps_set (i := 3) scRi.nd rfl (.inl rfl) (pe_lst (pa_nil))) (pss_cons (ps_lock (ps_for PassesOwn.never rfl (pi_itOwnT hsI hfI FI hr1 bI (pv 0)) (pg_name (i := 4) scRi.nd rfl (.inl rfl)) (pss_one (ps_expr (pe_bm PySem.F.plainAttrs_list PySem.F.slot_list_append PySem.F.type_list_append mt_append (pv 3) (pa_cons (pe_weak (t' := tOwnL CP) (pe_lc (own := [("_law_x", 5)]) (g := gName 5) (tt := tYes) rfl scRi.nd (pi_itOwnT hsI hfI FI hr1 bI (pv 0)) (blkOk_by (own := [("_law_x", 5)]) (N := riN) (sc := defScope sRi) (by decide +kernel)) (fun _ _ _ _ _ => pg_name (i := 5) scRi.nd rfl (.inl rfl)) (fun _ _ _ _ _ => pts_nil) (fun _ _ _ _ _ => pv 5)) ownL_weak) (pa_nil))))))) (pss_cons (ps_if (PW.pt (pw_or (pt_cmpR (op_neD hu64) (pv 3) (pe_op op_rep (pe_lst (pa_cons (pv 2) pa_nil)) (pe_callB call_len_seq (by rfl) T.len PySem.boot_len (pa_cons (pv 2) pa_nil))) (nomark _)) (pw_or1 (pt_not (pt_val (pe_lock (pe_weak (t' := tOwnT CP) (pe_callB (r := rAll K) (cr_all rfl) (by rfl) T.all (by decide +kernel) (pa_cons (pe_lc (own := [("_law_row", 4)]) (g := gName 4) (tt := tYes) rfl scRi.nd (pi_itOwnT hsI hfI FI hr1 bI (pv 0)) (blkOk_by (own := [("_law_row", 4)]) (N := riN) (sc := defScope sRi) (by decide +kernel)) (fun _ _ _ _ _ => pg_name (i := 4) scRi.nd rfl (.inl rfl)) (fun _ _ _ _ _ => pts_nil) (fun _ _ _ _ _ => pe_callB (id := "isinstance") (r := rIsi K) call_isi (by rfl) T.isi (by decide +kernel) (pa_cons (pv 4) (pa_cons (pe_bltn (v := .ty "tuple") (by rfl) T.tuple (by decide +kernel) rfl) (pa_nil))))) pa_nil)) ownT_weak))))))) (pss_one (ps_ret (pe_bl))) (pss_nil)) (pss_cons (ps_set (i := 6) scRi.nd rfl (.inl rfl) (pe_op op_cat (pe_op op_cat (pv 2) (pe_weak (t' := tLs K 2 4 (tCB (rLof K) (tCons (tVar 4) tNil))) (pe_lc (own := [("_law_row", 4)]) (g := gName 4) (tt := tYes) rfl scRi.nd (pi_seqW (pv 2)) (blkOk_by (own := [("_law_row", 4)]) (N := riN) (sc := defScope sRi) (by decide +kernel)) (fun _ _ _ _ _ => pg_name (i := 4) scRi.nd rfl (.inl rfl)) (fun _ _ _ _ _ => pts_nil) (fun _ _ _ _ _ => pe_callTy (r := rLof K) call_lof (by rfl) T.list (by decide +kernel) (pa_cons (pv 4) pa_nil))) ls_weak)) (pe_weak (t' := tRF K 2 4 (tTest (tOp rEq (tOp (rIxT K) (tVar 4) (tC (.int 0))) (tC (.str "shares")))) (tTup (tCons (tC (.str "shares")) (tCons (tOp (rIxT K) (tVar 4) (tC (.int 2))) (tCons (tOp (rIxT K) (tVar 4) (tC (.int 1))) tNil))))) (pe_lc (own := [("_law_row", 4)]) (g := gName 4) (tt := tTest (tOp rEq (tOp (rIxT K) (tVar 4) (tC (.int 0))) (tC (.str "shares")))) rfl scRi.nd (pi_seqW (pv 2)) (blkOk_by (own := [("_law_row", 4)]) (N := riN) (sc := defScope sRi) (by decide +kernel)) (fun _ _ _ _ _ => pg_name (i := 4) scRi.nd rfl (.inl rfl)) (fun _ _ _ _ _ => pts_one (pt_cmpR op_eq (pe_ix (r := rIxT K) ix_tup (pv 4) (pe_int) (fun _ _ => rfl)) (pe_str) (nomark _))) (fun _ _ _ _ _ => pe_tup (pa_cons (pe_str) (pa_cons (pe_ix (r := rIxT K) ix_tup (pv 4) (pe_int) (fun _ _ => rfl)) (pa_cons (pe_ix (r := rIxT K) ix_tup (pv 4) (pe_int) (fun _ _ => rfl)) (pa_nil)))))) rf_weak))) (pss_cons (ps_weak (t' := tAsg (tEvF 1 4 (tTest (tOp (rNotInD K) (tVar 4) (tVar 2))) (tVar 4)) (gName 7)) (ps_setLc (i := 7) (own := [("_law_row", 4)]) (g := gName 4) (tt := tTest (tOp (rNotInD K) (tVar 4) (tVar 2))) rfl scRi.nd rfl rfl (sw_true rfl rfl rfl (by decide +kernel)) (pi_seqW (pe_fn EV hr (by decide) rfl (pa_cons (pv 1) (pa_nil)))) (blkOk_by (own := [("_law_row", 4)]) (N := riN) (sc := defScope sRi) (by decide +kernel)) (fun _ _ _ _ _ => pg_name (i := 4) scRi.nd rfl (.inl rfl)) (fun _ _ _ _ _ => pts_one (pt_cmpR (r := rNotInD K) (op_notInD hu65) (pv 4) (pv 2) (by rfl))) (fun _ _ _ _ _ => pv 4)) (fun D σ H h => evf_weak σ H _ h)) (pss_cons (ps_set (i := 8) scRi.nd rfl (.inl rfl) (pe_lst (pa_cons (pe_non) (pa_cons (pe_int) (pa_cons (pe_str) (pa_cons (pe_tup (pa_nil)) (pa_cons (pe_tup (pa_cons (pe_str) (pa_nil))) (pa_cons (pe_tup (pa_cons (pe_str) (pa_cons (pe_str) (pa_nil)))) (pa_cons (pe_tup (pa_cons (pe_str) (pa_cons (pe_non) (pa_nil)))) (pa_cons (pe_tup (pa_cons (pe_str) (pa_cons (pe_lst (pa_cons (pe_str) (pa_nil))) (pa_nil)))) (pa_cons (pe_dnewK) (pa_cons (pe_bl) (pa_cons (pe_str) (pa_nil)))))))))))))) (pss_cons (ps_set (i := 8) scRi.nd rfl (.inl rfl) (pe_op op_cat (pe_op op_cat (pv 8) (pe_weak (t' := tRD K 1 "fixed" 5 (tTup (tCons (tC (.str "writes")) (tCons (tVar 5) tNil)))) (pe_lc (own := [("_law_x", 5)]) (g := gName 5) (tt := tYes) rfl scRi.nd (pi_seqW (pe_dget (hu_of hr) (pv 1) pe_str (fun _ _ => rfl))) (blkOk_by (own := [("_law_x", 5)]) (N := riN) (sc := defScope sRi) (by decide +kernel)) (fun _ _ _ _ _ => pg_name (i := 5) scRi.nd rfl (.inl rfl)) (fun _ _ _ _ _ => pts_nil) (fun _ _ _ _ _ => pe_tup (pa_cons (pe_str) (pa_cons (pv 5) (pa_nil))))) rd_weak)) (pe_weak (t' := tRK 1 "letters" 5 (tTup (tCons (tC (.str "shares")) (tCons (tVar 5) (tCons (tVar 5) tNil))))) (pe_lock (pe_lc (own := [("_law_x", 5)]) (g := gName 5) (tt := tYes) rfl scRi.nd (pi_keys (pe_dget (hu_of hr) (pv 1) pe_str (fun _ _ => rfl))) (blkOk_by (own := [("_law_x", 5)]) (N := riN) (sc := defScope sRi) (by decide +kernel)) (fun _ _ _ _ _ => pg_name (i := 5) scRi.nd rfl (.inl rfl)) (fun _ _ _ _ _ => pts_nil) (fun _ _ _ _ _ => pe_tup (pa_cons (pe_str) (pa_cons (pv 5) (pa_cons (pv 5) (pa_nil))))))) rk_weak))) (pss_cons (ps_set (i := 8) scRi.nd rfl (.inl rfl) (pe_op op_cat (pv 8) (pe_weak (t' := tRD K 1 "fixed" 5 (tTup (tCons (tC (.str "shows")) (tCons (tVar 5) (tCons (tOp (rIxL K) (tCB rLd (tCons (tDGet (tVar 1) (tC (.str "letters"))) tNil)) (tC (.int 0))) tNil))))) (pe_lc (own := [("_law_x", 5)]) (g := gName 5) (tt := tYes) rfl scRi.nd (pi_seqW (pe_dget (hu_of hr) (pv 1) pe_str (fun _ _ => rfl))) (blkOk_by (own := [("_law_x", 5)]) (N := riN) (sc := defScope sRi) (by decide +kernel)) (fun _ _ _ _ _ => pg_name (i := 5) scRi.nd rfl (.inl rfl)) (fun _ _ _ _ _ => pts_nil) (fun _ _ _ _ _ => pe_tup (pa_cons (pe_str) (pa_cons (pv 5) (pa_cons (pe_ix (r := rIxL K) ix_list (pe_callTy (r := rLd) (call_listD rfl) (by rfl) T.list (by decide +kernel) (pa_cons (pe_dget (hu_of hr) (pv 1) pe_str (fun _ _ => rfl)) pa_nil)) pe_int (fun _ _ => rfl)) (pa_nil)))))) rd_weak))) (pss_one (ps_ret (pe_and (pe_weak (t' := tHasA K CP 6) (pe_callB (r := rAll K) (cr_all rfl) (by rfl) T.all (by decide +kernel) (pa_cons (pe_lc (own := [("_law_row", 4)]) (g := gName 4) (tt := tYes) rfl scRi.nd (pi_seqW (pv 6)) (blkOk_by (own := [("_law_row", 4)]) (N := riN) (sc := defScope sRi) (by decide +kernel)) (fun _ _ _ _ _ => pg_name (i := 4) scRi.nd rfl (.inl rfl)) (fun _ _ _ _ _ => pts_nil) (fun _ _ _ _ _ => pe_cmpR (r := rInOwn CP (spHasP K CP) false) (op_inOwn (C := CP) (sp := spHasP K CP) hsH hfH FH (hr.mono (by decide)) bH) (pv 4) (pv 0) (by rfl))) pa_nil)) hasA_weak) (pe_one (pe_not (pe_weak (t' := tHasN K CP 7 8) (pe_callB (r := rAny K) (cr_any rfl) (by rfl) T.any (by decide +kernel) (pa_cons (pe_lc (own := [("_law_row", 4)]) (g := gName 4) (tt := tYes) rfl scRi.nd (pi_seqW (pe_op op_cat (pv 7) (pv 8))) (blkOk_by (own := [("_law_row", 4)]) (N := riN) (sc := defScope sRi) (by decide +kernel)) (fun _ _ _ _ _ => pg_name (i := 4) scRi.nd rfl (.inl rfl)) (fun _ _ _ _ _ => pts_nil) (fun _ _ _ _ _ => pe_cmpR (r := rInOwn CP (spHasP K CP) false) (op_inOwn (C := CP) (sp := spHasP K CP) hsH hfH FH (hr.mono (by decide)) bH) (pv 4) (pv 0) (by rfl))) pa_nil)) hasN_weak)))))))))))))), ?_⟩
    clear F FE FR FL FH FI MD EV T hr bR bL bH bI bE hsE hfE hsL hfL hsH hfH hsI hfI mR hr1 hr2 hu64 hu65
    have okp : ∀ r ∈ rows, OkRow r := fun r hr => okr_perm fit (sub r hr)
    have lr : rows.length ≤ 200 := Nat.le_trans (nodup_leR nd sub) hpl
    have lts : rows.length = ts.length := Paired.length hrs
    obtain ⟨dx, fs, d, p1, p2, ⟨p3, pd⟩, p4, p5⟩ := hP.ex
    obtain ⟨gx, gf, _, _, _, _, _, g0, _⟩ := hR.gr.ex
    refine ⟨_, rfl, x, CP, dx, fs, _, rfl, p1, ck.cl, ck.n1, p2, _, rfl, g, gd, rfl, hG, fit, fun G2 H1 nG2 s1 hG2 => ?_⟩
    obtain ⟨gx2, gf2, _, _, _, _, _, g02, _⟩ := hG2.gr.ex
    refine ⟨G, gx, gf, rfl, s1 _ _ g0, ⟨.ref C, gk.ty H1 G2 gx2 gf2 g02, by unfold PySem.W.notFirst; simp⟩, G, .ref G2, gd, rfl, hR.gr.mono s1, fit, .inl ⟨G2, gd, rfl, hG2.gr, fit, fun _ => rfl, _, rfl, _, rfl, ?_⟩⟩
    rw [eqG_self]
    refine iteF ?_
    refine ⟨_, rfl, x, dx, fs, rfl, s1 _ _ p1, p4 _ (by simp), x, G, rows, rfl, hP.mono s1, fun l tsl H2 nl s2 hl rl => ?_⟩
    have S2 := s1.trans s2
    refine ⟨_, rfl, .list (rowDs rows), .list (rowDs rows), .lst (SqL.of hl) (dp_rows rl), .lst (SqL.of (S2 _ _ hD)) (dp_rows (hrs.mono S2)), shp_rows okp, shp_rows okp, _, rfl, ?_⟩
    rw [eqv_self _ (pl_rows _)]
    refine iteF ?_
    refine ⟨_, rfl, x, dx, fs, rfl, S2 _ _ p1, x, G, rows, rfl, hP.mono S2, rows.length, rfl, by rw [sizeLine_eq]; omega, _, rfl, D, ts.map V.ref, rfl, .inl (SqL.of (S2 _ _ hD)), rfl, _, rfl, ?_⟩
    rw [show (!decide (V.int ((rows.length : Nat) : Int) = V.int (((ts.map V.ref).length : Nat) : Int))) = false from by rw [List.length_map, lts, decide_eq_true rfl]; rfl]
    refine iteF ?_
    refine ⟨by show 0 ≤ sizeLine; decide, fun wl nwl => ?_⟩
    obtain ⟨H3, s3, h3, e3⟩ := lay (o := .lst []) nwl
    rw [e3]
    have S3 := S2.trans s3
    have pd3 := S3 _ _ pd
    refine ⟨d, .dT (trR rows), pd3, trivial, fun od => ?_⟩
    have hF3 : FrzP CP (upd H3 d (.frz od (.dT (trR rows)))) x d od rows := frz_of (S3 _ _ p1) p3 pd3
    have wd : wl ≠ d := ne_of h3 pd3 (fun z => nomatch z)
    have h3L : (upd H3 d (.frz od (.dT (trR rows)))) wl = some (.lst []) := by rw [upd_ne wd]; exact h3
    have hdL : (upd H3 d (.frz od (.dT (trR rows)))) d = some (.frz od (.dT (trR rows))) := upd_same
    have hsL : ∀ H', Same (hid [wl] (upd H3 d (.frz od (.dT (trR rows))))) (hid [wl] H') → Same H2 (upd H' d (.dT (trR rows))) := fun H' S b o e => by
      by_cases c : b = d
      · rw [c, upd_same, ← (S2 _ _ pd), ← c]; exact e
      · rw [upd_ne c]
        have bw := ne_of_none e nwl
        exact bt_at S (ni1 bw) (by rw [upd_ne c]; exact s3 _ _ e)
    generalize upd H3 d (.frz od (.dT (trR rows))) = HL at hF3 h3L hdL hsL
    show iItOwnT CP (spItP CP) _ (tVar 0) _ HL _
    refine own_walk rfl hF3 ?_
    have WJ := walk_rowsT (d := d) (o := od) (rows := rows)
    refine for_it WJ (fun i σ H' => ∃ (o4 : Option V) (ws : List Addr), σ = [some (.ref x), some (.ref g), some (.ref D), some (.ref wl), o4, none, none, none, none] ∧ Same (hid [wl] HL) (hid [wl] H') ∧ H' wl = some (.lst (ws.map V.ref)) ∧ ws.length = i ∧ ∀ w ∈ ws, ∃ vs : List Addr, hid [wl] H' w = some (.lst (vs.map V.ref)) ∧ RowsAt (hid [wl] H') rows vs)
      ⟨none, [], rfl, Same.refl _, h3L, rfl, (fun _ h => nomatch h)⟩ (fun i σ H' _ ⟨_, _, _, S, _⟩ => bt_at S (ni1 (Ne.symm wd)) hdL) ?_ ?_
    · rintro i y σ H4' H4 hi ⟨o4, ws, rfl, S4, hw4, lw, kw⟩ ⟨rfl, r, t, hr, rfl, ht⟩
      refine ⟨_, rfl, .inl ⟨rfl, _, SqL.of hw4⟩, ?_⟩
      have hF4 : FrzP CP H4 x d od rows := by
        obtain ⟨dx', fs', f1, f2, f3⟩ := hF3
        exact ⟨dx', fs', bt_at S4 (ni1 (ne_of f1 h3L (fun z => nomatch z))) f1, f2, bt_at S4 (ni1 (Ne.symm wd)) f3⟩
      refine ⟨x, d, od, rows, rfl, by show 5 < 9; decide, hF4, by omega, fun D2 H5 r5 => ?_⟩
      obtain ⟨vs, d5, v5⟩ := r5.done
      have s5 := r5.same
      have hw5 := s5 _ _ hw4
      have D2w : D2 ≠ wl := fun z => by have := r5.nw; rw [z, hw4] at this; cases this
      have B6 : Bt [wl] H5 (upd H5 wl (.lst (ws.map V.ref ++ [.ref D2]))) := bt_upd (by simp)
      have S46 : Same (hid [wl] H4) (hid [wl] (upd H5 wl (.lst (ws.map V.ref ++ [.ref D2])))) := (hid_same s5).trans B6
      refine ⟨wl, _, _, rfl, rfl, hw5, by rw [List.length_map, lw, sizeLine_eq]; omega, ?_⟩
      refine ⟨_, ws ++ [D2], rfl, S4.trans S46, by rw [upd_same, List.map_append]; rfl, by rw [List.length_append, lw]; rfl, fun z hz => ?_⟩
      rcases List.mem_append.mp hz with hz | hz
      · obtain ⟨us, u1, u2⟩ := kw z hz
        exact ⟨us, S46 _ _ u1, u2.mono S46⟩
      · rw [List.mem_singleton.mp hz]
        exact ⟨vs, B6 _ _ (hid_to (ni1 D2w) d5), Paired.mapP v5 fun row t rt => B6 _ _ (hid_to (ni1 (ne_of (show H5 t = some (.tup (sts row)) from rt) hw5 (fun z => nomatch z))) rt)⟩
    rintro σ H4 ⟨o4, ws, rfl, S4, hw4, lw, kw⟩
    have hd4 : H4 d = some (.frz od (.dT (trR rows))) := bt_at S4 (ni1 (Ne.symm wd)) hdL
    refine ⟨hd4, ?_⟩
    have S24 := hsL _ S4
    have hw5 : (upd H4 d (.dT (trR rows))) wl = some (.lst (ws.map V.ref)) := by rw [upd_ne wd]; exact hw4
    have kw5 : ∀ w ∈ ws, ∃ vs : List Addr, (upd H4 d (.dT (trR rows))) w = some (.lst (vs.map V.ref)) ∧ RowsAt (upd H4 d (.dT (trR rows))) rows vs := fun w hw => by
      obtain ⟨vs, v1, v2⟩ := kw w hw
      obtain ⟨e1, _⟩ := hid_in v1
      refine ⟨vs, by rw [upd_ne (ne_of e1 hd4 (fun z => nomatch z))]; exact e1, Paired.mapP v2 fun row t rt => ?_⟩
      have e2 := (hid_in (show hid [wl] H4 t = some (.tup (sts row)) from rt)).1
      show upd H4 d _ t = _
      rw [upd_ne (ne_of e2 hd4 (fun z => nomatch z))]
      exact e2
    generalize upd H4 d (.dT (trR rows)) = H5 at S24 hw5 kw5
    clear hsL hF3 h3L hdL S4 hw4 kw hd4 WJ
    have S5 := S2.trans S24
    have hD5 := S5 _ _ hD
    have hrs5 := hrs.mono S5
    have pd5 := S5 _ _ pd
    refine ⟨_, rfl, _, rfl, by show 1 ≤ sizeLine; decide, fun L nL => ?_⟩
    obtain ⟨H6, s6, h6, e6⟩ := lay (o := .lst [.ref D]) nL
    rw [e6]
    refine ⟨_, rfl, D, ts.map V.ref, rfl, .inl (SqL.of (s6 _ _ hD5)), L, _, [.ref D], rfl, rfl, h6, by omega, by rw [List.length_map]; omega, by rw [List.length_map, sizeLine_eq]; simp only [List.length_singleton, Int.toNat_natCast]; omega, fun R nR => ?_⟩
    rw [Int.toNat_natCast, List.length_map, rep1]
    obtain ⟨H7, s7, h7, e7⟩ := lay (o := .lst (List.replicate ts.length (V.ref D))) nR
    rw [e7]
    have S57 := s6.trans s7
    have S7 := S5.trans S57
    refine ⟨repR rows rows.length, repR rows rows.length, .lst (SqL.of (S57 _ _ hw5)) (dps_repR lw fun w hw => ?_), .lst (SqL.of h7) ?_, shp_repR okp _, shp_repR okp _, _, rfl, ?_⟩
    · obtain ⟨vs, v1, v2⟩ := kw5 w hw
      exact ⟨vs, S57 _ _ v1, v2.mono S57⟩
    · have := dps_repR (K := K) (H := H7) (rs := rows) (ws := List.replicate ts.length D) (n := rows.length) (by rw [List.length_replicate, lts]) (fun w hw => by rw [List.eq_of_mem_replicate hw]; exact ⟨ts, S57 _ _ hD5, hrs5.mono S57⟩)
      rw [List.map_replicate] at this
      exact this
    rw [eqv_self _ (pl_repR _ _)]
    refine iteF ?_
    refine ⟨d, .dT (trR rows), S57 _ _ pd5, trivial, fun od2 => ⟨x, d, od2, rows, rfl, by show 4 < 9; decide, frz_of (S7 _ _ p1) p3 (S57 _ _ pd5), by omega, fun H8' s8' => ⟨s8' _ _ upd_same, _, rfl, ?_⟩⟩⟩
    refine iteF ?_
    have s8 := same_unlock (S57 _ _ pd5) s8'
    generalize upd H8' d (.dT (trR rows)) = H8 at s8
    clear s8'
    have S8 := S7.trans s8
    have hD8 := S8 _ _ hD
    have hrs8 := hrs.mono S8
    clear kw5 hw5 lw hrs5 hD5 S24 S57 s6 s7 h6 h7 e6 e7 pd5 nL nR
    -- mixed
    have sx : ∀ {J : Hp} {r : PRow} {t : Addr}, RowAt J r t → SqT K J t (sts r) := fun h => SqT.of h
    refine ⟨_, rfl, D, rows, ts, rfl, .inl (SqL.of hD8), hrs8, by omega, fun H' r t Q' s' ht k => ⟨_, rfl, t, sts r, rfl, .inr (sx ht), fun u nu => k u nu⟩, fun D2 H9 r9 => ?_⟩
    obtain ⟨nD2, s9, us, hD2, hus⟩ := r9
    have hD9 := s9 _ _ hD8
    have lus : rows.length = us.length := Paired.length hus
    refine ⟨D, D2, _, _, rfl, rfl, hD9, hD2, by rw [List.length_map, List.length_map, sizeLine_eq]; omega, fun D3 n3 => ?_⟩
    obtain ⟨H10, s10, h10, e10⟩ := lay (o := .lst (ts.map V.ref ++ us.map V.ref)) n3
    rw [e10]
    have hus10 : Paired (fun r u => H10 u = some (.lst (sts r))) rows us := Paired.mapP hus fun _ _ z => s10 _ _ (hid_in z).1
    have S10 := (S8.trans s9).trans s10
    refine ⟨D, rows, ts, isA, fun r => [wA, r.getD 2 "", r.getD 1 ""], rfl, .inl (SqL.of (S10 _ _ hD)), hrs.mono S10, by omega, ⟨fun J r t R hr sJ ht k => ?_, fun J r t Q' hr pr sJ ht k => ?_⟩, fun D4 H11 r11 => ?_⟩
    · refine ⟨_, rfl, t, sts r, 0, _, rfl, rfl, sx ht, row_at (i := 0) (by have := (perm_len (sub r hr)).1; omega), rfl, _, rfl, ?_⟩
      rw [show decide (V.str (r.getD 0 "") = V.str ("shares" : Str)) = isA r from dec_str _ _]
      exact k _ (Same.refl _)
    · have l3 := (perm_len (sub r hr)).2 (by unfold isA at pr; exact of_decide_eq_true pr)
      refine ⟨_, rfl, t, sts r, 2, _, rfl, rfl, sx ht, row_at (i := 2) (by omega), _, rfl, t, sts r, 1, _, rfl, rfl, sx ht, row_at (i := 1) (by omega), by show 3 ≤ sizeLine; decide, fun u nu => ?_⟩
      obtain ⟨J1, s1', h1', e1'⟩ := lay (o := .tup (sts [wA, r.getD 2 "", r.getD 1 ""])) nu
      rw [show ([V.str ("shares" : Str), V.str (r.getD 2 ""), V.str (r.getD 1 "")] : List V) = sts [wA, r.getD 2 "", r.getD 1 ""] from rfl, e1']
      exact k u J1 s1' h1'
    obtain ⟨ws4, h11, p11⟩ := r11.done
    have s11 := r11.same
    have lws : ((rows.filter isA).map fun r => ([wA, r.getD 2 "", r.getD 1 ""] : PRow)).length = ws4.length := Paired.length p11
    rw [List.length_map] at lws
    have lfA := List.length_filter_le isA rows
    refine ⟨D3, D4, _, _, rfl, rfl, s11 _ _ h10, h11, by rw [List.length_append, List.length_map, List.length_map, List.length_map, sizeLine_eq]; omega, fun D5 n5 => ?_⟩
    obtain ⟨H12, s12, h12, e12⟩ := lay (o := .lst (ts.map V.ref ++ us.map V.ref ++ ws4.map V.ref)) n5
    rw [e12]
    have S12 := (S10.trans s11).trans s12
    have ok3 : ∀ r ∈ rows, r.length ≤ 100 ∧ (amg rows r).isSome = true := fun r hr => ⟨by have := perm_len3 (sub r hr); omega, amg_in hr⟩
    have MX12 : Paired (HasV K rows H12) (ts.map V.ref ++ us.map V.ref ++ ws4.map V.ref) ((rows.map fun _ => true) ++ (rows.map fun _ => true) ++ (((rows.filter isA).map fun r => ([wA, r.getD 2 "", r.getD 1 ""] : PRow)).map fun _ => true)) := by
      refine paired_app (paired_app (has_rows (hrs.mono S12) ok3) (has_lsts (Paired.mapP hus10 fun _ _ z => s12 _ _ (s11 _ _ z)) ok3)) (has_rows (p11.mono s12) fun r hr => ?_)
      obtain ⟨r0, h0, rfl⟩ := List.mem_map.mp hr
      obtain ⟨h0, hA⟩ := List.mem_filter.mp h0
      refine ⟨by show 3 ≤ 100; decide, ?_⟩
      have hA : r0.getD 0 "" = wA := by unfold isA at hA; exact of_decide_eq_true hA
      have l3 := (perm_len (sub r0 h0)).2 hA
      match r0, l3, hA, h0 with
      | [a, y, z], _, hA, h0 =>
        have hA : a = wA := hA
        subst hA
        exact amg_swap h0
    have lMX : (ts.map V.ref ++ us.map V.ref ++ ws4.map V.ref).length ≤ 600 := by rw [List.length_append, List.length_append, List.length_map, List.length_map, List.length_map]; omega
    have aMX : ((rows.map fun _ => true) ++ (rows.map fun _ => true) ++ (((rows.filter isA).map fun r => ([wA, r.getD 2 "", r.getD 1 ""] : PRow)).map fun _ => true)).all id = true := by simp
    generalize ((rows.map fun _ => true) ++ (rows.map fun _ => true) ++ (((rows.filter isA).map fun r => ([wA, r.getD 2 "", r.getD 1 ""] : PRow)).map fun _ => true)) = bMX at MX12 aMX
    generalize ts.map V.ref ++ us.map V.ref ++ ws4.map V.ref = xMX at h12 MX12 lMX e12
    clear lws lfA p11 h11 r11 hus10 hus hD2 h10 lus
    -- absent
    have hDx : H12 D = some (.lst (ts.map V.ref)) := S12 _ _ hD
    refine ⟨g, gd, rfl, hG.mono S12, fit, by omega, fun H13' s13' => ⟨fun r => !decide (r ∈ rows), id, ⟨fun J r t R hr sJ ht k => ?_, fun J r t Q' hr pr sJ ht k => ⟨_, rfl, k t J (Same.refl _) ht⟩⟩, fun DA H13 r13 => ?_⟩⟩
    · have SJ := (S12.trans s13').trans sJ
      refine ⟨_, rfl, _, rfl, rowD r, rowDs rows, dp_row ht, .lst (SqL.of (SJ _ _ hD)) (dp_rows (hrs.mono SJ)), shp_row (okr_perm fit hr), shp_rows okp, _, rfl, ?_⟩
      rw [any_rowD]
      exact k J (Same.refl _)
    rw [List.map_id] at r13
    obtain ⟨as, hA13, pA13⟩ := r13.done
    have s13 := r13.same
    have S13 := S12.trans s13
    have lA := Paired.length pA13
    have lAf := List.length_filter_le (fun r => !decide (r ∈ rows)) gd.perms
    have AB13 : Paired (HasV K rows H13) (as.map V.ref) ((gd.perms.filter fun r => !decide (r ∈ rows)).map fun _ => false) := has_rows pA13 fun r hr => by
      obtain ⟨h1, h2⟩ := List.mem_filter.mp hr
      have h2 : r ∉ rows := by simpa using h2
      exact ⟨by have := perm_len3 h1; omega, amg_out h2 fun y z e h => share_one fit (e ▸ h1) (sub _ h)⟩
    have aAB : ((gd.perms.filter fun r => !decide (r ∈ rows)).map fun _ => false).any id = false := by simp
    have lAB : (as.map V.ref).length ≤ 200 := by rw [List.length_map]; omega
    generalize ((gd.perms.filter fun r => !decide (r ∈ rows)).map fun _ => false) = bAB at AB13 aAB
    generalize as.map V.ref = xAB at hA13 AB13 lAB
    clear lA lAf pA13 r13
    -- odd
    obtain ⟨aL, aF, aC, aT, g1, g2, g3, g4, g5⟩ := hG.ex
    have v1 : valV [(.inr "letters", .ref aL), (.inr "fixed", .ref aF), (.inr "commuting", .ref aC), (.inr "facts", .ref aT)] (.inr "letters" : Key) = some (.ref aL) := by rfl
    have v2 : valV [(.inr "letters", .ref aL), (.inr "fixed", .ref aF), (.inr "commuting", .ref aC), (.inr "facts", .ref aT)] (.inr "fixed" : Key) = some (.ref aF) := by rfl
    refine ⟨by show 0 ≤ sizeLine; decide, fun t0 n0 => ?_⟩
    obtain ⟨H14, s14, h14, e14⟩ := lay (o := .tup (sts [])) n0
    rw [show ([] : List V) = sts [] from rfl, e14]
    refine ⟨by show 1 ≤ sizeLine; decide, fun t1 n1 => ?_⟩
    obtain ⟨H15, s15, h15, e15⟩ := lay (o := .tup (sts [wF])) n1
    rw [show ([V.str ("fails" : Str)] : List V) = sts [wF] from rfl, e15]
    refine ⟨by show 2 ≤ sizeLine; decide, fun t2 n2 => ?_⟩
    obtain ⟨H16, s16, h16, e16⟩ := lay (o := .tup (sts [wF, "none"])) n2
    rw [show ([V.str ("fails" : Str), V.str ("none" : Str)] : List V) = sts [wF, "none"] from rfl, e16]
    refine ⟨by show 2 ≤ sizeLine; decide, fun t3 n3' => ?_⟩
    obtain ⟨H17, s17, h17, e17⟩ := lay (o := .tup [.str wF, .non]) n3'
    rw [show ([V.str ("fails" : Str), V.non] : List V) = [.str wF, .non] from rfl, e17]
    refine ⟨by show 1 ≤ sizeLine; decide, fun t4 n4 => ?_⟩
    obtain ⟨H18, s18, h18, e18⟩ := lay (o := .lst [.str "x"]) n4
    rw [e18]
    refine ⟨by show 2 ≤ sizeLine; decide, fun t5 n5' => ?_⟩
    obtain ⟨H19, s19, h19, e19⟩ := lay (o := .tup [.str wF, .ref t4]) n5'
    rw [show ([V.str ("fails" : Str), V.ref t4] : List V) = [.str wF, .ref t4] from rfl, e19]
    intro t6 n6
    obtain ⟨H20, s20, h20, e20⟩ := lay (o := .dK []) n6
    rw [e20]
    refine ⟨by show 11 ≤ sizeLine; decide, fun o1 no1 => ?_⟩
    obtain ⟨H21, s21, h21, e21⟩ := lay (o := .lst [.non, .int 5, .str "", .ref t0, .ref t1, .ref t2, .ref t3, .ref t5, .ref t6, .bl true, .str "writes"]) no1
    rw [e21]
    have S21' := ((((((s14.trans s15).trans s16).trans s17).trans s18).trans s19).trans s20).trans s21
    have S21 := S13.trans S21'
    have kA : H21 DA = some (.lst xAB) := S21' _ _ hA13
    have OD21 : Paired (HasV K rows H21) [.non, .int 5, .str "", .ref t0, .ref t1, .ref t2, .ref t3, .ref t5, .ref t6, .bl true, .str "writes"] (List.replicate 11 false) := by
      have rw_ : ∀ (t : Addr) (r : PRow), H21 t = some (.tup (sts r)) → r.length ≤ 2 → r ∉ rows → HasV K rows H21 (.ref t) false := fun t r h hl hr => .inl ⟨t, r, rfl, .inr h, by omega, amg_out hr fun y z e _ => by rw [e] at hl; exact absurd hl (by show ¬ (3 ≤ 2); decide)⟩
      have sh : ∀ {r : PRow}, r.length < 2 → r ∉ rows := fun h m => by have := (perm_len (sub _ m)).1; omega
      refine .cons (.inr (.inl ⟨rfl, .type "NoneType", fun _ _ => .base .non, notseq (by simp)⟩)) (.cons (.inr (.inl ⟨rfl, .type "int", fun _ _ => .base (.int 5), notseq (by simp)⟩)) (.cons (.inr (.inl ⟨rfl, .type "str", fun _ _ => .base (.str _), notseq (by simp)⟩))
        (.cons (rw_ t0 [] ((((((((s15.trans s16).trans s17).trans s18).trans s19).trans s20).trans s21)) _ _ h14) (by decide) (sh (by decide)))
        (.cons (rw_ t1 [wF] (((((((s16.trans s17).trans s18).trans s19).trans s20).trans s21)) _ _ h15) (by show 1 ≤ 2; decide) (sh (by show 1 < 2; decide)))
        (.cons (rw_ t2 [wF, "none"] ((((((s17.trans s18).trans s19).trans s20).trans s21)) _ _ h16) (by show 2 ≤ 2; decide) fun m => nn (perm_wF (sub _ m)))
        (.cons (.inr (.inr ⟨rfl, t3, [.str wF, .non], [true, false], rfl, .inr (((((s18.trans s19).trans s20).trans s21)) _ _ h17), by show 2 ≤ 100; decide, .cons (strB_s _) (.cons ⟨.type "NoneType", fun _ _ => .base .non, kit_ty (by decide +kernel)⟩ .nil), rfl⟩))
        (.cons (.inr (.inr ⟨rfl, t5, [.str wF, .ref t4], [true, false], rfl, .inr ((s20.trans s21) _ _ h19), by show 2 ≤ 100; decide, .cons (strB_s _) (.cons ⟨.type "list", fun H' s' => .base (.lst (s' _ _ (((s19.trans s20).trans s21) _ _ h18))), kit_ty (by decide +kernel)⟩ .nil), rfl⟩))
        (.cons (.inr (.inl ⟨rfl, .type "dict", fun H' s' => .base (.dK (s' _ _ (s21 _ _ h20))), notseq (by simp)⟩)) (.cons (.inr (.inl ⟨rfl, .type "bool", fun _ _ => .base (.bl true), notseq (by simp)⟩)) (.cons (.inr (.inl ⟨rfl, .type "str", fun _ _ => .base (.str _), notseq (by simp)⟩)) .nil))))))))))
    have lOD : ([.non, .int 5, .str "", .ref t0, .ref t1, .ref t2, .ref t3, .ref t5, .ref t6, .bl true, .str "writes"] : List V).length = 11 := rfl
    generalize ([.non, .int 5, .str "", .ref t0, .ref t1, .ref t2, .ref t3, .ref t5, .ref t6, .bl true, .str "writes"] : List V) = xOD at h21 OD21 lOD e21
    have kM : H21 D5 = some (.lst xMX) := S21' _ _ (s13 _ _ h12)
    have MX21 := Paired.mapP MX12 fun _ _ z => HasV.mono (s13.trans S21') z
    have AB21 := Paired.mapP AB13 fun _ _ z => HasV.mono S21' z
    clear s14 s15 s16 s17 s18 s19 s20 s21 h14 h15 h16 h17 h18 h19 h20 e14 e15 e16 e17 e18 e19 e20 e21 n0 n1 n2 n3' n4 n5' n6 S21' hA13 h12 MX12 AB13 e12 s13' s13 S13 hDx
    have lF : gd.fixed.length ≤ 12 := by
      have h1 := nodup_leS fit.fx fit.fs
      have h2 := fit.le
      rw [List.length_map] at h1
      omega
    have lL := fit.le
    obtain ⟨q0, qr, hq0⟩ : ∃ q0 qr, gd.letters = q0 :: qr := by
      cases h : gd.letters with
      | nil => exact absurd h fit.ne
      | cons a b => exact ⟨a, b, rfl⟩
    have at0 : (sts (gd.letters.map (·.1)))[0]? = some (.str q0.1) := by rw [hq0]; rfl
    refine ⟨_, rfl, g, aF, gd.fixed, fun x => [wW, x], rfl, (by rw [← v2]; exact DGet.k (k := .inr "fixed") (S21 _ _ g1)), SqL.of (S21 _ _ g3), by omega, fun H' y Q' s' k => ⟨_, rfl, by show 2 ≤ sizeLine; decide, fun u nu => ?_⟩, fun DB H22 r22 => ?_⟩
    · obtain ⟨J, sJ, hJ, eJ⟩ := lay (o := .tup (sts [wW, y])) nu
      rw [show ([V.str ("writes" : Str), V.str y] : List V) = sts [wW, y] from rfl, eJ]
      exact k u J sJ hJ
    obtain ⟨bs, hB, pB⟩ := r22.done
    have s22 := r22.same
    have lB := Paired.length pB
    rw [List.length_map] at lB
    refine ⟨o1, DB, _, _, rfl, rfl, s22 _ _ h21, hB, by rw [lOD, List.length_map, sizeLine_eq]; omega, fun o2 no2 => ?_⟩
    obtain ⟨H23, s23, h23, e23⟩ := lay (o := .lst (xOD ++ bs.map V.ref)) no2
    rw [e23]
    have S2123 := s22.trans s23
    have S23 := S21.trans S2123
    refine ⟨g, aL, _, gd.letters, fun x => [wA, x, x], rfl, S23 _ _ g1, v1, S23 _ _ g2, by omega, fun H' y Q' k => ⟨_, rfl, _, rfl, by show 3 ≤ sizeLine; decide, fun u nu => ?_⟩, fun DC H24 r24 => ?_⟩
    · obtain ⟨J, sJ, hJ, eJ⟩ := lay (o := .tup (sts [wA, y, y])) nu
      rw [show ([V.str ("shares" : Str), V.str y, V.str y] : List V) = sts [wA, y, y] from rfl, eJ]
      exact k u J sJ hJ
    obtain ⟨cs, hC, pC⟩ := r24.done
    have s24 := r24.same
    have lC := Paired.length pC
    rw [List.length_map, List.length_map] at lC
    refine ⟨o2, DC, _, _, rfl, rfl, s24 _ _ h23, hC, by rw [List.length_append, lOD, List.length_map, List.length_map, sizeLine_eq]; omega, fun o3 no3 => ?_⟩
    obtain ⟨H25, s25, h25, e25⟩ := lay (o := .lst (xOD ++ bs.map V.ref ++ cs.map V.ref)) no3
    rw [e25]
    have S2325 := s24.trans s25
    have S25 := S23.trans S2325
    refine ⟨_, rfl, g, aF, gd.fixed, fun x => [wH, x, q0.1], rfl, (by rw [← v2]; exact DGet.k (k := .inr "fixed") (S25 _ _ g1)), SqL.of (S25 _ _ g3), by omega, fun H' y Q' s' k => ⟨_, rfl, _, rfl, g, .ref aL, rfl, (by rw [← v1]; exact DGet.k (k := .inr "letters") (s' _ _ (S25 _ _ g1))), aL, _, rfl, .inl (s' _ _ (S25 _ _ g2)), fun L nL => ?_⟩, fun DE H26 r26 => ?_⟩
    · rw [lkv_keys]
      obtain ⟨J, sJ, hJ, eJ⟩ := lay (o := .lst (sts (gd.letters.map (·.1)))) nL
      rw [eJ]
      refine ⟨L, _, ((0 : Nat) : Int), _, rfl, rfl, SqL.of hJ, atI_nat (j := 0) at0, by show 3 ≤ sizeLine; decide, fun u nu => ?_⟩
      obtain ⟨J2, sJ2, hJ2, eJ2⟩ := lay (o := .tup (sts [wH, y, q0.1])) nu
      rw [show ([V.str ("shows" : Str), V.str y, V.str q0.1] : List V) = sts [wH, y, q0.1] from rfl, eJ2]
      exact k u J2 (sJ.trans sJ2) hJ2
    obtain ⟨es, hE, pE⟩ := r26.done
    have s26 := r26.same
    have lE := Paired.length pE
    rw [List.length_map] at lE
    refine ⟨o3, DE, _, _, rfl, rfl, s26 _ _ h25, hE, by rw [List.length_append, List.length_append, lOD, List.length_map, List.length_map, List.length_map, sizeLine_eq]; omega, fun o4' no4 => ?_⟩
    obtain ⟨H27, s27, h27, e27⟩ := lay (o := .lst (xOD ++ bs.map V.ref ++ cs.map V.ref ++ es.map V.ref)) no4
    rw [e27]
    have S2527 := s26.trans s27
    have S27 := S25.trans S2527
    have S2127 := (S2123.trans S2325).trans S2527
    have ODx : Paired (HasV K rows H27) (xOD ++ bs.map V.ref ++ cs.map V.ref ++ es.map V.ref) (List.replicate 11 false ++ ((gd.fixed.map fun x => ([wW, x] : PRow)).map fun _ => false) ++ (((gd.letters.map (·.1)).map fun x => ([wA, x, x] : PRow)).map fun _ => false) ++ ((gd.fixed.map fun x => ([wH, x, q0.1] : PRow)).map fun _ => false)) := by
      refine paired_app (paired_app (paired_app (Paired.mapP OD21 fun _ _ z => HasV.mono S2127 z) (has_rows (pB.mono ((s23.trans S2325).trans S2527)) fun r hr => ?_)) (has_rows (pC.mono (s25.trans S2527)) fun r hr => ?_)) (has_rows (pE.mono s27) fun r hr => ?_)
      · obtain ⟨y, hy, rfl⟩ := List.mem_map.mp hr
        exact ⟨by show 2 ≤ 100; decide, amg_out (fun m => mv_fixed (perm_wW (sub _ m)) hy) fun a b e => by simp at e⟩
      · obtain ⟨y, hy, rfl⟩ := List.mem_map.mp hr
        exact ⟨by show 3 ≤ 100; decide, amg_out (fun m => share_one fit (sub _ m) (sub _ m)) fun a b e m => by
          simp only [List.cons.injEq] at e
          rw [← e.2.1, ← e.2.2.1] at m
          exact share_one fit (sub _ m) (sub _ m)⟩
      · obtain ⟨y, hy, rfl⟩ := List.mem_map.mp hr
        exact ⟨by show 3 ≤ 100; decide, amg_out (fun m => mv_fixed (perm_wH (sub _ m)) hy) fun a b e m => absurd (List.cons.inj e).1 w_ne.2.2.2.2.2.2.2.2.2⟩
    have aOD : (List.replicate 11 false ++ ((gd.fixed.map fun x => ([wW, x] : PRow)).map fun _ => false) ++ (((gd.letters.map (·.1)).map fun x => ([wA, x, x] : PRow)).map fun _ => false) ++ ((gd.fixed.map fun x => ([wH, x, q0.1] : PRow)).map fun _ => false)).any id = false := by simp
    have lODx : (xOD ++ bs.map V.ref ++ cs.map V.ref ++ es.map V.ref).length ≤ 100 := by rw [List.length_append, List.length_append, List.length_append, lOD, List.length_map, List.length_map, List.length_map]; omega
    refine ⟨x, G, D5, rows, xMX, bMX, rfl, SqL.of (S2127 _ _ kM), rfl, by show 4 < 9; decide, hP.mono S27, Paired.mapP MX21 fun _ _ z => HasV.mono S2127 z, by omega, fun H28 s28 => ⟨_, rfl, ?_⟩⟩
    rw [aMX]
    refine iteT ?_
    refine ⟨x, G, DA, o4', rows, xAB, _, _, rfl, rfl, s28 _ _ (S2127 _ _ kA), s28 _ _ h27, rfl, by show 4 < 9; decide, hP.mono (S27.trans s28), Paired.mapP (paired_app (Paired.mapP AB21 fun _ _ z => HasV.mono S2127 z) ODx) fun _ _ z => HasV.mono s28 z, by omega, fun H29 s29 => ⟨_, rfl, ?_⟩⟩
    rw [List.any_append, aAB, aOD]
    exact q H29 ((S27.trans s28).trans s29)
end
end K7
set_option Elab.async false
set_option linter.all false
set_option maxRecDepth 100000
set_option maxHeartbeats 4000000
/-! repr of data, where no repr is under way; a term's text is short. -/
namespace GB
open PySem PySem.Spec L2
def rRepr (K : PySem.W.Frag) : List V → Hp → VK → Prop := fun xs H Q => ∃ (a : Addr) (d : PyData), xs = [.ref a] ∧ Dp K H (.ref a) d ∧ d.showable = true ∧ d.hasDict = false ∧ d.depth ≤ 100 ∧ d.shown.length ≤ sizeLine ∧ Q (.str d.shown) H
theorem call_repr {X : Cx} (hg : X.A.guards = some []) (hu : X.A.units + 110 < cLine) : CallR X (.builtin "repr") (rRepr X.K) := by
  intro pins s σ H xs us Q I r h
  obtain ⟨a, d, rfl, hd, h1, h2, h3, h4, q⟩ := h
  cases r with
  | cons r1 r2 =>
    cases r2
    cases r1
    obtain ⟨as, rd⟩ := Dp.reads I d (.ref a) (.ref a) hd rfl
    exact repr_of_reads' rd h1 (PyData.noDict_hsm h2) hg (by omega) (fun _ _ e => e) (fun h' u tk hk => ⟨.str d.shown, H, I.kept hk, ⟨_, rfl⟩, q⟩) h4
mutual
theorem tm_shows : ∀ t : Tm, t.d.showable = true ∧ t.d.intsShort 13 = true
  | .mk w n ks => by
    have h := tms_show ks
    rw [Tm.d]
    split
    · simp [PyData.showable, PyData.showableAll, PyData.intsShort, PyData.intsShortAll, h]
    · split
      · simp [PyData.showable, PyData.showableAll, PyData.intsShort, PyData.intsShortAll, h]
      · split
        · simp [PyData.showable, PyData.showableAll, PyData.intsShort, PyData.intsShortAll, h]
        · simp [PyData.showable, PyData.showableAll, PyData.intsShort, PyData.intsShortAll]
theorem tms_show : ∀ ks : List Tm, PyData.showableAll (Tm.ds ks) = true ∧ PyData.intsShortAll 13 (Tm.ds ks) = true
  | [] => ⟨rfl, rfl⟩
  | k :: r => by
    obtain ⟨a1, a2⟩ := tm_shows k
    obtain ⟨b1, b2⟩ := tms_show r
    rw [Tm.ds]
    simp [PyData.showableAll, PyData.intsShortAll, a1, a2, b1, b2]
end
theorem weight_tm {L : List (Str × Nat)} (hL : ∀ q ∈ L, nameB q.1 = true) {ns : List Str} {t : Tm} (h : TmOk L ns t) : t.d.weight + 1 ≤ 40 * t.size := by
  have n8 : ∀ {z : Str}, nameB z = true → z.cps.size ≤ 8 := fun {z} h => by
    unfold nameB at h
    have := of_decide_eq_true (Bool.and_eq_true_iff.mp h).1
    exact this.2
  induction h with
  | @mk ns w n ks hH hK ih =>
    have hks : ∀ (l : List Tm), (∀ k ∈ l, k.d.weight + 1 ≤ 40 * k.size) → PyData.weightAll (Tm.ds l) ≤ 40 * Tm.sizes l := by
      intro l
      induction l with
      | nil => intro _; rw [Tm.ds, Tm.sizes]; simp [PyData.weightAll]
      | cons k r ihr =>
        intro hh
        have h1 := hh k List.mem_cons_self
        have h2 := ihr fun k' hk' => hh k' (List.mem_cons_of_mem _ hk')
        rw [Tm.ds, Tm.sizes]
        simp only [PyData.weightAll]
        omega
    have hw : PyData.weightAll (Tm.ds ks) ≤ 40 * Tm.sizes ks := hks ks fun k hk => by
      obtain ⟨i, hi⟩ := List.mem_iff_getElem?.mp hk
      exact ih i k hi
    have wn : w.cps.size ≤ 5 ∧ n.cps.size ≤ 8 := by
      clear hw hks ih hK
      revert hH
      generalize ks.length = m
      intro hH
      cases hH with
      | val h => exact ⟨by decide, n8 h⟩
      | fail h => exact ⟨by decide, n8 h⟩
      | name h _ => exact ⟨by decide, n8 h⟩
      | use h => exact ⟨by decide, n8 (hL _ h)⟩
      | bind h _ => exact ⟨by decide, n8 h⟩
      | op ho => exact ⟨(show ∀ q ∈ opsW, q.1.cps.size ≤ 5 by decide) _ ho, by decide⟩
    rw [Tm.d, Tm.size]
    split
    · simp only [PyData.weight, PyData.weightAll]
      omega
    · split
      · simp only [PyData.weight, PyData.weightAll]
        omega
      · split
        · simp only [PyData.weight, PyData.weightAll]
          omega
        · simp only [PyData.weight, PyData.weightAll]
          omega
/-- [t, o] can be shown -/
theorem shows_two {L : List (Str × Nat)} (hL : ∀ q ∈ L, nameB q.1 = true) {ns ms : List Str} {t o : Tm} (h1 : TmOk L ns t) (h2 : TmOk L ms o) (s1 : t.size ≤ 20) (s2 : o.size ≤ 20) :
    (PyData.list [t.d, o.d]).showable = true ∧ (PyData.list [t.d, o.d]).hasDict = false ∧ (PyData.list [t.d, o.d]).depth ≤ 100 ∧ (PyData.list [t.d, o.d]).shown.length ≤ sizeLine := by
  have hs : ∀ q ∈ L, PyData.strOk q.1 = true := fun q hq => name_ok (hL q hq)
  obtain ⟨c1, d1⟩ := tm_lay hs h1
  obtain ⟨c2, d2⟩ := tm_lay hs h2
  obtain ⟨a1, b1⟩ := tm_shows t
  obtain ⟨a2, b2⟩ := tm_shows o
  have w1 := weight_tm hL h1
  have w2 := weight_tm hL h2
  have cl : PyData.canLay0 (.list [t.d, o.d]) = true := by simp [PyData.canLay0, PyData.canLayAll0, c1, c2]
  refine ⟨by simp [PyData.showable, PyData.showableAll, a1, a2], PyData.hasDict_of_canLay _ cl, ?_, ?_⟩
  · simp only [PyData.depth, PyData.depthAll]
    omega
  · refine PyData.shown_fits (B := 13) (by decide) (by decide) (PyData.leavesShort_of_canLay0 13 _ cl (by simp [PyData.intsShort, PyData.intsShortAll, b1, b2])) ?_
    simp only [PyData.weight, PyData.weightAll]
    omega
end GB
set_option Elab.async false
set_option linter.all false
set_option autoImplicit false
set_option maxRecDepth 100000
set_option maxHeartbeats 4000000
/-! repr of a list of a dict (texts to numbers) and further plain data. -/
namespace GB
open PySem PySem.Spec L2
def lkD (ls : List (Str × Nat)) : List (PyData × PyData) := ls.map fun q => (.str q.1, .int (q.2 : Int))
/-- a list of the dict and further data -/
def hanD (ls : List (Str × Nat)) (ds : List PyData) : PyData := .list (.dict (lkD ls) :: ds)
mutual
/-- the places that are read are lists -/
theorem reads_lists {h : Heap} : ∀ (d : PyData) (u : Value) (as : List Addr), Reads h u d as → d.hasDict = false → ∀ x ∈ as, ∃ o, h.get? x = some o ∧ o.cls = .type "list"
  | .none, _, _, r, _ => by cases r; exact fun x hx => nomatch hx
  | .bool _, _, _, r, _ => by cases r; exact fun x hx => nomatch hx
  | .int _, _, _, r, _ => by cases r; exact fun x hx => nomatch hx
  | .str _, _, _, r, _ => by cases r; exact fun x hx => nomatch hx
  | .list xs, _, _, r, hd => by
    cases r with
    | list ho hc hdt ra =>
      intro x hx
      rcases List.mem_cons.mp hx with rfl | hx
      · exact ⟨_, ho, hc⟩
      · exact reads_listsAll xs _ _ ra (by simpa [PyData.hasDict] using hd) x hx
  | .tuple xs, _, _, r, hd => by
    cases r with
    | tuple ho hc hdt ra => exact reads_listsAll xs _ _ ra (by simpa [PyData.hasDict] using hd)
  | .dict _, _, _, _, hd => by simp [PyData.hasDict] at hd
theorem reads_listsAll {h : Heap} : ∀ (ds : List PyData) (us : List Value) (as : List Addr), ReadsAll h us ds as → PyData.hasDictAll ds = false → ∀ x ∈ as, ∃ o, h.get? x = some o ∧ o.cls = .type "list"
  | [], _, _, r, _ => by cases r; exact fun x hx => nomatch hx
  | d :: ds, _, _, r, hd => by
    cases r with
    | cons r1 r2 =>
      have hd' : d.hasDict = false ∧ PyData.hasDictAll ds = false := by simpa [PyData.hasDictAll] using hd
      intro x hx
      rcases List.mem_append.mp hx with hx | hx
      · exact reads_lists d _ _ r1 hd'.1 x hx
      · exact reads_listsAll ds _ _ r2 hd'.2 x hx
end
theorem reads_pairs {P : Program} {w : World} {h : Heap} : ∀ {es : List DictEntry} {vs : List (Key × Value)} (ls : List (Str × Nat)), Pairs (mixKind P w) es vs → KV (lkv ls) vs →
    ReadsAll h (es.map (·.key)) ((lkD ls).map (·.1)) [] ∧ ReadsAll h (es.map (·.val)) ((lkD ls).map (·.2)) []
  | es, vs, [], ps, kv => by
    unfold KV lkv at kv
    cases kv
    cases ps
    exact ⟨.nil, .nil⟩
  | es, vs, q :: r, ps, kv => by
    unfold KV lkv at kv
    rw [List.map_cons] at kv
    cases kv with
    | cons h1 t =>
      cases ps with
      | cons hk hv rest =>
        obtain ⟨e1, rv⟩ := h1
        have e1 : _ = _ := e1
        obtain ⟨a, b⟩ := reads_pairs (h := h) r rest t
        obtain ⟨tv, ev⟩ := rv
        rw [← e1] at hk
        have hk : keyIs (Sum.inr q.1) _ = true := hk
        rcases keyIs_shape hk with ⟨i, tk, e, _⟩ | ⟨x, tk, e, ek⟩
        · exact nomatch e
        · have ex : q.1 = x := Sum.inr.inj e
          refine ⟨ReadsAll.cons (as := []) (bs := []) ?_ a, ReadsAll.cons (as := []) (bs := []) ?_ b⟩
          · show Reads h (DictEntry.key _) (.str q.1) []
            rw [ek, ex]
            exact Reads.str x tk
          · show Reads h (DictEntry.val _) (.int (q.2 : Int)) []
            rw [hv, ev]
            exact Reads.int _ tv
section
variable {X : Cx} {pins : List (Addr × Obj)} {σ : L2.St} {H : Hp} {s : Shared}
theorem reads_dk (I : Inv X pins σ H s) {a : Addr} {ls : List (Str × Nat)} (h : H a = some (.dK (lkv ls))) : Reads s.heap (.ref a) (.dict (lkD ls)) [a] ∧ a ≠ sysModules := by
  obtain ⟨_, hs, vs, kv, o, es, ep, ho, ex, hd, _, ps, _⟩ := (show ObjOk X.prog X.w H s.heap a (.dK (lkv ls)) from I.hok a _ h)
  obtain ⟨r1, r2⟩ := reads_pairs (h := s.heap) ls ps kv
  exact ⟨Reads.dict (as := []) (bs := []) ho ex.1 hd r1 r2, fun z => by rw [z] at hs; exact absurd hs (by decide)⟩
/-- repr of such a list; sys.modules is a dict -/
def rReprH (K : PySem.W.Frag) : List V → Hp → VK → Prop := fun xs H Q => ∃ (l a : Addr) (ls : List (Str × Nat)) (vs : List V) (ds : List PyData), xs = [.ref l] ∧ H l = some (.lst (.ref a :: vs)) ∧ H a = some (.dK (lkv ls)) ∧ DpAll K H vs ds ∧
  (hanD ls ds).showable = true ∧ PyData.hasDictAll ds = false ∧ (hanD ls ds).depth ≤ 100 ∧ (hanD ls ds).shown.length ≤ sizeLine ∧ Q (.str (hanD ls ds).shown) H
theorem call_reprH (hg : X.A.guards = some []) (hu : X.A.units + 110 < cLine) : CallR X (.builtin "repr") (rReprH X.K) := by
  intro pins s σ H xs us Q I r h
  obtain ⟨l, a, ls, vs, ds, rfl, hl, ha, hv, h1, h2, h3, h4, q⟩ := h
  cases r with
  | cons r1 r2 =>
    cases r2
    cases r1
    obtain ⟨its, rv, ⟨o, n, ho, hc, _, hd⟩, _⟩ := I.list (SqL.of hl)
    cases rv with
    | @cons _ _ _ rest ra rt =>
      cases (show _ = Value.ref a from ra)
      obtain ⟨rd, na⟩ := reads_dk I ha
      obtain ⟨as, rs⟩ := Dp.readsAll I ds _ _ hv rt
      have R : Reads s.heap (.ref l) (hanD ls ds) (l :: ([a] ++ as)) := Reads.list ho hc hd (ReadsAll.cons rd rs)
      have hz : (listText (PyData.shownAll (.dict (lkD ls) :: ds))).length ≤ sizeLine := by simpa only [hanD, PyData.shown] using h4
      have hzs : ∀ t ∈ PyData.shownAll (.dict (lkD ls) :: ds), t.length ≤ sizeLine := fun t ht => Nat.le_trans (listText_mem_le ht) hz
      have hs : (PyData.dict (lkD ls)).showable = true ∧ PyData.showableAll ds = true := by simpa [hanD, PyData.showable, PyData.showableAll] using h1
      obtain ⟨b1, hb1, k1⟩ := ReprK.of_reads (prog := X.prog) (w := X.w) rd hs.1 (fun _ m => na (List.mem_singleton.mp m).symm) (hzs _ (by simp only [PyData.shownAll]; exact List.mem_cons_self ..))
      obtain ⟨b2, hb2, k2⟩ := ReprAllK.of_readsAll (prog := X.prog) (w := X.w) rs hs.2 (fun h => by rw [h2] at h; exact nomatch h) (fun t ht => hzs t (by simp only [PyData.shownAll]; exact List.mem_cons_of_mem _ ht))
      have hb : ReadAtMost s.heap (PyData.depthAll (.dict (lkD ls) :: ds)) (b1 ++ b2) := fun b m => by
        simp only [PyData.depthAll]
        rcases List.mem_append.mp m with m | m
        · obtain ⟨d', as', r', q'⟩ := hb1 b m
          exact ⟨d', as', r', Nat.le_trans q' (Nat.le_max_left _ _)⟩
        · obtain ⟨d', as', r', q'⟩ := hb2 b m
          exact ⟨d', as', r', Nat.le_trans q' (Nat.le_max_right _ _)⟩
      have hna : l ∉ b1 ++ b2 := not_mem_of_deeper R (by simp only [hanD, PyData.depth]; omega) hb
      have dl : (hanD ls ds).depth = PyData.depthAll (.dict (lkD ls) :: ds) + 1 := by simp only [hanD, PyData.depth]
      have kk : ReprAllK X.prog X.w (b1 ++ b2) s.heap (PyData.depthAll (.dict (lkD ls) :: ds)) (.ref a :: rest) (PyData.shownAll (.dict (lkD ls) :: ds)) := by
        simp only [PyData.shownAll]
        exact .cons ((k1.more fun b hb => List.mem_append_left _ hb).level_le (by simp only [PyData.depthAll]; exact Nat.le_max_left _ _)) (k2.more_le (fun b hb => List.mem_append_right _ hb) (by simp only [PyData.depthAll]; exact Nat.le_max_right _ _))
      have hsh : (hanD ls ds).shown = listText (PyData.shownAll (.dict (lkD ls) :: ds)) := by simp only [hanD, PyData.shown]
      have hT : s.TypeIs (.ref l) "list" := ⟨o, ho, hc⟩
      have hu1 : X.A.units + 1 < cLine := by omega
      refine call_repr_slot (T := "list") (idr := "list.__repr__") hu1 hT F.slot_list_repr.toG ?_
      refine call_list_reprK ho hc hd hna (by simpa using kk.length_eq) (fun i y e => kk.item i y (by simpa using e)) hg (fun b _ => Clear.nil b) (show X.A.units + 1 + (PyData.depthAll (.dict (lkD ls) :: ds) + 1) < cLine by omega) (fun _ _ e => e) (fun h' u tk hk => ⟨_, _, rfl, ?_⟩) hz
      rw [← hsh]
      exact ⟨.str (hanD ls ds).shown, H, I.kept hk, ⟨_, rfl⟩, q⟩
end
end GB
set_option Elab.async false
set_option linter.all false
set_option autoImplicit false
set_option maxRecDepth 100000
set_option maxHeartbeats 4000000
/-! What is handed over can be shown. -/
namespace GB
open PySem PySem.Spec L2
mutual
theorem pl_shows : ∀ d : PyData, plO d = true → d.showable = true ∧ d.intsShort 13 = true ∧ d.hasDict = false
  | .str x, _ => by simp [PyData.showable, PyData.intsShort, PyData.hasDict]
  | .bool b, _ => by simp [PyData.showable, PyData.intsShort, PyData.hasDict]
  | .list xs, h => by
    rw [plO] at h
    obtain ⟨a, b, c⟩ := pl_showsAll xs h
    exact ⟨by simpa [PyData.showable] using a, by simpa [PyData.intsShort] using b, by simpa [PyData.hasDict] using c⟩
  | .tuple xs, h => by
    rw [plO] at h
    obtain ⟨a, b, c⟩ := pl_showsAll xs h
    exact ⟨by simpa [PyData.showable] using a, by simpa [PyData.intsShort] using b, by simpa [PyData.hasDict] using c⟩
theorem pl_showsAll : ∀ xs : List PyData, plOs xs = true → PyData.showableAll xs = true ∧ PyData.intsShortAll 13 xs = true ∧ PyData.hasDictAll xs = false
  | [], _ => ⟨rfl, rfl, rfl⟩
  | x :: xs, h => by
    rw [plOs] at h
    obtain ⟨h1, h2⟩ := Bool.and_eq_true_iff.mp h
    obtain ⟨a1, b1, c1⟩ := pl_shows x h1
    obtain ⟨a2, b2, c2⟩ := pl_showsAll xs h2
    exact ⟨by simp [PyData.showableAll, a1, a2], by simp [PyData.intsShortAll, b1, b2], by simp [PyData.hasDictAll, c1, c2]⟩
end
theorem small_short : ∀ k, k ≤ 2 → (PyData.shown (.int ((k : Nat) : Int))).length ≤ 13 ∧ PyData.showable (.int ((k : Nat) : Int)) = true ∧ PyData.weight (.int ((k : Nat) : Int)) ≤ 3
  | 0, _ => by decide +kernel
  | 1, _ => by decide +kernel
  | 2, _ => by decide +kernel
theorem lk_shows : ∀ ls : List (Str × Nat), (∀ q ∈ ls, nameB q.1 = true ∧ q.2 ≤ 2) → PyData.showableKv (lkD ls) = true ∧ PyData.leavesShortKv 13 (lkD ls) = true ∧ PyData.weightKv (lkD ls) ≤ 20 * ls.length
  | [], _ => by simp [lkD, PyData.showableKv, PyData.leavesShortKv, PyData.weightKv]
  | q :: r, h => by
    obtain ⟨a, b, c⟩ := lk_shows r fun x hx => h x (List.mem_cons_of_mem _ hx)
    obtain ⟨n, k⟩ := h q List.mem_cons_self
    obtain ⟨s1, s2, s3⟩ := small_short q.2 k
    have l1 : PyData.leavesShort 13 (.str q.1) = true := PyData.leavesShort_of_canLay0 13 _ (by simpa [PyData.canLay0] using name_ok n) (by simp [PyData.intsShort])
    have n8 : q.1.cps.size ≤ 8 := by
      unfold nameB at n
      exact (of_decide_eq_true (Bool.and_eq_true_iff.mp n).1).2
    have e : lkD (q :: r) = (.str q.1, .int (q.2 : Int)) :: lkD r := rfl
    rw [e]
    have k1 : PyData.showable (.str q.1) = true := by simp [PyData.showable]
    have l2 : PyData.leavesShort 13 (.int (q.2 : Int)) = true := by simp only [PyData.leavesShort]; exact decide_eq_true s1
    refine ⟨by simp only [PyData.showableKv, a, s2, k1, Bool.and_true], by simp only [PyData.leavesShortKv, b, l1, l2, Bool.and_true], ?_⟩
    simp only [PyData.weightKv, PyData.weight, List.length_cons] at s3 ⊢
    omega
theorem shows_han {ls : List (Str × Nat)} {ds : List PyData} (hl : ∀ q ∈ ls, nameB q.1 = true ∧ q.2 ≤ 2) (l12 : ls.length ≤ 12) (hp : plOs ds = true) (hc : PyData.canLayAll0 ds = true) (hd : PyData.depthAll ds ≤ 90) (hw : PyData.weightAll ds ≤ 100000) :
    (hanD ls ds).showable = true ∧ PyData.hasDictAll ds = false ∧ (hanD ls ds).depth ≤ 100 ∧ (hanD ls ds).shown.length ≤ sizeLine := by
  obtain ⟨a, b, c⟩ := lk_shows ls hl
  obtain ⟨a2, b2, c2⟩ := pl_showsAll ds hp
  refine ⟨by simp [hanD, PyData.showable, PyData.showableAll, a, a2], c2, ?_, ?_⟩
  · have dk : ∀ l : List (Str × Nat), PyData.depthKv (lkD l) = 0 := fun l => by
      induction l with
      | nil => simp [lkD, PyData.depthKv]
      | cons q r ih =>
        have e : lkD (q :: r) = (.str q.1, .int (q.2 : Int)) :: lkD r := rfl
        rw [e]
        simp [PyData.depthKv, PyData.depth, ih]
    simp only [hanD, PyData.depth, PyData.depthAll, dk]
    omega
  · refine PyData.shown_fits (B := 13) (by decide) (by decide) ?_ ?_
    · simp only [hanD, PyData.leavesShort, PyData.leavesShortAll, b, Bool.true_and]
      exact PyData.leavesShortAll_of_canLay0 13 ds hc b2
    · simp only [hanD, PyData.weight, PyData.weightAll]
      omega
end GB
set_option Elab.async false
set_option linter.all false
set_option autoImplicit false
set_option maxRecDepth 100000
set_option maxHeartbeats 8000000
/-! What the law of permits asks besides. -/
namespace GB
open PySem PySem.Spec L2 EqT LamX ItX K7
/-- another ground than g -/
structure Oth (g h : GD) : Prop where
  fit : h.Fit
  ne : eqG g h = false
  cond : g.letters.map (·.1) = h.letters.map (·.1) → g.letters = h.letters
theorem nameZ : nameB "zz" = true := by decide +kernel
section
variable {g : GD}
def moreL (g : GD) : List (Str × Nat) := g.letters ++ ([("zz", 0)] : List (Str × Nat))
theorem more_names : (moreL g).map (·.1) = g.letters.map (·.1) ++ (["zz"] : List Str) := by unfold moreL; rw [List.map_append]; rfl
theorem nm_ne : ¬ g.letters.map (·.1) = (moreL g).map (·.1) := fun e => by
  rw [more_names] at e
  have := congrArg List.length e
  simp at this
theorem oth_name {h : GD} (e : ¬ g.letters.map (·.1) = h.letters.map (·.1)) (f : h.Fit) : Oth g h := ⟨f, by unfold eqG; rw [decide_eq_false e]; rfl, fun z => absurd z e⟩
theorem okF_more {f : Fact} {fx fx' : List Str} (s : ∀ x ∈ fx, x ∈ fx') (o : f.Ok g.letters fx) : f.Ok (moreL g) fx' :=
  ⟨s _ o.x, let ⟨k, h1, h2⟩ := o.len; ⟨k, List.mem_append_left _ h1, h2⟩, o.vals, o.kind, o.en⟩
theorem oth1 (own : g.Own) (hl : g.letters.length ≤ 11) : Oth g ⟨moreL g, g.fixed, g.comm, g.facts⟩ := by
  have fit := own.fit
  refine oth_name nm_ne ⟨by unfold moreL; simp, ?_, ?_, ?_, ?_, fit.fx, ?_, fit.cm, fit.cs, fun x hx => List.mem_append_left _ (fit.c2 x hx), fit.fl, fun f hf => okF_more (fun _ h => h) (fit.fa f hf), fit.fd⟩
  · show ((moreL g).map (·.1)).Nodup
    rw [more_names]
    exact List.nodup_append.mpr ⟨fit.nd, by simp, fun a ha b hb e => own.z (by rw [List.mem_singleton.mp hb] at e; rw [← e]; exact ha)⟩
  · intro q hq
    rcases List.mem_append.mp hq with h | h
    · exact fit.nm q h
    · rw [List.mem_singleton.mp h]; exact nameZ
  · show (moreL g).length ≤ 12
    unfold moreL
    rw [List.length_append, List.length_singleton]
    omega
  · intro q hq
    rcases List.mem_append.mp hq with h | h
    · exact fit.ar q h
    · rw [List.mem_singleton.mp h]; exact Nat.zero_le _
  · intro x hx
    show x ∈ (moreL g).map (·.1)
    rw [more_names]
    exact List.mem_append_left _ (fit.fs x hx)
end
theorem own_of {g : GD} (wf : g.Wf) : g.Own := by
  refine ⟨wf.fit, filter_sub wf.fx wf.nd, filter_sub (wf.cm.trans wf.fx) wf.nd, fun m => ?_⟩
  obtain ⟨q, hq, e⟩ := List.mem_map.mp m
  have := wf.nm q hq
  rw [e] at this
  exact absurd this (by decide +kernel)
theorem w_strs : ∀ l : List Str, (∀ x ∈ l, x.cps.size ≤ 8) → PyData.weightAll (l.map PyData.str) ≤ 9 * l.length
  | [], _ => by simp [PyData.weightAll]
  | x :: r, h => by
    have := w_strs r fun y hy => h y (List.mem_cons_of_mem _ hy)
    have := h x List.mem_cons_self
    simp only [List.map_cons, PyData.weightAll, PyData.weight, List.length_cons]
    omega
theorem n8_of {x : Str} (n : nameB x = true) : x.cps.size ≤ 8 := by
  unfold nameB at n
  exact (of_decide_eq_true (Bool.and_eq_true_iff.mp n).1).2

theorem perm_n8 {g : GD} (fit : g.Fit) {r : PRow} (h : r ∈ g.perms) : ∀ x ∈ r, x.cps.size ≤ 8 := by
  have nw : ∀ x ∈ [wF, wS, wW, wH, wA], x.cps.size ≤ 8 := by decide +kernel
  have nl : ∀ x ∈ g.letters.map (·.1), x.cps.size ≤ 8 := fun x hx => by
    obtain ⟨q, hq, e⟩ := List.mem_map.mp hx
    rw [← e]
    exact n8_of (fit.nm q hq)
  have nm : ∀ x ∈ g.mv, x.cps.size ≤ 8 := fun x hx => nl x (List.mem_filter.mp hx).1
  have hp := mem_perms.mp h
  intro z hz
  cases hp with
  | f hx => rcases List.mem_cons.mp hz with rfl | hz; exact nw _ (by simp); rw [List.mem_singleton.mp hz]; exact nl _ hx
  | s hx => rcases List.mem_cons.mp hz with rfl | hz; exact nw _ (by simp); rw [List.mem_singleton.mp hz]; exact nl _ hx
  | w hx => rcases List.mem_cons.mp hz with rfl | hz; exact nw _ (by simp); rw [List.mem_singleton.mp hz]; exact nm _ hx
  | h hx hy =>
    rcases List.mem_cons.mp hz with rfl | hz
    · exact nw _ (by simp)
    · rcases List.mem_cons.mp hz with rfl | hz
      · exact nm _ hx
      · rw [List.mem_singleton.mp hz]; exact nm _ hy
  | a hi hx hy =>
    rcases List.mem_cons.mp hz with rfl | hz
    · exact nw _ (by simp)
    · rcases List.mem_cons.mp hz with rfl | hz
      · exact nm _ (List.mem_of_getElem? hx)
      · rw [List.mem_singleton.mp hz]; exact nm _ (List.mem_of_getElem? hy)
theorem swr_n8 {g : GD} (fit : g.Fit) {r r' : PRow} (h : r ∈ g.perms) (s : SwR r r') : ∀ x ∈ r', x.cps.size ≤ 8 := by
  rcases s with rfl | ⟨x, y, rfl, rfl⟩
  · exact perm_n8 fit h
  · intro z hz
    exact perm_n8 fit h z (by
      simp only [List.mem_cons, List.not_mem_nil, or_false] at hz ⊢
      rcases hz with h | h | h
      · exact .inl h
      · exact .inr (.inr h)
      · exact .inr (.inl h))
/-- what is handed over, as data -/
theorem hdat {K : PySem.W.Frag} {H : Hp} {N : List Addr} {g : GD} (fit : g.Fit) {rs : List PRow} {us : List Addr} (h : Paired (HItem H N) rs us) (sub : ∀ r ∈ rs, r ∈ g.perms) :
    ∃ ds, DpAll K H (us.map V.ref) ds ∧ plOs ds = true ∧ PyData.canLayAll0 ds = true ∧ PyData.depthAll ds ≤ 1 ∧ PyData.weightAll ds ≤ 60 * us.length := by
  induction h with
  | nil => exact ⟨[], .nil, rfl, rfl, by decide, by decide⟩
  | cons h _ ih =>
    obtain ⟨ds, h1, h2, h3, h4, h5⟩ := ih fun r hr => sub r (List.mem_cons_of_mem _ hr)
    obtain ⟨r', sw, hu⟩ := h
    obtain ⟨_, l3, ok⟩ := swr_mem fit (sub _ List.mem_cons_self) sw
    have n8 : ∀ x ∈ r', x.cps.size ≤ 8 := swr_n8 fit (sub _ List.mem_cons_self) sw
    have w := w_strs r' n8
    have dp := dep_strs r'
    have pl : plOs (pst r') = true := by
      have := pl_strD r'
      rwa [strD, plO] at this
    have ly := lay_strs r' ok
    rcases hu with ⟨_, hu⟩ | hu
    · refine ⟨.list (pst r') :: ds, .cons (.lst (SqL.of hu) (dp_sts r')) h1, by rw [plOs, plO, pl, h2]; rfl, by simp only [PyData.canLayAll0, PyData.canLay0, h3, Bool.and_true]; exact ly, ?_, ?_⟩
      · simp only [PyData.depthAll, PyData.depth]
        have : PyData.depthAll (pst r') = 0 := dp
        omega
      · have : PyData.weightAll (pst r') ≤ 9 * r'.length := w
        simp only [PyData.weightAll, PyData.weight, List.length_cons]
        omega
    · refine ⟨.tuple (pst r') :: ds, .cons (.tup (SqT.of hu) (dp_sts r')) h1, by rw [plOs, plO, pl, h2]; rfl, by simp only [PyData.canLayAll0, PyData.canLay0, h3, Bool.and_true]; exact ly, ?_, ?_⟩
      · simp only [PyData.depthAll, PyData.depth]
        have : PyData.depthAll (pst r') = 0 := dp
        omega
      · have : PyData.weightAll (pst r') ≤ 9 * r'.length := w
        simp only [PyData.weightAll, PyData.weight, List.length_cons]
        omega
theorem hdat_shows {ds : List PyData} (hp : plOs ds = true) (hc : PyData.canLayAll0 ds = true) (hd : PyData.depthAll ds ≤ 1) (hw : PyData.weightAll ds ≤ 10000) :
    (PyData.list ds).showable = true ∧ (PyData.list ds).hasDict = false ∧ (PyData.list ds).depth ≤ 100 ∧ (PyData.list ds).shown.length ≤ sizeLine := by
  obtain ⟨a2, b2, c2⟩ := pl_showsAll ds hp
  refine ⟨by simp [PyData.showable, a2], by simp [PyData.hasDict, c2], by simp only [PyData.depth]; omega, ?_⟩
  refine PyData.shown_fits (B := 13) (by decide) (by decide) ?_ ?_
  · simp only [PyData.leavesShort]
    exact PyData.leavesShortAll_of_canLay0 13 ds hc b2
  · simp only [PyData.weight]
    omega
/-- rows of permits -/
theorem pset_sub {g : GD} {rs : List PRow} : ∀ r ∈ g.pset rs, r ∈ g.perms := fun r h => (List.mem_filter.mp h).1
theorem pset_nd {g : GD} (fit : g.Fit) (rs : List PRow) : (g.pset rs).Nodup := fit.pnd.filter _
theorem mem_pset {g : GD} {rs : List PRow} {r : PRow} : r ∈ g.pset rs ↔ r ∈ g.perms ∧ r ∈ g.had rs := by unfold GD.pset; rw [List.mem_filter]; simp
theorem had_mem {g : GD} {rs : List PRow} {r : PRow} : r ∈ g.had rs ↔ r ∈ g.alw ∨ ∃ q ∈ rs, r ∈ withB q := by
  unfold GD.had
  rw [mem_addRs, mem_addRs, List.mem_flatMap]
  simp
theorem withB_self (r : PRow) : r ∈ withB r := by
  unfold withB
  split
  · exact List.mem_cons_self
  · split <;> exact List.mem_cons_self
theorem withB_w (x : Str) : withB [wW, x] = [[wW, x]] := by
  obtain ⟨n1, n2, n3, n4, n5, n6, n7, n8, n9, n10⟩ := w_ne
  unfold withB
  rw [if_neg (by exact n8), if_neg (by exact n9)]
theorem withB_f (x : Str) : withB [wF, x] = [[wF, x]] := by
  obtain ⟨n1, n2, n3, n4, n5, n6, n7, n8, n9, n10⟩ := w_ne
  unfold withB
  rw [if_neg (by exact n3), if_neg (by exact n4)]
theorem withB_two {q r s : PRow} (h : r ∈ withB q) (h2 : s ∈ withB r) : s ∈ withB q := by
  have h0 := h
  unfold withB at h
  by_cases c : q.getD 0 "" = wH
  · rw [if_pos c] at h
    rcases List.mem_cons.mp h with rfl | h
    · exact h2
    · rw [List.mem_singleton.mp h, withB_w] at h2
      rw [List.mem_singleton.mp h2, ← List.mem_singleton.mp h]
      exact h0
  · rw [if_neg c] at h
    by_cases c2 : q.getD 0 "" = wA
    · rw [if_pos c2] at h
      rcases List.mem_cons.mp h with rfl | h
      · exact h2
      · rcases List.mem_cons.mp h with h | h
        · rw [h, withB_w] at h2
          rw [List.mem_singleton.mp h2, ← h]
          exact h0
        · rw [List.mem_singleton.mp h, withB_w] at h2
          rw [List.mem_singleton.mp h2, ← List.mem_singleton.mp h]
          exact h0
    · rw [if_neg c2] at h
      rw [List.mem_singleton.mp h] at h2
      exact h2
theorem pset_idem {g : GD} (rs : List PRow) (sub : ∀ r ∈ rs, r ∈ g.perms) (fit : g.Fit) : g.pset (g.pset rs) = g.pset rs := by
  unfold GD.pset
  refine List.filter_congr fun r hr => ?_
  refine decide_eq_decide.mpr ?_
  rw [had_mem, had_mem]
  constructor
  · rintro (h | ⟨q, hq, h⟩)
    · exact .inl h
    · obtain ⟨_, hq⟩ := List.mem_filter.mp hq
      have hq := had_mem.mp (of_decide_eq_true hq)
      rcases hq with hq | ⟨q0, h0, hq⟩
      · unfold GD.alw at hq
        obtain ⟨x, hx, rfl⟩ := List.mem_map.mp hq
        rw [withB_f] at h
        rw [List.mem_singleton.mp h]
        refine .inl ?_
        unfold GD.alw
        exact List.mem_map.mpr ⟨x, hx, rfl⟩
      · exact .inr ⟨q0, h0, withB_two hq h⟩
  · rintro (h | ⟨q, hq, h⟩)
    · exact .inl h
    · exact .inr ⟨q, List.mem_filter.mpr ⟨sub q hq, decide_eq_true (had_mem.mpr (.inr ⟨q, hq, withB_self q⟩))⟩, h⟩
theorem eqRows_self (rs : List PRow) : eqRows rs rs = true := by unfold eqRows; simp
theorem eqRows_more {rs ls : List PRow} {r : PRow} (nd : rs.Nodup) (hr : r ∈ ls) (no : r ∉ rs) : eqRows rs ls = false := by
  cases h : eqRows rs ls with
  | false => rfl
  | true =>
    unfold eqRows at h
    obtain ⟨h1, h2⟩ := Bool.and_eq_true_iff.mp h
    have h1 : rs.length = ls.length := by simpa using h1
    have := nodup_leR (l := r :: rs) (m := ls) (List.nodup_cons.mpr ⟨no, nd⟩) fun x hx => by
      rcases List.mem_cons.mp hx with rfl | hx
      · exact hr
      · exact of_decide_eq_true (List.all_eq_true.mp h2 x hx)
    rw [List.length_cons] at this
    omega
theorem perms_more {g : GD} (own : g.Own) {r : PRow} (h : r ∈ g.perms) : r ∈ (⟨moreL g, g.fixed, g.comm, g.facts⟩ : GD).perms := by
  have hls : ∀ x ∈ g.letters.map (·.1), x ∈ (moreL g).map (·.1) := fun x hx => by rw [more_names]; exact List.mem_append_left _ hx
  have hmv : (⟨moreL g, g.fixed, g.comm, g.facts⟩ : GD).mv = g.mv ++ (["zz"] : List Str) := by
    unfold GD.mv
    show ((moreL g).map (·.1)).filter _ = _
    rw [more_names, List.filter_append]
    congr 1
    rw [List.filter_cons_of_pos, List.filter_nil]
    have : ("zz" : Str) ∉ g.fixed := fun m => own.z (own.fit.fs _ m)
    simp [this]
  refine mem_perms.mpr ?_
  have hp := mem_perms.mp h
  have e2 : ∀ x ∈ g.mv, x ∈ (⟨moreL g, g.fixed, g.comm, g.facts⟩ : GD).mv := fun x hx => by rw [hmv]; exact List.mem_append_left _ hx
  have e3 : ∀ (i : Nat) x, g.mv[i]? = some x → (⟨moreL g, g.fixed, g.comm, g.facts⟩ : GD).mv[i]? = some x := fun i x hx => by
    rw [hmv, List.getElem?_append_left (List.getElem?_eq_some_iff.mp hx).1]
    exact hx
  cases hp with
  | f hx => exact .f (hls _ hx)
  | s hx => exact .s (hls _ hx)
  | w hx => exact .w (e2 _ hx)
  | h hx hy => exact .h (e2 _ hx) (e2 _ hy)
  | a hi hx hy => exact .a hi (e3 _ _ hx) (e3 _ _ hy)
theorem hrow_self {H : Hp} {known : List PRow} {rs : List PRow} {ts : List Addr} (h : RowsAt H rs ts) (k : ∀ r ∈ rs, r ∈ known ∧ r.length ≤ 100) : Paired (HRow H known) rs ts := by
  induction h with
  | nil => exact .nil
  | @cons r t _ _ h _ ih =>
    obtain ⟨k1, k2⟩ := k _ List.mem_cons_self
    refine .cons ⟨r, .inr h, k2, ?_⟩ (ih fun r hr => k r (List.mem_cons_of_mem _ hr))
    have e : amgR known r = r := by unfold amgR; rw [if_neg (fun z => z.2.2 k1)]
    unfold amg
    rw [e, if_pos k1]
theorem isP_step {CP : Addr} {H H' : Hp} {x G : Addr} {rows : List PRow} (s : Same (hidT H) (hidT H')) (h : IsP CP H x G rows) : IsP CP H' x G rows := ((isPT h).mono s).mono (hidT_low _)
theorem gr3_step {C : Addr} {H H' : Hp} {G : Addr} {g : GD} (s : Same (hidT H) (hidT H')) (h : IsGr3 C H G g) : IsGr3 C H' G g := ((gr3T h).mono s).mono (hidT_low _)
theorem isG_step {H H' : Hp} {g : Addr} {d : GD} (s : Same (hidT H) (hidT H')) (h : IsG H g d) : IsG H' g d := ((IsG_T h).mono s).mono (hidT_low _)
theorem rows_step {H H' : Hp} {rs : List PRow} {ts : List Addr} (s : Same (hidT H) (hidT H')) (h : RowsAt H rs ts) : RowsAt H' rs ts := ((rowsT h).mono s).mono (hidT_low _)
theorem lst_step {H H' : Hp} {a : Addr} {xs : List V} (s : Same (hidT H) (hidT H')) (h : H a = some (.lst xs)) : H' a = some (.lst xs) := (hidT_in (s _ _ (hidT_to h (fun _ z => nomatch z)))).1
theorem none_T {H : Hp} {a : Addr} (h : H a = none) : hidT H a = none := by unfold hidT; rw [h]
/-- permits made: what stands then -/
theorem pm_step {K : PySem.W.Frag} {H H' : Hp} {a : Addr} {xs : List V} (s : Same (hidT H) (hidT H')) (h : SqL K H a xs) : SqL K H' a xs := (hidT_low _).seq (s.seq (sqL_T h))
end GB
set_option Elab.async false
set_option linter.all false
set_option autoImplicit false
set_option maxRecDepth 100000
set_option maxHeartbeats 8000000
/-! Comprehensions of the law of permits. -/
namespace GB
open PySem PySem.Spec L2 EqT LamX ItX K7
def rTof (K : PySem.W.Frag) : List V → Hp → VK → Prop := fun xs H Q => ∃ p ys, xs = [.ref p] ∧ ((SqL K H p ys ∧ ∀ l, H l = none → Q (.ref l) (upd H l (.tup ys))) ∨ (SqT K H p ys ∧ Q (.ref p) H))
theorem call_tof {X : Cx} : CallR X (.type "tuple") (rTof X.K) := call_tuple_of
/-- [row for row in _law_every(g) if _law_take(pool, 10) < share] -/
def tPick (K : PySem.W.Frag) : TE := fun σ H Q => ∃ (g p : Addr) (gd : GD) (n : Nat) (share : Int), σ[3]? = some (some (.ref g)) ∧ σ[2]? = some (some (.ref p)) ∧ σ[4]? = some (some (.int share)) ∧ 7 < σ.length ∧ IsG (hid [p] H) g gd ∧ gd.Fit ∧ gd.perms.length ≤ 60 ∧ PoolIs H p n ∧ n + 60 ≤ 1000000 ∧
  ∀ D rs ts H', H D = none → D ≠ p → Bt [p] H H' → H' D = some (.lst (ts.map V.ref)) → RowsAt (hid [p] H') rs ts → (∀ r ∈ rs, r ∈ gd.perms) → rs.length ≤ gd.perms.length → PoolIs H' p (n + 60) → Q (.ref D) H'
theorem pick_weak {K : PySem.W.Frag} (σ : L2.St) (H : Hp) (Q : VK) (h : tPick K σ H Q) : tLc (iSeqW K (tCall spEv [] E0 (tCons (tVar 3) tNil))) (gName 7) (tTest (tOp (rI0 fun i j => .bl (decide (i < j))) (tCall spTake [] E0 (tCons (tVar 2) (tCons (tC (.int 10)) tNil))) (tVar 4))) (tVar 7) [7] σ H Q := by
  obtain ⟨g, p, gd, n, share, h3, h2, h4, h7, hG, fit, hl, P0, hn, q⟩ := h
  refine ⟨_, h3, g, gd, rfl, hG.mono (hid_low _ _), fit, fun l tp H1 nl s1 h1 r1 => ?_⟩
  have P1 := P0.mono s1 (Nat.le_refl _)
  have lp : l ≠ p := P0.ne nl
  have hS1 : hid [p] H1 l = some (.lst (tp.map V.ref)) := hid_to (ni1 lp) h1
  have ltp := Paired.length r1
  refine ⟨l, tp.map V.ref, true, [p], rfl, SqL.of hS1, fun J WJ D nD => ?_⟩
  have Dp : D ≠ p := P1.ne nD
  have lD : l ≠ D := fun e => by rw [e, nD] at h1; cases h1
  have S01 : Same (hid [p] H1) (hid [p, D] H1) := fun b o e => by
    obtain ⟨e1, e2⟩ := hid_in e
    refine hid_to (fun m => ?_) e1
    rcases List.mem_cons.mp m with z | m
    · exact e2 (by rw [z]; simp)
    · rw [List.mem_singleton.mp m, nD] at e1; cases e1
  have rp1 : RowsAt (hid [p, D] H1) gd.perms tp := Paired.mapP r1 fun row t rt => S01 _ _ (hid_to (ni1 (fun e => by
    obtain ⟨a, b, c, e2, _⟩ := P1
    have rt : H1 t = some (.tup (sts row)) := rt
    rw [e, e2] at rt
    cases rt)) rt)
  refine lc_it WJ (fun j H' => ∃ (rs : List PRow) (us : List Addr), Bt [p, D] H1 H' ∧ H' D = some (.lst (us.map V.ref)) ∧ RowsAt (hid [p, D] H1) rs us ∧ (∀ r ∈ rs, r ∈ gd.perms) ∧ rs.length ≤ j ∧ PoolIs H' p (n + j))
    ⟨[], [], bt_upd (by simp), upd_same, .nil, (fun _ h => nomatch h), Nat.zero_le _, PoolIs.bt P1 Dp rfl⟩
    (fun j H' _ ⟨_, _, B, _⟩ => SqL.of (hid_to (ni1 lp) (bt_at B (by simp [lp, lD]) h1))) ?_ ?_
  · rintro j y H2' H2 hj ⟨rs, us, B2, hD2, ru, sub, lrs, P2⟩ ⟨rfl, hy⟩
    have hy : (tp.map V.ref)[j]? = some y := hy
    rw [List.getElem?_map] at hy
    obtain ⟨t, htt, rfl⟩ := Option.map_eq_some_iff.mp hy
    have hjr : j < gd.perms.length := by rw [ltp]; exact (List.getElem?_eq_some_iff.mp htt).1
    have hrj : gd.perms[j]? = some gd.perms[j] := List.getElem?_eq_getElem hjr
    generalize gd.perms[j] = r at hrj
    obtain ⟨t', ht', hrt⟩ := paired_at' rp1 hrj
    obtain rfl : t' = t := by rw [htt] at ht'; exact (Option.some.inj ht').symm
    have lus := Paired.length ru
    refine ⟨by simp [wipe, List.set_set], ⟨_, by rw [wset2 (by decide)]; exact h2, p, 10, n + j, rfl, by decide, by decide, by omega, P2, fun k H3 hk B3 P3 => ?_⟩⟩
    refine ⟨_, by rw [wset2 (by decide)]; exact h4, _, _, rfl, rfl, _, rfl, ?_⟩
    have B13 : Bt [p, D] H1 H3 := B2.trans (bt_weak (by simp) B3)
    have hD3 := bt_at B3 (ni1 Dp) hD2
    cases c : decide ((k : Int) < share) with
    | false =>
      refine iteF ?_
      exact ⟨rs, us, B13, hD3, ru, sub, by omega, P3⟩
    | true =>
      refine iteT ?_
      refine ⟨_, wset h7, _, hD3, by rw [List.length_map, sizeLine_eq]; omega, rs ++ [r], us ++ [t'], B13.trans (bt_upd (by simp)), by rw [upd_same, List.map_append]; rfl, ru.app (.cons hrt .nil), fun z hz => ?_, by rw [List.length_append, List.length_singleton]; omega, PoolIs.bt P3 Dp rfl⟩
      rcases List.mem_append.mp hz with hz | hz
      · exact sub z hz
      · rw [List.mem_singleton.mp hz]; exact List.mem_of_getElem? hrj
  · rintro H2 ⟨rs, us, B2, hD2, ru, sub, lrs, P2⟩
    rw [List.length_map, ← ltp] at lrs P2
    have nDH : H D = none := s1.free nD
    have S12 : Same (hid [p] H1) (hid [p] H2) := fun b o e => by
      obtain ⟨e1, e2⟩ := hid_in e
      exact hid_to e2 (bt_at B2 (fun m => by
        rcases List.mem_cons.mp m with z | m
        · exact e2 (by rw [z]; simp)
        · rw [List.mem_singleton.mp m, nD] at e1; cases e1) e1)
    refine q D rs us H2 nDH Dp ((hid_same s1).trans S12) hD2 ?_ sub lrs (P2.mono (Same.refl _) (by omega))
    have := ru.mono B2
    exact Paired.mapP this fun row t rt => by
      obtain ⟨e1, e2⟩ := hid_in (show hid [p, D] H2 t = some (.tup (sts row)) from rt)
      exact hid_to (fun m => e2 (by rw [List.mem_singleton.mp m]; simp)) e1
/-- [Permits(ground, due + [row]) for row in _law_every(g) if row not in due] -/
def tOthP (K : PySem.W.Frag) (C CP PT : Addr) : TE := fun σ H Q => ∃ (g G Du : Addr) (gd : GD) (due : List PRow) (ts : List Addr), σ[3]? = some (some (.ref g)) ∧ σ[5]? = some (some (.ref G)) ∧ σ[10]? = some (some (.ref Du)) ∧ 7 < σ.length ∧ IsG H g gd ∧ gd.Fit ∧ gd.perms.length ≤ 60 ∧ IsGr3 C H G gd ∧ H Du = some (.lst (ts.map V.ref)) ∧ RowsAt H due ts ∧ due.Nodup ∧ (∀ r ∈ due, r ∈ gd.perms) ∧ TabS H PT qqIO ∧
  ∀ (D : Addr) (xs : List Addr) (H' : Hp), H D = none → Same (hidT H) (hidT H') → TabS H' PT qqIO → H' D = some (.lst (xs.map V.ref)) → (∀ x ∈ xs, ∃ rows2, IsP CP (hid [D] H') x G rows2 ∧ eqRows due rows2 = false) → xs.length ≤ 60 → Q (.ref D) H'
theorem othP_weak {K : PySem.W.Frag} {C CP PT : Addr} (σ : L2.St) (H : Hp) (Q : VK) (h : tOthP K C CP PT σ H Q) : tLc (iSeqW K (tCall spEv [] E0 (tCons (tVar 3) tNil))) (gName 7) (tTest (tOp (rNotInD K) (tVar 7) (tVar 10))) (tMake CP (spPI K C CP PT) [] E0 (tCons (tVar 5) (tCons (tOp rCat (tVar 10) (tLst (tCons (tVar 7) tNil))) tNil))) [7] σ H Q := by
  obtain ⟨g, G, Du, gd, due, ts, h3, h5, h10, h7, hG, fit, hl, hR, hD, hrs, nd, sub, hT, q⟩ := h
  refine ⟨_, h3, g, gd, rfl, hG, fit, fun l tp H1 nl s1 h1 r1 => ?_⟩
  have hqv : SqV K (hid [] H1) l (tp.map V.ref) true := same_hid0.seq (SqL.of h1)
  have ltp := Paired.length r1
  have ldue : due.length ≤ 60 := Nat.le_trans (nodup_leR nd sub) hl
  have lts : due.length = ts.length := Paired.length hrs
  have okp : ∀ r ∈ due, OkRow r := fun r hr => okr_perm fit (sub r hr)
  refine ⟨l, tp.map V.ref, true, [], rfl, hqv, fun J WJ D nD => ?_⟩
  refine lc_it WJ (fun j H' => ∃ xs : List Addr, Same (hidT H1) (hidT H') ∧ TabS H' PT qqIO ∧ H' D = some (.lst (xs.map V.ref)) ∧ (∀ x ∈ xs, ∃ rows2, IsP CP (hid [D] H') x G rows2 ∧ eqRows due rows2 = false) ∧ xs.length ≤ j)
    ⟨[], sameT (fun b o e => by rw [upd_ne (ne_of_none e nD)]; exact e), tabS (fun b o e => by rw [upd_ne (ne_of_none e nD)]; exact e) (tabS s1 hT), upd_same, (fun _ h => nomatch h), Nat.zero_le _⟩
    (fun j H' _ ⟨_, S, _⟩ => same_hid0.seq (SqL.of (lst_step S h1))) ?_ ?_
  · rintro j y H2' H2 hj ⟨xs, S2, T2, hD2, hx, lx⟩ ⟨rfl, hy⟩
    have hy : (tp.map V.ref)[j]? = some y := hy
    rw [List.getElem?_map] at hy
    obtain ⟨t, htt, rfl⟩ := Option.map_eq_some_iff.mp hy
    have hjr : j < gd.perms.length := by rw [ltp]; exact (List.getElem?_eq_some_iff.mp htt).1
    have hrj : gd.perms[j]? = some gd.perms[j] := List.getElem?_eq_getElem hjr
    generalize gd.perms[j] = r at hrj
    obtain ⟨t', ht', hrt⟩ := paired_at' r1 hrj
    obtain rfl : t' = t := by rw [htt] at ht'; exact (Option.some.inj ht').symm
    have rm := List.mem_of_getElem? hrj
    have S02 : Same (hidT H) (hidT H2) := (sameT s1).trans S2
    have hrt2 : RowAt H2 r t' := (hidT_in (S2 _ _ (hidT_to (show H1 t' = some (.tup (sts r)) from hrt) (fun _ z => nomatch z)))).1
    refine ⟨by simp [wipe, List.set_set], ⟨_, wset h7, _, by rw [wset2 (by decide)]; exact h10, rowD r, rowDs due, dp_row hrt2, .lst (SqL.of (lst_step S02 hD)) (dp_rows (rows_step S02 hrs)), shp_row (okr_perm fit rm), shp_rows okp, _, rfl, ?_⟩⟩
    rw [any_rowD]
    by_cases c : r ∈ due
    · rw [decide_eq_true c]
      refine iteF ?_
      exact ⟨xs, S2, T2, hD2, hx, by omega⟩
    · rw [decide_eq_false c]
      refine iteT ?_
      refine ⟨_, by rw [wset2 (by decide)]; exact h5, _, by rw [wset2 (by decide)]; exact h10, _, wset h7, by show 1 ≤ sizeLine; decide, fun a na => ?_⟩
      obtain ⟨H3, s3, h3', e3⟩ := lay (o := .lst [.ref t']) na
      rw [e3]
      have S03 : Same (hidT H) (hidT H3) := S02.trans (sameT s3)
      refine ⟨Du, a, _, _, rfl, rfl, lst_step S03 hD, h3', by rw [List.length_map, List.length_singleton, sizeLine_eq]; omega, fun b nb => ?_⟩
      obtain ⟨H4, s4, h4, e4⟩ := lay (o := .lst (ts.map V.ref ++ [.ref t'])) nb
      rw [e4]
      have s24 := s3.trans s4
      have S04 : Same (hidT H) (hidT H4) := S03.trans (sameT s4)
      have hr4 : RowsAt H4 (due ++ [r]) (ts ++ [t']) := (rows_step S04 hrs).app (.cons (s24 _ _ hrt2) .nil)
      have sub2 : ∀ z ∈ due ++ [r], z ∈ gd.perms := fun z hz => by
        rcases List.mem_append.mp hz with hz | hz
        · exact sub z hz
        · rw [List.mem_singleton.mp hz]; exact rm
      intro x dx nx ndx ne
      refine pr_make (rs := due ++ [r]) (ts := ts ++ [t']) nx ndx ne (gr3_step S04 hR) fit (.inl (SqL.of (by rw [h4, List.map_append]; rfl))) (by rw [List.length_append, List.length_singleton]; omega) (hrow_self hr4 fun z hz => ⟨sub2 z hz, by have := perm_len3 (sub2 z hz); omega⟩) (tabS s24 T2) fun H5 S5 T5 iP => ?_
      have hD4 := s24 _ _ hD2
      have hD5 := lst_step S5 hD4
      have xD : x ≠ D := fun e => by rw [e, hD4] at nx; cases nx
      refine ⟨_, hD5, by rw [List.length_map, sizeLine_eq]; omega, xs ++ [x], ?_, ?_, by rw [upd_same, List.map_append]; rfl, fun z hz => ?_, by rw [List.length_append, List.length_singleton]; omega⟩
      · refine fun b o e => ?_
        obtain ⟨e6, n⟩ := hidT_in (((S2.trans (sameT s24)).trans S5) _ _ e)
        exact hidT_to (by rw [upd_ne (fun z => by rw [z, none_T nD] at e; cases e)]; exact e6) n
      · exact tabB (ps := [D]) (fun z hz => by
          rw [List.mem_singleton.mp hz]
          exact ⟨_, hD5, (fun _ z => nomatch z), (fun _ z => by unfold CodeO at z; cases z)⟩) (bt_upd (by simp)) T5
      · have V25 : Same (hidT (hid [D] H2)) (hidT (hid [D] (upd H5 D (.lst (xs.map V.ref ++ [.ref x]))))) := ((sameT (hid_same s24)).trans (vwx S5)).trans (sameT (bt_upd (by simp)))
        rcases List.mem_append.mp hz with hz | hz
        · obtain ⟨rows2, i2, e2⟩ := hx z hz
          exact ⟨rows2, isP_step V25 i2, e2⟩
        · rw [List.mem_singleton.mp hz]
          have iD : IsP CP (hid [D] H5) x G (gd.pset (due ++ [r])) := by
            obtain ⟨dx', fs, d, k1, k2, k3, k4⟩ := iP.ex
            exact ⟨dx', fs, d, hid_to (ni1 xD) k1, k2, ⟨k3.1, hid_to (ni1 (ne_of k3.2 hD5 (fun z => nomatch z))) k3.2⟩, k4⟩
          refine ⟨_, isP_step (sameT (bt_upd (by simp))) iD, eqRows_more nd (r := r) (mem_pset.mpr ⟨rm, had_mem.mpr (.inr ⟨r, by simp, withB_self r⟩)⟩) c⟩
  · rintro H2 ⟨xs, S2, T2, hD2, hx, lx⟩
    rw [List.length_map, ← ltp] at lx
    exact q D xs H2 (s1.free nD) ((sameT s1).trans S2) T2 hD2 hx (by omega)
end GB
set_option Elab.async false
set_option linter.all false
set_option autoImplicit false
set_option maxRecDepth 100000
set_option maxHeartbeats 8000000
namespace GB
open PySem PySem.Spec L2 EqT LamX ItX K7
/-- permits with these rows of g are not equal to x -/
def NeqP (K : PySem.W.Frag) (C CP : Addr) (g : GD) (rows : List PRow) (H : Hp) (x : V) : Prop :=
  (∃ (x2 G2 : Addr) (g2 : GD) (rows2 : List PRow), x = .ref x2 ∧ IsP CP H x2 G2 rows2 ∧ IsGr3 C H G2 g2 ∧ g2.Fit ∧ (g.letters.map (·.1) = g2.letters.map (·.1) → g.letters = g2.letters) ∧ (eqG g g2 && eqRows rows rows2) = false) ∨
  (∃ t, (∀ H', Same H H' → TyX K H' x t) ∧ PySem.W.kitOne K t (.ref CP) = some false ∧ PySem.W.notFirst K CP t = true)
theorem NeqP.mono {K : PySem.W.Frag} {C CP : Addr} {g : GD} {rows : List PRow} {H H' : Hp} {x : V} (s : Same H H') (h : NeqP K C CP g rows H x) : NeqP K C CP g rows H' x := by
  rcases h with ⟨x2, G2, g2, rows2, h1, h2, h3, h4⟩ | ⟨t, h1, h2⟩
  · exact .inl ⟨x2, G2, g2, rows2, h1, h2.mono s, h3.mono s, h4⟩
  · exact .inr ⟨t, fun J sJ => h1 J (s.trans sJ), h2⟩
/-- any([permits == x or not permits != x for x in others + [None, due, tuple(due), 5, ground]]) -/
def tAnyP (K : PySem.W.Frag) (C CP : Addr) : TE := fun σ H Q => ∃ (O Du G x0 : Addr) (g : GD) (rows : List PRow) (xs : List V) (ys : List V), σ[12]? = some (some (.ref O)) ∧ σ[10]? = some (some (.ref Du)) ∧ σ[5]? = some (some (.ref G)) ∧ σ[11]? = some (some (.ref x0)) ∧ 14 < σ.length ∧
  H O = some (.lst xs) ∧ xs.length ≤ 1000 ∧ (∀ x ∈ xs, NeqP K C CP g rows H x) ∧ H Du = some (.lst ys) ∧ IsGr3 C H G g ∧ g.Fit ∧ IsP CP H x0 G rows ∧ ∀ H', Same H H' → Q (.bl false) H'
structure KsP (K : PySem.W.Frag) (C CP : Addr) : Prop where
  ty : ∀ T ∈ (["NoneType", "list", "tuple", "int"] : List String), PySem.W.kitOne K (.type T) (.ref CP) = some false ∧ PySem.W.notFirst K CP (.type T) = true
  gr : PySem.W.kitOne K (.ref C) (.ref CP) = some false ∧ PySem.W.notFirst K CP (.ref C) = true
theorem anyP_weak {K : PySem.W.Frag} {C CP : Addr} (ks : KsP K C CP) (gk : GrK K C) (ck : PrK K CP) (σ : L2.St) (H : Hp) (Q : VK) (h : tAnyP K C CP σ H Q) :
    tCB (rAny K) (tCons (tLc (iSeqW K (tOp rCat (tVar 12) (tLst (tCons (tC .non) (tCons (tVar 10) (tCons (tCB (rTof K) (tCons (tVar 10) tNil)) (tCons (tC (.int 5)) (tCons (tVar 5) tNil)))))))) (gName 14) tYes (tOrV (tOp (rEqOwn K CP (spEqP K C CP) false) (tVar 11) (tVar 14)) (tNotV (tOp (rEqOwn K CP (spEqP K C CP) true) (tVar 11) (tVar 14)))) [14]) tNil) σ H Q := by
  obtain ⟨O, Du, G, x0, g, rows, xs, ys, h12, h10, h5, h11, h14, hO, lO, hx, hD, hR, fit, hP, q⟩ := h
  refine ⟨_, h12, _, h10, _, h10, Du, ys, rfl, .inl ⟨SqL.of hD, fun tt ntt => ?_⟩⟩
  obtain ⟨H1, s1, h1, e1⟩ := lay (o := .tup ys) ntt
  rw [e1]
  refine ⟨_, h5, by show 5 ≤ sizeLine; decide, fun L nL => ?_⟩
  obtain ⟨H2, s2, h2, e2⟩ := lay (o := .lst [.non, .ref Du, .ref tt, .int 5, .ref G]) nL
  rw [e2]
  have S2 := s1.trans s2
  refine ⟨O, L, _, _, rfl, rfl, S2 _ _ hO, h2, by rw [sizeLine_eq]; simp only [List.length_cons, List.length_nil]; omega, fun M nM => ?_⟩
  obtain ⟨H3, s3, h3, e3⟩ := lay (o := .lst (xs ++ [.non, .ref Du, .ref tt, .int 5, .ref G])) nM
  rw [e3]
  have S3 := S2.trans s3
  obtain ⟨gx, gf, _, _, _, _, _, g0, _⟩ := hR.gr.ex
  have all : ∀ x ∈ xs ++ ([.non, .ref Du, .ref tt, .int 5, .ref G] : List V), NeqP K C CP g rows H3 x := fun x hx' => by
    rcases List.mem_append.mp hx' with m | m
    · exact (hx x m).mono S3
    · simp only [List.mem_cons, List.not_mem_nil, or_false] at m
      rcases m with rfl | rfl | rfl | rfl | rfl
      · exact .inr ⟨.type "NoneType", fun _ _ => .base .non, ks.ty _ (by simp)⟩
      · exact .inr ⟨.type "list", fun H' s' => .base (.lst (s' _ _ (S3 _ _ hD))), ks.ty _ (by simp)⟩
      · exact .inr ⟨.type "tuple", fun H' s' => .base (.tup (s' _ _ ((s2.trans s3) _ _ h1))), ks.ty _ (by simp)⟩
      · exact .inr ⟨.type "int", fun _ _ => .base (.int 5), ks.ty _ (by simp)⟩
      · exact .inr ⟨.ref C, fun H' s' => gk.ty H' G gx gf (s' _ _ (S3 _ _ g0)), ks.gr⟩
  have lA : (xs ++ ([.non, .ref Du, .ref tt, .int 5, .ref G] : List V)).length ≤ 1005 := by rw [List.length_append]; simp only [List.length_cons, List.length_nil]; omega
  generalize xs ++ ([.non, .ref Du, .ref tt, .int 5, .ref G] : List V) = vs at h3 all lA e3
  refine ⟨M, vs, true, [], rfl, same_hid0.seq (SqL.of h3), fun J WJ D nD => ?_⟩
  refine lc_it WJ (fun i H' => Same H3 H' ∧ H' D = some (.lst ((List.replicate i false).map V.bl))) ⟨same_new nD, upd_same⟩ (fun i H' _ s' => same_hid0.seq (SqL.of (s'.1 _ _ h3))) ?_ ?_
  · rintro i x H4' H4 hi ⟨s4, h4⟩ ⟨rfl, hx⟩
    have hx : vs[i]? = some x := hx
    have fin : ∃ acc, H4 D = some (.lst acc) ∧ acc.length < sizeLine ∧ Same H3 (upd H4 D (.lst (acc ++ [V.bl false]))) ∧ (upd H4 D (.lst (acc ++ [V.bl false]))) D = some (.lst ((List.replicate (i + 1) false).map V.bl)) := by
      refine ⟨_, h4, by rw [List.length_map, List.length_replicate, sizeLine_eq]; omega, fun b o e => ?_, ?_⟩
      · rw [upd_ne (ne_of_none e nD)]; exact s4 _ _ e
      · rw [upd_same, List.replicate_succ', List.map_append]; rfl
    have S4 := S3.trans s4
    obtain ⟨dx, fs, d, p1, p2, p3, p4⟩ := (hP.mono S4).ex
    have i0 := hP.mono S4
    have r0 := hR.mono S4
    refine ⟨by simp [wipe, List.set_set], ?_⟩
    have a11 : ((wipe σ [14]).set 14 (some x))[11]? = some (some (.ref x0)) := by rw [wset2 (by decide)]; exact h11
    have a14 : ((wipe σ [14]).set 14 (some x))[14]? = some (some x) := wset h14
    rcases ((all x (List.mem_of_getElem? hx)).mono s4) with ⟨x2, G2, g2, rows2, rfl, i2, r2, f2, cond, ne⟩ | ⟨t, ty, k1, k2⟩
    · obtain ⟨dx2, fs2, d2, c1, _⟩ := i2.ex
      have nb : NotBelow K CP H4 (.ref x2) := ⟨.ref CP, ck.ty H4 x2 dx2 fs2 c1, by unfold PySem.W.notFirst; simp⟩
      refine ⟨_, a11, _, a14, x0, dx, fs, rfl, p1, nb, x0, G, .ref x2, g, rows, rfl, i0, r0, fit, .inl ⟨x2, G2, g2, rows2, rfl, i2, r2, f2, cond, false, by rw [ne], _, rfl, ?_⟩⟩
      refine iteF ?_
      exact ⟨_, a11, _, a14, x0, dx, fs, rfl, p1, nb, x0, G, .ref x2, g, rows, rfl, i0, r0, fit, .inl ⟨x2, G2, g2, rows2, rfl, i2, r2, f2, cond, false, by rw [ne], _, rfl, fin⟩⟩
    · have nb : NotBelow K CP H4 x := ⟨t, ty _ (Same.refl _), k2⟩
      refine ⟨_, a11, _, a14, x0, dx, fs, rfl, p1, nb, x0, G, x, g, rows, rfl, i0, r0, fit, .inr ⟨t, ty _ (Same.refl _), k1, false, rfl, _, rfl, ?_⟩⟩
      refine iteF ?_
      exact ⟨_, a11, _, a14, x0, dx, fs, rfl, p1, nb, x0, G, x, g, rows, rfl, i0, r0, fit, .inr ⟨t, ty _ (Same.refl _), k1, false, rfl, _, rfl, fin⟩⟩
  · rintro H4 ⟨s4, h4⟩
    refine ⟨D, _, rfl, SqL.of h4, ?_⟩
    have hb : ∀ m : Nat, (List.replicate m false).any id = false := fun m => by
      induction m with
      | zero => rfl
      | succ m ih => rw [List.replicate_succ, List.any_cons, ih]; rfl
    rw [hb]
    exact q H4 (S3.trans s4)
end GB
set_option Elab.async false
set_option linter.all false
set_option autoImplicit false
set_option maxRecDepth 100000
set_option maxHeartbeats 16000000
namespace GB
open PySem PySem.Spec L2 EqT LamX ItX K7
theorem perms_len {g : GD} (h : g.letters.length ≤ 5) : g.perms.length ≤ 60 := by
  have hm : g.mv.length ≤ 5 := by
    have := List.length_filter_le (fun x => !decide (x ∈ g.fixed)) (g.letters.map (·.1))
    rw [List.length_map] at this
    exact Nat.le_trans this h
  have key : ∀ mv : List Str, mv.length ≤ 5 → (showsOf mv mv).length + (shTo mv mv.length).length ≤ 35 := by
    intro mv hm
    match mv, hm with
    | [], _ => exact Nat.le_of_ble_eq_true rfl
    | [a], _ => exact Nat.le_of_ble_eq_true rfl
    | [a, b], _ => exact Nat.le_of_ble_eq_true rfl
    | [a, b, c], _ => exact Nat.le_of_ble_eq_true rfl
    | [a, b, c, d], _ => exact Nat.le_of_ble_eq_true rfl
    | [a, b, c, d, e], _ => exact Nat.le_of_ble_eq_true rfl
    | a :: b :: c :: d :: e :: f :: r, h => simp only [List.length_cons] at h; omega
  have k := key g.mv hm
  have e : g.perms = allPerms (g.letters.map (·.1)) g.mv := rfl
  rw [e]
  unfold allPerms
  simp only [List.length_append, List.length_map]
  omega
theorem ne_pool {H : Hp} {p b : Addr} {n : Nat} {o : HO} (P : PoolIs H p n) (h : H b = some o) (no : ∀ x y z : Int, o ≠ .lst (poolV x y z)) : b ≠ p := fun e => by
  obtain ⟨x, y, z, hp, _⟩ := P
  rw [e, hp] at h
  exact no x y z (Option.some.inj h).symm
theorem gr3_pool {C : Addr} {H : Hp} {G p : Addr} {g : GD} {n : Nat} (P : PoolIs H p n) (h : IsGr3 C H G g) : IsGr3 C (hid [p] H) G g := by
  have k : ∀ {b : Addr} {o : HO}, H b = some o → (∀ x y z : Int, o ≠ .lst (poolV x y z)) → hid [p] H b = some o := fun h no => hid_to (ni1 (ne_pool P h no)) h
  have kS : ∀ (l : List Str) (x y z : Int), HO.lst (sts l) ≠ .lst (poolV x y z) := fun l x y z e => by
    have := HO.lst.inj e
    cases l with
    | nil => cases this
    | cons a r => cases (List.cons.inj this).1
  have kR : ∀ (l : List Addr) (x y z : Int), HO.lst (l.map V.ref) ≠ .lst (poolV x y z) := fun l x y z e => by
    have := HO.lst.inj e
    cases l with
    | nil => cases this
    | cons a r => cases (List.cons.inj this).1
  obtain ⟨dx, fs, l1, l2, l3, l4, l5, h0, ⟨h1, ts, h1', h1p⟩, h2, h3, h4, h5, h6⟩ := h.gr.ex
  obtain ⟨dx', fs', D, p0, p1, p2⟩ := h.pl.ex
  refine ⟨⟨dx, fs, l1, l2, l3, l4, l5, k h0 (fun _ _ _ z => nomatch z), ⟨h1, ts, k h1' (kR ts), Paired.mapP h1p fun f t hf => ?_⟩, ⟨h2.1, k h2.2 (fun _ _ _ z => nomatch z)⟩, ⟨h3.1, k h3.2 (kS _)⟩, ⟨h4.1, k h4.2 (kS _)⟩, ⟨h5.1, k h5.2 (kS _)⟩, h6⟩, ⟨dx', fs', D, k p0 (fun _ _ _ z => nomatch z), p1, k p2 (fun _ _ _ z => nomatch z)⟩⟩
  obtain ⟨v, e, a1, a2, a3⟩ := hf.ex
  exact ⟨v, e, k a1 (fun _ _ _ z => nomatch z), k a2 (fun _ _ _ z => nomatch z), k a3 (fun _ _ _ z => nomatch z)⟩
theorem hrow_of {H : Hp} {N : List Addr} {g : GD} (fit : g.Fit) {rs : List PRow} {us : List Addr} (h : Paired (HItem H N) rs us) (sub : ∀ r ∈ rs, r ∈ g.perms) : Paired (HRow H g.perms) rs us := by
  induction h with
  | nil => exact .nil
  | cons h _ ih =>
    obtain ⟨r', sw, hu⟩ := h
    obtain ⟨a1, a2, _⟩ := swr_mem fit (sub _ List.mem_cons_self) sw
    exact .cons ⟨r', hu.imp (fun h => h.2) id, by omega, a1⟩ (ih fun r hr => sub r (List.mem_cons_of_mem _ hr))
end GB
namespace K7
open PySem PySem.Spec L2 GB EqT LamX ItX
abbrev sLaw : Stmt := topS 45
def lawN : List Str := ["_law_script", "_law_turn", "_law_pool_here", "_law_g", "_law_share", "_law_ground_here", "_law_rows", "_law_row", "_law_handed_here", "_law_kept", "_law_due", "_law_permits", "_law_others", "_law_more", "_law_x"]
theorem scLaw : FnScope lawN ["_law_script"] (defScope sLaw) := ⟨rfl, rfl, rfl, by decide +kernel, rfl, by decide +kernel, by decide +kernel⟩
structure LawT (P : Program) (w : World) (K : PySem.W.Frag) (mg : Str → Option Value) (base : Heap) (C CP PT : Addr) : Prop where
  T : Bl mg
  RP : mg "repr" = none
  CE : Fns P w K mg base "_law_cell" 1 ["_law_script", "_law_k"] (GB.spCell K)
  PL : Fns P w K mg base "_law_pool" 1 ["_law_grain"] spPool
  TK : Fns P w K mg base "_law_take" 1 ["_law_pool_here", "_law_many"] spTake
  GR : Fns P w K mg base "_law_ground" 3 ["_law_pool_here", "_law_most"] spGround
  EV : Fns P w K mg base "_law_every" 1 ["_law_g"] spEv
  CL : Fns P w K mg base "_law_closed" 2 ["_law_g", "_law_rows"] spCl
  HN : Fns P w K mg base "_law_handed" 4 ["_law_pool_here", "_law_rows"] (spHn K)
  MD : Fns P w K mg base "_law_made" 7 ["_law_g"] (spMade3 C)
  RI : Fns P w K mg base "_law_is_right" 8 ["_law_permits", "_law_g", "_law_due"] (spRi C CP)
  MP : PrM P w K mg base C CP
  gk : GrK K C
  mkG : ∃ fI fdI, Mk K C fI ∧ FnOk P w K mg base CX0 5 fI fdI ["self", "letters", "fixed", "commuting", "facts"] (spGI2 K C) ∧ Binds K fdI ["self", "letters", "fixed", "commuting", "facts"] []
  mkP : ∃ (fI : Addr) (fdI : FuncData) (dP : Addr) (ds : List Value), Mk K CP fI ∧ FnOk P w K mg base CX0 7 fI fdI ["self", "ground", "rows"] (spPI K C CP PT) ∧ Binds K fdI ["self", "ground", "rows"] [] ∧ Binds K fdI ["self", "ground", "rows"] ds ∧ Vals [.ref dP] ds ∧ ∀ H, SqT K H dP []
  sm : ∃ (mc : Value) (p gf : Addr) (fd : FuncData), ClX.CRead K CP mc ∧ SmX.SMet K CP mc "full" p gf ∧ FnOk P w K mg base CX0 10 gf fd ["ground"] (spFu C CP PT) ∧ Binds K fd ["ground"] []
  gC : mg "Ground" = some (.ref C)
  gP : mg "Permits" = some (.ref CP)
  ks : KsP K C CP
section
variable {P : Program} {w : World} {K : PySem.W.Frag} {mg : Str → Option Value} {base : Heap} {C CP PT f a : Addr} {cdv : Value}
theorem ok_law {s : Shared} {H : Hp} {ns : List Int} (Z : LawT P w K mg base C CP PT) (hr : Room 25 (callerA.deeper (PyProof.Rows.envOfC "law" (defScope sLaw) s.heap.objs.size f cdv))) (hS : SqL K H a (ns.map V.int)) (hT : TabS H PT qqIO) :
    ∃ t, PSs (cxOf CX0 P w K mg base lawN "law" (defScope sLaw) f cdv callerA [] s H (fun _ _ _ => False)) (defBody sLaw) t ∧ t { nx := fun _ J => (V.non : V) = .bl true, rt := fun v _ => v = .bl true } (L2.start lawN [.ref a]) H := by
    obtain ⟨T, RP, CE, PL, TK, GR, EV, CL, HN, MD, RI, ⟨ck, ⟨fR, dR, mR, FR, bR⟩, _, _, _, ⟨fQ, dQ, hsQ, hfQ, FQ, bQ⟩, hneP, hmroP⟩, gk, ⟨fG, dG, MKG, FIG, bG⟩, ⟨fP, fdP, dP, ds, MKP, FIP, bP, bP1, rdP, zP⟩, ⟨mc, pS, gS, fdS, crd, smt, FFU, bFU⟩, gC, gP, ks⟩ := Z
    have hgd : (callerA.deeper (PyProof.Rows.envOfC "law" (defScope sLaw) s.heap.objs.size f cdv)).guards = some [] := rfl
    have hu64 : (callerA.deeper (PyProof.Rows.envOfC "law" (defScope sLaw) s.heap.objs.size f cdv)).units + 64 < cLine := by have := hr.un; omega
    have hu65 : (callerA.deeper (PyProof.Rows.envOfC "law" (defScope sLaw) s.heap.objs.size f cdv)).units + 65 < cLine := by have := hr.un; omega
    have hu110 : (callerA.deeper (PyProof.Rows.envOfC "law" (defScope sLaw) s.heap.objs.size f cdv)).units + 110 < cLine := by have := hr.un; omega
    have hr1 : Room 1 (callerA.deeper (PyProof.Rows.envOfC "law" (defScope sLaw) s.heap.objs.size f cdv)) := hr.mono (by decide)
    have hr8 : Room 8 (callerA.deeper (PyProof.Rows.envOfC "law" (defScope sLaw) s.heap.objs.size f cdv)) := hr.mono (by decide)
    have hr10 : Room 10 (callerA.deeper (PyProof.Rows.envOfC "law" (defScope sLaw) s.heap.objs.size f cdv)) := hr.mono (by decide)
    refine ⟨_, (show PSs (cxOf CX0 P w K mg base lawN "law" (defScope sLaw) f cdv callerA [] s H (fun _ _ _ => False)).nox (defBody sLaw) _ from
      (pss_cons (ps_for PassesOwn.never rfl (pi_range1 rfl T.range (pa_cons (pe_int) (pa_nil))) (pg_name (i := 1) scLaw.nd rfl (.inl rfl)) (pss_cons (ps_set (i := 2) scLaw.nd rfl (.inr rfl) (pe_fn PL hr (by decide) rfl (pa_cons (pe_op op_add (pe_fn CE hr (by decide) rfl (pa_cons (pv 0) (pa_cons (pv 1) (pa_nil)))) (pv 1)) (pa_nil)))) (pss_cons (ps_asg (pe_tup (pa_cons (pe_fn GR hr (by decide) rfl (pa_cons (pv 2) (pa_cons (pe_int) (pa_nil)))) (pa_cons (pe_op op_add (pe_int) (pe_fn TK hr (by decide) rfl (pa_cons (pv 2) (pa_cons (pe_int) (pa_nil))))) (pa_nil)))) (pg_tup rfl (pgs_cons (pg_name (i := 3) scLaw.nd rfl (.inl rfl)) (pgs_cons (pg_name (i := 4) scLaw.nd rfl (.inr rfl)) (pgs_nil))))) (pss_cons (ps_asg (pe_tup (pa_cons (pe_fn MD hr (by decide) rfl (pa_cons (pv 3) (pa_nil))) (pa_cons (pe_weak (t' := tPick K) (pe_lc (own := [("_law_row", 7)]) (g := gName 7) (tt := tTest (tOp (rI0 fun i j => .bl (decide (i < j))) (tCall spTake [] E0 (tCons (tVar 2) (tCons (tC (.int 10)) tNil))) (tVar 4))) rfl scLaw.nd (pi_seqW (pe_fn EV hr (by decide) rfl (pa_cons (pv 3) (pa_nil)))) (blkOk_by (own := [("_law_row", 7)]) (N := lawN) (sc := defScope sLaw) (by decide +kernel)) (fun _ _ _ _ _ => pg_name (i := 7) scLaw.nd rfl (.inl rfl)) (fun _ _ _ _ _ => pts_one (pt_cmpR (r := rI0 fun i j => .bl (decide (i < j))) op_lt (pe_fn (sp := spTake) (k := 1) TK hr (by decide) rfl (pa_cons (pv 2) (pa_cons pe_int pa_nil))) (pv 4) (nomark _))) (fun _ _ _ _ _ => pv 7)) pick_weak) (pa_nil)))) (pg_tup rfl (pgs_cons (pg_name (i := 5) scLaw.nd rfl (.inr rfl)) (pgs_cons (pg_name (i := 6) scLaw.nd rfl (.inl rfl)) (pgs_nil))))) (pss_cons (ps_set (i := 8) scLaw.nd rfl (.inl rfl) (pe_fn HN hr (by decide) rfl (pa_cons (pv 2) (pa_cons (pv 6) (pa_nil))))) (pss_cons (ps_asg (pe_tup (pa_cons (pe_callB (call_repr hgd hu110) (by rfl) RP (by decide +kernel) (pa_cons (pv 8) (pa_nil))) (pa_cons (pe_fn CL hr (by decide) rfl (pa_cons (pv 3) (pa_cons (pv 6) (pa_nil)))) (pa_nil)))) (pg_tup rfl (pgs_cons (pg_name (i := 9) scLaw.nd rfl (.inl rfl)) (pgs_cons (pg_name (i := 10) scLaw.nd rfl (.inr rfl)) (pgs_nil))))) (pss_cons (ps_set (i := 11) scLaw.nd rfl (.inr rfl) ((pe_make MKP FIP hr8 rfl gP bP .nil pass0 (pa_cons (pv 5) (pa_cons (pe_ix ix_list (pe_lst (pa_cons (pv 8) (pa_cons (pe_callTy (r := rTof K) call_tof (by rfl) T.tuple (by decide +kernel) (pa_cons (pv 8) pa_nil)) (pa_nil)))) (pe_fn TK hr (by decide) rfl (pa_cons (pv 2) (pa_cons (pe_int) (pa_nil)))) (fun _ _ => rfl)) pa_nil))))) (pss_cons (ps_if (pt_cmpR op_ne (pe_callB (call_repr hgd hu110) (by rfl) RP (by decide +kernel) (pa_cons (pv 8) (pa_nil))) (pv 9) (nomark _)) (pss_one (ps_ret (pe_bl))) (pss_nil)) (pss_cons (ps_for PassesOwn.never rfl (pi_seqW (pv 8)) (pg_name (i := 7) scLaw.nd rfl (.inl rfl)) (pss_one (ps_if (pt_val (pe_callB call_isi (by rfl) T.isi (by decide +kernel) (pa_cons (pv 7) (pa_cons (pe_bltn (v := .ty "list") (by rfl) T.list (by decide +kernel) rfl) (pa_nil))))) (pss_one (ps_expr (pe_bm PySem.F.plainAttrs_list PySem.F.slot_list_append PySem.F.type_list_append mt_append (pv 7) (pa_cons (pe_str) (pa_nil))))) (pss_nil)))) (pss_cons (ps_expr (pe_bm PySem.F.plainAttrs_list PySem.F.slot_list_append PySem.F.type_list_append mt_append (pv 8) (pa_cons (pe_str) (pa_nil)))) (pss_cons (ps_expr (pe_bm PySem.F.plainAttrs_list PySem.F.slot_list_append PySem.F.type_list_append mt_append ((pe_meth0 (pv 11) ck.cl mR FR hr1 bR .nil pass0)) (pa_cons (pe_str) (pa_nil)))) (pss_cons (ps_if (PW.pt (pw_or (pt_not (pt_val (pe_fn RI hr (by decide) rfl (pa_cons (pv 11) (pa_cons (pv 3) (pa_cons (pv 10) (pa_nil))))))) (pw_or1 (pt_not (pt_cmpR (op_eqOwn hsQ hfQ FQ (hr.mono (by decide)) bQ) (pv 11) ((pe_make MKP FIP hr8 rfl gP bP .nil pass0 (pa_cons (pe_fn MD hr (by decide) rfl (pa_cons (pv 3) (pa_nil))) (pa_cons (pv 10) pa_nil)))) (nomark _)))))) (pss_one (ps_ret (pe_bl))) (pss_nil)) (pss_cons (ps_weak (t' := tAsg (tOthP K C CP PT) (gName 12)) (ps_setLc (i := 12) (own := [("_law_row", 7)]) (g := gName 7) (tt := tTest (tOp (rNotInD K) (tVar 7) (tVar 10))) rfl scLaw.nd rfl rfl (sw_true rfl rfl rfl (by decide +kernel)) (pi_seqW (pe_fn EV hr (by decide) rfl (pa_cons (pv 3) (pa_nil)))) (blkOk_by (own := [("_law_row", 7)]) (N := lawN) (sc := defScope sLaw) (by decide +kernel)) (fun _ _ _ _ _ => pg_name (i := 7) scLaw.nd rfl (.inl rfl)) (fun _ _ _ _ _ => pts_one (pt_cmpR (r := rNotInD K) (op_notInD hu65) (pv 7) (pv 10) (by rfl))) (fun _ _ _ _ _ => (pe_make MKP FIP hr8 rfl gP bP .nil pass0 (pa_cons (pv 5) (pa_cons (pe_op op_cat (pv 10) (pe_lst (pa_cons (pv 7) (pa_nil)))) pa_nil))))) (fun D σ H h => othP_weak σ H _ h)) (pss_cons (ps_set (i := 13) scLaw.nd rfl (.inl rfl) (pe_callTy call_dictD (by rfl) T.dict (by decide +kernel) (pa_cons (pe_dget (hu_of hr) (pv 3) pe_str (fun _ _ => rfl)) pa_nil))) (pss_cons (ps_dput (hu_of hr) (pv 13) pe_str pe_int rfl) (pss_cons (ps_expr (pe_bm PySem.F.plainAttrs_list PySem.F.slot_list_append PySem.F.type_list_append mt_append (pv 12) (pa_cons ((pe_make MKP FIP hr8 rfl gP bP .nil pass0 (pa_cons ((pe_make MKG FIG (hr.mono (by decide)) rfl gC bG .nil pass0 (pa_cons (pv 13) (pa_cons (pe_dget (hu_of hr) (pv 3) pe_str (fun _ _ => rfl)) (pa_cons (pe_dget (hu_of hr) (pv 3) pe_str (fun _ _ => rfl)) (pa_cons (pe_dget (hu_of hr) (pv 3) pe_str (fun _ _ => rfl)) (pa_nil))))))) (pa_cons (pv 10) pa_nil)))) (pa_nil)))) (pss_cons (ps_if (pt_val (pe_weak (t' := tAnyP K C CP) (pe_callB (r := rAny K) (cr_any rfl) (by rfl) T.any (by decide +kernel) (pa_cons (pe_lc (own := [("_law_x", 14)]) (g := gName 14) (tt := tYes) rfl scLaw.nd (pi_seqW (pe_op op_cat (pv 12) (pe_lst (pa_cons (pe_non) (pa_cons (pv 10) (pa_cons (pe_callTy (r := rTof K) call_tof (by rfl) T.tuple (by decide +kernel) (pa_cons (pv 10) pa_nil)) (pa_cons (pe_int) (pa_cons (pv 5) (pa_nil))))))))) (blkOk_by (own := [("_law_x", 14)]) (N := lawN) (sc := defScope sLaw) (by decide +kernel)) (fun _ _ _ _ _ => pg_name (i := 14) scLaw.nd rfl (.inl rfl)) (fun _ _ _ _ _ => pts_nil) (fun _ _ _ _ _ => pe_or (pe_cmpR (r := rEqOwn K CP (spEqP K C CP) false) (op_eqOwn hsQ hfQ FQ (hr.mono (by decide)) bQ) (pv 11) (pv 14) (nomark _)) (pe_one (pe_not (pe_cmpR (r := rEqOwn K CP (spEqP K C CP) true) (op_neOwn hsQ hfQ hneP hmroP FQ (hr.mono (by decide)) bQ) (pv 11) (pv 14) (nomark _)))))) pa_nil)) (anyP_weak ks gk ck))) (pss_one (ps_ret (pe_bl))) (pss_nil)) (pss_one (ps_if (PW.pt (pw_or (pt_cmpR (op_neD hu64) ((pe_meth0 (SmX.pe_smeth (pe_glob (v := .ref CP) rfl gP rfl) crd smt FFU hr10 bFU (pa_cons (pv 5) pa_nil)) ck.cl mR FR hr1 bR .nil pass0)) (pe_fn EV hr (by decide) rfl (pa_cons (pv 3) (pa_nil))) (nomark _)) (pw_or1 (pt_cmpR (op_neD hu64) ((pe_meth0 ((pe_make MKP FIP hr8 rfl gP bP1 rdP pass0 (pa_cons (pv 5) pa_nil))) ck.cl mR FR hr1 bR .nil pass0)) (pe_fn CL hr (by decide) rfl (pa_cons (pv 3) (pa_cons (pe_lst (pa_nil)) (pa_nil)))) (nomark _))))) (pss_one (ps_ret (pe_bl))) (pss_nil)))))))))))))))))))) (pss_one (ps_ret (pe_bl))))).nox, ?_⟩
    clear CE PL TK GR EV CL HN MD RI FR bR FQ bQ hsQ hfQ hneP hmroP MKG FIG bG MKP FIP bP bP1 crd smt FFU bFU gC gP T RP hr mR hr1 hr8 hr10 hu64 hu65 hu110 hgd
    refine ⟨5, rfl, by decide, by decide, for_range (lo := 0) (n := 5) (fun i σ H' => ∃ o1 o2 o3 o4 o5 o6 o7 o8 o9 o10 o11 o12 o13, σ = [some (.ref a), o1, o2, o3, o4, o5, o6, o7, o8, o9, o10, o11, o12, o13, none] ∧ SqL K H' a (ns.map V.int) ∧ TabS H' PT qqIO) ⟨none, none, none, none, none, none, none, none, none, none, none, none, none, rfl, hS, hT⟩ ?_ ?_⟩
    case refine_2 => exact fun σ H' _ => rfl
    rintro i0 σ H1 hi ⟨o1, o2, o3, o4, o5, o6, o7, o8, o9, o10, o11, o12, o13, rfl, hS1, hT1⟩
    refine ⟨_, rfl, _, rfl, a, ns, i0, (by rw [Int.zero_add]; rfl), hS1, fun z0 => ⟨_, rfl, _, _, rfl, rfl, _, rfl, fun p H2 np s2 P2 => ?_⟩⟩
    refine ⟨_, rfl, p, 5, 0, rfl, by decide, by decide, by decide, P2, fun g gd H3 B3 hG3 wf l5 P3 => ?_⟩
    have P3 : PoolIs H3 p 500 := P3.mono (Same.refl _) (by decide)
    have own := own_of wf
    have fit := own.fit
    have lp := perms_len (g := gd) (by omega)
    have nn : ("none" : Str) ∉ gd.letters.map (·.1) := fun m => by
      obtain ⟨q, hq, e⟩ := List.mem_map.mp m
      have := wf.nm q hq
      rw [e] at this
      exact absurd this (by decide +kernel)
    have S13 : Same H1 (hid [p] H3) := fun b o h => by
      have bp : b ≠ p := ne_of_none h np
      exact hid_to (ni1 bp) (bt_at B3 (ni1 bp) (s2 _ _ h))
    have hS3 : SqL K (hid [p] H3) a (ns.map V.int) := Same.seq S13 hS1
    refine ⟨_, rfl, p, 9, 500, rfl, by decide, by decide, by decide, P3, fun k H4 hk B4 P4 => ?_⟩
    refine ⟨_, _, rfl, rfl, by show 2 ≤ sizeLine; decide, fun t1 nt1 => ?_⟩
    obtain ⟨H5, s5, h5, e5⟩ := lay (o := .tup [.ref g, .int (1 + (k : Int))]) nt1
    rw [e5]
    refine ⟨t1, _, rfl, SqT.of h5, rfl, _, _, rfl, _, _, rfl, rfl, ?_⟩
    have P5 := P4.mono s5 (Nat.le_refl _)
    have S35 : Same (hid [p] H3) (hid [p] H5) := B4.trans (hid_same s5)
    have hG5 := hG3.mono S35
    -- the ground, the rows
    refine ⟨_, rfl, g, gd, rfl, hG5.mono (hid_low _ _), fit, fun G H6 nG s6 hR6 => ?_⟩
    have P6 := P5.mono s6 (Nat.le_refl _)
    have hR6' := gr3_pool P6 hR6
    have S36 := S35.trans (hid_same s6)
    refine ⟨g, p, gd, _, _, rfl, rfl, rfl, by show 7 < 15; decide, hG3.mono S36, fit, lp, P6, by decide, fun D rs ts0 H7 nD Dp B7 hD7 hr7 sub lrs P7 => ?_⟩
    refine ⟨by show 2 ≤ sizeLine; decide, fun t2 nt2 => ?_⟩
    obtain ⟨H8, s8, h8, e8⟩ := lay (o := .tup [.ref G, .ref D]) nt2
    rw [e8]
    refine ⟨t2, _, rfl, SqT.of h8, rfl, _, _, rfl, _, _, rfl, rfl, ?_⟩
    have P8 := P7.mono s8 (Nat.le_refl _)
    have S68 : Same (hid [p] H6) (hid [p] H8) := B7.trans (hid_same s8)
    have S38 := S36.trans S68
    have hR8 := hR6'.mono S68
    have hG8 := hG3.mono S38
    have hD8 : hid [p] H8 D = some (.lst (ts0.map V.ref)) := hid_to (ni1 Dp) (s8 _ _ hD7)
    have hr8 := hr7.mono (hid_same s8)
    have hS8 := Same.seq S38 hS3
    -- handed
    refine ⟨_, rfl, _, rfl, p, D, gd, rs, ts0, _, rfl, hD8, hr8, sub, by omega, by decide, P8, fun l rs' us N H9 B9 nl9 hl9 nN hp9 same9 lrs' P9 => ?_⟩
    have S89 : Same (hid [p] H8) H9 := B9.trans (hid_low _ _)
    have sub' : ∀ r ∈ rs', r ∈ gd.perms := fun r hr => sub r ((same9 r).mp hr)
    have hp9' : Paired (HItem H9 N) rs' us := Paired.mapP hp9 fun _ _ z => z.mono (hid_low _ _)
    obtain ⟨ds, dpsV, pl9, ly9, de9, we9⟩ := hdat (K := K) fit hp9 sub'
    have dps9 := dps_mono (hid_low [p] H9) dpsV
    have lus : rs'.length = us.length := Paired.length hp9'
    obtain ⟨sh1, sh2, sh3, sh4⟩ := hdat_shows pl9 ly9 de9 (by omega)
    refine ⟨_, rfl, l, .list ds, rfl, .lst (SqL.of hl9) dps9, sh1, sh2, sh3, sh4, ?_⟩
    refine ⟨_, rfl, _, rfl, g, D, gd, rs, ts0, rfl, hG8.mono S89, fit, S89 _ _ hD8, hr8.mono S89, sub, by omega, by omega, fun Du tsD H10 nDu s10 hDu10 rDu10 => ?_⟩
    refine ⟨by show 2 ≤ sizeLine; decide, fun t3 nt3 => ?_⟩
    obtain ⟨H11, s11, h11, e11⟩ := lay (o := .tup [.str (PyData.list ds).shown, .ref Du]) nt3
    rw [e11]
    refine ⟨t3, _, rfl, SqT.of h11, rfl, _, _, rfl, _, _, rfl, rfl, ?_⟩
    have s911 := s10.trans s11
    -- permits
    refine ⟨_, rfl, _, rfl, _, rfl, l, us.map V.ref, rfl, .inl ⟨SqL.of (s911 _ _ hl9), fun tt ntt => ?_⟩⟩
    obtain ⟨H12, s12, h12, e12⟩ := lay (o := .tup (us.map V.ref)) ntt
    rw [e12]
    refine ⟨by show 2 ≤ sizeLine; decide, fun L2 nL2 => ?_⟩
    obtain ⟨H13, s13, h13, e13⟩ := lay (o := .lst [.ref l, .ref tt]) nL2
    rw [e13]
    have s913 := (s911.trans s12).trans s13
    have P13 := P9.mono s913 (Nat.le_refl _)
    have L2p : L2 ≠ p := ((P9.mono (s911.trans s12) (Nat.le_refl _))).ne nL2
    have lpp : l ≠ p := ne_pool P9 hl9 (fun x y z e => by
      have := HO.lst.inj e
      cases us with
      | nil => cases this
      | cons b r => cases (List.cons.inj this).1)
    refine ⟨_, rfl, p, 2, _, rfl, by decide, by decide, by decide, P13, fun k2 H14 hk2 B14 P14 => ?_⟩
    have h13' := bt_at B14 (ni1 L2p) h13
    have V914 : Same (hid [p] H9) (hid [p] H14) := (hid_same s913).trans B14
    have hl14 : H14 l = some (.lst (us.map V.ref)) := bt_at B14 (ni1 lpp) (s913 _ _ hl9)
    have ttp : tt ≠ p := ne_pool (P9.mono (s911.trans s12) (Nat.le_refl _)) h12 (fun _ _ _ z => nomatch z)
    have htt14 : H14 tt = some (.tup (us.map V.ref)) := bt_at B14 (ni1 ttp) (s13 _ _ h12)
    obtain ⟨Rw, hRi, hRw⟩ : ∃ Rw, ([.ref l, .ref tt] : List V)[k2]? = some (.ref Rw) ∧ SqA K H14 Rw (us.map V.ref) := by
      have hk : k2 = 0 ∨ k2 = 1 := by omega
      rcases hk with rfl | rfl
      · exact ⟨l, rfl, .inl (SqL.of hl14)⟩
      · exact ⟨tt, rfl, .inr (SqT.of htt14)⟩
    refine ⟨L2, _, (k2 : Int), _, rfl, rfl, SqL.of h13', atI_nat (j := k2) hRi, fun x dx nx ndx ne => ?_⟩
    have hR14 : IsGr3 C (hid [p] H14) G gd := (hR8.mono B9).mono V914
    have hp14 : Paired (HItem (hid [p] H14) N) rs' us := Paired.mapP hp9 fun _ _ z => z.mono V914
    have hT14 : TabS H14 PT qqIO := by
      have pb : ∀ {J J' : Hp} {n : Nat}, PoolIs J p n → Bt [p] J J' → TabS J PT qqIO → TabS J' PT qqIO := fun P B T => tabB (ps := [p]) (fun z hz => by
        obtain ⟨x, y, w, e, _⟩ := P
        rw [List.mem_singleton.mp hz]
        exact ⟨_, e, (fun _ z => nomatch z), (fun _ z => by unfold CodeO at z; cases z)⟩) B T
      have T2 := tabS s2 hT1
      have T3 := pb P2 B3 T2
      have T4 := pb P3 B4 T3
      have T6 := tabS (s5.trans s6) T4
      have T7 := pb P6 B7 T6
      have T8 := tabS s8 T7
      have T9 := pb P8 B9 T8
      exact pb P13 B14 (tabS s913 T9)
    refine pr_make (rs := rs') (ts := us) nx ndx ne (hR14.mono (hid_low _ _)) fit hRw (by omega) (by
      have := Paired.mapP hp14 (fun _ _ z => z.mono (hid_low [p] H14))
      refine hrow_of fit this sub') hT14 fun H15 S15 T15 iP15 => ?_
    have hdue : gd.pset rs' = gd.clo rs := (clo_pset sub fun r => (same9 r).symm).symm
    rw [hdue] at iP15
    have subD : ∀ r ∈ gd.clo rs, r ∈ gd.perms := fun r hr => (List.mem_filter.mp hr).1
    have ndD : (gd.clo rs).Nodup := fit.pnd.filter _
    have idem : gd.pset (gd.clo rs) = gd.clo rs := by rw [← hdue]; exact pset_idem rs' sub' fit
    generalize gd.clo rs = due at iP15 subD ndD idem rDu10 hdue
    -- repr again
    have V915 : Same (hidT (hid [p] H9)) (hidT H15) := ((sameT V914).trans (sameT (hid_low _ _))).trans S15
    have hl15 : H15 l = some (.lst (us.map V.ref)) := lst_step V915 (hid_to (ni1 lpp) hl9)
    have hp15 : Paired (HItem H15 N) rs' us := Paired.mapP hp9 fun _ _ z => by
      obtain ⟨r', q1, q2⟩ := z
      exact ⟨r', q1, q2.imp (fun h => ⟨h.1, lst_step V915 h.2⟩) fun h => (hidT_in (V915 _ _ (hidT_to (o := .tup (sts r')) h (fun _ z => nomatch z)))).1⟩
    have dps15 : DpAll K H15 (us.map V.ref) ds := by
      exact dps_mono (hidT_low _) (dps_mono V915 (dps_T ds _ dpsV))
    refine ⟨_, rfl, l, .list ds, rfl, .lst (SqL.of hl15) dps15, sh1, sh2, sh3, sh4, _, rfl, rfl, _, rfl, ?_⟩
    rw [show (!decide (V.str (PyData.list ds).shown = V.str (PyData.list ds).shown)) = false from by rw [decide_eq_true rfl]; rfl]
    refine iteF ?_
    -- the lists are changed behind
    classical
    generalize hNL : us.filter (fun u => decide (∃ ys, H15 u = some (.lst ys))) = NL
    have lstN : ∀ u ∈ NL, u ∈ us ∧ ∃ ys, H15 u = some (.lst ys) := fun u hu => by
      rw [← hNL] at hu
      obtain ⟨h1, h2⟩ := List.mem_filter.mp hu
      exact ⟨h1, of_decide_eq_true h2⟩
    have itN : ∀ (i : Nat) (u : Addr), us[i]? = some u → (u ∈ NL ∧ u ∈ N ∧ ∃ r' : PRow, H15 u = some (.lst (sts r')) ∧ r'.length ≤ 3) ∨ (u ∉ NL ∧ ∃ r' : PRow, H15 u = some (.tup (sts r'))) := fun i u hu => by
      have il : i < rs'.length := by rw [lus]; exact (List.getElem?_eq_some_iff.mp hu).1
      have hri : rs'[i]? = some rs'[i] := List.getElem?_eq_getElem il
      have rm := List.mem_of_getElem? hri
      generalize rs'[i] = r at hri rm
      obtain ⟨u', hu', r', sw, h⟩ := paired_at' hp15 hri
      obtain rfl : u' = u := by rw [hu] at hu'; exact (Option.some.inj hu').symm
      rcases h with ⟨m, h⟩ | h
      · refine .inl ⟨?_, m, r', h, (swr_mem fit (sub' r rm) sw).2.1⟩
        rw [← hNL]
        exact List.mem_filter.mpr ⟨List.mem_of_getElem? hu, decide_eq_true ⟨_, h⟩⟩
      · refine .inr ⟨fun z => ?_, r', h⟩
        obtain ⟨_, ys, e⟩ := lstN _ z
        rw [h] at e
        cases e
    have inN : ∀ u ∈ NL, u ∈ N ∧ ∃ r' : PRow, H15 u = some (.lst (sts r')) ∧ r'.length ≤ 3 := fun u hu => by
      obtain ⟨i, hi⟩ := List.getElem?_of_mem (lstN u hu).1
      rcases itN i u hi with ⟨_, h1, h2⟩ | ⟨h1, _⟩
      · exact ⟨h1, h2⟩
      · exact absurd hu h1
    have lNL : l ∉ NL := fun z => (nN l (inN l z).1).2 rfl
    refine ⟨_, rfl, l, us.map V.ref, true, NL, rfl, SqL.of (hid_to lNL hl15), fun J WJ => ?_⟩
    refine for_it WJ (fun i σ H' => ∃ o7, σ = [some (.ref a), some (.int ((0 : Int) + (i0 : Nat))), some (.ref p), some (.ref g), some (.int (1 + (k : Int))), some (.ref G), some (.ref D), o7, some (.ref l), some (.str (PyData.list ds).shown), some (.ref Du), some (.ref x), o12, o13, none] ∧ Bt NL H15 H' ∧ TabS H' PT qqIO ∧ ∀ u ∈ NL, ∃ ys, H' u = some (.lst ys) ∧ ys.length ≤ 3 + i)
      ⟨o7, rfl, Same.refl _, T15, fun u hu => by obtain ⟨_, r', h, hl⟩ := inN u hu; exact ⟨_, h, by rw [sts_len]; omega⟩⟩ (fun i σ H' _ ⟨_, _, B, _⟩ => SqL.of (B _ _ (hid_to lNL hl15))) ?_ ?_
    · rintro i y σ H16' H16 hi ⟨o7', rfl, B16, T16, bg⟩ ⟨rfl, hy⟩
      have hy : (us.map V.ref)[i]? = some y := hy
      rw [List.getElem?_map] at hy
      obtain ⟨u, hu, rfl⟩ := Option.map_eq_some_iff.mp hy
      have il : i < us.length := (List.getElem?_eq_some_iff.mp hu).1
      rcases itN i u hu with ⟨hm, _, r', h, _⟩ | ⟨hm, r', h⟩
      · obtain ⟨ys, hys, lys⟩ := bg u hm
        refine ⟨_, rfl, .ref u, .ty "list", .type "list", .type "list", true, rfl, .ty "list", .base (.lst hys), kit_ty (by decide +kernel), true, rfl, ?_⟩
        refine iteT ?_
        refine ⟨_, rfl, .inl ⟨rfl, _, SqL.of hys⟩, u, _, _, rfl, rfl, hys, by rw [sizeLine_eq]; omega, ?_⟩
        refine ⟨_, rfl, B16.trans (bt_upd hm), tabB (ps := [u]) (fun z hz => by
          rw [List.mem_singleton.mp hz]
          exact ⟨_, hys, (fun _ z => nomatch z), (fun _ z => by unfold CodeO at z; cases z)⟩) (bt_upd (by simp)) T16, fun n hn => ?_⟩
        by_cases c : n = u
        · rw [c, upd_same]
          exact ⟨_, rfl, by rw [List.length_append, List.length_singleton]; omega⟩
        · rw [upd_ne c]
          obtain ⟨zs, e, le⟩ := bg n hn
          exact ⟨zs, e, by omega⟩
      · have hu16 : H16 u = some (.tup (sts r')) := bt_at B16 hm h
        refine ⟨_, rfl, .ref u, .ty "list", .type "tuple", .type "list", false, rfl, .ty "list", .base (.tup hu16), kit_ty (by decide +kernel), false, rfl, ?_⟩
        refine iteF ?_
        exact ⟨_, rfl, B16, T16, fun n hn => let ⟨zs, e, le⟩ := bg n hn; ⟨zs, e, by omega⟩⟩
    rintro σ H16 ⟨o7', rfl, B16, T16, _⟩
    have hl16 := bt_at B16 lNL hl15
    refine ⟨_, rfl, .inl ⟨rfl, _, SqL.of hl16⟩, l, _, _, rfl, rfl, hl16, by rw [List.length_map, sizeLine_eq]; omega, ?_⟩
    have B17 : Bt (l :: NL) H15 (upd H16 l (.lst (us.map V.ref ++ [.str "late"]))) := (bt_weak (fun z hz => List.mem_cons_of_mem _ hz) B16).trans (bt_upd (by simp))
    have T17 : TabS (upd H16 l (.lst (us.map V.ref ++ [.str "late"]))) PT qqIO := tabB (ps := [l]) (fun z hz => by
      rw [List.mem_singleton.mp hz]
      exact ⟨_, hl16, (fun _ z => nomatch z), (fun _ z => by unfold CodeO at z; cases z)⟩) (bt_upd (by simp)) T16
    have e17 : upd H16 l (.lst (us.map V.ref ++ [V.str ("late" : Str)])) = upd H16 l (.lst (us.map V.ref ++ [.str "late"])) := rfl
    rw [e17]
    generalize upd H16 l (.lst (us.map V.ref ++ [.str "late"])) = H17 at B17 T17
    have nNN : ∀ b ∈ l :: NL, H8 b = none ∧ H9 b ≠ none ∧ ∃ ys, H15 b = some (.lst ys) := fun b hb => by
      rcases List.mem_cons.mp hb with rfl | hb
      · exact ⟨nl9, (by rw [hl9]; exact fun z => nomatch z), _, hl15⟩
      · obtain ⟨h1, r', h2, _⟩ := inN b hb
        obtain ⟨h3, _⟩ := nN b h1
        refine ⟨h3, fun z => ?_, _, h2⟩
        obtain ⟨i, hi⟩ := List.getElem?_of_mem (lstN b hb).1
        have il : i < rs'.length := by rw [lus]; exact (List.getElem?_eq_some_iff.mp hi).1
        obtain ⟨u', hu', r2, sw, h⟩ := paired_at' hp9' (List.getElem?_eq_getElem il)
        obtain rfl : u' = b := by rw [hi] at hu'; exact (Option.some.inj hu').symm
        rcases h with ⟨_, h⟩ | h <;> rw [z] at h <;> cases h
    -- what stands still
    have V817 : Same (hidT (hid [p] H8)) (hidT H17) := fun b o e => by
      have e15 := V915 _ _ ((sameT B9) _ _ e)
      obtain ⟨e1, n1⟩ := hidT_in e15
      have hb : b ∉ l :: NL := fun m => by
        have := (hid_in (hidT_in e).1).1
        rw [(nNN b m).1] at this
        cases this
      exact hidT_to (bt_at B17 hb e1) n1
    have hS17 : SqL K H17 a (ns.map V.int) := pm_step V817 hS8
    have hR17 : IsGr3 C H17 G gd := gr3_step V817 hR8
    have hG17 : IsG H17 g gd := isG_step V817 hG8
    have DuNN : Du ∉ l :: NL := fun m => (nNN Du m).2.1 nDu
    have Dup : Du ≠ p := P9.ne nDu
    have V1015 : Same (hidT (hid [p] H10)) (hidT H15) := ((sameT ((hid_same ((s11.trans s12).trans s13)).trans B14)).trans (sameT (hid_low _ _))).trans S15
    have P10 := P9.mono s10 (Nat.le_refl _)
    have rDu15 : RowsAt H15 due tsD := Paired.mapP rDu10 fun row t rt => by
      have rt : H10 t = some (.tup (sts row)) := rt
      have tp : t ≠ p := ne_pool P10 rt (fun _ _ _ z => nomatch z)
      exact (hidT_in (V1015 _ _ (hidT_to (o := .tup (sts row)) (hid_to (ni1 tp) rt) (fun _ z => nomatch z)))).1
    have hDu17 : H17 Du = some (.lst (tsD.map V.ref)) := bt_at B17 DuNN (lst_step V1015 (hid_to (ni1 Dup) hDu10))
    have rDu17 : RowsAt H17 due tsD := Paired.mapP rDu15 fun row t rt => by
      have rt : H15 t = some (.tup (sts row)) := rt
      refine bt_at B17 (fun m => ?_) rt
      obtain ⟨_, _, ys, e⟩ := nNN t m
      rw [rt] at e
      cases e
    have iP17 : IsP CP H17 x G due := by
      obtain ⟨dx', fs, d, q1, q2, q3, q4⟩ := iP15.ex
      have no : ∀ {b : Addr} {o : HO}, H15 b = some o → (∀ ys, o ≠ .lst ys) → H17 b = some o := fun {b o} e n => bt_at B17 (fun m => by
        obtain ⟨_, _, ys, e2⟩ := nNN b m
        rw [e] at e2
        exact n ys (Option.some.inj e2)) e
      exact ⟨dx', fs, d, no q1 (fun _ z => nomatch z), q2, ⟨q3.1, no q3.2 (fun _ z => nomatch z)⟩, q4⟩
    clear V817 V1015 V915 V914 B17 DuNN nNN inN itN lstN hNL lNL hp15 hp14 hp9 hp9' dps15 dpsV dps9 rDu15 rDu10 hDu10 iP15 hR14 hT14 T15 T16 S15 S35 S36 S38 S68 S89 S13 s913 s911
    clear hl16 hl15 hl14 hl9 htt14 h13' h12 h13 h11 h8 h5 hD8 hr8 hr7 hD7 hR8 hR6' hR6 hG8 hG5 hG3 hS8 hS3 hS1 hT1 B16 B14 B9 B7 B4 B3 hRw hRi P14 P13 P9 P8 P7 P6 P5 P4 P3 P2
    obtain ⟨dx', fs, d, p1, p2, p3, p4, p5⟩ := iP17.ex
    refine ⟨_, rfl, x, dx', fs, rfl, p1, p4 _ (by simp), x, G, due, rfl, iP17, fun l2 ts2 H18 nl2 s18 hl2 rl2 => ⟨.inl ⟨rfl, _, SqL.of hl2⟩, l2, _, _, rfl, rfl, hl2, ?_, ?_⟩⟩
    · have := nodup_leR ndD subD
      have := Paired.length rl2
      rw [List.length_map, sizeLine_eq]
      omega
    obtain ⟨H19, s19, e19⟩ : ∃ H19, Same H17 H19 ∧ upd H18 l2 (.lst (ts2.map V.ref ++ [.str ("more" : Str)])) = H19 := ⟨_, fun b o e => by rw [upd_ne (ne_of_none e nl2)]; exact s18 _ _ e, rfl⟩
    rw [e19]
    have ldue : due.length ≤ 60 := Nat.le_trans (nodup_leR ndD subD) lp
    refine ⟨_, rfl, _, rfl, _, rfl, x, g, Du, G, gd, due, tsD, rfl, iP17.mono s19, hR17.mono s19, hG17.mono s19, fit, nn, s19 _ _ hDu17, rDu17.mono s19, ndD, subD, by omega, fun H20 s20 => ⟨_, rfl, ?_⟩⟩
    refine iteF ?_
    have S20 := s19.trans s20
    -- equal to the same
    refine ⟨_, rfl, _, rfl, g, gd, rfl, hG17.mono S20, fit, fun G2 H21 nG2 s21 hR2 => ⟨_, rfl, fun x2 dx2 nx2 ndx2 ne2 => ?_⟩⟩
    have S21 := S20.trans s21
    have hself : ∀ {J : Hp} {g2 : GD}, RowsAt J due tsD → (∀ r ∈ due, r ∈ g2.perms) → Paired (HRow J g2.perms) due tsD := fun h sb => hrow_self h fun r hr => ⟨sb r hr, by have := perm_len3 (subD r hr); omega⟩
    refine pr_make (rs := due) (ts := tsD) nx2 ndx2 ne2 hR2 fit (.inl (SqL.of (S21 _ _ hDu17))) (by omega) (hself (rDu17.mono S21) subD) (tabS S21 T17) fun H22 S22 T22 iP2 => ?_
    have V22 : Same (hidT H17) (hidT H22) := (sameT S21).trans S22
    have hP22 := isP_step V22 iP17
    have hR22 := gr3_step V22 hR17
    have hG22 := isG_step V22 hG17
    have hDu22 := lst_step V22 hDu17
    have rDu22 := rows_step V22 rDu17
    have hS22 := pm_step V22 hS17
    obtain ⟨dxa, fsa, da, a1, _⟩ := hP22.ex
    obtain ⟨dxb, fsb, db, b1, _⟩ := iP2.ex
    refine ⟨x, dxa, fsa, rfl, a1, ⟨.ref CP, ck.ty H22 x2 dxb fsb b1, by unfold PySem.W.notFirst; simp⟩, x, G, .ref x2, gd, due, rfl, hP22, hR22, fit, .inl ⟨x2, G2, gd, gd.pset due, rfl, iP2, gr3_step S22 hR2, fit, fun _ => rfl, _, rfl, _, rfl, ?_⟩⟩
    rw [idem, eqG_self, eqRows_self]
    refine iteF ?_
    clear iP2 S22 nx2 ndx2 ne2 hR2 nG2 s21 S21 V22 a1 b1 s20 S20 s19 hS17 hR17 hG17 hDu17 rDu17 iP17 T17 p1 p2 p3 p4 p5 e17 e19 hself
    -- others
    refine ⟨g, G, Du, gd, due, tsD, rfl, rfl, rfl, by show 7 < 15; decide, hG22, fit, lp, hR22, hDu22, rDu22, ndD, subD, T22, fun O xs H23 nO S23 T23 hO hxs lxs => ?_⟩
    obtain ⟨aL, aF, aC, aT, g1, g2, g3, g4, g5⟩ := hG22.ex
    obtain ⟨tsF, g5, g6⟩ := g5
    have v1 : valV [(.inr "letters", .ref aL), (.inr "fixed", .ref aF), (.inr "commuting", .ref aC), (.inr "facts", .ref aT)] (.inr "letters" : Key) = some (.ref aL) := by rfl
    have v2 : valV [(.inr "letters", .ref aL), (.inr "fixed", .ref aF), (.inr "commuting", .ref aC), (.inr "facts", .ref aT)] (.inr "fixed" : Key) = some (.ref aF) := by rfl
    have v3 : valV [(.inr "letters", .ref aL), (.inr "fixed", .ref aF), (.inr "commuting", .ref aC), (.inr "facts", .ref aT)] (.inr "commuting" : Key) = some (.ref aC) := by rfl
    have v4 : valV [(.inr "letters", .ref aL), (.inr "fixed", .ref aF), (.inr "commuting", .ref aC), (.inr "facts", .ref aT)] (.inr "facts" : Key) = some (.ref aT) := by rfl
    have no : ∀ {J : Hp} {b : Addr} {o : HO}, Same (hidT H22) (hidT J) → H22 b = some o → (∀ ps, o ≠ .tbl ps) → J b = some o := fun S e n => (hidT_in (S _ _ (hidT_to e n))).1
    refine ⟨_, rfl, g, .ref aL, rfl, (by rw [← v1]; exact DGet.k (k := .inr "letters") (no S23 g1 (fun _ z => nomatch z))), aL, _, rfl, .inl (no S23 g2 (fun _ z => nomatch z)), fun mL nmL => ?_⟩
    obtain ⟨H24, s24, h24, e24⟩ := lay (o := .dK (lkv gd.letters)) nmL
    rw [e24]
    refine ⟨_, rfl, mL, _, rfl, DPut.k (k := .inr "zz") h24 (by unfold lkv; rw [List.length_map, sizeLine_eq]; omega), ?_⟩
    have ep : putK (lkv gd.letters) (.inr "zz" : Key) (V.int 0) = lkv (moreL gd) := by
      rw [putK_new _ (valV_no own.z)]
      unfold lkv moreL
      rw [List.map_append]
      rfl
    rw [ep]
    obtain ⟨H25, s25, h25, e25⟩ : ∃ H25, Same H23 H25 ∧ H25 mL = some (.dK (lkv (moreL gd))) ∧ upd H24 mL (.dK (lkv (moreL gd))) = H25 := ⟨_, fun b o e => by rw [upd_ne (ne_of_none e nmL)]; exact s24 _ _ e, upd_same, rfl⟩
    rw [e25]
    have V25 : Same (hidT H22) (hidT H25) := S23.trans (sameT s25)
    have hO25 := s25 _ _ hO
    have dg : ∀ {key : Str} {b : Addr}, valV [(.inr "letters", .ref aL), (.inr "fixed", .ref aF), (.inr "commuting", .ref aC), (.inr "facts", .ref aT)] (.inr key : Key) = some (.ref b) → DGet H25 g (.str key) (some (.ref b)) := fun v => by rw [← v]; exact DGet.k (k := .inr _) (no V25 g1 (fun _ z => nomatch z))
    refine ⟨_, rfl, .inl ⟨rfl, _, SqL.of hO25⟩, _, rfl, _, rfl, g, .ref aF, rfl, dg v2, _, rfl, g, .ref aC, rfl, dg v3, _, rfl, g, .ref aT, rfl, dg v4, fun G3 dx3 nx3 ndx3 ne3 => ?_⟩
    have fitM : (⟨moreL gd, gd.fixed, gd.comm, gd.facts⟩ : GD).Fit := (oth1 own (by omega)).fit
    have othM := oth1 own (by omega)
    have facM : ∃ ts : List Addr, SqA K H25 aT (ts.map V.ref) ∧ Paired (FactA H25) gd.facts ts := ⟨tsF, .inl (SqL.of (no V25 g5 (fun _ z => nomatch z))), Paired.mapP g6 fun f t hf => (((fact_T hf).mono V25).mono (hidT_low _)).any⟩
    refine gr_make2 (g := ⟨moreL gd, gd.fixed, gd.comm, gd.facts⟩) nx3 ndx3 ne3 h25 (.inl (SqL.of (no V25 g3 (fun _ z => nomatch z)))) (.inl (SqL.of (no V25 g4 (fun _ z => nomatch z)))) facM fitM fun H26 s26 i3 pl3 => ?_
    have gr3 : IsGr2 C (hid [O] H26) G3 ⟨moreL gd, gd.fixed, gd.comm, gd.facts⟩ := i3 [O] fun n hn => by
      rw [List.mem_singleton.mp hn, hO25]
      exact ⟨fun z => (nomatch z), fun ts z => (nomatch z)⟩
    have hO26 := s26 _ _ hO25
    have hR3 : IsGr3 C (hid [O] H26) G3 ⟨moreL gd, gd.fixed, gd.comm, gd.facts⟩ := by
      obtain ⟨dxp, fsp, dp, q1, q2, q3⟩ := pl3.ex
      exact ⟨gr3, ⟨dxp, fsp, dp, hid_to (ni1 (ne_of q1 hO26 (fun z => nomatch z))) q1, q2, hid_to (ni1 (ne_of q3 hO26 (fun z => nomatch z))) q3⟩⟩
    refine ⟨_, rfl, fun x3 dx3' nx3' ndx3' ne3' => ?_⟩
    have V26 : Same (hidT H22) (hidT H26) := V25.trans (sameT s26)
    have rDu26 := rows_step V26 rDu22
    refine pr_make (g := ⟨moreL gd, gd.fixed, gd.comm, gd.facts⟩) (rs := due) (ts := tsD) nx3' ndx3' ne3' (hR3.mono (hid_low _ _)) fitM (.inl (SqL.of (lst_step V26 hDu22))) (by omega) (hrow_self rDu26 fun r hr => ⟨perms_more own (subD r hr), by have := perm_len3 (subD r hr); omega⟩) (tabS (s25.trans s26) T23) fun H27 S27 T27 iP3 => ?_
    have hO27 := lst_step S27 hO26
    refine ⟨O, _, _, rfl, rfl, hO27, by rw [List.length_map, sizeLine_eq]; omega, ?_⟩
    have V27 : Same (hidT H22) (hidT H27) := V26.trans S27
    have V28 : Same (hidT H22) (hidT (upd H27 O (.lst (xs.map V.ref ++ [.ref x3])))) := fun b o e => by
      obtain ⟨e6, n⟩ := hidT_in (V27 _ _ e)
      exact hidT_to (by rw [upd_ne (fun z => by rw [z, none_T nO] at e; cases e)]; exact e6) n
    have W28 : Same (hidT (hid [O] H27)) (hidT (hid [O] (upd H27 O (.lst (xs.map V.ref ++ [.ref x3]))))) := sameT (bt_upd (by simp))
    have W2328 : Same (hidT (hid [O] H23)) (hidT (hid [O] (upd H27 O (.lst (xs.map V.ref ++ [.ref x3]))))) := ((sameT (hid_same (s25.trans s26))).trans (vwx S27)).trans W28
    have W2628 : Same (hidT (hid [O] H26)) (hidT (hid [O] (upd H27 O (.lst (xs.map V.ref ++ [.ref x3]))))) := (vwx S27).trans W28
    have T28 : TabS (upd H27 O (.lst (xs.map V.ref ++ [.ref x3]))) PT qqIO := tabB (ps := [O]) (fun z hz => by
      rw [List.mem_singleton.mp hz]
      exact ⟨_, hO27, (fun _ z => nomatch z), (fun _ z => by unfold CodeO at z; cases z)⟩) (bt_upd (by simp)) T27
    have hO28 : (upd H27 O (.lst (xs.map V.ref ++ [.ref x3]))) O = some (.lst (xs.map V.ref ++ [.ref x3])) := upd_same
    have iP3' : IsP CP (hid [O] H27) x3 G3 (GD.pset ⟨moreL gd, gd.fixed, gd.comm, gd.facts⟩ due) := by
      obtain ⟨dx', fs, d, k1, k2, k3, k4⟩ := iP3.ex
      exact ⟨dx', fs, d, hid_to (ni1 (ne_of k1 hO27 (fun z => nomatch z))) k1, k2, ⟨k3.1, hid_to (ni1 (ne_of k3.2 hO27 (fun z => nomatch z))) k3.2⟩, k4⟩
    generalize upd H27 O (.lst (xs.map V.ref ++ [.ref x3])) = H28 at V28 W28 W2328 W2628 T28 hO28
    have hR28 := gr3_step V28 hR22
    have hP28 := isP_step V28 hP22
    have hDu28 := lst_step V28 hDu22
    have rDu28 := rows_step V28 rDu22
    have hG28 := isG_step V28 hG22
    have hS28 := pm_step V28 hS22
    have neq : ∀ y ∈ xs.map V.ref ++ [V.ref x3], NeqP K C CP gd due H28 y := fun y hy => by
      rcases List.mem_append.mp hy with m | m
      · obtain ⟨z, hz, rfl⟩ := List.mem_map.mp m
        obtain ⟨rows2, i2, e2⟩ := hxs z hz
        exact .inl ⟨z, G, gd, rows2, rfl, (isP_step W2328 i2).mono (hid_low _ _), hR28, fit, fun _ => rfl, by rw [e2, Bool.and_false]⟩
      · rw [List.mem_singleton.mp m]
        exact .inl ⟨x3, G3, _, _, rfl, (isP_step W28 iP3').mono (hid_low _ _), (gr3_step W2628 hR3).mono (hid_low _ _), fitM, othM.cond, by rw [othM.ne, Bool.false_and]⟩
    clear W28 W2328 W2628 V28 V27 V26 V25 S27 T27 iP3 iP3' hO27 hO26 hO25 s26 s25 s24 h24 h25 hR3 gr3 pl3 i3 hxs T23 S23 hR22 hP22 hDu22 rDu22 hG22 hS22 T22 rDu26 facM no dg g1 g2 g3 g4 g5 g6
    refine ⟨O, Du, G, x, gd, due, _, _, rfl, rfl, rfl, rfl, by show 14 < 15; decide, hO28, by rw [List.length_append, List.length_map, List.length_singleton]; omega, neq, hDu28, hR28, fit, hP28, fun H29 s29 => ⟨_, rfl, ?_⟩⟩
    refine iteF ?_
    have okD : ∀ r ∈ due, OkRow r := fun r hr => okr_perm fit (subD r hr)
    -- all of a ground
    refine ⟨rfl, _, rfl, G, gd, rfl, hR28.mono s29, fit, by omega, tabS s29 T28, fun xf H30 nxf S30 T30 iPf => ?_⟩
    obtain ⟨dxf, fsf, df, f1, f2, f3, f4, f5⟩ := iPf.ex
    refine ⟨xf, dxf, fsf, rfl, f1, f4 _ (by simp), xf, G, gd.perms, rfl, iPf, fun lf tsf H31 nlf s31 hlf rlf => ?_⟩
    have V31 : Same (hidT H28) (hidT H31) := ((sameT s29).trans S30).trans (sameT s31)
    have okP : ∀ r ∈ gd.perms, OkRow r := fun r hr => okr_perm fit hr
    refine ⟨_, rfl, g, gd, rfl, isG_step V31 hG28, fit, fun le tse H32 nle s32 hle rle => ⟨.list (rowDs gd.perms), .list (rowDs gd.perms), .lst (SqL.of (s32 _ _ hlf)) (dp_rows (rlf.mono s32)), .lst (SqL.of hle) (dp_rows rle), shp_rows okP, shp_rows okP, _, rfl, ?_⟩⟩
    rw [eqv_self _ (pl_rows _)]
    refine iteF ?_
    have V32 : Same (hidT H28) (hidT H32) := V31.trans (sameT s32)
    -- none but those that all have
    refine ⟨_, rfl, fun x4 dx4 nx4 ndx4 ne4 => ?_⟩
    refine pr_make (g := gd) (rs := []) (ts := []) nx4 ndx4 ne4 (gr3_step V32 hR28) fit (.inr (zP _)) (by decide) .nil (tabS (s31.trans s32) T30) fun H33 S33 T33 iP4 => ?_
    obtain ⟨dxg, fsg, dg', k1, k2, k3, k4, k5⟩ := iP4.ex
    have V33 : Same (hidT H28) (hidT H33) := V32.trans S33
    refine ⟨x4, dxg, fsg, rfl, k1, k4 _ (by simp), x4, G, gd.pset [], rfl, iP4, fun lg tsg H34 nlg s34 hlg rlg => ?_⟩
    refine ⟨_, rfl, by show 0 ≤ sizeLine; decide, fun ee nee => ?_⟩
    obtain ⟨H35, s35, h35, e35⟩ := lay (o := .lst []) nee
    rw [e35]
    have V35 : Same (hidT H28) (hidT H35) := V33.trans (sameT (s34.trans s35))
    have okN : ∀ r ∈ gd.pset [], OkRow r := fun r hr => okr_perm fit (pset_sub r hr)
    refine ⟨g, ee, gd, [], [], rfl, isG_step V35 hG28, fit, h35, .nil, (fun _ h => nomatch h), by decide, by omega, fun lc tsc H36 nlc s36 hlc rlc => ?_⟩
    rw [clo_pset (g := gd) (rs := []) (qs := []) (fun _ h => nomatch h) (fun _ => Iff.rfl)] at rlc
    refine ⟨.list (rowDs (gd.pset [])), .list (rowDs (gd.pset [])), .lst (SqL.of ((s35.trans s36) _ _ hlg)) (dp_rows (rlg.mono (s35.trans s36))), .lst (SqL.of hlc) (dp_rows rlc), shp_rows okN, shp_rows okN, _, rfl, ?_⟩
    rw [eqv_self _ (pl_rows _)]
    refine iteF ?_
    exact ⟨_, _, _, _, _, _, _, _, _, _, _, _, _, rfl, pm_step (V35.trans (sameT s36)) hS28, tabS ((s34.trans s35).trans s36) T33⟩
end
end K7
set_option Elab.async false
set_option linter.all false
set_option maxRecDepth 100000
set_option maxHeartbeats 8000000
/-! The end of a law whose own body asks repr: at the outer call it is known that no repr is under way. -/
namespace EndG
open PySem PySem.Spec PyProof.Rows L2 LamX
/-- a call of a def in one surrounding -/
theorem fn_at {CT : CXT} {P : Program} {w : World} {K : PySem.W.Frag} {mg : Str → Option Value} {base : Heap} {k : Nat} {f : Addr} {nm ql : Str} {par : Arguments} {body : List Stmt} {sc : Scope} {dV kV doc pm cdv ct oc : Value} {an od : Option Addr} {osl : Array (Option Value)} {N ps : List Str}
    (lk : K.lookup f = some ⟨oc, od, .func (PySem.W.fnOf nm ql par body sc dV kV doc pm an cdv ct), osl⟩) (hcd : PySem.W.codeIn K cdv ql = true) (S : FnScope N ps sc) {A : Around} {outer : List Env} {s : Shared} {H : Hp} {args : Args} {us : List Value} {vs : List V} {Q : VK} {E : XK}
    (hr : Room (k + 1) A) (e0 : Env0 P w K mg base A outer s H) (hb : BindsTo s (PySem.W.fnOf nm ql par body sc dV kV doc pm an cdv ct) args (ps.zip us)) (r : Vals vs us) (hl : vs.length = ps.length)
    (hbody : ∃ t, PSs (cxOf CT P w K mg base N ql sc f cdv A outer s H E) body t ∧ t { nx := fun _ J => Q .non J, rt := Q } (L2.start N vs) H) :
    codeAny (model P w) A (.call (.ref f) args) (CR CT outer P w H s Q E) s := by
  have kIn : K.In s.heap := e0.mod.kin.keeps fun b o e => (e0.bs b o e).1
  have nolim : s.heap.NoLimit := e0.mod.nolimit.keeps fun b o e => (e0.bs b o e).1
  have kinds : ∀ y ∈ ps.zip us, sc.names.lookup y.1 = some .local ∨ (sc.names.lookup y.1 = some .cell ∧ ((cellsFrom (s.heap.objs.size + 1) sc.names []).lookup y.1).isSome = true) := by
    rintro ⟨n, v⟩ hy
    exact (S.par n (List.of_mem_zip hy).1).elim .inl fun q => .inr ⟨q, PySem.W.cellsFrom_some _ _ _ (.inl q)⟩
  refine codeAny_call_function hr.depth (kIn _ _ lk) rfl S.co S.gen rfl (PySem.W.codeRec_of kIn hcd) (hb _ _ _ _ (wpAny_newFunctionEnv_cells S.kind kinds fun env he t x => ?_))
  subst he
  refine ⟨nolim.keeps x.toInCall.keep, codeAny_func ?_⟩
  obtain ⟨tb, ht, hq⟩ := hbody
  have I : Inv (cxOf CT P w K mg base N ql sc f cdv A outer s H E) [] (L2.start N vs) H t := inv_start S hr.hd e0 hl r x
  refine wpAny_mono (ht.run [] t (L2.start N vs) H _ I hq) (fun fl t2 hs => ?_) fun e t2 hs => hs
  cases fl with
  | ret u => obtain ⟨v, τ, J, I2, rv, q⟩ := hs; exact ⟨v, J, I2.os, I2.bare, I2.base, I2.hok, rv, q⟩
  | next => obtain ⟨τ, J, I2, q⟩ := hs; exact ⟨V.non, J, I2.os, I2.bare, I2.base, I2.hok, rfl, q⟩
  | brk => exact hs.elim fun _ z => z.elim fun _ z => z.2.elim
  | cont => exact hs.elim fun _ z => z.elim fun _ z => z.2.elim
section
variable {P : Program} {w : World} {K : PySem.W.Frag} {mg mb : Str → Option Value} {fa a : Addr} {cs : List (Addr × Addr)} {t0 : Shared} {vs : List Value} {ns : List Int}
/-- the outer call, from what is promised of it alone -/
theorem call_top (KX : K.In t0.heap) (hns : t0.heap.Ns mainGlobals mg) (hb : t0.heap.Ns builtinsNs mb) (hbb : ∀ x : Str, x ≠ "__name__" → mb x = bootBuiltins x) (hlim : t0.heap.NoLimit) (hg : t0.gens = #[])
    (hT : ∀ p ∈ cs, t0.heap.get? p.2 = some { cls := .none, data := .fields #[] }) (nT : ∀ p ∈ cs, K.lookup p.2 = none) (hC : ∀ p ∈ cs, PySem.W.CodeHd t0.heap p.1 p.2)
    (hbm : ∃ (bm : Addr) (ob : Obj), mg "__builtins__" = some (.ref bm) ∧ bm ≠ builtinsNs ∧ t0.heap.get? bm = some ob ∧ ob.cls = .type "module" ∧ ob.dict = some builtinsNs ∧ ob.data = .plain)
    (ha : t0.heap.get? a = some { cls := .type "list", data := .seq vs.toArray }) (hi : IntsAre vs ns) (hl : ns.length ≤ sizeLine)
    (F : ∀ (base : Heap) (H : Hp), K.In base → base.Ns mainGlobals mg → (∀ p ∈ cs, TabB base mg p.1 p.2) → Env0 P w K mg base callerA [] t0 H → (∀ p ∈ cs, H p.2 = some (.tbl #[])) → SqL K H a (ns.map V.int) →
      codeAny (model P w) callerA (.call (.ref fa) ⟨[.ref a], []⟩) (CR CX0 [] P w H t0 (fun v _ => v = .bl true) fun _ _ _ => False) t0) :
    codeAny (model P w) callerA (.call (.ref fa) ⟨[.ref a], []⟩) (fun r t => r = .ok (.ret (.bool true)) ∧ OldK t0.heap t.heap ∧ t.os = t0.os ∧ AllBare t.gens) t0 := by
  have rv := vals_ints hi
  have lenV := hi.length
  have tabAt : ∀ b : Addr, b ∈ cs.map (·.2) → t0.heap.get? b = some { cls := .none, data := .fields #[] } := by
    intro b hb
    obtain ⟨p, hp, rfl⟩ := List.mem_map.mp hb
    exact hT p hp
  have aNo : a ∉ cs.map (·.2) := by
    intro z
    have q := ha.symm.trans (tabAt a z)
    have d : Data.seq vs.toArray _ = Data.fields #[] := congrArg Obj.data (Option.some.inj q)
    cases d
  have inT : ∀ p ∈ cs, p.2 ∈ cs.map (·.2) := fun p hp => List.mem_map.mpr ⟨p, hp, rfl⟩
  have core : ∀ H : Hp, (∀ p ∈ cs, H p.2 = some (.tbl #[])) → (∀ b, H b = none ∨ b ∈ cs.map (·.2) ∨ ∃ o xs, H b = some (.frz o (.lst xs))) → SqL K H a (ns.map V.int) → HOk P w H t0.heap → (∀ b, H b ≠ none → b = a ∨ b ∈ cs.map (·.2)) → (H a ≠ none → K.lookup a = none) →
      codeAny (model P w) callerA (.call (.ref fa) ⟨[.ref a], []⟩) (fun r t => r = .ok (.ret (.bool true)) ∧ OldK t0.heap t.heap ∧ t.os = t0.os ∧ AllBare t.gens) t0 := by
    intro H hH hO hS hok hA hK
    have low : ∀ {b : Addr} {o : Obj}, t0.heap.get? b = some o → H b = none → (hidT t0.heap H).get? b = some o := fun e n => hidT_get e n
    have free : ∀ {b : Addr} {o : Obj}, t0.heap.get? b = some o → (∀ us n, o.data ≠ .seq us n) → o.data ≠ .fields #[] → H b = none := by
      intro b o e h1 h2
      by_cases q : H b = none
      · exact q
      · rcases hA b q with z | z
        · rw [z, ha] at e
          cases e
          exact absurd rfl (h1 _ _)
        · rw [tabAt b z] at e
          cases e
          exact absurd rfl h2
    have lowNs : ∀ {b : Addr} {m : Str → Option Value}, t0.heap.Ns b m → (hidT t0.heap H).Ns b m := by
      rintro b m ⟨o, es, ep, e, d, r⟩
      exact ⟨o, es, ep, low e (free e (fun us n z => by rw [d] at z; cases z) fun z => by rw [d] at z; cases z), d, r⟩
    have hKb : K.In (hidT t0.heap H) := by
      intro b o e
      refine low (KX b o e) ?_
      by_cases q : H b = none
      · exact q
      · rcases hA b q with z | z
        · subst z
          rw [hK q] at e
          cases e
        · obtain ⟨p, hp, rfl⟩ := List.mem_map.mp z
          rw [nT p hp] at e
          cases e
    have hM : L2.Mod K mg (hidT t0.heap H) := ⟨hKb, lowNs hns, ⟨mb, lowNs hb, hbb⟩, let ⟨mc, h1, h2⟩ := hlim; ⟨mc, lowNs h1, h2⟩⟩
    have TB : ∀ p ∈ cs, TabB (hidT t0.heap H) mg p.1 p.2 := by
      intro p hp
      refine ⟨?_, ?_, ?_⟩
      · obtain ⟨o, us, file, tf, flags, tg, inF, text, tt, e1, r1, r2, r3, rest⟩ := hC p hp
        refine ⟨o, us, file, tf, flags, tg, inF, text, tt, low e1 (free e1 (fun us n z => by rw [r2] at z; cases z) fun z => ?_), r1, r2, r3, rest⟩
        rw [r2] at z
        cases z
        simp at r3
      · obtain ⟨bm, ob, b1, b2, b3, b4, b5, b6⟩ := hbm
        refine ⟨bm, ob, b1, b2, fun q => ?_, fun q => ?_, low b3 (free b3 (fun us n z => by rw [b6] at z; cases z) fun z => by rw [b6] at z; cases z), b4, b5, b6⟩
        · obtain ⟨o, es, ep, e, hd, _⟩ := hns
          rw [q, e] at b3
          cases b3
          rw [hd] at b6
          cases b6
        · rw [q, hT p hp] at b3
          cases b3
          cases b6
      · intro z
        obtain ⟨o, es, ep, e, hd, _⟩ := hns
        rw [z, hT p hp] at e
        cases e
        cases hd
    have e0 : Env0 P w K mg (hidT t0.heap H) callerA [] t0 H := ⟨rfl, hM, fun b o e => of_hidT e, Nat.le_of_eq (hidT_size _ _), trivial, fun b hb => absurd (show b ∈ ([] : List Addr) from hb) (by simp), hok, .of_eq hg⟩
    refine codeAny_mono (F _ H hKb (lowNs hns) TB e0 hH hS) fun r t h => ?_
    cases r with
    | error e => exact False.elim h
    | ok fl =>
      cases fl with
      | next => exact False.elim h
      | brk => exact False.elim h
      | cont => exact False.elim h
      | ret u =>
        obtain ⟨v, J, os, bare, un, hok2, rr, q⟩ := h
        have q2 : v = .bl true := q
        subst q2
        obtain rfl : u = Value.bool true := rr
        have stays : ∀ b o, b ∉ cs.map (·.2) → t0.heap.get? b = some o → t.heap.get? b = some o := by
          intro b o nb e
          by_cases hn : H b = none
          · exact un.keep b o e hn (by intro z; exact absurd (show b ∈ ([] : List Addr) from z) (by simp)) (by simp)
          · rcases hO b with z | z | ⟨ob, xs, z⟩
            · exact absurd z hn
            · exact absurd z nb
            · obtain ⟨e1, _⟩ := hok b _ z
              obtain ⟨e2, _⟩ := hok2 b _ (un.frzs b ob _ z)
              rw [e] at e1
              cases e1
              exact e2
        have grow : ∀ p ∈ cs, ∃ more : Array Value, t.heap.get? p.2 = some { cls := .none, data := .fields more } := by
          intro p hp
          obtain ⟨more, z⟩ := un.tbls p.2 #[] (hH p hp)
          exact ⟨_, hok2 p.2 _ z⟩
        refine ⟨rfl, ⟨fun b o e => ?_, fun b o e => ?_⟩, os, bare⟩
        · by_cases hbT : b ∈ cs.map (·.2)
          · obtain ⟨p, hp, rfl⟩ := List.mem_map.mp hbT
            obtain ⟨more, hm⟩ := grow p hp
            rw [hT p hp] at e
            cases e
            exact .inr (.inl ⟨((hC p hp).tab (hT p hp)).isCodeTable, rfl, #[], more, rfl, by rw [Array.empty_append]; exact hm⟩)
          · exact .inl (stays b o hbT e)
        · by_cases hbT : b ∈ cs.map (·.2)
          · obtain ⟨p, hp, rfl⟩ := List.mem_map.mp hbT
            obtain ⟨more, hm⟩ := grow p hp
            exact ⟨_, hm⟩
          · exact ⟨o, stays b o hbT e⟩
  cases hk : K.lookup a with
  | some o =>
    have e := (KX a o hk).symm.trans ha
    cases e
    refine core (fun b => if b ∈ cs.map (·.2) then some (.tbl #[]) else none) (fun p hp => if_pos (inT p hp)) (fun b => ?_) (.inr ⟨_, vs.toArray, _, hk, rfl, rfl, rfl, by rw [List.size_toArray, lenV]; exact hl, by simpa using rv⟩) (fun b u z => ?_) (fun b z => ?_) fun z => absurd (show (if a ∈ cs.map (·.2) then some (HO.tbl #[]) else none) = none from if_neg aNo) z
    · by_cases hbT : b ∈ cs.map (·.2)
      · exact .inr (.inl hbT)
      · exact .inl (if_neg hbT)
    · by_cases hbT : b ∈ cs.map (·.2)
      · cases (if_pos hbT).symm.trans z
        exact tabAt b hbT
      · cases (if_neg hbT).symm.trans z
    · by_cases hbT : b ∈ cs.map (·.2)
      · exact .inr hbT
      · exact absurd (if_neg hbT) z
  | none =>
    refine core (fun b => if b = a then some (.frz { cls := .type "list", data := .seq vs.toArray } (.lst (ns.map V.int))) else if b ∈ cs.map (·.2) then some (.tbl #[]) else none)
      (fun p hp => (if_neg (show ¬ p.2 = a from fun z => aNo (by rw [← z]; exact inT p hp))).trans (if_pos (inT p hp))) (fun b => ?_) (.inl (.inr ⟨{ cls := .type "list", data := .seq vs.toArray }, if_pos rfl⟩)) (fun b u z => ?_) (fun b z => ?_) fun _ => hk
    · by_cases h1 : b = a
      · exact .inr (.inr ⟨_, _, if_pos h1⟩)
      · by_cases hbT : b ∈ cs.map (·.2)
        · exact .inr (.inl hbT)
        · exact .inl ((if_neg h1).trans (if_neg hbT))
    · by_cases h1 : b = a
      · cases (if_pos h1).symm.trans z
        rw [h1]
        exact ⟨ha, by rw [List.length_map]; exact hl, vs, _, rv, ha⟩
      · have z1 := (if_neg h1).symm.trans z
        by_cases hbT : b ∈ cs.map (·.2)
        · cases (if_pos hbT).symm.trans z1
          exact tabAt b hbT
        · cases (if_neg hbT).symm.trans z1
    · by_cases h1 : b = a
      · exact .inl h1
      · by_cases hbT : b ∈ cs.map (·.2)
        · exact .inr hbT
        · exact absurd ((if_neg h1).trans (if_neg hbT)) z
end
/-- what is known of the law at the head's heap h: its body's promise, in the outer call's surrounding -/
def LawG (l : PySem.W.OpenLaw) (w : World) (K : PySem.W.Frag) (k n : Nat) (x : Str) (N : List Str) (mg : Str → Option Value) (fa : Addr) (h : Heap) : Prop :=
  ∃ (cs : List (Addr × Addr)) (nm ql : Str) (par : Arguments) (body : List Stmt) (sc : Scope) (dV kV doc pm cdv ct oc : Value) (an od : Option Addr) (osl : Array (Option Value)), K.lookup fa = some ⟨oc, od, .func (PySem.W.fnOf nm ql par body sc dV kV doc pm an cdv ct), osl⟩ ∧ PySem.W.codeIn K cdv ql = true ∧ FnScope N [x] sc ∧
    (∀ p ∈ cs, h.get? p.2 = some { cls := .none, data := .fields #[] }) ∧ (∀ p ∈ cs, K.lookup p.2 = none) ∧ (∀ p ∈ cs, PySem.W.CodeHd h p.1 p.2) ∧ (∀ (s : Shared) (u : Value), BindsTo s (PySem.W.fnOf nm ql par body sc dV kV doc pm an cdv ct) ⟨[u], []⟩ [(x, u)]) ∧
    ∀ (base : Heap) (t : Shared) (H : Hp) (a : Addr) (ns : List Int), K.In base → base.Ns mainGlobals mg → (∀ p ∈ cs, TabB base mg p.1 p.2) → ns.length ≤ n → (∀ p ∈ cs, H p.2 = some (.tbl #[])) → SqL K H a (ns.map V.int) → Room k (callerA.deeper (envOfC ql sc t.heap.objs.size fa cdv)) →
      ∃ tb, PSs (cxOf CX0 l.prog w K mg base N ql sc fa cdv callerA [] t H fun _ _ _ => False) body tb ∧ tb { nx := fun _ J => (V.non : V) = .bl true, rt := fun v _ => v = .bl true } (L2.start N [.ref a]) H
theorem walk_g {l : PySem.W.OpenLaw} {n k : Nat} {q : Program} {loose : List Str} {XP : (Str → Option Value) → Heap → Prop} {YP : World → Heap → Prop} {d : DefRec} {K : Params → PySem.W.Frag} {x : Str} {N : List Str}
    (hn : l.most = some n) (hn2 : n ≤ sizeLine) (hdf : d.params.defaults = []) (hr : Room (k + 1) callerA) (hrec : ((recsOf q).any fun e => e.name == d.name) = true) (hY : ∀ (w : World) (h : Heap), YP w h → (K w.params).In h)
    (F : ∀ (w : World) (mg : Str → Option Value) (fa : Addr) (h : Heap), (K w.params).In h → h.Ns mainGlobals mg → mg d.name = some (.ref fa) → OwnTab (K w.params) fa h → LawG l w (K w.params) k n x N mg fa h) :
    PySem.W.WalkO q loose XP YP l.row.toRowW d [] (fun f vs => PySem.call f vs) := by
  refine Att.attach_callB hn hdf fun w s₀ s₁ mg mb fa o pm cd doc a vs ns G Y ho hd hcd hmg hobj hints hlen hbits hg => ?_
  have KX := hY w _ Y
  have own : OwnTab (K w.params) fa s₁.heap := by
    intro c P o1 fd1 e dd vs1 sl k1 k2 k3 k4 k5
    obtain ⟨dL, hm, hn1⟩ := List.any_eq_true.mp hrec
    obtain ⟨a', o', fd', c', P', h1, h2, h3, h4, h5, ⟨oc, vc, e1, _, e3, e4⟩, hP⟩ := G.T.tab dL hm
    rw [show dL.name = d.name from beq_iff_eq.mp hn1, hmg] at h1
    cases h1
    cases (KX _ _ k1).symm.trans h2
    cases k2.symm.trans h3
    cases k3.symm.trans h4
    cases (KX _ _ k4).symm.trans e1
    cases e3
    cases k5.symm.trans e4
    exact hP
  obtain ⟨cs, nm, ql, par, body, sc, dV, kV, doc2, pm2, cdv, ct, oc, an, od, osl, lk, hcd2, S, hT, nT, hC, hbd, hF⟩ := F w mg fa _ KX G.T.g hmg own
  refine call_top KX G.T.g G.T.b G.T.builtins G.T.nolimit hg hT nT hC G.T.bmain hobj hints (Nat.le_trans hlen hn2) fun base H KB GB TB e0 hH hS => ?_
  exact fn_at (us := [.ref a]) (vs := [.ref a]) lk hcd2 S hr e0 (hbd _ _) (.cons rfl .nil) rfl (hF base s₁ H a ns KB GB TB hlen hH hS (hr.deeper _))
end EndG
set_option Elab.async false
set_option linter.all false
set_option maxRecDepth 100000
set_option maxHeartbeats 8000000
/-! The end of a law where other defs than the law's own make lambdas. -/
namespace EndG
open PySem PySem.Spec PyProof.Rows L2 LamX
theorem walk_gN {l : PySem.W.OpenLaw} {n k : Nat} {q : Program} {loose : List Str} {XP : (Str → Option Value) → Heap → Prop} {YP : World → Heap → Prop} {d : DefRec} {K : Params → PySem.W.Frag} {x : Str} {N : List Str} {nm : Str}
    (hn : l.most = some n) (hn2 : n ≤ sizeLine) (hdf : d.params.defaults = []) (hr : Room (k + 1) callerA) (hrec : ((recsOf q).any fun e => e.name == nm) = true) (hY : ∀ (w : World) (h : Heap), YP w h → (K w.params).In h)
    (F : ∀ (w : World) (mg : Str → Option Value) (fa : Addr) (h : Heap), (K w.params).In h → h.Ns mainGlobals mg → mg d.name = some (.ref fa) → (∀ f : Addr, mg nm = some (.ref f) → OwnTab (K w.params) f h) → LawG l w (K w.params) k n x N mg fa h) :
    PySem.W.WalkO q loose XP YP l.row.toRowW d [] (fun f vs => PySem.call f vs) := by
  refine Att.attach_callB hn hdf fun w s₀ s₁ mg mb fa o pm cd doc a vs ns G Y ho hd hcd hmg hobj hints hlen hbits hg => ?_
  have KX := hY w _ Y
  have own : ∀ f : Addr, mg nm = some (.ref f) → OwnTab (K w.params) f s₁.heap := by
    intro f hf c P o1 fd1 e dd vs1 sl k1 k2 k3 k4 k5
    obtain ⟨dL, hm, hn1⟩ := List.any_eq_true.mp hrec
    obtain ⟨a', o', fd', c', P', h1, h2, h3, h4, h5, ⟨oc, vc, e1, _, e3, e4⟩, hP⟩ := G.T.tab dL hm
    rw [show dL.name = nm from beq_iff_eq.mp hn1, hf] at h1
    cases h1
    cases (KX _ _ k1).symm.trans h2
    cases k2.symm.trans h3
    cases k3.symm.trans h4
    cases (KX _ _ k4).symm.trans e1
    cases e3
    cases k5.symm.trans e4
    exact hP
  obtain ⟨cs, nm, ql, par, body, sc, dV, kV, doc2, pm2, cdv, ct, oc, an, od, osl, lk, hcd2, S, hT, nT, hC, hbd, hF⟩ := F w mg fa _ KX G.T.g hmg own
  refine call_top KX G.T.g G.T.b G.T.builtins G.T.nolimit hg hT nT hC G.T.bmain hobj hints (Nat.le_trans hlen hn2) fun base H KB GB TB e0 hH hS => ?_
  exact fn_at (us := [.ref a]) (vs := [.ref a]) lk hcd2 S hr e0 (hbd _ _) (.cons rfl .nil) rfl (hF base s₁ H a ns KB GB TB hlen hH hS (hr.deeper _))
end EndG
set_option Elab.async false
set_option linter.all false
set_option maxRecDepth 100000
set_option maxHeartbeats 8000000
namespace K7
open PySem PySem.Spec L2 GB LamX
def ksP (K : PySem.W.Frag) (C CP : Addr) : Bool := ((["NoneType", "list", "tuple", "int"] : List String).all fun T => decide (PySem.W.kitOne K (.type T) (.ref CP) = some false) && PySem.W.notFirst K CP (.type T)) && (decide (PySem.W.kitOne K (.ref C) (.ref CP) = some false) && PySem.W.notFirst K CP (.ref C))
def emptyT (K : PySem.W.Frag) (a : Addr) : Bool := match K.lookup a with
  | some o => (match o.cls with
    | .type t => (t == "tuple") && (match o.data with
      | .seq its _ => its.isEmpty
      | _ => false)
    | _ => false)
  | none => false
theorem emptyT_ok {K : PySem.W.Frag} {a : Addr} (h : emptyT K a = true) : ∀ H, SqT K H a [] := by
  unfold emptyT at h
  split at h
  · rename_i o ho
    split at h
    · rename_i t ht
      obtain ⟨h1, h2⟩ := Bool.and_eq_true_iff.mp h
      split at h2
      · rename_i its n hd
        have e := Array.isEmpty_iff.mp h2
        subst e
        exact fun H => .inr ⟨o, #[], n, ho, by rw [ht, beq_iff_eq.mp h1], hd, Nat.zero_le _, .nil⟩
      · cases h2
    · cases h
  · cases h
def dflE (K : PySem.W.Frag) (dV : Value) : Bool := match dV with
  | .ref T => (match K.lookup T with
    | some ⟨_, _, .seq its _, _⟩ => (match its.toList with
      | [.ref a, .ref b, .ref c] => emptyT K a && (emptyT K b && emptyT K c)
      | _ => false)
    | _ => false)
  | _ => false
theorem dflE_ok {K : PySem.W.Frag} {dV : Value} (h : dflE K dV = true) : ∃ a b c, DflV K dV [.ref a, .ref b, .ref c] ∧ (∀ H, SqT K H a []) ∧ (∀ H, SqT K H b []) ∧ ∀ H, SqT K H c [] := by
  unfold dflE at h
  split at h
  · rename_i T
    split at h
    · rename_i oc od its n sl ho
      split at h
      · rename_i a b c hi
        obtain ⟨h1, h2⟩ := Bool.and_eq_true_iff.mp h
        obtain ⟨h3, h4⟩ := Bool.and_eq_true_iff.mp h2
        refine ⟨a, b, c, .inr ⟨List.cons_ne_nil _ _, T, _, its.toList, n, rfl, ho, by simp, ?_⟩, emptyT_ok h1, emptyT_ok h3, emptyT_ok h4⟩
        rw [hi]
        exact .cons rfl (.cons rfl (.cons rfl .nil))
      · cases h
    · cases h
  · cases h
def dfl1 (K : PySem.W.Frag) (dV : Value) : Bool := match dV with
  | .ref T => (match K.lookup T with
    | some ⟨_, _, .seq its _, _⟩ => (match its.toList with
      | [.ref a] => emptyT K a
      | _ => false)
    | _ => false)
  | _ => false
theorem dfl1_ok {K : PySem.W.Frag} {dV : Value} (h : dfl1 K dV = true) : ∃ a, DflV K dV [.ref a] ∧ ∀ H, SqT K H a [] := by
  unfold dfl1 at h
  split at h
  · rename_i T
    split at h
    · rename_i oc od its n sl ho
      split at h
      · rename_i a hi
        refine ⟨a, .inr ⟨List.cons_ne_nil _ _, T, _, its.toList, n, rfl, ho, by simp, ?_⟩, emptyT_ok h⟩
        rw [hi]
        exact .cons rfl .nil
      · cases h
    · cases h
  · cases h
theorem all_mk {l : PySem.W.OpenLaw} {w : World} {K : PySem.W.Frag} {h : Heap} {mg : Str → Option Value} {fa C CP c p_fu f_fu f_io f_isL f_isN f_isNm f_ckL f_ckF f_ckC f_ft f_isF f_te f_ebv f_out f_perm f_wb f_ra f_al f_cr f_pw f_cell f_pool f_take f_mixed f_one f_ground f_made f_ev f_cl f_hn f_ri f_let f_fix f_com f_fac f_len f_has f_it f_eq f_prw f_pln f_phs f_pir f_peq f_gi f_pi f_law : Addr} (X : K.In h) (G : h.Ns mainGlobals mg) (hfa : mg "law" = some (.ref fa)) (own : ∀ f : Addr, mg "in_order" = some (.ref f) → OwnTab K f h)
    (aC : PySem.W.nsIn K mainGlobals "Ground" = some (some (.ref C)))
    (aP : PySem.W.nsIn K mainGlobals "Permits" = some (some (.ref CP)))
    (d_isL : PySem.W.nsIn K mainGlobals "is_list" = some (some (.ref f_isL)))
    (F_isL : ∃ fd, Fun K "is_list" "is_list" (topS 10) f_isL fd)
    (d_isN : PySem.W.nsIn K mainGlobals "is_number" = some (some (.ref f_isN)))
    (F_isN : ∃ fd, Fun K "is_number" "is_number" (topS 11) f_isN fd)
    (d_isNm : PySem.W.nsIn K mainGlobals "is_name" = some (some (.ref f_isNm)))
    (F_isNm : ∃ fd, Fun K "is_name" "is_name" (topS 12) f_isNm fd)
    (d_ckL : PySem.W.nsIn K mainGlobals "_check_letters" = some (some (.ref f_ckL)))
    (F_ckL : ∃ fd, Fun K "_check_letters" "_check_letters" (topS 27) f_ckL fd)
    (d_ckF : PySem.W.nsIn K mainGlobals "_check_fixed" = some (some (.ref f_ckF)))
    (F_ckF : ∃ fd, Fun K "_check_fixed" "_check_fixed" (topS 28) f_ckF fd)
    (d_ckC : PySem.W.nsIn K mainGlobals "_check_commuting" = some (some (.ref f_ckC)))
    (F_ckC : ∃ fd, Fun K "_check_commuting" "_check_commuting" (topS 29) f_ckC fd)
    (d_ft : PySem.W.nsIn K mainGlobals "_facts_as_told" = some (some (.ref f_ft)))
    (F_ft : ∃ fd, Fun K "_facts_as_told" "_facts_as_told" (topS 30) f_ft fd)
    (d_isF : PySem.W.nsIn K mainGlobals "_is_fact" = some (some (.ref f_isF)))
    (F_isF : ∃ fd, Fun K "_is_fact" "_is_fact" (topS 31) f_isF fd)
    (d_te : PySem.W.nsIn K mainGlobals "_is_told_end" = some (some (.ref f_te)))
    (F_te : ∃ fd, Fun K "_is_told_end" "_is_told_end" (topS 32) f_te fd)
    (d_ebv : PySem.W.nsIn K mainGlobals "_ends_by_values" = some (some (.ref f_ebv)))
    (F_ebv : ∃ fd, Fun K "_ends_by_values" "_ends_by_values" (topS 24) f_ebv fd)
    (d_out : PySem.W.nsIn K mainGlobals "as_outcome" = some (some (.ref f_out)))
    (F_out : ∃ fd, Fun K "as_outcome" "as_outcome" (topS 25) f_out fd)
    (d_perm : PySem.W.nsIn K mainGlobals "_all_permissions" = some (some (.ref f_perm)))
    (F_perm : ∃ fd, Fun K "_all_permissions" "_all_permissions" (topS 26) f_perm fd)
    (d_wb : PySem.W.nsIn K mainGlobals "with_brought" = some (some (.ref f_wb)))
    (F_wb : ∃ fd, Fun K "with_brought" "with_brought" (topS 18) f_wb fd)
    (d_ra : PySem.W.nsIn K mainGlobals "_row_among" = some (some (.ref f_ra)))
    (F_ra : ∃ fd, Fun K "_row_among" "_row_among" (topS 20) f_ra fd)
    (d_al : PySem.W.nsIn K mainGlobals "rows_always" = some (some (.ref f_al)))
    (F_al : ∃ fd, Fun K "rows_always" "rows_always" (topS 17) f_al fd)
    (d_cr : PySem.W.nsIn K mainGlobals "_checked_rows" = some (some (.ref f_cr)))
    (F_cr : ∃ fd, Fun K "_checked_rows" "_checked_rows" (topS 19) f_cr fd)
    (d_pw : PySem.W.nsIn K mainGlobals "permits_with" = some (some (.ref f_pw)))
    (F_pw : ∃ fd, Fun K "permits_with" "permits_with" (topS 15) f_pw fd)
    (d_cell : PySem.W.nsIn K mainGlobals "_law_cell" = some (some (.ref f_cell)))
    (F_cell : ∃ fd, Fun K "_law_cell" "_law_cell" (topS 34) f_cell fd)
    (d_pool : PySem.W.nsIn K mainGlobals "_law_pool" = some (some (.ref f_pool)))
    (F_pool : ∃ fd, Fun K "_law_pool" "_law_pool" (topS 35) f_pool fd)
    (d_take : PySem.W.nsIn K mainGlobals "_law_take" = some (some (.ref f_take)))
    (F_take : ∃ fd, Fun K "_law_take" "_law_take" (topS 36) f_take fd)
    (d_mixed : PySem.W.nsIn K mainGlobals "_law_mixed" = some (some (.ref f_mixed)))
    (F_mixed : ∃ fd, Fun K "_law_mixed" "_law_mixed" (topS 37) f_mixed fd)
    (d_one : PySem.W.nsIn K mainGlobals "_law_one" = some (some (.ref f_one)))
    (F_one : ∃ fd, Fun K "_law_one" "_law_one" (topS 38) f_one fd)
    (d_ground : PySem.W.nsIn K mainGlobals "_law_ground" = some (some (.ref f_ground)))
    (F_ground : ∃ fd, Fun K "_law_ground" "_law_ground" (topS 39) f_ground fd)
    (d_made : PySem.W.nsIn K mainGlobals "_law_made" = some (some (.ref f_made)))
    (F_made : ∃ fd, Fun K "_law_made" "_law_made" (topS 40) f_made fd)
    (d_ev : PySem.W.nsIn K mainGlobals "_law_every" = some (some (.ref f_ev)))
    (F_ev : ∃ fd, Fun K "_law_every" "_law_every" (topS 41) f_ev fd)
    (d_cl : PySem.W.nsIn K mainGlobals "_law_closed" = some (some (.ref f_cl)))
    (F_cl : ∃ fd, Fun K "_law_closed" "_law_closed" (topS 42) f_cl fd)
    (d_hn : PySem.W.nsIn K mainGlobals "_law_handed" = some (some (.ref f_hn)))
    (F_hn : ∃ fd, Fun K "_law_handed" "_law_handed" (topS 43) f_hn fd)
    (d_ri : PySem.W.nsIn K mainGlobals "_law_is_right" = some (some (.ref f_ri)))
    (F_ri : ∃ fd, Fun K "_law_is_right" "_law_is_right" (topS 44) f_ri fd)
    (i_let : PySem.W.findIn K (.ref C) "letters" = some (some (.ref f_let)))
    (F_let : ∃ fd, Fun K "letters" "Ground.letters" (inClass (topS 23) 1) f_let fd)
    (i_fix : PySem.W.findIn K (.ref C) "fixed" = some (some (.ref f_fix)))
    (F_fix : ∃ fd, Fun K "fixed" "Ground.fixed" (inClass (topS 23) 2) f_fix fd)
    (i_com : PySem.W.findIn K (.ref C) "commuting" = some (some (.ref f_com)))
    (F_com : ∃ fd, Fun K "commuting" "Ground.commuting" (inClass (topS 23) 3) f_com fd)
    (i_fac : PySem.W.findIn K (.ref C) "facts" = some (some (.ref f_fac)))
    (F_fac : ∃ fd, Fun K "facts" "Ground.facts" (inClass (topS 23) 4) f_fac fd)
    (i_len : PySem.W.findIn K (.ref C) "__len__" = some (some (.ref f_len)))
    (F_len : ∃ fd, Fun K "__len__" "Ground.__len__" (inClass (topS 23) 6) f_len fd)
    (t_len : PySem.W.typeIn K (.ref f_len) = some (.type "function"))
    (i_has : PySem.W.findIn K (.ref C) "__contains__" = some (some (.ref f_has)))
    (F_has : ∃ fd, Fun K "__contains__" "Ground.__contains__" (inClass (topS 23) 7) f_has fd)
    (t_has : PySem.W.typeIn K (.ref f_has) = some (.type "function"))
    (i_it : PySem.W.findIn K (.ref C) "__iter__" = some (some (.ref f_it)))
    (F_it : ∃ fd, Fun K "__iter__" "Ground.__iter__" (inClass (topS 23) 8) f_it fd)
    (t_it : PySem.W.typeIn K (.ref f_it) = some (.type "function"))
    (i_eq : PySem.W.findIn K (.ref C) "__eq__" = some (some (.ref f_eq)))
    (F_eq : ∃ fd, Fun K "__eq__" "Ground.__eq__" (inClass (topS 23) 9) f_eq fd)
    (t_eq : PySem.W.typeIn K (.ref f_eq) = some (.type "function"))
    (i_prw : PySem.W.findIn K (.ref CP) "rows" = some (some (.ref f_prw)))
    (F_prw : ∃ fd, Fun K "rows" "Permits.rows" (inClass (topS 14) 1) f_prw fd)
    (i_pln : PySem.W.findIn K (.ref CP) "__len__" = some (some (.ref f_pln)))
    (F_pln : ∃ fd, Fun K "__len__" "Permits.__len__" (inClass (topS 14) 7) f_pln fd)
    (t_pln : PySem.W.typeIn K (.ref f_pln) = some (.type "function"))
    (i_phs : PySem.W.findIn K (.ref CP) "__contains__" = some (some (.ref f_phs)))
    (F_phs : ∃ fd, Fun K "__contains__" "Permits.__contains__" (inClass (topS 14) 8) f_phs fd)
    (t_phs : PySem.W.typeIn K (.ref f_phs) = some (.type "function"))
    (i_pir : PySem.W.findIn K (.ref CP) "__iter__" = some (some (.ref f_pir)))
    (F_pir : ∃ fd, Fun K "__iter__" "Permits.__iter__" (inClass (topS 14) 9) f_pir fd)
    (t_pir : PySem.W.typeIn K (.ref f_pir) = some (.type "function"))
    (i_peq : PySem.W.findIn K (.ref CP) "__eq__" = some (some (.ref f_peq)))
    (F_peq : ∃ fd, Fun K "__eq__" "Permits.__eq__" (inClass (topS 14) 10) f_peq fd)
    (t_peq : PySem.W.typeIn K (.ref f_peq) = some (.type "function"))
    (i_fu : PySem.W.findCls K (.ref CP) (.type "type") "full" = some (.get (.builtin "staticmethod.__get__") (.ref p_fu) .none (.ref CP)))
    (r_fu : ∃ rest, PySem.W.recIn K p_fu "staticmethod" = some (.ref f_fu :: rest))
    (F_fu : ∃ fd, Fun K "full" "Permits.full" (inClass (topS 14) 6) f_fu fd)
    (i_gi : PySem.W.findIn K (.ref C) "__init__" = some (some (.ref f_gi)))
    (F_gi : ∃ (oc : Value) (od : Option Addr) (dV kV doc pm : Value) (an : Option Addr) (cdv ct : Value) (osl : Array (Option Value)), K.lookup f_gi = some ⟨oc, od, .func (PySem.W.fnOf "__init__" "Ground.__init__" (defArgs (inClass (topS 23) 0)) (defBody (inClass (topS 23) 0)) (defScope (inClass (topS 23) 0)) dV kV doc pm an cdv ct), osl⟩ ∧ PySem.W.codeIn K cdv "Ground.__init__" = true ∧ dflE K dV = true ∧ PySem.W.keepIn K (.ref f_gi) = true)
    (i_pi : PySem.W.findIn K (.ref CP) "__init__" = some (some (.ref f_pi)))
    (F_pi : ∃ (oc : Value) (od : Option Addr) (dV kV doc pm : Value) (an : Option Addr) (cdv ct : Value) (osl : Array (Option Value)), K.lookup f_pi = some ⟨oc, od, .func (PySem.W.fnOf "__init__" "Permits.__init__" (defArgs (inClass (topS 14) 0)) (defBody (inClass (topS 14) 0)) (defScope (inClass (topS 14) 0)) dV kV doc pm an cdv ct), osl⟩ ∧ PySem.W.codeIn K cdv "Permits.__init__" = true ∧ dfl1 K dV = true ∧ PySem.W.keepIn K (.ref f_pi) = true)
    (d_io : PySem.W.nsIn K mainGlobals "in_order" = some (some (.ref f_io)))
    (F_io : ∃ (oc : Value) (od : Option Addr) (kV doc pm : Value) (an : Option Addr) (ct : Value) (osl : Array (Option Value)), K.lookup f_io = some ⟨oc, od, .func (PySem.W.fnOf "in_order" "in_order" (defArgs (topS 16)) (defBody (topS 16)) (defScope (topS 16)) .none kV doc pm an (.ref c) ct), osl⟩ ∧ PySem.W.codeIn K (.ref c) "in_order" = true ∧ PySem.W.keepIn K (.ref f_io) = true)
    (x_code : FX.codeB K c (FX.ptOf K c) = true)
    (d_law : PySem.W.nsIn K mainGlobals "law" = some (some (.ref f_law)))
    (F_law : ∃ (oc : Value) (od : Option Addr) (kV doc pm : Value) (an : Option Addr) (cdv ct : Value) (osl : Array (Option Value)), K.lookup f_law = some ⟨oc, od, .func (PySem.W.fnOf "law" "law" (defArgs (topS 45)) (defBody (topS 45)) (defScope (topS 45)) .none kV doc pm an cdv ct), osl⟩ ∧ PySem.W.codeIn K cdv "law" = true ∧ PySem.W.keepIn K (.ref f_law) = true)
    (x_free : FX.freeB K FX.blts = true)
    (x_rep : FX.freeB K ["repr", "iter"] = true)
    (x_signs : (He.Fa.int "MOST_SIGNS" 8).ok K = true)
    (x_parts : (He.Fa.int "MOST_PARTS" 2).ok K = true)
    (x_cl : FX.clB K C = true)
    (x_no : FX.noB K C ["_facts", "_letters", "_order", "_fixed", "_commuting", "moving", "commutes", "known_ends", "places"] = true)
    (x_mk : FX.mkB K C f_gi = true)
    (x_let : FX.methB K C "letters" f_let = true)
    (x_fix : FX.methB K C "fixed" f_fix = true)
    (x_com : FX.methB K C "commuting" f_com = true)
    (x_fac : FX.methB K C "facts" f_fac = true)
    (x_clP : FX.clB K CP = true)
    (x_noP : FX.noB K CP ["ground", "_rows"] = true)
    (x_mkP : FX.mkB K CP f_pi = true)
    (x_prw : FX.methB K CP "rows" f_prw = true)
    (i_ne : PySem.W.findIn K (.ref C) "__ne__" = some (some (.builtin "object.__ne__")))
    (i_mro : PySem.W.mroIn K C (.type "object") = some true)
    (i_cls : PySem.W.findIn K (.ref C) "__class__" = some (some (.builtin "object.__class__")))
    (i_neP : PySem.W.findIn K (.ref CP) "__ne__" = some (some (.builtin "object.__ne__")))
    (i_mroP : PySem.W.mroIn K CP (.type "object") = some true)
    (i_clsP : PySem.W.findIn K (.ref CP) "__class__" = some (some (.builtin "object.__class__")))
    (i_get : PySem.W.specialIn K (.builtin "object.__class__") "__get__" = some (some (.builtin "getset_descriptor.__get__")))
    (i_tk : PySem.W.takesIn K (.builtin "object.__class__") = some true)
    (x_rd : PySem.W.readsIn K CP (.type "type") = true)
    (i_ga : PySem.W.specialIn K (.ref CP) "__getattribute__" = some (some (.builtin "type.__getattribute__")))
    (x_ks : ksP K C CP = true)
    : EndG.LawG l w K 25 63 "_law_script" lawN mg fa h := by
  have e := hfa.symm.trans (PySem.W.mg_of X G d_law)
  cases e
  have b : Bl mg := FX.bl_of X G x_free
  obtain ⟨hCode, nPT, eC, dC, vsC, slC, lkC, atC⟩ := FX.codeB_ok X x_code
  have cl : Cls K C := FX.cl_of x_cl
  have no : ∀ f ∈ (["_facts", "_letters", "_order", "_fixed", "_commuting", "moving", "commutes", "known_ends", "places"] : List Str), NoAttr K C f := fun f hf => FX.no_of x_no hf
  have clP : Cls K CP := FX.cl_of x_clP
  have noP : ∀ f ∈ (["ground", "_rows"] : List Str), NoAttr K CP f := fun f hf => FX.no_of x_noP hf
  obtain ⟨ocL, odL, kVL, docL, pmL, anL, cdvL, ctL, oslL, lkL, cL, kL⟩ := F_law
  obtain ⟨ocO, odO, kVO, docO, pmO, anO, ctO, oslO, lkO, cO, kO'⟩ := F_io
  obtain ⟨ocI, odI, dVI, kVI, docI, pmI, anI, cdvI, ctI, oslI, lkI, cI, dI, kI⟩ := F_gi
  obtain ⟨ocP, odP, dVP, kVP, docP, pmP, anP, cdvP, ctP, oslP, lkP, cP, dP, kP⟩ := F_pi
  obtain ⟨da, db, dc, dflI, em1, em2, em3⟩ := dflE_ok dI
  obtain ⟨dp, dflP, emP⟩ := dfl1_ok dP
  have FI : FunD K "__init__" "Ground.__init__" (defArgs sGI) (defBody sGI) (defScope sGI) [.ref da, .ref db, .ref dc] [] f_gi _ := ⟨⟨ocI, odI, dVI, kVI, docI, pmI, anI, cdvI, ctI, oslI, rfl, lkI, cI, dflI, .inl rfl⟩, kI⟩
  obtain ⟨ds, vds, bI⟩ := FI.binds1 (ps := ["self", "letters", "fixed", "commuting", "facts"]) 5 3 (List.cons_ne_nil _ _) rfl (fun T kV doc pm an cdv ct us its hu hi => match us, hu, its, hi with | [_, _, _, _, _], _, [_, _, _], _ => ⟨_, rfl, rfl⟩)
  cases vds
  have FP : FunD K "__init__" "Permits.__init__" (defArgs sPI) (defBody sPI) (defScope sPI) [.ref dp] [] f_pi _ := ⟨⟨ocP, odP, dVP, kVP, docP, pmP, anP, cdvP, ctP, oslP, rfl, lkP, cP, dflP, .inl rfl⟩, kP⟩
  obtain ⟨dsP, vdsP, bP⟩ := FP.binds1 (ps := ["self", "ground", "rows"]) 3 1 (List.cons_ne_nil _ _) rfl (fun T kV doc pm an cdv ct us its hu hi => match us, hu, its, hi with | [_, _, _], _, [_], _ => ⟨_, rfl, rfl⟩)
  cases vdsP
  obtain ⟨dsQ, vdsQ, bP1⟩ := FP.binds1 (ps := ["self", "ground", "rows"]) 2 0 (List.cons_ne_nil _ _) rfl (fun T kV doc pm an cdv ct us its hu hi => match us, hu, its, hi with | [_, _], _, [_], _ => ⟨_, rfl, rfl⟩)
  have F_io := L2.fun_mk (x := "in_order") (qual := "in_order") (st := sIO) lkO cO kO'
  have b_io := F_io.binds (ps := ["ground", "rows"]) fun _ _ _ _ _ _ us hl => match us, hl with | [_, _], _ => rfl
  obtain ⟨g_isL, F_isL⟩ := F_isL
  have b_isL := F_isL.binds (ps := ["thing"]) fun _ _ _ _ _ _ us hl => match us, hl with | [_], _ => rfl
  obtain ⟨g_isN, F_isN⟩ := F_isN
  have b_isN := F_isN.binds (ps := ["thing"]) fun _ _ _ _ _ _ us hl => match us, hl with | [_], _ => rfl
  obtain ⟨g_isNm, F_isNm⟩ := F_isNm
  have b_isNm := F_isNm.binds (ps := ["thing"]) fun _ _ _ _ _ _ us hl => match us, hl with | [_], _ => rfl
  obtain ⟨g_ckL, F_ckL⟩ := F_ckL
  have b_ckL := F_ckL.binds (ps := ["letters"]) fun _ _ _ _ _ _ us hl => match us, hl with | [_], _ => rfl
  obtain ⟨g_ckF, F_ckF⟩ := F_ckF
  have b_ckF := F_ckF.binds (ps := ["letters", "fixed"]) fun _ _ _ _ _ _ us hl => match us, hl with | [_, _], _ => rfl
  obtain ⟨g_ckC, F_ckC⟩ := F_ckC
  have b_ckC := F_ckC.binds (ps := ["letters", "fixed", "commuting"]) fun _ _ _ _ _ _ us hl => match us, hl with | [_, _, _], _ => rfl
  obtain ⟨g_ft, F_ft⟩ := F_ft
  have b_ft := F_ft.binds (ps := ["letters", "fixed", "commuting", "facts"]) fun _ _ _ _ _ _ us hl => match us, hl with | [_, _, _, _], _ => rfl
  obtain ⟨g_isF, F_isF⟩ := F_isF
  have b_isF := F_isF.binds (ps := ["letters", "fixed", "thing"]) fun _ _ _ _ _ _ us hl => match us, hl with | [_, _, _], _ => rfl
  obtain ⟨g_te, F_te⟩ := F_te
  have b_te := F_te.binds (ps := ["thing"]) fun _ _ _ _ _ _ us hl => match us, hl with | [_], _ => rfl
  obtain ⟨g_ebv, F_ebv⟩ := F_ebv
  have b_ebv := F_ebv.binds (ps := ["facts", "commutes"]) fun _ _ _ _ _ _ us hl => match us, hl with | [_, _], _ => rfl
  obtain ⟨g_out, F_out⟩ := F_out
  have b_out := F_out.binds (ps := ["end"]) fun _ _ _ _ _ _ us hl => match us, hl with | [_], _ => rfl
  obtain ⟨g_perm, F_perm⟩ := F_perm
  have b_perm := F_perm.binds (ps := ["letters", "moving"]) fun _ _ _ _ _ _ us hl => match us, hl with | [_, _], _ => rfl
  obtain ⟨g_wb, F_wb⟩ := F_wb
  have b_wb := F_wb.binds (ps := ["row"]) fun _ _ _ _ _ _ us hl => match us, hl with | [_], _ => rfl
  obtain ⟨g_ra, F_ra⟩ := F_ra
  have b_ra := F_ra.binds (ps := ["known", "thing"]) fun _ _ _ _ _ _ us hl => match us, hl with | [_, _], _ => rfl
  obtain ⟨g_al, F_al⟩ := F_al
  have b_al := F_al.binds (ps := ["ground"]) fun _ _ _ _ _ _ us hl => match us, hl with | [_], _ => rfl
  obtain ⟨g_cr, F_cr⟩ := F_cr
  have b_cr := F_cr.binds (ps := ["ground", "rows"]) fun _ _ _ _ _ _ us hl => match us, hl with | [_, _], _ => rfl
  obtain ⟨g_pw, F_pw⟩ := F_pw
  have b_pw := F_pw.binds (ps := ["ground", "rows"]) fun _ _ _ _ _ _ us hl => match us, hl with | [_, _], _ => rfl
  obtain ⟨g_cell, F_cell⟩ := F_cell
  have b_cell := F_cell.binds (ps := ["_law_script", "_law_k"]) fun _ _ _ _ _ _ us hl => match us, hl with | [_, _], _ => rfl
  obtain ⟨g_pool, F_pool⟩ := F_pool
  have b_pool := F_pool.binds (ps := ["_law_grain"]) fun _ _ _ _ _ _ us hl => match us, hl with | [_], _ => rfl
  obtain ⟨g_take, F_take⟩ := F_take
  have b_take := F_take.binds (ps := ["_law_pool_here", "_law_many"]) fun _ _ _ _ _ _ us hl => match us, hl with | [_, _], _ => rfl
  obtain ⟨g_mixed, F_mixed⟩ := F_mixed
  have b_mixed := F_mixed.binds (ps := ["_law_pool_here", "_law_things"]) fun _ _ _ _ _ _ us hl => match us, hl with | [_, _], _ => rfl
  obtain ⟨g_one, F_one⟩ := F_one
  have b_one := F_one.binds (ps := ["_law_pool_here", "_law_things"]) fun _ _ _ _ _ _ us hl => match us, hl with | [_, _], _ => rfl
  obtain ⟨g_ground, F_ground⟩ := F_ground
  have b_ground := F_ground.binds (ps := ["_law_pool_here", "_law_most"]) fun _ _ _ _ _ _ us hl => match us, hl with | [_, _], _ => rfl
  obtain ⟨g_made, F_made⟩ := F_made
  have b_made := F_made.binds (ps := ["_law_g"]) fun _ _ _ _ _ _ us hl => match us, hl with | [_], _ => rfl
  obtain ⟨g_ev, F_ev⟩ := F_ev
  have b_ev := F_ev.binds (ps := ["_law_g"]) fun _ _ _ _ _ _ us hl => match us, hl with | [_], _ => rfl
  obtain ⟨g_cl, F_cl⟩ := F_cl
  have b_cl := F_cl.binds (ps := ["_law_g", "_law_rows"]) fun _ _ _ _ _ _ us hl => match us, hl with | [_, _], _ => rfl
  obtain ⟨g_hn, F_hn⟩ := F_hn
  have b_hn := F_hn.binds (ps := ["_law_pool_here", "_law_rows"]) fun _ _ _ _ _ _ us hl => match us, hl with | [_, _], _ => rfl
  obtain ⟨g_ri, F_ri⟩ := F_ri
  have b_ri := F_ri.binds (ps := ["_law_permits", "_law_g", "_law_due"]) fun _ _ _ _ _ _ us hl => match us, hl with | [_, _, _], _ => rfl
  obtain ⟨g_let, F_let⟩ := F_let
  have b_let := F_let.binds (ps := ["self"]) fun _ _ _ _ _ _ us hl => match us, hl with | [_], _ => rfl
  obtain ⟨g_fix, F_fix⟩ := F_fix
  have b_fix := F_fix.binds (ps := ["self"]) fun _ _ _ _ _ _ us hl => match us, hl with | [_], _ => rfl
  obtain ⟨g_com, F_com⟩ := F_com
  have b_com := F_com.binds (ps := ["self"]) fun _ _ _ _ _ _ us hl => match us, hl with | [_], _ => rfl
  obtain ⟨g_fac, F_fac⟩ := F_fac
  have b_fac := F_fac.binds (ps := ["self"]) fun _ _ _ _ _ _ us hl => match us, hl with | [_], _ => rfl
  obtain ⟨g_len, F_len⟩ := F_len
  have b_len := F_len.binds (ps := ["self"]) fun _ _ _ _ _ _ us hl => match us, hl with | [_], _ => rfl
  obtain ⟨g_has, F_has⟩ := F_has
  have b_has := F_has.binds (ps := ["self", "letter"]) fun _ _ _ _ _ _ us hl => match us, hl with | [_, _], _ => rfl
  obtain ⟨g_it, F_it⟩ := F_it
  have b_it := F_it.binds (ps := ["self"]) fun _ _ _ _ _ _ us hl => match us, hl with | [_], _ => rfl
  obtain ⟨g_eq, F_eq⟩ := F_eq
  have b_eq := F_eq.binds (ps := ["self", "other"]) fun _ _ _ _ _ _ us hl => match us, hl with | [_, _], _ => rfl
  obtain ⟨g_prw, F_prw⟩ := F_prw
  have b_prw := F_prw.binds (ps := ["self"]) fun _ _ _ _ _ _ us hl => match us, hl with | [_], _ => rfl
  obtain ⟨g_pln, F_pln⟩ := F_pln
  have b_pln := F_pln.binds (ps := ["self"]) fun _ _ _ _ _ _ us hl => match us, hl with | [_], _ => rfl
  obtain ⟨g_phs, F_phs⟩ := F_phs
  have b_phs := F_phs.binds (ps := ["self", "row"]) fun _ _ _ _ _ _ us hl => match us, hl with | [_, _], _ => rfl
  obtain ⟨g_pir, F_pir⟩ := F_pir
  have b_pir := F_pir.binds (ps := ["self"]) fun _ _ _ _ _ _ us hl => match us, hl with | [_], _ => rfl
  obtain ⟨g_peq, F_peq⟩ := F_peq
  have b_peq := F_peq.binds (ps := ["self", "other"]) fun _ _ _ _ _ _ us hl => match us, hl with | [_, _], _ => rfl
  obtain ⟨g_fu, F_fu⟩ := F_fu
  have b_fu := F_fu.binds (ps := ["ground"]) fun _ _ _ _ _ _ us hl => match us, hl with | [_], _ => rfl
  have GK : GrK K C := ⟨cl, no _ (by simp), no _ (by simp), no _ (by simp), no _ (by simp), no _ (by simp), fun H a dx fs e => .base (.ins e cl i_cls i_get i_tk i_mro)⟩
  have CK : PrK K CP := ⟨clP, noP _ (by simp), noP _ (by simp), fun H a dx fs e => .base (.ins e clP i_clsP i_get i_tk i_mroP)⟩
  have isf : ∀ {f : Addr}, PySem.W.typeIn K (.ref f) = some (.type "function") → PySem.W.isFn K (.ref f) = true := fun {f} t => by
    unfold PySem.W.isFn
    rw [t]
    exact beq_self_eq_true _
  have kO : ∀ A : Addr, PySem.W.kitOne K (.ref A) (.ref A) = some true := fun A => by
    unfold PySem.W.kitOne
    rw [if_pos (beq_self_eq_true _)]
  have ks : KsP K C CP := by
    obtain ⟨h1, h2⟩ := Bool.and_eq_true_iff.mp x_ks
    obtain ⟨h3, h4⟩ := Bool.and_eq_true_iff.mp h2
    refine ⟨fun T hT => ?_, of_decide_eq_true h3, h4⟩
    obtain ⟨h5, h6⟩ := Bool.and_eq_true_iff.mp (List.all_eq_true.mp h1 T hT)
    exact ⟨of_decide_eq_true h5, h6⟩
  refine ⟨[(c, FX.ptOf K c)], "law", "law", defArgs sLaw, defBody sLaw, defScope sLaw, .none, kVL, docL, pmL, cdvL, ctL, ocL, anL, odL, oslL, lkL, cL, scLaw, fun p hp => ?_, fun p hp => ?_, fun p hp => ?_, fun s u => .of_eq rfl, fun base t H a ns KB GB0 HT hn hPT hS hr => ?_⟩
  · rw [List.mem_singleton.mp hp]
    exact own f_io (PySem.W.mg_of X G d_io) c _ _ _ _ _ vsC _ lkO rfl rfl lkC atC
  · rw [List.mem_singleton.mp hp]
    exact nPT
  · rw [List.mem_singleton.mp hp]
    exact hCode
  have TB : TabB base mg c (FX.ptOf K c) := HT _ (List.mem_singleton.mpr rfl)
  have N_isL : Fns l.prog w K mg base "is_list" 1 ["thing"] (spIsL K) := ⟨f_isL, g_isL, ok_isL F_isL b, PySem.W.mg_of X G d_isL, F_isL.kp, b_isL⟩
  have N_isN : Fns l.prog w K mg base "is_number" 1 ["thing"] (spIsN K) := ⟨f_isN, g_isN, ok_isN F_isN b, PySem.W.mg_of X G d_isN, F_isN.kp, b_isN⟩
  have N_isNm : Fns l.prog w K mg base "is_name" 1 ["thing"] (spIsNm K) := ⟨f_isNm, g_isNm, ok_isNm F_isNm b (FX.int_of X G x_signs), PySem.W.mg_of X G d_isNm, F_isNm.kp, b_isNm⟩
  have N_ckL : Fns l.prog w K mg base "_check_letters" 2 ["letters"] spCkL := ⟨f_ckL, g_ckL, ok_ckL F_ckL b (FX.int_of X G x_parts) N_isNm N_isN, PySem.W.mg_of X G d_ckL, F_ckL.kp, b_ckL⟩
  have N_ckF : Fns l.prog w K mg base "_check_fixed" 2 ["letters", "fixed"] (spCkF2 K) := ⟨f_ckF, g_ckF, ok_ckF2 F_ckF b N_isL, PySem.W.mg_of X G d_ckF, F_ckF.kp, b_ckF⟩
  have N_ckC : Fns l.prog w K mg base "_check_commuting" 2 ["letters", "fixed", "commuting"] (spCkC2 K) := ⟨f_ckC, g_ckC, ok_ckC2 F_ckC b N_isL, PySem.W.mg_of X G d_ckC, F_ckC.kp, b_ckC⟩
  have N_te : Fns l.prog w K mg base "_is_told_end" 2 ["thing"] (spTE2 K) := ⟨f_te, g_te, ok_te2 F_te b N_isL N_isNm, PySem.W.mg_of X G d_te, F_te.kp, b_te⟩
  have N_isF : Fns l.prog w K mg base "_is_fact" 3 ["letters", "fixed", "thing"] (spIsF2 K) := ⟨f_isF, g_isF, ok_isF2 F_isF b N_isL N_isNm N_te, PySem.W.mg_of X G d_isF, F_isF.kp, b_isF⟩
  have N_ft : Fns l.prog w K mg base "_facts_as_told" 4 ["letters", "fixed", "commuting", "facts"] (spFT2 K) := ⟨f_ft, g_ft, ok_ft2 F_ft b N_isL N_isF, PySem.W.mg_of X G d_ft, F_ft.kp, b_ft⟩
  have N_out : Fns l.prog w K mg base "as_outcome" 1 ["end"] spOut := ⟨f_out, g_out, ok_out F_out, PySem.W.mg_of X G d_out, F_out.kp, b_out⟩
  have N_ebv : Fns l.prog w K mg base "_ends_by_values" 2 ["facts", "commutes"] (spEbv l.prog w) := ⟨f_ebv, g_ebv, ok_ebv F_ebv b N_out, PySem.W.mg_of X G d_ebv, F_ebv.kp, b_ebv⟩
  have N_perm : Fns l.prog w K mg base "_all_permissions" 1 ["letters", "moving"] spPerm := ⟨f_perm, g_perm, ok_perm F_perm b, PySem.W.mg_of X G d_perm, F_perm.kp, b_perm⟩
  have FGI := ok_gi2 (P := l.prog) (w := w) (mg := mg) (base := base) FI b cl (no _ (by simp)) (no _ (by simp)) (no _ (by simp)) (no _ (by simp)) (no _ (by simp)) (no _ (by simp)) (no _ (by simp)) (no _ (by simp)) (no _ (by simp)) N_ckL N_ckF N_ckC N_ft N_ebv N_perm
  have N_made : Fns l.prog w K mg base "_law_made" 7 ["_law_g"] (spMade3 C) := ⟨f_made, g_made, ok_md F_made (FX.mk_of x_mk) FGI bI (PySem.W.mg_of X G aC), PySem.W.mg_of X G d_made, F_made.kp, b_made⟩
  have N_cell : Fns l.prog w K mg base "_law_cell" 1 ["_law_script", "_law_k"] (GB.spCell K) := ⟨f_cell, g_cell, ok_cell F_cell b, PySem.W.mg_of X G d_cell, F_cell.kp, b_cell⟩
  have N_pool : Fns l.prog w K mg base "_law_pool" 1 ["_law_grain"] spPool := ⟨f_pool, g_pool, ok_pool F_pool b, PySem.W.mg_of X G d_pool, F_pool.kp, b_pool⟩
  have N_take : Fns l.prog w K mg base "_law_take" 1 ["_law_pool_here", "_law_many"] spTake := ⟨f_take, g_take, ok_take F_take b, PySem.W.mg_of X G d_take, F_take.kp, b_take⟩
  have N_mixed : Fns l.prog w K mg base "_law_mixed" 2 ["_law_pool_here", "_law_things"] (spMixed K) := ⟨f_mixed, g_mixed, ok_mixed F_mixed b N_take, PySem.W.mg_of X G d_mixed, F_mixed.kp, b_mixed⟩
  have N_one : Fns l.prog w K mg base "_law_one" 2 ["_law_pool_here", "_law_things"] (spOne K) := ⟨f_one, g_one, ok_one F_one b N_take, PySem.W.mg_of X G d_one, F_one.kp, b_one⟩
  have N_ground : Fns l.prog w K mg base "_law_ground" 3 ["_law_pool_here", "_law_most"] spGround := ⟨f_ground, g_ground, ok_ground F_ground b N_take N_mixed N_one, PySem.W.mg_of X G d_ground, F_ground.kp, b_ground⟩
  have M : GrM l.prog w K mg base C := {
    k := GK
    let_ := ⟨f_let, g_let, FX.meth_of x_let, ok_let F_let b GK, b_let⟩
    fix_ := ⟨f_fix, g_fix, FX.meth_of x_fix, ok_fix F_fix b GK, b_fix⟩
    com_ := ⟨f_com, g_com, FX.meth_of x_com, ok_com F_com b GK, b_com⟩
    fac_ := ⟨f_fac, g_fac, FX.meth_of x_fac, ok_fac F_fac b GK, b_fac⟩
    len_ := ⟨f_len, g_len, i_len, isf t_len, ok_len F_len b GK, b_len⟩
    has_ := ⟨f_has, g_has, i_has, isf t_has, ok_has F_has b GK, b_has⟩
    it_ := ⟨f_it, g_it, i_it, isf t_it, ok_it F_it (FX.free_of X G x_rep (by simp)) GK, b_it⟩
    eq_ := ⟨f_eq, g_eq, i_eq, isf t_eq, ok_eq F_eq b (PySem.W.mg_of X G aC) (kO C) GK, b_eq⟩
    ne_ := i_ne
    mro := i_mro }
  have N_wb : Fns l.prog w K mg base "with_brought" 1 ["row"] spWB := ⟨f_wb, g_wb, ok_wb F_wb b, PySem.W.mg_of X G d_wb, F_wb.kp, b_wb⟩
  have N_ra : Fns l.prog w K mg base "_row_among" 2 ["known", "thing"] (spRA K) := ⟨f_ra, g_ra, ok_ra F_ra b N_isL, PySem.W.mg_of X G d_ra, F_ra.kp, b_ra⟩
  have N_al : Fns l.prog w K mg base "rows_always" 2 ["ground"] (spAL C) := ⟨f_al, g_al, ok_al F_al b GK ⟨f_fac, g_fac, FX.meth_of x_fac, ok_fac F_fac b GK, b_fac⟩, PySem.W.mg_of X G d_al, F_al.kp, b_al⟩
  have N_cr : Fns l.prog w K mg base "_checked_rows" 3 ["ground", "rows"] (spCR K C) := ⟨f_cr, g_cr, ok_cr F_cr b GK (no _ (by simp)) N_isL N_ra, PySem.W.mg_of X G d_cr, F_cr.kp, b_cr⟩
  have N_io : Fns l.prog w K mg base "in_order" 6 ["ground", "rows"] (spIO C (FX.ptOf K c)) := ⟨f_io, _, ok_io lkO cO b cl (no _ (by simp)) TB, PySem.W.mg_of X G d_io, kO', b_io⟩
  have FPI := ok_pi (P := l.prog) (w := w) (mg := mg) (base := base) FP b clP (noP _ (by simp)) (noP _ (by simp)) N_al N_cr N_wb N_io
  have N_pw : Fns l.prog w K mg base "permits_with" 9 ["ground", "rows"] (spPW K C CP (FX.ptOf K c)) := ⟨f_pw, g_pw, ok_pw F_pw b CK (PySem.W.mg_of X G aP) (FX.mk_of x_mkP) FPI bP1 vdsQ emP, PySem.W.mg_of X G d_pw, F_pw.kp, b_pw⟩
  have MPr : PrM l.prog w K mg base C CP := {
    k := CK
    rows_ := ⟨f_prw, g_prw, FX.meth_of x_prw, ok_rw F_prw b CK, b_prw⟩
    len_ := ⟨f_pln, g_pln, i_pln, isf t_pln, ok_ln F_pln b CK, b_pln⟩
    has_ := ⟨f_phs, g_phs, i_phs, isf t_phs, ok_hs F_phs b CK N_ra, b_phs⟩
    it_ := ⟨f_pir, g_pir, i_pir, isf t_pir, ok_ir F_pir (FX.free_of X G x_rep (by simp)) CK, b_pir⟩
    eq_ := ⟨f_peq, g_peq, i_peq, isf t_peq, ok_ep F_peq b (PySem.W.mg_of X G aP) (kO CP) CK GK ⟨f_eq, g_eq, i_eq, isf t_eq, ok_eq F_eq b (PySem.W.mg_of X G aC) (kO C) GK, b_eq⟩, b_peq⟩
    ne_ := i_neP
    mro := i_mroP }
  have N_ev : Fns l.prog w K mg base "_law_every" 1 ["_law_g"] spEv := ⟨f_ev, g_ev, ok_ev F_ev b, PySem.W.mg_of X G d_ev, F_ev.kp, b_ev⟩
  have N_cl : Fns l.prog w K mg base "_law_closed" 2 ["_law_g", "_law_rows"] spCl := ⟨f_cl, g_cl, ok_cl F_cl b N_ev, PySem.W.mg_of X G d_cl, F_cl.kp, b_cl⟩
  have N_hn : Fns l.prog w K mg base "_law_handed" 4 ["_law_pool_here", "_law_rows"] (spHn K) := ⟨f_hn, g_hn, ok_hn F_hn b N_take N_mixed, PySem.W.mg_of X G d_hn, F_hn.kp, b_hn⟩
  have N_ri : Fns l.prog w K mg base "_law_is_right" 8 ["_law_permits", "_law_g", "_law_due"] (spRi C CP) := ⟨f_ri, g_ri, ok_ri F_ri b MPr M N_made N_ev, PySem.W.mg_of X G d_ri, F_ri.kp, b_ri⟩
  exact ok_law {
    T := b
    RP := FX.free_of X G x_rep (by simp)
    CE := N_cell
    PL := N_pool
    TK := N_take
    GR := N_ground
    EV := N_ev
    CL := N_cl
    HN := N_hn
    MD := N_made
    RI := N_ri
    MP := MPr
    gk := GK
    mkG := ⟨f_gi, _, FX.mk_of x_mk, FGI, bI⟩
    mkP := ⟨f_pi, _, dp, dsQ, FX.mk_of x_mkP, FPI, bP, bP1, vdsQ, emP⟩
    sm := ⟨.type "type", p_fu, f_fu, g_fu, ⟨x_rd, i_ga⟩, ⟨i_fu, r_fu, F_fu.kp⟩, ok_fu F_fu b GK (no _ (by simp)) N_pw, b_fu⟩
    gC := PySem.W.mg_of X G aC
    gP := PySem.W.mg_of X G aP
    ks := ks } hr hS (TabS.nil (hPT _ (List.mem_singleton.mpr rfl)))
theorem walk {l : PySem.W.OpenLaw} {q : Program} {loose : List Str} {XP : (Str → Option Value) → Heap → Prop} {YP : World → Heap → Prop} {d : DefRec} {K : Params → PySem.W.Frag} (hn : l.most = some 63) (hdf : d.params.defaults = []) (hrec : ((PyProof.Rows.recsOf q).any fun e => e.name == ("in_order" : Str)) = true)
    (hY : ∀ (w : World) (h : Heap), YP w h → (K w.params).In h)
    (F : ∀ (w : World) (mg : Str → Option Value) (fa : Addr) (h : Heap), (K w.params).In h → h.Ns mainGlobals mg → mg d.name = some (.ref fa) → (∀ f : Addr, mg "in_order" = some (.ref f) → OwnTab (K w.params) f h) → EndG.LawG l w (K w.params) 25 63 "_law_script" lawN mg fa h) :
    PySem.W.WalkO q loose XP YP l.row.toRowW d [] (fun f vs => PySem.call f vs) :=
  EndG.walk_gN (n := 63) (k := 25) (x := "_law_script") hn (by decide) hdf ⟨rfl, by decide, by decide⟩ hrec hY F
end K7
set_option Elab.async false
open PySem PySem.W PyProof.Rows
set_option maxRecDepth 100000 in
set_option maxHeartbeats 0 in
theorem PySem.Challenge.cw_freeworldrules_k07_permits_made_holds : PySem.Challenge.rw_freeworldrules_k07_permits_made.Holds := by
  w_on; o_law; k_headLK; (case hw => w_witness2)
  k_fill
  refine K7.walk (l := PySem.Challenge.rw_freeworldrules_k07_permits_made) rfl rfl (by kernel_rfl) (fun w h Y => PySem.W.kIn_of Y) ?F
  case F =>
    intro w mg fa h KX G hmg own
    refine' K7.all_mk KX G hmg own ?aC ?aP ?d_isL ?F_isL ?d_isN ?F_isN ?d_isNm ?F_isNm ?d_ckL ?F_ckL ?d_ckF ?F_ckF ?d_ckC ?F_ckC ?d_ft ?F_ft ?d_isF ?F_isF ?d_te ?F_te ?d_ebv ?F_ebv ?d_out ?F_out ?d_perm ?F_perm ?d_wb ?F_wb ?d_ra ?F_ra ?d_al ?F_al ?d_cr ?F_cr ?d_pw ?F_pw ?d_cell ?F_cell ?d_pool ?F_pool ?d_take ?F_take ?d_mixed ?F_mixed ?d_one ?F_one ?d_ground ?F_ground ?d_made ?F_made ?d_ev ?F_ev ?d_cl ?F_cl ?d_hn ?F_hn ?d_ri ?F_ri ?i_let ?F_let ?i_fix ?F_fix ?i_com ?F_com ?i_fac ?F_fac ?i_len ?F_len ?t_len ?i_has ?F_has ?t_has ?i_it ?F_it ?t_it ?i_eq ?F_eq ?t_eq ?i_prw ?F_prw ?i_pln ?F_pln ?t_pln ?i_phs ?F_phs ?t_phs ?i_pir ?F_pir ?t_pir ?i_peq ?F_peq ?t_peq ?i_fu ?r_fu ?F_fu ?i_gi ?F_gi ?i_pi ?F_pi ?d_io ?F_io ?x_code ?d_law ?F_law ?x_free ?x_rep ?x_signs ?x_parts ?x_cl ?x_no ?x_mk ?x_let ?x_fix ?x_com ?x_fac ?x_clP ?x_noP ?x_mkP ?x_prw ?i_ne ?i_mro ?i_cls ?i_neP ?i_mroP ?i_clsP ?i_get ?i_tk ?x_rd ?i_ga ?x_ks
    (case aC => k_is)
    (case aP => k_is)
    (case d_isL => k_is)
    (case F_isL => exact ⟨_, L2.fun_mk (by k_is) (by k_is) (by k_is)⟩)
    (case d_isN => k_is)
    (case F_isN => exact ⟨_, L2.fun_mk (by k_is) (by k_is) (by k_is)⟩)
    (case d_isNm => k_is)
    (case F_isNm => exact ⟨_, L2.fun_mk (by k_is) (by k_is) (by k_is)⟩)
    (case d_ckL => k_is)
    (case F_ckL => exact ⟨_, L2.fun_mk (by k_is) (by k_is) (by k_is)⟩)
    (case d_ckF => k_is)
    (case F_ckF => exact ⟨_, L2.fun_mk (by k_is) (by k_is) (by k_is)⟩)
    (case d_ckC => k_is)
    (case F_ckC => exact ⟨_, L2.fun_mk (by k_is) (by k_is) (by k_is)⟩)
    (case d_ft => k_is)
    (case F_ft => exact ⟨_, L2.fun_mk (by k_is) (by k_is) (by k_is)⟩)
    (case d_isF => k_is)
    (case F_isF => exact ⟨_, L2.fun_mk (by k_is) (by k_is) (by k_is)⟩)
    (case d_te => k_is)
    (case F_te => exact ⟨_, L2.fun_mk (by k_is) (by k_is) (by k_is)⟩)
    (case d_ebv => k_is)
    (case F_ebv => exact ⟨_, L2.fun_mk (by k_is) (by k_is) (by k_is)⟩)
    (case d_out => k_is)
    (case F_out => exact ⟨_, L2.fun_mk (by k_is) (by k_is) (by k_is)⟩)
    (case d_perm => k_is)
    (case F_perm => exact ⟨_, L2.fun_mk (by k_is) (by k_is) (by k_is)⟩)
    (case d_wb => k_is)
    (case F_wb => exact ⟨_, L2.fun_mk (by k_is) (by k_is) (by k_is)⟩)
    (case d_ra => k_is)
    (case F_ra => exact ⟨_, L2.fun_mk (by k_is) (by k_is) (by k_is)⟩)
    (case d_al => k_is)
    (case F_al => exact ⟨_, L2.fun_mk (by k_is) (by k_is) (by k_is)⟩)
    (case d_cr => k_is)
    (case F_cr => exact ⟨_, L2.fun_mk (by k_is) (by k_is) (by k_is)⟩)
    (case d_pw => k_is)
    (case F_pw => exact ⟨_, L2.fun_mk (by k_is) (by k_is) (by k_is)⟩)
    (case d_cell => k_is)
    (case F_cell => exact ⟨_, L2.fun_mk (by k_is) (by k_is) (by k_is)⟩)
    (case d_pool => k_is)
    (case F_pool => exact ⟨_, L2.fun_mk (by k_is) (by k_is) (by k_is)⟩)
    (case d_take => k_is)
    (case F_take => exact ⟨_, L2.fun_mk (by k_is) (by k_is) (by k_is)⟩)
    (case d_mixed => k_is)
    (case F_mixed => exact ⟨_, L2.fun_mk (by k_is) (by k_is) (by k_is)⟩)
    (case d_one => k_is)
    (case F_one => exact ⟨_, L2.fun_mk (by k_is) (by k_is) (by k_is)⟩)
    (case d_ground => k_is)
    (case F_ground => exact ⟨_, L2.fun_mk (by k_is) (by k_is) (by k_is)⟩)
    (case d_made => k_is)
    (case F_made => exact ⟨_, L2.fun_mk (by k_is) (by k_is) (by k_is)⟩)
    (case d_ev => k_is)
    (case F_ev => exact ⟨_, L2.fun_mk (by k_is) (by k_is) (by k_is)⟩)
    (case d_cl => k_is)
    (case F_cl => exact ⟨_, L2.fun_mk (by k_is) (by k_is) (by k_is)⟩)
    (case d_hn => k_is)
    (case F_hn => exact ⟨_, L2.fun_mk (by k_is) (by k_is) (by k_is)⟩)
    (case d_ri => k_is)
    (case F_ri => exact ⟨_, L2.fun_mk (by k_is) (by k_is) (by k_is)⟩)
    (case i_let => k_is)
    (case F_let => exact ⟨_, L2.fun_mk (by k_is) (by k_is) (by k_is)⟩)
    (case i_fix => k_is)
    (case F_fix => exact ⟨_, L2.fun_mk (by k_is) (by k_is) (by k_is)⟩)
    (case i_com => k_is)
    (case F_com => exact ⟨_, L2.fun_mk (by k_is) (by k_is) (by k_is)⟩)
    (case i_fac => k_is)
    (case F_fac => exact ⟨_, L2.fun_mk (by k_is) (by k_is) (by k_is)⟩)
    (case i_len => k_is)
    (case F_len => exact ⟨_, L2.fun_mk (by k_is) (by k_is) (by k_is)⟩)
    (case t_len => k_is)
    (case i_has => k_is)
    (case F_has => exact ⟨_, L2.fun_mk (by k_is) (by k_is) (by k_is)⟩)
    (case t_has => k_is)
    (case i_it => k_is)
    (case F_it => exact ⟨_, L2.fun_mk (by k_is) (by k_is) (by k_is)⟩)
    (case t_it => k_is)
    (case i_eq => k_is)
    (case F_eq => exact ⟨_, L2.fun_mk (by k_is) (by k_is) (by k_is)⟩)
    (case t_eq => k_is)
    (case i_prw => k_is)
    (case F_prw => exact ⟨_, L2.fun_mk (by k_is) (by k_is) (by k_is)⟩)
    (case i_pln => k_is)
    (case F_pln => exact ⟨_, L2.fun_mk (by k_is) (by k_is) (by k_is)⟩)
    (case t_pln => k_is)
    (case i_phs => k_is)
    (case F_phs => exact ⟨_, L2.fun_mk (by k_is) (by k_is) (by k_is)⟩)
    (case t_phs => k_is)
    (case i_pir => k_is)
    (case F_pir => exact ⟨_, L2.fun_mk (by k_is) (by k_is) (by k_is)⟩)
    (case t_pir => k_is)
    (case i_peq => k_is)
    (case F_peq => exact ⟨_, L2.fun_mk (by k_is) (by k_is) (by k_is)⟩)
    (case t_peq => k_is)
    (case i_fu => k_is)
    (case r_fu => exact ⟨_, by k_is⟩)
    (case F_fu => exact ⟨_, L2.fun_mk (by k_is) (by k_is) (by k_is)⟩)
    (case i_gi => k_is)
    (case F_gi => exact ⟨_, _, _, _, _, _, _, _, _, _, by k_is, by k_is, by kernel_rfl, by k_is⟩)
    (case i_pi => k_is)
    (case F_pi => exact ⟨_, _, _, _, _, _, _, _, _, _, by k_is, by k_is, by kernel_rfl, by k_is⟩)
    (case d_io => k_is)
    (case F_io => exact ⟨_, _, _, _, _, _, _, _, by k_is, by k_is, by k_is⟩)
    (case x_code => kernel_rfl)
    (case d_law => k_is)
    (case F_law => exact ⟨_, _, _, _, _, _, _, _, _, by k_is, by k_is, by k_is⟩)
    (case x_free => kernel_rfl)
    (case x_rep => kernel_rfl)
    (case x_signs => kernel_rfl)
    (case x_parts => kernel_rfl)
    (case x_cl => kernel_rfl)
    (case x_no => kernel_rfl)
    (case x_mk => kernel_rfl)
    (case x_let => kernel_rfl)
    (case x_fix => kernel_rfl)
    (case x_com => kernel_rfl)
    (case x_fac => kernel_rfl)
    (case x_clP => kernel_rfl)
    (case x_noP => kernel_rfl)
    (case x_mkP => kernel_rfl)
    (case x_prw => kernel_rfl)
    (case i_ne => k_is)
    (case i_mro => k_is)
    (case i_cls => k_is)
    (case i_neP => k_is)
    (case i_mroP => k_is)
    (case i_clsP => k_is)
    (case i_get => k_is)
    (case i_tk => k_is)
    (case x_rd => kernel_rfl)
    (case i_ga => k_is)
    (case x_ks => kernel_rfl)
