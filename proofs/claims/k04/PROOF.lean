import PyProof.Rows.All
import Wide.All
import OpenK.AllK
import Wide.FinOn
import HandS.ForMost
import HandS.IsInst
import HandS.Exc
import HandS.Deep
import HandS.Star
import KE.GoesEnum
import HandS.Walk
import HandS.TupAny
import HandS.ExcInit
import HandS.ExcField
import KE.KDictKeyed
import KE.KDictCopyH
import KE.KDictList
import KE.KeyNested
import HandS.StrMore
import HandS.Dict
import HandS.Comp
import HandS.WordsExc
import HandS.TryMany
import PyProof.StrLawsIn
import PyProof.NeKinds
import HandS.HeadHook3
import HandS.EndOwn
import HandS.Defaults
import PyProof.TupleOfSeq
import HandS.ExcValue
import HandS.ExcOwn
import HandS.DictComp
import PyProof.ReprLen
import PyProof.ReprRoads
import HandS.Words
import HandS.Lambda
import KE.OsRunLaw
import PySem.Challenge.RW_freeworldrules_k04_terms_checked
set_option Elab.async false
set_option linter.all false
set_option maxRecDepth 100000
set_option maxHeartbeats 4000000
/-! What the laws' own helpers lean on: heaps with some places hidden, pools, promises. -/
namespace GB
open PySem PySem.Spec L2
/-- the heap without the places that others may change -/
def hid (ps : List Addr) (H : Hp) : Hp := fun b => if b ∈ ps then none else H b
theorem hid_in {ps : List Addr} {H : Hp} {b : Addr} {o : HO} (e : hid ps H b = some o) : H b = some o ∧ b ∉ ps := by
  unfold hid at e
  split at e
  · cases e
  · rename_i h; exact ⟨e, h⟩
theorem hid_of {ps : List Addr} {H : Hp} {b : Addr} (h : b ∉ ps) : hid ps H b = H b := if_neg h
theorem hid_to {ps : List Addr} {H : Hp} {b : Addr} {o : HO} (h : b ∉ ps) (e : H b = some o) : hid ps H b = some o := by rw [hid_of h]; exact e
theorem hid_low (ps : List Addr) (H : Hp) : Same (hid ps H) H := fun b o e => (hid_in e).1
theorem hid_less {ps qs : List Addr} {H : Hp} (h : ∀ p ∈ qs, p ∈ ps) : Same (hid ps H) (hid qs H) := fun b o e => by
  obtain ⟨e1, n⟩ := hid_in e
  exact hid_to (fun m => n (h b m)) e1
theorem hid_same {ps : List Addr} {H H' : Hp} (s : Same H H') : Same (hid ps H) (hid ps H') := fun b o e => by
  obtain ⟨e1, n⟩ := hid_in e
  exact hid_to n (s b o e1)
/-- all but these places stands as it was -/
abbrev Bt (ps : List Addr) (H H' : Hp) : Prop := Same (hid ps H) (hid ps H')
theorem bt_upd {ps : List Addr} {H : Hp} {a : Addr} {o : HO} (h : a ∈ ps) : Bt ps H (upd H a o) := fun b u e => by
  obtain ⟨e1, n⟩ := hid_in e
  have : b ≠ a := fun z => n (by rw [z]; exact h)
  exact hid_to n (by rw [upd_ne this]; exact e1)
theorem bt_weak {ps qs : List Addr} {H H' : Hp} (h : ∀ p ∈ qs, p ∈ ps) (s : Bt qs H H') : Bt ps H H' := fun b o e => by
  obtain ⟨e1, n⟩ := hid_in e
  have nq : b ∉ qs := fun m => n (h b m)
  exact hid_to n (hid_in (s b o (hid_to nq e1))).1
theorem bt_of {ps : List Addr} {H H' : Hp} (s : Same H H') : Bt ps H H' := hid_same s
theorem bt_at {ps : List Addr} {H H' : Hp} {a : Addr} {o : HO} (s : Bt ps H H') (n : a ∉ ps) (e : H a = some o) : H' a = some o := (hid_in (s a o (hid_to n e))).1
/-- a new object is laid -/
theorem lay {H : Hp} {a : Addr} {o : HO} (n : H a = none) : ∃ H', Same H H' ∧ H' a = some o ∧ upd H a o = H' := ⟨_, fun b u e => by rw [upd_ne (ne_of_none e n)]; exact e, upd_same, rfl⟩
theorem ni1 {a p : Addr} (h : a ≠ p) : a ∉ [p] := fun m => h (List.mem_singleton.mp m)
theorem Same.seqT {K : PySem.W.Frag} {H H' : Hp} {a : Addr} {xs : List V} (e : Same H H') (h : SqT K H a xs) : SqT K H' a xs := by
  rcases h with (h | ⟨o, h⟩) | h
  · exact .inl (.inl (e _ _ h))
  · exact .inl (.inr ⟨o, e _ _ h⟩)
  · exact .inr h
def poolV (a b c : Int) : List V := [.int a, .int b, .int c]
/-- a pool at p, drawn from n times at most -/
structure PoolIs (H : Hp) (p : Addr) (n : Nat) : Prop where
  ex : ∃ a b c : Int, H p = some (.lst (poolV a b c)) ∧ 0 ≤ a ∧ 0 ≤ b ∧ b < 1000000007 ∧ 0 ≤ c ∧ c ≤ n
theorem PoolIs.mono {H H' : Hp} {p : Addr} {n m : Nat} (s : Same H H') (h : n ≤ m) (P : PoolIs H p n) : PoolIs H' p m := by
  obtain ⟨a, b, c, e, h1, h2, h3, h4, h5⟩ := P
  exact ⟨a, b, c, s _ _ e, h1, h2, h3, h4, by omega⟩
theorem PoolIs.ne {H : Hp} {p a : Addr} {n : Nat} (P : PoolIs H p n) (h : H a = none) : a ≠ p := by
  obtain ⟨x, y, z, e, _⟩ := P
  exact (ne_of_none e h).symm
def spCell (K : PySem.W.Frag) : Sp := fun vs H Q _ => ∃ (a : Addr) (ns : List Int) (k : Nat), vs = [.ref a, .int k] ∧ SqL K H a (ns.map V.int) ∧ ∀ z, Q (.int z) H
def spPool : Sp := fun vs H Q _ => ∃ g : Int, vs = [.int g] ∧ ∀ p H', H p = none → Same H H' → PoolIs H' p 0 → Q (.ref p) H'
/-- a draw: below m -/
def spTake : Sp := fun vs H Q _ => ∃ (p : Addr) (m : Int) (n : Nat), vs = [.ref p, .int m] ∧ 0 < m ∧ m < 1000000 ∧ n ≤ 1000000 ∧ PoolIs H p n ∧
  ∀ (r : Nat) H', (r : Int) < m → Bt [p] H H' → PoolIs H' p (n + 1) → Q (.int r) H'
structure Fns (P : Program) (w : World) (K : PySem.W.Frag) (mg : Str → Option Value) (base : Heap) (n : Str) (k : Nat) (ps : List Str) (sp : Sp) : Prop where
  ex : ∃ (f : Addr) (fd : FuncData), FnOk P w K mg base CX0 k f fd ps sp ∧ mg n = some (.ref f) ∧ PySem.W.keepIn K (.ref f) = true ∧ Binds K fd ps []
section
variable {X : Cx} {n : Str} {k j : Nat} {ps : List Str} {sp : Sp} {e : Expr} {es : List Expr} {p pos : Pos} {t : TA}
theorem pe_fn (F : Fns X.prog X.w X.K X.mg X.base n k ps sp) (hr : Room j X.A) (hk : k ≤ j) (hg : Gl X n) (ha : PA X (e :: es) t) (hdb : (n == ("__debug__" : Str)) = false := by decide)
    (he : starEach (e :: es) X.env = (false, eval e X.env) :: starEach es X.env := by rfl) (hpl : (backTo pos (starEach es X.env)).any (·.1) = false := by rfl) : PE X (.Call (.Name n p) (e :: es) [] pos) (tCall sp [] E0 t) := by
  obtain ⟨f, fd, G, m, kp, b⟩ := F.ex
  exact pe_call G (hr.mono hk) hg m kp b .nil pass0 ha hdb he hpl
end
/-- the built-ins' names, as the module leaves them -/
structure Bl (mg : Str → Option Value) : Prop where
  len : mg "len" = none
  int : mg "int" = none
  list : mg "list" = none
  tuple : mg "tuple" = none
  dict : mg "dict" = none
  range : mg "range" = none
  sorted : mg "sorted" = none
  isi : mg "isinstance" = none
  bool : mg "bool" = none
  str : mg "str" = none
  all : mg "all" = none
  any : mg "any" = none
  enum : mg "enumerate" = none
/-- the things in an order of its own -/
def spMixed (K : PySem.W.Frag) : Sp := fun vs H Q _ => ∃ (p t : Addr) (xs : List V) (n : Nat), vs = [.ref p, .ref t] ∧ SqL K (hid [p] H) t xs ∧ xs.length ≤ 60 ∧ n + 60 ≤ 1000000 ∧ PoolIs H p n ∧
  ∀ (q : Addr) (ys : List V) H', ys.Perm xs → H q = none → Bt [p] H H' → H' q = some (.lst ys) → PoolIs H' p (n + 60) → Q (.ref q) H'
/-- one of the things -/
def spOne (K : PySem.W.Frag) : Sp := fun vs H Q _ => ∃ (p t : Addr) (xs : List V) (n : Nat), vs = [.ref p, .ref t] ∧ SqL K (hid [p] H) t xs ∧ xs ≠ [] ∧ xs.length ≤ 100000 ∧ n + 1 ≤ 1000000 ∧ PoolIs H p n ∧
  ∀ (v : V) H', v ∈ xs → Bt [p] H H' → PoolIs H' p (n + 1) → Q v H'
theorem cut_to (xs : List V) (r : Nat) (h : r ≤ xs.length) : cutV xs none (some (r : Int)) = xs.take r := by
  unfold cutV
  rw [HT.sIx_none, HT.sIx_nat, List.drop_zero, Nat.min_eq_left h, Nat.sub_zero]
theorem cut_from (xs : List V) (r : Nat) : cutV xs (some (r : Int)) none = xs.drop r := by
  unfold cutV
  rw [HT.sIx_none, HT.sIx_nat]
  by_cases h : r ≤ xs.length
  · rw [Nat.min_eq_left h, List.take_of_length_le]
    rw [List.length_drop]; exact Nat.le_refl _
  · rw [Nat.min_eq_right (by omega), List.drop_of_length_le (Nat.le_refl _), List.drop_of_length_le (by omega)]
    simp
theorem perm_out {α : Type} {left : List α} {r : Nat} {v : α} (fs : List α) (h : left[r]? = some v) : ((fs ++ [v]) ++ (left.take r ++ left.drop (r + 1))).Perm (fs ++ left) := by
  obtain ⟨hr, rfl⟩ := List.getElem?_eq_some_iff.mp h
  rw [List.append_assoc]
  refine List.Perm.append_left fs ?_
  have e : left = left.take r ++ left[r] :: left.drop (r + 1) := by
    rw [← List.drop_eq_getElem_cons hr, List.take_append_drop]
  conv => rhs; rw [e]
  show (left[r] :: (left.take r ++ left.drop (r + 1))).Perm _
  exact List.perm_middle.symm
end GB
set_option Elab.async false
set_option linter.all false
set_option maxRecDepth 100000
set_option maxHeartbeats 4000000
/-! The laws' grounds as plain data, and where they stand. -/
namespace GB
open PySem PySem.Spec L2
structure Fact where
  x : Str
  vals : List Str
  kind : Str
  en : Str
structure GD where
  letters : List (Str × Nat)
  fixed : List Str
  comm : List Str
  facts : List Fact
def nm8 : List Str := ["x", "y", "z", "plus", "if", "name", "abcdefgh", "fail"]
def va3 : List Str := ["one", "two", "false"]
def sort2 : List Str → List Str
  | [a, b] => if PyProof.Rows.sortedS [a, b] = true then [a, b] else [b, a]
  | l => l
theorem perm2 {α : Type} {a b : α} : ∀ {l : List α}, l.Perm [a, b] → l = [a, b] ∨ l = [b, a]
  | [], h => by have := h.length_eq; simp at this
  | [x], h => by have := h.length_eq; simp at this
  | [x, y], h => by
    have hx : x ∈ [a, b] := h.subset List.mem_cons_self
    rcases List.mem_cons.mp hx with rfl | hx
    · have := List.Perm.cons_inv h
      exact .inl (by rw [List.perm_singleton.mp this])
    · obtain rfl := List.mem_singleton.mp hx
      have h2 : [x, y].Perm [x, a] := h.trans (List.Perm.swap _ _ _)
      have := List.Perm.cons_inv h2
      exact .inr (by rw [List.perm_singleton.mp this])
  | x :: y :: z :: r, h => by have := h.length_eq; simp at this
theorem two_sorted : ∀ a ∈ va3, ∀ b ∈ va3, (PyProof.Rows.sortedS [a, b] = true ∧ (PyProof.Rows.sortedS [b, a] = true → [b, a] = [a, b])) ∨ (PyProof.Rows.sortedS [a, b] = false ∧ PyProof.Rows.sortedS [b, a] = true) := by decide
/-- the one order of at most two such texts -/
theorem sort2_of {ys vs : List Str} (hp : ys.Perm vs) (hs : PyProof.Rows.sortedS ys = true) (hl : vs.length ≤ 2) (hv : ∀ v ∈ vs, v ∈ va3) : ys = sort2 vs := by
  match vs, hl, hp, hv with
  | [], _, hp, _ => exact hp.eq_nil
  | [a], _, hp, _ => exact List.perm_singleton.mp hp
  | [a, b], _, hp, hv =>
    have ha := hv a List.mem_cons_self
    have hb := hv b (List.mem_cons_of_mem _ List.mem_cons_self)
    show ys = if PyProof.Rows.sortedS [a, b] = true then [a, b] else [b, a]
    rcases perm2 hp with rfl | rfl
    · rw [if_pos hs]
    · rcases two_sorted a ha b hb with ⟨h1, h2⟩ | ⟨h1, h2⟩
      · rw [if_pos h1]; exact h2 hs
      · rw [if_neg (by rw [h1]; exact Bool.false_ne_true)]
theorem sort2_perm (l : List Str) : (sort2 l).Perm l := by
  match l with
  | [] => exact List.Perm.refl _
  | [a] => exact List.Perm.refl _
  | [a, b] =>
    show (if PyProof.Rows.sortedS [a, b] = true then [a, b] else [b, a]).Perm [a, b]
    split
    · exact List.Perm.refl _
    · exact List.Perm.swap _ _ _
  | a :: b :: c :: r => exact List.Perm.refl _
theorem paired_app {α β : Type} {R : α → β → Prop} : ∀ {l l' : List α} {m m' : List β}, Paired R l m → Paired R l' m' → Paired R (l ++ l') (m ++ m')
  | _, _, _, _, .nil, s => s
  | _, _, _, _, .cons r t, s => .cons r (paired_app t s)
def GD.asked (g : GD) (f : Fact) : Str × List Str := (f.x, if f.x ∈ g.comm then sort2 f.vals else f.vals)
structure Fact.Ok (ls : List (Str × Nat)) (fx : List Str) (f : Fact) : Prop where
  x : f.x ∈ fx
  len : ∃ k, (f.x, k) ∈ ls ∧ f.vals.length = k
  vals : ∀ v ∈ f.vals, v ∈ va3
  kind : f.kind = "value" ∨ f.kind = "fail"
  en : f.en = "one" ∨ f.en = "false"
structure GD.Wf (g : GD) : Prop where
  ne : g.letters ≠ []
  nd : (g.letters.map (·.1)).Nodup
  nm : ∀ q ∈ g.letters, q.1 ∈ nm8
  ar : ∀ q ∈ g.letters, q.2 ≤ 2
  fx : g.fixed.Sublist (g.letters.map (·.1))
  nf : g.letters.length ≤ g.fixed.length + 3
  cm : g.comm.Sublist g.fixed
  c2 : ∀ x ∈ g.comm, (x, 2) ∈ g.letters
  fl : g.facts.length ≤ 6
  fa : ∀ f ∈ g.facts, f.Ok g.letters g.fixed
  fd : (g.facts.map g.asked).Nodup
def lkv (ls : List (Str × Nat)) : List (Key × V) := ls.map fun q => (Sum.inr q.1, V.int q.2)
def sts (l : List Str) : List V := l.map V.str
structure FactAt (H : Hp) (f : Fact) (t : Addr) : Prop where
  ex : ∃ v e : Addr, H t = some (.tup [.str f.x, .ref v, .ref e]) ∧ H v = some (.tup (sts f.vals)) ∧ H e = some (.tup [.str f.kind, .str f.en])
def FactsAt (H : Hp) (a : Addr) (fs : List Fact) : Prop := ∃ ts : List Addr, H a = some (.lst (ts.map V.ref)) ∧ Paired (FactAt H) fs ts
theorem FactAt.mono {H H' : Hp} {f : Fact} {t : Addr} (s : Same H H') (h : FactAt H f t) : FactAt H' f t := let ⟨v, e, h1, h2, h3⟩ := h.ex; ⟨v, e, s _ _ h1, s _ _ h2, s _ _ h3⟩
/-- the law's dict of a ground -/
structure IsG (H : Hp) (g : Addr) (d : GD) : Prop where
  ex : ∃ aL aF aC aT : Addr, H g = some (.dK [(.inr "letters", .ref aL), (.inr "fixed", .ref aF), (.inr "commuting", .ref aC), (.inr "facts", .ref aT)]) ∧ H aL = some (.dK (lkv d.letters)) ∧ H aF = some (.lst (sts d.fixed)) ∧
    H aC = some (.lst (sts d.comm)) ∧ FactsAt H aT d.facts
theorem FactsAt.mono {H H' : Hp} {fs : List Fact} {t : Addr} (s : Same H H') (h : FactsAt H t fs) : FactsAt H' t fs := let ⟨ts, h1, h2⟩ := h; ⟨ts, s _ _ h1, Paired.mapP h2 fun _ _ r => r.mono s⟩
theorem IsG.mono {H H' : Hp} {d : GD} {g : Addr} (s : Same H H') (h : IsG H g d) : IsG H' g d :=
  let ⟨aL, aF, aC, aT, h1, h2, h3, h4, h5⟩ := h.ex
  ⟨aL, aF, aC, aT, s _ _ h1, s _ _ h2, s _ _ h3, s _ _ h4, h5.mono s⟩
theorem valV_lkv : ∀ {ls : List (Str × Nat)} {x : Str} {k : Nat}, (ls.map (·.1)).Nodup → (x, k) ∈ ls → valV (lkv ls) (.inr x : Key) = some (.int k)
  | [], x, k, _, h => nomatch h
  | q :: r, x, k, nd, h => by
    have nd' := List.nodup_cons.mp nd
    rcases List.mem_cons.mp h with rfl | h
    · exact valV_pos rfl
    · have ne : ¬ ((Sum.inr q.1 : Key) = .inr x) := fun e => nd'.1 (by
        have e' : q.1 = x := Sum.inr.inj e
        show q.1 ∈ r.map (·.1)
        rw [e']
        exact List.mem_map.mpr ⟨(x, k), h, rfl⟩)
      show valV ((Sum.inr q.1, V.int q.2) :: lkv r) (.inr x : Key) = some (.int k)
      rw [valV_neg ne]
      exact valV_lkv nd'.2 h
theorem valV_no : ∀ {ls : List (Str × Nat)} {x : Str}, x ∉ ls.map (·.1) → valV (lkv ls) (.inr x : Key) = none
  | [], x, _ => rfl
  | q :: r, x, h => by
    have ne : ¬ ((Sum.inr q.1 : Key) = .inr x) := fun e => h (by
      have e' : q.1 = x := Sum.inr.inj e
      rw [← e']
      exact List.mem_cons_self)
    show valV ((Sum.inr q.1, V.int q.2) :: lkv r) (.inr x : Key) = none
    rw [valV_neg ne]
    exact valV_no fun m => h (List.mem_cons_of_mem _ m)
def unstr : V → Str
  | .str s => s
  | _ => ""
theorem sts_perm {ys : List V} {l : List Str} (h : ys.Perm (sts l)) : ∃ ns : List Str, ys = sts ns ∧ ns.Perm l := by
  refine ⟨ys.map unstr, ?_, ?_⟩
  · unfold sts
    rw [List.map_map]
    conv => lhs; rw [← List.map_id ys]
    refine List.map_congr_left fun v hv => ?_
    obtain ⟨s, _, rfl⟩ := List.mem_map.mp (h.subset hv)
    rfl
  · have := h.map unstr
    unfold sts at this
    rw [List.map_map] at this
    have e : l.map (unstr ∘ V.str) = l := by
      conv => rhs; rw [← List.map_id l]
      exact List.map_congr_left fun s _ => rfl
    rwa [e] at this
theorem sts_at {l : List Str} {i : Nat} {x : V} (h : (sts l)[i]? = some x) : ∃ s, l[i]? = some s ∧ x = .str s := by
  unfold sts at h
  rw [List.getElem?_map] at h
  cases e : l[i]? with
  | none => rw [e] at h; cases h
  | some s => rw [e] at h; exact ⟨s, rfl, (Option.some.inj h).symm⟩
theorem sts_len (l : List Str) : (sts l).length = l.length := List.length_map _
theorem mem_sts {v : V} {l : List Str} (h : v ∈ sts l) : ∃ s ∈ l, v = .str s := by
  obtain ⟨s, hs, rfl⟩ := List.mem_map.mp h
  exact ⟨s, hs, rfl⟩
end GB
set_option Elab.async false
set_option linter.all false
set_option maxRecDepth 100000
set_option maxHeartbeats 4000000
/-! Data of texts, lists and pairs as the comparisons read them. -/
namespace GB
open PySem PySem.Spec L2 PyProof.Rows
def pst (l : List Str) : List PyData := l.map PyData.str
theorem eqvAll_pst : ∀ a b : List Str, PyData.eqvAll (pst a) (pst b) = decide (a = b)
  | [], [] => by simp [pst, PyData.eqvAll]
  | [], _ :: _ => by simp [pst, PyData.eqvAll]
  | _ :: _, [] => by simp [pst, PyData.eqvAll]
  | x :: a, y :: b => by
    have ih := eqvAll_pst a b
    show (PyData.eqv (.str x) (.str y) && PyData.eqvAll (pst a) (pst b)) = _
    rw [ih, PyData.eqv]
    by_cases h : x = y
    · subst h
      by_cases h2 : a = b
      · subst h2; simp
      · rw [decide_eq_false h2, decide_eq_false fun e => h2 (List.cons.inj e).2, Bool.and_false]
    · rw [decide_eq_false fun e => h (List.cons.inj e).1, (beq_eq_false_iff_ne.mpr h : (x == y) = false), Bool.false_and]
def kd (a : Str × List Str) : PyData := .tuple [.str a.1, .list (pst a.2)]
theorem kd_eqv (a b : Str × List Str) : PyData.eqv (kd a) (kd b) = decide (a = b) := by
  obtain ⟨x, l⟩ := a
  obtain ⟨y, m⟩ := b
  show PyData.eqv (.tuple [.str x, .list (pst l)]) (.tuple [.str y, .list (pst m)]) = _
  simp only [PyData.eqv, PyData.eqvAll, Bool.and_true]
  rw [eqvAll_pst]
  by_cases h : x = y
  · subst h
    by_cases h2 : l = m
    · subst h2; simp
    · rw [decide_eq_false h2, decide_eq_false fun e => h2 (Prod.mk.inj e).2, Bool.and_false]
  · rw [decide_eq_false fun e => h (Prod.mk.inj e).1, (beq_eq_false_iff_ne.mpr h : (x == y) = false), Bool.false_and]
theorem lay_pst : ∀ {l : List Str}, (∀ v ∈ l, PyData.strOk v = true) → PyData.canLayAll0 (pst l) = true
  | [], _ => rfl
  | x :: r, h => by
    show (PyData.canLay0 (.str x) && PyData.canLayAll0 (pst r)) = true
    rw [lay_pst fun v hv => h v (List.mem_cons_of_mem _ hv), PyData.canLay0, h x List.mem_cons_self]
    rfl
theorem dep_pst : ∀ l : List Str, PyData.depthAll (pst l) = 0
  | [] => rfl
  | x :: r => by
    show max (PyData.depth (.str x)) (PyData.depthAll (pst r)) = 0
    rw [dep_pst r, PyData.depth]
    rfl
/-- texts that can be laid -/
def OkS (a : Str × List Str) : Prop := PyData.strOk a.1 = true ∧ ∀ v ∈ a.2, PyData.strOk v = true
theorem lay_kd {a : Str × List Str} (h : OkS a) : PyData.canLay0 (kd a) = true := by
  show PyData.canLay0 (.tuple [.str a.1, .list (pst a.2)]) = true
  simp only [PyData.canLay0, PyData.canLayAll0, Bool.and_true]
  rw [h.1, lay_pst h.2]
  rfl
theorem dep_kd (a : Str × List Str) : PyData.depth (kd a) = 2 := by
  show PyData.depth (.tuple [.str a.1, .list (pst a.2)]) = 2
  simp only [PyData.depth, PyData.depthAll]
  rw [dep_pst]
  rfl
theorem sh_kd {a : Str × List Str} (h : OkS a) : SeqAt.shaped (kd a) = true := by
  unfold SeqAt.shaped
  rw [lay_kd h, dep_kd]
  rfl
theorem lay_kds : ∀ {l : List (Str × List Str)}, (∀ a ∈ l, OkS a) → PyData.canLayAll0 (l.map kd) = true
  | [], _ => rfl
  | a :: r, h => by
    show (PyData.canLay0 (kd a) && PyData.canLayAll0 (r.map kd)) = true
    rw [lay_kd (h a List.mem_cons_self), lay_kds fun b hb => h b (List.mem_cons_of_mem _ hb)]
    rfl
theorem dep_kds : ∀ l : List (Str × List Str), PyData.depthAll (l.map kd) ≤ 2
  | [] => by decide
  | a :: r => by
    show max (PyData.depth (kd a)) (PyData.depthAll (r.map kd)) ≤ 2
    rw [dep_kd]
    have := dep_kds r
    omega
theorem sh_kds {l : List (Str × List Str)} (h : ∀ a ∈ l, OkS a) : SeqAt.shaped (.list (l.map kd)) = true := by
  unfold SeqAt.shaped
  have e : PyData.canLay0 (.list (l.map kd)) = true := by rw [PyData.canLay0]; exact lay_kds h
  have d : PyData.depth (.list (l.map kd)) ≤ 64 := by
    rw [PyData.depth]
    have := dep_kds l
    omega
  rw [e, decide_eq_true d]
  rfl
theorem sh_pst {l : List Str} (h : ∀ v ∈ l, PyData.strOk v = true) : SeqAt.shaped (.list (pst l)) = true := by
  unfold SeqAt.shaped
  have e : PyData.canLay0 (.list (pst l)) = true := by rw [PyData.canLay0]; exact lay_pst h
  rw [e, PyData.depth, dep_pst]
  rfl
theorem any_kd (l : List (Str × List Str)) (a : Str × List Str) : ((l.map kd).any fun z => PyData.eqv z (kd a)) = decide (a ∈ l) := by
  induction l with
  | nil => rfl
  | cons b r ih =>
    rw [List.map_cons, List.any_cons, ih, kd_eqv]
    by_cases h : b = a
    · subst h; simp
    · rw [decide_eq_false h, Bool.false_or]
      have : (a ∈ b :: r) = (a ∈ r) := propext ⟨fun m => (List.mem_cons.mp m).resolve_left fun e => h e.symm, List.mem_cons_of_mem _⟩
      simp only [this]
theorem ok8 : ∀ x ∈ nm8, PyData.strOk x = true := by decide +kernel
theorem ok3 : ∀ x ∈ va3, PyData.strOk x = true := by decide +kernel
theorem dp_sts {K : PySem.W.Frag} {H : Hp} : ∀ l : List Str, DpAll K H (sts l) (pst l)
  | [] => .nil
  | x :: r => .cons (.str x) (dp_sts r)
theorem ne_nil (l : List Str) : (!PyData.eqv (.list (pst l)) (.list [])) = decide (l ≠ []) := by
  cases l with
  | nil => simp [pst, PyData.eqv, PyData.eqvAll]
  | cons x r => simp [pst, PyData.eqv, PyData.eqvAll]
theorem inV_sts (x : Str) (l : List Str) : inV (.str x) (sts l) = decide (x ∈ l) := by
  unfold inV sts
  induction l with
  | nil => rfl
  | cons y r ih =>
    rw [List.map_cons, List.any_cons, ih]
    by_cases h : y = x
    · subst h
      simp [eqV]
    · have e : eqV (.str y) (.str x) = false := by
        simp [eqV, h]
      rw [e, Bool.false_or]
      have : (x ∈ y :: r) = (x ∈ r) := propext ⟨fun m => (List.mem_cons.mp m).resolve_left fun e => h e.symm, List.mem_cons_of_mem _⟩
      simp only [this]
theorem flat_sts (l : List Str) : (sts l).all flatV = true := by
  unfold sts
  rw [List.all_map]
  exact List.all_eq_true.mpr fun x _ => rfl
end GB
set_option Elab.async false
set_option linter.all false
set_option maxRecDepth 100000
set_option maxHeartbeats 4000000
namespace GB
open PySem PySem.Spec L2
theorem dpa_mono {K : PySem.W.Frag} {H H' : Hp} (s : Same H H') : (∀ (d : PyData) (v : V), Dp K H v d → Dp K H' v d) ∧ (∀ (ds : List PyData) (vs : List V), DpAll K H vs ds → DpAll K H' vs ds) := by
  have key : ∀ n, (∀ (d : PyData) (v : V), sizeOf d ≤ n → Dp K H v d → Dp K H' v d) ∧ (∀ (ds : List PyData) (vs : List V), sizeOf ds ≤ n → DpAll K H vs ds → DpAll K H' vs ds) := by
    intro n
    induction n with
    | zero =>
      refine ⟨fun d v hn => ?_, fun ds vs hn => ?_⟩
      · cases d <;> simp at hn
      · cases ds <;> simp at hn
    | succ n ih =>
      have hl : ∀ (ds : List PyData) (vs : List V), sizeOf ds ≤ n → DpAll K H vs ds → DpAll K H' vs ds := ih.2
      have h1 : ∀ (d : PyData) (v : V), sizeOf d ≤ n + 1 → Dp K H v d → Dp K H' v d := fun d v hn h => by
        cases h with
        | non => exact .non
        | bl b => exact .bl b
        | int i => exact .int i
        | str x => exact .str x
        | lst h1 h2 => exact .lst (s.seq h1) (hl _ _ (by simp at hn; omega) h2)
        | tup h1 h2 => exact .tup (Same.seqT s h1) (hl _ _ (by simp at hn; omega) h2)
      refine ⟨h1, fun ds vs hn h => ?_⟩
      cases h with
      | nil => exact .nil
      | cons a b => exact .cons (h1 _ _ (by simp at hn; omega) a) (hl _ _ (by simp at hn; omega) b)
  exact ⟨fun d v => (key (sizeOf d)).1 d v (Nat.le_refl _), fun ds vs => (key (sizeOf ds)).2 ds vs (Nat.le_refl _)⟩
theorem dp_mono {K : PySem.W.Frag} {H H' : Hp} {d : PyData} {v : V} (s : Same H H') (h : Dp K H v d) : Dp K H' v d := (dpa_mono s).1 d v h
theorem dps_mono {K : PySem.W.Frag} {H H' : Hp} {d : List PyData} {v : List V} (s : Same H H') (h : DpAll K H v d) : DpAll K H' v d := (dpa_mono s).2 d v h
theorem dps_app {K : PySem.W.Frag} {H : Hp} : ∀ {vs ws : List V} {ds es : List PyData}, DpAll K H vs ds → DpAll K H ws es → DpAll K H (vs ++ ws) (ds ++ es)
  | _, _, _, _, .nil, h => h
  | _, _, _, _, .cons a b, h => .cons a (dps_app b h)
end GB
set_option Elab.async false
set_option linter.all false
set_option maxRecDepth 100000
set_option maxHeartbeats 4000000
/-! enumerate over a tuple, or over a list or a tuple. -/
namespace GB
open PySem PySem.Spec L2 PyProof.Rows
open Sem (wp)
theorem meets_enum1 {v : Value} {o : Obj} {H : Heap → Prop} (B : Begins v o H) :
    Meets (Builtin.«enumerate.__new__» ⟨[.type "enumerate", v], []⟩) (fun _ R s => H s.heap ∧
      R (.ok (.ret (.ref (s.heap.push o).objs.size))) { s with heap := (s.heap.push o).push { cls := .type "enumerate", data := .fields #[.none, .bool false, .ref s.heap.objs.size, rawInt 0, .none, .none] } }) :=
  .of_wp fun prog w A R s h => by
    obtain ⟨hp, g, d, tk, os⟩ := s; obtain ⟨h1, h⟩ := h
    have hsub := sub_enumerate
    have q1 : ∀ {A' : Around} {E : Value → Shared → Prop} {Q : Value → Shared → Prop}, Q (.ref hp.objs.size) ⟨hp.push o, g, d, tk, os⟩ → wpAny (model prog w) A' (pyIter v) Q E ⟨hp, g, d, tk, os⟩ :=
      fun q => B.iter prog w _ _ ⟨hp, g, d, tk, os⟩ _ h1 q
    wp_walk using q1
    refine wpAny_stack_any fun st => wpAny_pure ?_
    split
    · rename_i c _ _ _ _ _
      cases (c == Value.type "enumerate")
      · wp_walk using q1
        exact ⟨_, rfl, h⟩
      · wp_walk using q1
        exact ⟨_, rfl, h⟩
    · wp_walk using q1
      exact ⟨_, rfl, h⟩
theorem call_enum1 {prog : Program} {w : World} {A : Around} {E : Value → Shared → Prop} {s : Shared} {v : Value} {o : Obj} {H : Heap → Prop} {Q : Value → Shared → Prop} (B : Begins v o H) (h1 : H s.heap)
    (h : ∀ h', IsEnum h' (s.heap.objs.size + 1) s.heap.objs.size 0 .none → h'.get? s.heap.objs.size = some o → h'.objs.size = s.heap.objs.size + 2 →
      (∀ b o, s.heap.get? b = some o → h'.get? b = some o) → Q (.ref (s.heap.objs.size + 1)) { s with heap := h' }) :
    wpAny (model prog w) A (call (.type "enumerate") [v]) Q E s := by
  refine callType_new F.called_enumerate (by decide) (F.typeCall_enumerate_1 _) (F.newCall_enumerate_1 _) (fun obj => F.args_object_init_2 obj _) F.entry_enumerate_new
    (meets_enum1 B) ⟨h1, ?_⟩
  have hz : (s.heap.push o).objs.size = s.heap.objs.size + 1 := Heap.size_push ..
  show _ ∧ _
  rw [hz]
  have he : IsEnum ((s.heap.push o).push { cls := .type "enumerate", data := .fields #[.none, .bool false, .ref s.heap.objs.size, rawInt 0, .none, .none] }) (s.heap.objs.size + 1) s.heap.objs.size 0 .none := by
    have := Heap.get?_push_size (s.heap.push o) (o := { cls := .type "enumerate", data := .fields #[.none, .bool false, .ref s.heap.objs.size, rawInt 0, .none, .none] }) rfl
    rw [hz] at this; exact this
  refine ⟨⟨_, he, rfl⟩, h _ he (Heap.get?_push_of_some _ (Heap.get?_push_size _ B.free)) (by rw [Heap.size_push, hz]) fun b o x => Heap.get?_push_of_some _ (Heap.get?_push_of_some _ x)⟩
/-- the tuple at a as it stands at each turn, each item in a new pair -/
def Itet (K : PySem.W.Frag) (a : Addr) : It :=
  ⟨fun i H => ∃ (xs : List V) (x : V), SqT K H a xs ∧ xs[i]? = some x, fun i H v H' => ∃ T x, v = .ref T ∧ H T = none ∧ H' = upd H T (.tup [.int (i : Nat), x]) ∧ ∀ xs, SqT K H a xs → xs[i]? = some x, fun i H => ∃ xs : List V, SqT K H a xs ∧ xs.length ≤ i⟩
theorem turn_enumT {P : Program} {w : World} {K : PySem.W.Frag} {elts : List Expr} {kk : Nat} {tpos : Pos} (a e it : Addr) (hia : a ≠ it) (hea : e ≠ a) :
    Turn P w K (.Tuple elts kk tpos) (Itet K a) [e, it] e (fun i h => (∃ old, IsEnum h e it ((i : Nat) : Int) old) ∧ h.IsTupleIter it a i ∧ e ≠ it) where
  mem := by simp
  obj := fun i h st b hb => by
    obtain ⟨⟨old, he⟩, ⟨o, ho, hc, hd⟩, _⟩ := st
    have e' : b = e ∨ b = it := by simpa using hb
    rcases e' with z | z
    · rw [z]; exact ⟨_, he, fun v q => nomatch q⟩
    · rw [z]; exact ⟨o, ho, fun v q => by rw [hd] at q; cases q⟩
  keep := fun i h h' st k => let ⟨⟨old, he⟩, hi, hne⟩ := st; ⟨⟨old, k e (by simp) _ he⟩, hi.at fun o q => k it (by simp) o q, hne⟩
  item := by
    intro X hP hw hK hc i pins s σ H E I hf st hg
    subst hP hw hK
    obtain ⟨⟨old, he⟩, hit, hne⟩ := st
    obtain ⟨xs, x, hq, hx⟩ := hg
    obtain ⟨its, rv, p, hz⟩ := I.tuple hq
    obtain ⟨u, hu, ru⟩ := rv.get hx
    have hel : e < s.heap.objs.size := Heap.lt_size he
    have hil : it < s.heap.objs.size := by obtain ⟨_, q, _⟩ := hit; exact Heap.lt_size q
    have hlt : i < its.length := (List.getElem?_eq_some_iff.mp hu).1
    refine wpAny_pyNext_enum_itemD (Draws.tuple (A := X.A.in1) (I.ok.hd hc) it a hia its.toArray) he ⟨hit, (show s.heap.IsTuple a its.toArray from p)⟩ (by simpa using hlt) hne (by simp [hne, hea]) fun x' h' tk hP' ho hst' hT hsz hk => ?_
    obtain rfl : x' = u := by
      have hP2 : its[i]? = some x' := by simpa using hP'
      rw [hu] at hP2
      exact (Option.some.inj hP2).symm
    refine ⟨_, rfl, wpAny_letOwnedTupleGo_enum (s := { s with heap := h', toks := tk + 1 }) ho fun h'' he' sb => ?_⟩
    have hT2 : h''.get? s.heap.objs.size = some { cls := .type "tuple", data := .seq #[.int i tk, x'] } := (sb.2 _ (Nat.ne_of_gt hel)).trans hT
    have new : ObjOk X.prog X.w (upd H s.heap.objs.size (.tup [.int (i : Nat), x])) h'' s.heap.objs.size (.tup [.int (i : Nat), x]) :=
      ⟨by show 2 ≤ sizeLine; decide, [.int i tk, x'], .cons ⟨_, rfl⟩ (.cons ru .nil), ⟨_, hT2, rfl, _, rfl⟩⟩
    have I1 : Inv X pins σ (upd H s.heap.objs.size (.tup [.int (i : Nat), x])) { s with heap := h'', toks := tk + 1 } :=
      I.turnedNew (ch := [e, it]) (fun b ob hb q => (sb.2 b (fun z => hb (by simp [z]))).trans (hk b ob (fun z => hb (by simp [z])) (fun z => hb (by simp [z])) q)) hf (Nat.le_refl _) new
    refine ⟨.ref s.heap.objs.size, _, I1, rfl, ⟨_, x, rfl, I.hok.fresh (Nat.le_refl _), rfl, fun ys hy => by rw [I.tuple_inj hy hq]; exact hx⟩, ⟨⟨x', ?_⟩, hst'.1.at fun o q => (sb.2 it (Ne.symm hne)).trans q, hne⟩, fun b hb => ?_⟩
    · have e1 : ((i + 1 : Nat) : Int) = (i : Int) + 1 := by omega
      rw [e1]; exact he'
    · have hb' : b < s.heap.objs.size := by
        have e' : b = e ∨ b = it := by simpa using hb
        rcases e' with z | z
        · rw [z]; exact hel
        · rw [z]; exact hil
      rw [upd_ne (Nat.ne_of_lt hb')]
      exact (hf b hb).1
  done := by
    intro X hP hw hK hc i pins s σ H E I hf st hg
    subst hP hw hK
    obtain ⟨⟨old, he⟩, hit, hne⟩ := st
    obtain ⟨xs, hq, hx⟩ := hg
    obtain ⟨its, rv, p, hz⟩ := I.tuple hq
    obtain ⟨f0, f1, f2, f3, f4, f5⟩ := hf it (by simp)
    have hl := rv.length
    have D : Draws X.prog X.w X.A.in1 it [it, a] i (fun _ _ => True) (fun j h => j = i ∧ h.IsTupleIter it a j ∧ h.IsTuple a its.toArray) :=
      { live := fun _ _ st => let ⟨o, ho, _⟩ := st.2.1; ⟨o, ho⟩
        frame := fun _ _ _ st hk => ⟨st.1, st.2.1.at fun o e => hk it (by simp) o e, st.2.2.at fun o e => hk a (by simp) o e⟩
        item := fun j s' Q E' hj st hQ => absurd st.1 (Nat.ne_of_lt hj)
        done := fun s' Q E' st hE => wpAny_nextOf_tuple_end (I.ok.hd hc) st.2.1 st.2.2 (by simp; omega) hE }
    exact wpAny_pyNext_enum_endD D he ⟨rfl, hit, (show s.heap.IsTuple a its.toArray from p)⟩ fun h' eb => ⟨rfl, I.turned (t' := s.toks) (fun b o hb q => eb b o hb q) f0 f1 f3 f4 f5⟩
  self := fun A i s Q E st h => let ⟨⟨_, he⟩, _⟩ := st; wpAny_pyIter_enum he h
section
variable {K : PySem.W.Frag} {a : Addr} {xs : List V}
theorem walk_enumT : Walk (Itet K a) xs.length (fun H => SqT K H a xs) (YPair (fun i => some (.int (i : Nat))) (fun i => xs[i]?)) where
  goes := fun i H hi h => ⟨xs, xs[i], h, List.getElem?_eq_getElem hi⟩
  stops := fun H h => ⟨xs, h, Nat.le_refl _⟩
  yields := fun i H x H' _ h ⟨T, y, e1, e2, e3, e4⟩ => ⟨T, _, y, e1, e2, e3, rfl, e4 xs h⟩
end
theorem rd_at {H H' : Hp} {a : Addr} {u : HO} (h : ∀ o, H a = some o → H' a = some o) (r : Rd H a u) : Rd H' a u := r.imp (fun e => h _ e) fun ⟨ob, e⟩ => ⟨ob, h _ e⟩
/-- a list (true) or a tuple -/
def SqV (K : PySem.W.Frag) (H : Hp) (a : Addr) (xs : List V) : Bool → Prop
  | true => SqL K H a xs
  | false => SqT K H a xs
theorem SqV.mono {K : PySem.W.Frag} {H H' : Hp} {a : Addr} {xs : List V} {b : Bool} (s : Same H H') (h : SqV K H a xs b) : SqV K H' a xs b := by
  cases b with
  | true => exact s.seq h
  | false => exact Same.seqT s h
/-- enumerate of a list or of a tuple, one way on -/
def iEnumW (K : PySem.W.Frag) (ta : TA) : TI := fun σ H R => ta σ H fun vs H1 => ∃ (a : Addr) (xs : List V) (b : Bool) (ps : List Addr), vs = [.ref a] ∧ SqV K (hid ps H1) a xs b ∧ ∀ (J : It), Walk J xs.length (fun H => SqV K (hid ps H) a xs b) (YPair (fun i => some (.int (i : Nat))) (fun i => xs[i]?)) → R J H1
theorem pi_enumW {X : Cx} {e : Expr} {ta : TA} {p pos tpos : Pos} {elts : List Expr} {kk : Nat} (hg : Gl X "enumerate") (hm : X.mg "enumerate" = none) (ha : PA X [e] ta) (hs : starEach [e] X.env = [(false, eval e X.env)] := by rfl) :
    PI X (.Tuple elts kk tpos) (.Call (.Name "enumerate" p) [e] [] pos) (iEnumW X.K ta) := by
  refine ⟨fun pins s σ H R I h => ?_⟩
  refine Call_ (ld_blt I hg hm boot_enumerate (PyProof.Rows.callWith_type1 (thn (ha.run pos pins s σ H _ I h) fun us s1 ⟨vs, H1, I1, r1, q1⟩ => ?_) hs rfl))
  obtain ⟨a, xs, kb, ps, ex, hh, q⟩ := q1
  subst ex
  cases r1 with
  | cons r rr =>
    cases rr
    cases r
    have cells : ∀ b ∈ [s1.heap.objs.size + 1, s1.heap.objs.size], s1.heap.objs.size ≤ b := fun b hb => by
      have e' : b = s1.heap.objs.size + 1 ∨ b = s1.heap.objs.size := by simpa using hb
      rcases e' with z | z
      · rw [z]; exact Nat.le_add_right _ _
      · rw [z]; exact Nat.le_refl _
    cases kb with
    | true =>
      have hq := (hid_low ps H1).seq (show SqL X.K (hid ps H1) a xs from hh)
      obtain ⟨its, rv, p', hz⟩ := I1.list hq
      refine call_enumerate_list p'.isList fun h' he hit hsz hk => wpAny_pyIter_enum he ?_
      have I2 : Inv X pins σ H1 { s1 with heap := h' } := I1.kept (t' := s1.toks) hk
      exact ⟨s1.heap.objs.size + 1, [s1.heap.objs.size + 1, s1.heap.objs.size], _, _, H1, rfl, I2, turn_enum a (s1.heap.objs.size + 1) s1.heap.objs.size, ⟨⟨.none, he⟩, hit, Nat.succ_ne_self _⟩, fun b hb => I1.fpOk (cells b hb) (I1.hok.fresh (cells b hb)), q _ (walk_enum.mono (fun H' h => (hid_low ps H').seq h) fun _ _ _ _ _ _ y => y)⟩
    | false =>
      have hq := Same.seqT (hid_low ps H1) (show SqT X.K (hid ps H1) a xs from hh)
      obtain ⟨its, rv, p', hz⟩ := I1.tuple hq
      have hT : s1.heap.IsTuple a its.toArray := p'
      have hal : a < s1.heap.objs.size := by obtain ⟨o, ho, _⟩ := hT; exact Heap.lt_size ho
      refine call_enum1 (begins_tuple a its.toArray) hT fun h' he hit hsz hk => wpAny_pyIter_enum he ?_
      have I2 : Inv X pins σ H1 { s1 with heap := h' } := I1.kept (t' := s1.toks) hk
      exact ⟨s1.heap.objs.size + 1, [s1.heap.objs.size + 1, s1.heap.objs.size], _, _, H1, rfl, I2, turn_enumT a (s1.heap.objs.size + 1) s1.heap.objs.size (Nat.ne_of_lt hal) (Nat.ne_of_gt (Nat.lt_succ_of_lt hal)), ⟨⟨.none, he⟩, ⟨_, hit, rfl, rfl⟩, Nat.succ_ne_self _⟩, fun b hb => I1.fpOk (cells b hb) (I1.hok.fresh (cells b hb)), q _ (walk_enumT.mono (fun H' h => Same.seqT (hid_low ps H') h) fun _ _ _ _ _ _ y => y)⟩
end GB
set_option Elab.async false
set_option linter.all false
set_option maxRecDepth 100000
set_option maxHeartbeats 4000000
/-! Terms: a head word, a name, the terms within; their data, and what of them a ground asks. -/
namespace GB
open PySem PySem.Spec L2
inductive Tm where
  | mk (w n : Str) (ks : List Tm)
/-- the names that binds of drawn terms bind -/
def bnd : List Str := ["v", "w", "x", "if"]
def opsW : List (Str × Nat) := [("if", 3), ("and", 2), ("or", 2), ("not", 1), ("then", 2), ("try", 2), ("last", 2)]
/-- a text of one to eight letters a to z, by the package's own look -/
def signB (c : Nat) : Bool := !decide ([c] < [97]) && !decide ([122] < [c])
def nameB (s : Str) : Bool := decide (1 ≤ s.length ∧ s.length ≤ 8) && s.cps.toList.all signB
inductive HeadOk (L : List (Str × Nat)) (ns : List Str) : Str → Str → Nat → Prop
  | val {n} : nameB n = true → HeadOk L ns "value" n 0
  | fail {n} : nameB n = true → HeadOk L ns "fail" n 0
  | name {n} : nameB n = true → n ∈ ns → HeadOk L ns "name" n 0
  | use {n m} : (n, m) ∈ L → HeadOk L ns "use" n m
  | bind {n} : nameB n = true → n ∈ bnd → HeadOk L ns "bind" n 2
  | op {w m} : (w, m) ∈ opsW → HeadOk L ns w "" m
/-- the names that are bound at a place within -/
def nsAt (w n : Str) (i : Nat) (ns : List Str) : List Str := if w = "bind" ∧ i = 1 then ns ++ [n] else ns
inductive TmOk (L : List (Str × Nat)) : List Str → Tm → Prop
  | mk {ns : List Str} {w n : Str} {ks : List Tm} : HeadOk L ns w n ks.length → (∀ (i : Nat) (k : Tm), ks[i]? = some k → TmOk L (nsAt w n i ns) k) → TmOk L ns (.mk w n ks)
def Seq (d : PyData) (ds : List PyData) : Prop := d = .list ds ∨ d = .tuple ds
/-- the data of a node of this head, over the data of the terms within -/
inductive NodeD : PyData → Str → Str → List PyData → Prop
  | val {d n} : Seq d [.str "value", .str n] → NodeD d "value" n []
  | fail {d n} : Seq d [.str "fail", .str n] → NodeD d "fail" n []
  | name {d n} : Seq d [.str "name", .str n] → NodeD d "name" n []
  | use {d e n ds} : Seq d [.str "use", .str n, e] → Seq e ds → NodeD d "use" n ds
  | bind {d n ds} : Seq d (.str "bind" :: .str n :: ds) → NodeD d "bind" n ds
  | op {d w m ds} : (w, m) ∈ opsW → Seq d (.str w :: ds) → NodeD d w "" ds
/-- data that are the term, of lists and tuples -/
inductive IsTm : PyData → Tm → Prop
  | mk {d : PyData} {w n : Str} {ds : List PyData} {ks : List Tm} : NodeD d w n ds → ds.length = ks.length → (∀ (i : Nat) (e : PyData) (k : Tm), ds[i]? = some e → ks[i]? = some k → IsTm e k) → IsTm d (.mk w n ks)
mutual
/-- the term's data, of tuples throughout -/
def Tm.d : Tm → PyData
  | .mk w n ks => if w = "use" then .tuple [.str w, .str n, .tuple (Tm.ds ks)] else if w = "bind" then .tuple (.str w :: .str n :: Tm.ds ks) else if w ∈ opsW.map (·.1) then .tuple (.str w :: Tm.ds ks) else .tuple [.str w, .str n]
def Tm.ds : List Tm → List PyData
  | [] => []
  | k :: ks => k.d :: Tm.ds ks
end
theorem ds_map : ∀ ks : List Tm, Tm.ds ks = ks.map Tm.d
  | [] => rfl
  | k :: r => by rw [Tm.ds, List.map_cons, ds_map r]
mutual
def Tm.size : Tm → Nat
  | .mk _ _ ks => Tm.sizes ks + 1
def Tm.sizes : List Tm → Nat
  | [] => 0
  | k :: r => k.size + Tm.sizes r
end
theorem sizes_mem : ∀ {ks : List Tm} {k : Tm}, k ∈ ks → k.size ≤ Tm.sizes ks
  | a :: r, k, h => by
    rw [Tm.sizes]
    rcases List.mem_cons.mp h with rfl | h
    · omega
    · have := sizes_mem h; omega
theorem size_pos (t : Tm) : 0 < t.size := by
  cases t; rw [Tm.size]; omega
theorem size_at {w n : Str} {ks : List Tm} {i : Nat} {k : Tm} (h : ks[i]? = some k) : k.size < (Tm.mk w n ks).size := by
  have := sizes_mem (List.mem_of_getElem? h)
  rw [Tm.size]; omega
/-- a node's own data are of the node -/
theorem nodeD_own {L : List (Str × Nat)} {ns : List Str} {w n : Str} {ks : List Tm} (h : HeadOk L ns w n ks.length) : NodeD (Tm.mk w n ks).d w n (ks.map Tm.d) := by
  rw [Tm.d, ds_map]
  have nil : ks.length = 0 → ks.map Tm.d = [] := fun e => by rw [List.eq_nil_of_length_eq_zero e]; rfl
  revert h nil
  generalize hm : ks.length = m
  intro h nil
  cases h with
  | val hn => rw [nil rfl]; exact .val (.inr (by simp +decide))
  | fail hn => rw [nil rfl]; exact .fail (.inr (by simp +decide))
  | name hn _ => rw [nil rfl]; exact .name (.inr (by simp +decide))
  | use hx => exact .use (.inr (by rw [if_pos rfl])) (.inr rfl)
  | bind hn _ => exact .bind (.inr (by simp +decide))
  | op ho =>
    refine .op ho (.inr ?_)
    have h1 : w ≠ "use" := fun e => by subst e; revert ho; simp +decide [opsW]
    have h2 : w ≠ "bind" := fun e => by subst e; revert ho; simp +decide [opsW]
    rw [if_neg h1, if_neg h2, if_pos (List.mem_map.mpr ⟨_, ho, rfl⟩)]
theorem isTm_own {L : List (Str × Nat)} {t : Tm} {ns : List Str} (h : TmOk L ns t) : IsTm t.d t := by
  induction h with
  | mk ho hk ih =>
    refine .mk (nodeD_own ho) (List.length_map _) fun i e k he hk' => ?_
    rw [List.getElem?_map, hk'] at he
    obtain rfl := Option.some.inj he
    exact ih i k hk'
/-! what stands in the heap -/
section
variable {K : PySem.W.Frag} {H : Hp}
def SqA (K : PySem.W.Frag) (H : Hp) (a : Addr) (xs : List V) : Prop := SqL K H a xs ∨ SqT K H a xs
theorem SqA.mono {H H' : Hp} (s : Same H H') {a : Addr} {xs : List V} (h : SqA K H a xs) : SqA K H' a xs := h.imp (fun h => s.seq h) (fun h => Same.seqT s h)
theorem dp_seq {v : V} {d : PyData} {ds : List PyData} (h : Dp K H v d) (e : Seq d ds) : ∃ p xs, v = .ref p ∧ SqA K H p xs ∧ DpAll K H xs ds := by
  rcases e with rfl | rfl
  · cases h with | lst h1 h2 => exact ⟨_, _, rfl, .inl h1, h2⟩
  · cases h with | tup h1 h2 => exact ⟨_, _, rfl, .inr h1, h2⟩
theorem dps_len : ∀ {xs : List V} {ds : List PyData}, DpAll K H xs ds → xs.length = ds.length
  | _, _, .nil => rfl
  | _, _, .cons _ h => by rw [List.length_cons, List.length_cons, dps_len h]
theorem dps_at : ∀ {xs : List V} {ds : List PyData} {i : Nat} {x : V}, DpAll K H xs ds → xs[i]? = some x → ∃ d, ds[i]? = some d ∧ Dp K H x d
  | _, _, 0, _, .cons h _, e => ⟨_, rfl, Option.some.inj e ▸ h⟩
  | _, _, i + 1, _, .cons _ h, e => dps_at (i := i) h e
theorem dps_str {xs : List V} {s : Str} {ds : List PyData} (h : DpAll K H xs (.str s :: ds)) : ∃ ys, xs = .str s :: ys ∧ DpAll K H ys ds := by
  cases h with
  | cons h1 h2 => cases h1; exact ⟨_, rfl, h2⟩
/-- what a node's value holds -/
inductive NodeV (K : PySem.W.Frag) (H : Hp) : Addr → Str → Str → List V → Prop
  | val {p n} : SqA K H p [.str "value", .str n] → NodeV K H p "value" n []
  | fail {p n} : SqA K H p [.str "fail", .str n] → NodeV K H p "fail" n []
  | name {p n} : SqA K H p [.str "name", .str n] → NodeV K H p "name" n []
  | use {p q n vs} : SqA K H p [.str "use", .str n, .ref q] → SqA K H q vs → NodeV K H p "use" n vs
  | bind {p n vs} : SqA K H p (.str "bind" :: .str n :: vs) → NodeV K H p "bind" n vs
  | op {p w m vs} : (w, m) ∈ opsW → SqA K H p (.str w :: vs) → NodeV K H p w "" vs
theorem nodeV {v : V} {d : PyData} {w n : Str} {ds : List PyData} (h : Dp K H v d) (e : NodeD d w n ds) : ∃ p vs, v = .ref p ∧ NodeV K H p w n vs ∧ DpAll K H vs ds := by
  cases e with
  | val e => obtain ⟨p, xs, rfl, hs, hd⟩ := dp_seq h e; obtain ⟨_, e1, hd1⟩ := dps_str hd; obtain ⟨_, e2, hd2⟩ := dps_str hd1; cases hd2; subst e2 e1; exact ⟨p, _, rfl, .val hs, .nil⟩
  | fail e => obtain ⟨p, xs, rfl, hs, hd⟩ := dp_seq h e; obtain ⟨_, e1, hd1⟩ := dps_str hd; obtain ⟨_, e2, hd2⟩ := dps_str hd1; cases hd2; subst e2 e1; exact ⟨p, _, rfl, .fail hs, .nil⟩
  | name e => obtain ⟨p, xs, rfl, hs, hd⟩ := dp_seq h e; obtain ⟨_, e1, hd1⟩ := dps_str hd; obtain ⟨_, e2, hd2⟩ := dps_str hd1; cases hd2; subst e2 e1; exact ⟨p, _, rfl, .name hs, .nil⟩
  | use e e2 =>
    obtain ⟨p, xs, rfl, hs, hd⟩ := dp_seq h e; obtain ⟨_, e1, hd1⟩ := dps_str hd; obtain ⟨_, e3, hd2⟩ := dps_str hd1
    subst e3 e1
    cases hd2 with
    | cons h1 h2 =>
      cases h2
      obtain ⟨q, vs, rfl, hq, hd⟩ := dp_seq h1 e2
      exact ⟨p, vs, rfl, .use hs hq, hd⟩
  | bind e => obtain ⟨p, xs, rfl, hs, hd⟩ := dp_seq h e; obtain ⟨_, e1, hd1⟩ := dps_str hd; obtain ⟨_, e2, hd2⟩ := dps_str hd1; subst e2 e1; exact ⟨p, _, rfl, .bind hs, hd2⟩
  | op ho e => obtain ⟨p, xs, rfl, hs, hd⟩ := dp_seq h e; obtain ⟨_, e1, hd1⟩ := dps_str hd; subst e1; exact ⟨p, _, rfl, .op ho hs, hd1⟩
theorem NodeV.mono {H H' : Hp} (s : Same H H') {p : Addr} {w n : Str} {vs : List V} (h : NodeV K H p w n vs) : NodeV K H' p w n vs := by
  cases h with
  | val h => exact .val (h.mono s)
  | fail h => exact .fail (h.mono s)
  | name h => exact .name (h.mono s)
  | use h h2 => exact .use (h.mono s) (h2.mono s)
  | bind h => exact .bind (h.mono s)
  | op ho h => exact .op ho (h.mono s)
end
end GB
set_option Elab.async false
set_option linter.all false
set_option maxRecDepth 100000
set_option maxHeartbeats 4000000
/-! x in o, x not in o: o of a class with its own def __contains__ that gives True or False. -/
namespace GB
open PySem PySem.Spec L2 PyProof.Rows
def rInOwn (C : Addr) (sp : Sp) (n : Bool) : R2 := fun x y H Q => ∃ a dx fs, y = .ref a ∧ H a = some (.ins C dx fs) ∧ sp [y, x] H (fun z H' => ∃ b, z = .bl b ∧ Q (.bl (n != b)) H') E0
section
variable {X : Cx} {CX : CXT} {k : Nat} {f C : Addr} {fd : FuncData} {ps : List Str} {sp : Sp}
theorem op_inOwn (hs : PySem.W.findIn X.K (.ref C) "__contains__" = some (some (.ref f))) (hf : PySem.W.isFn X.K (.ref f) = true) (F : FnOk X.prog X.w X.K X.mg X.base CX0 k f fd ps sp) (hr : Room k X.A) (hb : Binds X.K fd ps []) : OpR X (compareOp .In) (rInOwn C sp false) := by
  intro pins s σ H x y v u Q I rx ry h
  obtain ⟨a, dx, fs, rfl, ha, q⟩ := h
  cases (show u = Value.ref a from ry)
  obtain ⟨mA, O, _, _, _, _⟩ := ins_get I.hok ha
  obtain ⟨od, J, _⟩ := O.look
  obtain ⟨m, hF⟩ := I.fr
  refine PySem.W.in_K hF I.ok.mod.kin J hs hf ?_
  refine wpAny_mono (run_fn (us := [.ref a, v]) (vs := [.ref a, x]) F hr hb .nil pass0 I (.cons rfl (.cons rx .nil)) q) (fun w s' z => ?_) fun _ _ x => x
  obtain ⟨z', H', I', rz, b, eb, qz⟩ := z
  subst eb
  cases (show w = Value.bool b from rz)
  exact wpAny_truthy_bool ⟨.bl b, H', I', rfl, by simpa using qz⟩
theorem op_ninOwn (hs : PySem.W.findIn X.K (.ref C) "__contains__" = some (some (.ref f))) (hf : PySem.W.isFn X.K (.ref f) = true) (F : FnOk X.prog X.w X.K X.mg X.base CX0 k f fd ps sp) (hr : Room k X.A) (hb : Binds X.K fd ps []) : OpR X (compareOp .NotIn) (rInOwn C sp true) := by
  intro pins s σ H x y v u Q I rx ry h
  obtain ⟨a, dx, fs, rfl, ha, q⟩ := h
  cases (show u = Value.ref a from ry)
  obtain ⟨mA, O, _, _, _, _⟩ := ins_get I.hok ha
  obtain ⟨od, J, _⟩ := O.look
  obtain ⟨m, hF⟩ := I.fr
  refine PySem.W.notIn_K hF I.ok.mod.kin J hs hf ?_
  refine wpAny_mono (run_fn (us := [.ref a, v]) (vs := [.ref a, x]) F hr hb .nil pass0 I (.cons rfl (.cons rx .nil)) q) (fun w s' z => ?_) fun _ _ x => x
  obtain ⟨z', H', I', rz, b, eb, qz⟩ := z
  subst eb
  cases (show w = Value.bool b from rz)
  exact wpAny_truthy_bool ⟨.bl (!b), H', I', rfl, by simpa using qz⟩
end
end GB
set_option Elab.async false
set_option linter.all false
set_option maxRecDepth 100000
set_option maxHeartbeats 4000000
/-! Readings for nodes that are lists or tuples. -/
namespace GB
open PySem PySem.Spec L2
def nmd : List Str := ["value", "name", "fail"]
section
variable {K : PySem.W.Frag} {H : Hp} {Q : VK} {p : Addr} {xs : List V} {w n : Str} {vs : List V}
theorem ixA (h : SqA K H p xs) {v : V} (i : Nat) (e : xs[i]? = some v) (q : Q v H) : rIx K (.ref p) (.int (i : Int)) H Q := by
  rcases h with h | h
  · exact .inl ⟨p, xs, _, v, rfl, rfl, h, atI_nat e, q⟩
  · exact .inr (.inl ⟨p, xs, _, v, rfl, rfl, h, atI_nat e, q⟩)
/-- xs[k:] of a list or a tuple -/
def rSlAny (K : PySem.W.Frag) : V → Option Int → Option Int → Hp → VK → Prop := fun x lo hi H Q => rSlL K x lo hi H Q ∨ rSlA K x lo hi H Q
theorem sl_any {X : Cx} : SlR X (rSlAny X.K) := by
  intro pins s σ H x v vl vu lo hi sl Q I rx hs pl pu h
  rcases h with h | h
  · exact sl_list pins s σ H x v vl vu lo hi sl Q I rx hs pl pu h
  · exact sl_tupA pins s σ H x v vl vu lo hi sl Q I rx hs pl pu h
theorem slA (h : SqA K H p xs) (k : Nat) (q : ∀ b H', Same H H' → SqA K H' b (xs.drop k) → Q (.ref b) H') : rSlAny K (.ref p) (some (k : Int)) none H Q := by
  rcases h with h | h
  · refine .inl ⟨p, xs, rfl, h, fun a na => ?_⟩
    obtain ⟨H1, s1, h1, e1⟩ := lay (o := .lst (cutV xs (some (k : Int)) none)) na
    rw [e1]
    exact q a H1 s1 (by rw [← cut_from]; exact .inl (SqL.of h1))
  · refine .inr ⟨p, xs, rfl, h, fun hw => ?_, fun _ a na => ?_⟩
    · have h0 := hw.1
      rw [HT.sIx_nat] at h0
      have e : xs.drop k = xs := by
        by_cases hk : k = 0
        · rw [hk, List.drop_zero]
        · have : xs.length = 0 := by omega
          rw [List.eq_nil_of_length_eq_zero this, List.drop_nil]
      exact q p H (Same.refl _) (by rw [e]; exact .inr h)
    · obtain ⟨H1, s1, h1, e1⟩ := lay (o := .tup (cutV xs (some (k : Int)) none)) na
      rw [e1]
      exact q a H1 s1 (by rw [← cut_from]; exact .inr (SqT.of h1))
theorem same_hid0 {H : Hp} : Same H (hid [] H) := fun b o e => hid_to (by simp) e
theorem same_hid_new {H H' : Hp} {L : Addr} (n : H L = none) (s : Same H H') : Same H (hid [L] H') := fun b o e => hid_to (by
  intro m
  rw [List.mem_singleton.mp m, n] at e
  cases e) (s _ _ e)
theorem sqV {H : Hp} {a : Addr} {xs : List V} (h : SqA K H a xs) : ∃ b, SqV K H a xs b := h.elim (fun h => ⟨true, h⟩) (fun h => ⟨false, h⟩)
/-- of new objects, with some places hidden -/
theorem slH {ps : List Addr} (hp : ∀ q ∈ ps, ∃ o, H q = some o) (h : SqA K (hid ps H) p xs) (k : Nat) (q : ∀ b H', Same H H' → SqA K (hid ps H') b (xs.drop k) → Q (.ref b) H') : rSlAny K (.ref p) (some (k : Int)) none H Q := by
  have ni : ∀ {a : Addr}, H a = none → a ∉ ps := fun n m => by
    obtain ⟨o, e⟩ := hp _ m
    rw [n] at e
    cases e
  rcases h with h | h
  · refine .inl ⟨p, xs, rfl, (hid_low ps H).seq h, fun a na => ?_⟩
    obtain ⟨H1, s1, h1, e1⟩ := lay (o := .lst (cutV xs (some (k : Int)) none)) na
    rw [e1]
    exact q a H1 s1 (by rw [← cut_from]; exact .inl (SqL.of (hid_to (ni na) h1)))
  · refine .inr ⟨p, xs, rfl, Same.seqT (hid_low ps H) h, fun hw => ?_, fun _ a na => ?_⟩
    · have h0 := hw.1
      rw [HT.sIx_nat] at h0
      have e : xs.drop k = xs := by
        by_cases hk : k = 0
        · rw [hk, List.drop_zero]
        · have : xs.length = 0 := by omega
          rw [List.eq_nil_of_length_eq_zero this, List.drop_nil]
      exact q p H (Same.refl _) (by rw [e]; exact .inr h)
    · obtain ⟨H1, s1, h1, e1⟩ := lay (o := .tup (cutV xs (some (k : Int)) none)) na
      rw [e1]
      exact q a H1 s1 (by rw [← cut_from]; exact .inr (SqT.of (hid_to (ni na) h1)))
theorem NodeV.kind (h : NodeV K H p w n vs) : (w ∈ nmd ∧ vs = [] ∧ SqA K H p [.str w, .str n]) ∨ (w = "use" ∧ ∃ q, SqA K H p [.str w, .str n, .ref q] ∧ SqA K H q vs) ∨ (w = "bind" ∧ SqA K H p (.str w :: .str n :: vs)) ∨ ((∃ m, (w, m) ∈ opsW) ∧ n = "" ∧ SqA K H p (.str w :: vs)) := by
  cases h with
  | val h => exact .inl ⟨by decide, rfl, h⟩
  | fail h => exact .inl ⟨by decide, rfl, h⟩
  | name h => exact .inl ⟨by decide, rfl, h⟩
  | use h h2 => exact .inr (.inl ⟨rfl, _, h, h2⟩)
  | bind h => exact .inr (.inr (.inl ⟨rfl, h⟩))
  | op ho h => exact .inr (.inr (.inr ⟨⟨_, ho⟩, rfl, h⟩))
theorem ops_no : ∀ q ∈ opsW, q.1 ∉ nmd ∧ q.1 ≠ "use" ∧ q.1 ≠ "bind" := by decide
theorem decS (a b : Str) : decide (V.str a = V.str b) = decide (a = b) := by
  by_cases h : a = b
  · subst h; simp
  · rw [decide_eq_false h, decide_eq_false fun e => h (V.str.inj e)]
theorem decI (a b : Int) : decide (V.int a = V.int b) = decide (a = b) := by
  by_cases h : a = b
  · subst h; simp
  · rw [decide_eq_false h, decide_eq_false fun e => h (V.int.inj e)]
theorem tyS {a : Addr} {xs : List V} (h : SqA K H a xs) : ∃ t, (t = "list" ∨ t = "tuple") ∧ ∀ H', Same H H' → TyX K H' (.ref a) (.type t) := by
  rcases h with h | h
  · rcases h with (h | ⟨o, h⟩) | ⟨o, its, m, h, hc, _⟩
    · exact ⟨_, .inl rfl, fun H' s => .base (.lst (s _ _ h))⟩
    · exact ⟨_, .inl rfl, fun H' s => .base (.frz (s _ _ h))⟩
    · exact ⟨_, .inl rfl, fun H' s => .kList h hc⟩
  · rcases h with (h | ⟨o, h⟩) | ⟨o, its, m, h, hc, _⟩
    · exact ⟨_, .inr rfl, fun H' s => .base (.tup (s _ _ h))⟩
    · exact ⟨_, .inr rfl, fun H' s => .fTuple (s _ _ h)⟩
    · exact ⟨_, .inr rfl, fun H' s => .kTuple h hc⟩
theorem kit_seq {K : PySem.W.Frag} {t : String} (h : t = "list" ∨ t = "tuple") : PySem.W.kitAny K (.type t) [.type "list", .type "tuple"] = some true := by
  rcases h with rfl | rfl
  · exact kitAny_cons (b := true) (kit_ty (by decide +kernel)) (fun h => nomatch h) (fun _ => rfl)
  · exact kitAny_cons (b := false) (kit_ty (by decide +kernel)) (fun _ => kitAny_cons (b := true) (kit_ty (by decide +kernel)) (fun h => nomatch h) (fun _ => rfl)) (fun h => nomatch h)
/-- a node of this head over these terms' data, of tuples throughout -/
def nodeT (w n : Str) (ds : List PyData) : PyData := if w = "use" then .tuple [.str w, .str n, .tuple ds] else if w = "bind" then .tuple (.str w :: .str n :: ds) else if w ∈ opsW.map (·.1) then .tuple (.str w :: ds) else .tuple [.str w, .str n]
theorem d_node (w n : Str) (ks : List Tm) : (Tm.mk w n ks).d = nodeT w n (ks.map Tm.d) := by rw [Tm.d, ds_map]; rfl
end
end GB
set_option Elab.async false
set_option linter.all false
set_option maxRecDepth 100000
set_option maxHeartbeats 4000000
/-! Data of tuples, texts and ints alone do not rest on lists. -/
namespace GB
open PySem PySem.Spec L2
mutual
def tupO : PyData → Bool
  | .tuple ds => tupOs ds
  | .str _ => true
  | .int _ => true
  | _ => false
def tupOs : List PyData → Bool
  | [] => true
  | d :: r => tupO d && tupOs r
end
mutual
theorem tupO_d : ∀ t : Tm, tupO t.d = true
  | .mk w n ks => by
    rw [Tm.d]
    have h := tupO_ds ks
    split
    · simp [tupO, tupOs, h]
    · split
      · simp [tupO, tupOs, h]
      · split
        · simp [tupO, tupOs, h]
        · simp [tupO, tupOs]
theorem tupO_ds : ∀ ks : List Tm, tupOs (Tm.ds ks) = true
  | [] => rfl
  | k :: r => by rw [Tm.ds, tupOs, tupO_d k, tupO_ds r]; rfl
end
section
variable {K : PySem.W.Frag} {H : Hp} {ps : List Addr}
theorem sqT_hid (hl : ∀ p ∈ ps, ∃ xs, H p = some (.lst xs)) {a : Addr} {xs : List V} (h : SqT K H a xs) : SqT K (hid ps H) a xs := by
  have ni : ∀ o, H a = some o → (∀ ys, o ≠ .lst ys) → a ∉ ps := fun o e n m => by
    obtain ⟨ys, e2⟩ := hl a m
    rw [e] at e2
    exact n ys (Option.some.inj e2)
  rcases h with (h | ⟨o, h⟩) | h
  · exact .inl (.inl (hid_to (ni _ h (fun ys z => nomatch z)) h))
  · exact .inl (.inr ⟨o, hid_to (ni _ h (fun ys z => nomatch z)) h⟩)
  · exact .inr h
mutual
theorem dp_hid (hl : ∀ p ∈ ps, ∃ xs, H p = some (.lst xs)) : ∀ (d : PyData) (v : V), tupO d = true → Dp K H v d → Dp K (hid ps H) v d
  | .tuple ds, v, t, h => by
    cases h with
    | tup h1 h2 => exact .tup (sqT_hid hl h1) (dps_hid hl ds _ t h2)
  | .str _, v, _, h => by cases h; exact .str _
  | .int _, v, _, h => by cases h; exact .int _
  | .none, v, t, h => by cases t
  | .bool _, v, t, h => by cases t
  | .list _, v, t, h => by cases t
theorem dps_hid (hl : ∀ p ∈ ps, ∃ xs, H p = some (.lst xs)) : ∀ (ds : List PyData) (vs : List V), tupOs ds = true → DpAll K H vs ds → DpAll K (hid ps H) vs ds
  | [], vs, _, h => by cases h; exact .nil
  | d :: r, vs, t, h => by
    cases h with
    | cons h1 h2 =>
      rw [tupOs] at t
      obtain ⟨t1, t2⟩ := Bool.and_eq_true_iff.mp t
      exact .cons (dp_hid hl d _ t1 h1) (dps_hid hl r _ t2 h2)
end
end
theorem len_sizes : ∀ ks : List Tm, ks.length ≤ Tm.sizes ks
  | [] => Nat.le_refl _
  | k :: r => by
    have := len_sizes r
    have := size_pos k
    rw [Tm.sizes, List.length_cons]; omega
theorem catA {K : PySem.W.Frag} {H : Hp} {Q : VK} {a b : Addr} {xs ys : List V} (h1 : SqT K H a xs) (h2 : SqT K H b ys) (hl : xs.length + ys.length ≤ sizeLine) (q : ∀ p H', Same H H' → SqT K H' p (xs ++ ys) → Q (.ref p) H') : rCatA K (.ref a) (.ref b) H Q := by
  refine ⟨a, b, xs, ys, rfl, rfl, h1, h2, hl, fun e => ?_, fun _ e => ?_, fun _ _ p np => ?_⟩
  · subst e
    exact q b H (Same.refl _) h2
  · subst e
    exact q a H (Same.refl _) (by rw [List.append_nil]; exact h1)
  · obtain ⟨H1, s1, h1, e1⟩ := lay (o := .tup (xs ++ ys)) np
    rw [e1]
    exact q p H1 s1 (SqT.of h1)
theorem same_new {H : Hp} {D : Addr} {o : HO} (n : H D = none) : Same H (upd H D o) := fun b u e => by rw [upd_ne (ne_of_none e n)]; exact e
theorem take_at {α : Type} {l : List α} {i : Nat} {x : α} (h : l[i]? = some x) : l.take (i + 1) = l.take i ++ [x] := by
  obtain ⟨hi, rfl⟩ := List.getElem?_eq_some_iff.mp h
  exact List.take_succ_eq_append_getElem hi
end GB
set_option Elab.async false
set_option linter.all false
set_option maxRecDepth 100000
set_option maxHeartbeats 8000000
namespace GB
open PySem PySem.Spec L2
mutual
/-- the paths of all parts, a part ahead of those within it -/
def Tm.paths : Tm → List Nat → List (List Nat)
  | .mk _ _ ks, p => p :: Tm.pathsL ks p 0
def Tm.pathsL : List Tm → List Nat → Nat → List (List Nat)
  | [], _, _ => []
  | k :: r, p, i => k.paths (p ++ [i]) ++ Tm.pathsL r p (i + 1)
end
mutual
theorem paths_len : ∀ (t : Tm) (p : List Nat), (t.paths p).length = t.size
  | .mk _ _ ks, p => by rw [Tm.paths, Tm.size, List.length_cons, pathsL_len ks p 0]
theorem pathsL_len : ∀ (ks : List Tm) (p : List Nat) (i : Nat), (Tm.pathsL ks p i).length = Tm.sizes ks
  | [], _, _ => rfl
  | k :: r, p, i => by rw [Tm.pathsL, Tm.sizes, List.length_append, paths_len k, pathsL_len r]
end
theorem pathsL_app : ∀ (l : List Tm) (k : Tm) (p : List Nat) (i : Nat), Tm.pathsL (l ++ [k]) p i = Tm.pathsL l p i ++ k.paths (p ++ [i + l.length])
  | [], k, p, i => by simp [Tm.pathsL]
  | a :: r, k, p, i => by
    rw [List.cons_append, Tm.pathsL, Tm.pathsL, pathsL_app r k p (i + 1), List.append_assoc, List.length_cons]
    congr 4
    simp only [List.cons.injEq, and_true]
    omega
def pin (p : List Nat) : List V := p.map fun i : Nat => V.int (i : Int)
theorem sizes_app : ∀ a b : List Tm, Tm.sizes (a ++ b) = Tm.sizes a + Tm.sizes b
  | [], b => by rw [List.nil_append, Tm.sizes, Nat.zero_add]
  | k :: r, b => by rw [List.cons_append, Tm.sizes, Tm.sizes, sizes_app r b, Nat.add_assoc]
theorem sizes_take (ks : List Tm) (i : Nat) : Tm.sizes (ks.take i) ≤ Tm.sizes ks := by
  have := sizes_app (ks.take i) (ks.drop i)
  rw [List.take_append_drop] at this
  omega
def pathD (p : List Nat) : PyData := .tuple (p.map fun i : Nat => PyData.int (i : Int))
theorem tupO_path (p : List Nat) : tupO (pathD p) = true := by
  show tupOs (p.map fun i : Nat => PyData.int (i : Int)) = true
  induction p with
  | nil => rfl
  | cons i r ih => rw [List.map_cons, tupOs, ih]; rfl
theorem tupOs_paths (l : List (List Nat)) : tupOs (l.map pathD) = true := by
  induction l with
  | nil => rfl
  | cons p r ih => rw [List.map_cons, tupOs, ih, tupO_path]; rfl
theorem dps_pin {K : PySem.W.Frag} {H : Hp} : ∀ p : List Nat, DpAll K H (pin p) (p.map fun i : Nat => PyData.int (i : Int))
  | [] => .nil
  | i :: r => .cons (.int _) (dps_pin r)
end GB
set_option Elab.async false
set_option linter.all false
set_option maxRecDepth 100000
set_option maxHeartbeats 4000000
namespace GB
open PySem PySem.Spec L2 PyProof.Rows
/-! what is walked is a list or a tuple -/
def iSeqW (K : PySem.W.Frag) (te : TE) : TI := fun σ H R => te σ H fun v H1 => ∃ (a : Addr) (xs : List V) (b : Bool) (ps : List Addr), v = .ref a ∧ SqV K (hid ps H1) a xs b ∧ ∀ (J : It), Walk J xs.length (fun H => SqV K (hid ps H) a xs b) (YAt xs) → R J H1
theorem pi_seqW {X : Cx} {tg l : Expr} {tl : TE} (hl : PE X l tl) : PI X tg l (iSeqW X.K tl) := by
  refine ⟨fun pins s σ H R I h => ?_⟩
  refine thn (hl.run pins s σ H _ I h) fun v s1 ⟨x, H1, I1, r1, q1⟩ => ?_
  obtain ⟨a, xs, kb, ps, e, hh, q⟩ := q1
  subst e
  cases r1
  cases kb with
  | true =>
    have hq := (hid_low ps H1).seq (show SqL X.K (hid ps H1) a xs from hh)
    obtain ⟨its, rv, p, hz⟩ := I1.list hq
    refine wpAny_pyIter_list p.isList ?_
    refine ⟨s1.heap.objs.size, [s1.heap.objs.size], _, _, H1, rfl, I1.kept (t' := s1.toks) fun b o e => Heap.get?_push_of_some _ e, turn_list a _, ⟨_, Heap.get?_push_size _ rfl, rfl, rfl⟩, fun b hb => ?_, q _ (walk_list.mono (fun H' h => (hid_low ps H').seq h) fun _ _ _ _ _ _ y => y)⟩
    have e : b = s1.heap.objs.size := by simpa using hb
    subst e
    exact I1.fpOk (Nat.le_refl _) (I1.hok.fresh (Nat.le_refl _))
  | false =>
    have hq := Same.seqT (hid_low ps H1) (show SqT X.K (hid ps H1) a xs from hh)
    obtain ⟨its, rv, p, hz⟩ := I1.tuple hq
    refine wpAny_pyIter_tuple (show s1.heap.IsTuple a its.toArray from p) ?_
    refine ⟨s1.heap.objs.size, [s1.heap.objs.size], _, _, H1, rfl, I1.kept (t' := s1.toks) fun b o e => Heap.get?_push_of_some _ e, turn_tuple a _, ⟨_, Heap.get?_push_size _ rfl, rfl, rfl⟩, fun b hb => ?_, q _ (walk_tup.mono (fun H' h => Same.seqT (hid_low ps H') h) fun _ _ _ _ _ _ y => y)⟩
    have e : b = s1.heap.objs.size := by simpa using hb
    subst e
    exact I1.fpOk (Nat.le_refl _) (I1.hok.fresh (Nat.le_refl _))
/-! paths -/
def atP : Tm → List V → Option Tm
  | t, [] => some t
  | .mk _ _ ks, .int i :: r => if 0 ≤ i ∧ i < ks.length then (match ks[i.toNat]? with | some k => atP k r | none => none) else none
  | _, _ :: _ => none
theorem atP_app : ∀ (a b : List V) (t : Tm), atP t (a ++ b) = (atP t a).bind fun s => atP s b
  | [], b, t => rfl
  | y :: a, b, .mk w n ks => by
    cases y with
    | int i =>
      rw [List.cons_append]
      simp only [atP]
      split
      · cases ks[i.toNat]? with
        | none => rfl
        | some k => exact atP_app a b k
      · rfl
    | _ => rfl
inductive NumV (K : PySem.W.Frag) (H : Hp) : V → Prop
  | int (i : Int) : NumV K H (.int i)
  | no {y t b1 b2} : (∀ i, y ≠ .int i) → (∀ H', Same H H' → TyX K H' y t) → PySem.W.kitOne K t (.type "int") = some b1 → PySem.W.kitOne K t (.type "bool") = some b2 → (b1 && !b2) = false → NumV K H y
inductive PathX (K : PySem.W.Frag) (H : Hp) : V → Option (List V) → Prop
  | no {x t} : (∀ H', Same H H' → TyX K H' x t) → PySem.W.kitAny K t [.type "list", .type "tuple"] = some false → PathX K H x none
  | seq {p xs} : SqA K H p xs → (∀ y ∈ xs, NumV K H y) → PathX K H (.ref p) (some xs)
def atX (t : Tm) (o : Option (List V)) : Option Tm := o.bind (atP t)
def spInitE (C : Addr) (f : Str) : Sp := fun vs H Q _ => ∃ (a : Addr) (y : V), vs = [.ref a, y] ∧ H a = some (exo a C none) ∧ ∀ d, H d = none → d ≠ a → Q .non (upd (upd H d (exd d [(f, y)])) a (exo a C (some d)))
/-- an error class of the package, n, with one field f -/
structure ErrC (P : Program) (w : World) (K : PySem.W.Frag) (mg : Str → Option Value) (base : Heap) (n f : Str) (C : Addr) : Prop where
  gC : mg n = some (.ref C)
  T : OexC K C
  ini : ∃ (fI : Addr) (fd : FuncData), PySem.W.findIn K (.ref C) "__init__" = some (some (.ref fI)) ∧ PySem.W.typeIn K (.ref fI) = some (.type "function") ∧ FnOk P w K mg base CX0 1 fI fd ["self", f] (spInitE C f) ∧ Binds K fd ["self", f] []
theorem mk_err {C : Addr} {f : Str} {x : V} {H : Hp} {Q : XK} (q : ∀ d H', Same H H' → H' d = some (.xd [(f, x)]) → Q (.ref C) (some d) H') (a : Addr) (na : H a = none) :
    spInitE C f (.ref a :: ([x] ++ [])) (upd H a (exo a C none)) (fun v H2 => v = .non ∧ ∃ (d : Addr) (fs : List (Str × V)), H2 a = some (exo a C (some d)) ∧ H2 d = some (exd d fs) ∧ H d = none ∧ Q (.ref C) (some d) (upd (del H2 a) d (.xd fs))) (fun _ _ _ => False) := by
  refine ⟨a, x, rfl, upd_same, fun d nd ne => ⟨rfl, d, [(f, x)], upd_same, by rw [upd_ne ne]; exact upd_same, ?_, q d _ (fun b o e => ?_) upd_same⟩⟩
  · rw [upd_ne ne] at nd
    exact nd
  · have ba : b ≠ a := ne_of_none e na
    rw [upd_ne ne] at nd
    have bd : b ≠ d := ne_of_none e nd
    rw [upd_ne bd, del_ne ba, upd_ne ba, upd_ne bd, upd_ne ba]
    exact e
theorem NumV.mono {K : PySem.W.Frag} {H H' : Hp} (s : Same H H') {y : V} (h : NumV K H y) : NumV K H' y := by
  cases h with
  | int i => exact .int i
  | no h1 h2 h3 h4 h5 => exact .no h1 (fun H2 s2 => h2 H2 (s.trans s2)) h3 h4 h5
theorem PathX.mono {K : PySem.W.Frag} {H H' : Hp} (s : Same H H') {x : V} {o : Option (List V)} (h : PathX K H x o) : PathX K H' x o := by
  cases h with
  | no h1 h2 => exact .no (fun H2 s2 => h1 H2 (s.trans s2)) h2
  | seq h1 h2 => exact .seq (h1.mono s) fun y hy => (h2 y hy).mono s
end GB
set_option Elab.async false
set_option linter.all false
set_option maxRecDepth 100000
set_option maxHeartbeats 4000000
/-! A dict whose keys are tuples of texts and such tuples. -/
namespace GB
open PySem PySem.Spec L2 PyProof.Rows
mutual
inductive NkV (H : Hp) : NestedKey → V → Prop
  | text (x : Str) : NkV H (.text x) (.str x)
  | tup {a : Addr} {xs : List V} {ks : List NestedKey} : H a = some (.tup xs) → NkAll H ks xs → NkV H (.tup ks) (.ref a)
inductive NkAll (H : Hp) : List NestedKey → List V → Prop
  | nil : NkAll H [] []
  | cons {k v ks vs} : NkV H k v → NkAll H ks vs → NkAll H (k :: ks) (v :: vs)
end
section
variable {X : Cx} {pins : List (Addr × Obj)} {σ : L2.St} {H : Hp} {s : Shared}
mutual
theorem NkV.is (I : Inv X pins σ H s) : ∀ (k : NestedKey) (v : V) (u : Value), NkV H k v → RelV v u → NestedIs s.heap k u
  | .text x, _, _, h, r => by
    cases h
    obtain ⟨t, rfl⟩ := r
    exact .text x t
  | .tup ks, _, _, h, r => by
    cases h with
    | @tup a xs _ ha hx =>
      obtain rfl := (show _ = Value.ref a from r)
      obtain ⟨_, its, rv, o, h1, h2, n, h3⟩ := (show ObjOk X.prog X.w H s.heap a (.tup xs) from I.hok a _ ha)
      exact .tup h1 h2 h3 (NkAll.is I ks xs its hx rv)
  | .none, _, _, h, _ => nomatch h
  | .num _, _, _, h, _ => nomatch h
theorem NkAll.is (I : Inv X pins σ H s) : ∀ (ks : List NestedKey) (vs : List V) (us : List Value), NkAll H ks vs → Vals vs us → NestedAll s.heap ks us
  | [], _, _, h, r => by
    cases h
    cases r
    exact .nil
  | k :: ks, _, _, h, r => by
    cases h with
    | cons h1 h2 =>
      cases r with
      | cons r1 r2 => exact .cons (NkV.is I k _ _ h1 r1) (NkAll.is I ks _ _ h2 r2)
end
end
abbrev NX := List (NestedKey × Addr × Value)
/-- the dict at d, its entries -/
def ndO (P : Program) (w : World) (d : Addr) (xs : NX) : HO := .ext fun h => (d == sysModules) = false ∧ ∃ o es ep, h.get? d = some o ∧ o.ExactDict ∧ o.data = .dict es ep ∧ es.toList = xs.map (entryOfKey (nestedKind P w)) ∧ (xs.map (·.1)).Nodup
def NdKeys (H : Hp) (xs : NX) : Prop := ∀ e ∈ xs, NkV H e.1 (.ref e.2.1) ∧ e.1.depth ≤ 8
theorem nd_ok {P : Program} {w : World} {H : Hp} {h : Heap} {d : Addr} {xs : NX} (hd : (d == sysModules) = false) (m : h.DictOfH (nestedKind P w) d xs) : ObjOk P w H h d (ndO P w d xs) := by
  obtain ⟨o, es, ep, h1, h2, h3, h4, _, h5⟩ := m
  exact ⟨⟨hd, o, es, ep, h1, h2, h3, h4, h5⟩, ⟨o, h1⟩, fun a b ⟨q0, o', es', ep', q1, q2⟩ k => ⟨q0, o', es', ep', k _ q1, q2⟩⟩
section
variable {X : Cx} {pins : List (Addr × Obj)} {σ : L2.St} {H : Hp} {s : Shared}
theorem nd_of (I : Inv X pins σ H s) {d : Addr} {xs : NX} (e : H d = some (ndO X.prog X.w d xs)) (k : NdKeys H xs) : (d == sysModules) = false ∧ s.heap.DictOfH (nestedKind X.prog X.w) d xs := by
  obtain ⟨⟨q0, o, es, ep, q1, q2, q3, q4, q5⟩, _⟩ := (show ObjOk X.prog X.w H s.heap d (ndO X.prog X.w d xs) from I.hok d _ e)
  exact ⟨q0, o, es, ep, q1, q2, q3, q4, fun x hx => ⟨NkV.is I _ _ _ (k x hx).1 rfl, (k x hx).2⟩, q5⟩
theorem pe_dnewN {pos : Pos} : PE X (.Dict [] [] pos) (fun _ H Q => ∀ p, H p = none → Q (.ref p) (upd H p (ndO X.prog X.w p []))) := ⟨fun pins s σ H Q I h =>
  wpAny_Dict_empty ⟨.ref s.heap.objs.size, _, I.laid (a := s.heap.objs.size) (o := ndO X.prog X.w s.heap.objs.size []) (t' := s.toks) (fun _ _ q => Heap.get?_push_of_some _ q) (Nat.le_refl _)
    (nd_ok (beq_eq_false_iff_ne.mpr (Ne.symm (Nat.ne_of_lt I.big))) (Heap.DictOfH.new s.heap)), rfl, h _ (I.hok.fresh (Nat.le_refl _))⟩⟩
def rInN (P : Program) (w : World) : R2 := fun x y H Q => ∃ (a d : Addr) (k : NestedKey) (xs : NX), x = .ref a ∧ y = .ref d ∧ H d = some (ndO P w d xs) ∧ NdKeys H xs ∧ NkV H k (.ref a) ∧ k.depth ≤ 8 ∧ Q (.bl (atKey xs k).isSome) H
theorem op_inN (hu : X.A.units + 9 < cLine) : OpR X (compareOp .In) (rInN X.prog X.w) := by
  intro pins s σ H x y v u Q I rx ry h
  obtain ⟨a, d, k, xs, rfl, rfl, hd, hk, ha, h8, q⟩ := h
  cases rx
  cases ry
  obtain ⟨h0, hm⟩ := nd_of I hd hk
  exact wpAny_in_heap (knd := nestedKind X.prog X.w) (k := k) (by show X.A.in1.units + 8 < cLine; rw [Around.in1_units]; omega) ⟨NkV.is I _ _ _ ha rfl, h8⟩ h0 hm ⟨.bl (atKey xs k).isSome, H, I.tok _, rfl, q⟩
def rSetN (P : Program) (w : World) : TSet := fun o i v H Q => ∃ (d a b : Addr) (k : NestedKey) (xs : NX), o = .ref d ∧ i = .ref a ∧ v = .ref b ∧ H d = some (ndO P w d xs) ∧ NdKeys H xs ∧ NkV H k (.ref a) ∧ k.depth ≤ 8 ∧ xs.length ≤ 1000 ∧ Q (upd H d (ndO P w d (storedH xs k a (.ref b))))
theorem set_dictN (hu : X.A.units + 9 < cLine) : PSet X (rSetN X.prog X.w) := by
  intro pins s σ H o i v ov iv u Q I ro ri rv h
  obtain ⟨d, a, b, k, xs, rfl, rfl, rfl, hd, hk, ha, h8, hl, q⟩ := h
  cases ro
  cases ri
  cases rv
  obtain ⟨h0, hm⟩ := nd_of I hd hk
  refine wpAny_setItem_heap (knd := nestedKind X.prog X.w) (k := k) (hsz := by rw [sizeLine_eq]; omega) (by show X.A.in1.units + 8 < cLine; rw [Around.in1_units]; omega) ⟨NkV.is I _ _ _ ha rfl, h8⟩ hm (fun h' hm' hs => ?_)
  obtain ⟨o', es, ep, e1, _⟩ := id hm'
  exact ⟨_, d_write I (by rw [hd]; exact True.intro) hs ⟨o', e1⟩ (nd_ok h0 hm'), q⟩
theorem vals_refs : ∀ bs : List Addr, Vals (bs.map V.ref) (bs.map Value.ref)
  | [] => .nil
  | b :: r => .cons rfl (vals_refs r)
/-- the view of the values of the dict at d -/
def valsO (p d : Addr) : HO := .ext fun h => h.IsValuesView p d
def tValsN (P : Program) (w : World) (td : TE) : TE := fun σ H Q => td σ H fun x H1 => ∃ (d : Addr) (xs : NX), x = .ref d ∧ H1 d = some (ndO P w d xs) ∧ ∀ p, H1 p = none → Q (.ref p) (upd H1 p (valsO p d))
theorem pe_valsN {o : Expr} {td : TE} {apos cpos : Pos} (he : PE X o td) (hbase : attributeBase o "values" X.env (eval o X.env) = eval o X.env := by rfl) (hline : (apos.endLine == cpos.line) = true := by rfl) : PE X (.Call (.Attribute o "values" apos) [] [] cpos) (tValsN X.prog X.w td) := by
  refine ⟨fun pins s σ H Q I h => ?_⟩
  refine wpAny_Call_method (T := "dict") (id := "dict.values") hbase rfl hline F.plainAttrs_dict F.slot_dict_values F.type_dict_values (thn (he.run pins s σ H _ I h) fun u s1 ⟨x, H1, I1, rx, d, xs, ex, hd, q⟩ => ?_)
  subst ex
  obtain rfl : u = Value.ref d := rx
  obtain ⟨⟨h0, ob, es, ep, q1, q2, q3, q4, q5⟩, _⟩ := (show ObjOk X.prog X.w H1 s1.heap d (ndO X.prog X.w d xs) from I1.hok d _ hd)
  have raw : s1.heap.DictRaw d es ep := ⟨ob, q1, q2, q3⟩
  refine ⟨raw.typeIs, ?_, ?_⟩
  · intro a e
    cases e
    exact ⟨ob, q1, q2.2.1⟩
  · show wpAny _ _ (callWith cpos (.builtin "dict.values") [.ref d] [] []) _ X.xe s1
    have hf : H1 s1.heap.objs.size = none := I1.hok.fresh (Nat.le_refl _)
    exact method_meetsIn F.slot_dict_values F.entry_dict_values rfl (PySem.evalArgs_none ⟨rfl, raw.typeIs, F.args_dict_values_1 _, _, meets_dict_values_raw d h0, ⟨_, _, raw⟩, ⟨.ref s1.heap.objs.size, upd H1 s1.heap.objs.size (valsO s1.heap.objs.size d), I1.laid (t' := s1.toks) (fun b u e => Heap.get?_push_of_some _ e) (Nat.le_refl _) ⟨⟨_, Heap.get?_push_size _ rfl, rfl, rfl⟩, ⟨_, Heap.get?_push_size _ rfl⟩, fun h1 h2 ⟨o, ho, r⟩ k => ⟨o, k o ho, r⟩⟩, rfl, q _ hf⟩⟩)
/-- list(d.values()) -/
def rListVN (P : Program) (w : World) : List V → Hp → VK → Prop := fun vs H Q => ∃ (p d : Addr) (xs : NX) (bs : List Addr), vs = [.ref p] ∧ H p = some (valsO p d) ∧ H d = some (ndO P w d xs) ∧ xs.map (fun x => x.2.2) = bs.map Value.ref ∧ bs.length ≤ 1000 ∧ ∀ l, H l = none → Q (.ref l) (upd H l (.lst (bs.map V.ref)))
theorem call_listVN (hc : X.calm = true) : CallR X (.type "list") (rListVN X.prog X.w) := by
  intro pins s σ H vs us Q I r h
  obtain ⟨p, d, xs, bs, rfl, hp, hd, hv, hl, q⟩ := h
  obtain ⟨u, rfl, ru⟩ := r.one
  cases (show u = Value.ref p from ru)
  obtain ⟨⟨h0, ob, es, ep, q1, q2, q3, q4, q5⟩, _⟩ := (show ObjOk X.prog X.w H s.heap d (ndO X.prog X.w d xs) from I.hok d _ hd)
  obtain ⟨hview, _⟩ := (show ObjOk X.prog X.w H s.heap p (valsO p d) from I.hok p _ hp)
  have hes : es.size = bs.length := by
    rw [← Array.length_toList, q4, List.length_map, ← List.length_map (f := fun x : NestedKey × Addr × Value => x.2.2), hv, List.length_map]
  refine PySem.W.kdl_call (KdlSrc.rawValues) (I.ok.hd hc) ⟨hview, ob, q1, q2, q3⟩ (by rw [hes, sizeLine_eq]; omega) fun h' tk acc c hk hL hacc => ?_
  have eacc : acc.toList = bs.map Value.ref := by
    rw [← hv]
    refine List.ext_getElem? fun j => ?_
    rw [List.getElem?_map, Array.getElem?_toList]
    have hx : es[j]? = xs[j]?.map (entryOfKey (nestedKind X.prog X.w)) := by rw [← Array.getElem?_toList, q4, List.getElem?_map]
    cases e : acc[j]? with
    | none =>
      have h1 : es.size ≤ j := by rw [← hacc.1]; exact Array.getElem?_eq_none_iff.mp e
      rw [Array.getElem?_eq_none_iff.mpr h1] at hx
      cases e2 : xs[j]? with
      | none => rfl
      | some y => rw [e2] at hx; cases hx
    | some v =>
      obtain ⟨hi, ev⟩ := hacc.2 j v e
      rw [Array.getElem?_eq_getElem hi] at hx
      cases e2 : xs[j]? with
      | none => rw [e2] at hx; cases hx
      | some y =>
        rw [e2] at hx
        have := Option.some.inj hx
        rw [ev, this]
        rfl
  refine ⟨.ref s.heap.objs.size, upd H s.heap.objs.size (.lst (bs.map V.ref)), I.laid (t' := tk) hk (Nat.le_refl _) ⟨by rw [List.length_map, sizeLine_eq]; omega, bs.map Value.ref, c, ?_, by rw [hL, ← eacc]⟩, rfl, q _ (I.hok.fresh (Nat.le_refl _))⟩
  exact vals_refs bs
end
end GB
set_option Elab.async false
set_option linter.all false
set_option maxRecDepth 100000
set_option maxHeartbeats 4000000
/-! Places in terms: the part there, the names that are bound around it, another term in its place. -/
namespace GB
open PySem PySem.Spec L2
/-- at the path r of t (within the names ns) stands s, within the names ms -/
inductive Pos : Tm → List Str → List Nat → Tm → List Str → Prop
  | here {t ns} : Pos t ns [] t ns
  | there {w n : Str} {ks : List Tm} {i : Nat} {k : Tm} {r : List Nat} {s : Tm} {ns ms : List Str} : ks[i]? = some k → Pos k (nsAt w n i ns) r s ms → Pos (.mk w n ks) ns (i :: r) s ms
def putT : Tm → List Nat → Tm → Tm
  | _, [], o => o
  | .mk w n ks, i :: r, o => match ks[i]? with
    | some k => .mk w n (ks.set i (putT k r o))
    | none => .mk w n ks
theorem putT_at {w n : Str} {ks : List Tm} {i : Nat} {k : Tm} {r : List Nat} {o : Tm} (h : ks[i]? = some k) : putT (.mk w n ks) (i :: r) o = .mk w n (ks.set i (putT k r o)) := by
  rw [putT, h]
section
variable {L : List (Str × Nat)} {t s o : Tm} {ns ms : List Str} {r : List Nat}
theorem Pos.at_ (h : Pos t ns r s ms) : atP t (pin r) = some s := by
  induction h with
  | here => rfl
  | @there w n ks i k r s ns ms hk _ ih =>
    have hi : i < ks.length := (List.getElem?_eq_some_iff.mp hk).1
    show (if 0 ≤ (i : Int) ∧ (i : Int) < ks.length then (match ks[(i : Int).toNat]? with | some k => atP k (pin r) | none => none) else none) = _
    rw [if_pos ⟨by omega, by omega⟩, Int.toNat_natCast, hk]
    exact ih
theorem Pos.ok (h : Pos t ns r s ms) (ht : TmOk L ns t) : TmOk L ms s := by
  induction h with
  | here => exact ht
  | there hk _ ih =>
    cases ht with
    | mk hH hK => exact ih (hK _ _ hk)
theorem Pos.put_ok (h : Pos t ns r s ms) (ht : TmOk L ns t) (ho : TmOk L ms o) : TmOk L ns (putT t r o) := by
  induction h with
  | here => exact ho
  | @there w n ks i k r s ns ms hk _ ih =>
    rw [putT_at hk]
    cases ht with
    | mk hH hK =>
      refine .mk (by rw [List.length_set]; exact hH) fun j c hc => ?_
      rw [List.getElem?_set] at hc
      split at hc
      · rename_i e
        subst e
        split at hc
        · obtain rfl := Option.some.inj hc
          exact ih (hK _ _ hk) ho
        · cases hc
      · exact hK _ _ hc
theorem sizes_set : ∀ {ks : List Tm} {i : Nat} {k c : Tm}, ks[i]? = some k → Tm.sizes (ks.set i c) + k.size = Tm.sizes ks + c.size
  | a :: l, 0, k, c, h => by
    obtain rfl := Option.some.inj h
    rw [List.set_cons_zero, Tm.sizes, Tm.sizes]
    omega
  | a :: l, i + 1, k, c, h => by
    have := sizes_set (ks := l) (i := i) (k := k) (c := c) h
    rw [List.set_cons_succ, Tm.sizes, Tm.sizes]
    omega
theorem Pos.put_size (h : Pos t ns r s ms) : (putT t r o).size + s.size = t.size + o.size := by
  induction h with
  | here => rw [putT]; omega
  | @there w n ks i k r s ns ms hk _ ih =>
    rw [putT_at hk, Tm.size, Tm.size]
    have := sizes_set (c := putT k r o) hk
    omega
theorem Pos.put_pos (h : Pos t ns r s ms) : Pos (putT t r o) ns r o ms := by
  induction h with
  | here => exact .here
  | @there w n ks i k r s ns ms hk _ ih =>
    rw [putT_at hk]
    exact .there (by rw [List.getElem?_set_self (List.getElem?_eq_some_iff.mp hk).1]) ih
theorem Pos.put_back (h : Pos t ns r s ms) : putT (putT t r o) r s = t := by
  induction h with
  | here => rfl
  | @there w n ks i k r s ns ms hk _ ih =>
    obtain ⟨hi, e⟩ := List.getElem?_eq_some_iff.mp hk
    rw [putT_at hk, putT_at (List.getElem?_set_self hi), ih, List.set_set]
    rw [← e, List.set_getElem_self hi]
theorem Pos.le (h : Pos t ns r s ms) : s.size + r.length ≤ t.size := by
  induction h with
  | here => simp
  | @there w n ks i k r s ns ms hk _ ih =>
    have := size_at (w := w) (n := n) hk
    rw [List.length_cons]
    omega
theorem Pos.nsl (h : Pos t ns r s ms) : ms.length ≤ ns.length + r.length := by
  induction h with
  | here => simp
  | @there w n ks i k r s ns ms hk _ ih =>
    have : (nsAt w n i ns).length ≤ ns.length + 1 := by
      unfold nsAt
      split
      · simp
      · omega
    rw [List.length_cons]
    omega
theorem Pos.snoc {w n : Str} {ks : List Tm} {i : Nat} {k : Tm} (h : Pos t ns r (.mk w n ks) ms) (hk : ks[i]? = some k) : Pos t ns (r ++ [i]) k (nsAt w n i ms) := by
  generalize e : Tm.mk w n ks = s at h
  induction h with
  | here => subst e; exact .there hk .here
  | there h1 _ ih => exact .there h1 (ih e)
/-- how a place goes on behind another one -/
theorem Pos.split : ∀ {a b : List Nat} {t s : Tm} {ns ms : List Str}, Pos t ns (a ++ b) s ms → ∃ u us, Pos t ns a u us ∧ Pos u us b s ms
  | [], _, _, _, _, _, h => ⟨_, _, .here, h⟩
  | i :: a, b, _, _, _, _, h => by
    cases h with
    | there h1 h2 =>
      obtain ⟨u, us, p1, p2⟩ := Pos.split h2
      exact ⟨u, us, .there h1 p1, p2⟩
theorem head_bind {n : Str} {m : Nat} (h : HeadOk L ns "bind" n m) : nameB n = true := by
  cases h with
  | bind h _ => exact h
  | op ho => exact absurd rfl ((show ∀ q ∈ opsW, q.1 ≠ "bind" by decide) _ ho)
theorem head_bnd {n : Str} {m : Nat} (h : HeadOk L ns "bind" n m) : n ∈ bnd := by
  cases h with
  | bind _ h => exact h
  | op ho => exact absurd rfl ((show ∀ q ∈ opsW, q.1 ≠ "bind" by decide) _ ho)
theorem Pos.bnds (h : Pos t ns r s ms) (ht : TmOk L ns t) (hn : ∀ z ∈ ns, z ∈ bnd) : ∀ z ∈ ms, z ∈ bnd := by
  induction h with
  | here => exact hn
  | @there w n ks i k r s ns ms hk _ ih =>
    cases ht with
    | mk hH hK =>
      refine ih (hK _ _ hk) fun z hz => ?_
      unfold nsAt at hz
      split at hz
      · rename_i e
        rcases List.mem_append.mp hz with h | h
        · exact hn z h
        · rw [List.mem_singleton.mp h]
          obtain ⟨rfl, _⟩ := e
          exact head_bnd hH
      · exact hn z hz
theorem Pos.nstr (h : Pos t ns r s ms) (ht : TmOk L ns t) (hn : ∀ z ∈ ns, nameB z = true) : ∀ z ∈ ms, nameB z = true := by
  induction h with
  | here => exact hn
  | @there w n ks i k r s ns ms hk _ ih =>
    cases ht with
    | mk hH hK =>
      refine ih (hK _ _ hk) fun z hz => ?_
      unfold nsAt at hz
      split at hz
      · rename_i e
        rcases List.mem_append.mp hz with h | h
        · exact hn z h
        · rw [List.mem_singleton.mp h]
          obtain ⟨rfl, _⟩ := e
          exact head_bind hH
      · exact hn z hz
end
mutual
/-- all places, with the names around: a part ahead of those within it -/
def Tm.places : Tm → List Nat → List Str → List (List Nat × List Str)
  | .mk w n ks, p, ns => (p, ns) :: Tm.placesL w n ks p ns 0
def Tm.placesL : Str → Str → List Tm → List Nat → List Str → Nat → List (List Nat × List Str)
  | _, _, [], _, _, _ => []
  | w, n, k :: r, p, ns, i => k.places (p ++ [i]) (nsAt w n i ns) ++ Tm.placesL w n r p ns (i + 1)
end
mutual
theorem places_len : ∀ (t : Tm) (p : List Nat) (ns : List Str), (t.places p ns).length = t.size
  | .mk w n ks, p, ns => by rw [Tm.places, Tm.size, List.length_cons, placesL_len w n ks p ns 0]
theorem placesL_len : ∀ (w n : Str) (ks : List Tm) (p : List Nat) (ns : List Str) (i : Nat), (Tm.placesL w n ks p ns i).length = Tm.sizes ks
  | _, _, [], _, _, _ => rfl
  | w, n, k :: r, p, ns, i => by rw [Tm.placesL, Tm.sizes, List.length_append, places_len k, placesL_len w n r]
end
theorem placesL_app : ∀ (w n : Str) (l : List Tm) (k : Tm) (p : List Nat) (ns : List Str) (i : Nat), Tm.placesL w n (l ++ [k]) p ns i = Tm.placesL w n l p ns i ++ k.places (p ++ [i + l.length]) (nsAt w n (i + l.length) ns)
  | w, n, [], k, p, ns, i => by simp [Tm.placesL]
  | w, n, a :: r, k, p, ns, i => by
    have e : i + 1 + r.length = i + (r.length + 1) := by omega
    rw [List.cons_append, Tm.placesL, Tm.placesL, placesL_app w n r k p ns (i + 1), List.append_assoc, List.length_cons, e]
mutual
theorem places_pos : ∀ (t : Tm) (p : List Nat) (ns : List Str) (q : List Nat) (ms : List Str), (q, ms) ∈ t.places p ns → ∃ r s, q = p ++ r ∧ Pos t ns r s ms
  | .mk w n ks, p, ns, q, ms, h => by
    rw [Tm.places] at h
    rcases List.mem_cons.mp h with h | h
    · cases h
      exact ⟨[], _, by rw [List.append_nil], .here⟩
    · obtain ⟨j, k, r, s, hk, e, hp⟩ := placesL_pos w n ks p ns 0 q ms h
      rw [Nat.zero_add] at e hp
      exact ⟨j :: r, s, e, .there hk hp⟩
theorem placesL_pos : ∀ (w n : Str) (ks : List Tm) (p : List Nat) (ns : List Str) (i : Nat) (q : List Nat) (ms : List Str), (q, ms) ∈ Tm.placesL w n ks p ns i → ∃ j k r s, ks[j]? = some k ∧ q = p ++ (i + j) :: r ∧ Pos k (nsAt w n (i + j) ns) r s ms
  | _, _, [], _, _, _, _, _, h => by
    rw [Tm.placesL] at h
    cases h
  | w, n, k :: l, p, ns, i, q, ms, h => by
    rw [Tm.placesL] at h
    rcases List.mem_append.mp h with h | h
    · obtain ⟨r, s, e, hp⟩ := places_pos k (p ++ [i]) (nsAt w n i ns) q ms h
      exact ⟨0, k, r, s, rfl, by rw [e]; simp, hp⟩
    · obtain ⟨j, k2, r, s, hk, e, hp⟩ := placesL_pos w n l p ns (i + 1) q ms h
      have e2 : i + 1 + j = i + (j + 1) := by omega
      rw [e2] at e hp
      exact ⟨j + 1, k2, r, s, hk, e, hp⟩
end
end GB
set_option Elab.async false
set_option linter.all false
set_option maxRecDepth 100000
set_option maxHeartbeats 4000000
/-! Objects that are no terms, and where the first part stands that is none. -/
namespace GB
open PySem PySem.Spec L2
/-- one of two readings -/
theorem pe_alt {X : Cx} {e : Expr} {t1 t2 : TE} (h1 : PE X e t1) (h2 : PE X e t2) : PE X e (fun σ H Q => t1 σ H Q ∨ t2 σ H Q) := ⟨fun pins s σ H Q I h => h.elim (h1.run pins s σ H Q I) (h2.run pins s σ H Q I)⟩
/-- no name -/
inductive NotNm (K : PySem.W.Frag) (H : Hp) : V → Prop
  | str {s : Str} : nameB s = false → s.length ≤ sizeLine → NotNm K H (.str s)
  | oth {x t} : (∀ H', Same H H' → TyX K H' x t) → PySem.W.kitOne K t (.type "str") = some false → NotNm K H x
/-- no letter -/
inductive NotL (K : PySem.W.Frag) (H : Hp) (L : List (Str × Nat)) : V → Prop
  | str {s : Str} : s ∉ L.map (·.1) → NotL K H L (.str s)
  | oth {x t} : (∀ H', Same H H' → TyX K H' x t) → PySem.W.kitOne K t (.type "str") = some false → NotL K H L x
theorem NotNm.mono {K : PySem.W.Frag} {H H' : Hp} {x : V} (s : Same H H') (h : NotNm K H x) : NotNm K H' x := by
  cases h with
  | str h1 h2 => exact .str h1 h2
  | oth h1 h2 => exact .oth (fun H2 s2 => h1 H2 (s.trans s2)) h2
theorem NotL.mono {K : PySem.W.Frag} {H H' : Hp} {L : List (Str × Nat)} {x : V} (s : Same H H') (h : NotL K H L x) : NotL K H' L x := by
  cases h with
  | str h1 => exact .str h1
  | oth h1 h2 => exact .oth (fun H2 s2 => h1 H2 (s.trans s2)) h2
/-- a list, or none -/
inductive SeqOr (K : PySem.W.Frag) (H : Hp) : V → Prop
  | no {x t} : (∀ H', Same H H' → TyX K H' x t) → PySem.W.kitAny K t [.type "list", .type "tuple"] = some false → SeqOr K H x
  | seq {p xs} : SqA K H p xs → SeqOr K H (.ref p)
theorem SeqOr.mono {K : PySem.W.Frag} {H H' : Hp} {x : V} (s : Same H H') (h : SeqOr K H x) : SeqOr K H' x := by
  cases h with
  | no h1 h2 => exact .no (fun H2 s2 => h1 H2 (s.trans s2)) h2
  | seq h1 => exact .seq (h1.mono s)
/-- a use that is none -/
inductive UseV (K : PySem.W.Frag) (H : Hp) (L : List (Str × Nat)) (p : Addr) : Prop
  | len {r} : SqA K H p (.str "use" :: r) → r.length ≠ 2 → UseV K H L p
  | name {y e} : SqA K H p [.str "use", y, e] → NotL K H L y → SeqOr K H e → UseV K H L p
  | parts {n m e t} : SqA K H p [.str "use", .str n, e] → (n, m) ∈ L → (∀ H', Same H H' → TyX K H' e t) → PySem.W.kitAny K t [.type "list", .type "tuple"] = some false → UseV K H L p
  | many {n m q us} : SqA K H p [.str "use", .str n, .ref q] → (n, m) ∈ L → SqA K H q us → us.length ≠ m → UseV K H L p
theorem UseV.mono {K : PySem.W.Frag} {H H' : Hp} {L : List (Str × Nat)} {p : Addr} (s : Same H H') (h : UseV K H L p) : UseV K H' L p := by
  cases h with
  | len h1 h2 => exact .len (h1.mono s) h2
  | name h1 h2 h3 => exact .name (h1.mono s) (h2.mono s) (h3.mono s)
  | parts h1 h2 h3 h4 => exact .parts (h1.mono s) h2 (fun H2 s2 => h3 H2 (s.trans s2)) h4
  | many h1 h2 h3 h4 => exact .many (h1.mono s) h2 (h3.mono s) h4
theorem UseV.hd {K : PySem.W.Frag} {H : Hp} {L : List (Str × Nat)} {p : Addr} (h : UseV K H L p) : ∃ r, SqA K H p (.str "use" :: r) := by
  cases h with
  | len h1 _ => exact ⟨_, h1⟩
  | name h1 _ _ => exact ⟨_, h1⟩
  | parts h1 _ _ _ => exact ⟨_, h1⟩
  | many h1 _ _ _ => exact ⟨_, h1⟩
/-- a thing that is no node -/
inductive OddV (K : PySem.W.Frag) (H : Hp) (L : List (Str × Nat)) (ns : List Str) : V → Prop
  | flat {x t} : (∀ H', Same H H' → TyX K H' x t) → PySem.W.kitAny K t [.type "list", .type "tuple"] = some false → OddV K H L ns x
  | empty {p} : SqA K H p [] → OddV K H L ns (.ref p)
  | head {p y r t} : SqA K H p (y :: r) → (∀ H', Same H H' → TyX K H' y t) → PySem.W.kitOne K t (.type "str") = some false → OddV K H L ns (.ref p)
  | use {p} : UseV K H L p → OddV K H L ns (.ref p)
  | bname {p y a b} : SqA K H p [.str "bind", y, a, b] → NotNm K H y → OddV K H L ns (.ref p)
  | nlen {p w r} : w ∈ nmd → SqA K H p (.str w :: r) → r.length ≠ 1 → OddV K H L ns (.ref p)
  | nname {p w y} : w ∈ nmd → SqA K H p [.str w, y] → NotNm K H y → OddV K H L ns (.ref p)
  | free {p n} : SqA K H p [.str "name", .str n] → nameB n = true → n ∉ ns → OddV K H L ns (.ref p)
  | word {p r} : SqA K H p (.str "xor" :: r) → OddV K H L ns (.ref p)
  | olen {p w m r} : (w, m) ∈ opsW → SqA K H p (.str w :: r) → r.length ≠ m → OddV K H L ns (.ref p)
theorem OddV.mono {K : PySem.W.Frag} {H H' : Hp} {L : List (Str × Nat)} {ns : List Str} {x : V} (s : Same H H') (h : OddV K H L ns x) : OddV K H' L ns x := by
  cases h with
  | flat h1 h2 => exact .flat (fun H2 s2 => h1 H2 (s.trans s2)) h2
  | empty h => exact .empty (h.mono s)
  | head h1 h2 h3 => exact .head (h1.mono s) (fun H2 s2 => h2 H2 (s.trans s2)) h3
  | use h => exact .use (h.mono s)
  | bname h1 h2 => exact .bname (h1.mono s) (h2.mono s)
  | nlen h0 h1 h2 => exact .nlen h0 (h1.mono s) h2
  | nname h0 h1 h2 => exact .nname h0 (h1.mono s) (h2.mono s)
  | free h h1 h2 => exact .free (h.mono s) h1 h2
  | word h => exact .word (h.mono s)
  | olen h0 h1 h2 => exact .olen h0 (h1.mono s) h2
/-- words that stand ahead of no terms alone -/
def noW : List Str := ["use", "value", "name", "fail", "bind", "xor"]
/-- an odd thing that begins with a word -/
structure OddW (K : PySem.W.Frag) (H : Hp) (L : List (Str × Nat)) (ns : List Str) (p : Addr) (w : Str) (r : List V) : Prop where
  sq : SqA K H p (.str w :: r)
  ne : r ≠ []
  use : w = "use" → UseV K H L p
  ops : ∀ m, (w, m) ∈ opsW → r.length ≠ m
  nam : w ∈ nmd → r.length ≠ 1 ∨ ∃ y, r = [y] ∧ (NotNm K H y ∨ (w = "name" ∧ ∃ n, y = .str n ∧ nameB n = true ∧ n ∉ ns))
  bind : w = "bind" → ∃ y a b, r = [y, a, b] ∧ NotNm K H y
  known : (∃ m, (w, m) ∈ opsW) ∨ w ∈ noW
theorem OddW.mono {K : PySem.W.Frag} {H H' : Hp} {L : List (Str × Nat)} {ns : List Str} {p : Addr} {w : Str} {r : List V} (s : Same H H') (h : OddW K H L ns p w r) : OddW K H' L ns p w r :=
  ⟨h.sq.mono s, h.ne, fun e => (h.use e).mono s, h.ops, fun m => (h.nam m).imp id fun ⟨y, e, q⟩ => ⟨y, e, q.imp (fun n => n.mono s) id⟩, fun e => let ⟨y, a, b, e1, n⟩ := h.bind e; ⟨y, a, b, e1, n.mono s⟩, h.known⟩
theorem nmW : ∀ x ∈ nmd, x ≠ "use" ∧ x ≠ "bind" ∧ x ∉ opsW.map (·.1) ∧ x ∈ noW := by decide
theorem noOp {w : Str} (h : w ∉ opsW.map (·.1)) (m : Nat) : (w, m) ∉ opsW := fun z => h (List.mem_map.mpr ⟨_, z, rfl⟩)
theorem OddV.cases4 {K : PySem.W.Frag} {H : Hp} {L : List (Str × Nat)} {ns : List Str} {x : V} (h : OddV K H L ns x) :
    (∃ t, (∀ H', Same H H' → TyX K H' x t) ∧ PySem.W.kitAny K t [.type "list", .type "tuple"] = some false) ∨ (∃ p xs, x = .ref p ∧ SqA K H p xs ∧ xs.length < 2) ∨
    (∃ p y r t, x = .ref p ∧ SqA K H p (y :: r) ∧ (∀ H', Same H H' → TyX K H' y t) ∧ PySem.W.kitOne K t (.type "str") = some false) ∨ ∃ p w r, x = .ref p ∧ OddW K H L ns p w r := by
  have sh : ∀ {p : Addr} {y : V} {r : List V}, SqA K H p (y :: r) → (r ≠ [] → ∃ p' w r', V.ref p = .ref p' ∧ OddW K H L ns p' w r') → (∃ t, (∀ H', Same H H' → TyX K H' (.ref p) t) ∧ PySem.W.kitAny K t [.type "list", .type "tuple"] = some false) ∨ (∃ p' xs, V.ref p = .ref p' ∧ SqA K H p' xs ∧ xs.length < 2) ∨
    (∃ p' y r t, V.ref p = .ref p' ∧ SqA K H p' (y :: r) ∧ (∀ H', Same H H' → TyX K H' y t) ∧ PySem.W.kitOne K t (.type "str") = some false) ∨ ∃ p' w r, V.ref p = .ref p' ∧ OddW K H L ns p' w r := fun {p y r} hp hq => by
      by_cases e : r = []
      · subst e
        exact .inr (.inl ⟨_, _, rfl, hp, by simp⟩)
      · exact .inr (.inr (.inr (hq e)))
  cases h with
  | flat h1 h2 => exact .inl ⟨_, h1, h2⟩
  | empty h => exact .inr (.inl ⟨_, _, rfl, h, by simp⟩)
  | head h1 h2 h3 => exact .inr (.inr (.inl ⟨_, _, _, _, rfl, h1, h2, h3⟩))
  | use h =>
    obtain ⟨r, hp⟩ := h.hd
    refine sh hp fun ne => ⟨_, _, _, rfl, hp, ne, fun _ => h, fun m z => absurd z (noOp (by decide) m), fun z => absurd z (by decide), fun z => absurd z (by decide), .inr (by decide)⟩
  | @bname p y a b h1 h2 => exact sh h1 fun ne => ⟨_, _, _, rfl, h1, ne, fun z => absurd z (by decide), fun m z => absurd z (noOp (by decide) m), fun z => absurd z (by decide), fun _ => ⟨y, a, b, rfl, h2⟩, .inr (by decide)⟩
  | nlen h0 h1 h2 => exact sh h1 fun ne => ⟨_, _, _, rfl, h1, ne, fun z => absurd z (nmW _ h0).1, fun m z => absurd z (noOp (nmW _ h0).2.2.1 m), fun _ => .inl h2, fun z => absurd z (nmW _ h0).2.1, .inr (nmW _ h0).2.2.2⟩
  | nname h0 h1 h2 => exact sh h1 fun ne => ⟨_, _, _, rfl, h1, ne, fun z => absurd z (nmW _ h0).1, fun m z => absurd z (noOp (nmW _ h0).2.2.1 m), fun _ => .inr ⟨_, rfl, .inl h2⟩, fun z => absurd z (nmW _ h0).2.1, .inr (nmW _ h0).2.2.2⟩
  | free h1 h2 h3 => exact sh h1 fun ne => ⟨_, _, _, rfl, h1, ne, fun z => absurd z (by decide), fun m z => absurd z (noOp (by decide) m), fun _ => .inr ⟨_, rfl, .inr ⟨rfl, _, rfl, h2, h3⟩⟩, fun z => absurd z (by decide), .inr (by decide)⟩
  | word h1 => exact sh h1 fun ne => ⟨_, _, _, rfl, h1, ne, fun z => absurd z (by decide), fun m z => absurd z (noOp (by decide) m), fun z => absurd z (by decide), fun z => absurd z (by decide), .inr (by decide)⟩
  | @olen p w m r h0 h1 h2 =>
    have n := (show ∀ q ∈ opsW, q.1 ∉ nmd ∧ q.1 ≠ "use" ∧ q.1 ≠ "bind" by decide) _ h0
    have u : ∀ k, (w, k) ∈ opsW → k = m := fun k hk => (show ∀ q ∈ opsW, ∀ q' ∈ opsW, q.1 = q'.1 → q.2 = q'.2 by decide) _ hk _ h0 rfl
    exact sh h1 fun ne => ⟨_, _, _, rfl, h1, ne, fun z => absurd z n.2.1, fun k z => by rw [u k z]; exact h2, fun z => absurd z n.1, fun z => absurd z n.2.2, .inl ⟨m, h0⟩⟩
/-- a thing that is a term of at most so many parts -/
def GoodV (K : PySem.W.Frag) (H : Hp) (L : List (Str × Nat)) (ns : List Str) (z : Nat) (x : V) : Prop := ∃ d t, Dp K H x d ∧ IsTm d t ∧ TmOk L ns t ∧ t.size ≤ z
/-- the first part that is no term stands at this path -/
inductive BadV (K : PySem.W.Frag) (H : Hp) (L : List (Str × Nat)) : Nat → List Str → V → List Nat → Prop
  | odd {z ns x} : OddV K H L ns x → BadV K H L (z + 1) ns x []
  | within {z ns p w n us i y r} : NodeV K H p w n us → HeadOk L ns w n us.length → us[i]? = some y → (∀ j x, j < i → us[j]? = some x → GoodV K H L (nsAt w n j ns) z x) → BadV K H L z (nsAt w n i ns) y r → us.length ≤ 1000 → BadV K H L (z + 1) ns (.ref p) (i :: r)
theorem GoodV.mono {K : PySem.W.Frag} {H H' : Hp} {L : List (Str × Nat)} {ns : List Str} {z : Nat} {x : V} (s : Same H H') (h : GoodV K H L ns z x) : GoodV K H' L ns z x := let ⟨d, t, a, b⟩ := h; ⟨d, t, dp_mono s a, b⟩
theorem BadV.mono {K : PySem.W.Frag} {H H' : Hp} {L : List (Str × Nat)} {z : Nat} {ns : List Str} {x : V} {r : List Nat} (s : Same H H') (h : BadV K H L z ns x r) : BadV K H' L z ns x r := by
  induction h with
  | odd h => exact .odd (h.mono s)
  | within h1 h2 h3 h4 _ h6 ih => exact .within (h1.mono s) h2 h3 (fun j x hj hx => (h4 j x hj hx).mono s) ih h6
end GB
set_option Elab.async false
set_option linter.all false
set_option maxRecDepth 100000
set_option maxHeartbeats 4000000
/-! Any object that a drawn and spoilt term is made of. -/
namespace GB
open PySem PySem.Spec L2
inductive AD where
  | non | bl (b : Bool) | int (i : Int) | str (s : Str) | dic | seq (t : Bool) (xs : List AD)
mutual
def AD.sz : AD → Nat
  | .seq _ xs => AD.szs xs + 1
  | _ => 1
def AD.szs : List AD → Nat
  | [] => 0
  | d :: r => d.sz + AD.szs r
end
mutual
inductive AdAt (K : PySem.W.Frag) (H : Hp) : V → AD → Prop
  | non : AdAt K H .non .non
  | bl (b : Bool) : AdAt K H (.bl b) (.bl b)
  | int (i : Int) : AdAt K H (.int i) (.int i)
  | str (s : Str) : AdAt K H (.str s) (.str s)
  | dic {a} : H a = some (.dK []) → AdAt K H (.ref a) .dic
  | tup {a xs ds} : SqT K H a xs → AdAll K H xs ds → AdAt K H (.ref a) (.seq true ds)
  | lst {a xs ds} : SqL K H a xs → AdAll K H xs ds → AdAt K H (.ref a) (.seq false ds)
inductive AdAll (K : PySem.W.Frag) (H : Hp) : List V → List AD → Prop
  | nil : AdAll K H [] []
  | cons {v d vs ds} : AdAt K H v d → AdAll K H vs ds → AdAll K H (v :: vs) (d :: ds)
end
section
variable {K : PySem.W.Frag} {H H' : Hp}
mutual
theorem AdAt.mono (s : Same H H') : ∀ {d : AD} {v : V}, AdAt K H v d → AdAt K H' v d
  | _, _, .non => .non
  | _, _, .bl b => .bl b
  | _, _, .int i => .int i
  | _, _, .str z => .str z
  | _, _, .dic h => .dic (s _ _ h)
  | _, _, .tup h1 h2 => .tup (Same.seqT s h1) (AdAll.mono s h2)
  | _, _, .lst h1 h2 => .lst (Same.seq s h1) (AdAll.mono s h2)
theorem AdAll.mono (s : Same H H') : ∀ {ds : List AD} {vs : List V}, AdAll K H vs ds → AdAll K H' vs ds
  | _, _, .nil => .nil
  | _, _, .cons h1 h2 => .cons (AdAt.mono s h1) (AdAll.mono s h2)
end
theorem AdAll.len : ∀ {vs : List V} {ds : List AD}, AdAll K H vs ds → vs.length = ds.length
  | _, _, .nil => rfl
  | _, _, .cons _ h => by rw [List.length_cons, List.length_cons, h.len]
theorem AdAll.at : ∀ {vs : List V} {ds : List AD} {i : Nat} {v : V}, AdAll K H vs ds → vs[i]? = some v → ∃ d, ds[i]? = some d ∧ AdAt K H v d
  | _, _, 0, _, .cons h _, e => ⟨_, rfl, by cases e; exact h⟩
  | _, _, i + 1, _, .cons _ h, e => h.at (i := i) e
theorem AdAll.app : ∀ {vs ws : List V} {ds es : List AD}, AdAll K H vs ds → AdAll K H ws es → AdAll K H (vs ++ ws) (ds ++ es)
  | _, _, _, _, .nil, h => h
  | _, _, _, _, .cons a b, h => .cons a (b.app h)
theorem tyT {a : Addr} {xs : List V} (h : SqT K H a xs) : ∀ H', Same H H' → TyX K H' (.ref a) (.type "tuple") := by
  rcases h with (h | ⟨o, h⟩) | ⟨o, its, m, h, hc, _⟩
  · exact fun H' s => .base (.tup (s _ _ h))
  · exact fun H' s => .fTuple (s _ _ h)
  · exact fun H' s => .kTuple h hc
theorem tyL {a : Addr} {xs : List V} (h : SqL K H a xs) : ∀ H', Same H H' → TyX K H' (.ref a) (.type "list") := by
  rcases h with (h | ⟨o, h⟩) | ⟨o, its, m, h, hc, _⟩
  · exact fun H' s => .base (.lst (s _ _ h))
  · exact fun H' s => .base (.frz (s _ _ h))
  · exact fun H' s => .kList h hc
def AD.ty : AD → String
  | .non => "NoneType" | .bl _ => "bool" | .int _ => "int" | .str _ => "str" | .dic => "dict" | .seq true _ => "tuple" | .seq false _ => "list"
theorem AdAt.ty {v : V} {d : AD} (h : AdAt K H v d) : ∀ H', Same H H' → TyX K H' v (.type d.ty) := by
  cases h with
  | non => exact fun _ _ => .base .non
  | bl b => exact fun _ _ => .base (.bl b)
  | int i => exact fun _ _ => .base (.int i)
  | str s => exact fun _ _ => .base (.str s)
  | dic h => exact fun _ s => .base (.dK (s _ _ h))
  | tup h _ => exact tyT h
  | lst h _ => exact tyL h
def AD.isTup : AD → Bool
  | .seq true _ => true
  | _ => false
def AD.isSeq : AD → Bool
  | .seq _ _ => true
  | _ => false
def AD.isStr : AD → Bool
  | .str _ => true
  | _ => false
theorem kit_tup (d : AD) : PySem.W.kitOne K (.type d.ty) (.type "tuple") = some d.isTup := by
  cases d with
  | seq t xs => cases t <;> exact kit_ty (by simp only [AD.ty, AD.isTup, AD.isStr]; decide +kernel)
  | _ => exact kit_ty (by simp only [AD.ty, AD.isTup, AD.isStr]; decide +kernel)
theorem kit_str (d : AD) : PySem.W.kitOne K (.type d.ty) (.type "str") = some d.isStr := by
  cases d with
  | seq t xs => cases t <;> exact kit_ty (by simp only [AD.ty, AD.isTup, AD.isStr]; decide +kernel)
  | _ => exact kit_ty (by simp only [AD.ty, AD.isTup, AD.isStr]; decide +kernel)
theorem kit_sq (d : AD) : PySem.W.kitAny K (.type d.ty) [.type "list", .type "tuple"] = some d.isSeq := by
  cases d with
  | seq t xs => cases t with
    | true => exact kit_seq (.inr rfl)
    | false => exact kit_seq (.inl rfl)
  | _ => exact kitAny_cons (b := false) (kit_ty (by simp only [AD.ty]; decide +kernel)) (fun _ => kitAny_cons (b := false) (kit_ty (by simp only [AD.ty]; decide +kernel)) (fun _ => kitAny_nil) (fun h => nomatch h)) (fun h => nomatch h)
end
/-! lists for some of its tuples -/
mutual
inductive Lo : AD → AD → Prop
  | same {d} : d.isTup = false → Lo d d
  | tup {b xs ys} : LoAll xs ys → Lo (.seq true xs) (.seq b ys)
inductive LoAll : List AD → List AD → Prop
  | nil : LoAll [] []
  | cons {d e ds es} : Lo d e → LoAll ds es → LoAll (d :: ds) (e :: es)
end
theorem LoAll.app : ∀ {a b c d : List AD}, LoAll a b → LoAll c d → LoAll (a ++ c) (b ++ d)
  | _, _, _, _, .nil, h => h
  | _, _, _, _, .cons x y, h => .cons x (y.app h)
theorem AD.szs_app : ∀ a b : List AD, AD.szs (a ++ b) = AD.szs a + AD.szs b
  | [], b => by rw [List.nil_append, AD.szs, Nat.zero_add]
  | x :: r, b => by rw [List.cons_append, AD.szs, AD.szs, szs_app r b, Nat.add_assoc]
theorem AD.sz_pos (d : AD) : 0 < d.sz := by
  cases d <;> simp [AD.sz]
theorem AD.len_szs : ∀ a : List AD, a.length ≤ AD.szs a
  | [] => by simp
  | x :: r => by
    have := AD.sz_pos x
    have := AD.len_szs r
    rw [List.length_cons, AD.szs]
    omega
theorem AD.szs_at : ∀ {a : List AD} {i : Nat} {d : AD}, a[i]? = some d → AD.szs (a.take i) + d.sz ≤ AD.szs a
  | x :: r, 0, d, e => by
    cases e
    rw [List.take_zero, AD.szs, AD.szs]
    omega
  | x :: r, i + 1, d, e => by
    have := AD.szs_at (a := r) (i := i) e
    rw [List.take_succ_cons, AD.szs, AD.szs]
    omega
end GB
set_option Elab.async false
set_option linter.all false
set_option autoImplicit false
set_option maxRecDepth 100000
set_option maxHeartbeats 4000000
namespace GB
open PySem PySem.Spec L2
/-- no name -/
def AD.noNm (d : AD) : Prop := (∃ s, d = .str s ∧ nameB s = false ∧ s.length ≤ sizeLine ∧ ∀ c ∈ s.cps.toList, PyData.strOk ⟨#[c]⟩ = true) ∨ d.isStr = false
/-- no letter -/
def AD.noL (L : List (Str × Nat)) (d : AD) : Prop := (∃ s, d = .str s ∧ s ∉ L.map (·.1)) ∨ d.isStr = false
inductive Od (L : List (Str × Nat)) (ns : List Str) : AD → Prop
  | flat {d : AD} : d.isSeq = false → Od L ns d
  | empty {b} : Od L ns (.seq b [])
  | head {b} {x : AD} {r} : x.isStr = false → Od L ns (.seq b (x :: r))
  | ulen {b} {r : List AD} : r.length ≠ 2 → Od L ns (.seq b (.str "use" :: r))
  | uname {b} {y e : AD} : y.noL L → Od L ns (.seq b [.str "use", y, e])
  | uparts {b n m} {e : AD} : (n, m) ∈ L → e.isSeq = false → Od L ns (.seq b [.str "use", .str n, e])
  | bname {b} {y a c : AD} : y.noNm → Od L ns (.seq b [.str "bind", y, a, c])
  | nlen {b w} {r : List AD} : w ∈ nmd → r.length ≠ 1 → Od L ns (.seq b (.str w :: r))
  | nname {b w} {y : AD} : w ∈ nmd → y.noNm → Od L ns (.seq b [.str w, y])
  | free {b n} : nameB n = true → n ∉ ns → Od L ns (.seq b [.str "name", .str n])
  | word {b r} : Od L ns (.seq b (.str "xor" :: r))
  | olen {b w m} {r : List AD} : (w, m) ∈ opsW → r.length ≠ m → Od L ns (.seq b (.str w :: r))
inductive NodA : AD → Str → Str → List AD → Prop
  | leaf {b w n} : w ∈ nmd → NodA (.seq b [.str w, .str n]) w n []
  | use {b c n ks} : NodA (.seq b [.str "use", .str n, .seq c ks]) "use" n ks
  | bind {b n ks} : NodA (.seq b (.str "bind" :: .str n :: ks)) "bind" n ks
  | op {b w m ks} : (w, m) ∈ opsW → NodA (.seq b (.str w :: ks)) w "" ks
section
variable {K : PySem.W.Frag} {H : Hp} {L : List (Str × Nat)} {ns : List Str}
theorem AdAt.sq {v : V} {b : Bool} {ds : List AD} (h : AdAt K H v (.seq b ds)) : ∃ a xs, v = .ref a ∧ SqA K H a xs ∧ AdAll K H xs ds := by
  cases h with
  | tup h1 h2 => exact ⟨_, _, rfl, .inr h1, h2⟩
  | lst h1 h2 => exact ⟨_, _, rfl, .inl h1, h2⟩
theorem AdAll.cons_inv {vs : List V} {d : AD} {ds : List AD} (h : AdAll K H vs (d :: ds)) : ∃ v r, vs = v :: r ∧ AdAt K H v d ∧ AdAll K H r ds := by
  cases h with
  | cons a b => exact ⟨_, _, rfl, a, b⟩
theorem AdAll.nil_inv {vs : List V} (h : AdAll K H vs []) : vs = [] := by cases h; rfl
theorem AdAt.str_inv {v : V} {s : Str} (h : AdAt K H v (.str s)) : v = .str s := by cases h; rfl
theorem noNm_v {v : V} {d : AD} (h : AdAt K H v d) (n : d.noNm) : NotNm K H v := by
  rcases n with ⟨s, rfl, h1, h2⟩ | n
  · rw [h.str_inv]; exact .str h1 h2.1
  · exact .oth h.ty (by rw [kit_str, n])
theorem noL_v {v : V} {d : AD} (h : AdAt K H v d) (n : d.noL L) : NotL K H L v := by
  rcases n with ⟨s, rfl, h1⟩ | n
  · rw [h.str_inv]; exact .str h1
  · exact .oth h.ty (by rw [kit_str, n])
theorem seqOr_v {v : V} {d : AD} (h : AdAt K H v d) : SeqOr K H v := by
  cases hd : d.isSeq with
  | false => exact .no h.ty (by rw [kit_sq, hd])
  | true =>
    cases d with
    | seq b ds => obtain ⟨a, xs, rfl, hs, _⟩ := h.sq; exact .seq hs
    | _ => cases hd
theorem Od.v {v : V} {d : AD} (o : Od L ns d) (h : AdAt K H v d) : OddV K H L ns v := by
  cases o with
  | flat hd => exact .flat h.ty (by rw [kit_sq, hd])
  | empty =>
    obtain ⟨a, xs, rfl, hs, hall⟩ := h.sq
    rw [hall.nil_inv] at hs
    exact .empty hs
  | head hx =>
    obtain ⟨a, xs, rfl, hs, hall⟩ := h.sq
    obtain ⟨y, r, rfl, hy, hr⟩ := hall.cons_inv
    exact .head hs hy.ty (by rw [kit_str, hx])
  | ulen hl =>
    obtain ⟨a, xs, rfl, hs, hall⟩ := h.sq
    obtain ⟨y, r, rfl, hy, hr⟩ := hall.cons_inv
    rw [hy.str_inv] at hs
    exact .use (.len hs (by rw [hr.len]; exact hl))
  | uname hn =>
    obtain ⟨a, xs, rfl, hs, hall⟩ := h.sq
    obtain ⟨y, r, rfl, hy, hr⟩ := hall.cons_inv
    obtain ⟨y2, r2, rfl, hy2, hr2⟩ := hr.cons_inv
    obtain ⟨y3, r3, rfl, hy3, hr3⟩ := hr2.cons_inv
    rw [hy.str_inv, hr3.nil_inv] at hs
    exact .use (.name hs (noL_v hy2 hn) (seqOr_v hy3))
  | uparts hm he =>
    obtain ⟨a, xs, rfl, hs, hall⟩ := h.sq
    obtain ⟨y, r, rfl, hy, hr⟩ := hall.cons_inv
    obtain ⟨y2, r2, rfl, hy2, hr2⟩ := hr.cons_inv
    obtain ⟨y3, r3, rfl, hy3, hr3⟩ := hr2.cons_inv
    rw [hy.str_inv, hy2.str_inv, hr3.nil_inv] at hs
    exact .use (.parts hs hm hy3.ty (by rw [kit_sq, he]))
  | bname hn =>
    obtain ⟨a, xs, rfl, hs, hall⟩ := h.sq
    obtain ⟨y, r, rfl, hy, hr⟩ := hall.cons_inv
    obtain ⟨y2, r2, rfl, hy2, hr2⟩ := hr.cons_inv
    obtain ⟨y3, r3, rfl, hy3, hr3⟩ := hr2.cons_inv
    obtain ⟨y4, r4, rfl, hy4, hr4⟩ := hr3.cons_inv
    rw [hy.str_inv, hr4.nil_inv] at hs
    exact .bname hs (noNm_v hy2 hn)
  | nlen hw hl =>
    obtain ⟨a, xs, rfl, hs, hall⟩ := h.sq
    obtain ⟨y, r, rfl, hy, hr⟩ := hall.cons_inv
    rw [hy.str_inv] at hs
    exact .nlen hw hs (by rw [hr.len]; exact hl)
  | nname hw hn =>
    obtain ⟨a, xs, rfl, hs, hall⟩ := h.sq
    obtain ⟨y, r, rfl, hy, hr⟩ := hall.cons_inv
    obtain ⟨y2, r2, rfl, hy2, hr2⟩ := hr.cons_inv
    rw [hy.str_inv, hr2.nil_inv] at hs
    exact .nname hw hs (noNm_v hy2 hn)
  | free h1 h2 =>
    obtain ⟨a, xs, rfl, hs, hall⟩ := h.sq
    obtain ⟨y, r, rfl, hy, hr⟩ := hall.cons_inv
    obtain ⟨y2, r2, rfl, hy2, hr2⟩ := hr.cons_inv
    rw [hy.str_inv, hy2.str_inv, hr2.nil_inv] at hs
    exact .free hs h1 h2
  | word =>
    obtain ⟨a, xs, rfl, hs, hall⟩ := h.sq
    obtain ⟨y, r, rfl, hy, hr⟩ := hall.cons_inv
    rw [hy.str_inv] at hs
    exact .word hs
  | olen hm hl =>
    obtain ⟨a, xs, rfl, hs, hall⟩ := h.sq
    obtain ⟨y, r, rfl, hy, hr⟩ := hall.cons_inv
    rw [hy.str_inv] at hs
    exact .olen hm hs (by rw [hr.len]; exact hl)
theorem NodA.v {v : V} {d : AD} {w n : Str} {ds : List AD} (o : NodA d w n ds) (h : AdAt K H v d) : ∃ p us, v = .ref p ∧ NodeV K H p w n us ∧ AdAll K H us ds := by
  cases o with
  | leaf hw =>
    obtain ⟨a, xs, rfl, hs, hall⟩ := h.sq
    obtain ⟨y, r, rfl, hy, hr⟩ := hall.cons_inv
    obtain ⟨y2, r2, rfl, hy2, hr2⟩ := hr.cons_inv
    rw [hy.str_inv, hy2.str_inv, hr2.nil_inv] at hs
    refine ⟨a, [], rfl, ?_, .nil⟩
    have : ∀ x ∈ nmd, x = "value" ∨ x = "name" ∨ x = "fail" := by decide
    rcases this w hw with rfl | rfl | rfl
    · exact .val hs
    · exact .name hs
    · exact .fail hs
  | use =>
    obtain ⟨a, xs, rfl, hs, hall⟩ := h.sq
    obtain ⟨y, r, rfl, hy, hr⟩ := hall.cons_inv
    obtain ⟨y2, r2, rfl, hy2, hr2⟩ := hr.cons_inv
    obtain ⟨y3, r3, rfl, hy3, hr3⟩ := hr2.cons_inv
    obtain ⟨q, us, rfl, hq, hus⟩ := hy3.sq
    rw [hy.str_inv, hy2.str_inv, hr3.nil_inv] at hs
    exact ⟨a, us, rfl, .use hs hq, hus⟩
  | bind =>
    obtain ⟨a, xs, rfl, hs, hall⟩ := h.sq
    obtain ⟨y, r, rfl, hy, hr⟩ := hall.cons_inv
    obtain ⟨y2, r2, rfl, hy2, hr2⟩ := hr.cons_inv
    rw [hy.str_inv, hy2.str_inv] at hs
    exact ⟨a, r2, rfl, .bind hs, hr2⟩
  | op hm =>
    obtain ⟨a, xs, rfl, hs, hall⟩ := h.sq
    obtain ⟨y, r, rfl, hy, hr⟩ := hall.cons_inv
    rw [hy.str_inv] at hs
    exact ⟨a, r, rfl, .op hm hs, hr⟩
end
/-! terms -/
inductive Gd (L : List (Str × Nat)) : List Str → AD → Tm → Prop
  | mk {ns : List Str} {d : AD} {w n : Str} {ds : List AD} {ts : List Tm} : NodA d w n ds → HeadOk L ns w n ds.length → ds.length = ts.length → (∀ (i : Nat) (k : AD) (t : Tm), ds[i]? = some k → ts[i]? = some t → Gd L (nsAt w n i ns) k t) → Gd L ns d (.mk w n ts)
inductive Bd (L : List (Str × Nat)) : Nat → List Str → AD → List Nat → Prop
  | odd {z ns d} : Od L ns d → Bd L (z + 1) ns d []
  | within {z ns} {d : AD} {w n : Str} {ds : List AD} {i : Nat} {y : AD} {r : List Nat} : NodA d w n ds → HeadOk L ns w n ds.length → ds[i]? = some y → (∀ (j : Nat) (x : AD), j < i → ds[j]? = some x → ∃ t, Gd L (nsAt w n j ns) x t ∧ t.size ≤ z) → Bd L z (nsAt w n i ns) y r → ds.length ≤ 1000 → Bd L (z + 1) ns d (i :: r)
/-! loosened -/
theorem LoAll.cons_inv {d : AD} {ds es : List AD} (h : LoAll (d :: ds) es) : ∃ e r, es = e :: r ∧ Lo d e ∧ LoAll ds r := by
  cases h with
  | cons a b => exact ⟨_, _, rfl, a, b⟩
theorem LoAll.nil_inv {es : List AD} (h : LoAll [] es) : es = [] := by cases h; rfl
theorem Lo.str_inv {s : Str} {e : AD} (h : Lo (.str s) e) : e = .str s := by cases h; rfl
theorem LoAll.at : ∀ {ds es : List AD} {i : Nat} {e : AD}, LoAll ds es → es[i]? = some e → ∃ d, ds[i]? = some d ∧ Lo d e
  | _, _, 0, _, .cons h _, e => ⟨_, rfl, by cases e; exact h⟩
  | _, _, i + 1, _, .cons _ h, e => h.at (i := i) e
theorem LoAll.at' : ∀ {ds es : List AD} {i : Nat} {d : AD}, LoAll ds es → ds[i]? = some d → ∃ e, es[i]? = some e ∧ Lo d e
  | _, _, 0, _, .cons h _, e => ⟨_, rfl, by cases e; exact h⟩
  | _, _, i + 1, _, .cons _ h, e => h.at' (i := i) e
theorem LoAll.len : ∀ {ds es : List AD}, LoAll ds es → ds.length = es.length
  | _, _, .nil => rfl
  | _, _, .cons _ h => by rw [List.length_cons, List.length_cons, h.len]
mutual
theorem Lo.refl : ∀ d : AD, Lo d d
  | .non => .same rfl
  | .bl _ => .same rfl
  | .int _ => .same rfl
  | .str _ => .same rfl
  | .dic => .same rfl
  | .seq true xs => .tup (LoAll.refl xs)
  | .seq false xs => .same rfl
theorem LoAll.refl : ∀ ds : List AD, LoAll ds ds
  | [] => .nil
  | d :: r => .cons (Lo.refl d) (LoAll.refl r)
end
theorem Lo.sq {b : Bool} {xs : List AD} {e : AD} (h : Lo (.seq b xs) e) : ∃ c ys, e = .seq c ys ∧ LoAll xs ys := by
  cases h with
  | same h => exact ⟨b, xs, rfl, LoAll.refl xs⟩
  | tup h => exact ⟨_, _, rfl, h⟩
theorem NodA.lo {d e : AD} {w n : Str} {ds : List AD} (h : NodA d w n ds) (l : Lo d e) : ∃ es, NodA e w n es ∧ LoAll ds es := by
  cases h with
  | leaf hw =>
    obtain ⟨c, ys, rfl, hl⟩ := l.sq
    obtain ⟨y1, r1, rfl, h1, hl⟩ := hl.cons_inv
    obtain ⟨y2, r2, rfl, h2, hl⟩ := hl.cons_inv
    rw [h1.str_inv, h2.str_inv, hl.nil_inv]
    exact ⟨[], .leaf hw, .nil⟩
  | use =>
    obtain ⟨c, ys, rfl, hl⟩ := l.sq
    obtain ⟨y1, r1, rfl, h1, hl⟩ := hl.cons_inv
    obtain ⟨y2, r2, rfl, h2, hl⟩ := hl.cons_inv
    obtain ⟨y3, r3, rfl, h3, hz⟩ := hl.cons_inv
    obtain ⟨c3, es, rfl, he⟩ := h3.sq
    rw [h1.str_inv, h2.str_inv, hz.nil_inv]
    exact ⟨es, .use, he⟩
  | bind =>
    obtain ⟨c, ys, rfl, hl⟩ := l.sq
    obtain ⟨y1, r1, rfl, h1, hl⟩ := hl.cons_inv
    obtain ⟨y2, r2, rfl, h2, hl⟩ := hl.cons_inv
    rw [h1.str_inv, h2.str_inv]
    exact ⟨r2, .bind, hl⟩
  | op hm =>
    obtain ⟨c, ys, rfl, hl⟩ := l.sq
    obtain ⟨y1, r1, rfl, h1, hl⟩ := hl.cons_inv
    rw [h1.str_inv]
    exact ⟨r1, .op hm, hl⟩
theorem Gd.lo {L : List (Str × Nat)} {ns : List Str} {d : AD} {t : Tm} (h : Gd L ns d t) : ∀ {e : AD}, Lo d e → Gd L ns e t := by
  induction h with
  | mk hn hh hl _ ih =>
    intro e l
    obtain ⟨es, he, hes⟩ := hn.lo l
    refine .mk he (by rw [← hes.len]; exact hh) (by rw [← hes.len]; exact hl) fun i k t hk ht => ?_
    obtain ⟨d', hd', l'⟩ := hes.at hk
    exact ih i d' t hd' ht l'
theorem isSeq_lo {d e : AD} (l : Lo d e) : e.isSeq = d.isSeq := by
  cases l with
  | same => rfl
  | tup => rfl
theorem isStr_lo {d e : AD} (l : Lo d e) : e.isStr = d.isStr := by
  cases l with
  | same => rfl
  | tup => rfl
theorem noNm_lo {d e : AD} (l : Lo d e) (h : d.noNm) : e.noNm := by
  rcases h with ⟨s, rfl, h1, h2⟩ | h
  · rw [l.str_inv]; exact .inl ⟨s, rfl, h1, h2⟩
  · exact .inr (by rw [isStr_lo l]; exact h)
theorem noL_lo {L : List (Str × Nat)} {d e : AD} (l : Lo d e) (h : d.noL L) : e.noL L := by
  rcases h with ⟨s, rfl, h1⟩ | h
  · rw [l.str_inv]; exact .inl ⟨s, rfl, h1⟩
  · exact .inr (by rw [isStr_lo l]; exact h)
theorem Od.lo {L : List (Str × Nat)} {ns : List Str} {d e : AD} (h : Od L ns d) (l : Lo d e) : Od L ns e := by
  cases h with
  | flat hd => exact .flat (by rw [isSeq_lo l]; exact hd)
  | empty => obtain ⟨c, ys, rfl, hl⟩ := l.sq; rw [hl.nil_inv]; exact .empty
  | head hx => obtain ⟨c, ys, rfl, hl⟩ := l.sq; obtain ⟨y1, r1, rfl, h1, hl⟩ := hl.cons_inv; exact .head (by rw [isStr_lo h1]; exact hx)
  | ulen h2 => obtain ⟨c, ys, rfl, hl⟩ := l.sq; obtain ⟨y1, r1, rfl, h1, hl⟩ := hl.cons_inv; rw [h1.str_inv]; exact .ulen (by rw [← hl.len]; exact h2)
  | uname hn =>
    obtain ⟨c, ys, rfl, hl⟩ := l.sq; obtain ⟨y1, r1, rfl, h1, hl⟩ := hl.cons_inv; obtain ⟨y2, r2, rfl, h2, hl⟩ := hl.cons_inv; obtain ⟨y3, r3, rfl, h3, hl⟩ := hl.cons_inv
    rw [h1.str_inv, hl.nil_inv]; exact .uname (noL_lo h2 hn)
  | uparts hm he =>
    obtain ⟨c, ys, rfl, hl⟩ := l.sq; obtain ⟨y1, r1, rfl, h1, hl⟩ := hl.cons_inv; obtain ⟨y2, r2, rfl, h2, hl⟩ := hl.cons_inv; obtain ⟨y3, r3, rfl, h3, hl⟩ := hl.cons_inv
    rw [h1.str_inv, h2.str_inv, hl.nil_inv]; exact .uparts hm (by rw [isSeq_lo h3]; exact he)
  | bname hn =>
    obtain ⟨c, ys, rfl, hl⟩ := l.sq; obtain ⟨y1, r1, rfl, h1, hl⟩ := hl.cons_inv; obtain ⟨y2, r2, rfl, h2, hl⟩ := hl.cons_inv; obtain ⟨y3, r3, rfl, h3, hl⟩ := hl.cons_inv; obtain ⟨y4, r4, rfl, h4, hl⟩ := hl.cons_inv
    rw [h1.str_inv, hl.nil_inv]; exact .bname (noNm_lo h2 hn)
  | nlen hw h2 => obtain ⟨c, ys, rfl, hl⟩ := l.sq; obtain ⟨y1, r1, rfl, h1, hl⟩ := hl.cons_inv; rw [h1.str_inv]; exact .nlen hw (by rw [← hl.len]; exact h2)
  | nname hw hn =>
    obtain ⟨c, ys, rfl, hl⟩ := l.sq; obtain ⟨y1, r1, rfl, h1, hl⟩ := hl.cons_inv; obtain ⟨y2, r2, rfl, h2, hl⟩ := hl.cons_inv
    rw [h1.str_inv, hl.nil_inv]; exact .nname hw (noNm_lo h2 hn)
  | free h3 h4 =>
    obtain ⟨c, ys, rfl, hl⟩ := l.sq; obtain ⟨y1, r1, rfl, h1, hl⟩ := hl.cons_inv; obtain ⟨y2, r2, rfl, h2, hl⟩ := hl.cons_inv
    rw [h1.str_inv, h2.str_inv, hl.nil_inv]; exact .free h3 h4
  | word => obtain ⟨c, ys, rfl, hl⟩ := l.sq; obtain ⟨y1, r1, rfl, h1, hl⟩ := hl.cons_inv; rw [h1.str_inv]; exact .word
  | olen hm h2 => obtain ⟨c, ys, rfl, hl⟩ := l.sq; obtain ⟨y1, r1, rfl, h1, hl⟩ := hl.cons_inv; rw [h1.str_inv]; exact .olen hm (by rw [← hl.len]; exact h2)
theorem Bd.lo {L : List (Str × Nat)} {z : Nat} {ns : List Str} {d : AD} {r : List Nat} (h : Bd L z ns d r) : ∀ {e : AD}, Lo d e → Bd L z ns e r := by
  induction h with
  | odd h => intro e l; exact .odd (h.lo l)
  | within hn hh hy hj _ hlen ih =>
    intro e l
    obtain ⟨es, he, hes⟩ := hn.lo l
    obtain ⟨e', he', l'⟩ := hes.at' hy
    refine .within he (by rw [← hes.len]; exact hh) he' (fun j x hji hx => ?_) (ih l') (by rw [← hes.len]; exact hlen)
    obtain ⟨d', hd', l2⟩ := hes.at hx
    obtain ⟨t, hg, hs⟩ := hj j d' hji hd'
    exact ⟨t, hg.lo l2, hs⟩
/-! as PyData -/
mutual
def AD.py : AD → PyData
  | .non => .none | .bl b => .bool b | .int i => .int i | .str s => .str s | .dic => .none
  | .seq true xs => .tuple (AD.pys xs)
  | .seq false xs => .list (AD.pys xs)
def AD.pys : List AD → List PyData
  | [] => []
  | d :: r => d.py :: AD.pys r
end
mutual
def AD.noDic : AD → Bool
  | .dic => false
  | .seq _ xs => AD.noDics xs
  | _ => true
def AD.noDics : List AD → Bool
  | [] => true
  | d :: r => d.noDic && AD.noDics r
end
mutual
def adOf : PyData → AD
  | .bool b => .bl b | .int i => .int i | .str s => .str s
  | .tuple ds => .seq true (adsOf ds)
  | .list ds => .seq false (adsOf ds)
  | _ => .non
def adsOf : List PyData → List AD
  | [] => []
  | d :: r => adOf d :: adsOf r
end
section
variable {K : PySem.W.Frag} {H : Hp}
mutual
theorem AdAt.dp : ∀ {d : AD} {v : V}, d.noDic = true → AdAt K H v d → Dp K H v d.py
  | _, _, _, .non => .non
  | _, _, _, .bl b => .bl b
  | _, _, _, .int i => .int i
  | _, _, _, .str z => .str z
  | .seq true ds, _, n, .tup h1 h2 => .tup h1 (AdAll.dp n h2)
  | .seq false ds, _, n, .lst h1 h2 => .lst h1 (AdAll.dp n h2)
theorem AdAll.dp : ∀ {ds : List AD} {vs : List V}, AD.noDics ds = true → AdAll K H vs ds → DpAll K H vs (AD.pys ds)
  | _, _, _, .nil => .nil
  | d :: r, _, n, .cons h1 h2 => .cons (AdAt.dp (Bool.and_eq_true_iff.mp n).1 h1) (AdAll.dp (Bool.and_eq_true_iff.mp n).2 h2)
end
mutual
theorem adOf_at : ∀ {d : PyData} {v : V}, Dp K H v d → AdAt K H v (adOf d)
  | _, _, .non => .non
  | _, _, .bl b => .bl b
  | _, _, .int i => .int i
  | _, _, .str z => .str z
  | _, _, .tup h1 h2 => .tup h1 (adsOf_at h2)
  | _, _, .lst h1 h2 => .lst h1 (adsOf_at h2)
theorem adsOf_at : ∀ {ds : List PyData} {vs : List V}, DpAll K H vs ds → AdAll K H vs (adsOf ds)
  | _, _, .nil => .nil
  | _, _, .cons h1 h2 => .cons (adOf_at h1) (adsOf_at h2)
end
end
end GB
set_option Elab.async false
set_option linter.all false
set_option autoImplicit false
set_option maxRecDepth 100000
set_option maxHeartbeats 4000000
namespace GB
open PySem PySem.Spec L2
theorem pys_map : ∀ ds : List AD, AD.pys ds = ds.map AD.py
  | [] => rfl
  | d :: r => by rw [AD.pys, List.map_cons, pys_map r]
theorem noDics_iff : ∀ ds : List AD, AD.noDics ds = true ↔ ∀ d ∈ ds, d.noDic = true
  | [] => by simp [AD.noDics]
  | d :: r => by simp [AD.noDics, noDics_iff r]
theorem adsOf_map : ∀ ds : List PyData, adsOf ds = ds.map adOf
  | [] => rfl
  | d :: r => by rw [adsOf, List.map_cons, adsOf_map r]
theorem seq_py (b : Bool) (xs : List AD) : Seq (AD.seq b xs).py (xs.map AD.py) := by
  cases b with
  | true => rw [AD.py, pys_map]; first | exact .tup _ | exact .inr rfl | exact .inl rfl | trivial
  | false => rw [AD.py, pys_map]; first | exact .lst _ | exact .inl rfl | exact .inr rfl | trivial
theorem NodA.py {d : AD} {w n : Str} {ds : List AD} (h : NodA d w n ds) : NodeD d.py w n (ds.map AD.py) := by
  cases h with
  | @leaf b _ _ hw =>
    have : ∀ x ∈ nmd, x = "value" ∨ x = "name" ∨ x = "fail" := by decide
    have s := seq_py b [.str w, .str n]
    rcases this w hw with rfl | rfl | rfl
    · exact .val s
    · exact .name s
    · exact .fail s
  | @use b c _ ks => exact .use (seq_py b [.str "use", .str n, .seq c ds]) (seq_py c ds)
  | @bind b _ ks => exact .bind (seq_py b (.str "bind" :: .str n :: ds))
  | @op b _ m ks hm => exact .op hm (seq_py b (.str w :: ds))
theorem NodA.noDic {d : AD} {w n : Str} {ds : List AD} (h : NodA d w n ds) (hd : AD.noDics ds = true) : d.noDic = true := by
  cases h <;> simp [AD.noDic, AD.noDics, hd]
section
variable {L : List (Str × Nat)} {ns : List Str}
theorem Gd.noDic {d : AD} {t : Tm} (h : Gd L ns d t) : d.noDic = true := by
  induction h with
  | @mk ns d w n ds ts hn hh hl hk ih =>
    refine hn.noDic ((noDics_iff ds).mpr fun x hx => ?_)
    obtain ⟨i, hi⟩ := List.mem_iff_getElem?.mp hx
    have hlt : i < ts.length := by rw [← hl]; exact (List.getElem?_eq_some_iff.mp hi).1
    exact ih i x ts[i] hi (List.getElem?_eq_getElem hlt)
theorem Gd.isTm {d : AD} {t : Tm} (h : Gd L ns d t) : IsTm d.py t := by
  induction h with
  | @mk ns d w n ds ts hn hh hl hk ih =>
    refine .mk hn.py (by rw [List.length_map]; exact hl) fun i e k he hk' => ?_
    rw [List.getElem?_map] at he
    cases hx : ds[i]? with
    | none => rw [hx] at he; cases he
    | some x =>
      rw [hx] at he
      obtain rfl := Option.some.inj he
      exact ih i x k hx hk'
theorem Gd.ok {d : AD} {t : Tm} (h : Gd L ns d t) : TmOk L ns t := by
  induction h with
  | @mk ns d w n ds ts hn hh hl hk ih =>
    refine .mk (by rw [← hl]; exact hh) fun i k hk' => ?_
    have hlt : i < ds.length := by rw [hl]; exact (List.getElem?_eq_some_iff.mp hk').1
    exact ih i ds[i] k (List.getElem?_eq_getElem hlt) hk'
theorem Bd.v {K : PySem.W.Frag} {H : Hp} {z : Nat} {d : AD} {r : List Nat} (h : Bd L z ns d r) : ∀ {v : V}, AdAt K H v d → BadV K H L z ns v r := by
  induction h with
  | odd h => intro v hv; exact .odd (h.v hv)
  | @within z ns d w n ds i y r hn hh hy hj _ hlen ih =>
    intro v hv
    obtain ⟨p, us, rfl, hN, hall⟩ := hn.v hv
    have hlt : i < us.length := by rw [hall.len]; exact (List.getElem?_eq_some_iff.mp hy).1
    have hu : us[i]? = some us[i] := List.getElem?_eq_getElem hlt
    obtain ⟨d', hd', hv'⟩ := hall.at hu
    rw [hy] at hd'
    obtain rfl := Option.some.inj hd'
    refine .within hN (by rw [hall.len]; exact hh) hu (fun j x hji hx => ?_) (ih hv') (by rw [hall.len]; exact hlen)
    obtain ⟨dx, hdx, hvx⟩ := hall.at hx
    obtain ⟨t, hg, hs⟩ := hj j dx hji hdx
    exact ⟨dx.py, t, hvx.dp hg.noDic, hg.isTm, hg.ok, hs⟩
theorem Gd.v {K : PySem.W.Frag} {H : Hp} {z : Nat} {d : AD} {t : Tm} {v : V} (h : Gd L ns d t) (hv : AdAt K H v d) (hs : t.size ≤ z) : GoodV K H L ns z v := ⟨d.py, t, hv.dp h.noDic, h.isTm, h.ok, hs⟩
/-- a drawn term's own data -/
theorem nodA_own {w n : Str} {ks : List Tm} (h : HeadOk L ns w n ks.length) : NodA (adOf (Tm.mk w n ks).d) w n ((ks.map Tm.d).map adOf) := by
  rw [Tm.d, ds_map]
  have nil : ks.length = 0 → ks.map Tm.d = [] := fun e => by rw [List.eq_nil_of_length_eq_zero e]; rfl
  have lf : ∀ x ∈ nmd, x ≠ "use" ∧ x ≠ "bind" ∧ x ∉ opsW.map (·.1) := by decide
  generalize hm : ks.length = m at h
  have leaf : ∀ x, x ∈ nmd → m = 0 → NodA (adOf (if x = "use" then .tuple [.str x, .str n, .tuple (ks.map Tm.d)] else if x = "bind" then .tuple (.str x :: .str n :: ks.map Tm.d) else if x ∈ opsW.map (·.1) then .tuple (.str x :: ks.map Tm.d) else .tuple [.str x, .str n])) x n ((ks.map Tm.d).map adOf) := fun x hx h0 => by
    obtain ⟨a, b, c⟩ := lf x hx
    rw [if_neg a, if_neg b, if_neg c, nil (by omega)]
    exact .leaf hx
  cases h with
  | val _ => exact leaf _ (by decide) rfl
  | fail _ => exact leaf _ (by decide) rfl
  | name _ _ => exact leaf _ (by decide) rfl
  | use _ =>
    rw [if_pos rfl, adOf, adsOf, adsOf, adsOf, adsOf, adOf, adOf, adOf, adsOf_map]
    exact .use
  | bind _ _ =>
    rw [if_neg (by decide), if_pos rfl, adOf, adsOf, adsOf, adOf, adOf, adsOf_map]
    exact .bind
  | op hm =>
    have : ∀ q ∈ opsW, q.1 ≠ "use" ∧ q.1 ≠ "bind" := by decide
    obtain ⟨a, b⟩ := this _ hm
    rw [if_neg a, if_neg b, if_pos (List.mem_map.mpr ⟨_, hm, rfl⟩), adOf, adsOf, adOf, adsOf_map]
    exact .op hm
theorem Gd.own {t : Tm} (h : TmOk L ns t) : Gd L ns (adOf t.d) t := by
  induction h with
  | @mk ns w n ks hH hK ih =>
    refine .mk (nodA_own hH) (by rw [List.length_map, List.length_map]; exact hH) (by rw [List.length_map, List.length_map]) fun i d t hd ht => ?_
    rw [List.getElem?_map, List.getElem?_map, ht] at hd
    obtain rfl := Option.some.inj hd
    exact ih i t ht
end
end GB
set_option Elab.async false
set_option linter.all false
set_option maxRecDepth 100000
set_option maxHeartbeats 4000000
namespace K4
open PySem L2 GB
def topS (i : Nat) : Stmt := PySem.Challenge.pw_freeworldrules_k04_terms_checked.main.body.getD i (.Pass ⟨0, 0, 0, 0⟩)
abbrev sCell : Stmt := topS 32
abbrev sPool : Stmt := topS 33
abbrev sTake : Stmt := topS 34
abbrev sMixed : Stmt := topS 35
abbrev sOne : Stmt := topS 36
section
variable {P : Program} {w : World} {K : PySem.W.Frag} {mg : Str → Option Value} {base : Heap}
theorem plq {H : Hp} {Q : VK} {p : Addr} {a b : Int} (hp : H p = none) (q : ∀ p H', H p = none → Same H H' → PoolIs H' p 0 → Q (.ref p) H') (h1 : 0 ≤ a) (h2 : 0 ≤ b) (h3 : b < 1000000007) : Q (.ref p) (upd H p (.lst (poolV a b 0))) :=
  q p _ hp (fun c o e => by rw [upd_ne (ne_of_none e hp)]; exact e) ⟨a, b, 0, upd_same, h1, h2, h3, Int.le_refl 0, Int.le_refl 0⟩
theorem tkq {H : Hp} {Q : VK} {p : Addr} {m r a b c : Int} {n : Nat} (q : ∀ (r : Nat) H', (r : Int) < m → Bt [p] H H' → PoolIs H' p (n + 1) → Q (.int r) H') (r0 : 0 ≤ r) (r1 : r < m) (h1 : 0 ≤ a) (h2 : 0 ≤ b) (h3 : b < 1000000007) (h4 : 0 ≤ c) (h5 : c ≤ ((n + 1 : Nat) : Int)) :
    Q (.int r) (upd H p (.lst (poolV a b c))) := by
  obtain ⟨j, rfl⟩ : ∃ j : Nat, r = j := ⟨r.toNat, by omega⟩
  exact q j _ r1 (bt_upd List.mem_cons_self) ⟨a, b, c, upd_same, h1, h2, h3, h4, h5⟩
theorem scCell : FnScope ["_law_script", "_law_k"] ["_law_script", "_law_k"] (defScope sCell) := ⟨rfl, rfl, rfl, by decide +kernel, rfl, by decide +kernel, by decide +kernel⟩
theorem ok_cell {f : Addr} {fd : FuncData} (F : Fun K "_law_cell" "_law_cell" sCell f fd) (T : Bl mg) : FnOk P w K mg base CX0 1 f fd ["_law_script", "_law_k"] (GB.spCell K) := by
  refine F.ok scCell (fun vs H Q E h => ?_) (fun cdv A outer s H vs Q E hr h => ?_)
  · obtain ⟨a, ns, k, rfl, _⟩ := h
    rfl
  · obtain ⟨a, ns, k, rfl, hS, q⟩ := h
    refine ⟨_, pss_cons (ps_if (pt_cmpR op_lt (pv 1) (pe_callB call_len_seq (by rfl) T.len PySem.boot_len (pa_cons (pv 0) pa_nil)) (nomark _))
      (pss_one (ps_ret (pe_ix ix_list (pv 0) (pv 1) (fun _ _ => rfl)))) pss_nil) (pss_one (ps_ret pe_int)), ?_⟩
    refine ⟨_, rfl, _, rfl, a, _, rfl, .inl hS, _, _, rfl, rfl, _, rfl, ?_⟩
    by_cases c : (k : Int) < ((ns.map V.int).length : Int)
    · rw [decide_eq_true c]
      refine iteT ?_
      have hk : k < ns.length := by rw [List.length_map] at c; omega
      exact ⟨_, rfl, _, rfl, a, _, _, .int ns[k], rfl, rfl, hS, atI_nat (by simp [hk]), q _⟩
    · rw [decide_eq_false c]
      exact iteF (q 0)
theorem scPool : FnScope ["_law_grain", "_law_folded"] ["_law_grain"] (defScope sPool) := ⟨rfl, rfl, rfl, by decide +kernel, rfl, by decide +kernel, by decide +kernel⟩
theorem ok_pool {f : Addr} {fd : FuncData} (F : Fun K "_law_pool" "_law_pool" sPool f fd) (T : Bl mg) : FnOk P w K mg base CX0 1 f fd ["_law_grain"] spPool := by
  refine F.ok scPool (fun vs H Q E h => ?_) (fun cdv A outer s H vs Q E hr h => ?_)
  · obtain ⟨g, rfl, _⟩ := h
    rfl
  · obtain ⟨g, rfl, q⟩ := h
    refine ⟨_, pss_cons (ps_set (i := 1) scPool.nd rfl (.inl rfl) (pe_op op_mul pe_int (pv 0)))
      (pss_cons (ps_if (pt_cmpR op_lt (pv 0) pe_int (nomark _)) (pss_one (ps_set (i := 1) scPool.nd rfl (.inl rfl) (pe_op op_sub (pe_op op_sub pe_int (pe_op op_mul pe_int (pv 0))) pe_int))) pss_nil)
      (pss_cons (ps_if (pt_cmpR op_ge (pv 1) (pe_op op_pow pe_int pe_int) (nomark _))
        (pss_one (ps_ret (pe_lst (pa_cons (pv 1) (pa_cons (pe_op op_mod (pe_callTy call_int1 (by rfl) T.int (by decide +kernel) (pa_cons (pv 1) pa_nil)) pe_int) (pa_cons pe_int pa_nil)))))) pss_nil)
      (pss_one (ps_ret (pe_lst (pa_cons pe_int (pa_cons (pe_op op_mod (pe_callTy call_int1 (by rfl) T.int (by decide +kernel) (pa_cons (pv 1) pa_nil)) pe_int) (pa_cons pe_int pa_nil)))))))), ?_⟩
    have fin : ∀ f : Int, 0 ≤ f → ∀ p, H p = none → Q (.ref p) (upd H p (.lst [.int f, .int (f % 1000000007), .int 0])) := fun f hf p hp =>
      plq hp q hf (Int.emod_nonneg _ (by decide)) (Int.emod_lt_of_pos _ (by decide))
    have fin0 : ∀ f : Int, ∀ p, H p = none → Q (.ref p) (upd H p (.lst [.int 0, .int (f % 1000000007), .int 0])) := fun f p hp =>
      plq hp q (by decide) (Int.emod_nonneg _ (by decide)) (Int.emod_lt_of_pos _ (by decide))
    refine ⟨_, rfl, _, _, rfl, rfl, .inl ⟨by decide, by decide⟩, ?_⟩
    refine ⟨_, rfl, _, _, rfl, rfl, _, rfl, ?_⟩
    by_cases c0 : g < 0
    · rw [decide_eq_true c0]
      refine iteT ?_
      refine ⟨_, rfl, _, _, rfl, rfl, .inl ⟨by decide, by decide⟩, _, _, rfl, rfl, _, _, rfl, rfl, ?_⟩
      refine ⟨_, rfl, _, _, rfl, rfl, ⟨by decide, by decide, by decide⟩, _, _, rfl, rfl, _, rfl, ?_⟩
      refine ite2 (fun _ => ?_) (fun _ => ?_)
      · exact ⟨_, rfl, _, rfl, .inl ⟨_, rfl, _, _, rfl, rfl, (by show (0 : Int) < 1000000007; decide), (by show 3 ≤ sizeLine; decide), fin _ (by omega)⟩⟩
      · exact ⟨_, rfl, .inl ⟨_, rfl, _, _, rfl, rfl, (by show (0 : Int) < 1000000007; decide), (by show 3 ≤ sizeLine; decide), fin0 _⟩⟩
    · rw [decide_eq_false c0]
      refine iteF ?_
      refine ⟨_, rfl, _, _, rfl, rfl, ⟨by decide, by decide, by decide⟩, _, _, rfl, rfl, _, rfl, ?_⟩
      refine ite2 (fun _ => ?_) (fun _ => ?_)
      · exact ⟨_, rfl, _, rfl, .inl ⟨_, rfl, _, _, rfl, rfl, (by show (0 : Int) < 1000000007; decide), (by show 3 ≤ sizeLine; decide), fin _ (by omega)⟩⟩
      · exact ⟨_, rfl, .inl ⟨_, rfl, _, _, rfl, rfl, (by show (0 : Int) < 1000000007; decide), (by show 3 ≤ sizeLine; decide), fin0 _⟩⟩
theorem scTake : FnScope ["_law_pool_here", "_law_many_here", "_law_draw", "_law_mixed_here"] ["_law_pool_here", "_law_many_here"] (defScope sTake) := ⟨rfl, rfl, rfl, by decide +kernel, rfl, by decide +kernel, by decide +kernel⟩
theorem ok_take {f : Addr} {fd : FuncData} (F : Fun K "_law_take" "_law_take" sTake f fd) (T : Bl mg) : FnOk P w K mg base CX0 1 f fd ["_law_pool_here", "_law_many_here"] spTake := by
  refine F.ok scTake (fun vs H Q E h => ?_) (fun cdv A outer s H vs Q E hr h => ?_)
  · obtain ⟨p, m, n, rfl, _⟩ := h
    rfl
  · obtain ⟨p, m, n, rfl, m0, m1, hn, ⟨a, b, c, hp, a0, b0, b1, c0, c1⟩, q⟩ := h
    refine ⟨_, pss_cons (ps_if (pt_cmpR op_gt (pe_ix ix_list (pv 0) pe_int (fun _ _ => rfl)) pe_int (nomark _))
        (pss_cons (ps_set (i := 2) scTake.nd rfl (.inl rfl) (pe_op op_mod (pe_callTy call_int1 (by rfl) T.int (by decide +kernel) (pa_cons (pe_ix ix_list (pv 0) pe_int (fun _ _ => rfl)) pa_nil)) (pv 1)))
        (pss_cons (ps_asg (pe_op op_fdiv (pe_ix ix_list (pv 0) pe_int (fun _ _ => rfl)) (pv 1)) (pg_sub (pv 0) pe_int set_list))
        (pss_one (ps_ret (pv 2))))) pss_nil)
      (pss_cons (ps_asg (pe_op op_add (pe_ix ix_list (pv 0) pe_int (fun _ _ => rfl)) pe_int) (pg_sub (pv 0) pe_int set_list))
      (pss_cons (ps_set (i := 3) scTake.nd rfl (.inl rfl) (pe_op op_mod (pe_callTy call_int1 (by rfl) T.int (by decide +kernel) (pa_cons
          (pe_op op_pow (pe_op op_add (pe_op op_add (pe_ix ix_list (pv 0) pe_int (fun _ _ => rfl)) (pe_op op_mul pe_int (pe_ix ix_list (pv 0) pe_int (fun _ _ => rfl)))) pe_int) pe_int) pa_nil)) pe_int))
      (pss_one (ps_ret (pe_op op_mod (pe_op op_mod (pe_callTy call_int1 (by rfl) T.int (by decide +kernel) (pa_cons
          (pe_op op_mul (pe_op op_add (pv 3) (pe_ix ix_list (pv 0) pe_int (fun _ _ => rfl))) pe_int) pa_nil)) pe_int) (pv 1)))))), ?_⟩
    have g0 : ∀ {x y z : Int} {H : Hp}, H p = some (.lst (poolV x y z)) → SqL K H p (poolV x y z) := fun h => SqL.of h
    refine ⟨_, rfl, p, _, 0, _, rfl, rfl, g0 hp, atI_nat (j := 0) rfl, _, _, rfl, rfl, _, rfl, ?_⟩
    by_cases ca : 0 < a
    · rw [decide_eq_true ca]
      refine iteT ?_
      refine ⟨_, rfl, p, _, 0, _, rfl, rfl, g0 hp, atI_nat (j := 0) rfl, .inl ⟨_, rfl, _, rfl, _, _, rfl, rfl, m0, ?_⟩⟩
      refine ⟨_, rfl, p, _, 0, _, rfl, rfl, g0 hp, atI_nat (j := 0) rfl, _, rfl, _, _, rfl, rfl, ⟨m0, by omega⟩, ?_⟩
      refine ⟨_, rfl, p, _, 0, 0, rfl, rfl, hp, rfl, _, rfl, ?_⟩
      exact tkq q (Int.emod_nonneg _ (by omega)) (Int.emod_lt_of_pos _ m0) (Int.ediv_nonneg a0 (by omega)) b0 b1 c0 (by omega)
    · rw [decide_eq_false ca]
      refine iteF ?_
      refine ⟨_, rfl, p, _, 2, _, rfl, rfl, g0 hp, atI_nat (j := 2) rfl, _, _, rfl, rfl, ?_⟩
      refine ⟨_, rfl, p, _, 2, 2, rfl, rfl, hp, rfl, ?_⟩
      have h1 : (upd H p (.lst (poolV a b (c + 1)))) p = some (.lst (poolV a b (c + 1))) := upd_same
      refine ⟨_, rfl, p, _, 1, _, rfl, rfl, g0 h1, atI_nat (j := 1) rfl, _, rfl, p, _, 2, _, rfl, rfl, g0 h1, atI_nat (j := 2) rfl, _, _, rfl, rfl, .inl ⟨by decide, by decide⟩, _, _, rfl, rfl, _, _, rfl, rfl, _, _, rfl, rfl, ⟨by decide, by decide, ?_⟩, .inl ⟨_, rfl, _, _, rfl, rfl, (by show (0 : Int) < 2147483647; decide), ?_⟩⟩
      · show (b + 7919 * (c + 1) + 104729).natAbs < 2 ^ 64
        omega
      · refine ⟨_, rfl, _, rfl, p, _, 2, _, rfl, rfl, g0 h1, atI_nat (j := 2) rfl, _, _, rfl, rfl, _, _, rfl, rfl, .inr ⟨by decide, by decide⟩, .inl ⟨_, rfl, _, _, rfl, rfl, (by show (0 : Int) < 2147483629; decide), _, rfl, _, _, rfl, rfl, m0, ?_⟩⟩
        exact tkq q (Int.emod_nonneg _ (by omega)) (Int.emod_lt_of_pos _ m0) a0 b0 b1 (by omega) (by omega)
theorem scMixed : FnScope ["_law_pool_here", "_law_things", "_law_left", "_law_found", "_law_k", "_law_at"] ["_law_pool_here", "_law_things"] (defScope sMixed) := ⟨rfl, rfl, rfl, by decide +kernel, rfl, by decide +kernel, by decide +kernel⟩
theorem ok_mixed {f : Addr} {fd : FuncData} (F : Fun K "_law_mixed" "_law_mixed" sMixed f fd) (T : Bl mg) (TK : Fns P w K mg base "_law_take" 1 ["_law_pool_here", "_law_many_here"] spTake) : FnOk P w K mg base CX0 2 f fd ["_law_pool_here", "_law_things"] (spMixed K) := by
  refine F.ok scMixed (fun vs H Q E h => ?_) (fun cdv A outer s H vs Q E hr h => ?_)
  · obtain ⟨p, t, xs, n, rfl, _⟩ := h
    rfl
  · obtain ⟨p, t, xs, n, rfl, hS, hx, hn, hP, q⟩ := h
    refine ⟨_, pss_cons (ps_set (i := 2) scMixed.nd rfl (.inl rfl) (pe_callTy call_list_of (by rfl) T.list (by decide +kernel) (pa_cons (pv 1) pa_nil)))
      (pss_cons (ps_set (i := 3) scMixed.nd rfl (.inl rfl) (pe_lst pa_nil))
      (pss_cons (ps_for PassesOwn.never rfl (pi_range1 rfl T.range (pa_cons (pe_callB call_len_seq (by rfl) T.len PySem.boot_len (pa_cons (pv 1) pa_nil)) pa_nil)) (pg_name (i := 4) scMixed.nd rfl (.inl rfl))
        (pss_cons (ps_set (i := 5) scMixed.nd rfl (.inl rfl) (pe_fn TK hr (by decide) rfl (pa_cons (pv 0) (pa_cons (pe_callB call_len_seq (by rfl) T.len PySem.boot_len (pa_cons (pv 2) pa_nil)) pa_nil))))
        (pss_cons (ps_expr (pe_bm PySem.F.plainAttrs_list PySem.F.slot_list_append PySem.F.type_list_append mt_append (pv 3) (pa_cons (pe_ix ix_list (pv 2) (pv 5) (fun _ _ => rfl)) pa_nil)))
        (pss_one (ps_set (i := 2) scMixed.nd rfl (.inl rfl) (pe_op op_cat (pe_slice sl_list (pv 2) po_none (po_some (pv 5))) (pe_slice sl_list (pv 2) (po_some (pe_op op_add (pv 5) pe_int)) po_none)))))))
      (pss_one (ps_ret (pv 3))))), ?_⟩
    have hS0 := (hid_low [p] H).seq hS
    refine ⟨_, rfl, t, xs, rfl, .inl hS0, fun l nl => ?_⟩
    obtain ⟨H1, s1, h1, e1⟩ := lay (o := .lst xs) nl
    rw [e1]
    refine ⟨by show 0 ≤ sizeLine; decide, fun f nf => ?_⟩
    obtain ⟨H2, s2, h2, e2⟩ := lay (o := .lst []) nf
    rw [e2]
    have lf : l ≠ f := ne_of_none h1 nf
    have lp : l ≠ p := hP.ne nl
    have P2 : PoolIs H2 p n := hP.mono (s1.trans s2) (Nat.le_refl _)
    have fp : f ≠ p := (hP.mono s1 (Nat.le_refl _)).ne nf
    have nfH : H f = none := s1.free nf
    refine ⟨_, rfl, t, xs, rfl, .inl ((s1.trans s2).seq hS0), xs.length, rfl, by omega, by omega, for_range (lo := 0) (n := xs.length) (fun k σ H' => ∃ l left fs o4 o5, σ = [some (.ref p), some (.ref t), some (.ref l), some (.ref f), o4, o5] ∧ Bt [p] H H' ∧ H' f = some (.lst fs) ∧
        H' l = some (.lst left) ∧ l ≠ f ∧ l ≠ p ∧ (fs ++ left).Perm xs ∧ left.length + k = xs.length ∧ PoolIs H' p (n + k)) ⟨l, xs, [], none, none, rfl, bt_of (s1.trans s2), h2, s2 _ _ h1, lf, lp, List.Perm.refl _, rfl, P2⟩ ?_ ?_⟩
    · rintro k σ H3 hk ⟨l, left, fs, o4, o5, rfl, b3, hf, hl, lf, lp, hperm, hlen, P3⟩
      refine ⟨_, rfl, _, rfl, l, left, rfl, .inl (SqL.of hl), p, _, n + k, rfl, (by show (0 : Int) < (left.length : Int); omega), (by show (left.length : Int) < 1000000; omega), by omega, P3, fun r H4 hr' b4 P4 => ?_⟩
      have hl4 := bt_at b4 (ni1 lp) hl
      have hf4 := bt_at b4 (ni1 fp) hf
      have hr2 : r < left.length := by have := hr'; omega
      have hv : left[r]? = some left[r] := List.getElem?_eq_getElem hr2
      have hfl : fs.length ≤ 60 := by
        have := hperm.length_eq
        rw [List.length_append] at this
        omega
      refine ⟨_, rfl, .inl ⟨rfl, _, SqL.of hf4⟩, _, rfl, _, rfl, l, left, _, left[r], rfl, rfl, SqL.of hl4, atI_nat hv, f, fs, left[r], rfl, rfl, hf4, (by rw [sizeLine_eq]; omega), ?_⟩
      obtain ⟨H5, b5, h5, e5⟩ : ∃ H5, (∀ b o, b ≠ f → H4 b = some o → H5 b = some o) ∧ H5 f = some (.lst (fs ++ [left[r]])) ∧ upd H4 f (.lst (fs ++ [left[r]])) = H5 := ⟨upd H4 f (.lst (fs ++ [left[r]])), fun b o z e => by rw [upd_ne z]; exact e, upd_same, rfl⟩
      rw [e5]
      have hl5 := b5 _ _ lf hl4
      refine ⟨_, rfl, _, rfl, _, rfl, l, left, rfl, SqL.of hl5, fun c1 n1 => ?_⟩
      obtain ⟨H6, s6, h6, e6⟩ := lay (o := .lst (cutV left none (some (r : Int)))) n1
      rw [e6]
      refine ⟨_, rfl, _, rfl, _, _, rfl, rfl, _, rfl, l, left, rfl, SqL.of (s6 _ _ hl5), fun c2 n2 => ?_⟩
      obtain ⟨H7, s7, h7, e7⟩ := lay (o := .lst (cutV left (some (((r + 1 : Nat) : Int))) none)) n2
      rw [show ((r : Int) + 1) = ((r + 1 : Nat) : Int) from rfl, e7]
      rw [cut_from] at h7
      rw [cut_to _ _ (Nat.le_of_lt hr2)] at h6
      refine ⟨c1, c2, _, _, rfl, rfl, s7 _ _ h6, h7, (by rw [List.length_take, List.length_drop, sizeLine_eq]; omega), fun c3 n3 => ?_⟩
      obtain ⟨H8, s8, h8, e8⟩ := lay (o := .lst (left.take r ++ left.drop (r + 1))) n3
      rw [e8]
      have f5 : H7 f = some _ := s7 _ _ (s6 _ _ h5)
      have s58 : Same H5 H8 := (s6.trans s7).trans s8
      obtain ⟨x, y, z, hp4, pr⟩ := id P4
      have hp5 : H5 p = some (.lst (poolV x y z)) := b5 _ _ fp.symm hp4
      refine ⟨c3, left.take r ++ left.drop (r + 1), fs ++ [left[r]], _, _, rfl, ?_, s8 _ _ f5, h8, (ne_of_none f5 n3).symm, (ne_of_none (s7 _ _ (s6 _ _ hp5)) n3).symm, (perm_out fs hv).trans hperm, ?_, ⟨x, y, z, s58 _ _ hp5, pr⟩⟩
      · intro b o e
        obtain ⟨e', m⟩ := hid_in e
        have hbf : b ≠ f := ne_of_none e' nfH
        exact hid_to m (s58 _ _ (b5 _ _ hbf (bt_at b4 m (bt_at b3 m e'))))
      · rw [List.length_append, List.length_take, List.length_drop]; omega
    · rintro σ H3 ⟨l, left, fs, o4, o5, rfl, b3, hf, hl, lf, lp, hperm, hlen, P3⟩
      have : left = [] := List.eq_nil_of_length_eq_zero (by omega)
      subst this
      rw [List.append_nil] at hperm
      exact ⟨_, rfl, q f fs H3 hperm nfH b3 hf (P3.mono (Same.refl _) (by omega))⟩
theorem scOne : FnScope ["_law_pool_here", "_law_things"] ["_law_pool_here", "_law_things"] (defScope sOne) := ⟨rfl, rfl, rfl, by decide +kernel, rfl, by decide +kernel, by decide +kernel⟩
theorem ok_one {f : Addr} {fd : FuncData} (F : Fun K "_law_one" "_law_one" sOne f fd) (T : Bl mg) (TK : Fns P w K mg base "_law_take" 1 ["_law_pool_here", "_law_many_here"] spTake) : FnOk P w K mg base CX0 2 f fd ["_law_pool_here", "_law_things"] (spOne K) := by
  refine F.ok scOne (fun vs H Q E h => ?_) (fun cdv A outer s H vs Q E hr h => ?_)
  · obtain ⟨p, t, xs, n, rfl, _⟩ := h
    rfl
  · obtain ⟨p, t, xs, n, rfl, hS, hx, hx2, hn, hP, q⟩ := h
    refine ⟨_, pss_one (ps_ret (pe_ix ix_list (pv 1) (pe_fn TK hr (by decide) rfl (pa_cons (pv 0) (pa_cons (pe_callB call_len_seq (by rfl) T.len PySem.boot_len (pa_cons (pv 1) pa_nil)) pa_nil))) (fun _ _ => rfl))), ?_⟩
    have hS0 := (hid_low [p] H).seq hS
    have l0 : 0 < xs.length := List.length_pos_iff.mpr hx
    refine ⟨_, rfl, _, rfl, _, rfl, t, xs, rfl, .inl hS0, p, _, n, rfl, (by show (0 : Int) < (xs.length : Int); omega), (by show (xs.length : Int) < 1000000; omega), by omega, hP, fun r H4 hr' b4 P4 => ?_⟩
    have hr2 : r < xs.length := by have := hr'; omega
    exact ⟨t, xs, _, xs[r], rfl, rfl, (hid_low [p] H4).seq (b4.seq hS), atI_nat (List.getElem?_eq_getElem hr2), q _ H4 (List.getElem_mem hr2) b4 P4⟩
end
end K4
set_option Elab.async false
set_option linter.all false
set_option maxRecDepth 100000
set_option maxHeartbeats 4000000
/-! A name by the words of texts. -/
namespace GB
open PySem PySem.Spec L2 PyProof.Rows
theorem asc : ∀ c < 128, (Unicode.isAlpha c && !(Unicode.isUpper c || Unicode.isTitle c)) = signB c ∧ (signB c = true → Unicode.isLower c = true) := by decide +kernel
theorem sign_lt {c : Nat} (h : signB c = true) : c < 128 := by
  unfold signB at h
  simp only [Bool.and_eq_true, Bool.not_eq_true', decide_eq_false_iff_not] at h
  have h2 := h.2
  simp only [List.cons_lt_cons_iff] at h2
  omega
theorem nameB_words (s : Str) : nameB s = (decide (1 ≤ s.length ∧ s.length ≤ 8) && (Txt.isascii s && (Txt.isalpha s && Txt.islower s))) := by
  unfold nameB Txt.isascii Txt.isalpha Txt.islower
  by_cases h : 1 ≤ s.length ∧ s.length ≤ 8
  · rw [decide_eq_true h, Bool.true_and, Bool.true_and]
    have hn : decide (s.length > 0) = true := decide_eq_true (by omega)
    rw [hn, Bool.true_and]
    apply Bool.eq_iff_iff.mpr
    simp only [Bool.and_eq_true, Array.all_eq_true', Array.any_eq_true', List.all_eq_true, Bool.not_eq_true', decide_eq_true_eq, Array.mem_toList_iff, Array.any_eq_false', Bool.or_eq_true, not_or]
    constructor
    · intro ha
      refine ⟨fun c hc => sign_lt (ha c hc), fun c hc => ?_, ?_, fun c hc => ?_⟩
      · have := (asc c (sign_lt (ha c hc))).1
        rw [ha c hc] at this
        exact (Bool.and_eq_true_iff.mp this).1
      · have hs : 0 < s.cps.size := h.1
        refine ⟨s.cps[0], Array.getElem_mem hs, ?_⟩
        exact (asc _ (sign_lt (ha _ (Array.getElem_mem hs)))).2 (ha _ (Array.getElem_mem hs))
      · have := (asc c (sign_lt (ha c hc))).1
        rw [ha c hc] at this
        have := (Bool.and_eq_true_iff.mp this).2
        simpa using this
    · rintro ⟨h1, h2, _, h3⟩ c hc
      rw [← (asc c (h1 c hc)).1, h2 c hc]
      have := h3 c hc
      simp [this.1, this.2]
  · rw [decide_eq_false h, Bool.false_and, Bool.false_and]
end GB
set_option Elab.async false
set_option linter.all false
set_option maxRecDepth 100000
set_option maxHeartbeats 8000000
namespace K4
open PySem PySem.Spec L2 GB
abbrev sIsL : Stmt := topS 9
abbrev sIsN : Stmt := topS 10
abbrev sIsNm : Stmt := topS 11
def spIsL (K : PySem.W.Frag) : Sp := fun vs H Q _ => ∃ x t b, vs = [x] ∧ (∀ H', Same H H' → TyX K H' x t) ∧ PySem.W.kitAny K t [.type "list", .type "tuple"] = some b ∧ ∀ H', Same H H' → Q (.bl b) H'
def spIsN (K : PySem.W.Frag) : Sp := fun vs H Q _ => ∃ x t b1 b2, vs = [x] ∧ TyX K H x t ∧ PySem.W.kitOne K t (.type "int") = some b1 ∧ PySem.W.kitOne K t (.type "bool") = some b2 ∧ Q (.bl (b1 && !b2)) H
def spIsNm (K : PySem.W.Frag) : Sp := fun vs H Q _ => ∃ x, vs = [x] ∧ ((∃ s : Str, x = .str s ∧ s.length ≤ sizeLine ∧ ∀ H', Same H H' → Q (.bl (nameB s)) H') ∨ (∃ t, TyX K H x t ∧ PySem.W.kitOne K t (.type "str") = some false ∧ Q (.bl false) H))
section
variable {P : Program} {w : World} {K : PySem.W.Frag} {mg : Str → Option Value} {base : Heap}
theorem scIsL : FnScope ["thing"] ["thing"] (defScope sIsL) := ⟨rfl, rfl, rfl, by decide +kernel, rfl, by decide +kernel, by decide +kernel⟩
theorem scIsN : FnScope ["thing"] ["thing"] (defScope sIsN) := ⟨rfl, rfl, rfl, by decide +kernel, rfl, by decide +kernel, by decide +kernel⟩
theorem scIsNm : FnScope ["thing"] ["thing"] (defScope sIsNm) := ⟨rfl, rfl, rfl, by decide +kernel, rfl, by decide +kernel, by decide +kernel⟩
theorem ok_isL {f : Addr} {fd : FuncData} (F : Fun K "is_list" "is_list" sIsL f fd) (T : Bl mg) : FnOk P w K mg base CX0 1 f fd ["thing"] (spIsL K) := by
  refine F.ok scIsL (fun vs H Q E h => ?_) (fun cdv A outer s H vs Q E hr h => ?_)
  · obtain ⟨x, t, b, rfl, _⟩ := h
    rfl
  · obtain ⟨x, t, b, rfl, ht, hb, q⟩ := h
    refine ⟨_, pss_one (ps_ret (pe_callB call_isiT (by rfl) T.isi (by decide +kernel) (pa_cons (pv 0) (pa_cons (pe_tup (pa_cons (pe_bltn (v := .ty "list") (by rfl) T.list (by decide +kernel) rfl) (pa_cons (pe_bltn (v := .ty "tuple") (by rfl) T.tuple (by decide +kernel) rfl) (pa_nil)))) (pa_nil))))), ?_⟩
    refine ⟨_, rfl, by show 2 ≤ sizeLine; decide, fun p np => ?_⟩
    obtain ⟨H1, s1, h1, e1⟩ := lay (o := .tup [.ty "list", .ty "tuple"]) np
    rw [e1]
    exact ⟨x, p, _, t, _, b, rfl, h1, .cons (.ty "list") (.cons (.ty "tuple") .nil), ht _ s1, hb, q _ s1⟩
theorem ok_isN {f : Addr} {fd : FuncData} (F : Fun K "is_number" "is_number" sIsN f fd) (T : Bl mg) : FnOk P w K mg base CX0 1 f fd ["thing"] (spIsN K) := by
  refine F.ok scIsN (fun vs H Q E h => ?_) (fun cdv A outer s H vs Q E hr h => ?_)
  · obtain ⟨x, t, b1, b2, rfl, _⟩ := h
    rfl
  · obtain ⟨x, t, b1, b2, rfl, ht, h1, h2, q⟩ := h
    refine ⟨_, pss_one (ps_ret (pe_and (pe_callB call_isi (by rfl) T.isi (by decide +kernel) (pa_cons (pv 0) (pa_cons (pe_bltn (v := .ty "int") (by rfl) T.int (by decide +kernel) rfl) (pa_nil)))) (pe_one (pe_not (pe_callB call_isi (by rfl) T.isi (by decide +kernel) (pa_cons (pv 0) (pa_cons (pe_bltn (v := .ty "bool") (by rfl) T.bool (by decide +kernel) rfl) (pa_nil)))))))), ?_⟩
    refine ⟨_, rfl, x, .ty "int", t, .type "int", b1, rfl, .ty "int", ht, h1, b1, rfl, ?_⟩
    cases b1 with
    | true => exact ⟨_, rfl, x, .ty "bool", t, .type "bool", b2, rfl, .ty "bool", ht, h2, b2, rfl, q⟩
    | false => exact q
theorem ok_isNm {f : Addr} {fd : FuncData} (F : Fun K "is_name" "is_name" sIsNm f fd) (T : Bl mg) (M : ∃ u, mg "MOST_SIGNS" = some u ∧ RelV (.int 8) u) : FnOk P w K mg base CX0 1 f fd ["thing"] (spIsNm K) := by
  obtain ⟨uM, gM, rM⟩ := M
  refine F.ok scIsNm (fun vs H Q E h => ?_) (fun cdv A outer s H vs Q E hr h => ?_)
  · obtain ⟨x, rfl, _⟩ := h
    rfl
  · obtain ⟨x, rfl, h⟩ := h
    refine ⟨_, pss_one (ps_ret (pe_and (pe_callB call_isi (by rfl) T.isi (by decide +kernel) (pa_cons (pv 0) (pa_cons (pe_bltn (v := .ty "str") (by rfl) T.str (by decide +kernel) rfl) (pa_nil)))) (pe_and (pe_chain op_le op_le (pe_int) (pe_callB call_len_str (by rfl) T.len PySem.boot_len (pa_cons (pv 0) (pa_nil))) (pe_glob rfl gM rM)) (pe_and (pe_bm0 PySem.F.plainAttrs_str PySem.F.slot_str_isascii PySem.F.type_str_isascii mt_isascii (pv 0)) (pe_and (pe_bm0 PySem.F.plainAttrs_str PySem.F.slot_str_isalpha PySem.F.type_str_isalpha mt_isalpha (pv 0)) (pe_one (pe_bm0 PySem.F.plainAttrs_str PySem.F.slot_str_islower PySem.F.type_str_islower mt_islower (pv 0)))))))), ?_⟩
    rcases h with ⟨z, rfl, hz, q⟩ | ⟨t, ht, hk, q⟩
    · have q := q H (Same.refl _)
      rw [nameB_words] at q
      refine ⟨_, rfl, .str z, .ty "str", .type "str", .type "str", true, rfl, .ty "str", .base (.str z), kit_ty (by decide +kernel), true, rfl, ?_⟩
      refine iteT ?_
      refine ⟨_, rfl, _, rfl, hz, _, _, rfl, rfl, _, rfl, ?_⟩
      by_cases c1 : (1 : Int) ≤ (z.length : Int)
      · rw [decide_eq_true c1]
        refine iteT ?_
        refine ⟨_, _, rfl, rfl, _, rfl, ?_⟩
        by_cases c2 : (z.length : Int) ≤ 8
        · rw [decide_eq_true c2]
          refine iteT ?_
          rw [decide_eq_true ⟨by omega, by omega⟩, Bool.true_and] at q
          refine ⟨_, rfl, rfl, _, rfl, rfl, trivial, _, rfl, ?_⟩
          cases ha : Txt.isascii z with
          | false => rw [ha] at q; exact iteF q
          | true =>
            rw [ha, Bool.true_and] at q
            refine iteT ?_
            refine ⟨_, rfl, rfl, _, rfl, rfl, trivial, _, rfl, ?_⟩
            cases hb : Txt.isalpha z with
            | false => rw [hb] at q; exact iteF q
            | true =>
              rw [hb, Bool.true_and] at q
              refine iteT ?_
              exact ⟨_, rfl, rfl, _, rfl, rfl, trivial, q⟩
        · rw [decide_eq_false c2]
          refine iteF ?_
          rw [decide_eq_false (fun h => c2 (by omega)), Bool.false_and] at q
          exact q
      · rw [decide_eq_false c1]
        refine iteF ?_
        refine ⟨_, rfl, ?_⟩
        rw [decide_eq_false (fun h => c1 (by omega)), Bool.false_and] at q
        exact iteF q
    · refine ⟨_, rfl, x, .ty "str", t, .type "str", false, rfl, .ty "str", ht, hk, false, rfl, ?_⟩
      exact iteF q
end
end K4
set_option Elab.async false
set_option linter.all false
set_option maxRecDepth 100000
set_option maxHeartbeats 8000000
namespace K4
open PySem PySem.Spec L2 GB
/-- the module's NAMED -/
def Nmd (K : PySem.W.Frag) (mg : Str → Option Value) : Prop := ∃ a, mg "NAMED" = some (.ref a) ∧ ∀ H, SqT K H a (sts nmd)
end K4
set_option Elab.async false
set_option linter.all false
set_option maxRecDepth 100000
set_option maxHeartbeats 8000000
namespace GB
open PySem PySem.Spec L2
/-- a ground of the package, as far as terms ask -/
structure IsGr (C : Addr) (H : Hp) (G : Addr) (g : GD) : Prop where
  ex : ∃ dx fs aL, H G = some (.ins C dx fs) ∧ fs.lookup ("_letters" : Str) = some (.ref aL) ∧ H aL = some (.dK (lkv g.letters)) ∧ fs.lookup ("parts_of" : Str) = none
theorem IsGr.mono {C : Addr} {H H' : Hp} {G : Addr} {g : GD} (s : Same H H') (h : IsGr C H G g) : IsGr C H' G g := let ⟨dx, fs, aL, h1, h2, h3, h4⟩ := h.ex; ⟨dx, fs, aL, s _ _ h1, h2, s _ _ h3, h4⟩
theorem NodeV.head {K : PySem.W.Frag} {H : Hp} {p : Addr} {w n : Str} {vs : List V} (h : NodeV K H p w n vs) : ∃ rest, SqA K H p (.str w :: rest) := by
  rcases h.kind with ⟨_, _, hs⟩ | ⟨_, _, hs, _⟩ | ⟨_, hs⟩ | ⟨_, _, hs⟩
  · exact ⟨_, hs⟩
  · exact ⟨_, hs⟩
  · exact ⟨_, hs⟩
  · exact ⟨_, hs⟩
section
variable {L : List (Str × Nat)} {ns : List Str} {w n : Str} {m : Nat}
theorem HeadOk.nmd (h : HeadOk L ns w n m) (hw : w ∈ nmd) : nameB n = true ∧ (w = "name" → n ∈ ns) := by
  cases h with
  | val h => exact ⟨h, fun e => absurd e (by decide)⟩
  | fail h => exact ⟨h, fun e => absurd e (by decide)⟩
  | name h hn => exact ⟨h, fun _ => hn⟩
  | use h => exact absurd hw (by decide)
  | bind h _ => exact absurd hw (by decide)
  | op ho => exact absurd hw (ops_no _ ho).1
theorem HeadOk.toUse (h : HeadOk L ns "use" n m) : (n, m) ∈ L := by
  cases h with
  | use h => exact h
  | op ho => exact absurd rfl (ops_no _ ho).2.1
theorem HeadOk.toBind (h : HeadOk L ns "bind" n m) : nameB n = true ∧ m = 2 := by
  cases h with
  | bind h _ => exact ⟨h, rfl⟩
  | op ho => exact absurd rfl (ops_no _ ho).2.2
theorem HeadOk.toOp (h : HeadOk L ns w n m) (ho : ∃ k, (w, k) ∈ opsW) : (w, m) ∈ opsW := by
  obtain ⟨k, ho⟩ := ho
  cases h with
  | val h => exact absurd (show ("value" : Str) ∈ GB.nmd by decide) (ops_no _ ho).1
  | fail h => exact absurd (show ("fail" : Str) ∈ GB.nmd by decide) (ops_no _ ho).1
  | name h hn => exact absurd (show ("name" : Str) ∈ GB.nmd by decide) (ops_no _ ho).1
  | use h => exact absurd rfl (ops_no _ ho).2.1
  | bind h _ => exact absurd rfl (ops_no _ ho).2.2
  | op h => exact h
end
def spHas (K : PySem.W.Frag) (C : Addr) : Sp := fun vs H Q _ => ∃ (G : Addr) (x : V) (g : GD), vs = [.ref G, x] ∧ IsGr C H G g ∧ ((∃ s : Str, x = .str s ∧ (g.letters.map (·.1)).Nodup ∧ Q (.bl (decide (s ∈ g.letters.map (·.1)))) H) ∨ (∃ t, TyX K H x t ∧ PySem.W.kitOne K t (.type "str") = some false ∧ Q (.bl false) H))
def spPrt (C : Addr) : Sp := fun vs H Q _ => ∃ (G : Addr) (x : Str) (g : GD), vs = [.ref G, .str x] ∧ IsGr C H G g ∧ (g.letters.map (·.1)).Nodup ∧ ((∃ k, (x, k) ∈ g.letters ∧ Q (.int (k : Nat)) H) ∨ (x ∉ g.letters.map (·.1) ∧ Q .non H))
structure GrC (P : Program) (w : World) (K : PySem.W.Frag) (mg : Str → Option Value) (base : Heap) (C : Addr) : Prop where
  cl : Cls K C
  prt : ∃ f fd, Meth K C "parts_of" f ∧ FnOk P w K mg base CX0 1 f fd ["self", "letter"] (spPrt C) ∧ Binds K fd ["self", "letter"] []
end GB
namespace K4
open PySem PySem.Spec L2 GB
abbrev sHas : Stmt := inClass (topS 21) 7
abbrev sPrt : Stmt := inClass (topS 21) 5
abbrev sIsU : Stmt := topS 18
def spIsU (K : PySem.W.Frag) (C : Addr) : Sp := fun vs H Q _ => ∃ (G p : Addr) (g : GD), vs = [.ref G, .ref p] ∧ IsGr C H G g ∧ (g.letters.map (·.1)).Nodup ∧
  ((∃ (q : Addr) (n : Str) (us : List V), SqA K H p [.str "use", .str n, .ref q] ∧ SqA K H q us ∧ (n, us.length) ∈ g.letters ∧ ∀ H', Same H H' → Q (.bl true) H') ∨ (UseV K H g.letters p ∧ ∀ H', Same H H' → Q (.bl false) H'))
/-- the module's TERMS_BEHIND -/
def TBh (K : PySem.W.Frag) (w : World) (mg : Str → Option Value) : Prop := ∃ d es n, mg "TERMS_BEHIND" = some (.ref d) ∧ KDict K w d es n ∧ (∀ q ∈ opsW, KDct K w d q.1 (.int (q.2 : Int)) ∧ ∃ u, PySem.W.nsIn K d q.1 = some (some u)) ∧ ∀ x ∈ noW, PySem.W.nsIn K d x = some none
section
variable {P : Program} {w : World} {K : PySem.W.Frag} {mg : Str → Option Value} {base : Heap} {C : Addr}
theorem scHas : FnScope ["self", "letter"] ["self", "letter"] (defScope sHas) := ⟨rfl, rfl, rfl, by decide +kernel, rfl, by decide +kernel, by decide +kernel⟩
theorem scPrt : FnScope ["self", "letter"] ["self", "letter"] (defScope sPrt) := ⟨rfl, rfl, rfl, by decide +kernel, rfl, by decide +kernel, by decide +kernel⟩
theorem scIsU : FnScope ["ground", "thing"] ["ground", "thing"] (defScope sIsU) := ⟨rfl, rfl, rfl, by decide +kernel, rfl, by decide +kernel, by decide +kernel⟩
theorem ok_has {f : Addr} {fd : FuncData} (F : Fun K "__contains__" "Ground.__contains__" sHas f fd) (T : Bl mg) (c : Cls K C) (nL : NoAttr K C "_letters") : FnOk P w K mg base CX0 1 f fd ["self", "letter"] (spHas K C) := by
  refine F.ok scHas (fun vs H Q E h => ?_) (fun cdv A outer s H vs Q E hr h => ?_)
  · obtain ⟨G, x, g, rfl, _⟩ := h
    rfl
  · obtain ⟨G, x, g, rfl, ⟨dx, fs, aL, hG, hl, hL, _⟩, h⟩ := h
    have hu := hu_of hr
    refine ⟨_, pss_one (ps_ret (pe_and (pe_callB call_isi (by rfl) T.isi (by decide +kernel) (pa_cons (pv 1) (pa_cons (pe_bltn (v := .ty "str") (by rfl) T.str (by decide +kernel) rfl) (pa_nil)))) (pe_one (pe_cmp (pc_din hu (pv 1) (pe_fld (pv 0) rfl)) rfl)))), ?_⟩
    rcases h with ⟨z, rfl, nd, q⟩ | ⟨t, ht, hk, q⟩
    · refine ⟨_, rfl, .str z, .ty "str", .type "str", .type "str", true, rfl, .ty "str", .base (.str z), kit_ty (by decide +kernel), true, rfl, ?_⟩
      by_cases m : z ∈ g.letters.map (·.1)
      · obtain ⟨q1, hq1, e1⟩ := List.mem_map.mp m
        rw [decide_eq_true m] at q
        have hv : valV (lkv g.letters) (.inr z : Key) = some (.int (q1.2 : Int)) := valV_lkv nd (by rw [← e1]; exact hq1)
        refine ⟨_, rfl, _, rfl, G, C, dx, fs, _, rfl, hG, c, nL, hl, aL, some (.int (q1.2 : Int)), rfl, (by rw [← hv]; exact DGet.k (k := .inr z) hL), ?_⟩
        exact q
      · rw [decide_eq_false m] at q
        have hv : valV (lkv g.letters) (.inr z : Key) = none := valV_no m
        refine ⟨_, rfl, _, rfl, G, C, dx, fs, _, rfl, hG, c, nL, hl, aL, none, rfl, (by rw [← hv]; exact DGet.k (k := .inr z) hL), ?_⟩
        exact q
    · exact ⟨_, rfl, x, .ty "str", t, .type "str", false, rfl, .ty "str", ht, hk, false, rfl, q⟩
theorem ok_prt {f : Addr} {fd : FuncData} (F : Fun K "parts_of" "Ground.parts_of" sPrt f fd) (c : Cls K C) (nL : NoAttr K C "_letters") : FnOk P w K mg base CX0 1 f fd ["self", "letter"] (spPrt C) := by
  refine F.ok scPrt (fun vs H Q E h => ?_) (fun cdv A outer s H vs Q E hr h => ?_)
  · obtain ⟨G, x, g, rfl, _⟩ := h
    rfl
  · obtain ⟨G, x, g, rfl, ⟨dx, fs, aL, hG, hl, hL, _⟩, nd, h⟩ := h
    have hu := hu_of hr
    refine ⟨_, pss_one (ps_ret (pe_dget1 hu (pe_fld (pv 0) rfl) (pv 1) ⟨rfl, rfl, rfl, rfl⟩)), ?_⟩
    rcases h with ⟨k, hk, q⟩ | ⟨hn, q⟩
    · have hv := valV_lkv nd hk
      exact ⟨_, rfl, G, C, dx, fs, _, rfl, hG, c, nL, hl, aL, rfl, .inl ⟨_, .inl hL⟩, _, rfl, some (.int (k : Int)), (by rw [← hv]; exact DGet.k (k := .inr x) hL), q⟩
    · have hv := valV_no hn
      exact ⟨_, rfl, G, C, dx, fs, _, rfl, hG, c, nL, hl, aL, rfl, .inl ⟨_, .inl hL⟩, _, rfl, none, (by rw [← hv]; exact DGet.k (k := .inr x) hL), q⟩
theorem ok_isU {f : Addr} {fd : FuncData} (F : Fun K "_is_use" "_is_use" sIsU f fd) (T : Bl mg) (GC : GrC P w K mg base C) (IL : Fns P w K mg base "is_list" 1 ["thing"] (spIsL K)) : FnOk P w K mg base CX0 2 f fd ["ground", "thing"] (spIsU K C) := by
  obtain ⟨fP, dP, mP, FP, bP⟩ := GC.prt
  refine F.ok scIsU (fun vs H Q E h => ?_) (fun cdv A outer s H vs Q E hr h => ?_)
  · obtain ⟨G, p, g, rfl, _⟩ := h
    rfl
  · obtain ⟨G, p, g, rfl, hG, nd, h⟩ := h
    refine ⟨_, pss_cons (ps_if (PW.pt (pw_or (pt_cmpR op_ne (pe_callB call_len_seq (by rfl) T.len PySem.boot_len (pa_cons (pv 1) (pa_nil))) (pe_int) (nomark _)) (pw_or (pt_not (pt_val (pe_callB call_isi (by rfl) T.isi (by decide +kernel) (pa_cons (pe_ix ix_seq (pv 1) (pe_int) (fun _ _ => rfl)) (pa_cons (pe_bltn (v := .ty "str") (by rfl) T.str (by decide +kernel) rfl) (pa_nil)))))) (pw_or1 (pt_not (pt_val (pe_fn IL hr (by decide) rfl (pa_cons (pe_ix ix_seq (pv 1) (pe_int) (fun _ _ => rfl)) (pa_nil))))))))) (pss_one (ps_ret (pe_bl))) (pss_nil)) (pss_one (ps_ret (pe_cmpR op_eq (pe_meth (pv 0) GC.cl mP FP (hr.mono (by decide)) bP .nil pass0 (pa_cons (pe_ix ix_seq (pv 1) (pe_int) (fun _ _ => rfl)) (pa_nil))) (pe_callB call_len_seq (by rfl) T.len PySem.boot_len (pa_cons (pe_ix ix_seq (pv 1) (pe_int) (fun _ _ => rfl)) (pa_nil))) (nomark _)))), ?_⟩
    obtain ⟨dx, fs, aL, h1, h2, h3, h4⟩ := hG.ex
    rcases h with ⟨q, n, us, hp, hq, hn, k⟩ | ⟨hU, k⟩
    · refine ⟨_, rfl, p, _, rfl, hp, rfl, _, rfl, ?_⟩
      refine iteF ?_
      refine ⟨_, rfl, ixA hp 1 rfl ⟨.str n, .ty "str", .type "str", .type "str", true, rfl, .ty "str", .base (.str n), kit_ty (by decide +kernel), true, rfl, ?_⟩⟩
      refine iteF ?_
      obtain ⟨t, ht, hty⟩ := tyS hq
      refine ⟨_, rfl, ixA hp 2 rfl ⟨.ref q, _, true, rfl, hty, kit_seq ht, fun H1 s1 => ⟨_, rfl, ?_⟩⟩⟩
      refine iteF ?_
      refine ⟨_, rfl, G, dx, fs, rfl, s1 _ _ h1, h4, _, rfl, ixA (hp.mono s1) 1 rfl ⟨G, n, g, rfl, hG.mono s1, nd, .inl ⟨us.length, hn, ?_⟩⟩⟩
      refine ⟨_, rfl, ixA (hp.mono s1) 2 rfl ⟨q, us, rfl, hq.mono s1, rfl, ?_⟩⟩
      rw [decI, decide_eq_true rfl]
      exact k _ s1
    · cases hU with
      | @len r hp hl =>
        refine ⟨_, rfl, p, _, rfl, hp, rfl, _, rfl, ?_⟩
        rw [decI, decide_eq_false (by rw [List.length_cons]; omega)]
        exact iteT (k _ (Same.refl _))
      | @name y e hp hn he =>
        refine ⟨_, rfl, p, _, rfl, hp, rfl, _, rfl, ?_⟩
        refine iteF ?_
        cases hn with
        | @str n hn =>
          refine ⟨_, rfl, ixA hp 1 rfl ⟨.str n, .ty "str", .type "str", .type "str", true, rfl, .ty "str", .base (.str n), kit_ty (by decide +kernel), true, rfl, ?_⟩⟩
          refine iteF ?_
          cases he with
          | no h5 h6 =>
            refine ⟨_, rfl, ixA hp 2 rfl ⟨_, _, false, rfl, h5, h6, fun H1 s1 => ⟨_, rfl, ?_⟩⟩⟩
            exact iteT (k _ s1)
          | @seq q us hq =>
            obtain ⟨t, ht, hty⟩ := tyS hq
            refine ⟨_, rfl, ixA hp 2 rfl ⟨.ref q, _, true, rfl, hty, kit_seq ht, fun H1 s1 => ⟨_, rfl, ?_⟩⟩⟩
            refine iteF ?_
            refine ⟨_, rfl, G, dx, fs, rfl, s1 _ _ h1, h4, _, rfl, ixA (hp.mono s1) 1 rfl ⟨G, n, g, rfl, hG.mono s1, nd, .inr ⟨hn, ?_⟩⟩⟩
            exact ⟨_, rfl, ixA (hp.mono s1) 2 rfl ⟨q, us, rfl, hq.mono s1, rfl, k _ s1⟩⟩
        | oth h5 h6 =>
          refine ⟨_, rfl, ixA hp 1 rfl ⟨y, .ty "str", _, .type "str", false, rfl, .ty "str", h5 _ (Same.refl _), h6, false, rfl, ?_⟩⟩
          exact iteT (k _ (Same.refl _))
      | @parts n m e t hp hn h5 h6 =>
        refine ⟨_, rfl, p, _, rfl, hp, rfl, _, rfl, ?_⟩
        refine iteF ?_
        refine ⟨_, rfl, ixA hp 1 rfl ⟨.str n, .ty "str", .type "str", .type "str", true, rfl, .ty "str", .base (.str n), kit_ty (by decide +kernel), true, rfl, ?_⟩⟩
        refine iteF ?_
        refine ⟨_, rfl, ixA hp 2 rfl ⟨e, t, false, rfl, h5, h6, fun H1 s1 => ⟨_, rfl, ?_⟩⟩⟩
        exact iteT (k _ s1)
      | @many n m q us hp hn hq hm =>
        refine ⟨_, rfl, p, _, rfl, hp, rfl, _, rfl, ?_⟩
        refine iteF ?_
        refine ⟨_, rfl, ixA hp 1 rfl ⟨.str n, .ty "str", .type "str", .type "str", true, rfl, .ty "str", .base (.str n), kit_ty (by decide +kernel), true, rfl, ?_⟩⟩
        refine iteF ?_
        obtain ⟨t, ht, hty⟩ := tyS hq
        refine ⟨_, rfl, ixA hp 2 rfl ⟨.ref q, _, true, rfl, hty, kit_seq ht, fun H1 s1 => ⟨_, rfl, ?_⟩⟩⟩
        refine iteF ?_
        refine ⟨_, rfl, G, dx, fs, rfl, s1 _ _ h1, h4, _, rfl, ixA (hp.mono s1) 1 rfl ⟨G, n, g, rfl, hG.mono s1, nd, .inl ⟨m, hn, ?_⟩⟩⟩
        refine ⟨_, rfl, ixA (hp.mono s1) 2 rfl ⟨q, us, rfl, hq.mono s1, rfl, ?_⟩⟩
        rw [decI, decide_eq_false (by omega)]
        exact k _ s1
end
end K4
set_option Elab.async false
set_option linter.all false
set_option maxRecDepth 100000
set_option maxHeartbeats 8000000
/-! A list comprehension whose elements' calls may raise. -/
namespace CompX
open PySem PySem.Spec PyProof.Rows L2
/-- behind a block: as the library has it where it ran through; where it raised, what is left to be done by the block's own environment -/
def post (M : Model) (A : Around) (E : Value → Shared → Prop) (use : Option (Value → Sem Unit)) (Q : Value → Shared → Prop) (acc : Value) (be : Env) : Result → Shared → Prop
  | .ok f, t => compPost M A E use Q acc be.locals (.ok f) t
  | .error x, t => ∃ m, t.heap.Ns be.locals m ∧ ∀ hp, Heap.SameBut be.locals t.heap hp → wpAny M A (PySem.passOn "comprehension.variables-let-go" x be : Sem Value) (fun _ _ => False) E { t with heap := hp }
section
variable {M : Model} {A : Around} {E : Value → Shared → Prop} {s : Shared} {env : Env}
theorem comp_free {ex : Expr} {sc : Scope} {pos : Pos} {mk fst : Sem Value} {c1 : Comprehension} {cs : List Comprehension} {clo : List (Str × Addr)} {use : Option (Value → Sem Unit)} {Q : Value → Shared → Prop}
    (h1 : clausesOf ex = c1 :: cs) (h2 : ∀ x, foldedSetIterable c1.iter env x = pure x) (h3 : closureFor sc env = pure clo) (h4 : sc.kind = .function) (h5 : ∀ y ∈ sc.names, y.2 = .local → sc.names.lookup y.1 = some .local)
    (h : wpAny M A fst (fun x t1 => wpAny M A (pyIter x) (fun it t2 => wpAny M A mk (fun acc t3 => wpAny M A (newFunctionEnv sc env.globals clo [] env.qual none .none (some env)) (fun be t4 =>
      codeAny M A (.compStart ex 0 it acc { be with scope := relabel sc env }) (post M A E use Q acc { be with scope := relabel sc env }) t4) E t3) E t2) E t1) E s) :
    wpAny M A (comprehension ex sc env pos mk false fst use) Q E s := by
  unfold comprehension
  rw [h3, h1]
  refine wpAny_bind (wpAny_mono h (fun x t1 g1 => ?_) fun _ _ z => z)
  refine wpAny_bind (wpAny_standAt (wpAny_bind (wpAny_of_eq (h2 x) (wpAny_bind (wpAny_holding (wpAny_mono g1 (fun it t2 g2 => ?_) fun _ _ z => z))))))
  refine wpAny_standIf (wpAny_bind (wpAny_mono g2 (fun acc t3 g3 => ?_) fun _ _ z => z))
  refine wpAny_bind (wpAny_pure (wpAny_bind (wpAny_mono g3 (fun be t4 g4 => ?_) fun _ _ z => z)))
  dsimp only
  have own : ∀ (l : List (Str × NameKind)), (∀ y ∈ l, y ∈ sc.names) → ∀ y ∈ l, y.2 = .local → Env.kindOf { be with scope := relabel sc env } y.1 = some .local := fun l hl y hy e => lookup_relabel_local (h5 y (hl y hy) e)
  have in1 : ∀ y ∈ (sc.names.filter fun y => (y.2 == .local || y.2 == .cell) && y.1 != (".0" : Str)).reverse, y ∈ sc.names := fun y hy => (List.mem_filter.mp (List.mem_reverse.mp hy)).1
  have in2 : ∀ y ∈ (sc.names.filter fun y => (y.2 == .local || y.2 == .cell) && y.1 != (".0" : Str)).reverse.drop 1 ++ (sc.names.filter fun y => (y.2 == .local || y.2 == .cell) && y.1 != (".0" : Str)).reverse.take 1, y ∈ sc.names := fun y hy =>
    (List.mem_append.mp hy).elim (fun z => in1 y (List.mem_of_mem_drop z)) fun z => in1 y (List.mem_of_mem_take z)
  refine wpAny_holding (wpAny_bind (wpAny_attempt (wpAny_holding (wpAny_run (codeAny_mono g4 fun r t5 g5 => ?_)))))
  cases r with
  | ok f =>
    cases use with
    | none =>
      obtain ⟨m, hn, g6⟩ := g5
      exact wpAny_bind (wpAny_holding (wpAny_comp_letGo (cenv := { be with scope := relabel sc env }) h4 _ t5 m (own _ in1) hn fun hp _ _ sb => wpAny_pure (g6 hp sb)))
    | some u =>
      refine wpAny_bind (wpAny_rule (wpAny_bind (wpAny_holding (wpAny_mono g5 (fun _ t6 g6 => ?_) fun _ _ z => z))))
      obtain ⟨m, hn, g7⟩ := g6
      exact wpAny_bind (wpAny_comp_letGo (cenv := { be with scope := relabel sc env }) h4 _ t6 m (own _ in2) hn fun hp _ _ sb => wpAny_pure (g7 hp sb))
  | error x =>
    obtain ⟨m, hn, g6⟩ := g5
    exact wpAny_bind (wpAny_holding (wpAny_comp_letGo (cenv := { be with scope := relabel sc env }) h4 _ t5 m (own _ in1) hn fun hp _ _ sb => wpAny_mono (g6 hp sb) (fun _ _ z => z.elim) fun _ _ z => z))
end
section
variable {X : Cx} {pins : List (Addr × Obj)} {σ : L2.St} {H : Hp} {s s' : Shared} {W : WX}
/-- an exception that this frame noted is in the air: the state without it -/
theorem held (I : Inv X pins σ H s) {a : Addr} {B : Heap} {H' : Hp} {cls : Value} {d : Option Addr} (fl : HandSPX.HeldZ B X.stack a (Zc cls d) X.env.locals s'.heap) (hok : HOk X.prog X.w H' B) (ub : UB (frs X.stack) H H' s.heap B s'.heap) (na : H' a = none)
    (os : s'.os = s.os) (ag : AllBare s'.gens) (w : W cls d σ H') : XE X W (.ref a) s' := by
  obtain ⟨G, gIn, gOut⟩ := restrict s'.heap (fun b => (B.get? b).isSome || decide (b ∈ frs X.stack))
  have st := fl.1
  have fromB : ∀ b o, B.get? b = some o → G.get? b = some o := fun b o e => (gIn b (by simp [e])).trans (st b o e)
  have fromF : ∀ b, b ∈ frs X.stack → G.get? b = s'.heap.get? b := fun b hb => gIn b (by simp [hb])
  have back : ∀ b o, G.get? b = some o → s'.heap.get? b = some o ∧ ((B.get? b).isSome = true ∨ b ∈ frs X.stack) := by
    intro b o e
    by_cases q : ((B.get? b).isSome || decide (b ∈ frs X.stack)) = true
    · rw [gIn b q] at e
      exact ⟨e, by simpa using q⟩
    · rw [gOut b (by simpa using q)] at e
      cases e
  refine ⟨a, B, { s with heap := G, gens := s'.gens, drawn := s'.drawn, toks := s'.toks }, pins, σ, H', cls, d, rfl, ?_, fun b o e nf => ?_, Heap.UpToSlots.of_keeps (fun b o e => (back b o e).1), .inr (.inr fl), na, os, ag, w⟩
  · have slot : ∀ b o, s.heap.get? b = some o → b ∈ frs X.stack → ∃ sl, G.get? b = some { o with slots := sl } := fun b o e hb => by
      obtain ⟨sl, z⟩ := ub.slot b o e hb
      exact ⟨sl, (fromF b hb).trans z⟩
    refine I.call (ch := []) ⟨fun b o e n nf _ => fromB b o (ub.keep b o e n nf), fun b o e n hb _ => slot b o e hb, fun b o e n _ => ub.free b o e n, fun b o e _ => ?_, ub.tups, ub.frzs, ub.tbls⟩ (hok.kept fromB) ag (fun _ z => nomatch z)
    by_cases hb : b ∈ frs X.stack
    · obtain ⟨sl, z⟩ := slot b o e hb
      exact ⟨_, z⟩
    · obtain ⟨o2, z⟩ := ub.there b o e hb
      exact ⟨o2, fromB b o2 z⟩
  · obtain ⟨e2, hB⟩ := back b o e
    rcases hB with hB | hB
    · obtain ⟨o2, z⟩ := Option.isSome_iff_exists.mp hB
      have z2 := st b o2 z
      rw [e2] at z2
      cases z2
      exact z
    · exact absurd hB nf
end
section
variable {X : Cx} {pins pb : List (Addr × Obj)} {σ σb : L2.St} {H1 H3 : Hp} {s1 s3 s' : Shared} {W : WX} {E0 : XK}
/-- what a call in the block let out goes on to the def -/
theorem out {scope : Scope} {fp : List Addr} {ce : Env} {u : Value} {E1 : Value → Shared → Prop} (I3 : Inv X pins σ H3 s3) (hce : ce.locals = s3.heap.objs.size) (hfr : ce.frame = X.env.frame) (f3 : ∀ b ∈ fp, FpOk X pins H3 b) (hs : X.stack = X.env :: X.outer) (hf : X.env.frame = some X.env.locals)
    (tk : Takes X W) (hW : ∀ cls d H', E0 cls d H' → W cls d σ H') (Ib : Inv (X.blk s3 H3 scope ce fp) pb σb H1 s1) (c : CX X.prog X.w X.stack H1 s1 E0 u s') :
    wpAny (model X.prog X.w) X.A (noteFrame u ce) (fun _ t => ∃ m, t.heap.Ns ce.locals m ∧ ∀ hp, Heap.SameBut ce.locals t.heap hp → wpAny (model X.prog X.w) X.A (PySem.passOn "comprehension.variables-let-go" u ce : Sem Value) (fun _ _ => False) X.xe { t with heap := hp }) E1 s' := by
  obtain ⟨a, B, H', cls, d, rfl, fl, hokB, ub, na, os, ag, hE⟩ := c
  have I7 : Inv X pins σ H1 s1 := I3.call' (ch := fp) Ib.os Ib.base Ib.hok Ib.bare fun b hb => ⟨(f3 b hb).2.2.2.1, (f3 b hb).2.1, (f3 b hb).2.2.2.2.1, (f3 b hb).2.2.2.2.2⟩
  obtain ⟨m, hn, _⟩ := Ib.loc
  have hn : s1.heap.Ns ce.locals m := hn
  have nC : H1 ce.locals = none := Ib.free
  have fC : FpOk X pins H1 ce.locals := by
    rw [hce] at nC ⊢
    exact I3.fpOk (Nat.le_refl _) nC
  have nfC : ce.locals ∉ frs X.stack := by
    rw [hs]
    intro hm
    unfold frs at hm
    rw [List.filterMap_cons, hf] at hm
    rcases List.mem_cons.mp hm with z | z
    · exact fC.2.1 z
    · exact fC.2.2.1 z
  obtain ⟨oC, es, ep, hoC, hdC, hk, hm⟩ := hn
  have BC : B.get? ce.locals = some oC := ub.keep _ _ hoC nC nfC
  have nC' : H' ce.locals = none := ub.free _ _ hoC nC
  have hC' : s'.heap.get? ce.locals = some oC := fl.1 _ _ BC
  have ndC : ∀ vs, oC.data ≠ .fields vs := fun vs z => by rw [hdC] at z; cases z
  have hA : X.A.frames = some (X.env :: X.outer) := by rw [I7.ok.frames, hs]
  have fl' : HandSPX.FlyingZ B (X.env :: X.outer) a (Zc cls d) s'.heap := by rw [← hs]; exact fl
  have e1 : noteFrame (.ref a) ce = noteFrame (.ref a) X.env := by
    unfold noteFrame PySem.frameOf
    rw [hfr]
  rw [e1]
  refine HandSPX.looks_onZ Zc.steady hA hf fl' fun h1 hld up1 => ?_
  obtain ⟨sl, h1C⟩ := up1 _ _ hC' ndC
  refine ⟨m, ⟨_, es, ep, h1C, hdC, hk, hm⟩, fun h2 sb => ?_⟩
  obtain ⟨k1, k2, k3, oe, vs, T, oT, ts, he, hz, hd, hv1, hnT, hTe, hT, hdT, hT3⟩ := hld
  have aC : a ≠ ce.locals := fun z => by
    rw [z, h1C] at he
    cases he
    exact ndC _ hd
  have TC : T ≠ ce.locals := fun z => by
    rw [z, h1C] at hT
    cases hT
    exact ndC _ hdT
  have he2 := (sb.2 a aC).trans he
  have hB3 : ∀ b o, (PySem.W.hideAll B [ce.locals]).get? b = some o → b ≠ ce.locals ∧ B.get? b = some o := fun b o e => by
    refine ⟨fun z => ?_, PySem.W.of_hideAll _ e⟩
    rw [z, PySem.W.hideAll_none [ce.locals] (by simp)] at e
    cases e
  have noB3 : ∀ b, B.get? b = none → (PySem.W.hideAll B [ce.locals]).get? b = none := fun b hb => by
    cases q : (PySem.W.hideAll B [ce.locals]).get? b with
    | none => rfl
    | some o => rw [(hB3 b o q).2] at hb; cases hb
  have inB3 : ∀ b o, B.get? b = some o → b ≠ ce.locals → (PySem.W.hideAll B [ce.locals]).get? b = some o := fun b o e n => PySem.W.hideAll_get _ e (by simpa using n)
  have fr2 : h2.FunFrames (PySem.W.hideAll B [ce.locals]) (X.env :: X.outer) := by
    have k4 : ∀ L ∈ frs (X.env :: X.outer), (PySem.W.hideAll B [ce.locals]).get? L = none := fun L hL => noB3 L (k3.mem hL).1
    have gen : ∀ l : List Env, (∀ L ∈ frs l, L ∈ frs X.stack) → h1.FunFrames B l → h2.FunFrames B l := by
      intro l
      induction l with
      | nil => intro _ _; trivial
      | cons en l ih =>
        intro hsub hl
        obtain ⟨x1, ⟨L, o, x2, x3, x4, x5⟩, x6⟩ := hl
        have hL : L ∈ frs (en :: l) := by unfold frs; rw [List.filterMap_cons, x2]; exact List.mem_cons_self
        refine ⟨x1, ⟨L, o, x2, x3, ?_, x5⟩, ih (fun L2 h2 => hsub L2 ?_) x6⟩
        · rw [sb.2 L fun z => nfC (by rw [← z]; exact hsub L hL)]
          exact x4
        · unfold frs at h2 ⊢
          rw [List.filterMap_cons, x2]
          exact List.mem_cons_of_mem _ h2
    exact funFrames_none (gen _ (fun L hL => by rw [hs]; exact hL) k3) k4
  have held2 : HandSPX.HeldZ (PySem.W.hideAll B [ce.locals]) (X.env :: X.outer) a (Zc cls d) X.env.locals h2 :=
    ⟨fun b o e => (sb.2 b (hB3 b o e).1).trans (k1 b o (hB3 b o e).2), noB3 _ k2, fr2, oe, vs, T, oT, ts, he2, hz, hd, hv1, noB3 _ hnT, hTe, (sb.2 T TC).trans hT, hdT, hT3⟩
  unfold PySem.passOn
  refine wpAny_bind (wpAny_field he2 hd hv1 ?_)
  rw [if_neg (show ¬ ((Value.ref T == Value.none) = true) from by simp), hfr, hf]
  refine wpAny_bind (HandSPX.setFlight_onZ held2 fun h3 held3 up3 => ?_)
  refine wpAny_throw (tk _ _ ?_)
  rw [← hs] at held3
  -- the state without the block's names
  have I8 : Inv X pins σ H1 { s1 with heap := PySem.W.hideAll s1.heap [ce.locals] } := I7.turned (t' := s1.toks) (fun b o n e => PySem.W.hideAll_get _ e (by simpa using n)) fC.1 fC.2.1 fC.2.2.2.1 fC.2.2.2.2.1 fC.2.2.2.2.2
  have old : ∀ b o, (PySem.W.hideAll s1.heap [ce.locals]).get? b = some o → b ≠ ce.locals ∧ s1.heap.get? b = some o := fun b o e => by
    refine ⟨fun z => ?_, PySem.W.of_hideAll _ e⟩
    rw [z, PySem.W.hideAll_none [ce.locals] (by simp)] at e
    cases e
  refine held I8 held3 (fun b o q => (hokB b o q).stay (fun b2 u2 hc r => inB3 b2 u2 r fun z => ?_) (fun _ r => r) fun _ _ r => r) ⟨fun b o e n nf => inB3 b o (ub.keep b o (old b o e).2 n nf) (old b o e).1, fun b o e hb => ?_, fun b o e n => ub.free b o (old b o e).2 n, fun b o e nf => ?_, ub.tups, ub.frzs, ub.tbls⟩ na os ag (hW _ _ _ hE)
  · rcases hc with hc | hc
    · rw [← hc, z, nC'] at q
      cases q
    · rw [z, nC'] at hc
      cases hc
  · obtain ⟨sl1, z1⟩ := ub.slot b o (old b o e).2 hb
    have nd : ∀ vs, o.data ≠ .fields vs := by
      obtain ⟨_, o2, e2, hd2⟩ := I7.stack.mem hb
      rw [(old b o e).2] at e2
      cases e2
      exact hd2
    obtain ⟨sl2, z2⟩ := up1 b _ z1 nd
    have z3 := (sb.2 b (old b o e).1).trans z2
    obtain ⟨sl3, z4⟩ := up3 b _ z3 nd
    exact ⟨sl3, z4⟩
  · obtain ⟨o2, z⟩ := ub.there b o (old b o e).2 nf
    exact ⟨o2, inB3 b o2 z (old b o e).1⟩
end
section
variable {X : Cx}
theorem lcX_core {pins : List (Addr × Obj)} {s : Shared} {σ : L2.St} {H : Hp} {Q : VK} {elt tg iter : Expr} {ifs : List Expr} {sc : Scope} {own : List (Str × Nat)} {pos pos2 : Pos} {wi : TI} {g : TG} {tt : TT} {te : TE} {use : Option (Value → Sem Unit)} {Qf : Value → Shared → Prop} {E0 : XK} {W : WX}
    (hc : X.calm = true) (hN : X.N.Nodup) (I : Inv X pins σ H s) (hi : PI X tg iter wi) (ok : BlkOk X.N X.env.scope sc own)
    (hg : ∀ (t : Shared) (J : Hp) (C : Addr) (cl : List (Str × Addr)) (fp : List Addr), PG (X.blk t J sc (compEnvC sc cl C X.env) fp) tg g) (ht : ∀ (t : Shared) (J : Hp) (C : Addr) (cl : List (Str × Addr)) (fp : List Addr), PTs (X.blk t J sc (compEnvC sc cl C X.env) fp) ifs tt)
    (he : ∀ (t : Shared) (J : Hp) (C : Addr) (cl : List (Str × Addr)) (fp : List Addr) (pn : List (Addr × Obj)) (xe : Value → Shared → Prop), Passes (CX X.prog X.w) ((X.blk t J sc (compEnvC sc cl C X.env) fp).tr pn xe) E0 → PE ((X.blk t J sc (compEnvC sc cl C X.env) fp).tr pn xe) elt te)
    (hfs : ∀ x, foldedSetIterable iter X.env x = pure x) (hs : X.stack = X.env :: X.outer) (hf : X.env.frame = some X.env.locals) (tk : Takes X W) (hW : ∀ cls d J, E0 cls d J → W cls d σ J) (h : tLc wi g tt te (own.map (·.2)) σ H Q)
    (done : ∀ D C t m J, Inv X pins σ J t → Q (.ref D) J → t.heap.Ns C m → FpOk X pins J C → compPost (model X.prog X.w) X.A X.xe use Qf (.ref D) C (.ok .next) t) :
    wpAny (model X.prog X.w) X.A (comprehension (.ListComp elt [⟨tg, iter, ifs, 0⟩] sc pos) sc X.env pos2 (newList []) false (eval iter X.env) use) Qf X.xe s := by
  have cap : ∀ y ∈ sc.names, y.2 = .free → ∃ c, X.env.cells.lookup y.1 = some c := fun y hy e => (ok.free y hy e).elim (fun k => I.ok.has _ (.inl k)) fun k => I.ok.has _ (.inr k)
  refine comp_free rfl hfs (closure_ok cap) ok.kind (fun y hy e => by rw [ok.uniq y hy, e]) (thn (hi.run pins s σ H _ I h) fun xv t1 hx => thn hx fun itv t2 h2 => ?_)
  obtain ⟨it, fp, tn, J, H2, e, I2, T, st2, f2, q⟩ := h2
  subst e
  refine wpAny_newObj_type (newEnv_comp ?_) (by show 0 ≤ sizeLine; decide)
  generalize hD : t2.heap.objs.size = D
  have nD : H2 D = none := I2.hok.fresh (Nat.le_of_eq hD)
  obtain ⟨Wv, ⟨m0, w0⟩, turn⟩ := q D nD
  generalize ht3 : ({ t2 with heap := t2.heap.push { cls := .type "list", data := .seq ([] : List Value).toArray } } : Shared) = t3
  have hp3 : t3.heap = t2.heap.push { cls := .type "list", data := .seq ([] : List Value).toArray } := by rw [← ht3]
  have I3 : Inv X pins σ (upd H2 D (.lst [])) t3 := by
    rw [← ht3]
    refine I2.laid (t' := t2.toks) (fun b o e => Heap.get?_push_of_some _ e) (Nat.le_of_eq hD) ⟨Nat.zero_le _, [], 0, .nil, ?_⟩
    rw [← hD]
    exact Heap.get?_push_size _ rfl
  have lt2 : ∀ b ∈ fp, b < t2.heap.objs.size := fun b hb => let ⟨_, e, _⟩ := T.obj _ _ st2 b hb; Heap.lt_size e
  have f3 : ∀ b ∈ fp, FpOk X pins (upd H2 D (.lst [])) b ∧ b < t3.heap.objs.size := fun b hb => by
    refine ⟨⟨?_, (f2 b hb).2⟩, by rw [hp3, Heap.size_push]; exact Nat.lt_succ_of_lt (lt2 b hb)⟩
    rw [upd_ne (by rw [← hD]; exact Nat.ne_of_lt (lt2 b hb))]
    exact (f2 b hb).1
  have st3 : tn 0 t3.heap := T.keep _ _ _ st2 fun b _ o e => by rw [hp3]; exact Heap.get?_push_of_some _ e
  have I4 := block_start I3 ok hN f3
  have pg := hg t3 (upd H2 D (.lst [])) t3.heap.objs.size (cellsFrom (t3.heap.objs.size + 1) sc.names (cloFrom X.env.cells sc.names [])) fp
  have pt := ht t3 (upd H2 D (.lst [])) t3.heap.objs.size (cellsFrom (t3.heap.objs.size + 1) sc.names (cloFrom X.env.cells sc.names [])) fp
  have pe := he t3 (upd H2 D (.lst [])) t3.heap.objs.size (cellsFrom (t3.heap.objs.size + 1) sc.names (cloFrom X.env.cells sc.names [])) fp
  show codeAny _ _ (.compStart (.ListComp elt [⟨tg, iter, ifs, 0⟩] sc pos) 0 (.ref it) (.ref D) (compEnvC sc (cellsFrom (t3.heap.objs.size + 1) sc.names (cloFrom X.env.cells sc.names [])) t3.heap.objs.size X.env))
    (post (model X.prog X.w) X.A X.xe use Qf (.ref D) (compEnvC sc (cellsFrom (t3.heap.objs.size + 1) sc.names (cloFrom X.env.cells sc.names [])) t3.heap.objs.size X.env)) { t3 with heap := pushCells (t3.heap.push { cls := .type "dict", data := .dict #[] }) sc.names }
  have nfp : ∀ b ∈ fp, (upd H2 D (.lst [])) b = none := fun b hb => (f3 b hb).1.1
  generalize hce : compEnvC sc (cellsFrom (t3.heap.objs.size + 1) sc.names (cloFrom X.env.cells sc.names [])) t3.heap.objs.size X.env = ce at I4 pg pt pe ⊢
  have cL : ce.locals = t3.heap.objs.size := by rw [← hce]; rfl
  have cF : ce.frame = X.env.frame := by rw [← hce]; rfl
  generalize hH3 : upd H2 D (.lst []) = H3 at I3 I4 pg pt pe w0 nfp f3
  generalize ht4 : ({ t3 with heap := pushCells (t3.heap.push { cls := .type "dict", data := .dict #[] }) sc.names } : Shared) = t4 at I4 ⊢
  have st4 : tn 0 t4.heap := T.keep _ _ _ st3 fun b _ o e => by rw [← ht4]; exact pushCells_keeps _ _ _ _ (Heap.get?_push_of_some _ e)
  have stat : ∀ {τ : L2.St} {J' : Hp} {t : Shared}, Inv (X.blk t3 H3 sc ce fp) [] τ J' t → (∀ b ∈ fp, J' b = none) → ∀ b ∈ fp, FpOk (X.blk t3 H3 sc ce fp) [] J' b := fun {τ J' t} I' hn b hb =>
    ⟨hn b hb, (I'.ok.exf b hb).1, I'.ok.exfs b hb, .inl hb, fun x c e => (I'.ok.exf b hb).2 x c e, fun p hp => absurd (show p ∈ ([] : List (Addr × Obj)) ++ [] from hp) (by simp)⟩
  have loop : codeAny (model X.prog X.w) X.A (.compLoop (.ListComp elt [⟨tg, iter, ifs, 0⟩] sc pos) 0 (.ref it) (.ref D) ce) (post (model X.prog X.w) X.A X.xe use Qf (.ref D) ce) t4 := by
    refine compLoop_any (fun n t => ∃ i J', Inv (X.blk t3 H3 sc ce fp) [] (wipe σ (own.map (·.2))) J' t ∧ tn i t.heap ∧ (∀ b ∈ fp, J' b = none) ∧ Wv i n J') ?_ m0 ⟨0, H3, I4, st4, nfp, w0⟩
    rintro n t5 ⟨i, H5, I5, st5, n5, w5⟩
    rcases turn i n H5 w5 with ⟨stop, qq⟩ | ⟨go, Nx, hNx, step⟩
    · refine thnF (T.done (X.blk t3 H3 sc ce fp) rfl rfl rfl hc i [] t5 _ H5 (fun _ _ => False) I5 (stat I5 n5) st5 stop) fun r t6 ⟨hr, I6⟩ => ?_
      subst hr
      have I7 : Inv X pins σ H5 t6 := I3.call' (ch := fp) I6.os I6.base I6.hok I6.bare fun b hb => ⟨(f3 b hb).1.2.2.2.1, (f3 b hb).1.2.1, (f3 b hb).1.2.2.2.2.1, (f3 b hb).1.2.2.2.2.2⟩
      have nC : H5 ce.locals = none := I6.free
      obtain ⟨m, hn, _⟩ := I6.loc
      have hn : t6.heap.Ns ce.locals m := hn
      show compPost (model X.prog X.w) X.A X.xe use Qf (.ref D) ce.locals (.ok .next) t6
      refine done D ce.locals t6 m H5 I7 qq hn ?_
      rw [cL] at nC ⊢
      exact I3.fpOk (Nat.le_refl _) nC
    · refine thnF (T.item (X.blk t3 H3 sc ce fp) rfl rfl rfl hc i [] t5 _ H5 (fun _ _ => False) I5 (stat I5 n5) st5 go) fun r t6 ⟨u, hr, h6⟩ => ?_
      subst hr
      refine thnF h6 fun _ t7 ⟨x, H7, I7, r7, y7, st7, n7⟩ => ?_
      have I7p := I7.pinned (stat I7 n7) (T.obj _ _ st7)
      refine thnF (pg.run _ t7 _ H7 x u _ I7p r7 (step x H7 y7)) fun _ t8 ⟨σ8, H8, I8, hw8, q8⟩ => ?_
      refine thnF (pt.run _ t8 σ8 H8 _ I8 q8) fun b t9 ⟨H9, I9, q9⟩ => ?_
      have fin : ∀ {t : Shared} {J' : Hp}, Inv (X.blk t3 H3 sc ce fp) ([] ++ pinsAt fp t7.heap) σ8 J' t → Nx J' → ∃ m, m < n ∧ ∃ i J', Inv (X.blk t3 H3 sc ce fp) [] (wipe σ (own.map (·.2))) J' t ∧ tn i t.heap ∧ (∀ b ∈ fp, J' b = none) ∧ Wv i m J' := fun {t J'} I' nx => by
        obtain ⟨m', hm, w'⟩ := hNx J' nx
        have pin' : ∀ b ∈ fp, ∀ o, t7.heap.get? b = some o → t.heap.get? b = some o ∧ J' b = none := fun b hb o e =>
          let z := I'.pin (b, o) (List.mem_append_right _ (List.mem_append_right _ (mem_pinsAt hb e)))
          ⟨z.1, z.2.1⟩
        have hl : (wipe σ (own.map (·.2))).length = σ8.length := by rw [← hw8, wipe_length]
        refine ⟨m', hm, i + 1, J', (I'.unpinned (pins := [])).weak hl (fun j v e => by rw [← hw8] at e; exact (wipe_some e).1), T.keep _ _ _ st7 fun b hb o e => (pin' b hb o e).1, fun b hb => ?_, w'⟩
        obtain ⟨o, e, _⟩ := T.obj _ _ st7 b hb
        exact (pin' b hb o e).2
      cases b with
      | false =>
        simp only [Bool.false_eq_true, if_false] at q9 ⊢
        exact fin I9 q9
      | true =>
        simp only [if_true] at q9 ⊢
        have pex := pe ((X.blk t3 H3 sc ce fp).pn ++ ([] ++ pinsAt fp t7.heap)) (fun u t => ∃ (pb : List (Addr × Obj)) (σb : L2.St) (J1 : Hp) (t1 : Shared), Inv (X.blk t3 H3 sc ce fp) pb σb J1 t1 ∧ CX X.prog X.w X.stack J1 t1 E0 u t)
          (fun pins2 τ J1 t1 u t I' c => ⟨_, τ, J1, t1, ⟨I9.ok, I'.os, I'.bare, I'.base, I'.loc, I'.cell, I'.free, I'.freeC, (fun p hp => I'.pin p hp), I'.hok, I'.len⟩, c⟩)
        refine wpAny_mono (pex.run [] t9 σ8 H9 _ (I9.toTry _) q9) (fun z t10 ⟨yv, H10, I10, r10, acc, hD10, hz10, nx⟩ => ?_) fun u t ⟨pb, σb, J1, t1, Ib, c⟩ => out I3 cL cF (fun b hb => (f3 b hb).1) hs hf tk hW Ib c
        have I10' : Inv (X.blk t3 H3 sc ce fp) ([] ++ pinsAt fp t7.heap) σ8 H10 t10 := ⟨I9.ok, I10.os, I10.bare, I10.base, I10.loc, I10.cell, I10.free, I10.freeC, (fun p hp => I10.pin p (by rw [List.append_nil]; exact hp)), I10.hok, I10.len⟩
        exact app_ok (X := X.blk t3 H3 sc ce fp) I10' hD10 hz10 r10 fun t11 I11 => fin I11 nx
  exact codeAny_compStart_list loop (T.self X.A 0 _ _ _ st4 loop)
/-- [..] as a value -/
theorem pe_lcX {elt tg iter : Expr} {ifs : List Expr} {sc : Scope} {own : List (Str × Nat)} {pos : Pos} {wi : TI} {g : TG} {tt : TT} {te : TE} {E0 : XK} (hc : X.calm = true) (hN : X.N.Nodup) (hi : PI X tg iter wi) (ok : BlkOk X.N X.env.scope sc own)
    (hg : ∀ (t : Shared) (J : Hp) (C : Addr) (cl : List (Str × Addr)) (fp : List Addr), PG (X.blk t J sc (compEnvC sc cl C X.env) fp) tg g) (ht : ∀ (t : Shared) (J : Hp) (C : Addr) (cl : List (Str × Addr)) (fp : List Addr), PTs (X.blk t J sc (compEnvC sc cl C X.env) fp) ifs tt)
    (he : ∀ (t : Shared) (J : Hp) (C : Addr) (cl : List (Str × Addr)) (fp : List Addr) (pn : List (Addr × Obj)) (xe : Value → Shared → Prop), Passes (CX X.prog X.w) ((X.blk t J sc (compEnvC sc cl C X.env) fp).tr pn xe) E0 → PE ((X.blk t J sc (compEnvC sc cl C X.env) fp).tr pn xe) elt te)
    (hs : X.stack = X.env :: X.outer) (hf : X.env.frame = some X.env.locals) (tk : Takes X fun cls d _ J => E0 cls d J) (hfs : ∀ x, foldedSetIterable iter X.env x = pure x := by intro _; rfl) :
    PE X (.ListComp elt [⟨tg, iter, ifs, 0⟩] sc pos) (tLc wi g tt te (own.map (·.2))) := by
  refine ⟨fun pins s σ H Q I h => ?_⟩
  rw [eval_ListComp]
  refine lcX_core hc hN I hi ok hg ht he hfs hs hf tk (fun _ _ _ z => z) h fun D C t m J I' q hn f => ⟨m, hn, fun h2 sb => ?_⟩
  obtain ⟨f0, f1, f2, f3, f4, f5⟩ := f
  exact ⟨.ref D, J, I'.turned (t' := t.toks) (fun b o hb e => (sb.2 b hb).trans e) f0 f1 f3 f4 f5, rfl, q⟩
/-- name = [..] on one line, the name a local -/
theorem ps_setLcX {i : Nat} {y : Str} {py : Pos} {elt tg iter : Expr} {ifs : List Expr} {sc : Scope} {own : List (Str × Nat)} {pos spos : Pos} {wi : TI} {g : TG} {tt : TT} {te : TE} {E0 : XK} (hc : X.calm = true) (hN : X.N.Nodup) (hy : X.N[i]? = some y) (hyl : X.env.scope.names.lookup y = some .local)
    (hsw : swapsWith (.ListComp elt [⟨tg, iter, ifs, 0⟩] sc pos) (some (.Name y py)) spos.line X.env = pure true) (hi : PI X tg iter wi) (ok : BlkOk X.N X.env.scope sc own)
    (hg : ∀ (t : Shared) (J : Hp) (C : Addr) (cl : List (Str × Addr)) (fp : List Addr), PG (X.blk t J sc (compEnvC sc cl C X.env) fp) tg g) (ht : ∀ (t : Shared) (J : Hp) (C : Addr) (cl : List (Str × Addr)) (fp : List Addr), PTs (X.blk t J sc (compEnvC sc cl C X.env) fp) ifs tt)
    (he : ∀ (t : Shared) (J : Hp) (C : Addr) (cl : List (Str × Addr)) (fp : List Addr) (pn : List (Addr × Obj)) (xe : Value → Shared → Prop), Passes (CX X.prog X.w) ((X.blk t J sc (compEnvC sc cl C X.env) fp).tr pn xe) E0 → PE ((X.blk t J sc (compEnvC sc cl C X.env) fp).tr pn xe) elt te)
    (hs : X.stack = X.env :: X.outer) (hf : X.env.frame = some X.env.locals) (tk : Takes X fun cls d _ J => E0 cls d J) (hfs : ∀ x, foldedSetIterable iter X.env x = pure x := by intro _; rfl) :
    PS X (.Assign [.Name y py] (.ListComp elt [⟨tg, iter, ifs, 0⟩] sc pos) spos) (tAsg (tLc wi g tt te (own.map (·.2))) (gName i)) := by
  refine ⟨fun pins s σ H D I h => ?_⟩
  rw [exec_Assign_Name_used _ _ _ _ hsw]
  refine wpAny_bind (wpAny_standAt (wpAny_bind ?_))
  show wpAny _ X.A (do let _ ← comprehension (.ListComp elt [⟨tg, iter, ifs, 0⟩] sc pos) sc X.env (firstIterPos [⟨tg, iter, ifs, 0⟩] pos) (newList []) false (eval iter X.env) (some (assign (.Name y py) X.env))) _ _ s
  have h : tLc wi g tt te (own.map (·.2)) σ H (fun x H1 => gName i x σ H1 D.nx) := h
  refine wpAny_bind (thn (lcX_core (Qf := fun _ t => SP X pins D .next t) hc hN I hi ok hg ht he hfs hs hf tk (fun _ _ _ z => z) h fun L C t m J I' q hn f => ?_) fun _ t hq => wpAny_pure (wpAny_pure hq))
  show wpAny _ _ (assign (.Name y py) X.env (.ref L)) _ _ _
  refine wpAny_assign_Name (store_ok2 (v := V.ref L) I' hN hy (.inl hyl) rfl (fun t2 I2 ⟨a, sb, ha⟩ => ?_) (.inr hyl))
  obtain ⟨f0, f1, f2, f3, f4, f5⟩ := f
  have nCa : C ≠ a := by
    rcases ha with z | z
    · rw [z]; exact f1
    · exact fun e => f4 y a z e.symm
  refine ⟨m, hn.sameBut sb nCa, fun h3 sb3 => ?_⟩
  exact ⟨_, J, I2.turned (t' := t2.toks) (fun b o hb e => (sb3.2 b hb).trans e) f0 f1 f3 f4 f5, q⟩
end
end CompX
set_option Elab.async false
set_option linter.all false
set_option maxRecDepth 100000
set_option maxHeartbeats 8000000
namespace K4
open PySem PySem.Spec L2 GB
abbrev sChk : Stmt := topS 16
abbrev sPar : Stmt := topS 17
abbrev sChecked : Stmt := topS 15
def chkN : List Str := ["ground", "thing", "names", "path", "word", "bound"]
def parN : List Str := ["ground", "things", "names", "path", "place", "thing"]
/-- a term, or a thing whose first part that is none stands at a path -/
def spChkX (K : PySem.W.Frag) (C CB : Addr) (z : Nat) : Sp := fun vs H Q E => ∃ (G a b : Addr) (x : V) (ns : List Str) (g : GD) (path : List V), vs = [.ref G, x, .ref a, .ref b] ∧ IsGr C H G g ∧ (g.letters.map (·.1)).Nodup ∧ z ≤ 1000 ∧
  SqT K H a (sts ns) ∧ ns.length + z ≤ 1000 ∧ SqT K H b path ∧ path.length + z ≤ 1000 ∧
  ((∃ d t, Dp K H x d ∧ IsTm d t ∧ TmOk g.letters ns t ∧ t.size ≤ z ∧ ∀ u H', Same H H' → Dp K H' u t.d → Q u H') ∨
   (∃ r, BadV K H g.letters z ns x r ∧ ∀ pb d H', Same H H' → SqT K H' pb (path ++ pin r) → H' d = some (.xd [("path", .ref pb)]) → E (.ref CB) (some d) H'))
def spParX (K : PySem.W.Frag) (C CB : Addr) (z : Nat) : Sp := fun vs H Q E => ∃ (G q a b : Addr) (us : List V) (ns : List Str) (g : GD) (path : List V), vs = [.ref G, .ref q, .ref a, .ref b] ∧ IsGr C H G g ∧ (g.letters.map (·.1)).Nodup ∧ z ≤ 999 ∧ SqA K H q us ∧ us.length ≤ 1000 ∧
  SqT K H a (sts ns) ∧ ns.length + z ≤ 999 ∧ SqT K H b path ∧ path.length + z ≤ 999 ∧
  ((∃ (ds : List PyData) (ks : List GB.Tm), DpAll K H us ds ∧ ds.length = ks.length ∧ (∀ (i : Nat) (d : PyData) (k : GB.Tm), ds[i]? = some d → ks[i]? = some k → IsTm d k) ∧ (∀ (i : Nat) (k : GB.Tm), ks[i]? = some k → TmOk g.letters ns k ∧ k.size ≤ z) ∧
      ∀ l ys H', Same H H' → H' l = some (.lst ys) → DpAll K (hid [l] H') ys (ks.map GB.Tm.d) → Q (.ref l) H') ∨
   (∃ (i : Nat) (y : V) (r : List Nat), us[i]? = some y ∧ (∀ j x, j < i → us[j]? = some x → GoodV K H g.letters ns z x) ∧ BadV K H g.letters z ns y r ∧ ∀ pb d H', Same H H' → SqT K H' pb (path ++ pin (i :: r)) → H' d = some (.xd [("path", .ref pb)]) → E (.ref CB) (some d) H'))
theorem nsAt_no {w n : Str} (i : Nat) (ns : List Str) (h : w ≠ "bind") : nsAt w n i ns = ns := by
  unfold nsAt
  rw [if_neg (fun z => h z.1)]
theorem FnOk.quiet {P : Program} {w : World} {K : PySem.W.Frag} {mg : Str → Option Value} {base : Heap} {k : Nat} {f : Addr} {fd : FuncData} {ps : List Str} {sp sp' : Sp} (F : FnOk P w K mg base (L2.CX P w) k f fd ps sp)
    (h : ∀ vs H Q E, sp' vs H Q E → sp vs H Q (fun _ _ _ => False)) : FnOk P w K mg base CX0 k f fd ps sp' :=
  ⟨fun vs H Q E q => F.len vs H Q _ (h _ _ _ _ q), fun A outer s H args us vs Q E hr he hb hv hs => codeAny_mono (F.run A outer s H args us vs Q (fun _ _ _ => False) hr he hb hv (h _ _ _ _ hs)) fun r s' hR => by
    cases r with
    | ok c => cases c <;> exact hR
    | error e => obtain ⟨_, _, _, _, _, _, _, _, _, _, _, _, z⟩ := hR; exact z⟩
section
variable {P : Program} {w : World} {K : PySem.W.Frag} {mg : Str → Option Value} {base : Heap} {C CB : Addr}
theorem scChk : FnScope chkN ["ground", "thing", "names", "path"] (defScope sChk) := ⟨rfl, rfl, rfl, by decide +kernel, rfl, by decide +kernel, by decide +kernel⟩
theorem scPar : FnScope parN ["ground", "things", "names", "path"] (defScope sPar) := ⟨rfl, rfl, rfl, by decide +kernel, rfl, by decide +kernel, by decide +kernel⟩
theorem ok_par {f f2 : Addr} {fd fd2 : FuncData} (F : Fun K "_checked_parts" "_checked_parts" sPar f fd) (T : Bl mg) {z : Nat} (ihC : FnOk P w K mg base (L2.CX P w) (4 + 2 * z) f2 fd2 ["ground", "thing", "names", "path"] (spChkX K C CB z))
    (mgC : mg "checked_within" = some (.ref f2)) (kC : PySem.W.keepIn K (.ref f2) = true) (bC : Binds K fd2 ["ground", "thing", "names", "path"] []) : FnOk P w K mg base (L2.CX P w) (4 + 2 * z + 1) f fd ["ground", "things", "names", "path"] (spParX K C CB z) := by
  refine F.okX scPar (fun vs H Q E h => ?_) (fun cdv A outer s H vs Q E hr h => ?_)
  · obtain ⟨G, q, a, b, us, ns, g, path, rfl, _⟩ := h
    rfl
  · obtain ⟨G, q, a, b, us, ns, g, path, rfl, hG, nd, hz, hq, hul, ha, hna, hb, hnb, h⟩ := h
    refine ⟨_, pss_one (ps_ret (CompX.pe_lcX (own := [("place", 4), ("thing", 5)]) (g := gTup K 2 (gCons (gName 4) (gCons (gName 5) gNil))) (tt := tYes) rfl scPar.nd (pi_enumW rfl T.enum (pa_cons (pv 1) (pa_nil))) (blkOk_by (own := [("place", 4), ("thing", 5)]) (N := parN) (sc := defScope sPar) (by decide +kernel)) (fun _ _ _ _ _ => pg_tup rfl (pgs_cons (pg_name (i := 4) scPar.nd rfl (.inl rfl)) (pgs_cons (pg_name (i := 5) scPar.nd rfl (.inl rfl)) (pgs_nil)))) (fun _ _ _ _ _ => pts_nil) (fun _ _ _ _ _ pn xe hx => pe_call ihC hr rfl mgC kC bC .nil hx (pa_cons (pv 0) (pa_cons (pv 5) (pa_cons (pv 2) (pa_cons (pe_op (r := rCatA K) op_catA (pv 3) (pe_tup (pa_cons (pv 4) (pa_nil)))) (pa_nil)))))) rfl rfl (takes_of rfl rfl rfl rfl))), ?_⟩
    obtain ⟨kb, hc⟩ := sqV (hq.mono same_hid0)
    refine ⟨_, rfl, q, us, kb, [], rfl, hc, fun J WJ D nD => ?_⟩
    rcases h with ⟨ds, ks, hD, hlen, hT, hO, k⟩ | ⟨i0, y, r, hy, hgood, hbad, qe⟩
    · have hul2 : us.length = ks.length := (dps_len hD).trans hlen
      refine lc_it WJ (fun i H' => ∃ acc, Same H H' ∧ H' D = some (.lst acc) ∧ acc.length = i ∧ DpAll K (hid [D] H') acc ((ks.take i).map GB.Tm.d)) ⟨[], same_new nD, upd_same, rfl, .nil⟩ (fun i H' _ ⟨acc, s', _⟩ => hc.mono (hid_same s')) ?_ ?_
      · rintro i x H3 H3' hi ⟨acc, s3, h3, hl3, d3⟩ ⟨Tp, y1, y2, rfl, nT, rfl, e1, e2⟩
        obtain rfl := Option.some.inj e1
        obtain ⟨H4, s4, h4, e4⟩ := lay (o := .tup [.int (i : Nat), y2]) nT
        rw [e4]
        obtain ⟨dk, hdk, Dk⟩ := dps_at hD e2
        have hik : i < ks.length := by rw [← hul2]; exact hi
        have hki : ks[i]? = some ks[i] := List.getElem?_eq_getElem hik
        refine ⟨Tp, _, rfl, SqT.of h4, rfl, _, _, rfl, _, _, rfl, rfl, ?_⟩
        refine ⟨rfl, ?_⟩
        refine ⟨_, rfl, _, rfl, _, rfl, _, rfl, _, rfl, by show 1 ≤ sizeLine; decide, fun pt npt => ?_⟩
        obtain ⟨H6, s6, h6, e6⟩ := lay (o := .tup [.int (i : Nat)]) npt
        rw [e6]
        have S6 : Same H H6 := (s3.trans s4).trans s6
        refine catA (Same.seqT S6 hb) (SqT.of h6) (by rw [sizeLine_eq]; simp; omega) fun pb H7 s7 hpb => ?_
        have S7 := S6.trans s7
        obtain ⟨ok, zk⟩ := hO i _ hki
        refine ⟨G, a, pb, y2, ns, g, _, rfl, hG.mono S7, nd, by omega, Same.seqT S7 ha, by omega, hpb, by simp; omega, .inl ⟨dk, ks[i], dp_mono S7 Dk, hT i dk _ hdk hki, ok, zk, fun u H8 s8 hu => ?_⟩⟩
        have S38 : Same H3 H8 := ((s4.trans s6).trans s7).trans s8
        refine ⟨acc, S38 _ _ h3, by rw [sizeLine_eq]; omega, acc ++ [u], fun c o e => ?_, upd_same, by rw [List.length_append, hl3]; rfl, ?_⟩
        · rw [upd_ne (ne_of_none e nD)]
          exact S38 _ _ (s3 _ _ e)
        · rw [take_at hki, List.map_append]
          refine dps_mono (bt_upd (ps := [D]) (H := H8) (a := D) (by simp)) (dps_app (dps_mono (hid_same S38) d3) (.cons (dp_hid (fun q hq => ?_) _ _ (tupO_d _) hu) .nil))
          rw [List.mem_singleton.mp hq]
          exact ⟨_, S38 _ _ h3⟩
      · rintro H3 ⟨acc, s3, h3, hl3, d3⟩
        rw [List.take_of_length_le (by rw [hul2]; exact Nat.le_refl _)] at d3
        exact k D acc H3 s3 h3 d3
    · refine lc_it WJ (fun i H' => ∃ acc, Same H H' ∧ H' D = some (.lst acc) ∧ acc.length = i ∧ i ≤ i0) ⟨[], same_new nD, upd_same, rfl, Nat.zero_le _⟩ (fun i H' _ ⟨acc, s', _⟩ => hc.mono (hid_same s')) ?_ ?_
      · rintro i x H3 H3' hi ⟨acc, s3, h3, hl3, hi0⟩ ⟨Tp, y1, y2, rfl, nT, rfl, e1, e2⟩
        obtain rfl := Option.some.inj e1
        obtain ⟨H4, s4, h4, e4⟩ := lay (o := .tup [.int (i : Nat), y2]) nT
        rw [e4]
        refine ⟨Tp, _, rfl, SqT.of h4, rfl, _, _, rfl, _, _, rfl, rfl, ?_⟩
        refine ⟨rfl, ?_⟩
        refine ⟨_, rfl, _, rfl, _, rfl, _, rfl, _, rfl, by show 1 ≤ sizeLine; decide, fun pt npt => ?_⟩
        obtain ⟨H6, s6, h6, e6⟩ := lay (o := .tup [.int (i : Nat)]) npt
        rw [e6]
        have S6 : Same H H6 := (s3.trans s4).trans s6
        refine catA (Same.seqT S6 hb) (SqT.of h6) (by rw [sizeLine_eq]; simp; omega) fun pb H7 s7 hpb => ?_
        have S7 := S6.trans s7
        by_cases ci : i = i0
        · subst ci
          have e2 : us[i]? = some y2 := e2
          rw [hy] at e2
          obtain rfl := Option.some.inj e2
          refine ⟨G, a, pb, y, ns, g, _, rfl, hG.mono S7, nd, by omega, Same.seqT S7 ha, by omega, hpb, by simp; omega, .inr ⟨r, hbad.mono S7, fun pb2 d H8 s8 hpb2 hx => qe pb2 d H8 (S7.trans s8) ?_ hx⟩⟩
          rw [List.append_assoc] at hpb2
          exact hpb2
        · have hlt : i < i0 := by omega
          obtain ⟨dk, tk, Dk, Tk, Ok, zk⟩ := hgood i y2 hlt e2
          refine ⟨G, a, pb, y2, ns, g, _, rfl, hG.mono S7, nd, by omega, Same.seqT S7 ha, by omega, hpb, by simp; omega, .inl ⟨dk, tk, dp_mono S7 Dk, Tk, Ok, zk, fun u H8 s8 hu => ?_⟩⟩
          have S38 : Same H3 H8 := ((s4.trans s6).trans s7).trans s8
          refine ⟨acc, S38 _ _ h3, by rw [sizeLine_eq]; omega, acc ++ [u], fun c o e => ?_, upd_same, by rw [List.length_append, hl3]; rfl, hlt⟩
          rw [upd_ne (ne_of_none e nD)]
          exact S38 _ _ (s3 _ _ e)
      · rintro H3 ⟨acc, s3, h3, hl3, hi0⟩
        have := (List.getElem?_eq_some_iff.mp hy).1
        omega
theorem ok_chkX {f f2 : Addr} {fd fd2 : FuncData} (F : Fun K "checked_within" "checked_within" sChk f fd) (F2 : Fun K "_checked_parts" "_checked_parts" sPar f2 fd2) (T : Bl mg) (mgC : mg "checked_within" = some (.ref f)) (kC : PySem.W.keepIn K (.ref f) = true) (bC : Binds K fd ["ground", "thing", "names", "path"] [])
    (mgP : mg "_checked_parts" = some (.ref f2)) (kP : PySem.W.keepIn K (.ref f2) = true) (bP : Binds K fd2 ["ground", "things", "names", "path"] []) (NM : Nmd K mg) (TB : TBh K w mg) (BT : ErrC P w K mg base "BadTerm" "path" CB)
    (IL : Fns P w K mg base "is_list" 1 ["thing"] (spIsL K)) (INm : Fns P w K mg base "is_name" 1 ["thing"] (spIsNm K)) (IU : Fns P w K mg base "_is_use" 2 ["ground", "thing"] (spIsU K C)) :
    ∀ z : Nat, FnOk P w K mg base (L2.CX P w) (4 + 2 * z) f fd ["ground", "thing", "names", "path"] (spChkX K C CB z) := by
  obtain ⟨fI, dI, iI, tI, FI, bI⟩ := BT.ini
  obtain ⟨aN, gN, hN⟩ := NM
  obtain ⟨dT, es, nT, gT, D, hT, hno⟩ := TB
  have len8 : ∀ {z : Str}, nameB z = true → z.length ≤ sizeLine := fun {z} h => by
    unfold nameB at h
    have := (Bool.and_eq_true_iff.mp h).1
    have := of_decide_eq_true this
    rw [sizeLine_eq]; omega
  intro z
  induction z with
  | zero =>
    refine F.okX scChk (fun vs H Q E h => ?_) (fun cdv A outer s H vs Q E hr h => ?_)
    · obtain ⟨G, a, b, x, ns, g, path, rfl, _⟩ := h
      rfl
    · obtain ⟨G, a, b, x, ns, g, path, rfl, _, _, _, _, _, _, _, h⟩ := h
      rcases h with ⟨d, t, _, _, _, hz, _⟩ | ⟨r, hb, _⟩
      · exact absurd hz (by have := size_pos t; omega)
      · cases hb
  | succ z ihC =>
    have ihP := ok_par (f2 := f) (fd2 := fd) F2 T ihC mgC kC bC
    show FnOk P w K mg base (L2.CX P w) (4 + 2 * z + 1 + 1) f fd ["ground", "thing", "names", "path"] (spChkX K C CB (z + 1))
    have l1 : 1 ≤ 4 + 2 * z + 1 := by omega
    have l2 : 2 ≤ 4 + 2 * z + 1 := by omega
    have lC : 4 + 2 * z ≤ 4 + 2 * z + 1 := by omega
    have lP : 4 + 2 * z + 1 ≤ 4 + 2 * z + 1 := by omega
    refine F.okX scChk (fun vs H Q E h => ?_) (fun cdv A outer s H vs Q E hr h => ?_)
    · obtain ⟨G, a, b, x, ns, g, path, rfl, _⟩ := h
      rfl
    · obtain ⟨G, a, b, x, ns, g, path, rfl, hG, nd, hz1, ha, hna, hb, hnb, h⟩ := h
      refine ⟨_, pss_cons (ps_if (PW.pt (pw_or (pt_not (pt_val (pe_fn IL hr l1 rfl (pa_cons (pv 1) (pa_nil))))) (pw_or (pt_cmpR op_lt (pe_callB call_len_seq (by rfl) T.len PySem.boot_len (pa_cons (pv 1) (pa_nil))) (pe_int) (nomark _)) (pw_or1 (pt_not (pt_val (pe_callB call_isi (by rfl) T.isi (by decide +kernel) (pa_cons (pe_ix ix_seq (pv 1) (pe_int) (fun _ _ => rfl)) (pa_cons (pe_bltn (v := .ty "str") (by rfl) T.str (by decide +kernel) rfl) (pa_nil)))))))))) (pss_one (ps_raise rfl (takes_of rfl rfl rfl rfl) (pmk_oex BT.T iI tI FI (hr.mono (show 1 + 1 ≤ 4 + 2 * z + 1 by omega)) bI .nil pass0 rfl BT.gC (pa_cons (pv 3) (pa_nil))))) (pss_nil)) (pss_cons (ps_set (i := 4) scChk.nd rfl (.inl rfl) (pe_ix ix_seq (pv 1) (pe_int) (fun _ _ => rfl))) (pss_cons (ps_if (PW.pt (pw_and (pt_cmpR op_eq (pv 4) (pe_str) (nomark _)) (pw_and1 (pt_val (pe_fn IU hr l2 rfl (pa_cons (pv 0) (pa_cons (pv 1) (pa_nil)))))))) (pss_one (ps_ret (pe_tup (pa_cons (pe_str) (pa_cons (pe_ix ix_seq (pv 1) (pe_int) (fun _ _ => rfl)) (pa_cons (pe_callTy (call_tuple_of) (by rfl) T.tuple (by decide +kernel) (pa_cons (pe_call ihP (hr.mono lP) rfl mgP kP bP .nil (passes_call (takes_of rfl rfl rfl rfl) (fun _ _ _ _ h => h)) (pa_cons (pv 0) (pa_cons (pe_ix ix_seq (pv 1) (pe_int) (fun _ _ => rfl)) (pa_cons (pv 2) (pa_cons (pv 3) (pa_nil)))))) (pa_nil))) (pa_nil))))))) (pss_nil)) (pss_cons (ps_if (PW.pt (pw_and (pt_cmpR (op_in_kd D) (pv 4) (pe_glob (v := .ref dT) rfl gT rfl) (by rfl)) (pw_and1 (pt_cmpR op_eq (pe_callB call_len_seq (by rfl) T.len PySem.boot_len (pa_cons (pv 1) (pa_nil))) (pe_op op_add (pe_int) (pe_ix ix_kdict (pe_glob (v := .ref dT) rfl gT rfl) (pv 4) (fun _ _ => rfl))) (nomark _))))) (pss_one (ps_ret (pe_tup (pa_cons (pv 4) (StX.pa_star (pe_call ihP (hr.mono lP) rfl mgP kP bP .nil (passes_call (takes_of rfl rfl rfl rfl) (fun _ _ _ _ h => h)) (pa_cons (pv 0) (pa_cons (pe_slice sl_any (pv 1) (po_some pe_int) po_none) (pa_cons (pv 2) (pa_cons (pv 3) (pa_nil)))))) pa_nil))))) (pss_nil)) (pss_cons (ps_if (PW.pt (pw_and (pt_cmpR op_in_seq (pv 4) (pe_glob (v := .ref aN) rfl gN rfl) (by rfl)) (pw_and (pt_cmpR op_eq (pe_callB call_len_seq (by rfl) T.len PySem.boot_len (pa_cons (pv 1) (pa_nil))) (pe_int) (nomark _)) (pw_and (pt_val (pe_fn INm hr l1 rfl (pa_cons (pe_ix ix_seq (pv 1) (pe_int) (fun _ _ => rfl)) (pa_nil)))) (pw_and1 (PW.pt (pw_or (pt_cmpR op_ne (pv 4) (pe_str) (nomark _)) (pw_or1 (pt_cmpR op_in_seq (pe_ix ix_seq (pv 1) (pe_int) (fun _ _ => rfl)) (pv 2) (by rfl)))))))))) (pss_one (ps_ret (pe_tup (pa_cons (pv 4) (pa_cons (pe_ix ix_seq (pv 1) (pe_int) (fun _ _ => rfl)) (pa_nil)))))) (pss_nil)) (pss_cons (ps_if (PW.pt (pw_and (pt_cmpR op_eq (pv 4) (pe_str) (nomark _)) (pw_and (pt_cmpR op_eq (pe_callB call_len_seq (by rfl) T.len PySem.boot_len (pa_cons (pv 1) (pa_nil))) (pe_int) (nomark _)) (pw_and1 (pt_val (pe_fn INm hr l1 rfl (pa_cons (pe_ix ix_seq (pv 1) (pe_int) (fun _ _ => rfl)) (pa_nil)))))))) (pss_cons (ps_set (i := 5) scChk.nd rfl (.inl rfl) (pe_call ihC (hr.mono lC) rfl mgC kC bC .nil (passes_call (takes_of rfl rfl rfl rfl) (fun _ _ _ _ h => h)) (pa_cons (pv 0) (pa_cons (pe_ix ix_seq (pv 1) (pe_int) (fun _ _ => rfl)) (pa_cons (pv 2) (pa_cons (pe_op (r := rCatA K) op_catA (pv 3) (pe_tup (pa_cons (pe_int) (pa_nil)))) (pa_nil))))))) (pss_one (ps_ret (pe_tup (pa_cons (pe_str) (pa_cons (pe_ix ix_seq (pv 1) (pe_int) (fun _ _ => rfl)) (pa_cons (pv 5) (pa_cons (pe_call ihC (hr.mono lC) rfl mgC kC bC .nil (passes_call (takes_of rfl rfl rfl rfl) (fun _ _ _ _ h => h)) (pa_cons (pv 0) (pa_cons (pe_ix ix_seq (pv 1) (pe_int) (fun _ _ => rfl)) (pa_cons (pe_tup (StX.pa_star (pv 2) (pa_cons (pe_ix ix_seq (pv 1) (pe_int) (fun _ _ => rfl)) pa_nil))) (pa_cons (pe_op (r := rCatA K) op_catA (pv 3) (pe_tup (pa_cons (pe_int) (pa_nil)))) (pa_nil)))))) (pa_nil))))))))) (pss_nil)) (pss_one (ps_raise rfl (takes_of rfl rfl rfl rfl) (pmk_oex BT.T iI tI FI (hr.mono (show 1 + 1 ≤ 4 + 2 * z + 1 by omega)) bI .nil pass0 rfl BT.gC (pa_cons (pv 3) (pa_nil)))))))))), ?_⟩
      rcases h with ⟨d, t, hd, hT2, hO, hz, q⟩ | ⟨r, hB, qe⟩
      · cases hT2 with
        | @mk d wd n ds ks hN2 hlen hk =>
        cases hO with
        | mk hH hK =>
        obtain ⟨p, us, rfl, hV, hD⟩ := nodeV hd hN2
        have hul : us.length = ks.length := (dps_len hD).trans hlen
        have hks := len_sizes ks
        have hz' := hz
        rw [GB.Tm.size] at hz'
        rw [← hul] at hH
        rcases hV.kind with ⟨hw, rfl, hs⟩ | ⟨rfl, qq, hs, hq⟩ | ⟨rfl, hs⟩ | ⟨⟨m, ho⟩, rfl, hs⟩
        · obtain ⟨t', ht, hty⟩ := tyS hs
          refine ⟨_, rfl, .ref p, _, true, rfl, hty, kit_seq ht, fun H1 s1 => ⟨_, rfl, ?_⟩⟩
          refine iteF ?_
          refine ⟨_, rfl, p, _, rfl, hs.mono s1, _, _, rfl, rfl, _, rfl, ?_⟩
          rw [decide_eq_false (by simp only [List.length_cons, List.length_nil]; omega)]
          refine iteF ?_
          refine ⟨_, rfl, ixA (hs.mono s1) 0 rfl ⟨.str wd, .ty "str", .type "str", .type "str", true, rfl, .ty "str", .base (.str wd), kit_ty (by decide +kernel), true, rfl, ?_⟩⟩
          refine iteF ?_
          refine ⟨_, rfl, ixA (hs.mono s1) 0 rfl ?_⟩
          refine ⟨_, rfl, rfl, _, rfl, ?_⟩
          rw [decS]
          rw [decide_eq_false ((nmW _ hw).1)]
          refine iteF ?_
          refine ⟨_, rfl, wd, none, rfl, rfl, hno _ ((nmW _ hw).2.2.2), false, rfl, ?_⟩
          refine iteF ?_
          refine ⟨_, rfl, aN, sts nmd, rfl, .inr (hN _), rfl, flat_sts _, _, rfl, ?_⟩
          rw [show (if false = true then !inV (.str wd) (sts nmd) else inV (.str wd) (sts nmd)) = true from (inV_sts wd nmd).trans (decide_eq_true (hw))]
          refine iteT ?_

          refine ⟨_, rfl, p, _, rfl, hs.mono s1, rfl, _, rfl, ?_⟩
          refine iteT ?_
          obtain ⟨hn, hin⟩ := hH.nmd hw
          refine ⟨_, rfl, ixA (hs.mono s1) 1 rfl ⟨_, rfl, .inl ⟨n, rfl, len8 hn, fun H2 s2 => ⟨true, by rw [hn], ?_⟩⟩⟩⟩
          refine iteT ?_
          have S := s1.trans s2
          have e0 : nodeT wd n ds = .tuple [.str wd, .str n] := by
            unfold nodeT
            rw [if_neg (nmW _ hw).1, if_neg (nmW _ hw).2.1, if_neg (nmW _ hw).2.2.1]
          have e1 : ds = [] := by cases hD; rfl
          refine ⟨_, rfl, rfl, _, rfl, ?_⟩
          rw [decS]
          by_cases c : wd = "name"
          · rw [decide_eq_true c]
            refine iteF ?_
            refine ⟨_, rfl, ixA (hs.mono S) 1 rfl ⟨_, rfl, a, sts ns, rfl, .inr (Same.seqT S ha), rfl, flat_sts _, _, rfl, ?_⟩⟩
            rw [show (if false = true then !inV (.str n) (sts ns) else inV (.str n) (sts ns)) = true from (inV_sts n ns).trans (decide_eq_true (hin c))]
            refine iteT ?_
            refine ⟨_, rfl, _, rfl, ixA (hs.mono S) 1 rfl ⟨by show 2 ≤ sizeLine; decide, fun pt np5 => ?_⟩⟩
            obtain ⟨H5, s5, h5, e5⟩ := lay (o := .tup [.str wd, .str n]) np5
            rw [e5]
            refine q _ H5 (S.trans s5) ?_
            rw [d_node]
            have ek : ks.map GB.Tm.d = [] := by rw [List.eq_nil_of_length_eq_zero (by rw [← hul]; rfl : ks.length = 0)]; rfl
            rw [ek, ← e1, e0]
            exact .tup (SqT.of h5) (.cons (.str _) (.cons (.str _) .nil))
          · rw [decide_eq_false c]
            refine iteT ?_
            refine ⟨_, rfl, _, rfl, ixA (hs.mono S) 1 rfl ⟨by show 2 ≤ sizeLine; decide, fun pt np5 => ?_⟩⟩
            obtain ⟨H5, s5, h5, e5⟩ := lay (o := .tup [.str wd, .str n]) np5
            rw [e5]
            refine q _ H5 (S.trans s5) ?_
            rw [d_node]
            have ek : ks.map GB.Tm.d = [] := by rw [List.eq_nil_of_length_eq_zero (by rw [← hul]; rfl : ks.length = 0)]; rfl
            rw [ek, ← e1, e0]
            exact .tup (SqT.of h5) (.cons (.str _) (.cons (.str _) .nil))

        · obtain ⟨t', ht, hty⟩ := tyS hs
          have wd : Str := "use"
          refine ⟨_, rfl, .ref p, _, true, rfl, hty, kit_seq ht, fun H1 s1 => ⟨_, rfl, ?_⟩⟩
          refine iteF ?_
          refine ⟨_, rfl, p, _, rfl, hs.mono s1, _, _, rfl, rfl, _, rfl, ?_⟩
          rw [decide_eq_false (by simp only [List.length_cons, List.length_nil]; omega)]
          refine iteF ?_
          refine ⟨_, rfl, ixA (hs.mono s1) 0 rfl ⟨.str "use", .ty "str", .type "str", .type "str", true, rfl, .ty "str", .base (.str "use"), kit_ty (by decide +kernel), true, rfl, ?_⟩⟩
          refine iteF ?_
          refine ⟨_, rfl, ixA (hs.mono s1) 0 rfl ?_⟩
          refine ⟨_, rfl, rfl, _, rfl, ?_⟩
          rw [decS]

          refine iteT ?_
          refine ⟨_, rfl, _, rfl, G, p, g, rfl, hG.mono s1, nd, .inl ⟨qq, n, us, hs.mono s1, hq.mono s1, hH.toUse, fun H2 s2 => ⟨_, rfl, ?_⟩⟩⟩
          refine iteT ?_
          have S := s1.trans s2
          refine ⟨_, rfl, ixA (hs.mono S) 1 rfl ⟨_, rfl, _, rfl, ixA (hs.mono S) 2 rfl ⟨_, rfl, _, rfl, G, qq, a, b, us, ns, g, path, rfl, hG.mono S, nd, by omega, hq.mono S, by omega, Same.seqT S ha, by omega, Same.seqT S hb, by omega, .inl ⟨ds, ks, dps_mono S hD, hlen, hk, fun i k hi => ⟨by have := hK i k hi; rw [nsAt_no i ns (by decide)] at this; exact this, by have := size_at (w := "use") (n := n) hi; omega⟩, fun l ys H6 s6 h6 hy6 => ?_⟩⟩⟩⟩
          refine ⟨l, ys, rfl, .inl ⟨SqL.of h6, fun tb np7 => ?_⟩⟩
          obtain ⟨H7, s7, h7, e7⟩ := lay (o := .tup ys) np7
          rw [e7]
          refine ⟨by show 3 ≤ sizeLine; decide, fun tt np8 => ?_⟩
          obtain ⟨H8, s8, h8, e8⟩ := lay (o := .tup [.str "use", .str n, .ref tb]) np8
          rw [e8]
          refine q _ H8 (((S.trans s6).trans s7).trans s8) ?_
          rw [d_node]
          exact .tup (SqT.of h8) (.cons (.str _) (.cons (.str _) (.cons (.tup (SqT.of (s8 _ _ h7)) (dps_mono ((hid_low _ _).trans (s7.trans s8)) hy6)) .nil)))

        · obtain ⟨t', ht, hty⟩ := tyS hs
          refine ⟨_, rfl, .ref p, _, true, rfl, hty, kit_seq ht, fun H1 s1 => ⟨_, rfl, ?_⟩⟩
          refine iteF ?_
          refine ⟨_, rfl, p, _, rfl, hs.mono s1, _, _, rfl, rfl, _, rfl, ?_⟩
          rw [decide_eq_false (by simp only [List.length_cons, List.length_nil]; omega)]
          refine iteF ?_
          refine ⟨_, rfl, ixA (hs.mono s1) 0 rfl ⟨.str "bind", .ty "str", .type "str", .type "str", true, rfl, .ty "str", .base (.str "bind"), kit_ty (by decide +kernel), true, rfl, ?_⟩⟩
          refine iteF ?_
          refine ⟨_, rfl, ixA (hs.mono s1) 0 rfl ?_⟩
          refine ⟨_, rfl, rfl, _, rfl, ?_⟩
          rw [decS]
          rw [decide_eq_false (by decide)]
          refine iteF ?_
          refine ⟨_, rfl, "bind", none, rfl, rfl, hno _ (by decide), false, rfl, ?_⟩
          refine iteF ?_
          refine ⟨_, rfl, aN, sts nmd, rfl, .inr (hN _), rfl, flat_sts _, _, rfl, ?_⟩
          rw [show (if false = true then !inV (.str "bind") (sts nmd) else inV (.str "bind") (sts nmd)) = false from (inV_sts "bind" nmd).trans (decide_eq_false (by decide))]
          refine iteF ?_

          obtain ⟨hn, h2⟩ := hH.toBind
          obtain ⟨u0, u1, rfl⟩ : ∃ u0 u1, us = [u0, u1] := by
            match us, h2 with
            | [u0, u1], _ => exact ⟨u0, u1, rfl⟩
          obtain ⟨k0, k1, rfl⟩ : ∃ k0 k1, ks = [k0, k1] := by
            match ks, hul with
            | [k0, k1], _ => exact ⟨k0, k1, rfl⟩
          obtain ⟨d0, d1, rfl⟩ : ∃ d0 d1, ds = [d0, d1] := by
            match ds, hlen with
            | [d0, d1], _ => exact ⟨d0, d1, rfl⟩
          have hD0 : Dp K H u0 d0 := by cases hD with | cons h _ => exact h
          have hD1 : Dp K H u1 d1 := by cases hD with | cons _ h => cases h with | cons h _ => exact h
          refine ⟨_, rfl, rfl, _, rfl, ?_⟩
          refine iteT ?_
          refine ⟨_, rfl, p, _, rfl, hs.mono s1, rfl, _, rfl, ?_⟩
          refine iteT ?_
          refine ⟨_, rfl, ixA (hs.mono s1) 1 rfl ⟨_, rfl, .inl ⟨n, rfl, len8 hn, fun H2 s2 => ⟨true, by rw [hn], ?_⟩⟩⟩⟩
          refine iteT ?_
          have S := s1.trans s2
          have z0 := size_at (w := "bind") (n := n) (ks := [k0, k1]) (i := 0) rfl
          have z1 := size_at (w := "bind") (n := n) (ks := [k0, k1]) (i := 1) rfl
          refine ⟨_, rfl, _, rfl, ixA (hs.mono S) 2 rfl ⟨_, rfl, _, rfl, by show 1 ≤ sizeLine; decide, fun pt np3 => ?_⟩⟩
          obtain ⟨H3, s3, h3, e3⟩ := lay (o := .tup [.int 0]) np3
          rw [e3]
          refine catA (Same.seqT (S.trans s3) hb) (SqT.of h3) (by rw [sizeLine_eq]; simp; omega) fun pb0 H4 s4 hpb0 => ?_
          have S4 := (S.trans s3).trans s4
          refine ⟨G, a, pb0, u0, ns, g, _, rfl, hG.mono S4, nd, by omega, Same.seqT S4 ha, by omega, hpb0, by simp; omega, .inl ⟨d0, k0, dp_mono S4 hD0, hk 0 _ _ rfl rfl, hK 0 _ rfl, by omega, fun v0 H5 s5 hv0 => ?_⟩⟩
          have S5 := S4.trans s5
          refine ⟨_, rfl, ixA (hs.mono S5) 1 rfl ⟨_, rfl, _, rfl, _, rfl, ixA (hs.mono S5) 3 rfl ⟨_, rfl, a, sts ns, rfl, .inl (Same.seqT S5 ha), _, rfl, ixA (hs.mono S5) 1 rfl ⟨by rw [sizeLine_eq]; simp [sts]; omega, fun nb np6 => ?_⟩⟩⟩⟩
          obtain ⟨H6, s6, h6, e6⟩ := lay (o := .tup (sts ns ++ [.str n])) np6
          rw [e6]

          refine ⟨_, rfl, by show 1 ≤ sizeLine; decide, fun pt np7 => ?_⟩
          obtain ⟨H7, s7, h7, e7⟩ := lay (o := .tup [.int 1]) np7
          rw [e7]
          refine catA (Same.seqT ((S5.trans s6).trans s7) hb) (SqT.of h7) (by rw [sizeLine_eq]; simp; omega) fun pb1 H8 s8 hpb1 => ?_
          have S8 := ((S5.trans s6).trans s7).trans s8
          refine ⟨G, nb, pb1, u1, nsAt "bind" n 1 ns, g, _, rfl, hG.mono S8, nd, by omega, by rw [show sts (nsAt "bind" n 1 ns) = sts ns ++ [.str n] from by simp [nsAt, sts]]; exact SqT.of (s8 _ _ (s7 _ _ h6)), by simp [nsAt]; omega, hpb1, by simp; omega, .inl ⟨d1, k1, dp_mono S8 hD1, hk 1 _ _ rfl rfl, hK 1 _ rfl, by omega, fun v1 H9 s9 hv1 => ?_⟩⟩
          refine ⟨by show 4 ≤ sizeLine; decide, fun tt np10 => ?_⟩
          obtain ⟨H10, s10, h10, e10⟩ := lay (o := .tup [.str "bind", .str n, v0, v1]) np10
          rw [e10]
          refine q _ H10 ((S8.trans s9).trans s10) ?_
          rw [d_node]
          have SS := (((s6.trans s7).trans s8).trans s9).trans s10
          exact .tup (SqT.of h10) (.cons (.str _) (.cons (.str _) (.cons (dp_mono SS hv0) (.cons (dp_mono s10 hv1) .nil))))

        · obtain ⟨t', ht, hty⟩ := tyS hs
          have hm := hH.toOp ⟨m, ho⟩
          obtain ⟨hk2, u, hu⟩ := hT _ hm
          have n3 := ops_no _ ho
          have h1 : 1 ≤ us.length := by
            have := (show ∀ q ∈ opsW, 1 ≤ q.2 by decide) _ hm
            exact this
          refine ⟨_, rfl, .ref p, _, true, rfl, hty, kit_seq ht, fun H1 s1 => ⟨_, rfl, ?_⟩⟩
          refine iteF ?_
          refine ⟨_, rfl, p, _, rfl, hs.mono s1, _, _, rfl, rfl, _, rfl, ?_⟩
          rw [decide_eq_false (by simp only [List.length_cons, List.length_nil]; omega)]
          refine iteF ?_
          refine ⟨_, rfl, ixA (hs.mono s1) 0 rfl ⟨.str wd, .ty "str", .type "str", .type "str", true, rfl, .ty "str", .base (.str wd), kit_ty (by decide +kernel), true, rfl, ?_⟩⟩
          refine iteF ?_
          refine ⟨_, rfl, ixA (hs.mono s1) 0 rfl ?_⟩
          refine ⟨_, rfl, rfl, _, rfl, ?_⟩
          rw [decS]
          rw [decide_eq_false (n3.2.1)]
          refine iteF ?_

          refine ⟨_, rfl, wd, some u, rfl, rfl, hu, true, rfl, ?_⟩
          refine iteT ?_
          refine ⟨_, rfl, p, _, rfl, hs.mono s1, ⟨_, rfl, dT, wd, _, rfl, rfl, hk2, _, _, rfl, rfl, rfl, _, rfl, ?_⟩⟩
          rw [decI, decide_eq_true (by rw [List.length_cons]; omega)]
          refine iteT ?_
          refine ⟨_, rfl, _, rfl, _, rfl, _, rfl, ?_⟩
          refine slA (hs.mono s1) 1 fun qq H2 s2 hq => ?_
          have hq : SqA K H2 qq us := hq
          have S := s1.trans s2
          refine ⟨_, rfl, _, rfl, G, qq, a, b, us, ns, g, path, rfl, hG.mono S, nd, by omega, hq, by omega, Same.seqT S ha, by omega, Same.seqT S hb, by omega, .inl ⟨ds, ks, dps_mono S hD, hlen, hk, fun i k hi => ⟨by have := hK i k hi; rw [nsAt_no i ns n3.2.2] at this; exact this, by have := size_at (w := wd) (n := "") hi; omega⟩, fun l ys H6 s6 h6 hy6 => ?_⟩⟩
          refine ⟨l, ys, rfl, .inr (SqL.of h6), ?_⟩
          have hyl : ys.length = ks.length := by have := dps_len hy6; rw [List.length_map] at this; exact this
          refine ⟨by rw [sizeLine_eq]; simp; omega, fun tt np8 => ?_⟩
          obtain ⟨H8, s8, h8, e8⟩ := lay (o := .tup (.str wd :: ys)) np8
          rw [List.append_nil, e8]
          refine q _ H8 ((S.trans s6).trans s8) ?_
          have e : nodeT wd "" (ks.map GB.Tm.d) = .tuple (.str wd :: ks.map GB.Tm.d) := by
            unfold nodeT
            rw [if_neg n3.2.1, if_neg n3.2.2, if_pos (List.mem_map.mpr ⟨_, ho, rfl⟩)]
          rw [d_node, e]
          exact .tup (SqT.of h8) (.cons (.str _) (dps_mono ((hid_low _ _).trans s8) hy6))
      · cases hB with
        | odd hOd =>
          rcases hOd.cases4 with ⟨t, hty, hk⟩ | ⟨p, xs, rfl, hs, hl⟩ | ⟨p, y, r, t, rfl, hs, hyt, hk⟩ | ⟨p, wd, r, rfl, O⟩
          · refine ⟨_, rfl, x, _, false, rfl, hty, hk, fun H1 s1 => ⟨_, rfl, ?_⟩⟩
            refine iteT ?_
            exact ⟨_, rfl, by show 1 ≤ 1000; decide, fun e ne => mk_err (fun d H' s' h' => qe b d H' (s1.trans s') (by rw [show pin [] = [] from rfl, List.append_nil]; exact Same.seqT (s1.trans s') hb) h') e ne⟩
          · obtain ⟨t', ht, hty⟩ := tyS hs
            refine ⟨_, rfl, .ref p, _, true, rfl, hty, kit_seq ht, fun H1 s1 => ⟨_, rfl, ?_⟩⟩
            refine iteF ?_
            refine ⟨_, rfl, p, _, rfl, hs.mono s1, _, _, rfl, rfl, _, rfl, ?_⟩
            rw [decide_eq_true (by omega)]
            refine iteT ?_
            exact ⟨_, rfl, by show 1 ≤ 1000; decide, fun e ne => mk_err (fun d H' s' h' => qe b d H' (s1.trans s') (by rw [show pin [] = [] from rfl, List.append_nil]; exact Same.seqT (s1.trans s') hb) h') e ne⟩
          · obtain ⟨t', ht, hty⟩ := tyS hs
            refine ⟨_, rfl, .ref p, _, true, rfl, hty, kit_seq ht, fun H1 s1 => ⟨_, rfl, ?_⟩⟩
            refine iteF ?_
            refine ⟨_, rfl, p, _, rfl, hs.mono s1, _, _, rfl, rfl, _, rfl, ?_⟩
            refine ite2 (fun _ => ?_) (fun _ => ?_)
            · exact ⟨_, rfl, by show 1 ≤ 1000; decide, fun e ne => mk_err (fun d H' s' h' => qe b d H' (s1.trans s') (by rw [show pin [] = [] from rfl, List.append_nil]; exact Same.seqT (s1.trans s') hb) h') e ne⟩
            · refine ⟨_, rfl, ixA (hs.mono s1) 0 rfl ⟨y, .ty "str", t, .type "str", false, rfl, .ty "str", hyt _ s1, hk, false, rfl, ?_⟩⟩
              refine iteT ?_
              exact ⟨_, rfl, by show 1 ≤ 1000; decide, fun e ne => mk_err (fun d H' s' h' => qe b d H' (s1.trans s') (by rw [show pin [] = [] from rfl, List.append_nil]; exact Same.seqT (s1.trans s') hb) h') e ne⟩
          · have hs := O.sq
            obtain ⟨t', ht, hty⟩ := tyS hs
            have r1 : 1 ≤ r.length := List.length_pos_iff.mpr O.ne
            by_cases cU : wd = "use"
            · subst cU
              refine ⟨_, rfl, .ref p, _, true, rfl, hty, kit_seq ht, fun H1 s1 => ⟨_, rfl, ?_⟩⟩
              refine iteF ?_
              refine ⟨_, rfl, p, _, rfl, hs.mono s1, _, _, rfl, rfl, _, rfl, ?_⟩
              rw [decide_eq_false (by simp only [List.length_cons, List.length_nil]; omega)]
              refine iteF ?_
              refine ⟨_, rfl, ixA (hs.mono s1) 0 rfl ⟨.str "use", .ty "str", .type "str", .type "str", true, rfl, .ty "str", .base (.str "use"), kit_ty (by decide +kernel), true, rfl, ?_⟩⟩
              refine iteF ?_
              refine ⟨_, rfl, ixA (hs.mono s1) 0 rfl ?_⟩
              refine ⟨_, rfl, rfl, _, rfl, ?_⟩
              rw [decS]

              refine iteT ?_
              refine ⟨_, rfl, _, rfl, G, p, g, rfl, hG.mono s1, nd, .inr ⟨(O.use rfl).mono s1, fun H2 s2 => ⟨_, rfl, ?_⟩⟩⟩
              refine iteF ?_
              have S := s1.trans s2
              refine ⟨_, rfl, "use", none, rfl, rfl, hno _ (by decide), false, rfl, ?_⟩
              refine iteF ?_
              refine ⟨_, rfl, aN, sts nmd, rfl, .inr (hN _), rfl, flat_sts _, _, rfl, ?_⟩
              rw [show (if false = true then !inV (.str "use") (sts nmd) else inV (.str "use") (sts nmd)) = false from (inV_sts "use" nmd).trans (decide_eq_false (by decide))]
              refine iteF ?_
              refine ⟨_, rfl, rfl, _, rfl, ?_⟩
              rw [decS]
              rw [decide_eq_false (by decide)]
              refine iteF ?_
              exact ⟨_, rfl, by show 1 ≤ 1000; decide, fun e ne => mk_err (fun d H' s' h' => qe b d H' (S.trans s') (by rw [show pin [] = [] from rfl, List.append_nil]; exact Same.seqT (S.trans s') hb) h') e ne⟩

            by_cases cB : wd = "bind"
            · subst cB
              obtain ⟨y, a1, a2, rfl, hn⟩ := O.bind rfl
              refine ⟨_, rfl, .ref p, _, true, rfl, hty, kit_seq ht, fun H1 s1 => ⟨_, rfl, ?_⟩⟩
              refine iteF ?_
              refine ⟨_, rfl, p, _, rfl, hs.mono s1, _, _, rfl, rfl, _, rfl, ?_⟩
              rw [decide_eq_false (by simp only [List.length_cons, List.length_nil]; omega)]
              refine iteF ?_
              refine ⟨_, rfl, ixA (hs.mono s1) 0 rfl ⟨.str "bind", .ty "str", .type "str", .type "str", true, rfl, .ty "str", .base (.str "bind"), kit_ty (by decide +kernel), true, rfl, ?_⟩⟩
              refine iteF ?_
              refine ⟨_, rfl, ixA (hs.mono s1) 0 rfl ?_⟩
              refine ⟨_, rfl, rfl, _, rfl, ?_⟩
              rw [decS]
              rw [decide_eq_false (by decide)]
              refine iteF ?_
              refine ⟨_, rfl, "bind", none, rfl, rfl, hno _ (by decide), false, rfl, ?_⟩
              refine iteF ?_
              refine ⟨_, rfl, aN, sts nmd, rfl, .inr (hN _), rfl, flat_sts _, _, rfl, ?_⟩
              rw [show (if false = true then !inV (.str "bind") (sts nmd) else inV (.str "bind") (sts nmd)) = false from (inV_sts "bind" nmd).trans (decide_eq_false (by decide))]
              refine iteF ?_

              refine ⟨_, rfl, rfl, _, rfl, ?_⟩
              refine iteT ?_
              refine ⟨_, rfl, p, _, rfl, hs.mono s1, rfl, _, rfl, ?_⟩
              refine iteT ?_
              refine ⟨_, rfl, ixA (hs.mono s1) 1 rfl ⟨_, rfl, ?_⟩⟩
              cases hn.mono s1 with
              | @str z hz hl =>
                refine .inl ⟨z, rfl, hl, fun H2 s2 => ⟨false, by rw [hz], ?_⟩⟩
                refine iteF ?_
                have S := s1.trans s2
                exact ⟨_, rfl, by show 1 ≤ 1000; decide, fun e ne => mk_err (fun d H' s' h' => qe b d H' (S.trans s') (by rw [show pin [] = [] from rfl, List.append_nil]; exact Same.seqT (S.trans s') hb) h') e ne⟩
              | oth h5 h6 =>
                refine .inr ⟨_, h5 _ (Same.refl _), h6, ⟨false, rfl, ?_⟩⟩
                refine iteF ?_
                exact ⟨_, rfl, by show 1 ≤ 1000; decide, fun e ne => mk_err (fun d H' s' h' => qe b d H' (s1.trans s') (by rw [show pin [] = [] from rfl, List.append_nil]; exact Same.seqT (s1.trans s') hb) h') e ne⟩

            by_cases cN : wd ∈ nmd
            · rcases O.nam cN with hl | ⟨y, rfl, hn⟩
              · refine ⟨_, rfl, .ref p, _, true, rfl, hty, kit_seq ht, fun H1 s1 => ⟨_, rfl, ?_⟩⟩
                refine iteF ?_
                refine ⟨_, rfl, p, _, rfl, hs.mono s1, _, _, rfl, rfl, _, rfl, ?_⟩
                rw [decide_eq_false (by simp only [List.length_cons, List.length_nil]; omega)]
                refine iteF ?_
                refine ⟨_, rfl, ixA (hs.mono s1) 0 rfl ⟨.str wd, .ty "str", .type "str", .type "str", true, rfl, .ty "str", .base (.str wd), kit_ty (by decide +kernel), true, rfl, ?_⟩⟩
                refine iteF ?_
                refine ⟨_, rfl, ixA (hs.mono s1) 0 rfl ?_⟩
                refine ⟨_, rfl, rfl, _, rfl, ?_⟩
                rw [decS]
                rw [decide_eq_false (cU)]
                refine iteF ?_
                refine ⟨_, rfl, wd, none, rfl, rfl, hno _ ((nmW _ cN).2.2.2), false, rfl, ?_⟩
                refine iteF ?_
                refine ⟨_, rfl, aN, sts nmd, rfl, .inr (hN _), rfl, flat_sts _, _, rfl, ?_⟩
                rw [show (if false = true then !inV (.str wd) (sts nmd) else inV (.str wd) (sts nmd)) = true from (inV_sts wd nmd).trans (decide_eq_true (cN))]
                refine iteT ?_

                refine ⟨_, rfl, p, _, rfl, hs.mono s1, rfl, false, by rw [decI, decide_eq_false (by rw [List.length_cons]; omega)], ?_⟩
                refine iteF ?_
                refine ⟨_, rfl, rfl, _, rfl, ?_⟩
                rw [decS]
                rw [decide_eq_false (cB)]
                refine iteF ?_
                exact ⟨_, rfl, by show 1 ≤ 1000; decide, fun e ne => mk_err (fun d H' s' h' => qe b d H' (s1.trans s') (by rw [show pin [] = [] from rfl, List.append_nil]; exact Same.seqT (s1.trans s') hb) h') e ne⟩
              · refine ⟨_, rfl, .ref p, _, true, rfl, hty, kit_seq ht, fun H1 s1 => ⟨_, rfl, ?_⟩⟩
                refine iteF ?_
                refine ⟨_, rfl, p, _, rfl, hs.mono s1, _, _, rfl, rfl, _, rfl, ?_⟩
                rw [decide_eq_false (by simp only [List.length_cons, List.length_nil]; omega)]
                refine iteF ?_
                refine ⟨_, rfl, ixA (hs.mono s1) 0 rfl ⟨.str wd, .ty "str", .type "str", .type "str", true, rfl, .ty "str", .base (.str wd), kit_ty (by decide +kernel), true, rfl, ?_⟩⟩
                refine iteF ?_
                refine ⟨_, rfl, ixA (hs.mono s1) 0 rfl ?_⟩
                refine ⟨_, rfl, rfl, _, rfl, ?_⟩
                rw [decS]
                rw [decide_eq_false (cU)]
                refine iteF ?_
                refine ⟨_, rfl, wd, none, rfl, rfl, hno _ ((nmW _ cN).2.2.2), false, rfl, ?_⟩
                refine iteF ?_
                refine ⟨_, rfl, aN, sts nmd, rfl, .inr (hN _), rfl, flat_sts _, _, rfl, ?_⟩
                rw [show (if false = true then !inV (.str wd) (sts nmd) else inV (.str wd) (sts nmd)) = true from (inV_sts wd nmd).trans (decide_eq_true (cN))]
                refine iteT ?_

                refine ⟨_, rfl, p, _, rfl, hs.mono s1, rfl, true, rfl, ?_⟩
                refine iteT ?_
                refine ⟨_, rfl, ixA (hs.mono s1) 1 rfl ⟨_, rfl, ?_⟩⟩
                rcases hn with hn | ⟨rfl, n, rfl, hn, hni⟩
                · cases hn.mono s1 with
                  | @str z hz hl =>
                    refine .inl ⟨z, rfl, hl, fun H2 s2 => ⟨false, by rw [hz], ?_⟩⟩
                    refine iteF ?_
                    have S := s1.trans s2
                    refine ⟨_, rfl, rfl, _, rfl, ?_⟩
                    rw [decS]
                    rw [decide_eq_false (cB)]
                    refine iteF ?_
                    exact ⟨_, rfl, by show 1 ≤ 1000; decide, fun e ne => mk_err (fun d H' s' h' => qe b d H' (S.trans s') (by rw [show pin [] = [] from rfl, List.append_nil]; exact Same.seqT (S.trans s') hb) h') e ne⟩
                  | oth h5 h6 =>
                    refine .inr ⟨_, h5 _ (Same.refl _), h6, ⟨false, rfl, ?_⟩⟩
                    refine iteF ?_
                    refine ⟨_, rfl, rfl, _, rfl, ?_⟩
                    rw [decS]
                    rw [decide_eq_false (cB)]
                    refine iteF ?_
                    exact ⟨_, rfl, by show 1 ≤ 1000; decide, fun e ne => mk_err (fun d H' s' h' => qe b d H' (s1.trans s') (by rw [show pin [] = [] from rfl, List.append_nil]; exact Same.seqT (s1.trans s') hb) h') e ne⟩
                · refine .inl ⟨n, rfl, len8 hn, fun H2 s2 => ⟨true, by rw [hn], ?_⟩⟩
                  refine iteT ?_
                  have S := s1.trans s2
                  refine ⟨_, rfl, rfl, _, rfl, ?_⟩
                  rw [decS, decide_eq_true rfl]
                  refine iteF ?_
                  refine ⟨_, rfl, ixA (hs.mono S) 1 rfl ⟨_, rfl, a, sts ns, rfl, .inr (Same.seqT S ha), rfl, flat_sts _, _, rfl, ?_⟩⟩
                  rw [show (if false = true then !inV (.str n) (sts ns) else inV (.str n) (sts ns)) = false from (inV_sts n ns).trans (decide_eq_false hni)]
                  refine iteF ?_
                  refine ⟨_, rfl, rfl, _, rfl, ?_⟩
                  rw [decS]
                  rw [decide_eq_false (by decide)]
                  refine iteF ?_
                  exact ⟨_, rfl, by show 1 ≤ 1000; decide, fun e ne => mk_err (fun d H' s' h' => qe b d H' (S.trans s') (by rw [show pin [] = [] from rfl, List.append_nil]; exact Same.seqT (S.trans s') hb) h') e ne⟩
            rcases O.known with ⟨m, ho⟩ | hk
            · obtain ⟨hk2, u, hu⟩ := hT _ ho
              have hl := O.ops m ho
              refine ⟨_, rfl, .ref p, _, true, rfl, hty, kit_seq ht, fun H1 s1 => ⟨_, rfl, ?_⟩⟩
              refine iteF ?_
              refine ⟨_, rfl, p, _, rfl, hs.mono s1, _, _, rfl, rfl, _, rfl, ?_⟩
              rw [decide_eq_false (by simp only [List.length_cons, List.length_nil]; omega)]
              refine iteF ?_
              refine ⟨_, rfl, ixA (hs.mono s1) 0 rfl ⟨.str wd, .ty "str", .type "str", .type "str", true, rfl, .ty "str", .base (.str wd), kit_ty (by decide +kernel), true, rfl, ?_⟩⟩
              refine iteF ?_
              refine ⟨_, rfl, ixA (hs.mono s1) 0 rfl ?_⟩
              refine ⟨_, rfl, rfl, _, rfl, ?_⟩
              rw [decS]
              rw [decide_eq_false (cU)]
              refine iteF ?_

              refine ⟨_, rfl, wd, some u, rfl, rfl, hu, true, rfl, ?_⟩
              refine iteT ?_
              refine ⟨_, rfl, p, _, rfl, hs.mono s1, ⟨_, rfl, dT, wd, _, rfl, rfl, hk2, _, _, rfl, rfl, rfl, _, rfl, ?_⟩⟩
              rw [decI, decide_eq_false (by rw [List.length_cons]; omega)]
              refine iteF ?_
              refine ⟨_, rfl, aN, sts nmd, rfl, .inr (hN _), rfl, flat_sts _, _, rfl, ?_⟩
              rw [show (if false = true then !inV (.str wd) (sts nmd) else inV (.str wd) (sts nmd)) = false from (inV_sts wd nmd).trans (decide_eq_false (cN))]
              refine iteF ?_
              refine ⟨_, rfl, rfl, _, rfl, ?_⟩
              rw [decS]
              rw [decide_eq_false (cB)]
              refine iteF ?_
              exact ⟨_, rfl, by show 1 ≤ 1000; decide, fun e ne => mk_err (fun d H' s' h' => qe b d H' (s1.trans s') (by rw [show pin [] = [] from rfl, List.append_nil]; exact Same.seqT (s1.trans s') hb) h') e ne⟩

            · refine ⟨_, rfl, .ref p, _, true, rfl, hty, kit_seq ht, fun H1 s1 => ⟨_, rfl, ?_⟩⟩
              refine iteF ?_
              refine ⟨_, rfl, p, _, rfl, hs.mono s1, _, _, rfl, rfl, _, rfl, ?_⟩
              rw [decide_eq_false (by simp only [List.length_cons, List.length_nil]; omega)]
              refine iteF ?_
              refine ⟨_, rfl, ixA (hs.mono s1) 0 rfl ⟨.str wd, .ty "str", .type "str", .type "str", true, rfl, .ty "str", .base (.str wd), kit_ty (by decide +kernel), true, rfl, ?_⟩⟩
              refine iteF ?_
              refine ⟨_, rfl, ixA (hs.mono s1) 0 rfl ?_⟩
              refine ⟨_, rfl, rfl, _, rfl, ?_⟩
              rw [decS]
              rw [decide_eq_false (cU)]
              refine iteF ?_
              refine ⟨_, rfl, wd, none, rfl, rfl, hno _ (hk), false, rfl, ?_⟩
              refine iteF ?_
              refine ⟨_, rfl, aN, sts nmd, rfl, .inr (hN _), rfl, flat_sts _, _, rfl, ?_⟩
              rw [show (if false = true then !inV (.str wd) (sts nmd) else inV (.str wd) (sts nmd)) = false from (inV_sts wd nmd).trans (decide_eq_false (cN))]
              refine iteF ?_
              refine ⟨_, rfl, rfl, _, rfl, ?_⟩
              rw [decS]
              rw [decide_eq_false (cB)]
              refine iteF ?_
              exact ⟨_, rfl, by show 1 ≤ 1000; decide, fun e ne => mk_err (fun d H' s' h' => qe b d H' (s1.trans s') (by rw [show pin [] = [] from rfl, List.append_nil]; exact Same.seqT (s1.trans s') hb) h') e ne⟩
        | @within _ _ p wd n us i0 y r hV hH hy hgood hbad hul =>
          rcases hV.kind with ⟨hw, rfl, hs⟩ | ⟨rfl, qq, hs, hq⟩ | ⟨rfl, hs⟩ | ⟨⟨m, ho⟩, rfl, hs⟩
          · cases hy
          · obtain ⟨t', ht, hty⟩ := tyS hs
            refine ⟨_, rfl, .ref p, _, true, rfl, hty, kit_seq ht, fun H1 s1 => ⟨_, rfl, ?_⟩⟩
            refine iteF ?_
            refine ⟨_, rfl, p, _, rfl, hs.mono s1, _, _, rfl, rfl, _, rfl, ?_⟩
            rw [decide_eq_false (by simp only [List.length_cons, List.length_nil]; omega)]
            refine iteF ?_
            refine ⟨_, rfl, ixA (hs.mono s1) 0 rfl ⟨.str "use", .ty "str", .type "str", .type "str", true, rfl, .ty "str", .base (.str "use"), kit_ty (by decide +kernel), true, rfl, ?_⟩⟩
            refine iteF ?_
            refine ⟨_, rfl, ixA (hs.mono s1) 0 rfl ?_⟩
            refine ⟨_, rfl, rfl, _, rfl, ?_⟩
            rw [decS]

            refine iteT ?_
            refine ⟨_, rfl, _, rfl, G, p, g, rfl, hG.mono s1, nd, .inl ⟨qq, n, us, hs.mono s1, hq.mono s1, hH.toUse, fun H2 s2 => ⟨_, rfl, ?_⟩⟩⟩
            refine iteT ?_
            have S := s1.trans s2
            refine ⟨_, rfl, ixA (hs.mono S) 1 rfl ⟨_, rfl, _, rfl, ixA (hs.mono S) 2 rfl ⟨_, rfl, _, rfl, G, qq, a, b, us, ns, g, path, rfl, hG.mono S, nd, by omega, hq.mono S, hul, Same.seqT S ha, by omega, Same.seqT S hb, by omega, .inr ⟨i0, y, r, hy, fun j x hj hx => (by have := hgood j x hj hx; rw [nsAt_no j ns (by decide)] at this; exact this.mono S), (by have := hbad; rw [nsAt_no i0 ns (by decide)] at this; exact this.mono S), fun pb d H' s' hp hx => qe pb d H' (S.trans s') hp hx⟩⟩⟩⟩

          · obtain ⟨t', ht, hty⟩ := tyS hs
            refine ⟨_, rfl, .ref p, _, true, rfl, hty, kit_seq ht, fun H1 s1 => ⟨_, rfl, ?_⟩⟩
            refine iteF ?_
            refine ⟨_, rfl, p, _, rfl, hs.mono s1, _, _, rfl, rfl, _, rfl, ?_⟩
            rw [decide_eq_false (by simp only [List.length_cons, List.length_nil]; omega)]
            refine iteF ?_
            refine ⟨_, rfl, ixA (hs.mono s1) 0 rfl ⟨.str "bind", .ty "str", .type "str", .type "str", true, rfl, .ty "str", .base (.str "bind"), kit_ty (by decide +kernel), true, rfl, ?_⟩⟩
            refine iteF ?_
            refine ⟨_, rfl, ixA (hs.mono s1) 0 rfl ?_⟩
            refine ⟨_, rfl, rfl, _, rfl, ?_⟩
            rw [decS]
            rw [decide_eq_false (by decide)]
            refine iteF ?_
            refine ⟨_, rfl, "bind", none, rfl, rfl, hno _ (by decide), false, rfl, ?_⟩
            refine iteF ?_
            refine ⟨_, rfl, aN, sts nmd, rfl, .inr (hN _), rfl, flat_sts _, _, rfl, ?_⟩
            rw [show (if false = true then !inV (.str "bind") (sts nmd) else inV (.str "bind") (sts nmd)) = false from (inV_sts "bind" nmd).trans (decide_eq_false (by decide))]
            refine iteF ?_

            obtain ⟨hn, h2⟩ := hH.toBind
            obtain ⟨u0, u1, rfl⟩ : ∃ u0 u1, us = [u0, u1] := by
              match us, h2 with
              | [u0, u1], _ => exact ⟨u0, u1, rfl⟩
            refine ⟨_, rfl, rfl, _, rfl, ?_⟩
            refine iteT ?_
            refine ⟨_, rfl, p, _, rfl, hs.mono s1, rfl, _, rfl, ?_⟩
            refine iteT ?_
            refine ⟨_, rfl, ixA (hs.mono s1) 1 rfl ⟨_, rfl, .inl ⟨n, rfl, len8 hn, fun H2 s2 => ⟨true, by rw [hn], ?_⟩⟩⟩⟩
            refine iteT ?_
            have S := s1.trans s2
            refine ⟨_, rfl, _, rfl, ixA (hs.mono S) 2 rfl ⟨_, rfl, _, rfl, by show 1 ≤ sizeLine; decide, fun pt np3 => ?_⟩⟩
            obtain ⟨H3, s3, h3, e3⟩ := lay (o := .tup [.int 0]) np3
            rw [e3]
            refine catA (Same.seqT (S.trans s3) hb) (SqT.of h3) (by rw [sizeLine_eq]; simp; omega) fun pb0 H4 s4 hpb0 => ?_
            have S4 := (S.trans s3).trans s4
            match i0, hy, hgood, hbad, qe with
            | 0, hy, hgood, hbad, qe =>
              obtain rfl := Option.some.inj hy
              refine ⟨G, a, pb0, u0, ns, g, _, rfl, hG.mono S4, nd, by omega, Same.seqT S4 ha, by omega, hpb0, by simp; omega, .inr ⟨r, hbad.mono S4, fun pb2 d H8 s8 hpb2 hx => qe pb2 d H8 (S4.trans s8) ?_ hx⟩⟩
              rw [List.append_assoc] at hpb2
              exact hpb2
            | 1, hy, hgood, hbad, qe =>
              obtain rfl := Option.some.inj hy
              obtain ⟨d0, k0, D0, T0, O0, z0⟩ := hgood 0 u0 (by omega) rfl
              refine ⟨G, a, pb0, u0, ns, g, _, rfl, hG.mono S4, nd, by omega, Same.seqT S4 ha, by omega, hpb0, by simp; omega, .inl ⟨d0, k0, dp_mono S4 D0, T0, O0, z0, fun v0 H5 s5 hv0 => ?_⟩⟩
              have S5 := S4.trans s5
              refine ⟨_, rfl, ixA (hs.mono S5) 1 rfl ⟨_, rfl, _, rfl, _, rfl, ixA (hs.mono S5) 3 rfl ⟨_, rfl, a, sts ns, rfl, .inl (Same.seqT S5 ha), _, rfl, ixA (hs.mono S5) 1 rfl ⟨by rw [sizeLine_eq]; simp [sts]; omega, fun nb np6 => ?_⟩⟩⟩⟩
              obtain ⟨H6, s6, h6, e6⟩ := lay (o := .tup (sts ns ++ [.str n])) np6
              rw [e6]
              refine ⟨_, rfl, by show 1 ≤ sizeLine; decide, fun pt np7 => ?_⟩
              obtain ⟨H7, s7, h7, e7⟩ := lay (o := .tup [.int 1]) np7
              rw [e7]
              refine catA (Same.seqT ((S5.trans s6).trans s7) hb) (SqT.of h7) (by rw [sizeLine_eq]; simp; omega) fun pb1 H8 s8 hpb1 => ?_
              have S8 := ((S5.trans s6).trans s7).trans s8
              refine ⟨G, nb, pb1, u1, nsAt "bind" n 1 ns, g, _, rfl, hG.mono S8, nd, by omega, by rw [show sts (nsAt "bind" n 1 ns) = sts ns ++ [.str n] from by simp [nsAt, sts]]; exact SqT.of (s8 _ _ (s7 _ _ h6)), by simp [nsAt]; omega, hpb1, by simp; omega, .inr ⟨r, hbad.mono S8, fun pb2 d H9 s9 hpb2 hx => qe pb2 d H9 (S8.trans s9) ?_ hx⟩⟩
              rw [List.append_assoc] at hpb2
              exact hpb2
            | i + 2, hy, _, _, _ => cases hy

          · obtain ⟨t', ht, hty⟩ := tyS hs
            have hm := hH.toOp ⟨m, ho⟩
            obtain ⟨hk2, u, hu⟩ := hT _ hm
            have n3 := ops_no _ ho
            have h1 : 1 ≤ us.length := by
              have := (show ∀ q ∈ opsW, 1 ≤ q.2 by decide) _ hm
              exact this
            refine ⟨_, rfl, .ref p, _, true, rfl, hty, kit_seq ht, fun H1 s1 => ⟨_, rfl, ?_⟩⟩
            refine iteF ?_
            refine ⟨_, rfl, p, _, rfl, hs.mono s1, _, _, rfl, rfl, _, rfl, ?_⟩
            rw [decide_eq_false (by simp only [List.length_cons, List.length_nil]; omega)]
            refine iteF ?_
            refine ⟨_, rfl, ixA (hs.mono s1) 0 rfl ⟨.str wd, .ty "str", .type "str", .type "str", true, rfl, .ty "str", .base (.str wd), kit_ty (by decide +kernel), true, rfl, ?_⟩⟩
            refine iteF ?_
            refine ⟨_, rfl, ixA (hs.mono s1) 0 rfl ?_⟩
            refine ⟨_, rfl, rfl, _, rfl, ?_⟩
            rw [decS]
            rw [decide_eq_false (n3.2.1)]
            refine iteF ?_

            refine ⟨_, rfl, wd, some u, rfl, rfl, hu, true, rfl, ?_⟩
            refine iteT ?_
            refine ⟨_, rfl, p, _, rfl, hs.mono s1, ⟨_, rfl, dT, wd, _, rfl, rfl, hk2, _, _, rfl, rfl, rfl, _, rfl, ?_⟩⟩
            rw [decI, decide_eq_true (by rw [List.length_cons]; omega)]
            refine iteT ?_
            refine ⟨_, rfl, _, rfl, _, rfl, _, rfl, ?_⟩
            refine slA (hs.mono s1) 1 fun qq H2 s2 hq => ?_
            have hq : SqA K H2 qq us := hq
            have S := s1.trans s2
            exact ⟨_, rfl, _, rfl, G, qq, a, b, us, ns, g, path, rfl, hG.mono S, nd, by omega, hq, hul, Same.seqT S ha, by omega, Same.seqT S hb, by omega, .inr ⟨i0, y, r, hy, fun j x hj hx => (by have := hgood j x hj hx; rw [nsAt_no j ns n3.2.2] at this; exact this.mono S), (by have := hbad; rw [nsAt_no i0 ns n3.2.2] at this; exact this.mono S), fun pb d H' s' hp hx => qe pb d H' (S.trans s') hp hx⟩⟩
end
end K4
set_option Elab.async false
set_option linter.all false
set_option maxRecDepth 100000
set_option maxHeartbeats 8000000
namespace K4
open PySem PySem.Spec L2 GB
/-- a ground and a term of it, as data -/
structure Tgt (K : PySem.W.Frag) (C : Addr) (H : Hp) (G : Addr) (v : V) (g : GD) (t : GB.Tm) : Prop where
  gr : IsGr C H G g
  nd : (g.letters.map (·.1)).Nodup
  dp : ∃ d, Dp K H v d ∧ IsTm d t
  ok : TmOk g.letters [] t
  sz : t.size ≤ 14
theorem Tgt.mono {K : PySem.W.Frag} {C : Addr} {H H' : Hp} {G : Addr} {v : V} {g : GD} {t : GB.Tm} (s : Same H H') (h : Tgt K C H G v g t) : Tgt K C H' G v g t := ⟨h.gr.mono s, h.nd, let ⟨d, a, b⟩ := h.dp; ⟨d, dp_mono s a, b⟩, h.ok, h.sz⟩
def spChd (K : PySem.W.Frag) (C : Addr) : Sp := fun vs H Q _ => ∃ (G : Addr) (v : V) (g : GD) (t : GB.Tm), vs = [.ref G, v] ∧ Tgt K C H G v g t ∧ ∀ u H', Same H H' → Dp K H' u t.d → Q u H'
def spChdX (K : PySem.W.Frag) (C CB : Addr) : Sp := fun vs H Q E => ∃ (G : Addr) (x : V) (g : GD), vs = [.ref G, x] ∧ IsGr C H G g ∧ (g.letters.map (·.1)).Nodup ∧
  ((∃ t, Tgt K C H G x g t ∧ ∀ u H', Same H H' → Dp K H' u t.d → Q u H') ∨ (∃ r, BadV K H g.letters 14 [] x r ∧ ∀ pb d H', Same H H' → SqT K H' pb (pin r) → H' d = some (.xd [("path", .ref pb)]) → E (.ref CB) (some d) H'))
section
variable {P : Program} {w : World} {K : PySem.W.Frag} {mg : Str → Option Value} {base : Heap} {C CB : Addr}
theorem scChd : FnScope ["ground", "thing"] ["ground", "thing"] (defScope sChecked) := ⟨rfl, rfl, rfl, by decide +kernel, rfl, by decide +kernel, by decide +kernel⟩

theorem ok_chdX {f : Addr} {fd : FuncData} (F : Fun K "checked" "checked" sChecked f fd) (CK : ∃ g gd, FnOk P w K mg base (L2.CX P w) 32 g gd ["ground", "thing", "names", "path"] (spChkX K C CB 14) ∧ mg "checked_within" = some (.ref g) ∧ PySem.W.keepIn K (.ref g) = true ∧ Binds K gd ["ground", "thing", "names", "path"] []) : FnOk P w K mg base (L2.CX P w) 33 f fd ["ground", "thing"] (spChdX K C CB) := by
  obtain ⟨fC, dC, FC, gC, kC, bC⟩ := CK
  refine F.okX scChd (fun vs H Q E h => ?_) (fun cdv A outer s H vs Q E hr h => ?_)
  · obtain ⟨G, x, g, rfl, _⟩ := h
    rfl
  · obtain ⟨G, x, g, rfl, hG, nd, h⟩ := h
    refine ⟨_, pss_one (ps_ret (pe_call FC hr rfl gC kC bC .nil (passes_call (takes_of rfl rfl rfl rfl) (fun _ _ _ _ h => h)) (pa_cons (pv 0) (pa_cons (pv 1) (pa_cons (pe_tup pa_nil) (pa_cons (pe_tup pa_nil) (pa_nil))))))), ?_⟩
    refine ⟨_, rfl, _, rfl, by show 0 ≤ sizeLine; decide, fun a na => ?_⟩
    obtain ⟨H1, s1, h1, e1⟩ := lay (o := .tup []) na
    rw [e1]
    refine ⟨by show 0 ≤ sizeLine; decide, fun b nb => ?_⟩
    obtain ⟨H2, s2, h2, e2⟩ := lay (o := .tup []) nb
    rw [e2]
    have S2 := s1.trans s2
    refine ⟨G, a, b, x, [], g, [], rfl, hG.mono S2, nd, by decide, SqT.of (s2 _ _ h1), by decide, SqT.of h2, by decide, ?_⟩
    rcases h with ⟨t, M, q⟩ | ⟨r, hb, q⟩
    · have M2 := M.mono S2
      obtain ⟨d, hd, hT⟩ := M2.dp
      exact .inl ⟨d, t, hd, hT, M2.ok, M2.sz, fun u H' s' hu => q u H' (S2.trans s') hu⟩
    · exact .inr ⟨r, hb.mono S2, fun pb d H' s' hp hx => q pb d H' (S2.trans s') hp hx⟩
theorem ok_chd {f : Addr} {fd : FuncData} (F : FnOk P w K mg base (L2.CX P w) 33 f fd ["ground", "thing"] (spChdX K C CB)) : FnOk P w K mg base CX0 33 f fd ["ground", "thing"] (spChd K C) :=
  FnOk.quiet F fun vs H Q E h => by
    obtain ⟨G, v, g, t, rfl, M, q⟩ := h
    exact ⟨G, v, g, rfl, M.gr, M.nd, .inl ⟨t, M, q⟩⟩
end
end K4
set_option Elab.async false
set_option linter.all false
set_option maxRecDepth 100000
set_option maxHeartbeats 8000000
/-! try with several clauses «except X as n», one name for all. -/
namespace TryAs
open PySem PySem.Spec PyProof.Rows L2
/-- what the clauses wish, one behind the other -/
def wsh (K : PySem.W.Frag) (i : Nat) (Wo : WX) (D : Ends) : List (Value × (Addr → Value → Option Addr → TS)) → WX
  | [] => Wo
  | p :: r => wAs K p.1 i p.2 (wsh K i Wo D r) D
inductive Hds (X : Cx) (n : Str) : List ExceptHandler → List (Value × (Addr → Value → Option Addr → TS)) → Prop
  | nil : Hds X n [] []
  | cons {x : Str} {c : Value} {ts : Addr → Value → Option Addr → TS} {b1 : Stmt} {su : List Stmt} {p1 p2 : Pos} {hs : List ExceptHandler} {l : List (Value × (Addr → Value → Option Addr → TS))} : Names X x c →
      (∀ (a : Addr) (oe : Obj) (cls : Value) (d : Option Addr) (pn : List (Addr × Obj)), Zc cls d oe → (∃ vs, oe.data = .fields vs) → PSs (X.suite a ((a, oe) :: pn)) (b1 :: su) (ts a cls d)) → Hds X n hs l →
      Hds X n (.ExceptHandler (some (.Name x p1)) (some n) (b1 :: su) p2 :: hs) ((c, ts) :: l)
section
variable {X : Cx} {n : Str} {i : Nat} {body : List Stmt} {g1 : ExceptHandler} {gs : List ExceptHandler} {l : List (Value × (Addr → Value → Option Addr → TS))} {pos : Pos} {tb : WX → TS} {Wo : WX}
theorem ps_try_asM (hs : X.stack = X.env :: X.outer) (hf : X.env.frame = some X.env.locals) (hN : X.N.Nodup) (hi : X.N[i]? = some n) (hln : X.env.kindOf n = some .local) (tk : Takes X Wo)
    (hb : ∀ (W : WX) (pn : List (Addr × Obj)) (xe : Value → Shared → Prop), Takes (X.tr pn xe) W → PassesOwn (model X.prog X.w) X.A X.env xe → PSs (X.tr pn xe) body (tb W)) (hh : Hds X n (g1 :: gs) l) :
    PS X (.Try body (g1 :: gs) [] [] pos) (fun D σ H => tb (wsh X.K i Wo D l) D σ H) := by
  refine ⟨fun pins s σ H D I h => ?_⟩
  have ok := I.ok
  have hA : X.A.frames = some (X.env :: X.outer) := by rw [ok.frames, hs]
  have hloc : Loc X.env.scope n := .inl hln
  refine wpAny_Try_except ?_
  refine wpAny_mono ((hb (wsh X.K i Wo D l) (X.pn ++ pins) (fun e t1 => wpAny (model X.prog X.w) X.A (noteFrame e X.env) (fun _ t2 => wpAny (model X.prog X.w) X.A (setFlight e none) (fun _ t3 =>
    wpAny (model X.prog X.w) X.A (handleBy e X.env (g1 :: gs)) (SP X pins D) X.xe t3) X.xe t2) X.xe t1) (fun u t xx => ?_) PassesOwn.looking).run [] s σ H D (I.toTry _) h) (fun f t1 hsp => ?_) (fun e t1 he => he)
  · obtain ⟨a, B, sI, pins2, σ2, H2, cls, d, rfl, J0, nb, up, sky, na, os, ag, wi⟩ := xx
    have J : Inv X pins σ2 H2 sI := J0.ofTry ok
    rw [hs] at sky
    show wpAny (model X.prog X.w) X.A (noteFrame (.ref a) X.env) _ _ _
    refine Sky.land Zc.steady hA hf sky fun h3 fl3 up3 => ?_
    have J3 : Inv X pins σ2 H2 { t with heap := h3 } := J.landed nb fl3.1 (up.trans up3) os ag
    obtain ⟨o3, v3, e3, z3, d3⟩ := fl3.there
    have nst : a ∉ frs (X.env :: X.outer) := fun hm => by
      obtain ⟨_, o', e', hnf⟩ := fl3.2.2.1.mem hm
      rw [e3] at e'
      cases e'
      exact hnf _ d3
    have nL : a ≠ X.env.locals := fun z => nst (List.mem_filterMap.mpr ⟨X.env, List.mem_cons_self, by rw [hf, z]⟩)
    have nF : a ∉ X.fs := fun hm => by
      obtain ⟨e, he, q⟩ := List.mem_filterMap.mp hm
      exact nst (List.mem_filterMap.mpr ⟨e, List.mem_cons_of_mem _ he, q⟩)
    have S3 := J3.suite e3 d3 na nL nF
    have go : ∀ {gs' : List ExceptHandler} {l' : List (Value × (Addr → Value → Option Addr → TS))}, Hds X n gs' l' → wsh X.K i Wo D l' cls d σ2 H2 → wpAny (model X.prog X.w) X.A (handleBy (.ref a) X.env gs') (SP X pins D) X.xe { t with heap := h3 } := by
      intro gs' l' hk
      induction hk with
      | nil =>
        intro w
        refine wpAny_handleBy_nil ?_
        obtain ⟨k1, k2, k3, o5, v5, T, oT, ts', f1, f2, f3, f4, f5⟩ := id fl3
        unfold PySem.passOn
        refine wpAny_bind (wpAny_field f1 f3 f4 ?_)
        rw [if_neg (show ¬ ((Value.ref T == Value.none) = true) from by simp)]
        have fin : wpAny (model X.prog X.w) X.A (setFlight (.ref a) X.env.frame) (fun _ t4 => wpAny (model X.prog X.w) X.A (throw (.ref a) : Sem Flow) (SP X pins D) X.xe t4) X.xe { t with heap := h3 } := by
          rw [hf]
          refine HandSPX.setFlight_upZ fl3 fun h4 hh4 up4 => wpAny_throw (tk _ _ ?_)
          exact ⟨a, B, sI, pins, σ2, H2, cls, d, rfl, J, nb, (up.trans up3).trans up4, .inr (.inr (by rw [hs]; exact hh4)), na, os, ag, w⟩
        first
          | exact wpAny_bind (wpAny_pure (wpAny_bind fin))
          | exact wpAny_bind fin
      | @cons x c ts b1 su p1 p2 gs2 l2 hc hsu r ih =>
        intro w
        obtain ⟨b, hb1, hyes, hno⟩ := w
        refine wpAny_handleBy_cons (codeAny_handlers_test ?_) (by intro q; cases q)
        have LT : PySem.W.Looks (model X.prog X.w) h3 (typeOf (.ref a)) cls := fun A Q E t0 k q => wpAny_typeOf_ref (k _ _ e3) (by rw [z3.1]; exact q)
        have LM := PySem.W.exm_one (M := model X.prog X.w) (J3.kIn) LT hb1
        have test : ∀ {Q : Value → Shared → Prop} {E : Value → Shared → Prop}, Q c { t with heap := h3 } → wpAny (model X.prog X.w) (X.A.mark (some (.ref a))) (eval (.Name x p1) X.env) Q E { t with heap := h3 } := by
          intro Q E q
          obtain ⟨hg, hdbg, hm | ⟨hm, hv, hnn⟩⟩ := hc
          · exact ld_glob (X := X.suite a ((a, o3) :: (X.pn ++ pins))) S3 hg hm q hdbg
          · exact ld_blt (X := X.suite a ((a, o3) :: (X.pn ++ pins))) S3 hg hm hv q hnn hdbg
        refine test (LM.here ?_)
        cases b with
        | true =>
          refine codeAny_handlers_suite_as ?_
          refine HandSPX.lands_againZ fl3 fun h4 fl4 up4 => ?_
          have J4 : Inv X pins σ2 H2 { t with heap := h4 } := J.landed nb fl4.1 ((up.trans up3).trans up4) os ag
          obtain ⟨o4, v4, e4, z4, d4⟩ := fl4.there
          refine store_ok (X := X.suite a ((a, o4) :: (X.pn ++ pins))) (v := .ref a) (J4.suite e4 d4 na nL nF) hN hi hloc rfl (fun t5 S5 => ?_) (.inr hln)
          refine wpAny_mono ((hsu a o4 cls d (X.pn ++ pins) z4 ⟨_, d4⟩).run [] t5 _ H2 _ S5 (hyes rfl a na)) (fun f t6 hsp => ?_) (fun _ _ z => False.elim z)
          have behind : ∀ {τ : L2.St} {H6 : Hp} {Q : Shared → Prop}, Inv (X.suite a ((a, o4) :: (X.pn ++ pins))) [] τ H6 t6 → (∀ t7, Inv X pins (τ.set i none) H6 t7 → Q t7) →
              wpAny (model X.prog X.w) X.A (do bindName X.env n .none; unbindBehindTheSuite X.env n p2) (fun _ t7 => Q t7) X.xe t6 := fun {τ H6 Q} S6 hq => gone_ok (S6.unsuite ok) hN hi hln hq
          cases f with
          | next => obtain ⟨τ, H6, S6, q6⟩ := hsp; exact behind S6 fun t7 J7 => ⟨_, _, J7, q6⟩
          | brk => obtain ⟨τ, H6, S6, q6⟩ := hsp; exact behind S6 fun t7 J7 => ⟨_, _, J7, q6⟩
          | cont => obtain ⟨τ, H6, S6, q6⟩ := hsp; exact behind S6 fun t7 J7 => ⟨_, _, J7, q6⟩
          | ret u => obtain ⟨v6, τ, H6, S6, r6, q6⟩ := hsp; exact behind S6 fun t7 J7 => ⟨_, _, _, J7, r6, q6⟩
        | false => exact ih (hno rfl)
    exact go hh wi
  · cases f with
    | next => obtain ⟨τ, H6, J6, q⟩ := hsp; exact wpAny_execs_nil ⟨τ, H6, J6.ofTry ok, q⟩
    | brk => obtain ⟨τ, H6, J6, q⟩ := hsp; exact ⟨τ, H6, J6.ofTry ok, q⟩
    | cont => obtain ⟨τ, H6, J6, q⟩ := hsp; exact ⟨τ, H6, J6.ofTry ok, q⟩
    | ret u => obtain ⟨v, τ, H6, J6, r, q⟩ := hsp; exact ⟨v, τ, H6, J6.ofTry ok, r, q⟩
end
end TryAs
set_option Elab.async false
set_option linter.all false
set_option maxRecDepth 100000
set_option maxHeartbeats 8000000
namespace K4
open PySem PySem.Spec L2 GB
abbrev sMet : Stmt := topS 46
def spMet (K : PySem.W.Frag) (C CB : Addr) : Sp := fun vs H Q _ => ∃ (G : Addr) (x : V) (g : GD), vs = [.ref G, x] ∧ IsGr C H G g ∧ (g.letters.map (·.1)).Nodup ∧
  ((∃ t, Tgt K C H G x g t ∧ ∀ u p H', Same H H' → H' p = some (.tup [.str "told", u]) → Dp K H' u t.d → Q (.ref p) H') ∨ (∃ r, BadV K H g.letters 14 [] x r ∧ ∀ pb p H', Same H H' → SqT K H' pb (pin r) → H' p = some (.tup [.str "bad", .ref pb]) → Q (.ref p) H'))
section
variable {P : Program} {w : World} {K : PySem.W.Frag} {mg : Str → Option Value} {base : Heap} {C CB : Addr}
theorem scMet : FnScope ["_law_ground_here", "_law_thing", "e"] ["_law_ground_here", "_law_thing"] (defScope sMet) := ⟨rfl, rfl, rfl, by decide +kernel, rfl, by decide +kernel, by decide +kernel⟩
theorem ok_met {f : Addr} {fd : FuncData} (F : Fun K "_law_met" "_law_met" sMet f fd) (CH : ∃ g gd, FnOk P w K mg base (L2.CX P w) 33 g gd ["ground", "thing"] (spChdX K C CB) ∧ mg "checked" = some (.ref g) ∧ PySem.W.keepIn K (.ref g) = true ∧ Binds K gd ["ground", "thing"] [])
    (gB : mg "BadTerm" = some (.ref CB)) (XB : XfC K CB) (hnb : PySem.W.findIn K (.ref CB) "path" = some none) (tb : PySem.W.exmOne K (.ref CB) (.ref CB) = some true) : FnOk P w K mg base CX0 35 f fd ["_law_ground_here", "_law_thing"] (spMet K C CB) := by
  obtain ⟨fC, dC, FC, gC, kC, bC⟩ := CH
  refine F.ok scMet (fun vs H Q E h => ?_) (fun cdv A outer s H vs Q E hr h => ?_)
  · obtain ⟨G, x, g, rfl, _⟩ := h
    rfl
  · obtain ⟨G, x, g, rfl, hG, nd, h⟩ := h
    refine ⟨_, pss_one (TryAs.ps_try_asM (i := 2) rfl rfl scMet.nd rfl rfl takes0
      (fun W pn xe tk po => pss_one (ps_ret (pe_tup (pa_cons pe_str (pa_cons (pe_call (E := fun cls d H => ∀ σ : L2.St, σ.length = 3 → W cls d σ H) FC (hr.mono (by decide)) rfl gC kC bC .nil
        (passes_call (W := fun cls d σ' H' => σ'.length = 3 → W cls d σ' H') (fun u s' ⟨a, B, sI, pins, σ, H, cls, d, e, I, nb, up, sky, na, os, ag, w⟩ => tk u s' ⟨a, B, sI, pins, σ, H, cls, d, e, I, nb, up, sky, na, os, ag, w I.len⟩) (fun cls d σ H h => h σ)) (pa_cons (pv 0) (pa_cons (pv 1) pa_nil))) pa_nil)))))
      (.cons (c := .ref CB) ⟨rfl, by decide, .inl gB⟩ (fun a oe cls d pn hz hf => pss_one (ps_ret (pe_tup (pa_cons pe_str (pa_cons (pe_xf XB hnb hz hf (pv 2)) pa_nil))))) .nil)), ?_⟩
    refine ⟨_, rfl, _, rfl, G, x, g, rfl, hG, nd, ?_⟩
    rcases h with ⟨t, M, q⟩ | ⟨r, hb, q⟩
    · refine .inl ⟨t, M, fun u H1 s1 hu => ?_⟩
      refine ⟨by show 2 ≤ sizeLine; decide, fun p np => ?_⟩
      obtain ⟨H2, s2, h2, e2⟩ := lay (o := .tup [.str "told", u]) np
      rw [e2]
      exact q u p H2 (s1.trans s2) h2 (dp_mono s2 hu)
    · refine .inr ⟨r, hb, fun pb d H1 s1 hp hx σ hlen => ?_⟩
      refine ⟨true, tb, fun _ a na => ?_, fun z => nomatch z⟩
      refine ⟨_, by rw [List.getElem?_set_self (by omega)], rfl, rfl, d, _, .ref pb, rfl, hx, by simp [List.lookup], by show 2 ≤ sizeLine; decide, fun p np => ?_⟩
      obtain ⟨H2, s2, h2, e2⟩ := lay (o := .tup [.str "bad", .ref pb]) np
      rw [e2]
      exact q pb p H2 (s1.trans s2) (Same.seqT s2 hp) h2
end
end K4
set_option Elab.async false
set_option linter.all false
set_option autoImplicit false
set_option maxRecDepth 100000
set_option maxHeartbeats 8000000
namespace K4
open PySem PySem.Spec L2 GB
abbrev sLoose : Stmt := topS 40
def looseN : List Str := ["_law_pool_here", "_law_thing", "_law_found", "_law_part"]
def spLoose (K : PySem.W.Frag) (z : Nat) : Sp := fun vs H Q _ => ∃ (p : Addr) (ps : List Addr) (x : V) (d : AD) (n : Nat), vs = [.ref p, x] ∧ p ∈ ps ∧ (∀ q ∈ ps, ∃ o, H q = some o) ∧ AdAt K (hid ps H) x d ∧ d.sz ≤ z ∧ z ≤ 1000 ∧ n + d.sz ≤ 900000 ∧ PoolIs H p n ∧
  ∀ y d' H', Bt [p] H H' → AdAt K (hid ps H') y d' → Lo d d' → PoolIs H' p (n + d.sz) → Q y H'
section
variable {P : Program} {w : World} {K : PySem.W.Frag} {mg : Str → Option Value} {base : Heap}
theorem scLoose : FnScope looseN ["_law_pool_here", "_law_thing"] (defScope sLoose) := ⟨rfl, rfl, rfl, by decide +kernel, rfl, by decide +kernel, by decide +kernel⟩
theorem ok_loose {f : Addr} {fd : FuncData} (F : Fun K "_law_loose" "_law_loose" sLoose f fd) (T : Bl mg) (mgF : mg "_law_loose" = some (.ref f)) (kF : PySem.W.keepIn K (.ref f) = true) (bF : Binds K fd ["_law_pool_here", "_law_thing"] [])
    (TK : Fns P w K mg base "_law_take" 1 ["_law_pool_here", "_law_many_here"] spTake) : ∀ z : Nat, FnOk P w K mg base CX0 (2 + z) f fd ["_law_pool_here", "_law_thing"] (spLoose K z) := by
  intro z
  induction z with
  | zero =>
    refine F.ok scLoose (fun vs H Q E h => ?_) (fun cdv A outer s H vs Q E hr h => ?_)
    · obtain ⟨p, ps, x, d, n, rfl, _⟩ := h
      rfl
    · obtain ⟨p, ps, x, d, n, rfl, _, _, _, hz, _⟩ := h
      exact absurd hz (by have := AD.sz_pos d; omega)
  | succ z ih =>
    have LO : Fns P w K mg base "_law_loose" (2 + z) ["_law_pool_here", "_law_thing"] (spLoose K z) := ⟨f, fd, ih, mgF, kF, bF⟩
    refine F.ok scLoose (fun vs H Q E h => ?_) (fun cdv A outer s H vs Q E hr h => ?_)
    · obtain ⟨p, ps, x, d, n, rfl, _⟩ := h
      rfl
    · obtain ⟨p, ps, x, d, n, rfl, hp, hps, hx, hz, hz2, hn, hP, q⟩ := h
      have l0 : 2 + z ≤ Nat.add 2 z := Nat.le_refl _
      have l1 : 1 ≤ Nat.add 2 z := by show 1 ≤ 2 + z; omega
      refine ⟨_, pss_cons (ps_if (pt_not (pt_val (pe_callB call_isi (by rfl) T.isi (by decide +kernel) (pa_cons (pv 1) (pa_cons (pe_bltn (v := .ty "tuple") (by rfl) T.tuple (by decide +kernel) rfl) (pa_nil)))))) (pss_one (ps_ret (pv 1))) (pss_nil)) (pss_cons (ps_setLc (i := 2) (own := [("_law_part", 3)]) (g := gName 3) (tt := tYes) rfl scLoose.nd rfl rfl (sw_true rfl rfl rfl (by decide +kernel)) (pi_seqW (pv 1)) (blkOk_by (own := [("_law_part", 3)]) (N := looseN) (sc := defScope sLoose) (by decide +kernel)) (fun _ _ _ _ _ => pg_name (i := 3) scLoose.nd rfl (.inl rfl)) (fun _ _ _ _ _ => pts_nil) (fun _ _ _ _ _ => pe_fn LO hr l0 rfl (pa_cons (pv 0) (pa_cons (pv 3) (pa_nil))))) (pss_one (ps_ret (pe_ifExp (pt_cmpR op_eq (pe_fn TK hr l1 rfl (pa_cons (pv 0) (pa_cons (pe_int) (pa_nil)))) (pe_int) (nomark _)) (pv 2) (pe_callTy (call_tuple_of) (by rfl) T.tuple (by decide +kernel) (pa_cons (pv 2) (pa_nil))))))), ?_⟩
      refine ⟨_, rfl, x, .ty "tuple", .type d.ty, .type "tuple", d.isTup, rfl, .ty "tuple", hx.ty _ (hid_low _ _), kit_tup d, _, rfl, ?_⟩
      cases hd : d.isTup with
      | false =>
        refine iteT ?_
        exact ⟨_, rfl, q x d H (Same.refl _) hx (.same hd) (hP.mono (Same.refl _) (by omega))⟩
      | true =>
      refine iteF ?_
      obtain ⟨ds, rfl⟩ : ∃ ds, d = .seq true ds := by
        cases d with
        | seq t xs => cases t with
          | true => exact ⟨xs, rfl⟩
          | false => cases hd
        | _ => cases hd
      cases hx with
      | @tup a xs _ hs hall =>
        obtain ⟨kb, hqv⟩ := sqV (.inr hs)
        have szd : AD.szs ds + 1 = (AD.seq true ds).sz := rfl
        refine ⟨_, rfl, a, xs, kb, ps, rfl, hqv, fun J WJ D nD => ?_⟩
        have Dps : D ∉ ps := fun m => by
          obtain ⟨o, e⟩ := hps D m
          rw [nD] at e
          cases e
        have Dp' : D ≠ p := fun e => Dps (by rw [e]; exact hp)
        refine lc_it WJ (fun i H' => Bt [p] H H' ∧ ∃ acc ds', H' D = some (.lst acc) ∧ acc.length = i ∧ AdAll K (hid (D :: ps) H') acc ds' ∧ LoAll (ds.take i) ds' ∧ PoolIs H' p (n + AD.szs (ds.take i))) ⟨bt_of (same_new nD), [], [], upd_same, rfl, .nil, .nil, hP.mono (same_new nD) (by omega)⟩ (fun i H' _ ⟨B, _⟩ => hqv.mono (bt_weak (by simpa using hp) B)) ?turn ?done
        case turn =>
          rintro i y H1 H1' hi ⟨B1, acc, ds', hD, hal, hacc, hlo, P1⟩ ⟨rfl, hyi⟩
          refine ⟨rfl, ?_⟩
          obtain ⟨di, hdi, hy⟩ := hall.at hyi
          have hsz := AD.szs_at hdi
          have hll := AD.len_szs ds
          have hxl := hall.len
          have hil : i < xs.length := (List.getElem?_eq_some_iff.mp hyi).1
          have B1' : Bt ps H H1' := bt_weak (by simpa using hp) B1
          have toD : Same (hid ps H) (hid (D :: ps) H1') := fun b o e => by
            obtain ⟨e1, m⟩ := hid_in e
            have e2 := (hid_low _ _) _ _ (B1' _ _ e)
            exact hid_to (by simp only [List.mem_cons, not_or]; exact ⟨ne_of_none e1 nD, m⟩) e2
          refine ⟨_, rfl, _, rfl, p, D :: ps, y, di, _, rfl, List.mem_cons_of_mem _ hp, fun b hb => ?_, hy.mono toD, by omega, by omega, by omega, P1, fun v d' H2 B2 hv hl P2 => ?_⟩
          · rcases List.mem_cons.mp hb with rfl | hb
            · exact ⟨_, hD⟩
            · obtain ⟨o, e⟩ := hps b hb
              by_cases hbp : b = p
              · subst hbp
                obtain ⟨_, _, _, e, _⟩ := P1
                exact ⟨_, e⟩
              · exact ⟨o, bt_at B1 (ni1 hbp) e⟩
          have hD2 := bt_at B2 (ni1 Dp') hD
          refine ⟨acc, hD2, by rw [hal, sizeLine_eq]; omega, fun b o e => ?_, acc ++ [v], ds' ++ [d'], upd_same, by rw [List.length_append, hal]; rfl, ?_, ?_, ?_⟩
          · obtain ⟨e1, m⟩ := hid_in e
            have nb : b ≠ D := ne_of_none e1 nD
            exact hid_to m (by rw [upd_ne nb]; exact bt_at B2 m (bt_at B1 m e1))
          · have bD : Bt (D :: ps) H2 (upd H2 D (.lst (acc ++ [v]))) := bt_upd (by simp)
            have b2 : Bt (D :: ps) H1' H2 := bt_weak (by simp [hp]) B2
            exact (hacc.mono (b2.trans bD)).app (.cons (hv.mono bD) .nil)
          · rw [take_at hdi]
            exact hlo.app (.cons hl .nil)
          · rw [take_at hdi, AD.szs_app, AD.szs, AD.szs]
            obtain ⟨a1, b1, c1, e1, r1, r2, r3, r4, r5⟩ := P2
            exact ⟨a1, b1, c1, by rw [upd_ne Dp'.symm]; exact e1, r1, r2, r3, r4, by omega⟩
        rintro H3 ⟨B3, acc, ds', hD, hal, hacc, hlo, P3⟩
        have et : ds.take xs.length = ds := List.take_of_length_le (by rw [hall.len]; exact Nat.le_refl _)
        rw [et] at hlo P3
        refine ⟨_, rfl, p, 2, _, rfl, by decide, by decide, by omega, P3, fun r H4 hr2 B4 P4 => ?_⟩
        have hD4 := bt_at B4 (ni1 Dp') hD
        have B04 : Bt [p] H H4 := B3.trans B4
        have hacc4 : AdAll K (hid ps H4) acc ds' := (hacc.mono (bt_weak (by simp [hp]) B4)).mono (hid_less fun q hq => List.mem_cons_of_mem _ hq)
        have P4' : PoolIs H4 p (n + (AD.seq true ds).sz) := P4.mono (Same.refl _) (by omega)
        refine ⟨rfl, _, rfl, ?_⟩
        rw [decI]
        by_cases c : (r : Int) = 0
        · rw [decide_eq_true c]
          refine iteT ?_
          exact ⟨_, rfl, q _ _ H4 B04 (.lst (SqL.of (hid_to Dps hD4)) hacc4) (.tup hlo) P4'⟩
        · rw [decide_eq_false c]
          refine iteF ?_
          refine ⟨_, rfl, D, acc, rfl, .inl ⟨SqL.of hD4, fun t nt => ?_⟩⟩
          obtain ⟨H5, s5, h5, e5⟩ := lay (o := .tup acc) nt
          rw [e5]
          have tps : t ∉ ps := fun m => by
            obtain ⟨o, e⟩ := hps t m
            by_cases tp : t = p
            · subst tp
              obtain ⟨_, _, _, e', _⟩ := P4
              rw [nt] at e'; cases e'
            · have := bt_at B04 (ni1 tp) e
              rw [nt] at this; cases this
          exact q _ _ H5 (B04.trans (bt_of s5)) (.tup (SqT.of (hid_to tps h5)) (hacc4.mono (hid_same s5))) (.tup hlo) (P4'.mono s5 (Nat.le_refl _))
end
end K4
set_option Elab.async false
set_option linter.all false
set_option autoImplicit false
set_option maxRecDepth 100000
set_option maxHeartbeats 8000000
namespace GB
open PySem L2
theorem merge_new : ∀ (more acc : List (Key × V)), (∀ q ∈ more, ∀ r ∈ acc, r.1 ≠ q.1) → (more.map (·.1)).Nodup → mergeK acc more = acc ++ more
  | [], acc, _, _ => by rw [List.append_nil]; rfl
  | q :: r, acc, h, nd => by
    have nd' := List.nodup_cons.mp nd
    have e : putK acc q.1 q.2 = acc ++ [q] := by
      unfold putK
      rw [if_neg]
      intro c
      obtain ⟨x, hx, hd⟩ := List.any_eq_true.mp c
      exact h q List.mem_cons_self x hx (of_decide_eq_true hd)
    show mergeK (putK acc q.1 q.2) r = _
    rw [e, merge_new r (acc ++ [q]) (fun x hx y hy => ?_) nd'.2, List.append_assoc]
    · rfl
    · rcases List.mem_append.mp hy with hy | hy
      · exact h x (List.mem_cons_of_mem _ hx) y hy
      · rw [List.mem_singleton.mp hy]
        intro e2
        exact nd'.1 (by show q.1 ∈ _; rw [show q.1 = x.1 from e2]; exact List.mem_map.mpr ⟨x, hx, rfl⟩)
end GB
namespace K4
open PySem PySem.Spec L2 GB
abbrev sMany : Stmt := topS 41
/-- where the terms within begin, and how many there are -/
def manyOf (w : Str) : Nat × Nat := if w ∈ nmd then (2, 0) else if w = "bind" then (2, 2) else match opsW.lookup w with | some m => (1, m) | none => (0, 0)
def spMany (K : PySem.W.Frag) : Sp := fun vs H Q _ => ∃ (g : V) (w : Str), vs = [g, .str w] ∧ w ≠ "use" ∧ ∀ t H', Same H H' → SqT K H' t [.int ((manyOf w).1 : Int), .int ((manyOf w).2 : Int)] → Q (.ref t) H'
section
variable {P : Program} {w : World} {K : PySem.W.Frag} {mg : Str → Option Value} {base : Heap}
theorem scMany : FnScope ["_law_g", "_law_word"] ["_law_g", "_law_word"] (defScope sMany) := ⟨rfl, rfl, rfl, by decide +kernel, rfl, by decide +kernel, by decide +kernel⟩
theorem ok_many {f : Addr} {fd : FuncData} (F : Fun K "_law_many" "_law_many" sMany f fd) : FnOk P w K mg base CX0 1 f fd ["_law_g", "_law_word"] (spMany K) := by
  refine F.ok scMany (fun vs H Q E h => ?_) (fun cdv A outer s H vs Q E hr h => ?_)
  · obtain ⟨g, x, rfl, _⟩ := h
    rfl
  · obtain ⟨g, x, rfl, hx, q⟩ := h
    refine ⟨_, pss_one (ps_ret (pe_dget2 (hu_of hr) (pe_disp (pps_cons pe_str (pe_tup (pa_cons (pe_int) (pa_cons (pe_int) (pa_nil)))) (pps_cons pe_str (pe_tup (pa_cons (pe_int) (pa_cons (pe_int) (pa_nil)))) (pps_cons pe_str (pe_tup (pa_cons (pe_int) (pa_cons (pe_int) (pa_nil)))) (pps_cons pe_str (pe_tup (pa_cons (pe_int) (pa_cons (pe_int) (pa_nil)))) (pps_cons pe_str (pe_tup (pa_cons (pe_int) (pa_cons (pe_int) (pa_nil)))) (pps_cons pe_str (pe_tup (pa_cons (pe_int) (pa_cons (pe_int) (pa_nil)))) (pps_cons pe_str (pe_tup (pa_cons (pe_int) (pa_cons (pe_int) (pa_nil)))) (pps_cons pe_str (pe_tup (pa_cons (pe_int) (pa_cons (pe_int) (pa_nil)))) (pps_cons pe_str (pe_tup (pa_cons (pe_int) (pa_cons (pe_int) (pa_nil)))) (pps_cons pe_str (pe_tup (pa_cons (pe_int) (pa_cons (pe_int) (pa_nil)))) (pps_cons pe_str (pe_tup (pa_cons (pe_int) (pa_cons (pe_int) (pa_nil)))) (pps_cons pe_str pe_non (pps_nil))))))))))))) (by rfl) (by rfl) (fun z => by cases z) (by decide)) (pv 1) (pe_tup (pa_cons (pe_int) (pa_cons (pe_int) (pa_nil)))) ⟨rfl, rfl, rfl, rfl⟩)), ?_⟩
    intro p np
    obtain ⟨Hp0, sp0, hp0, ep0⟩ := lay (o := .dK []) np
    rw [ep0]
    refine ⟨by show 2 ≤ sizeLine; decide, fun t0 n0 => ?_⟩
    obtain ⟨H0, s0, h0, e0⟩ := lay (o := .tup [.int 1, .int 3]) n0
    rw [e0]
    refine ⟨by show 2 ≤ sizeLine; decide, fun t1 n1 => ?_⟩
    obtain ⟨H1, s1, h1, e1⟩ := lay (o := .tup [.int 1, .int 2]) n1
    rw [e1]
    refine ⟨by show 2 ≤ sizeLine; decide, fun t2 n2 => ?_⟩
    obtain ⟨H2, s2, h2, e2⟩ := lay (o := .tup [.int 1, .int 2]) n2
    rw [e2]
    refine ⟨by show 2 ≤ sizeLine; decide, fun t3 n3 => ?_⟩
    obtain ⟨H3, s3, h3, e3⟩ := lay (o := .tup [.int 1, .int 1]) n3
    rw [e3]
    refine ⟨by show 2 ≤ sizeLine; decide, fun t4 n4 => ?_⟩
    obtain ⟨H4, s4, h4, e4⟩ := lay (o := .tup [.int 1, .int 2]) n4
    rw [e4]
    refine ⟨by show 2 ≤ sizeLine; decide, fun t5 n5 => ?_⟩
    obtain ⟨H5, s5, h5, e5⟩ := lay (o := .tup [.int 1, .int 2]) n5
    rw [e5]
    refine ⟨by show 2 ≤ sizeLine; decide, fun t6 n6 => ?_⟩
    obtain ⟨H6, s6, h6, e6⟩ := lay (o := .tup [.int 1, .int 2]) n6
    rw [e6]
    refine ⟨by show 2 ≤ sizeLine; decide, fun t7 n7 => ?_⟩
    obtain ⟨H7, s7, h7, e7⟩ := lay (o := .tup [.int 2, .int 2]) n7
    rw [e7]
    refine ⟨by show 2 ≤ sizeLine; decide, fun t8 n8 => ?_⟩
    obtain ⟨H8, s8, h8, e8⟩ := lay (o := .tup [.int 2, .int 0]) n8
    rw [e8]
    refine ⟨by show 2 ≤ sizeLine; decide, fun t9 n9 => ?_⟩
    obtain ⟨H9, s9, h9, e9⟩ := lay (o := .tup [.int 2, .int 0]) n9
    rw [e9]
    refine ⟨by show 2 ≤ sizeLine; decide, fun t10 n10 => ?_⟩
    obtain ⟨H10, s10, h10, e10⟩ := lay (o := .tup [.int 2, .int 0]) n10
    rw [e10]

    have SS : Same Hp0 H10 := ((((((((((s0.trans s1).trans s2).trans s3).trans s4).trans s5).trans s6).trans s7).trans s8).trans s9).trans s10)
    have hpD : H10 p = some (.dK []) := SS _ _ hp0
    obtain ⟨kvs, ek⟩ : ∃ kvs : List (Key × V), [(.inr "if", .ref t0), (.inr "and", .ref t1), (.inr "or", .ref t2), (.inr "not", .ref t3), (.inr "then", .ref t4), (.inr "try", .ref t5), (.inr "last", .ref t6), (.inr "bind", .ref t7), (.inr "value", .ref t8), (.inr "fail", .ref t9), (.inr "name", .ref t10), (.inr "use", .non)] = kvs := ⟨_, rfl⟩
    refine ⟨hpD, [(.inr "if", .ref t0), (.inr "and", .ref t1), (.inr "or", .ref t2), (.inr "not", .ref t3), (.inr "then", .ref t4), (.inr "try", .ref t5), (.inr "last", .ref t6), (.inr "bind", .ref t7), (.inr "value", .ref t8), (.inr "fail", .ref t9), (.inr "name", .ref t10), (.inr "use", .non)], rfl, by show (12 : Nat) ≤ 15; decide, ?_⟩
    rw [ek]
    have em : mergeK [] kvs = kvs := by
      rw [merge_new kvs [] (fun q _ r hr => nomatch hr) (by rw [← ek]; exact (show ([.inr "if", .inr "and", .inr "or", .inr "not", .inr "then", .inr "try", .inr "last", .inr "bind", .inr "value", .inr "fail", .inr "name", .inr "use"] : List Key).Nodup by decide +kernel))]
      rfl
    rw [em]
    have S0 : Same H H10 := sp0.trans SS
    have S1 : Same H (upd H10 p (.dK kvs)) := fun b o e => by rw [upd_ne (ne_of_none e np)]; exact S0 _ _ e
    have hp1 : (upd H10 p (.dK kvs)) p = some (.dK kvs) := upd_same
    have tk : ∀ {b : Addr} {o : HO}, H10 b = some o → b ≠ p → (upd H10 p (.dK kvs)) b = some o := fun e n => by rw [upd_ne n]; exact e
    have g0 : (upd H10 p (.dK kvs)) t0 = some (.tup [.int 1, .int 3]) := tk ((((((((((((Same.refl H0).trans s1).trans s2).trans s3).trans s4).trans s5).trans s6).trans s7).trans s8).trans s9).trans s10) _ _ h0) (fun e => by have z := (((((((((((Same.refl H0).trans s1).trans s2).trans s3).trans s4).trans s5).trans s6).trans s7).trans s8).trans s9).trans s10) _ _ h0; rw [e, hpD] at z; cases z)
    have g1 : (upd H10 p (.dK kvs)) t1 = some (.tup [.int 1, .int 2]) := tk (((((((((((Same.refl H1).trans s2).trans s3).trans s4).trans s5).trans s6).trans s7).trans s8).trans s9).trans s10) _ _ h1) (fun e => by have z := ((((((((((Same.refl H1).trans s2).trans s3).trans s4).trans s5).trans s6).trans s7).trans s8).trans s9).trans s10) _ _ h1; rw [e, hpD] at z; cases z)
    have g2 : (upd H10 p (.dK kvs)) t2 = some (.tup [.int 1, .int 2]) := tk ((((((((((Same.refl H2).trans s3).trans s4).trans s5).trans s6).trans s7).trans s8).trans s9).trans s10) _ _ h2) (fun e => by have z := (((((((((Same.refl H2).trans s3).trans s4).trans s5).trans s6).trans s7).trans s8).trans s9).trans s10) _ _ h2; rw [e, hpD] at z; cases z)
    have g3 : (upd H10 p (.dK kvs)) t3 = some (.tup [.int 1, .int 1]) := tk (((((((((Same.refl H3).trans s4).trans s5).trans s6).trans s7).trans s8).trans s9).trans s10) _ _ h3) (fun e => by have z := ((((((((Same.refl H3).trans s4).trans s5).trans s6).trans s7).trans s8).trans s9).trans s10) _ _ h3; rw [e, hpD] at z; cases z)
    have g4 : (upd H10 p (.dK kvs)) t4 = some (.tup [.int 1, .int 2]) := tk ((((((((Same.refl H4).trans s5).trans s6).trans s7).trans s8).trans s9).trans s10) _ _ h4) (fun e => by have z := (((((((Same.refl H4).trans s5).trans s6).trans s7).trans s8).trans s9).trans s10) _ _ h4; rw [e, hpD] at z; cases z)
    have g5 : (upd H10 p (.dK kvs)) t5 = some (.tup [.int 1, .int 2]) := tk (((((((Same.refl H5).trans s6).trans s7).trans s8).trans s9).trans s10) _ _ h5) (fun e => by have z := ((((((Same.refl H5).trans s6).trans s7).trans s8).trans s9).trans s10) _ _ h5; rw [e, hpD] at z; cases z)
    have g6 : (upd H10 p (.dK kvs)) t6 = some (.tup [.int 1, .int 2]) := tk ((((((Same.refl H6).trans s7).trans s8).trans s9).trans s10) _ _ h6) (fun e => by have z := (((((Same.refl H6).trans s7).trans s8).trans s9).trans s10) _ _ h6; rw [e, hpD] at z; cases z)
    have g7 : (upd H10 p (.dK kvs)) t7 = some (.tup [.int 2, .int 2]) := tk (((((Same.refl H7).trans s8).trans s9).trans s10) _ _ h7) (fun e => by have z := ((((Same.refl H7).trans s8).trans s9).trans s10) _ _ h7; rw [e, hpD] at z; cases z)
    have g8 : (upd H10 p (.dK kvs)) t8 = some (.tup [.int 2, .int 0]) := tk ((((Same.refl H8).trans s9).trans s10) _ _ h8) (fun e => by have z := (((Same.refl H8).trans s9).trans s10) _ _ h8; rw [e, hpD] at z; cases z)
    have g9 : (upd H10 p (.dK kvs)) t9 = some (.tup [.int 2, .int 0]) := tk (((Same.refl H9).trans s10) _ _ h9) (fun e => by have z := ((Same.refl H9).trans s10) _ _ h9; rw [e, hpD] at z; cases z)
    have g10 : (upd H10 p (.dK kvs)) t10 = some (.tup [.int 2, .int 0]) := tk ((Same.refl H10) _ _ h10) (fun e => by have z := (Same.refl H10) _ _ h10; rw [e, hpD] at z; cases z)

    generalize upd H10 p (.dK kvs) = J at *
    refine ⟨p, rfl, .inl ⟨kvs, .inl hp1⟩, _, rfl, by show 2 ≤ sizeLine; decide, fun tz nz => ?_⟩
    obtain ⟨J2, s2', hz, ez⟩ := lay (o := .tup [.int 0, .int 0]) nz
    rw [ez]
    refine ⟨valV kvs (.inr x), .inl ⟨kvs, .inr x, .inl (s2' _ _ hp1), rfl, rfl⟩, ?_⟩
    have S2 := S1.trans s2'
    have go : ∀ (t : Addr) (a b : Nat), SqT K J2 t [.int (a : Int), .int (b : Int)] → manyOf x = (a, b) → Q (.ref t) J2 := fun t a b h e => q t J2 S2 (by rw [e]; exact h)
    by_cases c0 : ("if" : Str) = x
    · subst c0
      have hv : valV kvs (.inr "if") = some (.ref t0) := by
        rw [← ek]
        skip
        rfl
      rw [hv]
      exact go t0 1 3 (SqT.of (s2' _ _ g0)) (by decide +kernel)
    by_cases c1 : ("and" : Str) = x
    · subst c1
      have hv : valV kvs (.inr "and") = some (.ref t1) := by
        rw [← ek]
        rw [valV_neg (fun e => absurd (Sum.inr.inj e) (by decide +kernel))]
        rfl
      rw [hv]
      exact go t1 1 2 (SqT.of (s2' _ _ g1)) (by decide +kernel)
    by_cases c2 : ("or" : Str) = x
    · subst c2
      have hv : valV kvs (.inr "or") = some (.ref t2) := by
        rw [← ek]
        rw [valV_neg (fun e => absurd (Sum.inr.inj e) (by decide +kernel))]; rw [valV_neg (fun e => absurd (Sum.inr.inj e) (by decide +kernel))]
        rfl
      rw [hv]
      exact go t2 1 2 (SqT.of (s2' _ _ g2)) (by decide +kernel)
    by_cases c3 : ("not" : Str) = x
    · subst c3
      have hv : valV kvs (.inr "not") = some (.ref t3) := by
        rw [← ek]
        rw [valV_neg (fun e => absurd (Sum.inr.inj e) (by decide +kernel))]; rw [valV_neg (fun e => absurd (Sum.inr.inj e) (by decide +kernel))]; rw [valV_neg (fun e => absurd (Sum.inr.inj e) (by decide +kernel))]
        rfl
      rw [hv]
      exact go t3 1 1 (SqT.of (s2' _ _ g3)) (by decide +kernel)
    by_cases c4 : ("then" : Str) = x
    · subst c4
      have hv : valV kvs (.inr "then") = some (.ref t4) := by
        rw [← ek]
        rw [valV_neg (fun e => absurd (Sum.inr.inj e) (by decide +kernel))]; rw [valV_neg (fun e => absurd (Sum.inr.inj e) (by decide +kernel))]; rw [valV_neg (fun e => absurd (Sum.inr.inj e) (by decide +kernel))]; rw [valV_neg (fun e => absurd (Sum.inr.inj e) (by decide +kernel))]
        rfl
      rw [hv]
      exact go t4 1 2 (SqT.of (s2' _ _ g4)) (by decide +kernel)
    by_cases c5 : ("try" : Str) = x
    · subst c5
      have hv : valV kvs (.inr "try") = some (.ref t5) := by
        rw [← ek]
        rw [valV_neg (fun e => absurd (Sum.inr.inj e) (by decide +kernel))]; rw [valV_neg (fun e => absurd (Sum.inr.inj e) (by decide +kernel))]; rw [valV_neg (fun e => absurd (Sum.inr.inj e) (by decide +kernel))]; rw [valV_neg (fun e => absurd (Sum.inr.inj e) (by decide +kernel))]; rw [valV_neg (fun e => absurd (Sum.inr.inj e) (by decide +kernel))]
        rfl
      rw [hv]
      exact go t5 1 2 (SqT.of (s2' _ _ g5)) (by decide +kernel)
    by_cases c6 : ("last" : Str) = x
    · subst c6
      have hv : valV kvs (.inr "last") = some (.ref t6) := by
        rw [← ek]
        rw [valV_neg (fun e => absurd (Sum.inr.inj e) (by decide +kernel))]; rw [valV_neg (fun e => absurd (Sum.inr.inj e) (by decide +kernel))]; rw [valV_neg (fun e => absurd (Sum.inr.inj e) (by decide +kernel))]; rw [valV_neg (fun e => absurd (Sum.inr.inj e) (by decide +kernel))]; rw [valV_neg (fun e => absurd (Sum.inr.inj e) (by decide +kernel))]; rw [valV_neg (fun e => absurd (Sum.inr.inj e) (by decide +kernel))]
        rfl
      rw [hv]
      exact go t6 1 2 (SqT.of (s2' _ _ g6)) (by decide +kernel)
    by_cases c7 : ("bind" : Str) = x
    · subst c7
      have hv : valV kvs (.inr "bind") = some (.ref t7) := by
        rw [← ek]
        rw [valV_neg (fun e => absurd (Sum.inr.inj e) (by decide +kernel))]; rw [valV_neg (fun e => absurd (Sum.inr.inj e) (by decide +kernel))]; rw [valV_neg (fun e => absurd (Sum.inr.inj e) (by decide +kernel))]; rw [valV_neg (fun e => absurd (Sum.inr.inj e) (by decide +kernel))]; rw [valV_neg (fun e => absurd (Sum.inr.inj e) (by decide +kernel))]; rw [valV_neg (fun e => absurd (Sum.inr.inj e) (by decide +kernel))]; rw [valV_neg (fun e => absurd (Sum.inr.inj e) (by decide +kernel))]
        rfl
      rw [hv]
      exact go t7 2 2 (SqT.of (s2' _ _ g7)) (by decide +kernel)
    by_cases c8 : ("value" : Str) = x
    · subst c8
      have hv : valV kvs (.inr "value") = some (.ref t8) := by
        rw [← ek]
        rw [valV_neg (fun e => absurd (Sum.inr.inj e) (by decide +kernel))]; rw [valV_neg (fun e => absurd (Sum.inr.inj e) (by decide +kernel))]; rw [valV_neg (fun e => absurd (Sum.inr.inj e) (by decide +kernel))]; rw [valV_neg (fun e => absurd (Sum.inr.inj e) (by decide +kernel))]; rw [valV_neg (fun e => absurd (Sum.inr.inj e) (by decide +kernel))]; rw [valV_neg (fun e => absurd (Sum.inr.inj e) (by decide +kernel))]; rw [valV_neg (fun e => absurd (Sum.inr.inj e) (by decide +kernel))]; rw [valV_neg (fun e => absurd (Sum.inr.inj e) (by decide +kernel))]
        rfl
      rw [hv]
      exact go t8 2 0 (SqT.of (s2' _ _ g8)) (by decide +kernel)
    by_cases c9 : ("fail" : Str) = x
    · subst c9
      have hv : valV kvs (.inr "fail") = some (.ref t9) := by
        rw [← ek]
        rw [valV_neg (fun e => absurd (Sum.inr.inj e) (by decide +kernel))]; rw [valV_neg (fun e => absurd (Sum.inr.inj e) (by decide +kernel))]; rw [valV_neg (fun e => absurd (Sum.inr.inj e) (by decide +kernel))]; rw [valV_neg (fun e => absurd (Sum.inr.inj e) (by decide +kernel))]; rw [valV_neg (fun e => absurd (Sum.inr.inj e) (by decide +kernel))]; rw [valV_neg (fun e => absurd (Sum.inr.inj e) (by decide +kernel))]; rw [valV_neg (fun e => absurd (Sum.inr.inj e) (by decide +kernel))]; rw [valV_neg (fun e => absurd (Sum.inr.inj e) (by decide +kernel))]; rw [valV_neg (fun e => absurd (Sum.inr.inj e) (by decide +kernel))]
        rfl
      rw [hv]
      exact go t9 2 0 (SqT.of (s2' _ _ g9)) (by decide +kernel)
    by_cases c10 : ("name" : Str) = x
    · subst c10
      have hv : valV kvs (.inr "name") = some (.ref t10) := by
        rw [← ek]
        rw [valV_neg (fun e => absurd (Sum.inr.inj e) (by decide +kernel))]; rw [valV_neg (fun e => absurd (Sum.inr.inj e) (by decide +kernel))]; rw [valV_neg (fun e => absurd (Sum.inr.inj e) (by decide +kernel))]; rw [valV_neg (fun e => absurd (Sum.inr.inj e) (by decide +kernel))]; rw [valV_neg (fun e => absurd (Sum.inr.inj e) (by decide +kernel))]; rw [valV_neg (fun e => absurd (Sum.inr.inj e) (by decide +kernel))]; rw [valV_neg (fun e => absurd (Sum.inr.inj e) (by decide +kernel))]; rw [valV_neg (fun e => absurd (Sum.inr.inj e) (by decide +kernel))]; rw [valV_neg (fun e => absurd (Sum.inr.inj e) (by decide +kernel))]; rw [valV_neg (fun e => absurd (Sum.inr.inj e) (by decide +kernel))]
        rfl
      rw [hv]
      exact go t10 2 0 (SqT.of (s2' _ _ g10)) (by decide +kernel)

    have hno : valV kvs (.inr x) = none := by
      rw [← ek]
      rw [valV_neg (fun e => c0 (Sum.inr.inj e))]
      rw [valV_neg (fun e => c1 (Sum.inr.inj e))]
      rw [valV_neg (fun e => c2 (Sum.inr.inj e))]
      rw [valV_neg (fun e => c3 (Sum.inr.inj e))]
      rw [valV_neg (fun e => c4 (Sum.inr.inj e))]
      rw [valV_neg (fun e => c5 (Sum.inr.inj e))]
      rw [valV_neg (fun e => c6 (Sum.inr.inj e))]
      rw [valV_neg (fun e => c7 (Sum.inr.inj e))]
      rw [valV_neg (fun e => c8 (Sum.inr.inj e))]
      rw [valV_neg (fun e => c9 (Sum.inr.inj e))]
      rw [valV_neg (fun e => c10 (Sum.inr.inj e))]
      rw [valV_neg (fun e => hx (Sum.inr.inj e).symm)]
      rfl
    rw [hno]
    refine go tz 0 0 (SqT.of hz) ?_
    unfold manyOf
    rw [if_neg (fun h : x ∈ nmd => by
      simp only [nmd, List.mem_cons, List.not_mem_nil, or_false] at h
      rcases h with rfl | rfl | rfl <;> first | exact c8 rfl | exact c9 rfl | exact c10 rfl), if_neg (Ne.symm c7)]
    have : opsW.lookup x = none := by
      refine List.lookup_eq_none_iff.mpr fun q hq => ?_
      have hm : q.1 ∈ (["if", "and", "or", "not", "then", "try", "last"] : List Str) := (show ∀ q ∈ opsW, q.1 ∈ (["if", "and", "or", "not", "then", "try", "last"] : List Str) by decide +kernel) q hq
      refine (bne_iff_ne (a := x) (b := q.1)).mpr fun e => ?_
      rw [← e] at hm
      simp only [List.mem_cons, List.not_mem_nil, or_false] at hm
      rcases hm with h | h | h | h | h | h | h
      · exact c0 h.symm
      · exact c1 h.symm
      · exact c2 h.symm
      · exact c3 h.symm
      · exact c4 h.symm
      · exact c5 h.symm
      · exact c6 h.symm
    rw [this]
end
end K4
set_option Elab.async false
set_option linter.all false
set_option autoImplicit false
set_option maxRecDepth 100000
set_option maxHeartbeats 8000000
namespace K4
open PySem PySem.Spec L2 GB
abbrev sLnm : Stmt := topS 42
def lnmN : List Str := ["_law_thing", "_law_letters", "_law_x"]
def spLnm (K : PySem.W.Frag) : Sp := fun vs H Q _ => ∃ x, vs = [x] ∧ ((∃ s : Str, x = .str s ∧ s.length ≤ sizeLine ∧ (∀ c ∈ s.cps.toList, PyData.strOk ⟨#[c]⟩ = true) ∧ ∀ H', Same H H' → Q (.bl (nameB s)) H') ∨ (∃ t, TyX K H x t ∧ PySem.W.kitOne K t (.type "str") = some false ∧ Q (.bl false) H))
theorem sign_in (c : Nat) : decide (c ∈ ("abcdefghijklmnopqrstuvwxyz" : Str).cps.toList) = signB c := by
  have e : ("abcdefghijklmnopqrstuvwxyz" : Str).cps.toList = (List.range 26).map (· + 97) := by decide +kernel
  rw [e, Bool.eq_iff_iff, decide_eq_true_eq]
  have lt1 : ∀ a b : Nat, ([a] < [b]) ↔ a < b := fun a b => by rw [List.cons_lt_cons_iff]; simp
  unfold signB
  simp only [lt1, Bool.and_eq_true, Bool.not_eq_true', decide_eq_false_iff_not, List.mem_map, List.mem_range]
  constructor
  · rintro ⟨k, hk, rfl⟩; omega
  · rintro ⟨h1, h2⟩; exact ⟨c - 97, by omega, by omega⟩
section
variable {P : Program} {w : World} {K : PySem.W.Frag} {mg : Str → Option Value} {base : Heap}
theorem scLnm : FnScope lnmN ["_law_thing"] (defScope sLnm) := ⟨rfl, rfl, rfl, by decide +kernel, rfl, by decide +kernel, by decide +kernel⟩
theorem ok_lnm {f : Addr} {fd : FuncData} (F : Fun K "_law_is_name" "_law_is_name" sLnm f fd) (T : Bl mg) : FnOk P w K mg base CX0 1 f fd ["_law_thing"] (spLnm K) := by
  refine F.ok scLnm (fun vs H Q E h => ?_) (fun cdv A outer s H vs Q E hr h => ?_)
  · obtain ⟨x, rfl, _⟩ := h
    rfl
  · obtain ⟨x, rfl, h⟩ := h
    refine ⟨_, pss_cons (ps_set (i := 1) scLnm.nd rfl (.inr rfl) (pe_str)) (pss_one (ps_ret (pe_and (pe_callB call_isi (by rfl) T.isi (by decide +kernel) (pa_cons (pv 0) (pa_cons (pe_bltn (v := .ty "str") (by rfl) T.str (by decide +kernel) rfl) (pa_nil)))) (pe_and (pe_chain op_lt op_lt pe_int (pe_callB call_len_str (by rfl) T.len PySem.boot_len (pa_cons (pv 0) (pa_nil))) pe_int) (pe_one (pe_cmpR (op_eqD hr.units) (pe_lc (own := [("_law_x", 2)]) (g := gName 2) (tt := tTest (tOp (fun x y H Q => ∃ i j, x = .str i ∧ y = .str j ∧ Q (.bl (!(!(Builtin.Str.occurrences j i 0 j.length 1).isEmpty))) H) (tVar 2) (tVar 1))) rfl scLnm.nd (pi_str (pv 0)) (blkOk_by (own := [("_law_x", 2)]) (N := lnmN) (sc := defScope sLnm) (by decide +kernel)) (fun _ _ _ _ _ => pg_name (i := 2) scLnm.nd rfl (.inl rfl)) (fun _ _ _ _ _ => pts_one (pt_cmpR op_notIn_str (pv 2) (pv 1) (by rfl))) (fun _ _ _ _ _ => pv 2)) (pe_lst (pa_nil)) (nomark _))))))), ?_⟩
    rcases h with ⟨z, rfl, hz, hso, q⟩ | ⟨t, ht, hk, q⟩
    · refine ⟨_, rfl, .str z, .ty "str", .type "str", .type "str", true, rfl, .ty "str", .base (.str z), kit_ty (by decide +kernel), true, rfl, ?_⟩
      refine iteT ?_
      refine ⟨_, rfl, z, rfl, hz, _, _, rfl, rfl, ?_⟩
      refine ⟨_, rfl, ?_⟩
      by_cases c1 : (0 : Int) < (z.length : Int)
      · rw [decide_eq_true c1]
        refine iteT ?_
        refine ⟨_, _, rfl, rfl, _, rfl, ?_⟩
        by_cases c2 : (z.length : Int) < 9
        · rw [decide_eq_true c2]
          refine iteT ?_
          refine ⟨_, rfl, _, rfl, fun D nD => ?_⟩
          have zl : z.cps.size = z.length := rfl
          refine lc_it (n := z.cps.size) walk_str (fun i H' => Same H H' ∧ H' D = some (.lst (((z.cps.toList.take i).filter fun c => !signB c).map fun c => V.str ⟨#[c]⟩))) ⟨same_new nD, by rw [upd_same]; rfl⟩ (fun _ _ _ _ => trivial) ?_ ?_
          · rintro i x H1 H2 hi ⟨s1, h1⟩ ⟨rfl, c, hc, rfl⟩
            have hl : ((z.cps.toList.take i).filter fun c => !signB c).length ≤ 8 := by
              refine Nat.le_trans (List.length_filter_le _ _) ?_
              rw [List.length_take, Array.length_toList]
              omega
            have ec : z.cps.toList.take (i + 1) = z.cps.toList.take i ++ [c] := by
              have hi' : i < z.cps.toList.length := by rw [Array.length_toList]; exact hi
              have : z.cps.toList[i] = c := by
                have := Array.getElem?_eq_some_iff.mp hc
                obtain ⟨_, e⟩ := this
                simpa using e
              rw [List.take_succ_eq_append_getElem hi', this]
            refine ⟨rfl, ?_⟩
            refine ⟨_, rfl, _, rfl, _, _, rfl, rfl, _, rfl, ?_⟩
            rw [show (!(!(Builtin.Str.occurrences ("abcdefghijklmnopqrstuvwxyz" : Str) ⟨#[c]⟩ 0 ("abcdefghijklmnopqrstuvwxyz" : Str).length 1).isEmpty)) = !signB c from by rw [StrLaws.found_one, sign_in]]
            cases hsg : signB c with
            | true =>
              refine iteF ?_
              exact ⟨s1, by rw [ec, List.filter_append, List.filter_cons_of_neg (by simp [hsg]), List.filter_nil, List.append_nil]; exact h1⟩
            | false =>
              refine iteT ?_
              refine ⟨_, rfl, _, h1, by rw [List.length_map, sizeLine_eq]; omega, fun b o e => ?_, ?_⟩
              · rw [upd_ne (ne_of_none e nD)]; exact s1 _ _ e
              · rw [upd_same, ec, List.filter_append, List.filter_cons_of_pos (by simp [hsg]), List.filter_nil, List.map_append]; rfl
          · rintro H' ⟨s', h'⟩
            refine ⟨by show 0 ≤ sizeLine; decide, fun e0 n0 => ?_⟩
            obtain ⟨H2, s2, h2, e2⟩ := lay (o := .lst []) n0
            rw [e2]
            rw [List.take_of_length_le (by rw [Array.length_toList]; exact Nat.le_refl _)] at h'
            obtain ⟨l, el⟩ : ∃ l : List Str, (z.cps.toList.filter fun c => !signB c).map (fun c => (⟨#[c]⟩ : Str)) = l := ⟨_, rfl⟩
            have hl' : H' D = some (.lst (sts l)) := by rw [h', ← el]; unfold sts; rw [List.map_map]; rfl
            have hso' : ∀ v ∈ l, PyData.strOk v = true := fun v hv => by
              rw [← el] at hv
              obtain ⟨c, hc, rfl⟩ := List.mem_map.mp hv
              exact hso c ((List.mem_filter.mp hc).1)
            refine ⟨.list (pst l), .list [], .lst (SqL.of (s2 _ _ hl')) (dp_sts l), .lst (SqL.of h2) .nil, sh_pst hso', by decide +kernel, ?_⟩
            have e : nameB z = PyData.eqv (.list (pst l)) (.list []) := by
              unfold nameB
              rw [decide_eq_true ⟨by omega, by omega⟩, Bool.true_and]
              cases l with
              | nil =>
                rw [show PyData.eqv (.list (pst [])) (.list []) = true by decide +kernel, List.all_eq_true]
                intro c hc
                cases hs : signB c with
                | true => rfl
                | false =>
                  have hf : c ∈ z.cps.toList.filter fun c => !signB c := List.mem_filter.mpr ⟨hc, by rw [hs]; rfl⟩
                  have : (⟨#[c]⟩ : Str) ∈ (z.cps.toList.filter fun c => !signB c).map (fun c => (⟨#[c]⟩ : Str)) := List.mem_map.mpr ⟨c, hf, rfl⟩
                  rw [el] at this
                  cases this
              | cons x r =>
                have hx : x ∈ (z.cps.toList.filter fun c => !signB c).map (fun c => (⟨#[c]⟩ : Str)) := by rw [el]; exact List.mem_cons_self
                obtain ⟨c, hc, _⟩ := List.mem_map.mp hx
                obtain ⟨hc1, hc2⟩ := List.mem_filter.mp hc
                have e1 : PyData.eqv (.list (pst (x :: r))) (.list []) = false := by
                  show PyData.eqv (.list (.str x :: pst r)) (.list []) = false
                  rw [PyData.eqv, PyData.eqvAll]
                rw [e1]
                cases ha : z.cps.toList.all signB with
                | false => rfl
                | true =>
                  rw [List.all_eq_true.mp ha c hc1] at hc2
                  cases hc2
            rw [← e]
            exact q _ (s'.trans s2)
        · rw [decide_eq_false c2]
          refine iteF ?_
          have e : nameB z = false := by
            unfold nameB
            rw [decide_eq_false (by omega), Bool.false_and]
          rw [← e]
          exact q _ (Same.refl _)
      · rw [decide_eq_false c1]
        refine iteF ?_
        have e : nameB z = false := by
          unfold nameB
          rw [decide_eq_false (by omega), Bool.false_and]
        refine ⟨_, rfl, iteF ?_⟩
        rw [← e]
        exact q _ (Same.refl _)
    · refine ⟨_, rfl, x, .ty "str", t, .type "str", false, rfl, .ty "str", ht, hk, false, rfl, ?_⟩
      exact iteF q
end
end K4
set_option Elab.async false
set_option linter.all false
set_option autoImplicit false
set_option maxRecDepth 100000
set_option maxHeartbeats 8000000
namespace K4
open PySem PySem.Spec L2 GB
abbrev sInn : Stmt := topS 43
def innN : List Str := ["_law_g", "_law_thing", "_law_right", "_law_begin", "_law_many_here"]
/-- the terms within any object, where names are not looked at; nothing where it has no term's form -/
def spInn (K : PySem.W.Frag) : Sp := fun vs H Q _ => ∃ (g : Addr) (x : V) (gd : GD) (d : AD), vs = [.ref g, x] ∧ IsG H g gd ∧ gd.Wf ∧ AdAt K H x d ∧
  (((∀ ns, Od gd.letters ns d) ∧ ∀ H', Same H H' → Q .non H') ∨
   (∃ w n ds ns, NodA d w n ds ∧ HeadOk gd.letters ns w n ds.length ∧ ∀ q us H', H q = none → Same H H' → H' q = some (.lst us) → AdAll K H' us ds → Q (.ref q) H'))
theorem okn_of {z : Str} (h : nameB z = true) : z.length ≤ sizeLine ∧ ∀ c ∈ z.cps.toList, PyData.strOk ⟨#[c]⟩ = true := by
  unfold nameB at h
  obtain ⟨h1, h2⟩ := Bool.and_eq_true_iff.mp h
  have h3 := of_decide_eq_true h1
  refine ⟨by rw [sizeLine_eq]; omega, fun c hc => ?_⟩
  have hs := List.all_eq_true.mp h2 c hc
  have lt1 : ∀ a b : Nat, ([a] < [b]) ↔ a < b := fun a b => by rw [List.cons_lt_cons_iff]; simp
  unfold signB at hs
  simp only [lt1, Bool.and_eq_true, Bool.not_eq_true', decide_eq_false_iff_not] at hs
  have : c < 1114112 := by omega
  simp [PyData.strOk, this]
section
variable {P : Program} {w : World} {K : PySem.W.Frag} {mg : Str → Option Value} {base : Heap}
theorem scInn : FnScope innN ["_law_g", "_law_thing"] (defScope sInn) := ⟨rfl, rfl, rfl, by decide +kernel, rfl, by decide +kernel, by decide +kernel⟩
theorem ok_inn {f : Addr} {fd : FuncData} (F : Fun K "_law_inner" "_law_inner" sInn f fd) (T : Bl mg) (MA : Fns P w K mg base "_law_many" 1 ["_law_g", "_law_word"] (spMany K)) (LN : Fns P w K mg base "_law_is_name" 1 ["_law_thing"] (spLnm K)) : FnOk P w K mg base CX0 2 f fd ["_law_g", "_law_thing"] (spInn K) := by
  refine F.ok scInn (fun vs H Q E h => ?_) (fun cdv A outer s H vs Q E hr h => ?_)
  · obtain ⟨g, x, gd, d, rfl, _⟩ := h
    rfl
  · obtain ⟨g, x, gd, d, rfl, hG, wf, hx, h⟩ := h
    refine ⟨_, pss_cons (ps_if (PW.pt (pw_or (pt_not (pt_val (pe_callB call_isiT (by rfl) T.isi (by decide +kernel) (pa_cons (pv 1) (pa_cons (pe_tup (pa_cons (pe_bltn (v := .ty "list") (by rfl) T.list (by decide +kernel) rfl) (pa_cons (pe_bltn (v := .ty "tuple") (by rfl) T.tuple (by decide +kernel) rfl) (pa_nil)))) (pa_nil)))))) (pw_or (pt_cmpR op_eq (pe_callB call_len_seq (by rfl) T.len PySem.boot_len (pa_cons (pv 1) (pa_nil))) (pe_int) (nomark _)) (pw_or1 (pt_not (pt_val (pe_callB call_isi (by rfl) T.isi (by decide +kernel) (pa_cons (pe_ix ix_seq (pv 1) (pe_int) (fun _ _ => rfl)) (pa_cons (pe_bltn (v := .ty "str") (by rfl) T.str (by decide +kernel) rfl) (pa_nil)))))))))) (pss_one (ps_ret pe_non)) (pss_nil)) (pss_cons (ps_if (pt_cmpR op_eq (pe_ix ix_seq (pv 1) (pe_int) (fun _ _ => rfl)) (pe_str) (nomark _)) (pss_cons (ps_if (PW.pt (pw_or (pt_cmpR op_ne (pe_callB call_len_seq (by rfl) T.len PySem.boot_len (pa_cons (pv 1) (pa_nil))) (pe_int) (nomark _)) (pw_or (pt_not (pt_val (pe_callB call_isi (by rfl) T.isi (by decide +kernel) (pa_cons (pe_ix ix_seq (pv 1) (pe_int) (fun _ _ => rfl)) (pa_cons (pe_bltn (v := .ty "str") (by rfl) T.str (by decide +kernel) rfl) (pa_nil)))))) (pw_or1 (pt_cmp (pc_dnotin (hu_of hr) (pe_ix ix_seq (pv 1) (pe_int) (fun _ _ => rfl)) (pe_dget (hu_of hr) (pv 0) (pe_str) (fun _ _ => rfl))) rfl))))) (pss_one (ps_ret pe_non)) (pss_nil)) (pss_cons (ps_set (i := 2) scInn.nd rfl (.inl rfl) (pe_and (pe_callB call_isiT (by rfl) T.isi (by decide +kernel) (pa_cons (pe_ix ix_seq (pv 1) (pe_int) (fun _ _ => rfl)) (pa_cons (pe_tup (pa_cons (pe_bltn (v := .ty "list") (by rfl) T.list (by decide +kernel) rfl) (pa_cons (pe_bltn (v := .ty "tuple") (by rfl) T.tuple (by decide +kernel) rfl) (pa_nil)))) (pa_nil)))) (pe_one (pe_cmpR op_eq (pe_callB call_len_seq (by rfl) T.len PySem.boot_len (pa_cons (pe_ix ix_seq (pv 1) (pe_int) (fun _ _ => rfl)) (pa_nil))) (pe_dget (hu_of hr) (pe_dget (hu_of hr) (pv 0) (pe_str) (fun _ _ => rfl)) (pe_ix ix_seq (pv 1) (pe_int) (fun _ _ => rfl)) (fun _ _ => rfl)) (nomark _))))) (pss_one (ps_ret (pe_ifExp (pt_val (pv 2)) (pe_callTy (call_list_of) (by rfl) T.list (by decide +kernel) (pa_cons (pe_ix ix_seq (pv 1) (pe_int) (fun _ _ => rfl)) (pa_nil))) pe_non))))) (pss_nil)) (pss_cons (ps_asg (pe_fn MA hr (by decide) rfl (pa_cons (pv 0) (pa_cons (pe_ix ix_seq (pv 1) (pe_int) (fun _ _ => rfl)) (pa_nil)))) (pg_tup rfl (pgs_cons (pg_name (i := 3) scInn.nd rfl (.inl rfl)) (pgs_cons (pg_name (i := 4) scInn.nd rfl (.inl rfl)) (pgs_nil))))) (pss_cons (ps_if (PW.pt (pw_or (pt_cmpR op_eq (pv 3) (pe_int) (nomark _)) (pw_or (pt_cmpR op_ne (pe_callB call_len_seq (by rfl) T.len PySem.boot_len (pa_cons (pv 1) (pa_nil))) (pe_op op_add (pv 3) (pv 4)) (nomark _)) (pw_or1 (PW.pt (pw_and (pt_cmpR op_eq (pv 3) (pe_int) (nomark _)) (pw_and1 (pt_not (pt_val (pe_fn LN hr (by decide) rfl (pa_cons (pe_ix ix_seq (pv 1) (pe_int) (fun _ _ => rfl)) (pa_nil)))))))))))) (pss_one (ps_ret pe_non)) (pss_nil)) (pss_one (ps_ret (pe_callTy (call_list_of) (by rfl) T.list (by decide +kernel) (pa_cons (pe_slice sl_any (pv 1) (po_some (pv 3)) po_none) (pa_nil)))))))), ?_⟩
    have nmw : ∀ x ∈ nmd, x ≠ "use" ∧ x ≠ "bind" := by decide
    have opw : ∀ q ∈ opsW, q.1 ≠ "use" ∧ manyOf q.1 = (1, q.2) := by decide +kernel
    rcases h with ⟨hO, q⟩ | ⟨w, n, ds, ns, hN, hH, q⟩
    · cases hO [] with
      | @flat _ hd =>
        refine ⟨_, rfl, by show 2 ≤ sizeLine; decide, fun tt ntt => ?_⟩
        obtain ⟨H1, s1, h1, e1⟩ := lay (o := .tup [.ty "list", .ty "tuple"]) ntt
        rw [e1]
        refine ⟨x, tt, _, _, _, false, rfl, h1, .cons (.ty "list") (.cons (.ty "tuple") .nil), hx.ty _ s1, by rw [kit_sq, hd], false, rfl, ?_⟩
        exact iteT (q _ s1)
      | @empty b =>
        obtain ⟨a, xs, rfl, hs, hall⟩ := hx.sq
        refine ⟨_, rfl, by show 2 ≤ sizeLine; decide, fun tt ntt => ?_⟩
        obtain ⟨H1, s1, h1, e1⟩ := lay (o := .tup [.ty "list", .ty "tuple"]) ntt
        rw [e1]
        refine ⟨.ref a, tt, _, _, _, true, rfl, h1, .cons (.ty "list") (.cons (.ty "tuple") .nil), hx.ty _ s1, kit_sq _, true, rfl, ?_⟩
        refine iteF ?_
        have hs1 := hs.mono s1
        have hall1 := AdAll.mono s1 hall
        refine ⟨_, rfl, a, xs, rfl, hs1, rfl, _, rfl, ?_⟩
        rw [hall1.nil_inv]
        exact iteT (q _ s1)
      | @head b y0 r0 hy0 =>
        obtain ⟨a, xs, rfl, hs, hall⟩ := hx.sq
        refine ⟨_, rfl, by show 2 ≤ sizeLine; decide, fun tt ntt => ?_⟩
        obtain ⟨H1, s1, h1, e1⟩ := lay (o := .tup [.ty "list", .ty "tuple"]) ntt
        rw [e1]
        refine ⟨.ref a, tt, _, _, _, true, rfl, h1, .cons (.ty "list") (.cons (.ty "tuple") .nil), hx.ty _ s1, kit_sq _, true, rfl, ?_⟩
        refine iteF ?_
        have hs1 := hs.mono s1
        have hall1 := AdAll.mono s1 hall
        refine ⟨_, rfl, a, xs, rfl, hs1, rfl, _, rfl, ?_⟩
        obtain ⟨y, r, rfl, hy, hr⟩ := hall1.cons_inv
        rw [decI, decide_eq_false (by rw [List.length_cons]; omega)]
        refine iteF ?_
        refine ⟨_, rfl, ixA hs1 0 rfl ⟨y, .ty "str", _, .type "str", _, rfl, .ty "str", hy.ty _ (Same.refl _), kit_str _, _, rfl, ?_⟩⟩
        rw [hy0]
        exact iteT (q _ s1)
      | @ulen b r0 hl =>
        obtain ⟨a, xs, rfl, hs, hall⟩ := hx.sq
        refine ⟨_, rfl, by show 2 ≤ sizeLine; decide, fun tt ntt => ?_⟩
        obtain ⟨H1, s1, h1, e1⟩ := lay (o := .tup [.ty "list", .ty "tuple"]) ntt
        rw [e1]
        refine ⟨.ref a, tt, _, _, _, true, rfl, h1, .cons (.ty "list") (.cons (.ty "tuple") .nil), hx.ty _ s1, kit_sq _, true, rfl, ?_⟩
        refine iteF ?_
        have hs1 := hs.mono s1
        have hall1 := AdAll.mono s1 hall
        refine ⟨_, rfl, a, xs, rfl, hs1, rfl, _, rfl, ?_⟩
        obtain ⟨y, r, rfl, hy, hr⟩ := hall1.cons_inv
        rw [decI, decide_eq_false (by rw [List.length_cons]; omega)]
        refine iteF ?_
        refine ⟨_, rfl, ixA hs1 0 rfl ⟨y, .ty "str", _, .type "str", _, rfl, .ty "str", hy.ty _ (Same.refl _), kit_str _, _, rfl, ?_⟩⟩
        refine iteF ?_
        obtain rfl := hy.str_inv
        refine ⟨_, rfl, ixA hs1 0 rfl ⟨rfl, _, rfl, ?_⟩⟩
        rw [decS, decide_eq_true (rfl)]
        refine iteT ?_
        refine ⟨_, rfl, a, _, rfl, hs1, rfl, _, rfl, ?_⟩
        rw [decI, decide_eq_false (by rw [List.length_cons, hr.len]; omega)]
        exact iteT (q _ s1)
      | @uname b y0 e0 hn =>
        obtain ⟨a, xs, rfl, hs, hall⟩ := hx.sq
        refine ⟨_, rfl, by show 2 ≤ sizeLine; decide, fun tt ntt => ?_⟩
        obtain ⟨H1, s1, h1, e1⟩ := lay (o := .tup [.ty "list", .ty "tuple"]) ntt
        rw [e1]
        refine ⟨.ref a, tt, _, _, _, true, rfl, h1, .cons (.ty "list") (.cons (.ty "tuple") .nil), hx.ty _ s1, kit_sq _, true, rfl, ?_⟩
        refine iteF ?_
        have hs1 := hs.mono s1
        have hall1 := AdAll.mono s1 hall
        refine ⟨_, rfl, a, xs, rfl, hs1, rfl, _, rfl, ?_⟩
        obtain ⟨y, r, rfl, hy, hr⟩ := hall1.cons_inv
        rw [decI, decide_eq_false (by rw [List.length_cons]; omega)]
        refine iteF ?_
        refine ⟨_, rfl, ixA hs1 0 rfl ⟨y, .ty "str", _, .type "str", _, rfl, .ty "str", hy.ty _ (Same.refl _), kit_str _, _, rfl, ?_⟩⟩
        refine iteF ?_
        obtain rfl := hy.str_inv
        refine ⟨_, rfl, ixA hs1 0 rfl ⟨rfl, _, rfl, ?_⟩⟩
        rw [decS, decide_eq_true (rfl)]
        refine iteT ?_
        obtain ⟨v2, r2, rfl, hy2, hr2⟩ := hr.cons_inv
        obtain ⟨v3, r3, rfl, hy3, hr3⟩ := hr2.cons_inv
        obtain rfl := hr3.nil_inv
        refine ⟨_, rfl, a, _, rfl, hs1, rfl, _, rfl, ?_⟩
        refine iteF ?_
        obtain ⟨aL, aF, aC, aT, g1, g2, _⟩ := hG.ex
        have DG : DGet H1 g (.str "letters") (some (.ref aL)) := .inl ⟨_, .inr "letters", .inl (s1 _ _ g1), rfl, rfl⟩
        have DL : ∀ z : Str, DGet H1 aL (.str z) (valV (lkv gd.letters) (.inr z : Key)) := fun z => .inl ⟨_, .inr z, .inl (s1 _ _ g2), rfl, rfl⟩
        refine ⟨_, rfl, ixA hs1 1 rfl ⟨v2, .ty "str", _, .type "str", _, rfl, .ty "str", hy2.ty _ (Same.refl _), kit_str _, _, rfl, ?_⟩⟩
        rcases hn with ⟨z, rfl, hz⟩ | hn
        · refine iteF ?_
          obtain rfl := hy2.str_inv
          refine ⟨_, rfl, ixA hs1 1 rfl ⟨_, rfl, g, _, rfl, DG, aL, _, rfl, DL z, _, rfl, ?_⟩⟩
          rw [valV_no hz]
          exact iteT (q _ s1)
        · rw [hn]
          exact iteT (q _ s1)
      | @uparts b n0 m0 e0 hm he =>
        obtain ⟨a, xs, rfl, hs, hall⟩ := hx.sq
        refine ⟨_, rfl, by show 2 ≤ sizeLine; decide, fun tt ntt => ?_⟩
        obtain ⟨H1, s1, h1, e1⟩ := lay (o := .tup [.ty "list", .ty "tuple"]) ntt
        rw [e1]
        refine ⟨.ref a, tt, _, _, _, true, rfl, h1, .cons (.ty "list") (.cons (.ty "tuple") .nil), hx.ty _ s1, kit_sq _, true, rfl, ?_⟩
        refine iteF ?_
        have hs1 := hs.mono s1
        have hall1 := AdAll.mono s1 hall
        refine ⟨_, rfl, a, xs, rfl, hs1, rfl, _, rfl, ?_⟩
        obtain ⟨y, r, rfl, hy, hr⟩ := hall1.cons_inv
        rw [decI, decide_eq_false (by rw [List.length_cons]; omega)]
        refine iteF ?_
        refine ⟨_, rfl, ixA hs1 0 rfl ⟨y, .ty "str", _, .type "str", _, rfl, .ty "str", hy.ty _ (Same.refl _), kit_str _, _, rfl, ?_⟩⟩
        refine iteF ?_
        obtain rfl := hy.str_inv
        refine ⟨_, rfl, ixA hs1 0 rfl ⟨rfl, _, rfl, ?_⟩⟩
        rw [decS, decide_eq_true (rfl)]
        refine iteT ?_
        obtain ⟨v2, r2, rfl, hy2, hr2⟩ := hr.cons_inv
        obtain ⟨v3, r3, rfl, hy3, hr3⟩ := hr2.cons_inv
        obtain rfl := hr3.nil_inv
        refine ⟨_, rfl, a, _, rfl, hs1, rfl, _, rfl, ?_⟩
        refine iteF ?_
        obtain ⟨aL, aF, aC, aT, g1, g2, _⟩ := hG.ex
        have DG : DGet H1 g (.str "letters") (some (.ref aL)) := .inl ⟨_, .inr "letters", .inl (s1 _ _ g1), rfl, rfl⟩
        have DL : ∀ z : Str, DGet H1 aL (.str z) (valV (lkv gd.letters) (.inr z : Key)) := fun z => .inl ⟨_, .inr z, .inl (s1 _ _ g2), rfl, rfl⟩
        refine ⟨_, rfl, ixA hs1 1 rfl ⟨v2, .ty "str", _, .type "str", _, rfl, .ty "str", hy2.ty _ (Same.refl _), kit_str _, _, rfl, ?_⟩⟩
        refine iteF ?_
        obtain rfl := hy2.str_inv
        have hv : valV (lkv gd.letters) (.inr n0 : Key) = some (.int (m0 : Int)) := valV_lkv wf.nd hm
        refine ⟨_, rfl, ixA hs1 1 rfl ⟨_, rfl, g, _, rfl, DG, aL, _, rfl, DL n0, _, rfl, ?_⟩⟩
        rw [hv]
        refine iteF ?_
        refine ⟨_, rfl, ixA hs1 2 rfl ⟨by show 2 ≤ sizeLine; decide, fun t3 nt3 => ?_⟩⟩
        obtain ⟨H3, s3, h3, e3⟩ := lay (o := .tup [.ty "list", .ty "tuple"]) nt3
        rw [e3]
        refine ⟨v3, t3, _, _, _, false, rfl, h3, .cons (.ty "list") (.cons (.ty "tuple") .nil), hy3.ty _ s3, by rw [kit_sq, he], false, rfl, ?_⟩
        refine iteF ?_
        refine ⟨_, rfl, _, rfl, ?_⟩
        exact iteF (q _ (s1.trans s3))
      | @bname b y0 a0 c0 hn =>
        obtain ⟨a, xs, rfl, hs, hall⟩ := hx.sq
        refine ⟨_, rfl, by show 2 ≤ sizeLine; decide, fun tt ntt => ?_⟩
        obtain ⟨H1, s1, h1, e1⟩ := lay (o := .tup [.ty "list", .ty "tuple"]) ntt
        rw [e1]
        refine ⟨.ref a, tt, _, _, _, true, rfl, h1, .cons (.ty "list") (.cons (.ty "tuple") .nil), hx.ty _ s1, kit_sq _, true, rfl, ?_⟩
        refine iteF ?_
        have hs1 := hs.mono s1
        have hall1 := AdAll.mono s1 hall
        refine ⟨_, rfl, a, xs, rfl, hs1, rfl, _, rfl, ?_⟩
        obtain ⟨y, r, rfl, hy, hr⟩ := hall1.cons_inv
        rw [decI, decide_eq_false (by rw [List.length_cons]; omega)]
        refine iteF ?_
        refine ⟨_, rfl, ixA hs1 0 rfl ⟨y, .ty "str", _, .type "str", _, rfl, .ty "str", hy.ty _ (Same.refl _), kit_str _, _, rfl, ?_⟩⟩
        refine iteF ?_
        obtain rfl := hy.str_inv
        refine ⟨_, rfl, ixA hs1 0 rfl ⟨rfl, _, rfl, ?_⟩⟩
        rw [decS, decide_eq_false (by decide)]
        refine iteF ?_
        obtain ⟨v2, r2, rfl, hy2, hr2⟩ := hr.cons_inv
        obtain ⟨v3, r3, rfl, hy3, hr3⟩ := hr2.cons_inv
        obtain ⟨v4, r4, rfl, hy4, hr4⟩ := hr3.cons_inv
        obtain rfl := hr4.nil_inv
        refine ⟨_, rfl, _, rfl, ixA hs1 0 rfl ⟨_, _, rfl, by decide, fun tm H2 s2 hm => ?_⟩⟩
        refine ⟨tm, _, rfl, hm, rfl, _, _, rfl, _, _, rfl, rfl, ?_⟩
        rw [show manyOf "bind" = (2, 2) from by decide +kernel]
        refine ⟨_, rfl, rfl, _, rfl, ?_⟩
        rw [decI, decide_eq_false (by decide)]
        refine iteF ?_
        have hs2 := hs1.mono s2
        refine ⟨_, rfl, a, _, rfl, hs2, _, rfl, _, rfl, _, _, rfl, rfl, rfl, _, rfl, ?_⟩
        rw [decI, decide_eq_true (by rfl)]
        refine iteF ?_
        refine ⟨_, rfl, rfl, _, rfl, ?_⟩
        rw [decI, decide_eq_true (by decide)]
        refine iteT ?_
        refine ⟨_, rfl, ixA hs2 1 rfl ⟨v2, rfl, ?_⟩⟩
        rcases hn with ⟨z, rfl, hz, hzl, hzs⟩ | hn
        · obtain rfl := hy2.str_inv
          refine .inl ⟨z, rfl, hzl, hzs, fun H3 s3 => ⟨_, rfl, ?_⟩⟩
          rw [hz]
          exact iteT (q _ ((s1.trans s2).trans s3))
        · refine .inr ⟨_, hy2.ty _ s2, by rw [kit_str, hn], ⟨_, rfl, ?_⟩⟩
          exact iteT (q _ (s1.trans s2))
      | @nlen b wd r0 hw hl =>
        obtain ⟨a, xs, rfl, hs, hall⟩ := hx.sq
        refine ⟨_, rfl, by show 2 ≤ sizeLine; decide, fun tt ntt => ?_⟩
        obtain ⟨H1, s1, h1, e1⟩ := lay (o := .tup [.ty "list", .ty "tuple"]) ntt
        rw [e1]
        refine ⟨.ref a, tt, _, _, _, true, rfl, h1, .cons (.ty "list") (.cons (.ty "tuple") .nil), hx.ty _ s1, kit_sq _, true, rfl, ?_⟩
        refine iteF ?_
        have hs1 := hs.mono s1
        have hall1 := AdAll.mono s1 hall
        refine ⟨_, rfl, a, xs, rfl, hs1, rfl, _, rfl, ?_⟩
        obtain ⟨y, r, rfl, hy, hr⟩ := hall1.cons_inv
        rw [decI, decide_eq_false (by rw [List.length_cons]; omega)]
        refine iteF ?_
        refine ⟨_, rfl, ixA hs1 0 rfl ⟨y, .ty "str", _, .type "str", _, rfl, .ty "str", hy.ty _ (Same.refl _), kit_str _, _, rfl, ?_⟩⟩
        refine iteF ?_
        obtain rfl := hy.str_inv
        refine ⟨_, rfl, ixA hs1 0 rfl ⟨rfl, _, rfl, ?_⟩⟩
        rw [decS, decide_eq_false ((nmw _ hw).1)]
        refine iteF ?_
        refine ⟨_, rfl, _, rfl, ixA hs1 0 rfl ⟨_, _, rfl, (nmw _ hw).1, fun tm H2 s2 hm => ?_⟩⟩
        refine ⟨tm, _, rfl, hm, rfl, _, _, rfl, _, _, rfl, rfl, ?_⟩
        rw [show manyOf wd = (2, 0) from by unfold manyOf; rw [if_pos hw]]
        refine ⟨_, rfl, rfl, _, rfl, ?_⟩
        rw [decI, decide_eq_false (by decide)]
        refine iteF ?_
        have hs2 := hs1.mono s2
        refine ⟨_, rfl, a, _, rfl, hs2, _, rfl, _, rfl, _, _, rfl, rfl, rfl, _, rfl, ?_⟩
        rw [decI, decide_eq_false (by rw [List.length_cons, hr.len]; omega)]
        exact iteT (q _ (s1.trans s2))
      | @nname b wd y0 hw hn =>
        obtain ⟨a, xs, rfl, hs, hall⟩ := hx.sq
        refine ⟨_, rfl, by show 2 ≤ sizeLine; decide, fun tt ntt => ?_⟩
        obtain ⟨H1, s1, h1, e1⟩ := lay (o := .tup [.ty "list", .ty "tuple"]) ntt
        rw [e1]
        refine ⟨.ref a, tt, _, _, _, true, rfl, h1, .cons (.ty "list") (.cons (.ty "tuple") .nil), hx.ty _ s1, kit_sq _, true, rfl, ?_⟩
        refine iteF ?_
        have hs1 := hs.mono s1
        have hall1 := AdAll.mono s1 hall
        refine ⟨_, rfl, a, xs, rfl, hs1, rfl, _, rfl, ?_⟩
        obtain ⟨y, r, rfl, hy, hr⟩ := hall1.cons_inv
        rw [decI, decide_eq_false (by rw [List.length_cons]; omega)]
        refine iteF ?_
        refine ⟨_, rfl, ixA hs1 0 rfl ⟨y, .ty "str", _, .type "str", _, rfl, .ty "str", hy.ty _ (Same.refl _), kit_str _, _, rfl, ?_⟩⟩
        refine iteF ?_
        obtain rfl := hy.str_inv
        refine ⟨_, rfl, ixA hs1 0 rfl ⟨rfl, _, rfl, ?_⟩⟩
        rw [decS, decide_eq_false ((nmw _ hw).1)]
        refine iteF ?_
        obtain ⟨v2, r2, rfl, hy2, hr2⟩ := hr.cons_inv
        obtain rfl := hr2.nil_inv
        refine ⟨_, rfl, _, rfl, ixA hs1 0 rfl ⟨_, _, rfl, (nmw _ hw).1, fun tm H2 s2 hm => ?_⟩⟩
        refine ⟨tm, _, rfl, hm, rfl, _, _, rfl, _, _, rfl, rfl, ?_⟩
        rw [show manyOf wd = (2, 0) from by unfold manyOf; rw [if_pos hw]]
        refine ⟨_, rfl, rfl, _, rfl, ?_⟩
        rw [decI, decide_eq_false (by decide)]
        refine iteF ?_
        have hs2 := hs1.mono s2
        refine ⟨_, rfl, a, _, rfl, hs2, _, rfl, _, rfl, _, _, rfl, rfl, rfl, _, rfl, ?_⟩
        rw [decI, decide_eq_true (by rfl)]
        refine iteF ?_
        refine ⟨_, rfl, rfl, _, rfl, ?_⟩
        rw [decI, decide_eq_true (by decide)]
        refine iteT ?_
        refine ⟨_, rfl, ixA hs2 1 rfl ⟨v2, rfl, ?_⟩⟩
        rcases hn with ⟨z, rfl, hz, hzl, hzs⟩ | hn
        · obtain rfl := hy2.str_inv
          refine .inl ⟨z, rfl, hzl, hzs, fun H3 s3 => ⟨_, rfl, ?_⟩⟩
          rw [hz]
          exact iteT (q _ ((s1.trans s2).trans s3))
        · refine .inr ⟨_, hy2.ty _ s2, by rw [kit_str, hn], ⟨_, rfl, ?_⟩⟩
          exact iteT (q _ (s1.trans s2))
      | @free b n0 h1 h2 =>
        cases hO [n0] with
        | @flat _ hd => cases hd
        | @head _ _ _ hd => cases hd
        | @nlen _ _ _ hw hl => exact absurd rfl hl
        | @nname _ _ _ hw hn =>
          rcases hn with ⟨z, e, hz, _⟩ | hn
          · cases e; rw [h1] at hz; cases hz
          · cases hn
        | @free _ _ h3 h4 => exact absurd List.mem_cons_self h4
        | @olen _ _ _ _ hm hl => exact absurd rfl ((show ∀ q ∈ opsW, q.1 ≠ "name" by decide) _ hm)
      | @word b r0 =>
        obtain ⟨a, xs, rfl, hs, hall⟩ := hx.sq
        refine ⟨_, rfl, by show 2 ≤ sizeLine; decide, fun tt ntt => ?_⟩
        obtain ⟨H1, s1, h1, e1⟩ := lay (o := .tup [.ty "list", .ty "tuple"]) ntt
        rw [e1]
        refine ⟨.ref a, tt, _, _, _, true, rfl, h1, .cons (.ty "list") (.cons (.ty "tuple") .nil), hx.ty _ s1, kit_sq _, true, rfl, ?_⟩
        refine iteF ?_
        have hs1 := hs.mono s1
        have hall1 := AdAll.mono s1 hall
        refine ⟨_, rfl, a, xs, rfl, hs1, rfl, _, rfl, ?_⟩
        obtain ⟨y, r, rfl, hy, hr⟩ := hall1.cons_inv
        rw [decI, decide_eq_false (by rw [List.length_cons]; omega)]
        refine iteF ?_
        refine ⟨_, rfl, ixA hs1 0 rfl ⟨y, .ty "str", _, .type "str", _, rfl, .ty "str", hy.ty _ (Same.refl _), kit_str _, _, rfl, ?_⟩⟩
        refine iteF ?_
        obtain rfl := hy.str_inv
        refine ⟨_, rfl, ixA hs1 0 rfl ⟨rfl, _, rfl, ?_⟩⟩
        rw [decS, decide_eq_false (by decide)]
        refine iteF ?_
        refine ⟨_, rfl, _, rfl, ixA hs1 0 rfl ⟨_, _, rfl, by decide, fun tm H2 s2 hm => ?_⟩⟩
        refine ⟨tm, _, rfl, hm, rfl, _, _, rfl, _, _, rfl, rfl, ?_⟩
        rw [show manyOf "xor" = (0, 0) from by decide +kernel]
        refine ⟨_, rfl, rfl, _, rfl, ?_⟩
        exact iteT (q _ (s1.trans s2))
      | @olen b wd m0 r0 hm0 hl =>
        obtain ⟨a, xs, rfl, hs, hall⟩ := hx.sq
        refine ⟨_, rfl, by show 2 ≤ sizeLine; decide, fun tt ntt => ?_⟩
        obtain ⟨H1, s1, h1, e1⟩ := lay (o := .tup [.ty "list", .ty "tuple"]) ntt
        rw [e1]
        refine ⟨.ref a, tt, _, _, _, true, rfl, h1, .cons (.ty "list") (.cons (.ty "tuple") .nil), hx.ty _ s1, kit_sq _, true, rfl, ?_⟩
        refine iteF ?_
        have hs1 := hs.mono s1
        have hall1 := AdAll.mono s1 hall
        refine ⟨_, rfl, a, xs, rfl, hs1, rfl, _, rfl, ?_⟩
        obtain ⟨y, r, rfl, hy, hr⟩ := hall1.cons_inv
        rw [decI, decide_eq_false (by rw [List.length_cons]; omega)]
        refine iteF ?_
        refine ⟨_, rfl, ixA hs1 0 rfl ⟨y, .ty "str", _, .type "str", _, rfl, .ty "str", hy.ty _ (Same.refl _), kit_str _, _, rfl, ?_⟩⟩
        refine iteF ?_
        obtain rfl := hy.str_inv
        refine ⟨_, rfl, ixA hs1 0 rfl ⟨rfl, _, rfl, ?_⟩⟩
        rw [decS, decide_eq_false ((opw _ hm0).1)]
        refine iteF ?_
        refine ⟨_, rfl, _, rfl, ixA hs1 0 rfl ⟨_, _, rfl, (opw _ hm0).1, fun tm H2 s2 hm => ?_⟩⟩
        refine ⟨tm, _, rfl, hm, rfl, _, _, rfl, _, _, rfl, rfl, ?_⟩
        rw [show manyOf wd = (1, m0) from (opw _ hm0).2]
        refine ⟨_, rfl, rfl, _, rfl, ?_⟩
        rw [decI, decide_eq_false (by show ¬ ((1 : Nat) : Int) = 0; decide)]
        refine iteF ?_
        have hs2 := hs1.mono s2
        refine ⟨_, rfl, a, _, rfl, hs2, _, rfl, _, rfl, _, _, rfl, rfl, rfl, _, rfl, ?_⟩
        rw [decI, decide_eq_false (by rw [List.length_cons, hr.len]; omega)]
        exact iteT (q _ (s1.trans s2))
    · have okn : ∀ {z : Str}, nameB z = true → z.length ≤ sizeLine ∧ ∀ c ∈ z.cps.toList, PyData.strOk ⟨#[c]⟩ = true := okn_of
      cases hN with
      | @leaf b _ _ hw =>
        have hn : nameB n = true := by
          cases hH with
          | val h => exact h
          | fail h => exact h
          | name h _ => exact h
          | use _ => exact absurd hw (by decide)
          | op hm => exact absurd hw ((show ∀ q ∈ opsW, q.1 ∉ nmd by decide) _ hm)
        obtain ⟨a, xs, rfl, hs, hall⟩ := hx.sq
        refine ⟨_, rfl, by show 2 ≤ sizeLine; decide, fun tt ntt => ?_⟩
        obtain ⟨H1, s1, h1, e1⟩ := lay (o := .tup [.ty "list", .ty "tuple"]) ntt
        rw [e1]
        refine ⟨.ref a, tt, _, _, _, true, rfl, h1, .cons (.ty "list") (.cons (.ty "tuple") .nil), hx.ty _ s1, kit_sq _, true, rfl, ?_⟩
        refine iteF ?_
        have hs1 := hs.mono s1
        have hall1 := AdAll.mono s1 hall
        refine ⟨_, rfl, a, xs, rfl, hs1, rfl, _, rfl, ?_⟩
        obtain ⟨y, r, rfl, hy, hr⟩ := hall1.cons_inv
        rw [decI, decide_eq_false (by rw [List.length_cons]; omega)]
        refine iteF ?_
        refine ⟨_, rfl, ixA hs1 0 rfl ⟨y, .ty "str", _, .type "str", _, rfl, .ty "str", hy.ty _ (Same.refl _), kit_str _, _, rfl, ?_⟩⟩
        refine iteF ?_
        obtain rfl := hy.str_inv
        refine ⟨_, rfl, ixA hs1 0 rfl ⟨rfl, _, rfl, ?_⟩⟩
        rw [decS, decide_eq_false ((nmw _ hw).1)]
        refine iteF ?_
        obtain ⟨v2, r2, rfl, hy2, hr2⟩ := hr.cons_inv
        obtain rfl := hr2.nil_inv
        obtain rfl := hy2.str_inv
        refine ⟨_, rfl, _, rfl, ixA hs1 0 rfl ⟨_, _, rfl, (nmw _ hw).1, fun tm H2 s2 hm => ?_⟩⟩
        refine ⟨tm, _, rfl, hm, rfl, _, _, rfl, _, _, rfl, rfl, ?_⟩
        rw [show manyOf w = (2, 0) from by unfold manyOf; rw [if_pos hw]]
        refine ⟨_, rfl, rfl, _, rfl, ?_⟩
        rw [decI, decide_eq_false (by decide)]
        refine iteF ?_
        have hs2 := hs1.mono s2
        refine ⟨_, rfl, a, _, rfl, hs2, _, rfl, _, rfl, _, _, rfl, rfl, rfl, _, rfl, ?_⟩
        rw [decI, decide_eq_true (by rfl)]
        refine iteF ?_
        refine ⟨_, rfl, rfl, _, rfl, ?_⟩
        rw [decI, decide_eq_true (by decide)]
        refine iteT ?_
        refine ⟨_, rfl, ixA hs2 1 rfl ⟨_, rfl, .inl ⟨n, rfl, (okn hn).1, (okn hn).2, fun H3 s3 => ⟨_, rfl, ?_⟩⟩⟩⟩
        rw [hn]
        refine iteF ?_
        refine ⟨_, rfl, _, rfl, _, rfl, slH (ps := []) (fun q hq => nomatch hq) ((hs2.mono s3).mono same_hid0) 2 fun b2 H5 s5 hb2 => ?_⟩
        refine ⟨b2, _, rfl, hb2.mono (hid_low _ _), fun l nl => ?_⟩
        obtain ⟨H6, s6, h6, e6⟩ := lay (o := .lst []) nl
        rw [show ([V.str w, V.str n] : List V).drop 2 = [] from rfl, e6]
        have S5 : Same H H5 := ((s1.trans s2).trans s3).trans s5
        have hl0 : H l = none := by
          cases e : H l with
          | none => rfl
          | some o => rw [S5 _ _ e] at nl; cases nl
        exact q l _ H6 hl0 (S5.trans s6) h6 .nil
      | @bind b _ _ =>
        obtain ⟨hn, hl2⟩ : nameB n = true ∧ ds.length = 2 := by
          generalize hm : ds.length = m at hH
          cases hH with
          | bind h _ => exact ⟨h, rfl⟩
          | op ho => exact absurd rfl ((show ∀ q ∈ opsW, q.1 ≠ "bind" by decide) _ ho)
        obtain ⟨a, xs, rfl, hs, hall⟩ := hx.sq
        refine ⟨_, rfl, by show 2 ≤ sizeLine; decide, fun tt ntt => ?_⟩
        obtain ⟨H1, s1, h1, e1⟩ := lay (o := .tup [.ty "list", .ty "tuple"]) ntt
        rw [e1]
        refine ⟨.ref a, tt, _, _, _, true, rfl, h1, .cons (.ty "list") (.cons (.ty "tuple") .nil), hx.ty _ s1, kit_sq _, true, rfl, ?_⟩
        refine iteF ?_
        have hs1 := hs.mono s1
        have hall1 := AdAll.mono s1 hall
        refine ⟨_, rfl, a, xs, rfl, hs1, rfl, _, rfl, ?_⟩
        obtain ⟨y, r, rfl, hy, hr⟩ := hall1.cons_inv
        rw [decI, decide_eq_false (by rw [List.length_cons]; omega)]
        refine iteF ?_
        refine ⟨_, rfl, ixA hs1 0 rfl ⟨y, .ty "str", _, .type "str", _, rfl, .ty "str", hy.ty _ (Same.refl _), kit_str _, _, rfl, ?_⟩⟩
        refine iteF ?_
        obtain rfl := hy.str_inv
        refine ⟨_, rfl, ixA hs1 0 rfl ⟨rfl, _, rfl, ?_⟩⟩
        rw [decS, decide_eq_false (by decide)]
        refine iteF ?_
        obtain ⟨v2, r2, rfl, hy2, hr2⟩ := hr.cons_inv
        obtain rfl := hy2.str_inv
        refine ⟨_, rfl, _, rfl, ixA hs1 0 rfl ⟨_, _, rfl, by decide, fun tm H2 s2 hm => ?_⟩⟩
        refine ⟨tm, _, rfl, hm, rfl, _, _, rfl, _, _, rfl, rfl, ?_⟩
        rw [show manyOf "bind" = (2, 2) from by decide +kernel]
        refine ⟨_, rfl, rfl, _, rfl, ?_⟩
        rw [decI, decide_eq_false (by decide)]
        refine iteF ?_
        have hs2 := hs1.mono s2
        refine ⟨_, rfl, a, _, rfl, hs2, _, rfl, _, rfl, _, _, rfl, rfl, rfl, _, rfl, ?_⟩
        rw [decI, decide_eq_true (by rw [List.length_cons, List.length_cons, hr2.len, hl2]; rfl)]
        refine iteF ?_
        refine ⟨_, rfl, rfl, _, rfl, ?_⟩
        rw [decI, decide_eq_true (by decide)]
        refine iteT ?_
        refine ⟨_, rfl, ixA hs2 1 rfl ⟨_, rfl, .inl ⟨n, rfl, (okn hn).1, (okn hn).2, fun H3 s3 => ⟨_, rfl, ?_⟩⟩⟩⟩
        rw [hn]
        refine iteF ?_
        refine ⟨_, rfl, _, rfl, _, rfl, slH (ps := []) (fun q hq => nomatch hq) ((hs2.mono s3).mono same_hid0) 2 fun b2 H5 s5 hb2 => ?_⟩
        refine ⟨b2, _, rfl, hb2.mono (hid_low _ _), fun l nl => ?_⟩
        obtain ⟨H6, s6, h6, e6⟩ := lay (o := .lst r2) nl
        rw [show (V.str "bind" :: V.str n :: r2 : List V).drop 2 = r2 from rfl, e6]
        have S5 : Same H H5 := ((s1.trans s2).trans s3).trans s5
        have hl0 : H l = none := by
          cases e : H l with
          | none => rfl
          | some o => rw [S5 _ _ e] at nl; cases nl
        exact q l _ H6 hl0 (S5.trans s6) h6 (AdAll.mono (((s2.trans s3).trans s5).trans s6) hr2)
      | @op b _ m0 _ hm0 =>
        have hl2 : ds.length = m0 := by
          generalize hm : ds.length = m at hH
          have u := show ∀ q ∈ opsW, q.1 ≠ "value" ∧ q.1 ≠ "fail" ∧ q.1 ≠ "name" ∧ q.1 ≠ "use" ∧ q.1 ≠ "bind" by decide
          obtain ⟨u1, u2, u3, u4, u5⟩ := u _ hm0
          cases hH with
          | val _ => exact absurd rfl u1
          | fail _ => exact absurd rfl u2
          | name _ _ => exact absurd rfl u3
          | use _ => exact absurd rfl u4
          | bind _ _ => exact absurd rfl u5
          | op ho => exact (show ∀ q ∈ opsW, ∀ r ∈ opsW, q.1 = r.1 → q.2 = r.2 by decide) _ ho _ hm0 rfl
        obtain ⟨a, xs, rfl, hs, hall⟩ := hx.sq
        refine ⟨_, rfl, by show 2 ≤ sizeLine; decide, fun tt ntt => ?_⟩
        obtain ⟨H1, s1, h1, e1⟩ := lay (o := .tup [.ty "list", .ty "tuple"]) ntt
        rw [e1]
        refine ⟨.ref a, tt, _, _, _, true, rfl, h1, .cons (.ty "list") (.cons (.ty "tuple") .nil), hx.ty _ s1, kit_sq _, true, rfl, ?_⟩
        refine iteF ?_
        have hs1 := hs.mono s1
        have hall1 := AdAll.mono s1 hall
        refine ⟨_, rfl, a, xs, rfl, hs1, rfl, _, rfl, ?_⟩
        obtain ⟨y, r, rfl, hy, hr⟩ := hall1.cons_inv
        rw [decI, decide_eq_false (by rw [List.length_cons]; omega)]
        refine iteF ?_
        refine ⟨_, rfl, ixA hs1 0 rfl ⟨y, .ty "str", _, .type "str", _, rfl, .ty "str", hy.ty _ (Same.refl _), kit_str _, _, rfl, ?_⟩⟩
        refine iteF ?_
        obtain rfl := hy.str_inv
        refine ⟨_, rfl, ixA hs1 0 rfl ⟨rfl, _, rfl, ?_⟩⟩
        rw [decS, decide_eq_false ((opw _ hm0).1)]
        refine iteF ?_
        refine ⟨_, rfl, _, rfl, ixA hs1 0 rfl ⟨_, _, rfl, (opw _ hm0).1, fun tm H2 s2 hm => ?_⟩⟩
        refine ⟨tm, _, rfl, hm, rfl, _, _, rfl, _, _, rfl, rfl, ?_⟩
        rw [show manyOf w = (1, m0) from (opw _ hm0).2]
        refine ⟨_, rfl, rfl, _, rfl, ?_⟩
        rw [decI, decide_eq_false (by show ¬ ((1 : Nat) : Int) = 0; decide)]
        refine iteF ?_
        have hs2 := hs1.mono s2
        refine ⟨_, rfl, a, _, rfl, hs2, _, rfl, _, rfl, _, _, rfl, rfl, rfl, _, rfl, ?_⟩
        rw [decI, decide_eq_true (by rw [List.length_cons, hr.len, hl2]; show ((m0 + 1 : Nat) : Int) = ((1 : Nat) : Int) + (m0 : Int); omega)]
        refine iteF ?_
        refine ⟨_, rfl, rfl, _, rfl, ?_⟩
        rw [decI, decide_eq_false (by show ¬ ((1 : Nat) : Int) = 2; decide)]
        refine iteF ?_
        refine ⟨_, rfl, _, rfl, _, rfl, slH (ps := []) (fun q hq => nomatch hq) (hs2.mono same_hid0) 1 fun b2 H5 s5 hb2 => ?_⟩
        refine ⟨b2, _, rfl, hb2.mono (hid_low _ _), fun l nl => ?_⟩
        obtain ⟨H6, s6, h6, e6⟩ := lay (o := .lst r) nl
        rw [show (V.str w :: r : List V).drop 1 = r from rfl, e6]
        have S5 : Same H H5 := (s1.trans s2).trans s5
        have hl0 : H l = none := by
          cases e : H l with
          | none => rfl
          | some o => rw [S5 _ _ e] at nl; cases nl
        exact q l _ H6 hl0 (S5.trans s6) h6 (AdAll.mono ((s2.trans s5).trans s6) hr)
      | @use b c0 _ _ =>
        have hmem : (n, ds.length) ∈ gd.letters := by
          generalize hm : ds.length = m at hH
          cases hH with
          | use h => exact h
          | op ho => exact absurd rfl ((show ∀ q ∈ opsW, q.1 ≠ "use" by decide) _ ho)
        obtain ⟨a, xs, rfl, hs, hall⟩ := hx.sq
        refine ⟨_, rfl, by show 2 ≤ sizeLine; decide, fun tt ntt => ?_⟩
        obtain ⟨H1, s1, h1, e1⟩ := lay (o := .tup [.ty "list", .ty "tuple"]) ntt
        rw [e1]
        refine ⟨.ref a, tt, _, _, _, true, rfl, h1, .cons (.ty "list") (.cons (.ty "tuple") .nil), hx.ty _ s1, kit_sq _, true, rfl, ?_⟩
        refine iteF ?_
        have hs1 := hs.mono s1
        have hall1 := AdAll.mono s1 hall
        refine ⟨_, rfl, a, xs, rfl, hs1, rfl, _, rfl, ?_⟩
        obtain ⟨y, r, rfl, hy, hr⟩ := hall1.cons_inv
        rw [decI, decide_eq_false (by rw [List.length_cons]; omega)]
        refine iteF ?_
        refine ⟨_, rfl, ixA hs1 0 rfl ⟨y, .ty "str", _, .type "str", _, rfl, .ty "str", hy.ty _ (Same.refl _), kit_str _, _, rfl, ?_⟩⟩
        refine iteF ?_
        obtain rfl := hy.str_inv
        refine ⟨_, rfl, ixA hs1 0 rfl ⟨rfl, _, rfl, ?_⟩⟩
        rw [decS, decide_eq_true (rfl)]
        refine iteT ?_
        obtain ⟨v2, r2, rfl, hy2, hr2⟩ := hr.cons_inv
        obtain ⟨v3, r3, rfl, hy3, hr3⟩ := hr2.cons_inv
        obtain rfl := hr3.nil_inv
        refine ⟨_, rfl, a, _, rfl, hs1, rfl, _, rfl, ?_⟩
        refine iteF ?_
        obtain ⟨aL, aF, aC, aT, g1, g2, _⟩ := hG.ex
        have DG : DGet H1 g (.str "letters") (some (.ref aL)) := .inl ⟨_, .inr "letters", .inl (s1 _ _ g1), rfl, rfl⟩
        have DL : ∀ z : Str, DGet H1 aL (.str z) (valV (lkv gd.letters) (.inr z : Key)) := fun z => .inl ⟨_, .inr z, .inl (s1 _ _ g2), rfl, rfl⟩
        refine ⟨_, rfl, ixA hs1 1 rfl ⟨v2, .ty "str", _, .type "str", _, rfl, .ty "str", hy2.ty _ (Same.refl _), kit_str _, _, rfl, ?_⟩⟩
        refine iteF ?_
        obtain rfl := hy2.str_inv
        have hv : valV (lkv gd.letters) (.inr n : Key) = some (.int (ds.length : Int)) := valV_lkv wf.nd hmem
        refine ⟨_, rfl, ixA hs1 1 rfl ⟨_, rfl, g, _, rfl, DG, aL, _, rfl, DL n, _, rfl, ?_⟩⟩
        rw [hv]
        refine iteF ?_
        obtain ⟨c3, us, rfl, hc3, hus⟩ := hy3.sq
        refine ⟨_, rfl, ixA hs1 2 rfl ⟨by show 2 ≤ sizeLine; decide, fun t3 nt3 => ?_⟩⟩
        obtain ⟨H3, s3, h3, e3⟩ := lay (o := .tup [.ty "list", .ty "tuple"]) nt3
        rw [e3]
        refine ⟨.ref c3, t3, _, _, _, true, rfl, h3, .cons (.ty "list") (.cons (.ty "tuple") .nil), hy3.ty _ s3, kit_sq _, true, rfl, ?_⟩
        refine iteT ?_
        have hs3 := hs1.mono s3
        have DG3 : DGet H3 g (.str "letters") (some (.ref aL)) := .inl ⟨_, .inr "letters", .inl ((s1.trans s3) _ _ g1), rfl, rfl⟩
        have DL3 : DGet H3 aL (.str n) (some (.int (ds.length : Int))) := .inl ⟨_, .inr n, .inl ((s1.trans s3) _ _ g2), rfl, hv.symm⟩
        refine ⟨_, rfl, ixA hs3 2 rfl ⟨c3, us, rfl, hc3.mono s3, _, rfl, g, _, rfl, DG3, _, rfl, ixA hs3 1 rfl ⟨aL, _, rfl, DL3, rfl, ?_⟩⟩⟩
        rw [decI, decide_eq_true (by rw [hus.len])]
        refine ⟨_, rfl, _, rfl, ?_⟩
        refine iteT ?_
        refine ⟨_, rfl, ixA hs3 2 rfl ⟨c3, us, rfl, hc3.mono s3, fun l nl => ?_⟩⟩
        obtain ⟨H6, s6, h6, e6⟩ := lay (o := .lst us) nl
        rw [e6]
        have S5 : Same H H3 := s1.trans s3
        have hl0 : H l = none := by
          cases e : H l with
          | none => rfl
          | some o => rw [S5 _ _ e] at nl; cases nl
        exact q l us H6 hl0 (S5.trans s6) h6 (AdAll.mono (s3.trans s6) hus)
end
end K4
set_option Elab.async false
set_option linter.all false
set_option autoImplicit false
set_option maxRecDepth 100000
set_option maxHeartbeats 8000000
namespace GB
open PySem PySem.Spec L2
theorem Od.split {L : List (Str × Nat)} {ns : List Str} {d : AD} (h : Od L ns d) : (∀ ns', Od L ns' d) ∨ ∃ b n, d = .seq b [.str "name", .str n] ∧ nameB n = true ∧ n ∉ ns := by
  cases h with
  | flat h => exact .inl fun _ => .flat h
  | empty => exact .inl fun _ => .empty
  | head h => exact .inl fun _ => .head h
  | ulen h => exact .inl fun _ => .ulen h
  | uname h => exact .inl fun _ => .uname h
  | uparts h1 h2 => exact .inl fun _ => .uparts h1 h2
  | bname h => exact .inl fun _ => .bname h
  | nlen h1 h2 => exact .inl fun _ => .nlen h1 h2
  | nname h1 h2 => exact .inl fun _ => .nname h1 h2
  | free h1 h2 => exact .inr ⟨_, _, rfl, h1, h2⟩
  | word => exact .inl fun _ => .word
  | olen h1 h2 => exact .inl fun _ => .olen h1 h2
end GB
namespace K4
open PySem PySem.Spec L2 GB
abbrev sFb : Stmt := topS 44
def fbN : List Str := ["_law_g", "_law_thing", "_law_names", "_law_path", "_law_inner_here", "_law_at", "_law_more", "_law_found"]
def spFb (K : PySem.W.Frag) (z : Nat) : Sp := fun vs H Q _ => ∃ (g a b : Addr) (x : V) (gd : GD) (d : AD) (ns : List Str) (path : List V), vs = [.ref g, x, .ref a, .ref b] ∧ IsG H g gd ∧ gd.Wf ∧ AdAt K H x d ∧ z ≤ 900 ∧ SqT K H a (sts ns) ∧ ns.length + z ≤ 1000 ∧ SqT K H b path ∧ path.length + z ≤ 1000 ∧
  ((∃ t, Gd gd.letters ns d t ∧ t.size ≤ z ∧ ∀ H', Same H H' → Q .non H') ∨ (∃ r, Bd gd.letters z ns d r ∧ ∀ pb H', Same H H' → SqT K H' pb (path ++ pin r) → Q (.ref pb) H'))
section
variable {P : Program} {w : World} {K : PySem.W.Frag} {mg : Str → Option Value} {base : Heap}
theorem scFb : FnScope fbN ["_law_g", "_law_thing", "_law_names", "_law_path"] (defScope sFb) := ⟨rfl, rfl, rfl, by decide +kernel, rfl, by decide +kernel, by decide +kernel⟩
theorem names_if {σ : L2.St} {H : Hp} {Q : VK} {a c0 : Addr} {i : Nat} {wd n : Str} {us : List V} {ns : List Str} (h1 : σ[1]? = some (some (.ref a))) (h2 : σ[2]? = some (some (.ref c0))) (h5 : σ[5]? = some (some (.int (i : Int)))) (hV : NodeV K H a wd n us) (hc : SqT K H c0 (sts ns)) (hn : ns.length ≤ 1000)
    (q : ∀ m H4, Same H H4 → SqT K H4 m (sts (nsAt wd n i ns)) → Q (.ref m) H4) :
    tIf (tAnd (tTest (tOp rEq (tOp (rIx K) (tVar 1) (tC (.int 0))) (tC (.str "bind")))) (tTest (tOp rEq (tVar 5) (tC (.int 1))))) (tOp (rCatA K) (tVar 2) (tTup (tCons (tOp (rIx K) (tVar 1) (tC (.int 1))) tNil))) (tVar 2) σ H Q := by
  have same : nsAt wd n i ns = ns → Q (.ref c0) H := fun e => q c0 H (Same.refl _) (by rw [e]; exact hc)
  obtain ⟨rest, hs0⟩ := hV.head
  refine ⟨_, h1, ixA hs0 0 rfl ⟨rfl, _, rfl, ?_⟩⟩
  rw [decS]
  by_cases c : wd = "bind"
  · rw [decide_eq_true c]
    refine iteT ?_
    refine ⟨_, h5, rfl, _, rfl, ?_⟩
    rw [decI]
    by_cases c1 : (i : Int) = 1
    · rw [decide_eq_true c1]
      refine iteT ?_
      subst c
      have hb : ∃ r2, SqA K H a (.str "bind" :: .str n :: r2) := by
        rcases hV.kind with ⟨hw, _, _⟩ | ⟨hw, _⟩ | ⟨_, hs⟩ | ⟨⟨m, ho⟩, _⟩
        · exact absurd hw (by decide)
        · exact absurd hw (by decide)
        · exact ⟨_, hs⟩
        · exact absurd rfl (ops_no _ ho).2.2
      obtain ⟨r2, hs⟩ := hb
      refine ⟨_, h2, _, h1, ixA hs 1 rfl ⟨by show 1 ≤ sizeLine; decide, fun e ne => ?_⟩⟩
      obtain ⟨H1, s1, g1, e1⟩ := lay (o := .tup [.str n]) ne
      rw [e1]
      refine catA (Same.seqT s1 hc) (SqT.of g1) (by rw [sizeLine_eq]; unfold sts; simp; omega) fun m H2 s2 hm => q m H2 (s1.trans s2) ?_
      have e : nsAt "bind" n i ns = ns ++ [n] := by
        unfold nsAt
        rw [if_pos ⟨rfl, by omega⟩]
      rw [e]
      unfold sts at hm ⊢
      rw [List.map_append]
      exact hm
    · rw [decide_eq_false c1]
      refine iteF ?_
      exact ⟨_, h2, same (by unfold nsAt; rw [if_neg (fun h => c1 (by omega))])⟩
  · rw [decide_eq_false c]
    refine iteF ?_
    exact ⟨_, h2, same (by unfold nsAt; rw [if_neg (fun h => c h.1)])⟩
theorem ok_fb {f : Addr} {fd : FuncData} (F : Fun K "_law_first_bad" "_law_first_bad" sFb f fd) (T : Bl mg) (mgF : mg "_law_first_bad" = some (.ref f)) (kF : PySem.W.keepIn K (.ref f) = true) (bF : Binds K fd ["_law_g", "_law_thing", "_law_names", "_law_path"] [])
    (INN : Fns P w K mg base "_law_inner" 2 ["_law_g", "_law_thing"] (spInn K)) : ∀ z : Nat, FnOk P w K mg base CX0 (3 + z) f fd ["_law_g", "_law_thing", "_law_names", "_law_path"] (spFb K z) := by
  intro z
  induction z with
  | zero =>
    refine F.ok scFb (fun vs H Q E h => ?_) (fun cdv A outer s H vs Q E hr h => ?_)
    · obtain ⟨g, a, b, x, gd, d, ns, path, rfl, _⟩ := h
      rfl
    · obtain ⟨g, a, b, x, gd, d, ns, path, rfl, _, _, _, _, _, _, _, _, h⟩ := h
      rcases h with ⟨t, _, hz, _⟩ | ⟨r, hb, _⟩
      · exact absurd hz (by have := size_pos t; omega)
      · cases hb
  | succ z ih =>
    have FB : Fns P w K mg base "_law_first_bad" (3 + z) ["_law_g", "_law_thing", "_law_names", "_law_path"] (spFb K z) := ⟨f, fd, ih, mgF, kF, bF⟩
    refine F.ok scFb (fun vs H Q E h => ?_) (fun cdv A outer s H vs Q E hr h => ?_)
    · obtain ⟨g, a, b, x, gd, d, ns, path, rfl, _⟩ := h
      rfl
    · obtain ⟨g, a, b, x, gd, d, ns, path, rfl, hG, wf, hx, hz1, ha, hna, hb, hnb, h⟩ := h
      have l2 : 2 ≤ 3 + z := by omega
      have lz : 3 + z ≤ 3 + z := by omega
      refine ⟨_, pss_cons (ps_set (i := 4) scFb.nd rfl (.inl rfl) (pe_fn INN hr l2 rfl (pa_cons (pv 0) (pa_cons (pv 1) (pa_nil))))) (pss_cons (ps_if (PW.pt (pw_or (pt_cmpR op_isN (pv 4) (pe_non) (nomark _)) (pw_or1 (PW.pt (pw_and (pt_cmpR op_eq (pe_ix ix_seq (pv 1) (pe_int) (fun _ _ => rfl)) (pe_str) (nomark _)) (pw_and1 (pt_cmpR op_notIn_seq (pe_ix ix_seq (pv 1) (pe_int) (fun _ _ => rfl)) (pv 2) (by rfl)))))))) (pss_one (ps_ret (pv 3))) (pss_nil)) (pss_cons (ps_for PassesOwn.never rfl (pi_range1 rfl T.range (pa_cons (pe_callB call_len_seq (by rfl) T.len PySem.boot_len (pa_cons (pv 4) (pa_nil))) (pa_nil))) (pg_name (i := 5) scFb.nd rfl (.inl rfl)) (pss_cons (ps_set (i := 6) scFb.nd rfl (.inl rfl) (pe_ifExp (PW.pt (pw_and (pt_cmpR op_eq (pe_ix ix_seq (pv 1) (pe_int) (fun _ _ => rfl)) (pe_str) (nomark _)) (pw_and1 (pt_cmpR op_eq (pv 5) (pe_int) (nomark _))))) (pe_op (r := rCatA K) op_catA (pv 2) (pe_tup (pa_cons (pe_ix ix_seq (pv 1) (pe_int) (fun _ _ => rfl)) pa_nil))) (pv 2))) (pss_cons (ps_set (i := 7) scFb.nd rfl (.inl rfl) (pe_fn FB hr lz rfl (pa_cons (pv 0) (pa_cons (pe_ix ix_list (pv 4) (pv 5) (fun _ _ => rfl)) (pa_cons (pv 6) (pa_cons (pe_op (r := rCatA K) op_catA (pv 3) (pe_tup (pa_cons (pv 5) (pa_nil)))) (pa_nil))))))) (pss_one (ps_if (pt_cmpR op_notN (pv 7) (pe_non) (nomark _)) (pss_one (ps_ret (pv 7))) (pss_nil)))))) (pss_one (ps_ret (pe_non))))), ?_⟩
      rcases h with ⟨t, hg, hz, q⟩ | ⟨r, hB, qe⟩
      · cases hg with
        | @mk _ _ wd n ds ts hN hH hlen hK =>
        refine ⟨_, rfl, _, rfl, g, x, gd, d, rfl, hG, wf, hx, .inr ⟨wd, n, ds, ns, hN, hH, fun qq us H1 nq s1 hq hus => ?_⟩⟩
        obtain ⟨p, vs, rfl, hV, hall⟩ := hN.v hx
        have hts := len_sizes ts
        have hz' := hz
        rw [GB.Tm.size] at hz'
        have hul : us.length = ds.length := hus.len
        refine ⟨_, rfl, rfl, _, rfl, ?_⟩
        refine iteF ?_
        obtain ⟨rest, hs⟩ := (hV.mono s1).head
        refine ⟨_, rfl, ixA hs 0 rfl ⟨rfl, _, rfl, ?_⟩⟩
        rw [decS]
        by_cases c : wd = "name"
        · rw [decide_eq_true c]
          refine iteT ?_
          subst c
          obtain ⟨hn, hin⟩ := hH.nmd (by decide)
          have hs1 : SqA K H1 p [.str "name", .str n] := by
            rcases (hV.mono s1).kind with ⟨_, _, h⟩ | ⟨h, _⟩ | ⟨h, _⟩ | ⟨⟨m, ho⟩, _⟩
            · exact h
            · cases h
            · cases h
            · exact absurd (show ("name" : Str) ∈ nmd by decide) (ops_no _ ho).1
          refine ⟨_, rfl, ixA hs1 1 rfl ⟨_, rfl, a, sts ns, rfl, .inr (Same.seqT s1 ha), rfl, flat_sts _, _, rfl, ?_⟩⟩
          rw [show (if true = true then !inV (.str n) (sts ns) else inV (.str n) (sts ns)) = false from by rw [if_pos rfl, inV_sts, decide_eq_true (hin rfl)]; rfl]
          refine iteF ?_
          refine ⟨_, rfl, qq, us, rfl, .inl (SqL.of hq), us.length, rfl, by omega, by omega, for_range (lo := 0) (n := us.length) (fun k σ H' => ∃ o5 o6 o7, σ = [some (.ref g), some (.ref p), some (.ref a), some (.ref b), some (.ref qq), o5, o6, o7] ∧ Same H1 H') ⟨none, none, none, rfl, Same.refl _⟩ ?_ ?_⟩
          · rintro i σ H3 hi ⟨o5, o6, o7, rfl, s13⟩
            have s3 := s1.trans s13
            rw [Int.zero_add]
            have hq3 : H3 qq = some (.lst us) := s13 _ _ hq
            refine names_if (ns := ns) (i := i) rfl rfl rfl (hV.mono s3) (Same.seqT s3 ha) (by omega) fun m H4 s4 hm => ?_
            have S4 := s3.trans s4
            have hui : us[i]? = some us[i] := List.getElem?_eq_getElem hi
            obtain ⟨k, hk, hku⟩ := hus.at hui
            refine ⟨_, rfl, _, rfl, _, rfl, qq, us, _, us[i], rfl, rfl, SqL.of (s4 _ _ hq3), atI_nat hui, _, rfl, _, rfl, _, rfl, by show 1 ≤ sizeLine; decide, fun pt npt => ?_⟩
            obtain ⟨H5, s5, h5, e5⟩ := lay (o := .tup [.int (i : Nat)]) npt
            rw [e5]
            refine catA (Same.seqT (S4.trans s5) hb) (SqT.of h5) (by rw [sizeLine_eq]; simp; omega) fun pb H6 s6 hpb => ?_
            have S6 := (S4.trans s5).trans s6
            have lm : (nsAt "name" n i ns).length + z ≤ 1000 := by
              unfold nsAt
              split
              · simp; omega
              · omega
            have hlt : i < ts.length := by rw [← hlen, ← hul]; exact hi
            have htk : ts[i]? = some ts[i] := List.getElem?_eq_getElem hlt
            have zk := size_at (w := "name") (n := n) htk
            refine ⟨g, m, pb, us[i], gd, k, nsAt "name" n i ns, _, rfl, hG.mono S6, wf, AdAt.mono (((s13.trans s4).trans s5).trans s6) hku, by omega, Same.seqT (s5.trans s6) hm, lm, hpb, by simp; omega, .inl ⟨ts[i], hK i k _ hk htk, by omega, fun H7 s7 => ?_⟩⟩
            refine ⟨_, rfl, rfl, _, rfl, ?_⟩
            refine iteF ?_
            exact ⟨_, _, _, rfl, (((s13.trans s4).trans s5).trans s6).trans s7⟩
          · rintro σ H3 ⟨o5, o6, o7, rfl, s13⟩
            exact q _ (s1.trans s13)
        · rw [decide_eq_false c]
          refine iteF ?_
          refine ⟨_, rfl, qq, us, rfl, .inl (SqL.of hq), us.length, rfl, by omega, by omega, for_range (lo := 0) (n := us.length) (fun k σ H' => ∃ o5 o6 o7, σ = [some (.ref g), some (.ref p), some (.ref a), some (.ref b), some (.ref qq), o5, o6, o7] ∧ Same H1 H') ⟨none, none, none, rfl, Same.refl _⟩ ?_ ?_⟩
          · rintro i σ H3 hi ⟨o5, o6, o7, rfl, s13⟩
            have s3 := s1.trans s13
            rw [Int.zero_add]
            have hq3 : H3 qq = some (.lst us) := s13 _ _ hq
            refine names_if (ns := ns) (i := i) rfl rfl rfl (hV.mono s3) (Same.seqT s3 ha) (by omega) fun m H4 s4 hm => ?_
            have S4 := s3.trans s4
            have hui : us[i]? = some us[i] := List.getElem?_eq_getElem hi
            obtain ⟨k, hk, hku⟩ := hus.at hui
            refine ⟨_, rfl, _, rfl, _, rfl, qq, us, _, us[i], rfl, rfl, SqL.of (s4 _ _ hq3), atI_nat hui, _, rfl, _, rfl, _, rfl, by show 1 ≤ sizeLine; decide, fun pt npt => ?_⟩
            obtain ⟨H5, s5, h5, e5⟩ := lay (o := .tup [.int (i : Nat)]) npt
            rw [e5]
            refine catA (Same.seqT (S4.trans s5) hb) (SqT.of h5) (by rw [sizeLine_eq]; simp; omega) fun pb H6 s6 hpb => ?_
            have S6 := (S4.trans s5).trans s6
            have lm : (nsAt wd n i ns).length + z ≤ 1000 := by
              unfold nsAt
              split
              · simp; omega
              · omega
            have hlt : i < ts.length := by rw [← hlen, ← hul]; exact hi
            have htk : ts[i]? = some ts[i] := List.getElem?_eq_getElem hlt
            have zk := size_at (w := wd) (n := n) htk
            refine ⟨g, m, pb, us[i], gd, k, nsAt wd n i ns, _, rfl, hG.mono S6, wf, AdAt.mono (((s13.trans s4).trans s5).trans s6) hku, by omega, Same.seqT (s5.trans s6) hm, lm, hpb, by simp; omega, .inl ⟨ts[i], hK i k _ hk htk, by omega, fun H7 s7 => ?_⟩⟩
            refine ⟨_, rfl, rfl, _, rfl, ?_⟩
            refine iteF ?_
            exact ⟨_, _, _, rfl, (((s13.trans s4).trans s5).trans s6).trans s7⟩
          · rintro σ H3 ⟨o5, o6, o7, rfl, s13⟩
            exact q _ (s1.trans s13)
      · cases hB with
        | odd hO =>
          have fin : ∀ H', Same H H' → Q (.ref b) H' := fun H' s' => qe b H' s' (by rw [show pin [] = [] from rfl, List.append_nil]; exact Same.seqT s' hb)
          rcases hO.split with hO | ⟨bb, n, rfl, hn, hni⟩
          · refine ⟨_, rfl, _, rfl, g, x, gd, d, rfl, hG, wf, hx, .inl ⟨hO, fun H1 s1 => ?_⟩⟩
            refine ⟨_, rfl, rfl, _, rfl, ?_⟩
            refine iteT ?_
            exact ⟨_, rfl, fin H1 s1⟩
          · refine ⟨_, rfl, _, rfl, g, x, gd, _, rfl, hG, wf, hx, .inr ⟨"name", n, [], [n], .leaf (by decide), .name hn (by simp), fun qq us H1 nq s1 hq hus => ?_⟩⟩
            obtain ⟨p, xs, rfl, hs, hall⟩ := hx.sq
            obtain ⟨y, r, rfl, hy, hr⟩ := hall.cons_inv
            obtain ⟨y2, r2, rfl, hy2, hr2⟩ := hr.cons_inv
            rw [hy.str_inv, hy2.str_inv, hr2.nil_inv] at hs
            have hs1 := hs.mono s1
            refine ⟨_, rfl, rfl, _, rfl, ?_⟩
            refine iteF ?_
            refine ⟨_, rfl, ixA hs1 0 rfl ⟨rfl, _, rfl, ?_⟩⟩
            refine iteT ?_
            refine ⟨_, rfl, ixA hs1 1 rfl ⟨_, rfl, a, sts ns, rfl, .inr (Same.seqT s1 ha), rfl, flat_sts _, _, rfl, ?_⟩⟩
            rw [show (if true = true then !inV (.str n) (sts ns) else inV (.str n) (sts ns)) = true from by rw [if_pos rfl, inV_sts, decide_eq_false hni]; rfl]
            refine iteT ?_
            exact ⟨_, rfl, fin H1 s1⟩
        | @within _ _ d wd n ds i0 y r hN hH hy hj hbad hlen =>
          refine ⟨_, rfl, _, rfl, g, x, gd, d, rfl, hG, wf, hx, .inr ⟨wd, n, ds, ns, hN, hH, fun qq us H1 nq s1 hq hus => ?_⟩⟩
          obtain ⟨p, vs, rfl, hV, hall⟩ := hN.v hx
          have hul : us.length = ds.length := hus.len
          have hi0 : i0 < ds.length := (List.getElem?_eq_some_iff.mp hy).1
          refine ⟨_, rfl, rfl, _, rfl, ?_⟩
          refine iteF ?_
          obtain ⟨rest, hs⟩ := (hV.mono s1).head
          refine ⟨_, rfl, ixA hs 0 rfl ⟨rfl, _, rfl, ?_⟩⟩
          rw [decS]
          have c : wd ≠ "name" := fun c => by
            subst c
            cases hN with
            | leaf _ => cases hy
            | op hm => exact absurd (show ("name" : Str) ∈ nmd by decide) (ops_no _ hm).1
          rw [decide_eq_false c]
          refine iteF ?_
          refine ⟨_, rfl, qq, us, rfl, .inl (SqL.of hq), us.length, rfl, by omega, by omega, for_range (lo := 0) (n := us.length) (fun k σ H' => ∃ o5 o6 o7, σ = [some (.ref g), some (.ref p), some (.ref a), some (.ref b), some (.ref qq), o5, o6, o7] ∧ Same H1 H' ∧ k ≤ i0) ⟨none, none, none, rfl, Same.refl _, Nat.zero_le _⟩ ?_ ?_⟩
          · rintro i σ H3 hi ⟨o5, o6, o7, rfl, s13, hik⟩
            have s3 := s1.trans s13
            rw [Int.zero_add]
            have hq3 : H3 qq = some (.lst us) := s13 _ _ hq
            refine names_if (ns := ns) (i := i) rfl rfl rfl (hV.mono s3) (Same.seqT s3 ha) (by omega) fun m H4 s4 hm => ?_
            have S4 := s3.trans s4
            have hui : us[i]? = some us[i] := List.getElem?_eq_getElem hi
            obtain ⟨k, hk, hku⟩ := hus.at hui
            refine ⟨_, rfl, _, rfl, _, rfl, qq, us, _, us[i], rfl, rfl, SqL.of (s4 _ _ hq3), atI_nat hui, _, rfl, _, rfl, _, rfl, by show 1 ≤ sizeLine; decide, fun pt npt => ?_⟩
            obtain ⟨H5, s5, h5, e5⟩ := lay (o := .tup [.int (i : Nat)]) npt
            rw [e5]
            refine catA (Same.seqT (S4.trans s5) hb) (SqT.of h5) (by rw [sizeLine_eq]; simp; omega) fun pb H6 s6 hpb => ?_
            have S6 := (S4.trans s5).trans s6
            have lm : (nsAt wd n i ns).length + z ≤ 1000 := by
              unfold nsAt
              split
              · simp; omega
              · omega
            by_cases ci : i = i0
            · subst ci
              rw [hy] at hk
              obtain rfl := Option.some.inj hk
              refine ⟨g, m, pb, us[i], gd, y, nsAt wd n i ns, _, rfl, hG.mono S6, wf, AdAt.mono (((s13.trans s4).trans s5).trans s6) hku, by omega, Same.seqT (s5.trans s6) hm, lm, hpb, by simp; omega, .inr ⟨r, hbad, fun pb2 H7 s7 hp7 => ?_⟩⟩
              refine ⟨_, rfl, rfl, _, rfl, ?_⟩
              refine iteT ?_
              refine ⟨_, rfl, qe pb2 H7 (S6.trans s7) ?_⟩
              rw [List.append_assoc] at hp7
              exact hp7
            · have hlt : i < i0 := by omega
              obtain ⟨t, hgt, hzt⟩ := hj i k hlt hk
              refine ⟨g, m, pb, us[i], gd, k, nsAt wd n i ns, _, rfl, hG.mono S6, wf, AdAt.mono (((s13.trans s4).trans s5).trans s6) hku, by omega, Same.seqT (s5.trans s6) hm, lm, hpb, by simp; omega, .inl ⟨t, hgt, hzt, fun H7 s7 => ?_⟩⟩
              refine ⟨_, rfl, rfl, _, rfl, ?_⟩
              refine iteF ?_
              exact ⟨_, _, _, rfl, (((s13.trans s4).trans s5).trans s6).trans s7, hlt⟩
          · rintro σ H3 ⟨o5, o6, o7, rfl, s13, hik⟩
            exact absurd hik (by omega)
end
end K4
set_option Elab.async false
set_option linter.all false
set_option autoImplicit false
set_option maxRecDepth 100000
set_option maxHeartbeats 4000000
/-! What a spoilt term is. -/
namespace GB
open PySem PySem.Spec L2
def vOne : AD := .seq true [.str "value", .str "one"]
/-- the odd things, l0 being a letter -/
def oddAD (l0 : Str) : List AD :=
  [.non, .int 5, .str "x", .seq true [], .seq true [.str "value"], .seq true [.str "value", .str "A"], .seq true [.str "name", .str "none"], .seq true [.str "use", .str "none", .seq true []], .seq true [.str "if"], .dic, .bl true,
   .seq true [.str "name", .str "v"],
   .seq true [.str "use", .str l0], .seq true [.str "fail", .non], .seq true [.str "not"], .seq true [.str "xor", vOne, vOne],
   .seq true [.seq false [.str "value"], .str "one"], .seq true [.str "bind", .str "A", vOne, vOne], .seq true [.str "value", .str "one", .int 1], .str "value",
   .seq true [.str "use", .seq false [.str "x"], .seq true []], .seq true [.str "use", .str l0, .non], .seq true [.str "then", vOne], .seq true [.str "name", .seq false [.str "v"]]]
/-- a term's own data, or such that the first part that is none stands at a path -/
def SpRes (L : List (Str × Nat)) (ns : List Str) (z : Nat) (d : AD) : Prop := (∃ t, d = adOf t.d ∧ TmOk L ns t ∧ t.size ≤ z) ∨ ∃ r, Bd L z ns d r
theorem Bd.up {L : List (Str × Nat)} {z : Nat} {ns : List Str} {d : AD} {r : List Nat} (h : Bd L z ns d r) : ∀ {y : Nat}, z ≤ y → Bd L y ns d r := by
  induction h with
  | odd h =>
    intro y hy
    obtain ⟨y', rfl⟩ : ∃ y', y = y' + 1 := ⟨y - 1, by omega⟩
    exact .odd h
  | within hn hh hy hj _ hlen ih =>
    intro y hz
    obtain ⟨y', rfl⟩ : ∃ y', y = y' + 1 := ⟨y - 1, by omega⟩
    exact .within hn hh hy (fun j x hji hx => let ⟨t, a, b⟩ := hj j x hji hx; ⟨t, a, by omega⟩) (ih (by omega)) hlen
theorem SpRes.up {L : List (Str × Nat)} {z y : Nat} {ns : List Str} {d : AD} (h : SpRes L ns z d) (hz : z ≤ y) : SpRes L ns y d := by
  rcases h with ⟨t, e, o, s⟩ | ⟨r, b⟩
  · exact .inl ⟨t, e, o, by omega⟩
  · exact .inr ⟨r, b.up hz⟩
theorem odd_noNm : (AD.str "A").noNm := .inl ⟨"A", rfl, by decide +kernel, by show (1 : Nat) ≤ sizeLine; decide, by decide +kernel⟩
theorem odd_sz (l0 : Str) : ∀ d ∈ oddAD l0, d.sz ≤ 12 := by
  intro d hd
  simp only [oddAD, List.mem_cons, List.not_mem_nil, or_false] at hd
  rcases hd with rfl | rfl | rfl | rfl | rfl | rfl | rfl | rfl | rfl | rfl | rfl | rfl | rfl | rfl | rfl | rfl | rfl | rfl | rfl | rfl | rfl | rfl | rfl | rfl <;> simp [AD.sz, AD.szs, vOne]
theorem odd_res {L : List (Str × Nat)} {ns : List Str} {l0 : Str} {k : Nat} (h0 : (l0, k) ∈ L) (h8 : ∀ q ∈ L, q.1 ∈ nm8) (hb : ∀ n ∈ ns, n ∈ bnd) : ∀ d ∈ oddAD l0, SpRes L ns 1 d := by
  have nn : ("none" : Str) ∉ ns := fun m => absurd (hb _ m) (by decide)
  have nl : ("none" : Str) ∉ L.map (·.1) := fun m => by
    obtain ⟨q, hq, e⟩ := List.mem_map.mp m
    have := h8 q hq
    rw [e] at this
    exact absurd this (by decide)
  intro d hd
  simp only [oddAD, List.mem_cons, List.not_mem_nil, or_false] at hd
  rcases hd with rfl | rfl | rfl | rfl | rfl | rfl | rfl | rfl | rfl | rfl | rfl | rfl | rfl | rfl | rfl | rfl | rfl | rfl | rfl | rfl | rfl | rfl | rfl | rfl
  · exact .inr ⟨[], .odd (.flat rfl)⟩
  · exact .inr ⟨[], .odd (.flat rfl)⟩
  · exact .inr ⟨[], .odd (.flat rfl)⟩
  · exact .inr ⟨[], .odd .empty⟩
  · exact .inr ⟨[], .odd (.nlen (by decide) (by decide))⟩
  · exact .inr ⟨[], .odd (.nname (by decide) odd_noNm)⟩
  · exact .inr ⟨[], .odd (.free (by decide +kernel) nn)⟩
  · exact .inr ⟨[], .odd (.uname (.inl ⟨_, rfl, nl⟩))⟩
  · exact .inr ⟨[], .odd (.olen (w := "if") (m := 3) (by decide) (by decide))⟩
  · exact .inr ⟨[], .odd (.flat rfl)⟩
  · exact .inr ⟨[], .odd (.flat rfl)⟩
  · by_cases hv : ("v" : Str) ∈ ns
    · exact .inl ⟨.mk "name" "v" [], rfl, .mk (.name (by decide +kernel) hv) (fun i k h => nomatch h), by decide⟩
    · exact .inr ⟨[], .odd (.free (by decide +kernel) hv)⟩
  · exact .inr ⟨[], .odd (.ulen (by simp))⟩
  · exact .inr ⟨[], .odd (.nname (by decide) (.inr rfl))⟩
  · exact .inr ⟨[], .odd (.olen (w := "not") (m := 1) (by decide) (by decide))⟩
  · exact .inr ⟨[], .odd .word⟩
  · exact .inr ⟨[], .odd (.head rfl)⟩
  · exact .inr ⟨[], .odd (.bname odd_noNm)⟩
  · exact .inr ⟨[], .odd (.nlen (by decide) (by decide))⟩
  · exact .inr ⟨[], .odd (.flat rfl)⟩
  · exact .inr ⟨[], .odd (.uname (.inr rfl))⟩
  · exact .inr ⟨[], .odd (.uparts h0 rfl)⟩
  · exact .inr ⟨[], .odd (.olen (w := "then") (m := 2) (by decide) (by decide))⟩
  · exact .inr ⟨[], .odd (.nname (by decide) (.inr rfl))⟩
mutual
theorem sz_own : ∀ t : Tm, (adOf t.d).sz ≤ 4 * t.size
  | .mk w n ks => by
    have h := szs_own ks
    rw [Tm.d, Tm.size]
    split
    · simp only [adOf, adsOf, AD.sz, AD.szs]; omega
    · split
      · simp only [adOf, adsOf, AD.sz, AD.szs]; omega
      · split
        · simp only [adOf, adsOf, AD.sz, AD.szs]; omega
        · simp only [adOf, adsOf, AD.sz, AD.szs]; omega
theorem szs_own : ∀ ks : List Tm, AD.szs (adsOf (Tm.ds ks)) ≤ 4 * Tm.sizes ks
  | [] => by simp [Tm.ds, adsOf, AD.szs]
  | k :: r => by
    have := sz_own k
    have := szs_own r
    rw [Tm.ds, adsOf, AD.szs, Tm.sizes]
    omega
end
/-- a node with another thing for one of its terms -/
theorem node_res {L : List (Str × Nat)} {ns : List Str} {w n : Str} {ks : List Tm} {i : Nat} {k : Tm} {d e : AD} (hO : TmOk L ns (.mk w n ks)) (hl : ks.length ≤ 1000) (hk : ks[i]? = some k) (hN : NodA d w n (((ks.map Tm.d).map adOf).set i e)) (hR : SpRes L (nsAt w n i ns) k.size e)
    (own : ∀ ks' : List Tm, ((ks.map Tm.d).map adOf).set i e = (ks'.map Tm.d).map adOf → d = adOf (Tm.mk w n ks').d) : SpRes L ns (Tm.mk w n ks).size d := by
  cases hO with
  | mk hH hK =>
  have hlt : i < ks.length := (List.getElem?_eq_some_iff.mp hk).1
  have zk := size_at (w := w) (n := n) hk
  rcases hR with ⟨t, rfl, ho, hs⟩ | ⟨r, hb⟩
  · refine .inl ⟨.mk w n (ks.set i t), own _ (by rw [List.map_set, List.map_set]), .mk (by rw [List.length_set]; exact hH) fun j c hc => ?_, ?_⟩
    · rw [List.getElem?_set] at hc
      split at hc
      · rename_i e
        subst e
        obtain rfl := Option.some.inj hc
        exact ho
      · exact hK _ _ hc
    · have := sizes_set (c := t) hk
      rw [Tm.size, Tm.size]
      omega
  · obtain ⟨z, hz⟩ : ∃ z, (Tm.mk w n ks).size = z + 1 := ⟨(Tm.mk w n ks).size - 1, by have := size_pos (Tm.mk w n ks); omega⟩
    rw [hz]
    refine .inr ⟨i :: r, .within hN (by rw [List.length_set, List.length_map, List.length_map]; exact hH) (by rw [List.getElem?_set_self (by rw [List.length_map, List.length_map]; exact hlt)]) (fun j x hji hx => ?_) (hb.up (by omega)) ?_⟩
    · rw [List.getElem?_set_ne (by omega)] at hx
      rw [List.getElem?_map, List.getElem?_map] at hx
      cases hkj : ks[j]? with
      | none => rw [hkj] at hx; cases hx
      | some c =>
        rw [hkj] at hx
        obtain rfl := Option.some.inj hx
        have := size_at (w := w) (n := n) hkj
        exact ⟨c, Gd.own (hK _ _ hkj), by omega⟩
    · rw [List.length_set, List.length_map, List.length_map]
      exact hl
end GB
set_option Elab.async false
set_option linter.all false
set_option maxRecDepth 100000
set_option maxHeartbeats 4000000
/-! Two tuples of the very same things. -/
namespace GB
open PySem PySem.Spec L2 PyProof.Rows PySem.SeqAt
def simpV : V → Bool
  | .non => true
  | .bl _ => true
  | .int _ => true
  | .str _ => true
  | .ref _ => true
  | _ => false
theorem simp_eq {A : Around} {s : Shared} {v : V} {u u' : Value} (h : simpV v = true) (r : RelV v u) (r' : RelV v u') : EqAt A s u u' true := by
  cases v with
  | non => cases (show u = Value.none from r); cases (show u' = Value.none from r'); exact .same _
  | bl b => cases (show u = Value.bool b from r); cases (show u' = Value.bool b from r'); exact .same _
  | int i =>
    obtain ⟨t, rfl⟩ := (show ∃ t, u = Value.int i t from r)
    obtain ⟨t', rfl⟩ := (show ∃ t, u' = Value.int i t from r')
    have := EqAt.int_int (A := A) (s := s) i t i t'
    rwa [beq_self_eq_true] at this
  | str x =>
    obtain ⟨t, rfl⟩ := (show ∃ t, u = Value.str x t from r)
    obtain ⟨t', rfl⟩ := (show ∃ t, u' = Value.str x t from r')
    have := EqAt.str_str (A := A) (s := s) x t x t'
    rwa [beq_self_eq_true] at this
  | ref a => cases (show u = Value.ref a from r); cases (show u' = Value.ref a from r'); exact .same _
  | _ => cases h
theorem vals_idx : ∀ {xs : List V} {us : List Value}, Vals xs us → ∀ j (h : j < us.length), ∃ v, xs[j]? = some v ∧ RelV v us[j]
  | _, _, .cons r _, 0, _ => ⟨_, rfl, r⟩
  | _, _, .cons _ t, j + 1, h => vals_idx t j (by simpa using h)
def rNeI : R2 := fun x y H Q => ∃ p q xs, x = .ref p ∧ y = .ref q ∧ H p = some (.tup xs) ∧ H q = some (.tup xs) ∧ (∀ v ∈ xs, simpV v = true) ∧ Q (.bl false) H
theorem op_neI {X : Cx} (hu : X.A.units < cLine) : OpR X (compareOp .NotEq) rNeI := by
  intro pins s σ H x y v u Q I rx ry h
  obtain ⟨p, q, xs, rfl, rfl, hp, hq, hs, k⟩ := h
  cases rx
  cases ry
  obtain ⟨_, its, r1, t1⟩ := (show ObjOk X.prog X.w H s.heap p (.tup xs) from I.hok p _ hp)
  obtain ⟨_, its2, r2, t2⟩ := (show ObjOk X.prog X.w H s.heap q (.tup xs) from I.hok q _ hq)
  have e := RcNeAt.tuples (e := fun _ => true) t1 t2 hu fun j h1 h2 => by
    obtain ⟨v1, e1, q1⟩ := vals_idx r1 j (by simpa using h1)
    obtain ⟨v2, e2, q2⟩ := vals_idx r2 j (by simpa using h2)
    rw [e1] at e2
    obtain rfl := Option.some.inj e2
    exact simp_eq (hs _ (List.mem_of_getElem? e1)) (by simpa using q1) (by simpa using q2)
  have hsz : its.toArray.size = its2.toArray.size := by simp [← r1.length, ← r2.length]
  refine e X.prog X.w X.xe _ ?_
  have eb : (!((List.range (min its.toArray.size its2.toArray.size)).all (fun _ => true) && its.toArray.size == its2.toArray.size)) = false := by
    rw [hsz]; simp
  first
    | (rw [eb]; exact ⟨.bl false, H, I, rfl, k⟩)
    | (show EP X pins σ Q (.bool _) s; rw [eb]; exact ⟨.bl false, H, I, rfl, k⟩)
end GB
set_option Elab.async false
set_option linter.all false
set_option maxRecDepth 100000
set_option maxHeartbeats 4000000
/-! A ground's terms can be laid: their texts are plain, they are not deep. -/
namespace GB
open PySem PySem.Spec L2
theorem name_ok {z : Str} (h : nameB z = true) : PyData.strOk z = true := by
  unfold nameB at h
  have h2 := (Bool.and_eq_true_iff.mp h).2
  unfold PyData.strOk
  rw [Array.all_eq_true]
  intro i hi
  have hm : z.cps[i] ∈ z.cps.toList := Array.getElem_mem_toList hi
  have hs := List.all_eq_true.mp h2 _ hm
  unfold signB at hs
  have h3 := (Bool.and_eq_true_iff.mp hs).2
  have h4 : ¬ ([122] < [z.cps[i]]) := by
    intro hlt
    rw [decide_eq_true hlt] at h3
    cases h3
  have h5 : ¬ (122 < z.cps[i]) := fun hlt => h4 (List.Lex.rel hlt)
  exact decide_eq_true (by omega)
theorem ds_lay : ∀ {ds : List PyData} {m : Nat}, (∀ (i : Nat) d, ds[i]? = some d → PyData.canLay0 d = true ∧ PyData.depth d ≤ m) → PyData.canLayAll0 ds = true ∧ PyData.depthAll ds ≤ m
  | [], m, _ => ⟨rfl, Nat.zero_le _⟩
  | d :: r, m, h => by
    obtain ⟨a1, a2⟩ := h 0 d rfl
    obtain ⟨b1, b2⟩ := ds_lay (ds := r) (m := m) fun i e he => h (i + 1) e he
    refine ⟨?_, ?_⟩
    · show (PyData.canLay0 d && PyData.canLayAll0 r) = true
      rw [a1, b1]; rfl
    · show max (PyData.depth d) (PyData.depthAll r) ≤ m
      omega
theorem tm_lay {L : List (Str × Nat)} (hL : ∀ q ∈ L, PyData.strOk q.1 = true) {ns : List Str} {t : Tm} (h : TmOk L ns t) : PyData.canLay0 t.d = true ∧ PyData.depth t.d ≤ 2 * t.size := by
  induction h with
  | @mk ns w n ks hH hK ih =>
    have hks : PyData.canLayAll0 (ks.map Tm.d) = true ∧ PyData.depthAll (ks.map Tm.d) ≤ 2 * Tm.sizes ks := ds_lay fun i d hd => by
      rw [List.getElem?_map] at hd
      cases e : ks[i]? with
      | none => rw [e] at hd; cases hd
      | some k =>
        rw [e] at hd
        obtain rfl := Option.some.inj hd
        obtain ⟨a1, a2⟩ := ih i k e
        have := sizes_mem (List.mem_of_getElem? e)
        exact ⟨a1, by omega⟩
    obtain ⟨k1, k2⟩ := hks
    have hn : PyData.strOk n = true := by
      clear hK ih k1 k2
      generalize ks.length = m at hH
      cases hH with
      | val h => exact name_ok h
      | fail h => exact name_ok h
      | name h _ => exact name_ok h
      | use h => exact hL _ h
      | bind h _ => exact name_ok h
      | op h => decide +kernel
    have hw : PyData.strOk w = true := by
      clear hK ih k1 k2
      generalize ks.length = m at hH
      cases hH with
      | op h => exact (show ∀ q ∈ opsW, PyData.strOk q.1 = true by decide +kernel) _ h
      | _ => decide +kernel
    rw [d_node, Tm.size]
    unfold nodeT
    have cs : ∀ x : Str, PyData.canLay0 (.str x) = PyData.strOk x := fun x => by rw [PyData.canLay0]
    have ct : ∀ l : List PyData, PyData.canLay0 (.tuple l) = PyData.canLayAll0 l := fun l => by rw [PyData.canLay0]
    have cc : ∀ (d : PyData) (l : List PyData), PyData.canLayAll0 (d :: l) = (PyData.canLay0 d && PyData.canLayAll0 l) := fun d l => rfl
    have cn : PyData.canLayAll0 [] = true := rfl
    have es : ∀ x : Str, PyData.depth (.str x) = 0 := fun x => by rw [PyData.depth]
    have et : ∀ l : List PyData, PyData.depth (.tuple l) = PyData.depthAll l + 1 := fun l => by rw [PyData.depth]
    have ec : ∀ (d : PyData) (l : List PyData), PyData.depthAll (d :: l) = max (PyData.depth d) (PyData.depthAll l) := fun d l => rfl
    have en : PyData.depthAll [] = 0 := rfl
    split
    · simp only [cs, ct, cc, cn, es, et, ec, en, hn, hw, k1, Bool.and_self, true_and]
      omega
    · split
      · simp only [cs, ct, cc, cn, es, et, ec, en, hn, hw, k1, Bool.and_self, true_and]
        omega
      · split
        · simp only [cs, ct, cc, cn, es, et, ec, en, hn, hw, k1, Bool.and_self, true_and]
          omega
        · simp only [cs, ct, cc, cn, es, et, ec, en, hn, hw, Bool.and_self, true_and]
          omega
theorem tm_shaped {L : List (Str × Nat)} (hL : ∀ q ∈ L, PyData.strOk q.1 = true) {ns : List Str} {t : Tm} (h : TmOk L ns t) (hs : t.size ≤ 32) : SeqAt.shaped t.d = true := by
  obtain ⟨h1, h2⟩ := tm_lay hL h
  unfold SeqAt.shaped
  rw [h1, decide_eq_true (by omega)]
  rfl
end GB
set_option Elab.async false
set_option linter.all false
set_option maxRecDepth 100000
set_option maxHeartbeats 8000000
/-! what is looked up in the part of the heap behind the top, each kind of fact by one function to Bool -/
namespace FX
open PySem PySem.Spec PyProof.Rows L2 He GB
open PySem.W (findIn subIn typeIn keepIn nsIn Frag)
/-- an own error's class object -/
def errObj (K : Frag) (C : Addr) : Bool := match K.lookup C with
  | some ⟨.type "type", _, .cls cd, sl⟩ => (match cd.mro, sl.toList with
    | .ref D :: bm, [_, _, _, _, some (.builtin m), _] => D == C && (m == "ValueError.__new__" && (!cd.hasDel && (cd.hasDict && PySem.HandSPX.refsVE bm)))
    | _, _ => false)
  | _ => false
theorem errObj_ok {K : Frag} {C : Addr} (q : errObj K C = true) : ∃ nm qn N bs bm sn sub ab col dd k0 k1 k2 k3 k5, K.lookup C = some (excClassObj nm qn C N bs bm true sn sub ab col dd k0 k1 k2 k3 k5 "ValueError.__new__") ∧ PySem.HandSPX.refsVE bm = true := by
  unfold errObj at q
  split at q
  · rename_i dd cd sl ho
    split at q
    · rename_i D bm k0 k1 k2 k3 m k5 hm hs
      simp only [Bool.and_eq_true, beq_iff_eq, Bool.not_eq_true'] at q
      obtain ⟨e1, e2, e3, e4, e5⟩ := q
      subst e1 e2
      obtain ⟨nm, bs, mro, ns, qn, hd, sn, sub, ab, col, del⟩ := cd
      dsimp only at hm e3 e4
      subst hm e3 e4
      have hsl : sl = #[k0, k1, k2, k3, some (.builtin "ValueError.__new__"), k5] := by
        obtain ⟨l⟩ := sl
        simp only at hs
        rw [hs]
      subst hsl
      exact ⟨_, _, _, _, _, _, _, _, _, _, _, _, _, _, _, ho, e5⟩
    · cases q
  · cases q
def oexB (K : Frag) (C : Addr) : Bool := errObj K C && (eqO (findIn K (.ref C) "__setattr__") (some (some (.builtin "object.__setattr__"))) && (decide (subIn K (.ref C) (.type "BaseException") = some true) && (decide (typeIn K (.ref C) = some (.type "type")) && keepIn K (.ref C))))
theorem oex_of {K : Frag} {C : Addr} (q : oexB K C = true) : OexC K C := by
  obtain ⟨a1, q⟩ := ba q
  obtain ⟨a2, q⟩ := ba q
  obtain ⟨a3, q⟩ := ba q
  obtain ⟨a4, a5⟩ := ba q
  exact ⟨errObj_ok a1, eqO_ok a2, of_decide_eq_true a3, of_decide_eq_true a4, a5⟩
def blts : List Str := ["len", "int", "list", "tuple", "dict", "range", "sorted", "isinstance", "bool", "str", "all", "any", "enumerate"]
def freeB (K : Frag) (l : List Str) : Bool := l.all fun x => (Fa.free x).ok K
theorem free_of {K : Frag} {h : Heap} {mg : Str → Option Value} (X : K.In h) (G : h.Ns mainGlobals mg) {l : List Str} (q : freeB K l = true) {x : Str} (hx : x ∈ l) : mg x = none := free_ok X G (List.all_eq_true.mp q x hx)
theorem bl_of {K : Frag} {h : Heap} {mg : Str → Option Value} (X : K.In h) (G : h.Ns mainGlobals mg) (q : freeB K blts = true) : Bl mg := by
  have f : ∀ x ∈ blts, mg x = none := fun x hx => free_of X G q hx
  exact ⟨f _ (by simp [blts]), f _ (by simp [blts]), f _ (by simp [blts]), f _ (by simp [blts]), f _ (by simp [blts]), f _ (by simp [blts]), f _ (by simp [blts]), f _ (by simp [blts]), f _ (by simp [blts]), f _ (by simp [blts]), f _ (by simp [blts]), f _ (by simp [blts]), f _ (by simp [blts])⟩
theorem int_of {K : Frag} {h : Heap} {mg : Str → Option Value} (X : K.In h) (G : h.Ns mainGlobals mg) {x : Str} {i : Int} (q : (Fa.int x i).ok K = true) : ∃ u, mg x = some u ∧ RelV (.int i) u := by
  obtain ⟨t, e⟩ := int_ok X G q
  exact ⟨_, e, t, rfl⟩
/-- an own error's class with the field f -/
def xfieldB (K : Frag) (C : Addr) (f : Str) : Bool := oexB K C && (xfB K C && (eqO (findIn K (.ref C) f) (some none) && decide (PySem.W.exmOne K (.ref C) (.ref C) = some true)))
theorem xfield_of {K : Frag} {C : Addr} {f : Str} (q : xfieldB K C f = true) : OexC K C ∧ XfC K C ∧ findIn K (.ref C) f = some none ∧ PySem.W.exmOne K (.ref C) (.ref C) = some true := by
  obtain ⟨a1, q⟩ := ba q
  obtain ⟨a2, q⟩ := ba q
  obtain ⟨a3, a4⟩ := ba q
  exact ⟨oex_of a1, xfB_ok a2, eqO_ok a3, of_decide_eq_true a4⟩
/-- a plain class of the package -/
def clB (K : Frag) (C : Addr) : Bool := PySem.W.plainGet K C Str.empty && (PySem.W.hasDictIn K C && (PySem.W.plainOver K C && eqO (findIn K (.ref C) "__setattr__") (some (some (.builtin "object.__setattr__")))))
theorem cl_of {K : Frag} {C : Addr} (q : clB K C = true) : Cls K C := by
  obtain ⟨c1, q⟩ := ba q
  obtain ⟨c2, q⟩ := ba q
  obtain ⟨c3, c4⟩ := ba q
  exact ⟨c1, c2, c3, eqO_ok c4⟩
def noB (K : Frag) (C : Addr) (l : List Str) : Bool := l.all fun f => eqO (findIn K (.ref C) f) (some none)
theorem no_of {K : Frag} {C : Addr} {l : List Str} (q : noB K C l = true) {f : Str} (hf : f ∈ l) : NoAttr K C f := eqO_ok (List.all_eq_true.mp q f hf)
def mkB (K : Frag) (C f : Addr) : Bool := PySem.W.makesIn K C && (eqO (findIn K (.ref C) "__init__") (some (some (.ref f))) && (PySem.W.isFn K (.ref f) && keepIn K (.ref C)))
theorem mk_of {K : Frag} {C f : Addr} (q : mkB K C f = true) : Mk K C f := by
  obtain ⟨c1, q⟩ := ba q
  obtain ⟨c2, q⟩ := ba q
  obtain ⟨c3, c4⟩ := ba q
  exact ⟨c1, eqO_ok c2, c3, c4⟩
def methB (K : Frag) (C : Addr) (m : Str) (f : Addr) : Bool := eqO (findIn K (.ref C) m) (some (some (.ref f))) && (PySem.W.isFn K (.ref f) && keepIn K (.ref f))
theorem meth_of {K : Frag} {C : Addr} {m : Str} {f : Addr} (q : methB K C m f = true) : Meth K C m f := by
  obtain ⟨c1, q⟩ := ba q
  obtain ⟨c2, c3⟩ := ba q
  exact ⟨eqO_ok c1, c2, c3⟩
/-- a table of the module: its keys' words, their numbers -/
def dctB (K : Frag) (a : Addr) (l : List (Str × Nat)) : Bool := l.all fun q => match nsIn K a q.1 with
  | some (some u) => relB (.int (q.2 : Int)) u
  | _ => false
theorem dct_of {K : Frag} {a : Addr} {l : List (Str × Nat)} (h : dctB K a l = true) {q : Str × Nat} (hq : q ∈ l) : ∃ u, nsIn K a q.1 = some (some u) ∧ RelV (.int (q.2 : Int)) u := by
  have h2 := List.all_eq_true.mp h q hq
  cases e : nsIn K a q.1 with
  | none =>
    rw [e] at h2
    cases h2
  | some r =>
    rw [e] at h2
    cases r with
    | none => cases h2
    | some u => exact ⟨u, rfl, relB_ok h2⟩
/-- three defaults that are objects -/
def dfl3 (K : Frag) (dV : Value) : Option (Addr × Addr × Addr) := match dV with
  | .ref T => (match K.lookup T with
    | some ⟨_, _, .seq its _, _⟩ => (match its.toList with
      | [.ref a, .ref b, .ref c] => some (a, b, c)
      | _ => none)
    | _ => none)
  | _ => none
theorem dfl3_ok {K : Frag} {dV : Value} (h : (dfl3 K dV).isSome = true) : ∃ a b c, DflV K dV [.ref a, .ref b, .ref c] := by
  unfold dfl3 at h
  split at h
  · rename_i T
    split at h
    · rename_i oc od its n sl ho
      split at h
      · rename_i a b c hi
        refine ⟨a, b, c, .inr ⟨List.cons_ne_nil _ _, T, _, its.toList, n, rfl, ho, by simp, ?_⟩⟩
        rw [hi]
        exact .cons rfl (.cons rfl (.cons rfl .nil))
      · cases h
    · cases h
  · cases h
/-- the table of a code object that makes others -/
def ptOf (K : Frag) (c : Addr) : Addr := match K.lookup c with
  | some ⟨_, _, .fields vs, _⟩ => (match (vs[11]? : Option Value) with
    | some (Value.ref P) => P
    | _ => 0)
  | _ => 0
def isS : Value → Bool
  | .str _ _ => true
  | _ => false
def isI : Value → Bool
  | .int _ _ => true
  | _ => false
def isB : Value → Bool
  | .bool _ => true
  | _ => false
def codeB (K : Frag) (c P : Addr) : Bool := match K.lookup c with
  | some ⟨.type t, _, .fields vs, _⟩ => t == "code" && (decide (vs[11]? = some (.ref P)) && (isS (vs.getD 18 .none) && (isI (vs.getD 7 .none) && (isB (vs.getD 9 .none) && (isI (vs.getD 10 .none) && (!(c == P) && (K.lookup P).isNone))))))
  | _ => false
theorem codeB_ok {K : Frag} {h : Heap} (X : K.In h) {c P : Addr} (q : codeB K c P = true) : PySem.W.CodeHd h c P ∧ K.lookup P = none ∧ ∃ (e : Value) (dd : Option Addr) (vs : Array Value) (sl : Array (Option Value)), K.lookup c = some ⟨e, dd, .fields vs, sl⟩ ∧ vs[11]? = some (.ref P) := by
  unfold codeB at q
  split at q
  · rename_i t dd vs sl ho
    obtain ⟨a1, q⟩ := ba q
    obtain ⟨a2, q⟩ := ba q
    obtain ⟨a3, q⟩ := ba q
    obtain ⟨a4, q⟩ := ba q
    obtain ⟨a5, q⟩ := ba q
    obtain ⟨a6, q⟩ := ba q
    obtain ⟨a7, a8⟩ := ba q
    have e1 : t = "code" := beq_iff_eq.mp a1
    subst e1
    have e2 : vs[11]? = some (.ref P) := of_decide_eq_true a2
    have s3 : ∃ x tk, vs.getD 18 .none = .str x tk := by
      cases e : vs.getD 18 .none with
      | str x tk => exact ⟨x, tk, rfl⟩
      | _ => rw [e] at a3; cases a3
    have s4 : ∃ x tk, vs.getD 7 .none = .int x tk := by
      cases e : vs.getD 7 .none with
      | int x tk => exact ⟨x, tk, rfl⟩
      | _ => rw [e] at a4; cases a4
    have s5 : ∃ x, vs.getD 9 .none = .bool x := by
      cases e : vs.getD 9 .none with
      | bool x => exact ⟨x, rfl⟩
      | _ => rw [e] at a5; cases a5
    have s6 : ∃ x tk, vs.getD 10 .none = .int x tk := by
      cases e : vs.getD 10 .none with
      | int x tk => exact ⟨x, tk, rfl⟩
      | _ => rw [e] at a6; cases a6
    obtain ⟨x3, t3, h3⟩ := s3
    obtain ⟨x4, t4, h4⟩ := s4
    obtain ⟨x5, h5⟩ := s5
    obtain ⟨x6, t6, h6⟩ := s6
    have e7 : c ≠ P := fun z => by
      subst z
      rw [show (c == c) = true from beq_self_eq_true c] at a7
      cases a7
    have e8 : K.lookup P = none := Option.isNone_iff_eq_none.mp a8
    refine ⟨⟨_, vs, x3, t3, x4, t4, x5, x6, t6, X _ _ ho, rfl, rfl, e2, ?_, h3, h4, h5, h6, e7⟩, e8, _, _, vs, _, ho, e2⟩
    rw [Array.getD_eq_getD_getElem?, e2]
    rfl
  · cases q
/-- an own error's class whose __init__ keeps its one argument -/
theorem err_of {P : Program} {w : World} {K : Frag} {mg : Str → Option Value} {base : Heap} {n f : Str} {C fI : Addr} {fd : FuncData} (gC : mg n = some (.ref C)) (T : OexC K C) (iC : findIn K (.ref C) "__init__" = some (some (.ref fI))) (tI : typeIn K (.ref fI) = some (.type "function"))
    (F : FnOk P w K mg base CX0 1 fI fd ["self", f] (spInitE C f)) (b : Binds K fd ["self", f] []) : ErrC P w K mg base n f C := ⟨gC, T, fI, fd, iC, tI, F, b⟩
theorem FunD.ok0 {P : Program} {w : World} {K : Frag} {mg : Str → Option Value} {base : Heap} {x qual : Str} {params : Arguments} {body : List Stmt} {scope : Scope} {dvs : List V} {kws : List (Str × V)} {f : Addr} {fd : FuncData} {N ps : List Str} {k : Nat} {sp : Sp}
    (F : FunD K x qual params body scope dvs kws f fd) (S : FnScope N ps scope) (len : ∀ vs H Q E, sp vs H Q E → vs.length = ps.length)
    (hbody : ∀ (cdv : Value) (A : Around) (outer : List Env) (s : Shared) (H : Hp) (vs : List V) (Q : VK) (E : XK), Room k (A.deeper (envOfC qual scope s.heap.objs.size f cdv)) → sp vs H Q E →
      ∃ t, PSs (cxOf CX0 P w K mg base N qual scope f cdv A outer s H E).nox body t ∧ t { nx := fun _ H' => Q .non H', rt := Q } (start N vs) H) : FnOk P w K mg base CX0 (k + 1) f fd ps sp :=
  F.ok S len fun cdv A outer s H vs Q E hr hsp => let ⟨t, h, q⟩ := hbody cdv A outer s H vs Q E hr hsp; ⟨t, h.nox, q⟩
theorem tup_of {K : Frag} {h : Heap} {mg : Str → Option Value} (X : K.In h) (G : h.Ns mainGlobals mg) {x : Str} {vs : List Str} (q1 : (Fa.glo x).ok K = true) (q2 : tupB K x (vs.map Dv.str) = true) : ∃ a, mg x = some (.ref a) ∧ ∀ H, SqT K H a (sts vs) :=
  ⟨ga K x, glo_ok X G q1, fun H => by
    have e := tupB_ok q2 H
    rw [List.map_map] at e
    exact e⟩
end FX
set_option Elab.async false
set_option linter.all false
set_option maxRecDepth 100000
set_option maxHeartbeats 4000000
namespace GB
open PySem PySem.Spec L2
def ks3 : List Str := ["value", "value", "fail"]
def en2 : List Str := ["one", "false"]
/-- a new thing behind a list's end -/
theorem ni3 {a p t e : Addr} (h1 : a ≠ p) (h2 : a ≠ t) (h3 : a ≠ e) : a ∉ [p, t, e] := by
  intro m
  simp only [List.mem_cons, List.not_mem_nil, or_false] at m
  rcases m with rfl | rfl | rfl
  · exact h1 rfl
  · exact h2 rfl
  · exact h3 rfl
theorem bt3 {p t e : Addr} {H H' : Hp} (s : Bt [p] H H') : Bt [p, t, e] H H' := bt_weak (fun q hq => by
  rw [List.mem_singleton.mp hq]; exact List.mem_cons_self) s
/-- if key not in seen: seen.append(key); end = (..); facts.append(..) -/
theorem fact_tail {K : PySem.W.Frag} {p tA eA kT L Dv : Addr} {x : Str} {l vs : List Str} {ts ks : List Addr} {as : List (Str × List Str)} {N : Nat} {s1 s2 s3 s4 s5 s7 s10 s13 s14 : Option V} {H : Hp} {D : Ends}
    (P : PoolIs H p N) (hN : N + 2 ≤ 1000000) (hT : H tA = some (.lst (ts.map V.ref))) (hE : H eA = some (.lst (ks.map V.ref))) (tp : tA ≠ p) (ep : eA ≠ p) (te : tA ≠ eA) (lt : ts.length ≤ 100) (lk : ks.length ≤ 100)
    (hk : H kT = some (.tup [.str x, .ref L])) (hL : H L = some (.lst (sts l))) (Lp : L ∉ [p, tA, eA]) (hD : H Dv = some (.lst (sts vs))) (Dp_ : Dv ∉ [p, tA, eA])
    (hs : DpAll K (hid [p, tA, eA] H) (ks.map V.ref) (as.map kd)) (oks : ∀ a ∈ as, OkS a) (okx : OkS (x, l))
    (same : (x, l) ∈ as → D.nx [some (.ref p), s1, s2, s3, s4, s5, some (.str x), s7, some (.ref tA), some (.ref eA), s10, some (.ref Dv), some (.ref kT), s13, s14] H)
    (more : (x, l) ∉ as → ∀ (H' : Hp) (t : Addr) (kk en : Str) (s13' : Option V), Bt [p, tA, eA] H H' → H' tA = some (.lst ((ts ++ [t]).map V.ref)) → H' eA = some (.lst ((ks ++ [kT]).map V.ref)) → FactAt (hid [p, tA, eA] H') ⟨x, vs, kk, en⟩ t → DpAll K (hid [p, tA, eA] H') ((ks ++ [kT]).map V.ref) ((as ++ [(x, l)]).map kd) →
      (kk = "value" ∨ kk = "fail") → (en = "one" ∨ en = "false") → PoolIs H' p (N + 2) → D.nx [some (.ref p), s1, s2, s3, s4, s5, some (.str x), s7, some (.ref tA), some (.ref eA), s10, some (.ref Dv), some (.ref kT), s13', s14] H') :
    tIfS (tTest (tOp (rNotInD K) (tVar 12) (tVar 9)))
      (tSeq (tDrop (tBM K "list" rAppend (tVar 9) (tCons (tVar 12) tNil)))
        (tSeq (tAsg (tTup (tCons (tCall (spOne K) [] E0 (tCons (tVar 0) (tCons (tLst (tCons (tC (.str "value")) (tCons (tC (.str "value")) (tCons (tC (.str "fail")) tNil)))) tNil)))
            (tCons (tCall (spOne K) [] E0 (tCons (tVar 0) (tCons (tLst (tCons (tC (.str "one")) (tCons (tC (.str "false")) tNil))) tNil))) tNil))) (gName 13))
          (tDrop (tBM K "list" rAppend (tVar 8) (tCons (tTup (tCons (tVar 6) (tCons (tCB (fun xs H Q => ∃ p ys, xs = [.ref p] ∧ ((SqL K H p ys ∧ ∀ l, H l = none → Q (.ref l) (upd H l (.tup ys))) ∨ (SqT K H p ys ∧ Q (.ref p) H))) (tCons (tVar 11) tNil)) (tCons (tVar 13) tNil)))) tNil)))))
      tNext D [some (.ref p), s1, s2, s3, s4, s5, some (.str x), s7, some (.ref tA), some (.ref eA), s10, some (.ref Dv), some (.ref kT), s13, s14] H := by
  have hk' : kT ∉ [p, tA, eA] := by
    obtain ⟨a, b, c, hp, _⟩ := P
    exact ni3 (ne_of hk hp (by intro z; cases z)) (ne_of hk hT (by intro z; cases z)) (ne_of hk hE (by intro z; cases z))
  have dk : Dp K (hid [p, tA, eA] H) (.ref kT) (kd (x, l)) := .tup (SqT.of (hid_to hk' hk)) (.cons (.str x) (.cons (.lst (SqL.of (hid_to Lp hL)) (dp_sts l)) .nil))
  refine ⟨_, rfl, _, rfl, kd (x, l), as.map kd, dp_mono (hid_low _ _) dk, .lst (SqL.of hE) (dps_mono (hid_low _ _) hs), sh_kd okx, sh_kds oks, _, rfl, ?_⟩
  rw [any_kd]
  by_cases c : (x, l) ∈ as
  · rw [decide_eq_true c]
    exact iteF (same c)
  · rw [decide_eq_false c]
    refine iteT ?_
    refine ⟨_, rfl, .inl ⟨rfl, _, SqL.of hE⟩, _, rfl, eA, _, _, rfl, rfl, hE, (by rw [List.length_map, sizeLine_eq]; omega), ?_⟩
    obtain ⟨H1, b1, h1, e1⟩ : ∃ H1, (∀ b o, b ≠ eA → H b = some o → H1 b = some o) ∧ H1 eA = some (.lst ((ks ++ [kT]).map V.ref)) ∧ upd H eA (.lst (ks.map V.ref ++ [.ref kT])) = H1 :=
      ⟨upd H eA (.lst (ks.map V.ref ++ [.ref kT])), fun b o z e => by rw [upd_ne z]; exact e, by rw [upd_same, List.map_append]; rfl, rfl⟩
    rw [e1]
    have B1 : Bt [p, tA, eA] H H1 := by rw [← e1]; exact bt_upd (by simp)
    have P1 : PoolIs H1 p N := by
      obtain ⟨a, b, c, hp, r⟩ := P
      exact ⟨a, b, c, b1 _ _ ep.symm hp, r⟩
    have hT1 := b1 _ _ te hT
    refine ⟨_, rfl, by show 3 ≤ sizeLine; decide, fun v3 n3 => ?_⟩
    obtain ⟨H2, s2', h2, e2⟩ := lay (o := .lst [.str "value", .str "value", .str "fail"]) n3
    rw [e2]
    have P2 := P1.mono s2' (Nat.le_refl _)
    refine ⟨p, v3, sts ks3, N, rfl, SqL.of (hid_to (ni1 (P1.ne n3)) h2), (fun z => nomatch z), by decide, by omega, P2, fun v H3 hv B3 P3 => ?_⟩
    obtain ⟨kk, hkk, rfl⟩ := mem_sts hv
    refine ⟨_, rfl, by show 2 ≤ sizeLine; decide, fun v2 n2 => ?_⟩
    obtain ⟨H4, s4', h4, e4⟩ := lay (o := .lst [.str "one", .str "false"]) n2
    rw [e4]
    have P4 := P3.mono s4' (Nat.le_refl _)
    refine ⟨p, v2, sts en2, N + 1, rfl, SqL.of (hid_to (ni1 (P3.ne n2)) h4), (fun z => nomatch z), by decide, by omega, P4, fun v H5 hv' B5 P5 => ?_⟩
    obtain ⟨en, hen, rfl⟩ := mem_sts hv'
    refine ⟨by show 2 ≤ sizeLine; decide, fun eT neT => ?_⟩
    obtain ⟨H6, s6, h6, e6⟩ := lay (o := .tup [.str kk, .str en]) neT
    rw [e6]
    have B16 : Bt [p] H1 H6 := ((bt_of s2').trans B3).trans (((bt_of s4').trans B5).trans (bt_of s6))
    have hT6 := bt_at B16 (ni1 tp) hT1
    have hE6 := bt_at B16 (ni1 ep) h1
    have B06 : Bt [p, tA, eA] H H6 := B1.trans (bt3 B16)
    have hD6 := bt_at B06 Dp_ hD
    refine ⟨_, rfl, .inl ⟨rfl, _, SqL.of hT6⟩, _, rfl, _, rfl, Dv, _, rfl, .inl ⟨SqL.of hD6, fun vT nvT => ?_⟩⟩
    obtain ⟨H7, s7', h7, e7⟩ := lay (o := .tup (sts vs)) nvT
    rw [e7]
    refine ⟨_, rfl, by show 3 ≤ sizeLine; decide, fun t nt => ?_⟩
    obtain ⟨H8, s8, h8, e8⟩ := lay (o := .tup [.str x, .ref vT, .ref eT]) nt
    rw [e8]
    have hT8 := s8 _ _ (s7' _ _ hT6)
    refine ⟨tA, _, _, rfl, rfl, hT8, (by rw [List.length_map, sizeLine_eq]; omega), ?_⟩
    obtain ⟨H9, b9, h9, e9⟩ : ∃ H9, (∀ b o, b ≠ tA → H8 b = some o → H9 b = some o) ∧ H9 tA = some (.lst ((ts ++ [t]).map V.ref)) ∧ upd H8 tA (.lst (ts.map V.ref ++ [.ref t])) = H9 :=
      ⟨upd H8 tA (.lst (ts.map V.ref ++ [.ref t])), fun b o z e => by rw [upd_ne z]; exact e, by rw [upd_same, List.map_append]; rfl, rfl⟩
    rw [e9]
    have B89 : Bt [p, tA, eA] H8 H9 := by rw [← e9]; exact bt_upd (by simp)
    have B09 : Bt [p, tA, eA] H H9 := B06.trans ((bt_of (s7'.trans s8)).trans B89)
    have P8 := P5.mono ((s6.trans s7').trans s8) (Nat.le_refl _)
    obtain ⟨a, b, c', hp8, pr8⟩ := id P8
    have tup_ni : ∀ {q : Addr} {o : List V}, H8 q = some (.tup o) → q ∉ [p, tA, eA] := fun h => ni3 (ne_of h hp8 (by intro z; cases z)) (ne_of h hT8 (by intro z; cases z)) (ne_of h (s8 _ _ (s7' _ _ hE6)) (by intro z; cases z))
    have up9 : ∀ {q : Addr} {o : List V}, H8 q = some (.tup o) → hid [p, tA, eA] H9 q = some (.tup o) := fun h => B89 _ _ (hid_to (tup_ni h) h)
    refine more c H9 t kk en _ B09 h9 (b9 _ _ te.symm (s8 _ _ (s7' _ _ hE6))) ⟨vT, eT, up9 h8, up9 (s8 _ _ h7), up9 (s8 _ _ (s7' _ _ h6))⟩ ?_ ?_ ?_ ⟨a, b, c', b9 _ _ tp.symm hp8, pr8⟩
    · rw [List.map_append, List.map_append]
      exact dps_app (dps_mono B09 hs) (.cons (dp_mono B09 dk) .nil)
    · simp only [ks3, List.mem_cons, List.not_mem_nil, or_false] at hkk
      rcases hkk with rfl | rfl | rfl
      · exact .inl rfl
      · exact .inl rfl
      · exact .inr rfl
    · simp only [en2, List.mem_cons, List.not_mem_nil, or_false] at hen
      exact hen
end GB
set_option Elab.async false
set_option linter.all false
set_option maxRecDepth 100000
set_option maxHeartbeats 4000000
/-! Rules that the layer lacks: sorted of a tuple of texts. -/
namespace GB
open PySem PySem.Spec PyProof.Rows L2
section
variable {prog : Program} {w : World} {A : Around} {E : Value → Shared → Prop} {s : Shared}
theorem sorted_tup {l : Addr} {o : Obj} {items : Array Value} {n : Nat} {ss : List Str} {Q : Value → Shared → Prop} (ho : s.heap.get? l = some o) (hc : o.cls = .type "tuple") (hd : o.data = .seq items n) (hS : StrsAre items.toList ss) (h64 : items.toList.length < 64)
    (h : ∀ (hh : Heap) (a : Addr) (out : Array Value) (ep : Nat) (ss' : List Str), (∀ b u, s.heap.get? b = some u → hh.get? b = some u) → s.heap.get? a = none → hh.get? a = some (seqObj "list" out ep) → StrsAre out.toList ss' → ss'.Perm ss → sortedS ss' = true → Q (.ref a) { s with heap := hh }) :
    wpAny (model prog w) A (call (.builtin "sorted") [.ref l]) Q E s := by
  refine Calls.call_function_entry kind_sorted plain_sorted entry_sorted (args_sorted1 _) ?_
  unfold Builtin.«sorted»
  refine wpAny_bind (m := checkCount "sorted" 1 1 _) (wpAny_pure ?_)
  refine wpAny_bind (wpAny_collect_seq l (.inr rfl) ho hc hd (fun h1 k1 => ?_) (by rw [sizeLine_eq]; have e := Array.length_toList (xs := items); omega))
  refine wpAny_bind (wpAny_newList ?_)
  have hoL : (h1.push (seqObj "list" items.toList.toArray 0)).get? h1.objs.size = some (seqObj "list" items.toList.toArray 0) := Heap.get?_push_size _ rfl
  have lt : s.heap.get? h1.objs.size = none := by
    cases e : s.heap.get? h1.objs.size with
    | none => rfl
    | some u => exact absurd (Heap.lt_size (k1 _ _ e)) (Nat.lt_irrefl _)
  show wpAny _ _ _ _ _ { s with heap := h1.push (seqObj "list" items.toList.toArray 0) }
  refine wpAny_bind (wpAny_holding (wpAny_call_entry slot_list_sort ⟨_, hoL, rfl⟩ entry_list_sort (list_sort_treeK strKind_oneLt hoL hS.keysOf (fun v₁ v₂ rest e => keyKind_strs (by rw [← e]; exact hS)) h64 fun st' a1 a2 => ⟨_, rfl, ?_⟩) (args_list_sort _)))
  obtain ⟨ss', z1, z2, z3⟩ := sorted_out_str hS a1 a2
  obtain ⟨ep, he⟩ := sortedHeap_at (vs := items.toList) (out := (arrOf st').map (·.2)) hoL
  refine wpAny_pure ⟨_, rfl, h _ _ _ ep ss' (fun b u hb => ?_) lt he z1 z2 z3⟩
  have hb1 := k1 b u hb
  have hl := Heap.lt_size hb1
  rw [sortedHeap_old (Nat.ne_of_lt hl) (by rw [size_push']; exact Nat.lt_succ_of_lt hl)]
  exact Heap.get?_push_of_some _ hb1
end
def rSortedTS (K : PySem.W.Frag) : List V → Hp → VK → Prop := fun vs H Q => ∃ (a : Addr) (xs : List Str), vs = [V.ref a] ∧ SqT K H a (sts xs) ∧ xs.length < 64 ∧ ∀ (ys : List Str) (p : Addr), ys.Perm xs → PyProof.Rows.sortedS ys = true → H p = none → Q (.ref p) (upd H p (.lst (sts ys)))
theorem cr_sortedTS {X : Cx} : CallR X (.builtin "sorted") (rSortedTS X.K) := by
  intro pins s σ H vs us Q I r h
  obtain ⟨a, xs, rfl, hs, h64, q⟩ := h
  obtain ⟨its, rv, ⟨o, ho, hc, n, hd⟩, _⟩ := I.tuple hs
  rw [Vals.ref1 r]
  have hlen0 := rv.length
  rw [sts_len] at hlen0
  have e1 : its.toArray.toList = its := rfl
  refine sorted_tup ho hc hd (ss := xs) (by rw [e1]; exact Vals.strs rv) (by rw [e1]; omega) fun hh b out ep ss' kk hb hob z1 z2 z3 => ?_
  have hn : H b = none := I.hok.gone hb
  have hz : (sts ss').length ≤ sizeLine := by rw [sts_len, z2.length_eq]; exact small64 h64
  exact ⟨.ref b, _, I.laidN (o := .lst (sts ss')) (t' := s.toks) kk hb hn ⟨hz, out.toList, ep, vals_of_strs z1, hob⟩, rfl, q ss' b z2 z3 hn⟩
end GB
set_option Elab.async false
set_option linter.all false
set_option maxRecDepth 100000
set_option maxHeartbeats 8000000
namespace GB
open PySem L2
theorem not_in_take {l : List Str} {i : Nat} {x : Str} (nd : l.Nodup) (h : l[i]? = some x) : x ∉ l.take i := fun m => by
  obtain ⟨hi, e2⟩ := List.getElem?_eq_some_iff.mp h
  have e : l = l.take i ++ x :: l.drop (i + 1) := by rw [← e2, ← List.drop_eq_getElem_cons hi, List.take_append_drop]
  rw [e] at nd
  exact (List.nodup_append.mp nd).2.2 x m x List.mem_cons_self rfl
end GB
namespace K4
open PySem PySem.Spec L2 GB
abbrev sCkL : Stmt := topS 25
abbrev sCkF : Stmt := topS 26
abbrev sCkC : Stmt := topS 27
abbrev sIsF : Stmt := topS 29
abbrev sTE : Stmt := topS 30
def isfN : List Str := ["letters", "fixed", "thing", "letter", "values", "end", "value"]
def spCkL : Sp := fun vs H Q _ => ∃ (a : Addr) (ls : List (Str × Nat)), vs = [.ref a] ∧ H a = some (.dK (lkv ls)) ∧ ls ≠ [] ∧ (∀ q ∈ ls, nameB q.1 = true ∧ q.2 ≤ 2) ∧ ∀ H', Same H H' → Q .non H'
def spCkF : Sp := fun vs H Q _ => ∃ (a b : Addr) (ls : List (Str × Nat)) (fx : List Str), vs = [.ref a, .ref b] ∧ H a = some (.dK (lkv ls)) ∧ (ls.map (·.1)).Nodup ∧ H b = some (.lst (sts fx)) ∧ fx.Sublist (ls.map (·.1)) ∧ ∀ H', Same H H' → Q .non H'
def spCkC : Sp := fun vs H Q _ => ∃ (a b c : Addr) (ls : List (Str × Nat)) (fx cm : List Str), vs = [.ref a, .ref b, .ref c] ∧ H a = some (.dK (lkv ls)) ∧ (ls.map (·.1)).Nodup ∧ H b = some (.lst (sts fx)) ∧ H c = some (.lst (sts cm)) ∧ fx.Nodup ∧ cm.Sublist fx ∧ (∀ x ∈ cm, (x, 2) ∈ ls) ∧ ∀ H', Same H H' → Q .non H'
def spTE : Sp := fun vs H Q _ => ∃ (e : Addr) (k n : Str), vs = [.ref e] ∧ H e = some (.tup [.str k, .str n]) ∧ (k = "value" ∨ k = "fail") ∧ nameB n = true ∧ ∀ H', Same H H' → Q (.bl true) H'
def spIsF : Sp := fun vs H Q _ => ∃ (a b t : Addr) (ls : List (Str × Nat)) (fx : List Str) (f : Fact), vs = [.ref a, .ref b, .ref t] ∧ H a = some (.dK (lkv ls)) ∧ (ls.map (·.1)).Nodup ∧ H b = some (.lst (sts fx)) ∧ FactAt H f t ∧ f.Ok ls fx ∧ (∀ q ∈ ls, q.2 ≤ 2) ∧ ∀ H', Same H H' → Q (.bl true) H'
section
variable {P : Program} {w : World} {K : PySem.W.Frag} {mg : Str → Option Value} {base : Heap}
theorem scCkL : FnScope ["letters", "key", "many"] ["letters"] (defScope sCkL) := ⟨rfl, rfl, rfl, by decide +kernel, rfl, by decide +kernel, by decide +kernel⟩
theorem scCkF : FnScope ["letters", "fixed", "index", "letter"] ["letters", "fixed"] (defScope sCkF) := ⟨rfl, rfl, rfl, by decide +kernel, rfl, by decide +kernel, by decide +kernel⟩
theorem scCkC : FnScope ["letters", "fixed", "commuting", "index", "letter"] ["letters", "fixed", "commuting"] (defScope sCkC) := ⟨rfl, rfl, rfl, by decide +kernel, rfl, by decide +kernel, by decide +kernel⟩
theorem scTE : FnScope ["thing"] ["thing"] (defScope sTE) := ⟨rfl, rfl, rfl, by decide +kernel, rfl, by decide +kernel, by decide +kernel⟩
theorem scIsF : FnScope isfN ["letters", "fixed", "thing"] (defScope sIsF) := ⟨rfl, rfl, rfl, by decide +kernel, rfl, by decide +kernel, by decide +kernel⟩

theorem len8 {z : Str} (h : nameB z = true) : z.length ≤ sizeLine := by
  unfold nameB at h
  have := (Bool.and_eq_true_iff.mp h).1
  have := of_decide_eq_true this
  rw [sizeLine_eq]; omega
theorem ok_ckL {f : Addr} {fd : FuncData} (F : Fun K "_check_letters" "_check_letters" sCkL f fd) (T : Bl mg) (M : ∃ u, mg "MOST_PARTS" = some u ∧ RelV (.int 2) u) (NM : Fns P w K mg base "is_name" 1 ["thing"] (spIsNm K)) (NU : Fns P w K mg base "is_number" 1 ["thing"] (spIsN K)) :
    FnOk P w K mg base CX0 2 f fd ["letters"] spCkL := by
  obtain ⟨uM, gM, rM⟩ := M
  refine F.ok scCkL (fun vs H Q E h => ?_) (fun cdv A outer s H vs Q E hr h => ?_)
  · obtain ⟨a, ls, rfl, _⟩ := h
    rfl
  · obtain ⟨a, ls, rfl, hL, hne, hok, q⟩ := h
    refine ⟨_, pss_cons (ps_if (PW.pt (pw_or (pt_not (pt_val (pe_callB call_isi (by rfl) T.isi (by decide +kernel) (pa_cons (pv 0) (pa_cons (pe_bltn (v := .ty "dict") (by rfl) T.dict (by decide +kernel) rfl) (pa_nil)))))) (pw_or1 (pt_cmpR op_eq (pe_callB call_lenD (by rfl) T.len PySem.boot_len (pa_cons (pv 0) (pa_nil))) (pe_int) (nomark _))))) (pss_one ps_never) (pss_nil)) (pss_one (ps_lock (ps_for PassesOwn.never rfl (pi_items (pv 0)) (pg_tup rfl (pgs_cons (pg_name (i := 1) scCkL.nd rfl (.inl rfl)) (pgs_cons (pg_name (i := 2) scCkL.nd rfl (.inl rfl)) (pgs_nil)))) (pss_one (ps_if (PW.pt (pw_or (pt_not (pt_val (pe_fn NM hr (by decide) rfl (pa_cons (pv 1) (pa_nil))))) (pw_or (pt_not (pt_val (pe_fn NU hr (by decide) rfl (pa_cons (pv 2) (pa_nil))))) (pw_or1 (pt_not (pt_chain op_le op_le pe_int (pv 2) (pe_glob rfl gM rM))))))) (pss_one ps_never) (pss_nil)))))), ?_⟩
    refine ⟨_, rfl, .ref a, .ty "dict", .type "dict", .type "dict", true, rfl, .ty "dict", .base (.dK hL), kit_ty (by decide +kernel), true, rfl, ?_⟩
    refine iteF ?_
    refine ⟨_, rfl, a, _, rfl, hL, rfl, _, rfl, ?_⟩
    have l0 : (lkv ls).length ≠ 0 := by
      have e : (lkv ls).length = ls.length := List.length_map _
      have := List.length_pos_iff.mpr hne
      omega
    rw [decI, decide_eq_false (by omega)]
    refine iteF ?_
    refine ⟨a, _, hL, trivial, fun od => ?_⟩
    obtain ⟨Hl, hlL, hlo, el⟩ : ∃ Hl, Hl a = some (.frz od (.dK (lkv ls))) ∧ (∀ b, b ≠ a → Hl b = H b) ∧ upd H a (.frz od (.dK (lkv ls))) = Hl := ⟨_, upd_same, fun b hb => upd_ne hb, rfl⟩
    rw [el]
    refine ⟨_, rfl, a, od, _, rfl, hlL, ?_⟩
    refine for_it walk_items (fun i σ H' => ∃ o1 o2, σ = [some (.ref a), o1, o2] ∧ Same Hl H') ⟨none, none, rfl, Same.refl _⟩ (fun i σ H' _ ⟨o1, o2, _, s'⟩ => s' _ _ hlL) ?_ ?_
    · rintro i x σ H1 H1' hi ⟨o1, o2, rfl, s1⟩ ⟨Tp, y1, y2, rfl, nT, rfl, e1, e2⟩
      obtain ⟨⟨sx, m⟩, hq, ex1, ex2⟩ : ∃ q, ls[i]? = some q ∧ y1 = .str q.1 ∧ y2 = .int (q.2 : Int) := by
        have e1 : (lkv ls)[i]?.map (fun kv => kV kv.1) = some y1 := e1
        have e2 : (lkv ls)[i]?.map Prod.snd = some y2 := e2
        unfold lkv at e1 e2
        rw [List.getElem?_map] at e1 e2
        cases e : ls[i]? with
        | none => rw [e] at e1; cases e1
        | some q => rw [e] at e1 e2; exact ⟨q, rfl, (Option.some.inj e1).symm, (Option.some.inj e2).symm⟩
      subst ex1 ex2
      obtain ⟨hn, hm⟩ := hok _ (List.mem_of_getElem? hq)
      obtain ⟨H2, s2, h2, e2'⟩ := lay (o := .tup [.str sx, .int (m : Int)]) nT
      rw [e2']
      refine ⟨Tp, _, rfl, SqT.of h2, rfl, _, _, rfl, _, _, rfl, rfl, ?_⟩
      refine ⟨_, rfl, _, rfl, .inl ⟨sx, rfl, len8 hn, fun H3 s3 => ⟨true, by rw [hn], ?_⟩⟩⟩
      refine iteF ?_
      refine ⟨_, rfl, .int (m : Int), .type "int", true, false, rfl, .base (.int _), kit_ty (by decide +kernel), kit_ty (by decide +kernel), true, rfl, ?_⟩
      refine iteF ?_
      refine ⟨_, rfl, _, _, rfl, rfl, _, rfl, ?_⟩
      rw [decide_eq_true (by omega : (0 : Int) ≤ (m : Int))]
      refine iteT ?_
      refine ⟨_, _, rfl, rfl, _, rfl, ?_⟩
      rw [decide_eq_true (by show (m : Int) ≤ 2; have : m ≤ 2 := hm; omega)]
      refine iteF ?_
      exact ⟨_, _, rfl, (s1.trans s2).trans s3⟩
    · rintro σ H1 ⟨o1, o2, rfl, s1⟩
      refine ⟨s1 _ _ hlL, q _ fun b o e => ?_⟩
      by_cases hb : b = a
      · subst hb; rw [upd_same, ← e, hL]
      · rw [upd_ne hb]; exact s1 _ _ ((hlo b hb).trans e)
theorem ok_ckF {f : Addr} {fd : FuncData} (F : Fun K "_check_fixed" "_check_fixed" sCkF f fd) (T : Bl mg) (IL : Fns P w K mg base "is_list" 1 ["thing"] (spIsL K)) : FnOk P w K mg base CX0 2 f fd ["letters", "fixed"] spCkF := by
  refine F.ok scCkF (fun vs H Q E h => ?_) (fun cdv A outer s H vs Q E hr h => ?_)
  · obtain ⟨a, b, ls, fx, rfl, _⟩ := h
    rfl
  · obtain ⟨a, b, ls, fx, rfl, hL, lnd, hF, sub, q⟩ := h
    have hu := hu_of hr
    refine ⟨_, pss_cons (ps_if (pt_not (pt_val (pe_fn IL hr (by decide) rfl (pa_cons (pv 1) (pa_nil))))) (pss_one ps_never) (pss_nil)) (pss_one (ps_for PassesOwn.never rfl (pi_enumW rfl T.enum (pa_cons (pv 1) (pa_nil))) (pg_tup rfl (pgs_cons (pg_name (i := 2) scCkF.nd rfl (.inl rfl)) (pgs_cons (pg_name (i := 3) scCkF.nd rfl (.inl rfl)) (pgs_nil)))) (pss_one (ps_if (PW.pt (pw_or (pt_not (pt_val (pe_callB call_isi (by rfl) T.isi (by decide +kernel) (pa_cons (pv 3) (pa_cons (pe_bltn (v := .ty "str") (by rfl) T.str (by decide +kernel) rfl) (pa_nil)))))) (pw_or (pt_cmp (pc_dnotin hu (pv 3) (pv 0))) (pw_or1 (pt_cmpR op_in_seq (pv 3) (pe_slice sl_list (pv 1) po_none (po_some (pv 2))) (by rfl)))))) (pss_one ps_never) (pss_nil))))), ?_⟩
    obtain ⟨ty, ht, hty⟩ := tyS (K := K) (.inl (SqL.of hF) : SqA K H b (sts fx))
    refine ⟨_, rfl, .ref b, _, true, rfl, hty, kit_seq ht, fun H1 s1 => ⟨_, rfl, ?_⟩⟩
    refine iteF ?_
    refine ⟨_, rfl, b, sts fx, true, [], rfl, SqL.of (hid_to (by simp) (s1 _ _ hF)), fun J WJ => ?_⟩
    refine for_it WJ (fun i σ H' => ∃ o1 o2, σ = [some (.ref a), some (.ref b), o1, o2] ∧ Same H H') ⟨none, none, rfl, s1⟩ (fun i σ H' _ ⟨o1, o2, _, s'⟩ => SqL.of (hid_to (by simp) (s' _ _ hF))) ?_ ?_
    · rintro i x σ H2 H2' hi ⟨o1, o2, rfl, s2⟩ ⟨Tp, y1, y2, rfl, nT, rfl, e1, e2⟩
      obtain rfl := Option.some.inj e1
      obtain ⟨sx, hsx, rfl⟩ := sts_at e2
      obtain ⟨H3, s3, h3, e3⟩ := lay (o := .tup [.int (i : Nat), .str sx]) nT
      rw [e3]
      have S3 := s2.trans s3
      have mfx := List.mem_of_getElem? hsx
      obtain ⟨q1, hq1, eq1⟩ := List.mem_map.mp (sub.subset mfx)
      refine ⟨Tp, _, rfl, SqT.of h3, rfl, _, _, rfl, _, _, rfl, rfl, ?_⟩
      refine ⟨_, rfl, .str sx, .ty "str", .type "str", .type "str", true, rfl, .ty "str", .base (.str sx), kit_ty (by decide +kernel), true, rfl, ?_⟩
      refine iteF ?_
      have hv : valV (lkv ls) (.inr sx : Key) = some (.int (q1.2 : Int)) := valV_lkv lnd (by rw [← eq1]; exact hq1)
      refine ⟨_, rfl, _, rfl, a, some (.int (q1.2 : Int)), rfl, (by rw [← hv]; exact DGet.k (k := .inr sx) (S3 _ _ hL)), _, rfl, ?_⟩
      refine iteF ?_
      refine ⟨_, rfl, _, rfl, _, rfl, _, rfl, b, sts fx, rfl, SqL.of (S3 _ _ hF), fun p np => ?_⟩
      have hil : i < fx.length := (List.getElem?_eq_some_iff.mp hsx).1
      have ec : cutV (sts fx) none (some ((i : Nat) : Int)) = sts (fx.take i) := by rw [cut_to _ _ (by rw [sts_len]; omega)]; unfold sts; rw [List.map_take]
      obtain ⟨H4, s4, h4, e4⟩ := lay (o := .lst (sts (fx.take i))) np
      rw [ec, e4]
      refine ⟨p, sts (fx.take i), rfl, .inl (SqL.of h4), rfl, flat_sts _, _, rfl, ?_⟩
      rw [show (if false = true then !inV (.str sx) (sts (fx.take i)) else inV (.str sx) (sts (fx.take i))) = false from (inV_sts _ _).trans (decide_eq_false (not_in_take (sub.nodup lnd) hsx))]
      refine iteF ?_
      exact ⟨_, _, rfl, S3.trans s4⟩
    · rintro σ H2 ⟨o1, o2, rfl, s2⟩
      exact q _ s2
theorem ok_ckC {f : Addr} {fd : FuncData} (F : Fun K "_check_commuting" "_check_commuting" sCkC f fd) (T : Bl mg) (IL : Fns P w K mg base "is_list" 1 ["thing"] (spIsL K)) : FnOk P w K mg base CX0 2 f fd ["letters", "fixed", "commuting"] spCkC := by
  refine F.ok scCkC (fun vs H Q E h => ?_) (fun cdv A outer s H vs Q E hr h => ?_)
  · obtain ⟨a, b, c, ls, fx, cm, rfl, _⟩ := h
    rfl
  · obtain ⟨a, b, c, ls, fx, cm, rfl, hL, lnd, hF, hC, fnd, sub, c2, q⟩ := h
    have hu := hu_of hr
    refine ⟨_, pss_cons (ps_if (pt_not (pt_val (pe_fn IL hr (by decide) rfl (pa_cons (pv 2) (pa_nil))))) (pss_one ps_never) (pss_nil)) (pss_one (ps_for PassesOwn.never rfl (pi_enumW rfl T.enum (pa_cons (pv 2) (pa_nil))) (pg_tup rfl (pgs_cons (pg_name (i := 3) scCkC.nd rfl (.inl rfl)) (pgs_cons (pg_name (i := 4) scCkC.nd rfl (.inl rfl)) (pgs_nil)))) (pss_one (ps_if (PW.pt (pw_or (pt_cmpR op_notIn_seq (pv 4) (pv 1) (by rfl)) (pw_or (pt_cmpR op_ne (pe_dget hu (pv 0) (pv 4) (fun _ _ => rfl)) (pe_int) (nomark _)) (pw_or1 (pt_cmpR op_in_seq (pv 4) (pe_slice sl_list (pv 2) po_none (po_some (pv 3))) (by rfl)))))) (pss_one ps_never) (pss_nil))))), ?_⟩
    obtain ⟨ty, ht, hty⟩ := tyS (K := K) (.inl (SqL.of hC) : SqA K H c (sts cm))
    refine ⟨_, rfl, .ref c, _, true, rfl, hty, kit_seq ht, fun H1 s1 => ⟨_, rfl, ?_⟩⟩
    refine iteF ?_
    refine ⟨_, rfl, c, sts cm, true, [], rfl, SqL.of (hid_to (by simp) (s1 _ _ hC)), fun J WJ => ?_⟩
    refine for_it WJ (fun i σ H' => ∃ o1 o2, σ = [some (.ref a), some (.ref b), some (.ref c), o1, o2] ∧ Same H H') ⟨none, none, rfl, s1⟩ (fun i σ H' _ ⟨o1, o2, _, s'⟩ => SqL.of (hid_to (by simp) (s' _ _ hC))) ?_ ?_
    · rintro i x σ H2 H2' hi ⟨o1, o2, rfl, s2⟩ ⟨Tp, y1, y2, rfl, nT, rfl, e1, e2⟩
      obtain rfl := Option.some.inj e1
      obtain ⟨sx, hsx, rfl⟩ := sts_at e2
      obtain ⟨H3, s3, h3, e3⟩ := lay (o := .tup [.int (i : Nat), .str sx]) nT
      rw [e3]
      have S3 := s2.trans s3
      have mcm := List.mem_of_getElem? hsx
      refine ⟨Tp, _, rfl, SqT.of h3, rfl, _, _, rfl, _, _, rfl, rfl, ?_⟩
      refine ⟨_, rfl, _, rfl, b, sts fx, rfl, .inl (SqL.of (S3 _ _ hF)), rfl, flat_sts _, _, rfl, ?_⟩
      rw [show (if true = true then !inV (.str sx) (sts fx) else inV (.str sx) (sts fx)) = false from by rw [if_pos rfl, inV_sts, decide_eq_true (sub.subset mcm)]; rfl]
      refine iteF ?_
      have hv : valV (lkv ls) (.inr sx : Key) = some (.int ((2 : Nat) : Int)) := valV_lkv lnd (c2 _ mcm)
      refine ⟨_, rfl, _, rfl, a, .int ((2 : Nat) : Int), rfl, (by rw [← hv]; exact DGet.k (k := .inr sx) (S3 _ _ hL)), rfl, _, rfl, ?_⟩
      refine iteNS rfl ?_
      refine ⟨_, rfl, _, rfl, _, rfl, _, rfl, c, sts cm, rfl, SqL.of (S3 _ _ hC), fun p np => ?_⟩
      have hil : i < cm.length := (List.getElem?_eq_some_iff.mp hsx).1
      have ec : cutV (sts cm) none (some ((i : Nat) : Int)) = sts (cm.take i) := by rw [cut_to _ _ (by rw [sts_len]; omega)]; unfold sts; rw [List.map_take]
      obtain ⟨H4, s4, h4, e4⟩ := lay (o := .lst (sts (cm.take i))) np
      rw [ec, e4]
      refine ⟨p, sts (cm.take i), rfl, .inl (SqL.of h4), rfl, flat_sts _, _, rfl, ?_⟩
      rw [show (if false = true then !inV (.str sx) (sts (cm.take i)) else inV (.str sx) (sts (cm.take i))) = false from (inV_sts _ _).trans (decide_eq_false (not_in_take (sub.nodup fnd) hsx))]
      refine iteF ?_
      exact ⟨_, _, rfl, S3.trans s4⟩
    · rintro σ H2 ⟨o1, o2, rfl, s2⟩
      exact q _ s2
theorem ok_te {f : Addr} {fd : FuncData} (F : Fun K "_is_told_end" "_is_told_end" sTE f fd) (T : Bl mg) (IL : Fns P w K mg base "is_list" 1 ["thing"] (spIsL K)) (NM : Fns P w K mg base "is_name" 1 ["thing"] (spIsNm K)) : FnOk P w K mg base CX0 2 f fd ["thing"] spTE := by
  refine F.ok scTE (fun vs H Q E h => ?_) (fun cdv A outer s H vs Q E hr h => ?_)
  · obtain ⟨e, k, n, rfl, _⟩ := h
    rfl
  · obtain ⟨e, k, n, rfl, he, hk, hn, q⟩ := h
    refine ⟨_, pss_cons (ps_if (PW.pt (pw_or (pt_not (pt_val (pe_fn IL hr (by decide) rfl (pa_cons (pv 0) (pa_nil))))) (pw_or1 (pt_cmpR op_ne (pe_callB call_len_seq (by rfl) T.len PySem.boot_len (pa_cons (pv 0) (pa_nil))) (pe_int) (nomark _))))) (pss_one (ps_ret pe_bl)) (pss_nil)) (pss_one (ps_ret (pe_and (pe_cmpR op_in_seq (pe_ix ix_tup (pv 0) (pe_int) (fun _ _ => rfl)) (pe_tup (pa_cons (pe_str) (pa_cons (pe_str) (pa_nil)))) (by rfl)) (pe_one (pe_fn NM hr (by decide) rfl (pa_cons (pe_ix ix_tup (pv 0) (pe_int) (fun _ _ => rfl)) (pa_nil))))))), ?_⟩
    obtain ⟨ty, ht, hty⟩ := tyS (K := K) (.inr (SqT.of he) : SqA K H e [.str k, .str n])
    refine ⟨_, rfl, .ref e, _, true, rfl, hty, kit_seq ht, fun H1 s1 => ⟨_, rfl, ?_⟩⟩
    refine iteF ?_
    refine ⟨_, rfl, e, _, rfl, .inr (SqT.of (s1 _ _ he)), rfl, _, rfl, ?_⟩
    refine iteF ?_
    refine ⟨_, rfl, e, _, ((0 : Nat) : Int), _, rfl, rfl, SqT.of (s1 _ _ he), atI_nat (j := 0) rfl, by show 2 ≤ sizeLine; decide, fun t nt => ?_⟩
    obtain ⟨H2, s2, h2, e2⟩ := lay (o := .tup (sts ["value", "fail"])) nt
    rw [show ([V.str "value", V.str "fail"] : List V) = sts ["value", "fail"] from rfl, e2]
    refine ⟨t, sts ["value", "fail"], rfl, .inr (SqT.of h2), rfl, flat_sts _, true, ?_, ?_⟩
    · rw [show (if false = true then !inV (.str k) (sts ["value", "fail"]) else inV (.str k) (sts ["value", "fail"])) = true from (inV_sts _ _).trans (decide_eq_true (by rcases hk with rfl | rfl <;> decide))]
    · refine iteT ?_
      refine ⟨_, rfl, e, _, ((1 : Nat) : Int), _, rfl, rfl, SqT.of (s2 _ _ (s1 _ _ he)), atI_nat (j := 1) rfl, _, rfl, .inl ⟨n, rfl, len8 hn, fun H3 s3 => ?_⟩⟩
      rw [hn]
      exact q _ ((s1.trans s2).trans s3)
end
end K4
set_option Elab.async false
set_option linter.all false
set_option maxRecDepth 100000
set_option maxHeartbeats 8000000
namespace GB
open PySem PySem.Spec L2
def txk (l : List Str) : List NestedKey := l.map NestedKey.text
def nkO (a : Str × List Str) : NestedKey := .tup [.text a.1, .tup (txk a.2)]
theorem txk_inj : ∀ {l m : List Str}, txk l = txk m → l = m
  | [], [], _ => rfl
  | [], _ :: _, h => by cases h
  | _ :: _, [], h => by cases h
  | x :: l, y :: m, h => by
    have h1 : NestedKey.text x = .text y ∧ txk l = txk m := List.cons.inj h
    obtain rfl := NestedKey.text.inj h1.1
    rw [txk_inj h1.2]
theorem nkO_inj {a b : Str × List Str} (h : nkO a = nkO b) : a = b := by
  obtain ⟨x, l⟩ := a
  obtain ⟨y, m⟩ := b
  have h1 := List.cons.inj (NestedKey.tup.inj h)
  obtain rfl := NestedKey.text.inj h1.1
  have h2 := (List.cons.inj h1.2).1
  obtain rfl : l = m := txk_inj (NestedKey.tup.inj h2)
  rfl
theorem txk_depth : ∀ l : List Str, NestedKey.depthAll (txk l) = 0
  | [] => by simp [txk, NestedKey.depthAll]
  | x :: l => by
    have := txk_depth l
    unfold txk at this ⊢
    rw [List.map_cons, NestedKey.depthAll, this, NestedKey.depth]
    rfl
theorem nkO_depth (a : Str × List Str) : (nkO a).depth ≤ 8 := by
  unfold nkO
  rw [NestedKey.depth, NestedKey.depthAll, NestedKey.depthAll, NestedKey.depthAll, NestedKey.depth, NestedKey.depth, txk_depth]
  decide
theorem nk_txk {H : Hp} : ∀ l : List Str, NkAll H (txk l) (sts l)
  | [] => .nil
  | x :: l => .cons (.text x) (nk_txk l)
mutual
theorem NkV.mono {H H' : Hp} (s : Same H H') : ∀ (k : NestedKey) (v : V), NkV H k v → NkV H' k v
  | .text _, _, h => by cases h; exact .text _
  | .tup ks, _, h => by
    cases h with
    | tup ha hx => exact .tup (s _ _ ha) (NkAll.mono s ks _ hx)
  | .none, _, h => nomatch h
  | .num _, _, h => nomatch h
theorem NkAll.mono {H H' : Hp} (s : Same H H') : ∀ (ks : List NestedKey) (vs : List V), NkAll H ks vs → NkAll H' ks vs
  | [], _, h => by cases h; exact .nil
  | k :: ks, _, h => by
    cases h with
    | cons h1 h2 => exact .cons (NkV.mono s k _ h1) (NkAll.mono s ks _ h2)
end
theorem NdKeys.mono {H H' : Hp} (s : Same H H') {xs : NX} (h : NdKeys H xs) : NdKeys H' xs := fun e he => ⟨NkV.mono s _ _ (h e he).1, (h e he).2⟩
theorem paired_at' {α β : Type} {R : α → β → Prop} : ∀ {l : List α} {m : List β} {j : Nat} {c : α}, Paired R l m → l[j]? = some c → ∃ x, m[j]? = some x ∧ R c x
  | _, _, j, c, .nil, e => by simp at e
  | _, _, 0, c, .cons r _, e => by
    obtain rfl : _ = c := by simpa using e
    exact ⟨_, rfl, r⟩
  | _, _, j + 1, c, .cons _ t, e => paired_at' (j := j) t (by simpa using e)
theorem atKey_none {xs : NX} {k : NestedKey} (h : k ∉ xs.map (·.1)) : atKey xs k = none := by
  unfold atKey
  rw [Option.map_eq_none_iff, List.find?_eq_none]
  intro x hx e
  exact h (List.mem_map.mpr ⟨x, hx, of_decide_eq_true e⟩)
theorem not_in_take_map {α β : Type} {f : α → β} {l : List α} {i : Nat} {x y : α} (nd : (l.map f).Nodup) (h : l[i]? = some x) (hy : y ∈ l.take i) (e : f y = f x) : False := by
  obtain ⟨hi, e2⟩ := List.getElem?_eq_some_iff.mp h
  have el : l = l.take i ++ x :: l.drop (i + 1) := by rw [← e2, ← List.drop_eq_getElem_cons hi, List.take_append_drop]
  rw [el, List.map_append, List.map_cons] at nd
  exact (List.nodup_append.mp nd).2.2 (f y) (List.mem_map.mpr ⟨y, hy, rfl⟩) (f x) List.mem_cons_self e
/-- tuple(sorted(values) if .. else values) -/
def tAsk : TE := fun σ H Q => ∃ (x : Str) (v c : Addr) (vals cm : List Str), σ[7]? = some (some (.str x)) ∧ σ[2]? = some (some (.ref c)) ∧ σ[8]? = some (some (.ref v)) ∧ H c = some (.lst (sts cm)) ∧ H v = some (.tup (sts vals)) ∧ vals.length ≤ 2 ∧ (∀ x ∈ vals, x ∈ va3) ∧
  ∀ kv H6, Same H H6 → H6 kv = some (.tup (sts (if x ∈ cm then sort2 vals else vals))) → Q (.ref kv) H6
theorem pe_weak {X : Cx} {e : Expr} {t t' : TE} (h : PE X e t) (w : ∀ σ H Q, t' σ H Q → t σ H Q) : PE X e t' := ⟨fun pins s σ H Q I q => h.run pins s σ H Q I (w σ H Q q)⟩
theorem ask_weak {K : PySem.W.Frag} (σ : L2.St) (H : Hp) (Q : VK) (h : tAsk σ H Q) : tCB (fun xs H_1 Q => ∃ p ys, xs = [V.ref p] ∧ ((SqL K H_1 p ys ∧ ∀ l, H_1 l = none → Q (.ref l) (upd H_1 l (.tup ys))) ∨ (SqT K H_1 p ys ∧ Q (.ref p) H_1)))
    (tCons (tIf (tTest (tOp (rIn K false) (tVar 7) (tVar 2))) (tCB (rSortedTS K) (tCons (tVar 8) tNil)) (tVar 8)) tNil) σ H Q := by
  obtain ⟨x, v, c, vals, cm, h7, h2, h8, hc, hv, l2, v3, q⟩ := h
  refine ⟨_, h7, _, h2, c, sts cm, rfl, .inl (SqL.of hc), rfl, flat_sts _, _, rfl, ?_⟩
  rw [show (if false = true then !inV (.str x) (sts cm) else inV (.str x) (sts cm)) = decide (x ∈ cm) from inV_sts _ _]
  by_cases m : x ∈ cm
  · rw [decide_eq_true m]
    refine iteT ?_
    refine ⟨_, h8, v, vals, rfl, SqT.of hv, by omega, fun ys p hperm hsrt np => ?_⟩
    obtain ⟨H1, s1, h1, e1⟩ := lay (o := .lst (sts ys)) np
    rw [e1]
    refine ⟨p, sts ys, rfl, .inl ⟨SqL.of h1, fun l nl => ?_⟩⟩
    obtain ⟨H2, s2, h2, e2⟩ := lay (o := .tup (sts ys)) nl
    rw [e2]
    exact q l H2 (s1.trans s2) (by rw [if_pos m, ← sort2_of hperm hsrt l2 v3]; exact h2)
  · rw [decide_eq_false m]
    refine iteF ?_
    exact ⟨_, h8, v, sts vals, rfl, .inr ⟨SqT.of hv, q v H (Same.refl _) (by rw [if_neg m]; exact hv)⟩⟩
end GB
namespace K4
open PySem PySem.Spec L2 GB
abbrev sFT : Stmt := topS 28
def ftN : List Str := ["letters", "fixed", "commuting", "facts", "told", "index", "thing", "letter", "values", "end", "asked"]
def spFT : Sp := fun vs H Q _ => ∃ (a b c d : Addr) (g : GD), vs = [.ref a, .ref b, .ref c, .ref d] ∧ H a = some (.dK (lkv g.letters)) ∧ H b = some (.lst (sts g.fixed)) ∧ H c = some (.lst (sts g.comm)) ∧ FactsAt H d g.facts ∧ g.Wf ∧
  ∀ l H', H l = none → Same H H' → FactsAt H' l g.facts → Q (.ref l) H'
section
variable {P : Program} {w : World} {K : PySem.W.Frag} {mg : Str → Option Value} {base : Heap}
theorem scFT : FnScope ftN ["letters", "fixed", "commuting", "facts"] (defScope sFT) := ⟨rfl, rfl, rfl, by decide +kernel, rfl, by decide +kernel, by decide +kernel⟩

theorem ok_isF {f : Addr} {fd : FuncData} (F : Fun K "_is_fact" "_is_fact" sIsF f fd) (T : Bl mg) (IL : Fns P w K mg base "is_list" 1 ["thing"] (spIsL K)) (NM : Fns P w K mg base "is_name" 1 ["thing"] (spIsNm K)) (TE : Fns P w K mg base "_is_told_end" 2 ["thing"] spTE) :
    FnOk P w K mg base CX0 3 f fd ["letters", "fixed", "thing"] spIsF := by
  refine F.ok scIsF (fun vs H Q E h => ?_) (fun cdv A outer s H vs Q E hr h => ?_)
  · obtain ⟨a, b, t, ls, fx, fa, rfl, _⟩ := h
    rfl
  · obtain ⟨a, b, t, ls, fx, fa, rfl, hL, lnd, hF, hA, ok, har, q⟩ := h
    have hu := hu_of hr
    refine ⟨_, pss_cons (ps_if (PW.pt (pw_or (pt_not (pt_val (pe_fn IL hr (by decide) rfl (pa_cons (pv 2) (pa_nil))))) (pw_or1 (pt_cmpR op_ne (pe_callB call_len_seq (by rfl) T.len PySem.boot_len (pa_cons (pv 2) (pa_nil))) (pe_int) (nomark _))))) (pss_one (ps_ret pe_bl)) (pss_nil)) (pss_cons (ps_asg (pv 2) (pg_tup rfl (pgs_cons (pg_name (i := 3) scIsF.nd rfl (.inl rfl)) (pgs_cons (pg_name (i := 4) scIsF.nd rfl (.inl rfl)) (pgs_cons (pg_name (i := 5) scIsF.nd rfl (.inl rfl)) (pgs_nil)))))) (pss_cons (ps_if (PW.pt (pw_or (pt_cmpR op_notIn_seq (pv 3) (pv 1) (by rfl)) (pw_or (pt_not (pt_val (pe_fn IL hr (by decide) rfl (pa_cons (pv 4) (pa_nil))))) (pw_or1 (pt_cmpR op_ne (pe_callB call_len_seq (by rfl) T.len PySem.boot_len (pa_cons (pv 4) (pa_nil))) (pe_dget hu (pv 0) (pv 3) (fun _ _ => rfl)) (nomark _)))))) (pss_one (ps_ret pe_bl)) (pss_nil)) (pss_one (ps_ret (pe_and (pe_callB (cr_all rfl) (by rfl) T.all (by decide +kernel) (pa_cons (pe_lc (own := [("value", 6)]) (g := gName 6) (tt := tYes) rfl scIsF.nd (pi_seqW (pv 4)) (blkOk_by (own := [("value", 6)]) (N := isfN) (sc := defScope sIsF) (by decide +kernel)) (fun _ _ _ _ _ => pg_name (i := 6) scIsF.nd rfl (.inl rfl)) (fun _ _ _ _ _ => pts_nil) (fun _ _ _ _ _ => pe_fn NM hr (by decide) rfl (pa_cons (pv 6) (pa_nil)))) (pa_nil))) (pe_one (pe_fn TE hr (by decide) rfl (pa_cons (pv 5) (pa_nil))))))))), ?_⟩
    obtain ⟨v, e, ht, hv, he⟩ := hA.ex
    obtain ⟨k, hk, hvl⟩ := ok.len
    obtain ⟨ty, hty0, hty⟩ := tyS (K := K) (.inr (SqT.of ht) : SqA K H t [.str fa.x, .ref v, .ref e])
    refine ⟨_, rfl, .ref t, _, true, rfl, hty, kit_seq hty0, fun H1 s1 => ⟨_, rfl, ?_⟩⟩
    refine iteF ?_
    refine ⟨_, rfl, t, _, rfl, .inr (SqT.of (s1 _ _ ht)), rfl, _, rfl, ?_⟩
    refine iteF ?_
    refine ⟨_, rfl, t, _, rfl, SqT.of (s1 _ _ ht), rfl, _, _, rfl, _, _, rfl, _, _, rfl, rfl, ?_⟩
    refine ⟨_, rfl, _, rfl, b, sts fx, rfl, .inl (SqL.of (s1 _ _ hF)), rfl, flat_sts _, _, rfl, ?_⟩
    rw [show (if true = true then !inV (.str fa.x) (sts fx) else inV (.str fa.x) (sts fx)) = false from by rw [if_pos rfl, inV_sts, decide_eq_true ok.x]; rfl]
    refine iteF ?_
    obtain ⟨ty2, hty2, hty3⟩ := tyS (K := K) (.inr (SqT.of (s1 _ _ hv)) : SqA K H1 v (sts fa.vals))
    refine ⟨_, rfl, .ref v, _, true, rfl, hty3, kit_seq hty2, fun H2 s2 => ⟨_, rfl, ?_⟩⟩
    refine iteF ?_
    have S2 := s1.trans s2
    have hvv : valV (lkv ls) (.inr fa.x : Key) = some (.int (k : Int)) := valV_lkv lnd hk
    refine ⟨_, rfl, v, sts fa.vals, rfl, .inr (SqT.of (S2 _ _ hv)), _, rfl, _, rfl, a, .int (k : Int), rfl, (by rw [← hvv]; exact DGet.k (k := .inr fa.x) (S2 _ _ hL)), rfl, _, rfl, ?_⟩
    rw [show (!decide (V.int ((sts fa.vals).length : Int) = V.int (k : Int))) = false from by rw [sts_len, hvl, decide_eq_true rfl]; rfl]
    refine iteF ?_
    refine ⟨_, rfl, v, sts fa.vals, false, [], rfl, SqT.of (hid_to (by simp) (S2 _ _ hv)), fun J WJ D nD => ?_⟩
    refine lc_it WJ (fun i H' => Same H2 H' ∧ H' D = some (.lst ((List.replicate i true).map V.bl))) ⟨same_new nD, upd_same⟩ (fun i H' _ ⟨s', _⟩ => SqT.of (hid_to (by simp) (s' _ _ (S2 _ _ hv)))) ?_ ?_
    · rintro i x H3 H3' hi ⟨s3, h3⟩ ⟨rfl, hx⟩
      obtain ⟨sx, hsx, rfl⟩ := sts_at hx
      have nB : nameB sx = true := (show ∀ x ∈ va3, nameB x = true by decide +kernel) _ (ok.vals _ (List.mem_of_getElem? hsx))
      have hil : i < fa.vals.length := (List.getElem?_eq_some_iff.mp hsx).1
      have kl : k ≤ 2 := har _ hk
      refine ⟨rfl, ?_⟩
      refine ⟨_, rfl, _, rfl, .inl ⟨sx, rfl, len8 nB, fun H4 s4 => ?_⟩⟩
      refine ⟨_, s4 _ _ h3, by rw [List.length_map, List.length_replicate, sizeLine_eq]; omega, fun b o e => ?_, ?_⟩
      · rw [upd_ne (ne_of_none e nD)]; exact s4 _ _ (s3 _ _ e)
      · rw [upd_same, nB, List.replicate_succ', List.map_append]; rfl
    · rintro H3 ⟨s3, h3⟩
      refine ⟨D, _, rfl, SqL.of h3, true, ?_, ?_⟩
      · rw [List.all_replicate]; simp
      · refine iteT ?_
        exact ⟨_, rfl, e, fa.kind, fa.en, rfl, (S2.trans s3) _ _ he, ok.kind, by rcases ok.en with h | h <;> rw [h] <;> decide +kernel, fun H4 s4 => q _ ((S2.trans s3).trans s4)⟩
theorem ok_ft {f : Addr} {fd : FuncData} (F : Fun K "_facts_as_told" "_facts_as_told" sFT f fd) (T : Bl mg) (IL : Fns P w K mg base "is_list" 1 ["thing"] (spIsL K)) (ISF : Fns P w K mg base "_is_fact" 3 ["letters", "fixed", "thing"] spIsF) :
    FnOk P w K mg base CX0 4 f fd ["letters", "fixed", "commuting", "facts"] spFT := by
  refine F.ok scFT (fun vs H Q E h => ?_) (fun cdv A outer s H vs Q E hr h => ?_)
  · obtain ⟨a, b, c, d, g, rfl, _⟩ := h
    rfl
  · obtain ⟨a, b, c, d, g, rfl, hL, hF, hC, ⟨ts, hd, hts⟩, wf, q⟩ := h
    have hu9 : (A.deeper (PyProof.Rows.envOfC "_facts_as_told" (defScope sFT) s.heap.objs.size f cdv)).units + 9 < cLine := by have := hr.un; omega
    refine ⟨_, pss_cons (ps_if (pt_not (pt_val (pe_fn IL hr (by decide) rfl (pa_cons (pv 3) (pa_nil))))) (pss_one ps_never) (pss_nil)) (pss_cons (ps_set (i := 4) scFT.nd rfl (.inl rfl) (pe_dnewN)) (pss_cons (ps_for PassesOwn.never rfl (pi_enumW rfl T.enum (pa_cons (pv 3) (pa_nil))) (pg_tup rfl (pgs_cons (pg_name (i := 5) scFT.nd rfl (.inl rfl)) (pgs_cons (pg_name (i := 6) scFT.nd rfl (.inl rfl)) (pgs_nil)))) (pss_cons (ps_if (pt_not (pt_val (pe_fn ISF hr (by decide) rfl (pa_cons (pv 0) (pa_cons (pv 1) (pa_cons (pv 6) (pa_nil))))))) (pss_one ps_never) (pss_nil)) (pss_cons (ps_asg (pv 6) (pg_tup rfl (pgs_cons (pg_name (i := 7) scFT.nd rfl (.inl rfl)) (pgs_cons (pg_name (i := 8) scFT.nd rfl (.inl rfl)) (pgs_cons (pg_name (i := 9) scFT.nd rfl (.inl rfl)) (pgs_nil)))))) (pss_cons (ps_set (i := 10) scFT.nd rfl (.inl rfl) (pe_tup (pa_cons (pv 7) (pa_cons (pe_weak (t' := tAsk) (pe_callTy (call_tuple_of) (by rfl) T.tuple (by decide +kernel) (pa_cons (pe_ifExp (pt_cmpR op_in_seq (pv 7) (pv 2) (by rfl)) (pe_callB (cr_sortedTS) (by rfl) T.sorted (by decide +kernel) (pa_cons (pv 8) (pa_nil))) (pv 8)) (pa_nil))) ask_weak) (pa_nil))))) (pss_cons (ps_if (pt_cmpR (op_inN hu9) (pv 10) (pv 4) (by rfl)) (pss_one ps_never) (pss_nil)) (pss_one (ps_asg (pe_tup (pa_cons (pv 7) (pa_cons (pe_callTy (call_tuple_of) (by rfl) T.tuple (by decide +kernel) (pa_cons (pv 8) (pa_nil))) (pa_cons (pe_callTy (call_tuple_of) (by rfl) T.tuple (by decide +kernel) (pa_cons (pv 9) (pa_nil))) (pa_nil))))) (pg_sub (pv 4) (pv 10) (set_dictN hu9))))))))) (pss_one (ps_ret (pe_callTy ((call_listVN rfl)) (by rfl) T.list (by decide +kernel) (pa_cons (pe_valsN (pv 4)) (pa_nil))))))), ?_⟩
    obtain ⟨ty, hty0, hty⟩ := tyS (K := K) (.inl (SqL.of hd) : SqA K H d (ts.map V.ref))
    refine ⟨_, rfl, .ref d, _, true, rfl, hty, kit_seq hty0, fun H1 s1 => ⟨_, rfl, ?_⟩⟩
    refine iteF ?_
    intro D nD
    obtain ⟨H2, s2, h2, e2⟩ := lay (o := ndO P w D []) nD
    have e2' : upd H1 D (ndO (cxOf CX0 P w K mg base ftN "_facts_as_told" (defScope sFT) f cdv A outer s H E).nox.prog (cxOf CX0 P w K mg base ftN "_facts_as_told" (defScope sFT) f cdv A outer s H E).nox.w D []) = H2 := e2
    rw [e2']
    have nDH : H D = none := s1.free nD
    have S2 : Same H (hid [D] H2) := same_hid_new nDH (s1.trans s2)
    have ltd : ts.length = g.facts.length := (Paired.length hts).symm
    refine ⟨_, rfl, d, ts.map V.ref, true, [D], rfl, SqL.of (S2 _ _ hd), fun J WJ => ?_⟩
    refine for_it WJ (fun i σ H' => ∃ (o5 o6 o7 o8 o9 o10 : Option V) (xs : NX) (bs : List Addr), σ = [some (.ref a), some (.ref b), some (.ref c), some (.ref d), some (.ref D), o5, o6, o7, o8, o9, o10] ∧ Same H (hid [D] H') ∧ H' D = some (ndO P w D xs) ∧ NdKeys (hid [D] H') xs ∧
      xs.map (·.1) = (g.facts.take i).map (fun f => nkO (g.asked f)) ∧ xs.map (fun x => x.2.2) = bs.map Value.ref ∧ Paired (FactAt (hid [D] H')) (g.facts.take i) bs) ⟨none, none, none, none, none, none, [], [], rfl, S2, h2, (fun e he => nomatch he), rfl, rfl, .nil⟩ (fun i σ H' _ ⟨_, _, _, _, _, _, _, _, _, S, _⟩ => SqL.of (S _ _ hd)) ?_ ?_
    · rintro i x σ H3 H3' hi ⟨o5, o6, o7, o8, o9, o10, xs, bs, rfl, S3, h3, k3, e31, e32, p3⟩ ⟨Tp, y1, y2, rfl, nT, rfl, e1, ey⟩
      obtain rfl := Option.some.inj e1
      obtain ⟨t, htt, rfl⟩ : ∃ t, ts[i]? = some t ∧ y2 = V.ref t := by
        have ey : (ts.map V.ref)[i]? = some y2 := ey
        rw [List.getElem?_map] at ey
        cases e : ts[i]? with
        | none => rw [e] at ey; cases ey
        | some y => rw [e] at ey; exact ⟨y, rfl, (Option.some.inj ey).symm⟩
      have hig : i < g.facts.length := by rw [← ltd]; exact (List.getElem?_eq_some_iff.mp htt).1
      have hfi : g.facts[i]? = some g.facts[i] := List.getElem?_eq_getElem hig
      generalize hfa : g.facts[i] = fa at hfi
      have fmem := List.mem_of_getElem? hfi
      obtain ⟨t', ht', hA⟩ : ∃ t', ts[i]? = some t' ∧ FactAt H fa t' := paired_at' hts hfi
      obtain rfl : t' = t := by rw [htt] at ht'; exact (Option.some.inj ht').symm
      have ok := wf.fa _ fmem
      obtain ⟨H4, s4, h4, e4⟩ := lay (o := .tup [.int (i : Nat), .ref t']) nT
      rw [e4]
      have S4 : Same H (hid [D] H4) := S3.trans (hid_same s4)
      have S40 : Same H H4 := S4.trans (hid_low _ _)
      refine ⟨Tp, _, rfl, SqT.of h4, rfl, _, _, rfl, _, _, rfl, rfl, ?_⟩
      refine ⟨_, rfl, _, rfl, _, rfl, a, b, t', g.letters, g.fixed, fa, rfl, S40 _ _ hL, wf.nd, S40 _ _ hF, hA.mono S40, ok, wf.ar, fun H5 s5 => ⟨_, rfl, ?_⟩⟩
      refine iteF ?_
      have S5 : Same H (hid [D] H5) := S4.trans (hid_same s5)
      have S50 : Same H H5 := S5.trans (hid_low _ _)
      obtain ⟨v, e, ht, hv, he⟩ := (hA.mono S5).ex
      have ht0 := (hid_in ht).1
      have hv0 := (hid_in hv).1
      have he0 := (hid_in he).1
      refine ⟨_, rfl, t', _, rfl, SqT.of ht0, rfl, _, _, rfl, _, _, rfl, _, _, rfl, rfl, ?_⟩
      have h5D : H5 D = some (ndO P w D xs) := s5 _ _ (s4 _ _ h3)
      have len2 : fa.vals.length ≤ 2 := by
        obtain ⟨k, hk, e⟩ := ok.len
        have h2 : k ≤ 2 := wf.ar _ hk
        omega
      have hask : g.asked fa = (fa.x, if fa.x ∈ g.comm then sort2 fa.vals else fa.vals) := rfl
      refine ⟨_, rfl, fa.x, v, c, fa.vals, g.comm, rfl, rfl, rfl, S50 _ _ hC, hv0, len2, ok.vals, fun kv H6 s6 hkv => ?_⟩
      refine ⟨by show 2 ≤ sizeLine; decide, fun ka nka => ?_⟩
      obtain ⟨H7, s7, h7, e7⟩ := lay (o := .tup [.str fa.x, .ref kv]) nka
      rw [e7]
      have S57 : Same H5 H7 := s6.trans s7
      have h7D := S57 _ _ h5D
      have nD7 : ∀ {q : Addr} {o : List V}, H7 q = some (.tup o) → hid [D] H7 q = some (.tup o) := fun h => hid_to (ni1 (ne_of h h7D (fun z => nomatch z))) h
      have k7 : NdKeys (hid [D] H7) xs := k3.mono (hid_same ((s4.trans s5).trans S57))
      have nk7 : NkV (hid [D] H7) (nkO (g.asked fa)) (.ref ka) := by
        rw [hask]
        exact .tup (nD7 h7) (.cons (.text _) (.cons (.tup (nD7 (s7 _ _ hkv)) (nk_txk _)) .nil))
      have nokey : nkO (g.asked fa) ∉ xs.map (·.1) := by
        rw [e31]
        intro m
        obtain ⟨fb, hfb, eb⟩ := List.mem_map.mp m
        have eq := nkO_inj eb
        exact not_in_take_map wf.fd hfi hfb eq
      have hnone := atKey_none nokey
      refine ⟨_, rfl, _, rfl, ka, D, nkO (g.asked fa), xs, rfl, rfl, h7D, k7.mono (hid_low _ _), NkV.mono (hid_low _ _) _ _ nk7, nkO_depth _, _, rfl, ?_⟩
      rw [hnone]
      refine iteF ?_
      have hv7 := S57 _ _ hv0
      have he7 := S57 _ _ he0
      refine ⟨_, rfl, _, rfl, v, _, rfl, .inr ⟨SqT.of hv7, _, rfl, e, _, rfl, .inr ⟨SqT.of he7, by show 3 ≤ sizeLine; decide, fun b nb => ?_⟩⟩⟩
      obtain ⟨H8, s8, h8, e8⟩ := lay (o := .tup [.str fa.x, .ref v, .ref e]) nb
      rw [e8]
      have h8D := s8 _ _ h7D
      have lxs : xs.length ≤ 6 := by
        have := congrArg List.length e31
        rw [List.length_map, List.length_map, List.length_take] at this
        have := wf.fl
        omega
      have k8 := k7.mono (hid_same s8)
      have nk8 := NkV.mono (hid_same s8) _ _ nk7
      refine ⟨_, rfl, _, rfl, D, ka, b, nkO (g.asked fa), xs, rfl, rfl, rfl, h8D, k8.mono (hid_low _ _), NkV.mono (hid_low _ _) _ _ nk8, nkO_depth _, by omega, ?_⟩
      rw [storedH_new hnone]
      have B8 : Bt [D] H8 (upd H8 D (ndO P w D (xs ++ [(nkO (g.asked fa), ka, Value.ref b)]))) := bt_upd (by simp)
      have S58 : Same (hid [D] H5) (hid [D] (upd H8 D (ndO P w D (xs ++ [(nkO (g.asked fa), ka, Value.ref b)])))) := (hid_same (S57.trans s8)).trans B8
      have bD : b ∉ [D] := ni1 (ne_of_none h7D nb).symm
      refine ⟨_, _, _, _, _, _, xs ++ [(nkO (g.asked fa), ka, Value.ref b)], bs ++ [b], rfl, S5.trans S58, upd_same, ?_, ?_, ?_, ?_⟩
      · intro en hen
        rcases List.mem_append.mp hen with h | h
        · exact (k8.mono B8) en h
        · rw [List.mem_singleton.mp h]
          exact ⟨NkV.mono B8 _ _ nk8, nkO_depth _⟩
      · rw [take_at hfi, List.map_append, List.map_append, e31]; rfl
      · rw [List.map_append, List.map_append, e32]; rfl
      · rw [take_at hfi]
        exact paired_app (Paired.mapP p3 fun _ _ r => r.mono ((hid_same (s4.trans s5)).trans S58)) (.cons ⟨v, e, B8 _ _ (hid_to bD h8), S58 _ _ hv, S58 _ _ he⟩ .nil)
    · rintro σ H3 ⟨o5, o6, o7, o8, o9, o10, xs, bs, rfl, S3, h3, k3, e31, e32, p3⟩
      have lbs : bs.length = g.facts.length := by rw [← Paired.length p3, List.length_take]; rw [List.length_map, ltd]; omega
      refine ⟨_, rfl, D, xs, rfl, h3, fun vw nvw => ?_⟩
      obtain ⟨H4, s4, h4, e4⟩ := lay (o := valsO vw D) nvw
      rw [e4]
      refine ⟨vw, D, xs, bs, rfl, h4, s4 _ _ h3, e32, by rw [lbs]; have := wf.fl; omega, fun l nl => ?_⟩
      obtain ⟨H5, s5, h5, e5⟩ := lay (o := .lst (bs.map V.ref)) nl
      rw [e5]
      have S5 : Same H H5 := (S3.trans (hid_low _ _)).trans (s4.trans s5)
      rw [List.take_of_length_le (by rw [List.length_map, ltd]; exact Nat.le_refl _)] at p3
      exact q l H5 (((S3.trans (hid_low _ _)).trans s4).free nl) S5 ⟨bs, h5, Paired.mapP p3 fun _ _ r => r.mono ((hid_low _ _).trans (s4.trans s5))⟩
end
end K4
set_option Elab.async false
set_option linter.all false
set_option maxRecDepth 100000
set_option maxHeartbeats 8000000
/-! A dict comprehension whose keys are texts, or tuples of texts. -/
namespace DictT
open PySem PySem.Spec PyProof.Rows L2
/-- what its reading asks: the new dict is o0 first -/
def tDcT (o0 : HO) (wi : TI) (g : TG) (tt : TT) (tk tv : TE) (vs : List Nat) : TE := fun σ H Q => wi σ H fun J H1 => ∀ D, H1 D = none → ∃ Wv : Nat → Nat → Hp → Prop, (∃ m, Wv 0 m (upd H1 D o0)) ∧ ∀ i m H, Wv i m H →
  (J.stop i H ∧ Q (.ref D) H) ∨ (J.go i H ∧ ∃ Nx : Hp → Prop, (∀ H', Nx H' → ∃ m', m' < m ∧ Wv (i + 1) m' H') ∧ ∀ x H', J.yld i H x H' → g x (wipe σ vs) H' fun σ2 H2 => wipe σ2 vs = wipe σ vs ∧ tt σ2 H2 fun b H3 =>
    if b = true then tk σ2 H3 fun y H4 => tv σ2 H4 fun z H5 => ∃ H6, DPut H5 D y z H6 ∧ Nx H6 else Nx H3)
section
variable {X : Cx} {pins : List (Addr × Obj)} {σ : L2.St} {H : Hp} {s : Shared}
theorem put_ok {D : Addr} {y v : V} {u r : Value} {H' : Hp} {Q : Unit → Shared → Prop} {E : Value → Shared → Prop} (hu : X.A.units + 1 < cLine) (I : Inv X pins σ H s) (g : DPut H D y v H') (ry : RelV y u) (rv : RelV v r)
    (h : ∀ t, Inv X pins σ H' t → Q () t) : wpAny (model X.prog X.w) X.A (dictSet D u r) Q E s := by
  rcases g with ⟨kvs, k, e, rfl, l, rfl⟩ | ⟨kvs, k, b, e, rfl, eb, l, rfl⟩
  · exact d_dictSet I e l ry rv h
  · obtain rfl : u = Value.ref b := ry
    obtain ⟨z1, z2, xs, rel, dd⟩ := dt_of I.hok e
    have lx := Paired.length rel
    refine wpAny_dictSet_heap (hsz := by rw [← lx]; exact z1) (by show X.A.units < cLine; omega) (key_of I.hok eb) dd fun h' dd' sb => h _ ?_
    obtain ⟨q, es, ep, g1, g2, g3, g4, _, g5⟩ := dd'
    refine d_write I (by rw [e]; trivial) sb ⟨q, g1⟩ ⟨by have := length_putK kvs k v; omega, z2, _, (rel.put k eb rv).keeps fun c ys ec => ?_, q, es, ep, g1, g2, g3, g4, g5⟩
    rw [upd_ne (ne_of ec e (fun z => nomatch z))]
    exact ec
end
section
variable {X : Cx}
/-- {} as the dict that is wanted -/
inductive Fresh : HO → Prop
  | k : Fresh (.dK [])
  | t : Fresh (.dT [])
theorem Fresh.ok {o0 : HO} (f : Fresh o0) {P : Program} {w : World} {H : Hp} (h : Heap) (hb : sysModules < h.objs.size) : ObjOk P w H (h.push { cls := .type "dict", data := .dict #[] }) h.objs.size o0 := by
  cases f with
  | k => exact dk_empty h hb
  | t => exact dt_empty h hb
theorem dcT_core {pins : List (Addr × Obj)} {s : Shared} {σ : L2.St} {H : Hp} {Q : VK} {o0 : HO} {kx vx tg iter : Expr} {ifs : List Expr} {sc : Scope} {own : List (Str × Nat)} {pos pos2 : Pos} {wi : TI} {g : TG} {tt : TT} {tk tv : TE} {use : Option (Value → Sem Unit)} {Qf : Value → Shared → Prop}
    (fr : Fresh o0) (hu : X.A.units + 1 < cLine) (hc : X.calm = true) (hN : X.N.Nodup) (I : Inv X pins σ H s) (hi : PI X tg iter wi) (ok : BlkOk X.N X.env.scope sc own)
    (hg : ∀ (t : Shared) (J : Hp) (C : Addr) (cl : List (Str × Addr)) (fp : List Addr), PG (X.blk t J sc (compEnvC sc cl C X.env) fp) tg g) (ht : ∀ (t : Shared) (J : Hp) (C : Addr) (cl : List (Str × Addr)) (fp : List Addr), PTs (X.blk t J sc (compEnvC sc cl C X.env) fp) ifs tt)
    (hk : ∀ (t : Shared) (J : Hp) (C : Addr) (cl : List (Str × Addr)) (fp : List Addr), PE (X.blk t J sc (compEnvC sc cl C X.env) fp) kx tk) (hv : ∀ (t : Shared) (J : Hp) (C : Addr) (cl : List (Str × Addr)) (fp : List Addr), PE (X.blk t J sc (compEnvC sc cl C X.env) fp) vx tv)
    (hfs : ∀ x, foldedSetIterable iter X.env x = pure x) (h : tDcT o0 wi g tt tk tv (own.map (·.2)) σ H Q)
    (done : ∀ D C t m J, Inv X pins σ J t → Q (.ref D) J → t.heap.Ns C m → FpOk X pins J C → compPost (model X.prog X.w) X.A X.xe use Qf (.ref D) C (.ok .next) t) :
    wpAny (model X.prog X.w) X.A (comprehension (.DictComp kx vx [⟨tg, iter, ifs, 0⟩] sc pos) sc X.env pos2 newDict false (eval iter X.env) use) Qf X.xe s := by
  have cap : ∀ y ∈ sc.names, y.2 = .free → ∃ c, X.env.cells.lookup y.1 = some c := fun y hy e => (ok.free y hy e).elim (fun k => I.ok.has _ (.inl k)) fun k => I.ok.has _ (.inr k)
  refine wpAny_comprehension_free (use := use) rfl hfs (closure_ok cap) ok.kind (fun y hy e => by rw [ok.uniq y hy, e]) (thn (hi.run pins s σ H _ I h) fun xv t1 hx => thn hx fun itv t2 h2 => ?_)
  obtain ⟨it, fp, tn, J, H2, e, I2, T, st2, f2, q⟩ := h2
  subst e
  refine wpAny_newObj_type (newEnv_comp ?_)
  generalize hD : t2.heap.objs.size = D
  have nD : H2 D = none := I2.hok.fresh (Nat.le_of_eq hD)
  obtain ⟨Wv, ⟨m0, w0⟩, turn⟩ := q D nD
  generalize ht3 : ({ t2 with heap := t2.heap.push { cls := .type "dict", data := .dict #[] } } : Shared) = t3
  have hp3 : t3.heap = t2.heap.push { cls := .type "dict", data := .dict #[] } := by rw [← ht3]
  have I3 : Inv X pins σ (upd H2 D o0) t3 := by
    rw [← ht3]
    refine I2.laid (t' := t2.toks) (fun b o e => Heap.get?_push_of_some _ e) (Nat.le_of_eq hD) ?_
    rw [← hD]
    exact fr.ok t2.heap I2.big
  have lt2 : ∀ b ∈ fp, b < t2.heap.objs.size := fun b hb => let ⟨_, e, _⟩ := T.obj _ _ st2 b hb; Heap.lt_size e
  have f3 : ∀ b ∈ fp, FpOk X pins (upd H2 D o0) b ∧ b < t3.heap.objs.size := fun b hb => by
    refine ⟨⟨?_, (f2 b hb).2⟩, by rw [hp3, Heap.size_push]; exact Nat.lt_succ_of_lt (lt2 b hb)⟩
    rw [upd_ne (by rw [← hD]; exact Nat.ne_of_lt (lt2 b hb))]
    exact (f2 b hb).1
  have st3 : tn 0 t3.heap := T.keep _ _ _ st2 fun b _ o e => by rw [hp3]; exact Heap.get?_push_of_some _ e
  have I4 := block_start I3 ok hN f3
  have pg := hg t3 (upd H2 D o0) t3.heap.objs.size (cellsFrom (t3.heap.objs.size + 1) sc.names (cloFrom X.env.cells sc.names [])) fp
  have pt := ht t3 (upd H2 D o0) t3.heap.objs.size (cellsFrom (t3.heap.objs.size + 1) sc.names (cloFrom X.env.cells sc.names [])) fp
  have pk := hk t3 (upd H2 D o0) t3.heap.objs.size (cellsFrom (t3.heap.objs.size + 1) sc.names (cloFrom X.env.cells sc.names [])) fp
  have pe := hv t3 (upd H2 D o0) t3.heap.objs.size (cellsFrom (t3.heap.objs.size + 1) sc.names (cloFrom X.env.cells sc.names [])) fp
  show codeAny _ _ (.compStart (.DictComp kx vx [⟨tg, iter, ifs, 0⟩] sc pos) 0 (.ref it) (.ref D) (compEnvC sc (cellsFrom (t3.heap.objs.size + 1) sc.names (cloFrom X.env.cells sc.names [])) t3.heap.objs.size X.env))
    (compPost (model X.prog X.w) X.A X.xe use Qf (.ref D) t3.heap.objs.size) { t3 with heap := pushCells (t3.heap.push { cls := .type "dict", data := .dict #[] }) sc.names }
  have nfp : ∀ b ∈ fp, (upd H2 D o0) b = none := fun b hb => (f3 b hb).1.1
  generalize hce : compEnvC sc (cellsFrom (t3.heap.objs.size + 1) sc.names (cloFrom X.env.cells sc.names [])) t3.heap.objs.size X.env = ce at I4 pg pt pk pe ⊢
  have cL : ce.locals = t3.heap.objs.size := by rw [← hce]; rfl
  generalize hH3 : upd H2 D o0 = H3 at I3 I4 pg pt pk pe w0 nfp f3
  generalize ht4 : ({ t3 with heap := pushCells (t3.heap.push { cls := .type "dict", data := .dict #[] }) sc.names } : Shared) = t4 at I4 ⊢
  have st4 : tn 0 t4.heap := T.keep _ _ _ st3 fun b _ o e => by rw [← ht4]; exact pushCells_keeps _ _ _ _ (Heap.get?_push_of_some _ e)
  have stat : ∀ {τ : L2.St} {J' : Hp} {t : Shared}, Inv (X.blk t3 H3 sc ce fp) [] τ J' t → (∀ b ∈ fp, J' b = none) → ∀ b ∈ fp, FpOk (X.blk t3 H3 sc ce fp) [] J' b := fun {τ J' t} I' hn b hb =>
    ⟨hn b hb, (I'.ok.exf b hb).1, I'.ok.exfs b hb, .inl hb, fun x c e => (I'.ok.exf b hb).2 x c e, fun p hp => absurd (show p ∈ ([] : List (Addr × Obj)) ++ [] from hp) (by simp)⟩
  have loop : codeAny (model X.prog X.w) X.A (.compLoop (.DictComp kx vx [⟨tg, iter, ifs, 0⟩] sc pos) 0 (.ref it) (.ref D) ce) (compPost (model X.prog X.w) X.A X.xe use Qf (.ref D) t3.heap.objs.size) t4 := by
    refine compLoop_anyD (fun n t => ∃ i J', Inv (X.blk t3 H3 sc ce fp) [] (wipe σ (own.map (·.2))) J' t ∧ tn i t.heap ∧ (∀ b ∈ fp, J' b = none) ∧ Wv i n J') ?_ m0 ⟨0, H3, I4, st4, nfp, w0⟩
    rintro n t5 ⟨i, H5, I5, st5, n5, w5⟩
    rcases turn i n H5 w5 with ⟨stop, qq⟩ | ⟨go, Nx, hNx, step⟩
    · refine thnF (T.done (X.blk t3 H3 sc ce fp) rfl rfl rfl hc i [] t5 _ H5 (fun _ _ => False) I5 (stat I5 n5) st5 stop) fun r t6 ⟨hr, I6⟩ => ?_
      subst hr
      have I7 : Inv X pins σ H5 t6 := I3.call' (ch := fp) I6.os I6.base I6.hok I6.bare fun b hb => ⟨(f3 b hb).1.2.2.2.1, (f3 b hb).1.2.1, (f3 b hb).1.2.2.2.2.1, (f3 b hb).1.2.2.2.2.2⟩
      have nC : H5 ce.locals = none := I6.free
      obtain ⟨m, hn, _⟩ := I6.loc
      have hn : t6.heap.Ns ce.locals m := hn
      rw [cL] at nC hn
      exact done D t3.heap.objs.size t6 m H5 I7 qq hn (I3.fpOk (Nat.le_refl _) nC)
    · refine thnF (T.item (X.blk t3 H3 sc ce fp) rfl rfl rfl hc i [] t5 _ H5 (fun _ _ => False) I5 (stat I5 n5) st5 go) fun r t6 ⟨u, hr, h6⟩ => ?_
      subst hr
      refine thnF h6 fun _ t7 ⟨x, H7, I7, r7, y7, st7, n7⟩ => ?_
      have I7p := I7.pinned (stat I7 n7) (T.obj _ _ st7)
      refine thnF (pg.run _ t7 _ H7 x u _ I7p r7 (step x H7 y7)) fun _ t8 ⟨σ8, H8, I8, hw8, q8⟩ => ?_
      refine thnF (pt.run _ t8 σ8 H8 _ I8 q8) fun b t9 ⟨H9, I9, q9⟩ => ?_
      have fin : ∀ {t : Shared} {J' : Hp}, Inv (X.blk t3 H3 sc ce fp) ([] ++ pinsAt fp t7.heap) σ8 J' t → Nx J' → ∃ m, m < n ∧ ∃ i J', Inv (X.blk t3 H3 sc ce fp) [] (wipe σ (own.map (·.2))) J' t ∧ tn i t.heap ∧ (∀ b ∈ fp, J' b = none) ∧ Wv i m J' := fun {t J'} I' nx => by
        obtain ⟨m', hm, w'⟩ := hNx J' nx
        have pin' : ∀ b ∈ fp, ∀ o, t7.heap.get? b = some o → t.heap.get? b = some o ∧ J' b = none := fun b hb o e =>
          let z := I'.pin (b, o) (List.mem_append_right _ (List.mem_append_right _ (mem_pinsAt hb e)))
          ⟨z.1, z.2.1⟩
        have hl : (wipe σ (own.map (·.2))).length = σ8.length := by rw [← hw8, wipe_length]
        refine ⟨m', hm, i + 1, J', (I'.unpinned (pins := [])).weak hl (fun j v e => by rw [← hw8] at e; exact (wipe_some e).1), T.keep _ _ _ st7 fun b hb o e => (pin' b hb o e).1, fun b hb => ?_, w'⟩
        obtain ⟨o, e, _⟩ := T.obj _ _ st7 b hb
        exact (pin' b hb o e).2
      cases b with
      | false =>
        simp only [Bool.false_eq_true, if_false] at q9 ⊢
        exact fin I9 q9
      | true =>
        simp only [if_true] at q9 ⊢
        refine thnF (pk.run _ t9 σ8 H9 _ I9 q9) fun kv t10 ⟨yk, H10, I10, r10, q10⟩ => ?_
        refine thnF (pe.run _ t10 σ8 H10 _ I10 q10) fun vv t11 ⟨yv, H11, I11, r11, H12, dp, nx⟩ => ?_
        exact put_ok (X := X.blk t3 H3 sc ce fp) hu I11 dp r10 r11 fun t12 I12 => fin I12 nx
  exact codeAny_compStart_dict loop (T.self X.A 0 _ _ _ st4 loop)
/-- {..: ..} as a value -/
theorem pe_dcT {o0 : HO} (fr : Fresh o0) {kx vx tg iter : Expr} {ifs : List Expr} {sc : Scope} {own : List (Str × Nat)} {pos : Pos} {wi : TI} {g : TG} {tt : TT} {tk tv : TE} (hu : X.A.units + 1 < cLine) (hc : X.calm = true) (hN : X.N.Nodup) (hi : PI X tg iter wi) (ok : BlkOk X.N X.env.scope sc own)
    (hg : ∀ (t : Shared) (J : Hp) (C : Addr) (cl : List (Str × Addr)) (fp : List Addr), PG (X.blk t J sc (compEnvC sc cl C X.env) fp) tg g) (ht : ∀ (t : Shared) (J : Hp) (C : Addr) (cl : List (Str × Addr)) (fp : List Addr), PTs (X.blk t J sc (compEnvC sc cl C X.env) fp) ifs tt)
    (hk : ∀ (t : Shared) (J : Hp) (C : Addr) (cl : List (Str × Addr)) (fp : List Addr), PE (X.blk t J sc (compEnvC sc cl C X.env) fp) kx tk) (hv : ∀ (t : Shared) (J : Hp) (C : Addr) (cl : List (Str × Addr)) (fp : List Addr), PE (X.blk t J sc (compEnvC sc cl C X.env) fp) vx tv)
    (hfs : ∀ x, foldedSetIterable iter X.env x = pure x := by intro _; rfl) : PE X (.DictComp kx vx [⟨tg, iter, ifs, 0⟩] sc pos) (tDcT o0 wi g tt tk tv (own.map (·.2))) := by
  refine ⟨fun pins s σ H Q I h => ?_⟩
  rw [arm_eval_DictComp]
  refine dcT_core fr hu hc hN I hi ok hg ht hk hv hfs h fun D C t m J I' q hn f => ⟨m, hn, fun h2 sb => ?_⟩
  obtain ⟨f0, f1, f2, f3, f4, f5⟩ := f
  exact ⟨.ref D, J, I'.turned (t' := t.toks) (fun b o hb e => (sb.2 b hb).trans e) f0 f1 f3 f4 f5, rfl, q⟩
/-- its loop over what a walk gives -/
theorem dc_it {J : It} {n : Nat} {G : Hp → Prop} {Y : Nat → Hp → V → Hp → Prop} (w : Walk J n G Y) {g : TG} {tt : TT} {tk tv : TE} {vs : List Nat} {σ : L2.St} {H1 : Hp} {D : Addr} {o0 : HO} {Qd : Hp → Prop} (Pv : Nat → Hp → Prop) (h0 : Pv 0 (upd H1 D o0)) (hG : ∀ i H, i ≤ n → Pv i H → G H)
    (hs : ∀ i x H H', i < n → Pv i H → Y i H x H' → g x (wipe σ vs) H' fun σ2 H2 => wipe σ2 vs = wipe σ vs ∧ tt σ2 H2 fun b H3 => if b = true then tk σ2 H3 fun y H4 => tv σ2 H4 fun z H5 => ∃ H6, DPut H5 D y z H6 ∧ Pv (i + 1) H6 else Pv (i + 1) H3) (hd : ∀ H, Pv n H → Qd H) :
    ∃ Wv : Nat → Nat → Hp → Prop, (∃ m, Wv 0 m (upd H1 D o0)) ∧ ∀ i m H, Wv i m H → (J.stop i H ∧ Qd H) ∨ (J.go i H ∧ ∃ Nx : Hp → Prop, (∀ H', Nx H' → ∃ m', m' < m ∧ Wv (i + 1) m' H') ∧ ∀ x H', J.yld i H x H' → g x (wipe σ vs) H' fun σ2 H2 =>
      wipe σ2 vs = wipe σ vs ∧ tt σ2 H2 fun b H3 => if b = true then tk σ2 H3 fun y H4 => tv σ2 H4 fun z H5 => ∃ H6, DPut H5 D y z H6 ∧ Nx H6 else Nx H3) := by
  refine ⟨fun i m H => m = n - i ∧ i ≤ n ∧ Pv i H, ⟨n, by simp, Nat.zero_le _, h0⟩, ?_⟩
  rintro i m H ⟨rfl, hi, p⟩
  rcases Nat.lt_or_ge i n with lt | ge
  · exact .inr ⟨w.goes i H lt (hG i H hi p), Pv (i + 1), fun H' p' => ⟨n - (i + 1), by omega, rfl, lt, p'⟩, fun x H' y => hs i x H H' lt p (w.yields i H x H' lt (hG i H hi p) y)⟩
  · obtain rfl : i = n := by omega
    exact .inl ⟨w.stops H (hG i H hi p), hd H p⟩
end
end DictT
set_option Elab.async false
set_option linter.all false
set_option autoImplicit false
set_option maxRecDepth 100000
set_option maxHeartbeats 8000000
/-! Rows of texts, and the loops of comprehensions with two walks. -/
namespace GB
open PySem PySem.Spec L2
/-- the row of texts stands at t -/
def RowAt (H : Hp) (row : List Str) (t : Addr) : Prop := H t = some (.tup (sts row))
def RowsAt (H : Hp) (rows : List (List Str)) (ts : List Addr) : Prop := Paired (RowAt H) rows ts
theorem RowsAt.mono {H H' : Hp} {rows : List (List Str)} {ts : List Addr} (s : Same H H') (h : RowsAt H rows ts) : RowsAt H' rows ts := Paired.mapP h fun _ _ r => s _ _ r
theorem RowsAt.app {H : Hp} {r1 r2 : List (List Str)} {t1 t2 : List Addr} (h1 : RowsAt H r1 t1) (h2 : RowsAt H r2 t2) : RowsAt H (r1 ++ r2) (t1 ++ t2) := paired_app h1 h2
theorem RowsAt.len {H : Hp} {rows : List (List Str)} {ts : List Addr} (h : RowsAt H rows ts) : rows.length = ts.length := Paired.length h
section
variable {J J1 : It} {n n1 : Nat} {G G1 : Hp → Prop} {Y Y1 : Nat → Hp → V → Hp → Prop} {g g1 : TG} {tt tt1 : TT} {te : TE} {vs vs1 : List Nat} {σ σ2 : L2.St} {D : Addr}
/-- the outer walk of a comprehension with two -/
theorem lc2_it (w : Walk J n G Y) {wi1 : TI} {H1 : Hp} {Qd : Hp → Prop} (Pv : Nat → Hp → Prop) (h0 : Pv 0 (upd H1 D (.lst []))) (hG : ∀ i H, i ≤ n → Pv i H → G H)
    (hs : ∀ i x H H', i < n → Pv i H → Y i H x H' → g x (wipe σ vs) H' fun σ2 H2 => wipe σ2 vs = wipe σ vs ∧ tt σ2 H2 fun b H3 =>
      if b = true then wi1 σ2 H3 fun J1 H4 => ∃ W1 : Nat → Nat → Hp → Prop, (∃ m, W1 0 m H4) ∧ ∀ j k H, W1 j k H → (J1.stop j H ∧ Pv (i + 1) H) ∨ (J1.go j H ∧ ∃ Nx1 : Hp → Prop, (∀ H', Nx1 H' → ∃ k', k' < k ∧ W1 (j + 1) k' H') ∧ ∀ x H', J1.yld j H x H' → g1 x (wipe σ2 vs1) H' fun σ3 H5 => wipe σ3 vs1 = wipe σ2 vs1 ∧ tt1 σ3 H5 fun b H6 =>
        if b = true then te σ3 H6 fun y H7 => ∃ acc, H7 D = some (.lst acc) ∧ acc.length < sizeLine ∧ Nx1 (upd H7 D (.lst (acc ++ [y]))) else Nx1 H6)
      else Pv (i + 1) H3) (hd : ∀ H, Pv n H → Qd H) :
    ∃ W : Nat → Nat → Hp → Prop, (∃ m, W 0 m (upd H1 D (.lst []))) ∧ ∀ i m H, W i m H →
      (J.stop i H ∧ Qd H) ∨ (J.go i H ∧ ∃ Nx : Hp → Prop, (∀ H', Nx H' → ∃ m', m' < m ∧ W (i + 1) m' H') ∧ ∀ x H', J.yld i H x H' → g x (wipe σ vs) H' fun σ2 H2 => wipe σ2 vs = wipe σ vs ∧ tt σ2 H2 fun b H3 =>
        if b = true then wi1 σ2 H3 fun J1 H4 => ∃ W1 : Nat → Nat → Hp → Prop, (∃ m, W1 0 m H4) ∧ ∀ j k H, W1 j k H →
          (J1.stop j H ∧ Nx H) ∨ (J1.go j H ∧ ∃ Nx1 : Hp → Prop, (∀ H', Nx1 H' → ∃ k', k' < k ∧ W1 (j + 1) k' H') ∧ ∀ x H', J1.yld j H x H' → g1 x (wipe σ2 vs1) H' fun σ3 H5 => wipe σ3 vs1 = wipe σ2 vs1 ∧ tt1 σ3 H5 fun b H6 =>
            if b = true then te σ3 H6 fun y H7 => ∃ acc, H7 D = some (.lst acc) ∧ acc.length < sizeLine ∧ Nx1 (upd H7 D (.lst (acc ++ [y]))) else Nx1 H6)
        else Nx H3) := by
  refine ⟨fun i m H => m = n - i ∧ i ≤ n ∧ Pv i H, ⟨n, by simp, Nat.zero_le _, h0⟩, ?_⟩
  rintro i m H ⟨rfl, hi, p⟩
  rcases Nat.lt_or_ge i n with lt | ge
  · exact .inr ⟨w.goes i H lt (hG i H hi p), Pv (i + 1), fun H' p' => ⟨n - (i + 1), by omega, rfl, lt, p'⟩, fun x H' y => hs i x H H' lt p (w.yields i H x H' lt (hG i H hi p) y)⟩
  · obtain rfl : i = n := by omega
    exact .inl ⟨w.stops H (hG i H hi p), hd H p⟩
/-- the inner one -/
theorem in_it (w : Walk J1 n1 G1 Y1) {H4 : Hp} {Nx : Hp → Prop} (Pw : Nat → Hp → Prop) (h0 : Pw 0 H4) (hG : ∀ i H, i ≤ n1 → Pw i H → G1 H)
    (hs : ∀ j x H H', j < n1 → Pw j H → Y1 j H x H' → g1 x (wipe σ2 vs1) H' fun σ3 H5 => wipe σ3 vs1 = wipe σ2 vs1 ∧ tt1 σ3 H5 fun b H6 => if b = true then te σ3 H6 fun y H7 => ∃ acc, H7 D = some (.lst acc) ∧ acc.length < sizeLine ∧ Pw (j + 1) (upd H7 D (.lst (acc ++ [y]))) else Pw (j + 1) H6)
    (hd : ∀ H, Pw n1 H → Nx H) :
    ∃ W1 : Nat → Nat → Hp → Prop, (∃ m, W1 0 m H4) ∧ ∀ j k H, W1 j k H → (J1.stop j H ∧ Nx H) ∨ (J1.go j H ∧ ∃ Nx1 : Hp → Prop, (∀ H', Nx1 H' → ∃ k', k' < k ∧ W1 (j + 1) k' H') ∧ ∀ x H', J1.yld j H x H' → g1 x (wipe σ2 vs1) H' fun σ3 H5 => wipe σ3 vs1 = wipe σ2 vs1 ∧ tt1 σ3 H5 fun b H6 =>
        if b = true then te σ3 H6 fun y H7 => ∃ acc, H7 D = some (.lst acc) ∧ acc.length < sizeLine ∧ Nx1 (upd H7 D (.lst (acc ++ [y]))) else Nx1 H6) := by
  refine ⟨fun i m H => m = n1 - i ∧ i ≤ n1 ∧ Pw i H, ⟨n1, by simp, Nat.zero_le _, h0⟩, ?_⟩
  rintro i m H ⟨rfl, hi, p⟩
  rcases Nat.lt_or_ge i n1 with lt | ge
  · exact .inr ⟨w.goes i H lt (hG i H hi p), Pw (i + 1), fun H' p' => ⟨n1 - (i + 1), by omega, rfl, lt, p'⟩, fun x H' y => hs i x H H' lt p (w.yields i H x H' lt (hG i H hi p) y)⟩
  · obtain rfl : i = n1 := by omega
    exact .inl ⟨w.stops H (hG i H hi p), hd H p⟩
end
/-- a new list of rows at D, over H -/
structure RowsIn (H H' : Hp) (D : Addr) (rows : List (List Str)) : Prop where
  nw : H D = none
  same : Same H H'
  ex : ∃ ts : List Addr, H' D = some (.lst (ts.map V.ref)) ∧ RowsAt (hid [D] H') rows ts
theorem RowsIn.start {H : Hp} {D : Addr} (n : H D = none) : RowsIn H (upd H D (.lst [])) D [] := ⟨n, same_new n, [], upd_same, .nil⟩
theorem RowsIn.next {H H2 H3 : Hp} {D : Addr} {rows : List (List Str)} (r : RowsIn H H2 D rows) (s : Same H2 H3) : RowsIn H H3 D rows := let ⟨n, s1, ts, h1, h2⟩ := r; ⟨n, s1.trans s, ts, s _ _ h1, h2.mono (hid_same s)⟩
/-- one row more -/
theorem RowsIn.moreB {H H2 H3 : Hp} {D : Addr} {rows : List (List Str)} {row : List Str} (r : RowsIn H H2 D rows) (s : Same H2 H3) (hl : rows.length ≤ 1000) {t : Addr} (nt : H3 t = none) :
    ∃ acc, (upd H3 t (.tup (sts row))) D = some (.lst acc) ∧ acc.length < sizeLine ∧ RowsIn H (upd (upd H3 t (.tup (sts row))) D (.lst (acc ++ [.ref t]))) D (rows ++ [row]) ∧ Bt [D] H2 (upd (upd H3 t (.tup (sts row))) D (.lst (acc ++ [.ref t]))) := by
  obtain ⟨n, s1, ts, h1, h2⟩ := r
  obtain ⟨H4, s4, h4, e4⟩ := lay (o := .tup (sts row)) nt
  rw [e4]
  have h14 := s4 _ _ (s _ _ h1)
  have tD : t ≠ D := ne_of h4 h14 (fun z => nomatch z)
  have B : Bt [D] H4 (upd H4 D (.lst (ts.map V.ref ++ [.ref t]))) := bt_upd (by simp)
  refine ⟨_, h14, ?_, ⟨n, fun c o e => ?_, ts ++ [t], by rw [upd_same, List.map_append]; rfl, ?_⟩, (bt_of (s.trans s4)).trans B⟩
  · rw [List.length_map, sizeLine_eq]
    have := h2.len
    omega
  · rw [upd_ne (ne_of_none e n)]
    exact s4 _ _ (s _ _ (s1 _ _ e))
  · exact RowsAt.app (h2.mono ((hid_same (s.trans s4)).trans B)) (.cons (B _ _ (hid_to (ni1 tD) h4)) .nil)
theorem RowsIn.more {H H2 H3 : Hp} {D : Addr} {rows : List (List Str)} {row : List Str} (r : RowsIn H H2 D rows) (s : Same H2 H3) (hl : rows.length ≤ 1000) {t : Addr} (nt : H3 t = none) :
    ∃ acc, (upd H3 t (.tup (sts row))) D = some (.lst acc) ∧ acc.length < sizeLine ∧ RowsIn H (upd (upd H3 t (.tup (sts row))) D (.lst (acc ++ [.ref t]))) D (rows ++ [row]) :=
  let ⟨acc, a, b, c, _⟩ := r.moreB s hl nt
  ⟨acc, a, b, c⟩
theorem RowsIn.done {H H' : Hp} {D : Addr} {rows : List (List Str)} (r : RowsIn H H' D rows) : ∃ ts : List Addr, H' D = some (.lst (ts.map V.ref)) ∧ RowsAt H' rows ts := let ⟨ts, a, b⟩ := r.ex; ⟨ts, a, b.mono (hid_low _ _)⟩
/-- a comprehension behind its walk -/
def tLcJ (J : It) (g : TG) (tt : TT) (te : TE) (vs : List Nat) : TE := fun σ H1 Q => ∀ D, H1 D = none → ∃ Wv : Nat → Nat → Hp → Prop, (∃ m, Wv 0 m (upd H1 D (.lst []))) ∧ ∀ i m H, Wv i m H →
  (J.stop i H ∧ Q (.ref D) H) ∨ (J.go i H ∧ ∃ Nx : Hp → Prop, (∀ H', Nx H' → ∃ m', m' < m ∧ Wv (i + 1) m' H') ∧ ∀ x H', J.yld i H x H' → g x (wipe σ vs) H' fun σ2 H2 => wipe σ2 vs = wipe σ vs ∧ tt σ2 H2 fun b H3 =>
    if b = true then te σ2 H3 fun y H4 => ∃ acc, H4 D = some (.lst acc) ∧ acc.length < sizeLine ∧ Nx (upd H4 D (.lst (acc ++ [y]))) else Nx H3)
theorem rows1J {K : PySem.W.Frag} {k : Nat} {wd : Str} {σ : L2.St} {H : Hp} {Q : VK} {a : Addr} {xs : List Str} {kb : Bool} {J : It} (WJ : Walk J (sts xs).length (fun H => SqV K (hid [] H) a (sts xs) kb) (YAt (sts xs))) (hk : k < σ.length) (hS : SqV K (hid [] H) a (sts xs) kb) (hl : xs.length ≤ 100)
    (q : ∀ D H', RowsIn H H' D (xs.map fun x => ([wd, x] : List Str)) → Q (.ref D) H') : tLcJ J (gName k) tYes (tTup (tCons (tC (.str wd)) (tCons (tVar k) tNil))) [k] σ H Q := by
  intro D nD
  have hA : SqA K (hid [] H) a (sts xs) := by
    cases kb with
    | true => exact .inl hS
    | false => exact .inr hS
  refine lc_it WJ (fun j H' => RowsIn H H' D ((xs.take j).map fun x => ([wd, x] : List Str))) (RowsIn.start nD) (fun j H' _ r => hS.mono (hid_same r.same)) ?_ ?_
  · rintro j x H2 H3 hj r ⟨rfl, hx⟩
    obtain ⟨sx, hsx, rfl⟩ := sts_at hx
    have hlen : ((xs.take j).map fun x => ([wd, x] : List Str)).length ≤ 1000 := by rw [List.length_map, List.length_take]; omega
    have hw : (wipe σ [k]).length = σ.length := wipe_length _ _
    refine ⟨?_, ?_⟩
    · simp [wipe, List.set_set]
    · refine ⟨V.str sx, by rw [List.getElem?_set_self (by rw [hw]; exact hk)], by show 2 ≤ sizeLine; decide, fun t nt => ?_⟩
      have := r.more (row := [wd, sx]) (Same.refl _) hlen nt
      rw [take_at hsx, List.map_append]
      exact this
  · intro H' r
    rw [List.take_of_length_le (by rw [sts_len]; exact Nat.le_refl _)] at r
    exact q D H' r
/-- [(word, x) for x in xs] -/
theorem rows1 {K : PySem.W.Frag} {i k : Nat} {wd : Str} {σ : L2.St} {H : Hp} {Q : VK} {a : Addr} {xs : List Str} (hi : σ[i]? = some (some (.ref a))) (hk : k < σ.length) (hS : SqL K H a (sts xs)) (hl : xs.length ≤ 100)
    (q : ∀ D H', RowsIn H H' D (xs.map fun x => ([wd, x] : List Str)) → Q (.ref D) H') : tLc (iSeqW K (tVar i)) (gName k) tYes (tTup (tCons (tC (.str wd)) (tCons (tVar k) tNil))) [k] σ H Q :=
  ⟨_, hi, a, sts xs, true, [], rfl, same_hid0.seq hS, fun J WJ => rows1J (kb := true) WJ hk (same_hid0.seq hS) hl q⟩
/-- the same as a statement -/
theorem rows1S {K : PySem.W.Frag} {i k m : Nat} {wd y : Str} {u : TS} {E : Ends} {σ : L2.St} {H : Hp} {a : Addr} {xs : List Str} (hi : σ[i]? = some (some (.ref a))) (hk : k < σ.length) (hS : SqL K H a (sts xs)) (hl : xs.length ≤ 100)
    (q : ∀ D H', RowsIn H H' D (xs.map fun x => ([wd, x] : List Str)) → u E (σ.set m (some (.ref D))) H') : tSeq (tAsg (tLc (iSeqW K (tVar i)) (gName k) tYes (tTup (tCons (tC (.str wd)) (tCons (tVar k) tNil))) ([(y, k)].map (·.2))) (gName m)) u E σ H := by
  unfold tSeq tAsg
  exact rows1 (Q := fun x H1 => gName m x σ H1 (u E)) hi hk hS hl fun D H' r => q D H' r
end GB
set_option Elab.async false
set_option linter.all false
set_option autoImplicit false
set_option maxRecDepth 100000
set_option maxHeartbeats 8000000
namespace GB
open PySem PySem.Spec L2
def shTo (xs : List Str) : Nat → List (List Str)
  | 0 => []
  | i + 1 => shTo xs i ++ (xs.drop (i + 1)).map fun y => (["shares", xs.getD i "", y] : List Str)
theorem shTo_len (xs : List Str) : ∀ i, (shTo xs i).length ≤ i * xs.length
  | 0 => by simp [shTo]
  | i + 1 => by
    have := shTo_len xs i
    rw [shTo, List.length_append, List.length_map, List.length_drop, Nat.succ_mul]
    omega
def showsOf (a xs : List Str) : List (List Str) := a.flatMap fun x => xs.map fun y => (["shows", x, y] : List Str)
theorem showsOf_len (xs : List Str) : ∀ a : List Str, (showsOf a xs).length = a.length * xs.length
  | [] => by simp [showsOf]
  | x :: r => by
    have := showsOf_len xs r
    unfold showsOf at this ⊢
    rw [List.flatMap_cons, List.length_append, this, List.length_map, List.length_cons, Nat.succ_mul]
    omega
/-- all permissions of these letters, those that move -/
def allPerms (ls mv : List Str) : List (List Str) := (((ls.map fun x => (["fails", x] : List Str)) ++ (ls.map fun x => (["stays", x] : List Str))) ++ (mv.map fun x => (["writes", x] : List Str))) ++ showsOf mv mv ++ shTo mv mv.length
def endS (k : Str) : Str := if k = "fail" then "fails" else "value"
/-- the dict that maps these to True -/
def trueK (l : List Str) : List (Key × V) := l.map fun x => (Sum.inr x, V.bl true)
theorem trueK_in (l : List Str) (x : Str) : valV (trueK l) (.inr x : Key) = if x ∈ l then some (.bl true) else none := by
  induction l with
  | nil => rfl
  | cons y r ih =>
    by_cases h : y = x
    · subst h
      rw [if_pos List.mem_cons_self]
      exact valV_pos rfl
    · show valV ((Sum.inr y, V.bl true) :: trueK r) (.inr x : Key) = _
      rw [valV_neg (fun e => h (Sum.inr.inj e)), ih]
      have : (x ∈ y :: r) = (x ∈ r) := propext ⟨fun m => (List.mem_cons.mp m).resolve_left fun e => h e.symm, List.mem_cons_of_mem _⟩
      simp only [this]
/-- tuple([("value", name) for name in (sorted(names) if .. else names)]) -/
def tVals : TE := fun σ H Q => ∃ (x : Str) (v c : Addr) (vals cm : List Str), σ.length = 8 ∧ σ[3]? = some (some (.str x)) ∧ σ[1]? = some (some (.ref c)) ∧ σ[4]? = some (some (.ref v)) ∧ H c = some (.dK (trueK cm)) ∧ H v = some (.tup (sts vals)) ∧ vals.length ≤ 2 ∧ (∀ x ∈ vals, x ∈ va3) ∧
  ∀ (t : Addr) (ts : List Addr) (H6 : Hp), H t = none → Same H H6 → H6 t = some (.tup (ts.map V.ref)) → RowsAt H6 ((if x ∈ cm then sort2 vals else vals).map fun y => (["value", y] : List Str)) ts → Q (.ref t) H6
theorem vals_weak {K : PySem.W.Frag} (σ : L2.St) (H : Hp) (Q : VK) (h : tVals σ H Q) : tCB (fun xs H_1 Q => ∃ p ys, xs = [V.ref p] ∧ ((SqL K H_1 p ys ∧ ∀ l, H_1 l = none → Q (.ref l) (upd H_1 l (.tup ys))) ∨ (SqT K H_1 p ys ∧ Q (.ref p) H_1)))
    (tCons (tLc (iSeqW K (tIf (tB (tDIn (tVar 3) (tVar 1))) (tCB (rSortedTS K) (tCons (tVar 4) tNil)) (tVar 4))) (gName 7) tYes (tTup (tCons (tC (.str "value")) (tCons (tVar 7) tNil))) [7]) tNil) σ H Q := by
  obtain ⟨x, v, c, vals, cm, hl, h3, h1, h4, hc, hv, l2, v3, q⟩ := h
  have fin : ∀ (L : Addr) (H1 H2 : Hp), Same H H1 → RowsIn H1 H2 L ((if x ∈ cm then sort2 vals else vals).map fun y => (["value", y] : List Str)) → ∃ p ys, ([V.ref L] : List V) = [V.ref p] ∧ ((SqL K H2 p ys ∧ ∀ l, H2 l = none → Q (.ref l) (upd H2 l (.tup ys))) ∨ (SqT K H2 p ys ∧ Q (.ref p) H2)) := fun L H1 H2 s r => by
    obtain ⟨ts, g1, g2⟩ := r.done
    refine ⟨L, _, rfl, .inl ⟨SqL.of g1, fun t nt => ?_⟩⟩
    obtain ⟨H3, s3, g3, e3⟩ := lay (o := .tup (ts.map V.ref)) nt
    rw [e3]
    exact q t ts H3 ((s.trans r.same).free nt) ((s.trans r.same).trans s3) g3 (g2.mono s3)
  refine ⟨_, h3, _, h1, c, _, rfl, DGet.k (k := .inr x) hc, _, rfl, ?_⟩
  rw [trueK_in]
  by_cases m : x ∈ cm
  · rw [if_pos m]
    refine iteT ?_
    refine ⟨_, h4, v, vals, rfl, SqT.of hv, by omega, fun ys p hperm hsrt np => ?_⟩
    obtain ⟨H1, s1, g1, e1⟩ := lay (o := .lst (sts ys)) np
    rw [e1]
    refine ⟨p, sts ys, true, [], rfl, same_hid0.seq (SqL.of g1), fun J WJ => ?_⟩
    refine rows1J (wd := "value") (Q := fun z H2 => ∃ p ys, ([z] : List V) = [V.ref p] ∧ ((SqL K H2 p ys ∧ ∀ l, H2 l = none → Q (.ref l) (upd H2 l (.tup ys))) ∨ (SqT K H2 p ys ∧ Q (.ref p) H2))) (kb := true) WJ (by rw [hl]; decide : 7 < σ.length) (same_hid0.seq (SqL.of g1)) (by have := hperm.length_eq; omega) fun L H2 r => ?_
    refine fin L H1 H2 s1 ?_
    rw [if_pos m, ← sort2_of hperm hsrt l2 v3]
    exact r
  · rw [if_neg m]
    refine iteF ?_
    refine ⟨_, h4, v, sts vals, false, [], rfl, (Same.seqT same_hid0 (SqT.of hv) : SqT K _ v _), fun J WJ => ?_⟩
    refine rows1J (wd := "value") (Q := fun z H2 => ∃ p ys, ([z] : List V) = [V.ref p] ∧ ((SqL K H2 p ys ∧ ∀ l, H2 l = none → Q (.ref l) (upd H2 l (.tup ys))) ∨ (SqT K H2 p ys ∧ Q (.ref p) H2))) (kb := false) WJ (by rw [hl]; decide : 7 < σ.length) (Same.seqT same_hid0 (SqT.of hv) : SqT K _ v _) (by omega) fun L H2 r => ?_
    refine fin L H H2 (Same.refl _) ?_
    rw [if_neg m]
    exact r
def nkV (n : Str) : NestedKey := .tup [.text "value", .text n]
def nkE (a : Str × List Str) : NestedKey := .tup [.text a.1, .tup (a.2.map nkV)]
theorem nkVs_inj : ∀ {l m : List Str}, l.map nkV = m.map nkV → l = m
  | [], [], _ => rfl
  | [], _ :: _, h => by cases h
  | _ :: _, [], h => by cases h
  | x :: l, y :: m, h => by
    have h1 : nkV x = nkV y ∧ l.map nkV = m.map nkV := List.cons.inj h
    have h2 := (List.cons.inj (List.cons.inj (NestedKey.tup.inj h1.1)).2).1
    obtain rfl := NestedKey.text.inj h2
    rw [nkVs_inj h1.2]
theorem nkE_inj {a b : Str × List Str} (h : nkE a = nkE b) : a = b := by
  obtain ⟨x, l⟩ := a
  obtain ⟨y, m⟩ := b
  have h1 := List.cons.inj (NestedKey.tup.inj h)
  obtain rfl := NestedKey.text.inj h1.1
  have h2 := (List.cons.inj h1.2).1
  obtain rfl : l = m := nkVs_inj (NestedKey.tup.inj h2)
  rfl
theorem nkVs_depth : ∀ l : List Str, NestedKey.depthAll (l.map nkV) ≤ 1
  | [] => by simp [NestedKey.depthAll]
  | x :: l => by
    have := nkVs_depth l
    have e : (nkV x).depth = 1 := by simp [nkV, NestedKey.depth, NestedKey.depthAll]
    rw [List.map_cons, NestedKey.depthAll, e]
    omega
theorem nkE_depth (a : Str × List Str) : (nkE a).depth ≤ 8 := by
  have := nkVs_depth a.2
  unfold nkE
  simp only [NestedKey.depth, NestedKey.depthAll]
  omega
/-- a fact's end stands in the dict of ends -/
structure EndAt (H : Hp) (g : GD) (f : Fact) (x : NestedKey × Addr × Value) : Prop where
  key : x.1 = nkE (g.asked f)
  ex : ∃ b e : Addr, x.2.2 = .ref b ∧ H b = some (.tup [.str (endS f.kind), .ref e]) ∧ H e = some (.tup [.str f.kind, .str f.en])
theorem EndAt.mono {H H' : Hp} {g : GD} {f : Fact} {x : NestedKey × Addr × Value} (s : Same H H') (h : EndAt H g f x) : EndAt H' g f x := let ⟨b, e, h1, h2, h3⟩ := h.ex; ⟨h.key, b, e, h1, s _ _ h2, s _ _ h3⟩
theorem paired_mem {α β : Type} {R : α → β → Prop} {y : β} : ∀ {l : List α} {m : List β}, Paired R l m → y ∈ m → ∃ x ∈ l, R x y
  | _, _, .cons r t, h => by
    rcases List.mem_cons.mp h with rfl | h
    · exact ⟨_, List.mem_cons_self, r⟩
    · obtain ⟨x, hx, hr⟩ := paired_mem t h
      exact ⟨x, List.mem_cons_of_mem _ hx, hr⟩
theorem nk_rows {H : Hp} : ∀ {xs : List Str} {ts : List Addr}, RowsAt H (xs.map fun x => (["value", x] : List Str)) ts → NkAll H (xs.map nkV) (ts.map V.ref)
  | [], [], _ => .nil
  | x :: xs, t :: ts, h => by
    cases h with
    | cons a b => exact .cons (.tup a (.cons (.text _) (.cons (.text _) .nil))) (nk_rows b)
  | [], _ :: _, h => by cases h
  | _ :: _, [], h => by cases h
theorem prod_le {a b : Nat} (h : a ≤ 20) (h2 : b ≤ 20) : a * b ≤ 400 := Nat.le_trans (Nat.mul_le_mul h h2) (by decide)
end GB
namespace K4
open PySem PySem.Spec L2 GB
abbrev sPerm : Stmt := topS 24
abbrev sOut : Stmt := topS 23
abbrev sEbv : Stmt := topS 22
def ebvN : List Str := ["facts", "commutes", "ends", "letter", "names", "end", "values", "name"]
def permN : List Str := ["letters", "moving", "fails", "stays", "writes", "shows", "shares", "letter", "one", "other", "place"]
def spPerm : Sp := fun vs H Q _ => ∃ (a b : Addr) (ls mv : List Str), vs = [.ref a, .ref b] ∧ H a = some (.lst (sts ls)) ∧ H b = some (.lst (sts mv)) ∧ ls.length ≤ 20 ∧ mv.length ≤ 20 ∧
  ∀ (D : Addr) (ts : List Addr) (H' : Hp), H D = none → Same H H' → H' D = some (.lst (ts.map V.ref)) → RowsAt H' (allPerms ls mv) ts → Q (.ref D) H'
def spEbv (P : Program) (w : World) : Sp := fun vs H Q _ => ∃ (a c : Addr) (g : GD), vs = [.ref a, .ref c] ∧ FactsAt H a g.facts ∧ H c = some (.dK (trueK g.comm)) ∧ g.Wf ∧
  ∀ (D : Addr) (xs : NX) (H' : Hp), H D = none → Same H H' → H' D = some (ndO P w D xs) → NdKeys (hid [D] H') xs → Paired (EndAt (hid [D] H') g) g.facts xs → Q (.ref D) H'
def spOut : Sp := fun vs H Q _ => ∃ (e : Addr) (k n : Str), vs = [.ref e] ∧ H e = some (.tup [.str k, .str n]) ∧ ∀ (t : Addr) (H' : Hp), H t = none → Same H H' → H' t = some (.tup [.str (endS k), .ref e]) → Q (.ref t) H'
section
variable {P : Program} {w : World} {K : PySem.W.Frag} {mg : Str → Option Value} {base : Heap}
theorem scPerm : FnScope permN ["letters", "moving"] (defScope sPerm) := ⟨rfl, rfl, rfl, by decide +kernel, rfl, by decide +kernel, by decide +kernel⟩
theorem scOut : FnScope ["end"] ["end"] (defScope sOut) := ⟨rfl, rfl, rfl, by decide +kernel, rfl, by decide +kernel, by decide +kernel⟩
theorem ok_out {f : Addr} {fd : FuncData} (F : Fun K "as_outcome" "as_outcome" sOut f fd) : FnOk P w K mg base CX0 1 f fd ["end"] spOut := by
  refine F.ok scOut (fun vs H Q E h => ?_) (fun cdv A outer s H vs Q E hr h => ?_)
  · obtain ⟨e, k, n, rfl, _⟩ := h
    rfl
  · obtain ⟨e, k, n, rfl, he, q⟩ := h
    refine ⟨_, pss_one (ps_ret (pe_tup (pa_cons (pe_ifExp (pt_cmpR op_eq (pe_ix ix_tup (pv 0) (pe_int) (fun _ _ => rfl)) (pe_str) (nomark _)) (pe_str) (pe_str)) (pa_cons (pv 0) (pa_nil))))), ?_⟩
    refine ⟨_, rfl, e, _, ((0 : Nat) : Int), _, rfl, rfl, SqT.of he, atI_nat (j := 0) rfl, rfl, _, rfl, ?_⟩
    rw [decS]
    by_cases c : k = "fail"
    · rw [decide_eq_true c]
      refine iteT ?_
      refine ⟨_, rfl, by show 2 ≤ sizeLine; decide, fun t nt => ?_⟩
      obtain ⟨H1, s1, h1, e1⟩ := lay (o := .tup [.str "fails", .ref e]) nt
      rw [e1]
      exact q t H1 nt s1 (by unfold endS; rw [if_pos c]; exact h1)
    · rw [decide_eq_false c]
      refine iteF ?_
      refine ⟨_, rfl, by show 2 ≤ sizeLine; decide, fun t nt => ?_⟩
      obtain ⟨H1, s1, h1, e1⟩ := lay (o := .tup [.str "value", .ref e]) nt
      rw [e1]
      exact q t H1 nt s1 (by unfold endS; rw [if_neg c]; exact h1)
theorem ok_perm {f : Addr} {fd : FuncData} (F : Fun K "_all_permissions" "_all_permissions" sPerm f fd) (T : Bl mg) : FnOk P w K mg base CX0 1 f fd ["letters", "moving"] spPerm := by
  refine F.ok scPerm (fun vs H Q E h => ?_) (fun cdv A outer s H vs Q E hr h => ?_)
  · obtain ⟨a, b, ls, mv, rfl, _⟩ := h
    rfl
  · obtain ⟨a, b, ls, mv, rfl, ha, hb, hls, hmv, q⟩ := h
    refine ⟨_, pss_cons (ps_setLc (i := 2) (own := [("letter", 7)]) (g := gName 7) (tt := tYes) rfl scPerm.nd rfl rfl (sw_true rfl rfl rfl (by decide +kernel)) (pi_seqW (pv 0)) (blkOk_by (own := [("letter", 7)]) (N := permN) (sc := defScope sPerm) (by decide +kernel)) (fun _ _ _ _ _ => pg_name (i := 7) scPerm.nd rfl (.inl rfl)) (fun _ _ _ _ _ => pts_nil) (fun _ _ _ _ _ => pe_tup (pa_cons (pe_str) (pa_cons (pv 7) (pa_nil))))) (pss_cons (ps_setLc (i := 3) (own := [("letter", 7)]) (g := gName 7) (tt := tYes) rfl scPerm.nd rfl rfl (sw_true rfl rfl rfl (by decide +kernel)) (pi_seqW (pv 0)) (blkOk_by (own := [("letter", 7)]) (N := permN) (sc := defScope sPerm) (by decide +kernel)) (fun _ _ _ _ _ => pg_name (i := 7) scPerm.nd rfl (.inl rfl)) (fun _ _ _ _ _ => pts_nil) (fun _ _ _ _ _ => pe_tup (pa_cons (pe_str) (pa_cons (pv 7) (pa_nil))))) (pss_cons (ps_setLc (i := 4) (own := [("letter", 7)]) (g := gName 7) (tt := tYes) rfl scPerm.nd rfl rfl (sw_true rfl rfl rfl (by decide +kernel)) (pi_seqW (pv 1)) (blkOk_by (own := [("letter", 7)]) (N := permN) (sc := defScope sPerm) (by decide +kernel)) (fun _ _ _ _ _ => pg_name (i := 7) scPerm.nd rfl (.inl rfl)) (fun _ _ _ _ _ => pts_nil) (fun _ _ _ _ _ => pe_tup (pa_cons (pe_str) (pa_cons (pv 7) (pa_nil))))) (pss_cons (ps_setLc2 (i := 5) (own := [("one", 8), ("other", 9)]) (vs1 := [9]) (wi1 := iSeqW K (tVar 1)) (g := gName 8) (g1 := gName 9) (tt := tYes) (tt1 := tYes) rfl scPerm.nd rfl rfl (sw_true rfl rfl rfl (by decide +kernel)) (pi_seqW (pv 1)) (blkOk_by (own := [("one", 8), ("other", 9)]) (N := permN) (sc := defScope sPerm) (by decide +kernel)) (by decide) (fun _ _ _ _ _ => pg_name (i := 8) scPerm.nd rfl (.inl rfl)) (fun _ _ _ _ _ => pts_nil) (fun _ _ _ _ _ => pi_seqW (pv 1)) (fun _ _ _ _ _ => pg_name (i := 9) scPerm.nd rfl (.inl rfl)) (fun _ _ _ _ _ => pts_nil) (fun _ _ _ _ _ => pe_tup (pa_cons (pe_str) (pa_cons (pv 8) (pa_cons (pv 9) (pa_nil)))))) (pss_cons (ps_setLc2 (i := 6) (own := [("place", 10), ("one", 8), ("other", 9)]) (vs1 := [9]) (wi1 := iSeqW K (tSl (rSlL K) (tVar 1) (tPart (tOp (rI0 fun i j => .int (i + j)) (tVar 10) (tC (.int 1)))) tNoPart)) (g := gTup K 2 (gCons (gName 10) (gCons (gName 8) gNil))) (g1 := gName 9) (tt := tYes) (tt1 := tYes) rfl scPerm.nd rfl rfl (sw_true rfl rfl rfl (by decide +kernel)) (pi_enumW rfl T.enum (pa_cons (pv 1) pa_nil)) (blkOk_by (own := [("place", 10), ("one", 8), ("other", 9)]) (N := permN) (sc := defScope sPerm) (by decide +kernel)) (by decide) (fun _ _ _ _ _ => pg_tup rfl (pgs_cons (pg_name (i := 10) scPerm.nd rfl (.inl rfl)) (pgs_cons (pg_name (i := 8) scPerm.nd rfl (.inl rfl)) (pgs_nil)))) (fun _ _ _ _ _ => pts_nil) (fun _ _ _ _ _ => pi_seqW (pe_slice (r := rSlL K) sl_list (pv 1) (po_some (pe_op op_add (pv 10) (pe_int))) po_none)) (fun _ _ _ _ _ => pg_name (i := 9) scPerm.nd rfl (.inl rfl)) (fun _ _ _ _ _ => pts_nil) (fun _ _ _ _ _ => pe_tup (pa_cons (pe_str) (pa_cons (pv 8) (pa_cons (pv 9) (pa_nil)))))) (pss_one (ps_ret (pe_op op_cat (pe_op op_cat (pe_op op_cat (pe_op op_cat (pv 2) (pv 3)) (pv 4)) (pv 5)) (pv 6)))))))), ?_⟩
    refine rows1S rfl (by simp [L2.start, permN]) (SqL.of ha) (by omega) fun D1 H1 r1 => ?_
    have s1 := r1.same
    refine rows1S rfl (by simp [L2.start, permN]) (SqL.of (s1 _ _ ha)) (by omega) fun D2 H2 r2 => ?_
    have s2 := s1.trans r2.same
    refine rows1S rfl (by simp [L2.start, permN]) (SqL.of (s2 _ _ hb)) (by omega) fun D3 H3 r3 => ?_
    have s3 := s2.trans r3.same
    have hb3 := s3 _ _ hb
    refine ⟨_, rfl, b, sts mv, true, [], rfl, same_hid0.seq (SqL.of hb3), fun J WJ D4 nD4 => ?_⟩
    refine lc2_it WJ (fun j H' => RowsIn H3 H' D4 (showsOf (mv.take j) mv)) (RowsIn.start nD4) (fun j H' _ r => (r.same.trans same_hid0).seq (SqL.of hb3)) ?_ ?_
    · rintro i x H5 H5' hi r ⟨rfl, hx⟩
      obtain ⟨sx, hsx, rfl⟩ := sts_at hx
      have hi' : i < mv.length := (List.getElem?_eq_some_iff.mp hsx).1
      refine ⟨rfl, ?_⟩
      refine ⟨_, rfl, b, sts mv, true, [], rfl, same_hid0.seq (SqL.of (r.same _ _ hb3)), fun J1 WJ1 => ?_⟩
      refine in_it WJ1 (fun j H' => RowsIn H3 H' D4 (showsOf (mv.take i) mv ++ (mv.take j).map fun y => (["shows", sx, y] : List Str))) (by rw [List.take_zero, List.map_nil, List.append_nil]; exact r) (fun j H' _ r => (r.same.trans same_hid0).seq (SqL.of hb3)) ?_ ?_
      · rintro j y H6 H6' hj r6 ⟨rfl, hy⟩
        obtain ⟨sy, hsy, rfl⟩ := sts_at hy
        refine ⟨rfl, ?_⟩
        refine ⟨_, rfl, _, rfl, by show 3 ≤ sizeLine; decide, fun t nt => ?_⟩
        rw [take_at hsy, List.map_append, ← List.append_assoc]
        refine r6.more (row := ["shows", sx, sy]) (Same.refl _) ?_ nt
        rw [List.length_append, showsOf_len, List.length_map, List.length_take, List.length_take]
        have := prod_le (show min i mv.length ≤ 20 by omega) hmv
        omega
      · intro H6 r6
        rw [show mv.take (sts mv).length = mv from List.take_of_length_le (by rw [sts_len]; exact Nat.le_refl _)] at r6
        rw [take_at hsx]
        unfold showsOf at r6 ⊢
        rw [List.flatMap_append, List.flatMap_cons, List.flatMap_nil, List.append_nil]
        exact r6
    intro H4 r4
    rw [List.take_of_length_le (by rw [sts_len]; exact Nat.le_refl _)] at r4
    have s4 := s3.trans r4.same
    have hb4 := s4 _ _ hb
    refine ⟨_, rfl, b, sts mv, true, [], rfl, same_hid0.seq (SqL.of hb4), fun J WJ D5 nD5 => ?_⟩
    refine lc2_it WJ (fun j H' => RowsIn H4 H' D5 (shTo mv j)) (RowsIn.start nD5) (fun j H' _ r => (r.same.trans same_hid0).seq (SqL.of hb4)) ?_ ?_
    · rintro i x H5 H5' hi r ⟨Tp, y1, y2, rfl, nT, rfl, e1, e2⟩
      obtain rfl := Option.some.inj e1
      obtain ⟨sx, hsx, rfl⟩ := sts_at e2
      have hi' : i < mv.length := (List.getElem?_eq_some_iff.mp hsx).1
      obtain ⟨H6, s6, h6, e6⟩ := lay (o := .tup [.int (i : Nat), .str sx]) nT
      rw [e6]
      refine ⟨Tp, _, rfl, SqT.of h6, rfl, _, _, rfl, _, _, rfl, rfl, ?_⟩
      refine ⟨rfl, ?_⟩
      refine ⟨_, rfl, _, rfl, _, _, rfl, rfl, _, rfl, b, sts mv, rfl, SqL.of (s6 _ _ (r.same _ _ hb4)), fun c nc => ?_⟩
      rw [show (((i : Nat) : Int) + 1) = ((i + 1 : Nat) : Int) from rfl, cut_from, show (sts mv).drop (i + 1) = sts (mv.drop (i + 1)) from (List.map_drop).symm]
      obtain ⟨H7, s7, h7, e7⟩ := lay (o := .lst (sts (mv.drop (i + 1)))) nc
      rw [e7]
      have r7 : RowsIn H4 H7 D5 (shTo mv i) := r.next (s6.trans s7)
      have cD : c ≠ D5 := fun z => by
        obtain ⟨ts, q1, _⟩ := r.next s6 |>.ex
        rw [← z, nc] at q1
        cases q1
      refine ⟨c, sts (mv.drop (i + 1)), true, [D5], rfl, SqL.of (hid_to (ni1 cD) h7), fun J1 WJ1 => ?_⟩
      have hc7 : hid [D5] H7 c = some (.lst (sts (mv.drop (i + 1)))) := hid_to (ni1 cD) h7
      refine in_it WJ1 (fun j H' => Bt [D5] H7 H' ∧ RowsIn H4 H' D5 (shTo mv i ++ ((mv.drop (i + 1)).take j).map fun y => (["shares", sx, y] : List Str))) ⟨Same.refl _, by rw [List.take_zero, List.map_nil, List.append_nil]; exact r7⟩ (fun j H' _ r => SqL.of (r.1 _ _ hc7)) ?_ ?_
      · rintro j y H8 H8' hj ⟨B8, r8⟩ ⟨rfl, hy⟩
        obtain ⟨sy, hsy, rfl⟩ := sts_at hy
        refine ⟨rfl, ?_⟩
        refine ⟨_, rfl, _, rfl, by show 3 ≤ sizeLine; decide, fun t nt => ?_⟩
        rw [take_at hsy, List.map_append, ← List.append_assoc]
        obtain ⟨acc, a1, a2, a3, a4⟩ := r8.moreB (row := ["shares", sx, sy]) (Same.refl _) (by
          rw [List.length_append, List.length_map, List.length_take, List.length_drop]
          have := shTo_len mv i
          have := prod_le (show i ≤ 20 by omega) hmv
          omega) nt
        exact ⟨acc, a1, a2, B8.trans a4, a3⟩
      · rintro H8 ⟨B8, r8⟩
        rw [show (mv.drop (i + 1)).take (sts (mv.drop (i + 1))).length = mv.drop (i + 1) from List.take_of_length_le (by rw [sts_len]; exact Nat.le_refl _)] at r8
        rw [shTo, show mv.getD i "" = sx from by rw [List.getD_eq_getElem?_getD, hsx]; rfl]
        exact r8
    intro H5 r5
    rw [sts_len] at r5
    have s5 := s4.trans r5.same
    obtain ⟨t1, g1, p1⟩ := r1.done
    obtain ⟨t2, g2, p2⟩ := r2.done
    obtain ⟨t3, g3, p3⟩ := r3.done
    obtain ⟨t4, g4, p4⟩ := r4.done
    obtain ⟨t5, g5, p5⟩ := r5.done
    have s45 := r5.same
    have s35 := r4.same.trans s45
    have s25 := r3.same.trans s35
    have s15 := r2.same.trans s25
    have l1 := p1.len
    have l2 := p2.len
    have l3 := p3.len
    have l4 := p4.len
    have l5 := p5.len
    rw [List.length_map] at l1 l2 l3
    rw [showsOf_len] at l4
    have l5b := shTo_len mv mv.length
    have l45 := prod_le hmv hmv
    refine ⟨_, rfl, _, rfl, D1, D2, _, _, rfl, rfl, s15 _ _ g1, s25 _ _ g2, by rw [List.length_map, List.length_map, sizeLine_eq]; omega, fun u6 n6 => ?_⟩
    obtain ⟨H6, s6, h6, e6⟩ := lay (o := .lst (t1.map V.ref ++ t2.map V.ref)) n6
    rw [e6]
    refine ⟨_, rfl, u6, D3, _, _, rfl, rfl, h6, s6 _ _ (s35 _ _ g3), by rw [List.length_append, List.length_map, List.length_map, List.length_map, sizeLine_eq]; omega, fun u7 n7 => ?_⟩
    obtain ⟨H7, s7, h7, e7⟩ := lay (o := .lst (t1.map V.ref ++ t2.map V.ref ++ t3.map V.ref)) n7
    rw [e7]
    refine ⟨_, rfl, u7, D4, _, _, rfl, rfl, h7, s7 _ _ (s6 _ _ (s45 _ _ g4)), by rw [List.length_append, List.length_append, List.length_map, List.length_map, List.length_map, List.length_map, sizeLine_eq]; omega, fun u8 n8 => ?_⟩
    obtain ⟨H8, s8, h8, e8⟩ := lay (o := .lst (t1.map V.ref ++ t2.map V.ref ++ t3.map V.ref ++ t4.map V.ref)) n8
    rw [e8]
    refine ⟨_, rfl, u8, D5, _, _, rfl, rfl, h8, s8 _ _ (s7 _ _ (s6 _ _ g5)), by rw [List.length_append, List.length_append, List.length_append, List.length_map, List.length_map, List.length_map, List.length_map, List.length_map, sizeLine_eq]; omega, fun u9 n9 => ?_⟩
    obtain ⟨H9, s9, h9, e9⟩ := lay (o := .lst (t1.map V.ref ++ t2.map V.ref ++ t3.map V.ref ++ t4.map V.ref ++ t5.map V.ref)) n9
    rw [e9]
    have s59 := ((s6.trans s7).trans s8).trans s9
    refine q u9 (t1 ++ t2 ++ t3 ++ t4 ++ t5) H9 ((s5.trans ((s6.trans s7).trans s8)).free n9) (s5.trans s59) (by rw [h9]; simp) ?_
    have b1 := p1.mono (s15.trans s59)
    have b2 := p2.mono (s25.trans s59)
    have b3 := p3.mono (s35.trans s59)
    have b4 := p4.mono (s45.trans s59)
    have b5 := p5.mono s59
    exact (((b1.app b2).app b3).app b4).app b5
theorem scEbv : FnScope ebvN ["facts", "commutes"] (defScope sEbv) := ⟨rfl, rfl, rfl, by decide +kernel, rfl, by decide +kernel, by decide +kernel⟩
theorem ok_ebv {f : Addr} {fd : FuncData} (F : Fun K "_ends_by_values" "_ends_by_values" sEbv f fd) (T : Bl mg) (OUT : Fns P w K mg base "as_outcome" 1 ["end"] spOut) : FnOk P w K mg base CX0 2 f fd ["facts", "commutes"] (spEbv P w) := by
  refine F.ok scEbv (fun vs H Q E h => ?_) (fun cdv A outer s H vs Q E hr h => ?_)
  · obtain ⟨a, c, g, rfl, _⟩ := h
    rfl
  · obtain ⟨a, c, g, rfl, ⟨tsF, ha, hF⟩, hc, wf, q⟩ := h
    have hu := hu_of hr
    have hu9 : (A.deeper (PyProof.Rows.envOfC "_ends_by_values" (defScope sEbv) s.heap.objs.size f cdv)).units + 9 < cLine := by have := hr.un; omega
    refine ⟨_, pss_cons (ps_set (i := 2) scEbv.nd rfl (.inl rfl) (pe_dnewN)) (pss_cons (ps_for PassesOwn.never rfl (pi_seqW (pv 0)) (pg_tup rfl (pgs_cons (pg_name (i := 3) scEbv.nd rfl (.inl rfl)) (pgs_cons (pg_name (i := 4) scEbv.nd rfl (.inl rfl)) (pgs_cons (pg_name (i := 5) scEbv.nd rfl (.inl rfl)) (pgs_nil))))) (pss_cons (ps_set (i := 6) scEbv.nd rfl (.inl rfl) (pe_weak (t' := tVals) (pe_callTy (call_tuple_of) (by rfl) T.tuple (by decide +kernel) (pa_cons (pe_lc (own := [("name", 7)]) (g := gName 7) (tt := tYes) rfl scEbv.nd (pi_seqW (pe_ifExp (pt_cmp (pc_din hu (pv 3) (pv 1))) (pe_callB (cr_sortedTS) (by rfl) T.sorted (by decide +kernel) (pa_cons (pv 4) (pa_nil))) (pv 4))) (blkOk_by (own := [("name", 7)]) (N := ebvN) (sc := defScope sEbv) (by decide +kernel)) (fun _ _ _ _ _ => pg_name (i := 7) scEbv.nd rfl (.inl rfl)) (fun _ _ _ _ _ => pts_nil) (fun _ _ _ _ _ => pe_tup (pa_cons (pe_str) (pa_cons (pv 7) (pa_nil))))) (pa_nil))) vals_weak)) (pss_one (ps_asg (pe_fn OUT hr (by decide) rfl (pa_cons (pv 5) pa_nil)) (pg_sub (pv 2) (pe_tup (pa_cons (pv 3) (pa_cons (pv 6) (pa_nil)))) (set_dictN hu9)))))) (pss_one (ps_ret (pv 2)))), ?_⟩
    refine fun D nD => ?_
    obtain ⟨H1, s1, h1, e1⟩ := lay (o := ndO P w D []) nD
    have e1' : upd H D (ndO (cxOf CX0 P w K mg base ebvN "_ends_by_values" (defScope sEbv) f cdv A outer s H E).nox.prog (cxOf CX0 P w K mg base ebvN "_ends_by_values" (defScope sEbv) f cdv A outer s H E).nox.w D []) = H1 := e1
    rw [e1']
    have S1 : Same H (hid [D] H1) := same_hid_new nD s1
    have ltd : tsF.length = g.facts.length := (Paired.length hF).symm
    refine ⟨_, rfl, a, tsF.map V.ref, true, [D], rfl, SqL.of (S1 _ _ ha), fun J WJ => ?_⟩
    refine for_it WJ (fun i σ H' => ∃ (o3 o4 o5 o6 : Option V) (xs : NX), σ = [some (.ref a), some (.ref c), some (.ref D), o3, o4, o5, o6, none] ∧ Same H (hid [D] H') ∧ H' D = some (ndO P w D xs) ∧ NdKeys (hid [D] H') xs ∧ Paired (EndAt (hid [D] H') g) (g.facts.take i) xs)
      ⟨none, none, none, none, [], rfl, S1, h1, (fun e he => nomatch he), .nil⟩ (fun i σ H' _ ⟨_, _, _, _, _, _, S, _⟩ => SqL.of (S _ _ ha)) ?_ ?_
    · rintro i x σ H0 H3 hi ⟨o3, o4, o5, o6, xs, rfl, S3, h3, k3, p3⟩ ⟨rfl, ey⟩
      obtain ⟨t, htt, rfl⟩ : ∃ t, tsF[i]? = some t ∧ x = V.ref t := by
        have ey : (tsF.map V.ref)[i]? = some x := ey
        rw [List.getElem?_map] at ey
        cases e : tsF[i]? with
        | none => rw [e] at ey; cases ey
        | some y => rw [e] at ey; exact ⟨y, rfl, (Option.some.inj ey).symm⟩
      have hig : i < g.facts.length := by rw [← ltd]; exact (List.getElem?_eq_some_iff.mp htt).1
      have hfi : g.facts[i]? = some g.facts[i] := List.getElem?_eq_getElem hig
      generalize hfa : g.facts[i] = fa at hfi
      have fmem := List.mem_of_getElem? hfi
      obtain ⟨t', ht', hA⟩ : ∃ t', tsF[i]? = some t' ∧ FactAt H fa t' := paired_at' hF hfi
      obtain rfl : t' = t := by rw [htt] at ht'; exact (Option.some.inj ht').symm
      have ok := wf.fa _ fmem
      obtain ⟨v, e, ht0, hv0, he0⟩ := hA.ex
      obtain ⟨k, hk, hvl⟩ := ok.len
      have har := wf.ar _ hk
      have S3l : Same H H3 := S3.trans (hid_low _ _)
      refine ⟨t', _, rfl, SqT.of (S3l _ _ ht0), rfl, _, _, rfl, _, _, rfl, _, _, rfl, rfl, ?_⟩
      refine ⟨fa.x, v, c, fa.vals, g.comm, rfl, rfl, rfl, rfl, S3l _ _ hc, S3l _ _ hv0, by rw [hvl]; exact har, ok.vals, fun u tsu H4 nu s4 hu4 hru => ?_⟩
      refine ⟨_, rfl, e, fa.kind, fa.en, rfl, s4 _ _ (S3l _ _ he0), fun b H5 nb s5 hb5 => ?_⟩
      refine ⟨_, rfl, _, rfl, _, rfl, by show 2 ≤ sizeLine; decide, fun ka nka => ?_⟩
      obtain ⟨H6, s6, h6, e6⟩ := lay (o := .tup [.str fa.x, .ref u]) nka
      rw [e6]
      have S46 : Same H3 H6 := (s4.trans s5).trans s6
      have h6D := S46 _ _ h3
      have nD6 : ∀ {q : Addr} {o : List V}, H6 q = some (.tup o) → hid [D] H6 q = some (.tup o) := fun h => hid_to (ni1 (ne_of h h6D (fun z => nomatch z))) h
      have k6 : NdKeys (hid [D] H6) xs := k3.mono (hid_same S46)
      have hru6 : RowsAt (hid [D] H6) ((if fa.x ∈ g.comm then sort2 fa.vals else fa.vals).map fun y => (["value", y] : List Str)) tsu := Paired.mapP (hru.mono (s5.trans s6)) fun _ _ r => nD6 r
      have nk6 : NkV (hid [D] H6) (nkE (g.asked fa)) (.ref ka) := .tup (nD6 h6) (.cons (.text _) (.cons (.tup (nD6 (s6 _ _ (s5 _ _ hu4))) (nk_rows hru6)) .nil))
      have lxs : xs.length ≤ 6 := by
        have := Paired.length p3
        rw [List.length_take] at this
        have := wf.fl
        omega
      have nokey : nkE (g.asked fa) ∉ xs.map (·.1) := by
        intro m
        obtain ⟨en, hen, ee⟩ := List.mem_map.mp m
        obtain ⟨fb, hfb, hE⟩ := paired_mem p3 hen
        have := nkE_inj (hE.key.symm.trans ee)
        exact not_in_take_map wf.fd hfi hfb this
      have hnone := atKey_none nokey
      refine ⟨D, ka, b, nkE (g.asked fa), xs, rfl, rfl, rfl, h6D, k6.mono (hid_low _ _), NkV.mono (hid_low _ _) _ _ nk6, nkE_depth _, by omega, ?_⟩
      rw [storedH_new hnone]
      have B8 : Bt [D] H6 (upd H6 D (ndO P w D (xs ++ [(nkE (g.asked fa), ka, Value.ref b)]))) := bt_upd (by simp)
      have S58 : Same (hid [D] H3) (hid [D] (upd H6 D (ndO P w D (xs ++ [(nkE (g.asked fa), ka, Value.ref b)])))) := (hid_same S46).trans B8
      refine ⟨_, _, _, _, xs ++ [(nkE (g.asked fa), ka, Value.ref b)], rfl, S3.trans S58, upd_same, ?_, ?_⟩
      · intro en hen
        rcases List.mem_append.mp hen with h | h
        · exact (k6.mono B8) en h
        · rw [List.mem_singleton.mp h]
          exact ⟨NkV.mono B8 _ _ nk6, nkE_depth _⟩
      · rw [take_at hfi]
        exact paired_app (Paired.mapP p3 fun _ _ r => r.mono S58) (.cons ⟨rfl, b, e, rfl, B8 _ _ (nD6 (s6 _ _ hb5)), S58 _ _ (S3 _ _ he0)⟩ .nil)
    · rintro σ H3 ⟨o3, o4, o5, o6, xs, rfl, S3, h3, k3, p3⟩
      rw [List.take_of_length_le (by rw [List.length_map, ltd]; exact Nat.le_refl _)] at p3
      exact ⟨_, rfl, q D xs H3 nD (S3.trans (hid_low _ _)) h3 k3 p3⟩
end
end K4
set_option Elab.async false
set_option linter.all false
set_option maxRecDepth 100000
set_option maxHeartbeats 8000000
namespace GB
open PySem PySem.Spec L2
/-- [x for x in letters if x in fixed] -/
def tSel (j : Nat) : TE := fun σ H Q => ∃ (s0 : Option V) (a : Addr) (s2 s3 s4 s5 s6 s7 : Option V) (b : Addr) (ls : List (Str × Nat)) (fx : List Str), σ = [s0, some (.ref a), s2, s3, s4, s5, s6, s7] ∧ ((j = 2 ∧ s2 = some (.ref b)) ∨ (j = 3 ∧ s3 = some (.ref b))) ∧ H a = some (.dK (lkv ls)) ∧ H b = some (.lst (sts fx)) ∧ ls.length ≤ 1000 ∧
  ∀ l H', H l = none → Same H H' → H' l = some (.lst (sts ((ls.map (·.1)).filter fun x => decide (x ∈ fx)))) → Q (.ref l) H'

theorem sel_weak2 {K : PySem.W.Frag} (σ : L2.St) (H : Hp) (Q : VK) (h : tSel 2 σ H Q) : tLockE (tLc (iKeys (tVar 1)) (gName 5) (tTest (tOp (rIn K false) (tVar 5) (tVar 2))) (tVar 5) [5]) σ H Q := by
  obtain ⟨s0, a, s2, s3, s4, s5, s6, s7, b, ls, fx, rfl, hj, hL, hF, hz, q⟩ := h
  obtain rfl : s2 = some (.ref b) := by
    rcases hj with h | h
    · first | exact h.2 | exact absurd h.1 (by decide)
    · first | exact h.2 | exact absurd h.1 (by decide)
  have ab : b ≠ a := ne_of hF hL (by intro z; cases z)
  refine ⟨a, _, hL, trivial, fun od => ?_⟩
  obtain ⟨Hl, hlL, hlo, el⟩ : ∃ Hl, Hl a = some (.frz od (.dK (lkv ls))) ∧ (∀ b, b ≠ a → Hl b = H b) ∧ upd H a (.frz od (.dK (lkv ls))) = Hl := ⟨_, upd_same, fun b hb => upd_ne hb, rfl⟩
  rw [el]
  have hFl := (hlo b ab).trans hF
  refine ⟨_, rfl, a, od, rfl, .inl ⟨_, hlL, fun D nD => ?_⟩⟩
  refine lc_it walk_keys (fun i H' => Same Hl H' ∧ H' D = some (.lst (sts (((ls.map (·.1)).take i).filter fun x => decide (x ∈ fx))))) ⟨same_new nD, upd_same⟩ (fun i H' _ ⟨s', _⟩ => s' _ _ hlL) ?_ ?_
  · rintro i x H1 H1' hi ⟨s1, hD⟩ ⟨rfl, k, v, hk, rfl⟩
    obtain ⟨⟨sx, m⟩, hq, eq⟩ : ∃ q, ls[i]? = some q ∧ (Sum.inr q.1, V.int q.2) = (k, v) := by
      unfold lkv at hk
      rw [List.getElem?_map] at hk
      cases e : ls[i]? with
      | none => rw [e] at hk; cases hk
      | some q => rw [e] at hk; exact ⟨q, rfl, Option.some.inj hk⟩
    obtain ⟨rfl, rfl⟩ := Prod.mk.inj eq
    have hkx : (ls.map (·.1))[i]? = some sx := by rw [List.getElem?_map, hq]; rfl
    have ec := take_at hkx
    refine ⟨rfl, ?_⟩
    refine ⟨_, rfl, _, rfl, b, sts fx, rfl, .inl (SqL.of (s1 _ _ hFl)), rfl, flat_sts _, _, rfl, ?_⟩
    rw [show (if false = true then !inV (kV (Sum.inr sx)) (sts fx) else inV (kV (Sum.inr sx)) (sts fx)) = decide (sx ∈ fx) from inV_sts _ _]
    rw [ec, List.filter_append]
    by_cases c : sx ∈ fx
    · rw [decide_eq_true c]
      refine ⟨_, rfl, _, hD, ?_, fun b o e => ?_, ?_⟩
      · rw [sts_len, sizeLine_eq]
        have h1 := List.length_filter_le (fun x => decide (x ∈ fx)) ((ls.map (·.1)).take i)
        rw [List.length_take, List.length_map] at h1
        omega
      · rw [upd_ne (ne_of_none e nD)]; exact s1 _ _ e
      · rw [upd_same, List.filter_cons_of_pos (by simp [c]), List.filter_nil]
        unfold sts
        rw [List.map_append]
        rfl
    · rw [decide_eq_false c]
      refine ⟨s1, ?_⟩
      rw [List.filter_cons_of_neg (by simp [c]), List.filter_nil, List.append_nil]
      exact hD
  · rintro H1' ⟨s1', hD1'⟩
    refine ⟨s1' _ _ hlL, ?_⟩
    have DL : D ≠ a := fun e => by rw [e, hlL] at nD; cases nD
    have nDH : H D = none := by rw [← hlo D DL]; exact nD
    rw [List.take_of_length_le (by rw [List.length_map]; show ls.length ≤ (lkv ls).length; unfold lkv; rw [List.length_map]; exact Nat.le_refl _)] at hD1'
    refine q D _ nDH (fun b o e => ?_) (by rw [upd_ne DL]; exact hD1')
    by_cases hb : b = a
    · subst hb; rw [upd_same, ← e, hL]
    · rw [upd_ne hb]; exact s1' _ _ ((hlo b hb).trans e)

theorem sel_weak3 {K : PySem.W.Frag} (σ : L2.St) (H : Hp) (Q : VK) (h : tSel 3 σ H Q) : tLockE (tLc (iKeys (tVar 1)) (gName 5) (tTest (tOp (rIn K false) (tVar 5) (tVar 3))) (tVar 5) [5]) σ H Q := by
  obtain ⟨s0, a, s2, s3, s4, s5, s6, s7, b, ls, fx, rfl, hj, hL, hF, hz, q⟩ := h
  obtain rfl : s3 = some (.ref b) := by
    rcases hj with h | h
    · first | exact h.2 | exact absurd h.1 (by decide)
    · first | exact h.2 | exact absurd h.1 (by decide)
  have ab : b ≠ a := ne_of hF hL (by intro z; cases z)
  refine ⟨a, _, hL, trivial, fun od => ?_⟩
  obtain ⟨Hl, hlL, hlo, el⟩ : ∃ Hl, Hl a = some (.frz od (.dK (lkv ls))) ∧ (∀ b, b ≠ a → Hl b = H b) ∧ upd H a (.frz od (.dK (lkv ls))) = Hl := ⟨_, upd_same, fun b hb => upd_ne hb, rfl⟩
  rw [el]
  have hFl := (hlo b ab).trans hF
  refine ⟨_, rfl, a, od, rfl, .inl ⟨_, hlL, fun D nD => ?_⟩⟩
  refine lc_it walk_keys (fun i H' => Same Hl H' ∧ H' D = some (.lst (sts (((ls.map (·.1)).take i).filter fun x => decide (x ∈ fx))))) ⟨same_new nD, upd_same⟩ (fun i H' _ ⟨s', _⟩ => s' _ _ hlL) ?_ ?_
  · rintro i x H1 H1' hi ⟨s1, hD⟩ ⟨rfl, k, v, hk, rfl⟩
    obtain ⟨⟨sx, m⟩, hq, eq⟩ : ∃ q, ls[i]? = some q ∧ (Sum.inr q.1, V.int q.2) = (k, v) := by
      unfold lkv at hk
      rw [List.getElem?_map] at hk
      cases e : ls[i]? with
      | none => rw [e] at hk; cases hk
      | some q => rw [e] at hk; exact ⟨q, rfl, Option.some.inj hk⟩
    obtain ⟨rfl, rfl⟩ := Prod.mk.inj eq
    have hkx : (ls.map (·.1))[i]? = some sx := by rw [List.getElem?_map, hq]; rfl
    have ec := take_at hkx
    refine ⟨rfl, ?_⟩
    refine ⟨_, rfl, _, rfl, b, sts fx, rfl, .inl (SqL.of (s1 _ _ hFl)), rfl, flat_sts _, _, rfl, ?_⟩
    rw [show (if false = true then !inV (kV (Sum.inr sx)) (sts fx) else inV (kV (Sum.inr sx)) (sts fx)) = decide (sx ∈ fx) from inV_sts _ _]
    rw [ec, List.filter_append]
    by_cases c : sx ∈ fx
    · rw [decide_eq_true c]
      refine ⟨_, rfl, _, hD, ?_, fun b o e => ?_, ?_⟩
      · rw [sts_len, sizeLine_eq]
        have h1 := List.length_filter_le (fun x => decide (x ∈ fx)) ((ls.map (·.1)).take i)
        rw [List.length_take, List.length_map] at h1
        omega
      · rw [upd_ne (ne_of_none e nD)]; exact s1 _ _ e
      · rw [upd_same, List.filter_cons_of_pos (by simp [c]), List.filter_nil]
        unfold sts
        rw [List.map_append]
        rfl
    · rw [decide_eq_false c]
      refine ⟨s1, ?_⟩
      rw [List.filter_cons_of_neg (by simp [c]), List.filter_nil, List.append_nil]
      exact hD
  · rintro H1' ⟨s1', hD1'⟩
    refine ⟨s1' _ _ hlL, ?_⟩
    have DL : D ≠ a := fun e => by rw [e, hlL] at nD; cases nD
    have nDH : H D = none := by rw [← hlo D DL]; exact nD
    rw [List.take_of_length_le (by rw [List.length_map]; show ls.length ≤ (lkv ls).length; unfold lkv; rw [List.length_map]; exact Nat.le_refl _)] at hD1'
    refine q D _ nDH (fun b o e => ?_) (by rw [upd_ne DL]; exact hD1')
    by_cases hb : b = a
    · subst hb; rw [upd_same, ← e, hL]
    · rw [upd_ne hb]; exact s1' _ _ ((hlo b hb).trans e)

theorem dcK_it {J : It} {n : Nat} {G : Hp → Prop} {Y : Nat → Hp → V → Hp → Prop} (w : Walk J n G Y) {g : TG} {tt : TT} {tk tv : TE} {vs : List Nat} {σ : L2.St} {H1 : Hp} {D : Addr} {Qd : Hp → Prop} (Pv : Nat → Hp → Prop) (h0 : Pv 0 (upd H1 D (.dK []))) (hG : ∀ i H, i ≤ n → Pv i H → G H)
    (hs : ∀ i x H H', i < n → Pv i H → Y i H x H' → g x (wipe σ vs) H' fun σ2 H2 => wipe σ2 vs = wipe σ vs ∧ tt σ2 H2 fun b H3 => if b = true then tk σ2 H3 fun y H4 => tv σ2 H4 fun z H5 => ∃ kvs k, y = kV k ∧ H5 D = some (.dK kvs) ∧ kvs.length < sizeLine ∧ Pv (i + 1) (upd H5 D (.dK (putK kvs k z))) else Pv (i + 1) H3) (hd : ∀ H, Pv n H → Qd H) :
    ∃ Wv : Nat → Nat → Hp → Prop, (∃ m, Wv 0 m (upd H1 D (.dK []))) ∧ ∀ i m H, Wv i m H → (J.stop i H ∧ Qd H) ∨ (J.go i H ∧ ∃ Nx : Hp → Prop, (∀ H', Nx H' → ∃ m', m' < m ∧ Wv (i + 1) m' H') ∧ ∀ x H', J.yld i H x H' → g x (wipe σ vs) H' fun σ2 H2 =>
      wipe σ2 vs = wipe σ vs ∧ tt σ2 H2 fun b H3 => if b = true then tk σ2 H3 fun y H4 => tv σ2 H4 fun z H5 => ∃ kvs k, y = kV k ∧ H5 D = some (.dK kvs) ∧ kvs.length < sizeLine ∧ Nx (upd H5 D (.dK (putK kvs k z))) else Nx H3) := by
  refine ⟨fun i m H => m = n - i ∧ i ≤ n ∧ Pv i H, ⟨n, by simp, Nat.zero_le _, h0⟩, ?_⟩
  rintro i m H ⟨rfl, hi, p⟩
  rcases Nat.lt_or_ge i n with lt | ge
  · exact .inr ⟨w.goes i H lt (hG i H hi p), Pv (i + 1), fun H' p' => ⟨n - (i + 1), by omega, rfl, lt, p'⟩, fun x H' y => hs i x H H' lt p (w.yields i H x H' lt (hG i H hi p) y)⟩
  · obtain rfl : i = n := by omega
    exact .inl ⟨w.stops H (hG i H hi p), hd H p⟩
theorem FactsAt.hidX {H : Hp} {x l C dx : Addr} {u : List (Str × V)} {fs : List Fact} (hx : H x = some (.ins C dx u)) (h : FactsAt H l fs) : FactsAt (hid [x] H) l fs := by
  obtain ⟨ts, h1, h2⟩ := h
  refine ⟨ts, hid_to (ni1 (ne_of h1 hx (fun z => nomatch z))) h1, Paired.mapP h2 fun f t r => ?_⟩
  obtain ⟨v, e, a1, a2, a3⟩ := r.ex
  exact ⟨v, e, hid_to (ni1 (ne_of a1 hx (fun z => nomatch z))) a1, hid_to (ni1 (ne_of a2 hx (fun z => nomatch z))) a2, hid_to (ni1 (ne_of a3 hx (fun z => nomatch z))) a3⟩
/-- the places of rows, from 0 -/
def plK (rows : List (List Str)) : Nat → List (List Key × V)
  | 0 => []
  | i + 1 => putK (plK rows i) ((rows.getD i []).map Sum.inr) (.int (i : Nat))
theorem plK_len (rows : List (List Str)) : ∀ i, (plK rows i).length ≤ i
  | 0 => Nat.le_refl _
  | i + 1 => by
    have := plK_len rows i
    have := length_putK (plK rows i) ((rows.getD i []).map Sum.inr : List Key) (.int (i : Nat))
    rw [plK]
    omega
theorem sts_kV (row : List Str) : sts row = ((row.map Sum.inr : List Key)).map kV := by
  unfold sts
  rw [List.map_map]
  rfl
theorem true_keys (l : List Str) : (trueK l).map (fun kv => kV kv.1) = sts l := by
  unfold trueK sts
  rw [List.map_map]
  rfl
theorem lkv_keys (l : List (Str × Nat)) : (lkv l).map (fun kv => kV kv.1) = sts (l.map (·.1)) := by
  unfold lkv sts
  rw [List.map_map, List.map_map]
  rfl
theorem allPerms_len {ls mv : List Str} (h1 : ls.length ≤ 20) (h2 : mv.length ≤ 20) : (allPerms ls mv).length ≤ 1000 := by
  unfold allPerms
  have := shTo_len mv mv.length
  have := prod_le h2 h2
  simp only [List.length_append, List.length_map, showsOf_len]
  omega
theorem filter_sub {c l : List Str} (h : c.Sublist l) : l.Nodup → l.filter (fun x => decide (x ∈ c)) = c := by
  induction h with
  | slnil => intro _; rfl
  | @cons c l a h ih =>
    intro nd
    have nd' := List.nodup_cons.mp nd
    rw [List.filter_cons_of_neg (by simp; exact fun m => nd'.1 (h.subset m)), ih nd'.2]
  | @cons_cons c l a h ih =>
    intro nd
    have nd' := List.nodup_cons.mp nd
    rw [List.filter_cons_of_pos (by simp)]
    congr 1
    rw [← ih nd'.2]
    refine List.filter_congr fun x hx => ?_
    have hne : x ≠ a := fun e => nd'.1 (e ▸ hx)
    have hmem : (x ∈ (l.filter fun x => decide (x ∈ c))) ↔ x ∈ c := by rw [ih nd'.2]
    simp [hne, hmem]
/-- {x: True for x in letters if x not in fixed} -/
def tMov : TE := fun σ H Q => ∃ (s0 : Option V) (a : Addr) (s3 s4 s5 s6 s7 : Option V) (b : Addr) (ls : List (Str × Nat)) (fx : List Str), σ = [s0, some (.ref a), some (.ref b), s3, s4, s5, s6, s7] ∧ H a = some (.dK (lkv ls)) ∧ H b = some (.lst (sts fx)) ∧ (ls.map (·.1)).Nodup ∧ ls.length ≤ 1000 ∧
  ∀ l H', H l = none → Same H H' → H' l = some (.dK (trueK ((ls.map (·.1)).filter fun x => !decide (x ∈ fx)))) → Q (.ref l) H'
theorem putTrue {l : List Str} {x : Str} (h : x ∉ l) : putK (trueK l) (.inr x : Key) (.bl true) = trueK (l ++ [x]) := by
  rw [putK_new _ (by rw [trueK_in, if_neg h])]
  unfold trueK
  rw [List.map_append]
  rfl
theorem mov_weak {K : PySem.W.Frag} (σ : L2.St) (H : Hp) (Q : VK) (h : tMov σ H Q) : tLockE (tDc (iKeys (tVar 1)) (gName 5) (tTest (tOp (rIn K true) (tVar 5) (tVar 2))) (tVar 5) (tC (.bl true)) [5]) σ H Q := by
  obtain ⟨s0, a, s3, s4, s5, s6, s7, b, ls, fx, rfl, hL, hF, nd, hz, q⟩ := h
  have ab : b ≠ a := ne_of hF hL (by intro z; cases z)
  refine ⟨a, _, hL, trivial, fun od => ?_⟩
  obtain ⟨Hl, hlL, hlo, el⟩ : ∃ Hl, Hl a = some (.frz od (.dK (lkv ls))) ∧ (∀ b, b ≠ a → Hl b = H b) ∧ upd H a (.frz od (.dK (lkv ls))) = Hl := ⟨_, upd_same, fun b hb => upd_ne hb, rfl⟩
  rw [el]
  have hFl := (hlo b ab).trans hF
  refine ⟨_, rfl, a, od, rfl, .inl ⟨_, hlL, fun D nD => dcK_it walk_keys (fun i H' => Same Hl H' ∧ H' D = some (.dK (trueK (((ls.map (·.1)).take i).filter fun x => !decide (x ∈ fx))))) ⟨same_new nD, upd_same⟩ (fun i H' _ ⟨s', _⟩ => s' _ _ hlL) ?_ ?_⟩⟩
  · rintro i x H1 H1' hi ⟨s1, hD⟩ ⟨rfl, k, v, hk, rfl⟩
    obtain ⟨⟨sx, m⟩, hq, eq⟩ : ∃ q, ls[i]? = some q ∧ (Sum.inr q.1, V.int q.2) = (k, v) := by
      unfold lkv at hk
      rw [List.getElem?_map] at hk
      cases e : ls[i]? with
      | none => rw [e] at hk; cases hk
      | some q => rw [e] at hk; exact ⟨q, rfl, Option.some.inj hk⟩
    obtain ⟨rfl, rfl⟩ := Prod.mk.inj eq
    have hkx : (ls.map (·.1))[i]? = some sx := by rw [List.getElem?_map, hq]; rfl
    have ec := take_at hkx
    refine ⟨rfl, ?_⟩
    refine ⟨_, rfl, _, rfl, b, sts fx, rfl, .inl (SqL.of (s1 _ _ hFl)), rfl, flat_sts _, _, rfl, ?_⟩
    rw [show (if true = true then !inV (kV (Sum.inr sx)) (sts fx) else inV (kV (Sum.inr sx)) (sts fx)) = !decide (sx ∈ fx) from congrArg (!·) (inV_sts _ _)]
    rw [ec, List.filter_append]
    by_cases c : sx ∈ fx
    · rw [decide_eq_true c]
      refine ⟨s1, ?_⟩
      rw [List.filter_cons_of_neg (by simp [c]), List.filter_nil, List.append_nil]
      exact hD
    · rw [decide_eq_false c]
      have hn : sx ∉ ((ls.map (·.1)).take i).filter fun x => !decide (x ∈ fx) := fun z => not_in_take nd hkx (List.mem_filter.mp z).1
      refine ⟨_, rfl, _, .inr sx, rfl, hD, ?_, ?_⟩
      · unfold trueK
        rw [List.length_map, sizeLine_eq]
        have h1 := List.length_filter_le (fun x => !decide (x ∈ fx)) ((ls.map (·.1)).take i)
        rw [List.length_take, List.length_map] at h1
        omega
      · refine ⟨fun b o e => ?_, ?_⟩
        · rw [upd_ne (ne_of_none e nD)]; exact s1 _ _ e
        · rw [upd_same, putTrue hn, List.filter_cons_of_pos (by simp [c]), List.filter_nil]
  · rintro H1' ⟨s1', hD1'⟩
    refine ⟨s1' _ _ hlL, ?_⟩
    have DL : D ≠ a := fun e => by rw [e, hlL] at nD; cases nD
    have nDH : H D = none := by rw [← hlo D DL]; exact nD
    rw [List.take_of_length_le (by rw [List.length_map]; show ls.length ≤ (lkv ls).length; unfold lkv; rw [List.length_map]; exact Nat.le_refl _)] at hD1'
    refine q D _ nDH (fun b o e => ?_) (by rw [upd_ne DL]; exact hD1')
    by_cases hb : b = a
    · subst hb; rw [upd_same, ← e, hL]
    · rw [upd_ne hb]; exact s1' _ _ ((hlo b hb).trans e)
end GB
namespace K4
open PySem PySem.Spec L2 GB
abbrev sGI : Stmt := inClass (topS 21) 0
abbrev sMade : Stmt := topS 38
def giN : List Str := ["self", "letters", "fixed", "commuting", "facts", "letter", "place", "row"]
def spGI (C : Addr) : Sp := fun vs H Q _ => ∃ (x dx a b c d : Addr) (g : GD), vs = [.ref x, .ref a, .ref b, .ref c, .ref d] ∧ H x = some (.ins C dx []) ∧ H a = some (.dK (lkv g.letters)) ∧ H b = some (.lst (sts g.fixed)) ∧ H c = some (.lst (sts g.comm)) ∧ FactsAt (hid [x] H) d g.facts ∧ g.Wf ∧
  ∀ H', Bt [x] H H' → IsGr C H' x g → Q .non H'
/-- the ground of the package -/
def spMade (C : Addr) : Sp := fun vs H Q _ => ∃ (g : Addr) (gd : GD), vs = [.ref g] ∧ IsG H g gd ∧ gd.Wf ∧ ∀ G H', H G = none → Same H H' → IsGr C H' G gd → Q (.ref G) H'
section
variable {P : Program} {w : World} {K : PySem.W.Frag} {mg : Str → Option Value} {base : Heap} {C : Addr}
theorem scGI : FnScope giN ["self", "letters", "fixed", "commuting", "facts"] (defScope sGI) := ⟨rfl, rfl, rfl, by decide +kernel, rfl, by decide +kernel, by decide +kernel⟩
theorem scMade : FnScope ["_law_g"] ["_law_g"] (defScope sMade) := ⟨rfl, rfl, rfl, by decide +kernel, rfl, by decide +kernel, by decide +kernel⟩

theorem ok_gi {f : Addr} {fd : FuncData} {dvs : List V} {kws : List (Str × V)} (F : FunD K "__init__" "Ground.__init__" (defArgs sGI) (defBody sGI) (defScope sGI) dvs kws f fd) (T : Bl mg) (cl : Cls K C) (n1 : NoAttr K C "_facts") (n2 : NoAttr K C "_letters") (n3 : NoAttr K C "_order") (n4 : NoAttr K C "_fixed") (n5 : NoAttr K C "_commuting") (n6 : NoAttr K C "moving") (n7 : NoAttr K C "commutes") (n8 : NoAttr K C "known_ends") (n9 : NoAttr K C "places")
    (CL : Fns P w K mg base "_check_letters" 2 ["letters"] spCkL) (CF : Fns P w K mg base "_check_fixed" 2 ["letters", "fixed"] spCkF) (CC : Fns P w K mg base "_check_commuting" 2 ["letters", "fixed", "commuting"] spCkC)
    (FT : Fns P w K mg base "_facts_as_told" 4 ["letters", "fixed", "commuting", "facts"] spFT) (EB : Fns P w K mg base "_ends_by_values" 2 ["facts", "commutes"] (spEbv P w)) (PM : Fns P w K mg base "_all_permissions" 1 ["letters", "moving"] spPerm) : FnOk P w K mg base CX0 5 f fd ["self", "letters", "fixed", "commuting", "facts"] (spGI C) := by
  refine FX.FunD.ok0 F scGI (fun vs H Q E h => ?_) (fun cdv A outer s H vs Q E hr h => ?_)
  · obtain ⟨x, dx, a, b, c, d, g, rfl, _⟩ := h
    rfl
  · obtain ⟨x, dx, a, b, c, d, g, rfl, hx, hL, hF, hC, hA, wf, q⟩ := h
    refine ⟨_, pss_cons (ps_expr (pe_fn CL hr (by decide) rfl (pa_cons (pv 1) (pa_nil)))) (pss_cons (ps_expr (pe_fn CF hr (by decide) rfl (pa_cons (pv 1) (pa_cons (pv 2) (pa_nil))))) (pss_cons (ps_expr (pe_fn CC hr (by decide) rfl (pa_cons (pv 1) (pa_cons (pv 2) (pa_cons (pv 3) (pa_nil)))))) (pss_cons (ps_fld (pv 0) (pe_fn FT hr (by decide) rfl (pa_cons (pv 1) (pa_cons (pv 2) (pa_cons (pv 3) (pa_cons (pv 4) (pa_nil)))))) rfl) (pss_cons (ps_fld (pv 0) (pe_callTy (call_dictD) (by rfl) T.dict (by decide +kernel) (pa_cons (pv 1) (pa_nil))) rfl) (pss_cons (ps_fld (pv 0) (pe_callTy ((call_listD rfl)) (by rfl) T.list (by decide +kernel) (pa_cons (pv 1) (pa_nil))) rfl) (pss_cons (ps_fld (pv 0) (pe_weak (t' := tSel 2) (pe_lock (pe_lc (own := [("letter", 5)]) (g := gName 5) (tt := tTest (tOp (rIn K false) (tVar 5) (tVar 2))) rfl scGI.nd (pi_keys (pv 1)) (blkOk_by (own := [("letter", 5)]) (N := giN) (sc := defScope sGI) (by decide +kernel)) (fun _ _ _ _ _ => pg_name (i := 5) scGI.nd rfl (.inl rfl)) (fun _ _ _ _ _ => pts_one (pt_cmpR op_in_seq (pv 5) (pv 2) (by rfl))) (fun _ _ _ _ _ => pv 5))) sel_weak2) rfl) (pss_cons (ps_fld (pv 0) (pe_weak (t' := tSel 3) (pe_lock (pe_lc (own := [("letter", 5)]) (g := gName 5) (tt := tTest (tOp (rIn K false) (tVar 5) (tVar 3))) rfl scGI.nd (pi_keys (pv 1)) (blkOk_by (own := [("letter", 5)]) (N := giN) (sc := defScope sGI) (by decide +kernel)) (fun _ _ _ _ _ => pg_name (i := 5) scGI.nd rfl (.inl rfl)) (fun _ _ _ _ _ => pts_one (pt_cmpR op_in_seq (pv 5) (pv 3) (by rfl))) (fun _ _ _ _ _ => pv 5))) sel_weak3) rfl) (pss_cons (ps_fld (pv 0) (pe_weak (t' := tMov) (pe_lock (pe_dc (own := [("letter", 5)]) (g := gName 5) (tt := tTest (tOp (rIn K true) (tVar 5) (tVar 2))) (tk := tVar 5) (tv := tC (.bl true)) rfl scGI.nd (pi_keys (pv 1)) (blkOk_by (own := [("letter", 5)]) (N := giN) (sc := defScope sGI) (by decide +kernel)) (fun _ _ _ _ _ => pg_name (i := 5) scGI.nd rfl (.inl rfl)) (fun _ _ _ _ _ => pts_one (pt_cmpR op_notIn_seq (pv 5) (pv 2) (by rfl))) (fun _ _ _ _ _ => pv 5) (fun _ _ _ _ _ => pe_bl))) mov_weak) rfl) (pss_cons (ps_fld (pv 0) (pe_dc (own := [("letter", 5)]) (g := gName 5) (tt := tYes) (tk := tVar 5) (tv := tC (.bl true)) rfl scGI.nd (pi_seqW (pe_fld (pv 0) rfl)) (blkOk_by (own := [("letter", 5)]) (N := giN) (sc := defScope sGI) (by decide +kernel)) (fun _ _ _ _ _ => pg_name (i := 5) scGI.nd rfl (.inl rfl)) (fun _ _ _ _ _ => pts_nil) (fun _ _ _ _ _ => pv 5) (fun _ _ _ _ _ => pe_bl)) rfl) (pss_cons (ps_fld (pv 0) (pe_fn EB hr (by decide) rfl (pa_cons (pe_fld (pv 0) rfl) (pa_cons (pe_fld (pv 0) rfl) (pa_nil)))) rfl) (pss_one (ps_fld (pv 0) (DictT.pe_dcT (own := [("place", 6), ("row", 7)]) (g := gTup K 2 (gCons (gName 6) (gCons (gName 7) gNil))) (tt := tYes) (tk := tVar 7) (tv := tVar 6) .t (hu_of hr) rfl scGI.nd (pi_enumW rfl T.enum (pa_cons (pe_fn PM hr (by decide) rfl (pa_cons (pe_fld (pv 0) rfl) (pa_cons (pe_callTy (call_listD rfl) (by rfl) T.list (by decide +kernel) (pa_cons (pe_fld (pv 0) rfl) (pa_nil))) (pa_nil)))) pa_nil)) (blkOk_by (own := [("place", 6), ("row", 7)]) (N := giN) (sc := defScope sGI) (by decide +kernel)) (fun _ _ _ _ _ => pg_tup rfl (pgs_cons (pg_name (i := 6) scGI.nd rfl (.inl rfl)) (pgs_cons (pg_name (i := 7) scGI.nd rfl (.inl rfl)) (pgs_nil)))) (fun _ _ _ _ _ => pts_nil) (fun _ _ _ _ _ => pv 7) (fun _ _ _ _ _ => pv 6)) rfl)))))))))))), ?_⟩
    have nm : ∀ x ∈ nm8, nameB x = true := by decide +kernel
    refine ⟨_, rfl, a, g.letters, rfl, hL, wf.ne, fun q hq => ⟨nm _ (wf.nm q hq), wf.ar q hq⟩, fun H1 s1 => ?_⟩
    refine ⟨_, rfl, _, rfl, a, b, g.letters, g.fixed, rfl, s1 _ _ hL, wf.nd, s1 _ _ hF, wf.fx, fun H2 s2 => ?_⟩
    have S2 := s1.trans s2
    refine ⟨_, rfl, _, rfl, _, rfl, a, b, c, g.letters, g.fixed, g.comm, rfl, S2 _ _ hL, wf.nd, S2 _ _ hF, S2 _ _ hC, wf.fx.nodup wf.nd, wf.cm, wf.c2, fun H3 s3 => ?_⟩
    have S3 := S2.trans s3
    refine ⟨_, rfl, _, rfl, _, rfl, _, rfl, a, b, c, d, g, rfl, S3 _ _ hL, S3 _ _ hF, S3 _ _ hC, hA.mono ((hid_low _ _).trans S3), wf, fun l1 H4 nl1 s4 hl1 => ?_⟩
    have S4 := S3.trans s4
    have xa : a ≠ x := ne_of hL hx (fun z => nomatch z)
    have xb : b ≠ x := ne_of hF hx (fun z => nomatch z)
    have xc : c ≠ x := ne_of hC hx (fun z => nomatch z)
    refine ⟨_, rfl, x, C, dx, _, rfl, S4 _ _ hx, cl, n1, by show 0 < 1000; decide, ?_⟩
    obtain ⟨H5, b5, h5, B5, e5⟩ : ∃ H5, (∀ b o, b ≠ x → H4 b = some o → H5 b = some o) ∧ H5 x = some (.ins C dx (putF "_facts" (.ref l1) [])) ∧ Bt [x] H4 H5 ∧ upd H4 x (.ins C dx (putF "_facts" (.ref l1) [])) = H5 := ⟨_, fun b o z e => by rw [upd_ne z]; exact e, upd_same, bt_upd (by simp), rfl⟩
    rw [e5]
    have hL5 := b5 _ _ xa (S4 _ _ hL)
    refine ⟨_, rfl, a, _, rfl, .inl hL5, fun l2 nl2 => ?_⟩
    obtain ⟨H6, s6, h6, e6⟩ := lay (o := .dK (lkv g.letters)) nl2
    rw [e6]
    refine ⟨_, rfl, x, C, dx, _, rfl, s6 _ _ h5, cl, n2, by show 1 < 1000; decide, ?_⟩
    obtain ⟨H7, b7, h7, B7, e7⟩ : ∃ H7, (∀ b o, b ≠ x → H6 b = some o → H7 b = some o) ∧ H7 x = some (.ins C dx (putF "_letters" (.ref l2) (putF "_facts" (.ref l1) []))) ∧ Bt [x] H6 H7 ∧ upd H6 x (.ins C dx (putF "_letters" (.ref l2) (putF "_facts" (.ref l1) []))) = H7 := ⟨_, fun b o z e => by rw [upd_ne z]; exact e, upd_same, bt_upd (by simp), rfl⟩
    rw [e7]
    have x2 : l2 ≠ x := fun e => by rw [e, h5] at nl2; cases nl2
    have hL7 := b7 _ _ xa (s6 _ _ hL5)
    have h7l := b7 _ _ x2 h6
    refine ⟨_, rfl, a, _, rfl, .inl hL7, fun l3 nl3 => ?_⟩
    obtain ⟨H8, s8, h8, e8⟩ := lay (o := .lst ((lkv g.letters).map fun kv => kV kv.1)) nl3
    rw [e8]
    refine ⟨_, rfl, x, C, dx, _, rfl, s8 _ _ h7, cl, n3, by show 2 < 1000; decide, ?_⟩
    obtain ⟨H9, b9, h9, B9, e9⟩ : ∃ H9, (∀ b o, b ≠ x → H8 b = some o → H9 b = some o) ∧ H9 x = some (.ins C dx (putF "_order" (.ref l3) (putF "_letters" (.ref l2) (putF "_facts" (.ref l1) [])))) ∧ Bt [x] H8 H9 ∧ upd H8 x (.ins C dx (putF "_order" (.ref l3) (putF "_letters" (.ref l2) (putF "_facts" (.ref l1) [])))) = H9 := ⟨_, fun b o z e => by rw [upd_ne z]; exact e, upd_same, bt_upd (by simp), rfl⟩
    rw [e9]
    have B49 : Bt [x] H4 H9 := B5.trans ((bt_of s6).trans (B7.trans ((bt_of s8).trans B9)))
    have hL9 := bt_at B49 (ni1 xa) (S4 _ _ hL)
    have hF9 := bt_at B49 (ni1 xb) (S4 _ _ hF)
    have hC9 := bt_at B49 (ni1 xc) (S4 _ _ hC)
    have h9l := b9 _ _ x2 (s8 _ _ h7l)
    have l8 : g.letters.length ≤ 1000 := by
      have h : (g.letters.map (·.1)).length ≤ nm8.length := List.Nodup.length_le_of_subset wf.nd fun x hx => by
        obtain ⟨q, hq, rfl⟩ := List.mem_map.mp hx
        exact wf.nm q hq
      rw [List.length_map] at h
      have : nm8.length = 8 := rfl
      omega
    refine ⟨_, a, _, _, _, _, _, _, b, g.letters, g.fixed, rfl, .inl ⟨rfl, rfl⟩, hL9, hF9, l8, fun l4 H10 nl4 s10 hl4 => ?_⟩
    refine ⟨_, rfl, x, C, dx, _, rfl, s10 _ _ h9, cl, n4, by show 3 < 1000; decide, ?_⟩
    obtain ⟨H11, b11, h11, B11, e11⟩ : ∃ H11, (∀ b o, b ≠ x → H10 b = some o → H11 b = some o) ∧ H11 x = some (.ins C dx (putF "_fixed" (.ref l4) (putF "_order" (.ref l3) (putF "_letters" (.ref l2) (putF "_facts" (.ref l1) []))))) ∧ Bt [x] H10 H11 ∧ upd H10 x (.ins C dx (putF "_fixed" (.ref l4) (putF "_order" (.ref l3) (putF "_letters" (.ref l2) (putF "_facts" (.ref l1) []))))) = H11 := ⟨_, fun b o z e => by rw [upd_ne z]; exact e, upd_same, bt_upd (by simp), rfl⟩
    rw [e11]
    refine ⟨_, a, _, _, _, _, _, _, c, g.letters, g.comm, rfl, .inr ⟨rfl, rfl⟩, b11 _ _ xa (s10 _ _ hL9), b11 _ _ xc (s10 _ _ hC9), l8, fun l5 H12 nl5 s12 hl5 => ?_⟩
    refine ⟨_, rfl, x, C, dx, _, rfl, s12 _ _ h11, cl, n5, by show 4 < 1000; decide, ?_⟩
    obtain ⟨H13, b13, h13, B13, e13⟩ : ∃ H13, (∀ b o, b ≠ x → H12 b = some o → H13 b = some o) ∧ H13 x = some (.ins C dx (putF "_commuting" (.ref l5) (putF "_fixed" (.ref l4) (putF "_order" (.ref l3) (putF "_letters" (.ref l2) (putF "_facts" (.ref l1) [])))))) ∧ Bt [x] H12 H13 ∧ upd H12 x (.ins C dx (putF "_commuting" (.ref l5) (putF "_fixed" (.ref l4) (putF "_order" (.ref l3) (putF "_letters" (.ref l2) (putF "_facts" (.ref l1) [])))))) = H13 := ⟨_, fun b o z e => by rw [upd_ne z]; exact e, upd_same, bt_upd (by simp), rfl⟩
    rw [e13]
    have B913 : Bt [x] H9 H13 := (bt_of s10).trans (B11.trans ((bt_of s12).trans B13))
    have lk5 : (putF "_commuting" (.ref l5) (putF "_fixed" (.ref l4) (putF "_order" (.ref l3) (putF "_letters" (.ref l2) (putF "_facts" (.ref l1) []))))).lookup ("_commuting" : Str) = some (.ref l5) := by rw [lookup_putF, if_pos rfl]
    have hL13 := b13 _ _ xa (s12 _ _ (b11 _ _ xa (s10 _ _ hL9)))
    have hF13 := b13 _ _ xb (s12 _ _ (b11 _ _ xb (s10 _ _ hF9)))
    refine ⟨_, a, _, _, _, _, _, b, g.letters, g.fixed, rfl, hL13, hF13, wf.nd, l8, fun l6 H14 nl6 s14 hl6 => ?_⟩
    refine ⟨_, rfl, x, C, dx, _, rfl, s14 _ _ h13, cl, n6, by show 5 < 1000; decide, ?_⟩
    obtain ⟨H15, b15, h15, B15, e15⟩ : ∃ H15, (∀ b o, b ≠ x → H14 b = some o → H15 b = some o) ∧ H15 x = some (.ins C dx (putF "moving" (.ref l6) (putF "_commuting" (.ref l5) (putF "_fixed" (.ref l4) (putF "_order" (.ref l3) (putF "_letters" (.ref l2) (putF "_facts" (.ref l1) []))))))) ∧ Bt [x] H14 H15 ∧ upd H14 x (.ins C dx (putF "moving" (.ref l6) (putF "_commuting" (.ref l5) (putF "_fixed" (.ref l4) (putF "_order" (.ref l3) (putF "_letters" (.ref l2) (putF "_facts" (.ref l1) []))))))) = H15 := ⟨_, fun b o z e => by rw [upd_ne z]; exact e, upd_same, bt_upd (by simp), rfl⟩
    rw [e15]
    have x5 : l5 ≠ x := fun e => by rw [e, h11] at nl5; cases nl5
    have hl5c : H15 l5 = some (.lst (sts g.comm)) := by
      rw [filter_sub (wf.cm.trans wf.fx) wf.nd] at hl5
      exact b15 _ _ x5 (s14 _ _ (b13 _ _ x5 hl5))
    refine ⟨_, rfl, x, C, dx, _, _, rfl, h15, cl, n5, (by rw [lookup_putF, if_neg (by decide +kernel), lookup_putF, if_pos rfl] : (putF "moving" (.ref l6) (putF "_commuting" (.ref l5) (putF "_fixed" (.ref l4) (putF "_order" (.ref l3) (putF "_letters" (.ref l2) (putF "_facts" (.ref l1) [])))))).lookup ("_commuting" : Str) = some (.ref l5)), l5, sts g.comm, true, [], rfl, SqL.of (hid_to (by simp) hl5c), fun J WJ l7 nl7 => ?_⟩
    refine dcK_it WJ (fun i H' => Same H15 H' ∧ H' l7 = some (.dK (trueK (g.comm.take i)))) ⟨same_new nl7, upd_same⟩ (fun i H' _ s => SqL.of (hid_to (by simp) (s.1 _ _ hl5c))) ?_ ?_
    · rintro i y H1' H2' hi ⟨sc, hD⟩ ⟨rfl, hy⟩
      obtain ⟨sy, hsy, rfl⟩ := sts_at hy
      refine ⟨rfl, ?_⟩
      have hn : sy ∉ g.comm.take i := not_in_take (wf.cm.nodup (wf.fx.nodup wf.nd)) hsy
      refine ⟨_, rfl, _, .inr sy, rfl, hD, ?_, ?_⟩
      · unfold trueK
        rw [List.length_map, List.length_take, sizeLine_eq]
        have := (wf.cm.trans wf.fx).length_le
        rw [List.length_map] at this
        omega
      · refine ⟨fun b o e => ?_, ?_⟩
        · rw [upd_ne (ne_of_none e nl7)]; exact sc _ _ e
        · rw [upd_same, putTrue hn, take_at hsy]
    rintro H16 ⟨s16, hl7⟩
    rw [List.take_of_length_le (by rw [sts_len]; exact Nat.le_refl _)] at hl7
    refine ⟨_, rfl, x, C, dx, _, rfl, s16 _ _ h15, cl, n7, by show 6 < 1000; decide, ?_⟩
    obtain ⟨H17, b17, h17, B17, e17⟩ : ∃ H17, (∀ b o, b ≠ x → H16 b = some o → H17 b = some o) ∧ H17 x = some (.ins C dx (putF "commutes" (.ref l7) (putF "moving" (.ref l6) (putF "_commuting" (.ref l5) (putF "_fixed" (.ref l4) (putF "_order" (.ref l3) (putF "_letters" (.ref l2) (putF "_facts" (.ref l1) [])))))))) ∧ Bt [x] H16 H17 ∧ upd H16 x (.ins C dx (putF "commutes" (.ref l7) (putF "moving" (.ref l6) (putF "_commuting" (.ref l5) (putF "_fixed" (.ref l4) (putF "_order" (.ref l3) (putF "_letters" (.ref l2) (putF "_facts" (.ref l1) [])))))))) = H17 := ⟨_, fun b o z e => by rw [upd_ne z]; exact e, upd_same, bt_upd (by simp), rfl⟩
    rw [e17]
    have x7 : l7 ≠ x := fun e => by rw [e, h15] at nl7; cases nl7
    have x6 : l6 ≠ x := fun e => by rw [e, h13] at nl6; cases nl6
    have x3 : l3 ≠ x := fun e => by rw [e, h7] at nl3; cases nl3
    have B417 : Bt [x] H4 H17 := B49.trans (B913.trans ((bt_of s14).trans (B15.trans ((bt_of s16).trans B17))))
    have hA17 : FactsAt H17 l1 g.facts := ((hl1.hidX (S4 _ _ hx)).mono B417).mono (hid_low _ _)
    have hl6c : H17 l6 = some (.dK (trueK ((g.letters.map (·.1)).filter fun x => !decide (x ∈ g.fixed)))) := b17 _ _ x6 (s16 _ _ (b15 _ _ x6 hl6))
    have hl3c : H17 l3 = some (.lst (sts (g.letters.map (·.1)))) := by
      rw [lkv_keys] at h8
      exact bt_at ((B9.trans B913).trans ((bt_of s14).trans (B15.trans ((bt_of s16).trans B17)))) (ni1 x3) h8
    refine ⟨_, rfl, x, C, dx, _, _, rfl, h17, cl, n1, (by rw [lookup_putF, if_neg (by decide +kernel), lookup_putF, if_neg (by decide +kernel), lookup_putF, if_neg (by decide +kernel), lookup_putF, if_neg (by decide +kernel), lookup_putF, if_neg (by decide +kernel), lookup_putF, if_neg (by decide +kernel), lookup_putF, if_pos rfl] : (putF "commutes" (.ref l7) (putF "moving" (.ref l6) (putF "_commuting" (.ref l5) (putF "_fixed" (.ref l4) (putF "_order" (.ref l3) (putF "_letters" (.ref l2) (putF "_facts" (.ref l1) []))))))).lookup ("_facts" : Str) = some (.ref l1)), _, rfl, x, C, dx, _, _, rfl, h17, cl, n7, (by rw [lookup_putF, if_pos rfl] : (putF "commutes" (.ref l7) (putF "moving" (.ref l6) (putF "_commuting" (.ref l5) (putF "_fixed" (.ref l4) (putF "_order" (.ref l3) (putF "_letters" (.ref l2) (putF "_facts" (.ref l1) []))))))).lookup ("commutes" : Str) = some (.ref l7)), l1, l7, g, rfl, hA17, b17 _ _ x7 hl7, wf, fun l8 xs H18 nl8 s18 h18d k18 p18 => ?_⟩
    refine ⟨_, rfl, x, C, dx, _, rfl, s18 _ _ h17, cl, n8, by show 7 < 1000; decide, ?_⟩
    obtain ⟨H19, b19, h19, B19, e19⟩ : ∃ H19, (∀ b o, b ≠ x → H18 b = some o → H19 b = some o) ∧ H19 x = some (.ins C dx (putF "known_ends" (.ref l8) (putF "commutes" (.ref l7) (putF "moving" (.ref l6) (putF "_commuting" (.ref l5) (putF "_fixed" (.ref l4) (putF "_order" (.ref l3) (putF "_letters" (.ref l2) (putF "_facts" (.ref l1) []))))))))) ∧ Bt [x] H18 H19 ∧ upd H18 x (.ins C dx (putF "known_ends" (.ref l8) (putF "commutes" (.ref l7) (putF "moving" (.ref l6) (putF "_commuting" (.ref l5) (putF "_fixed" (.ref l4) (putF "_order" (.ref l3) (putF "_letters" (.ref l2) (putF "_facts" (.ref l1) []))))))))) = H19 := ⟨_, fun b o z e => by rw [upd_ne z]; exact e, upd_same, bt_upd (by simp), rfl⟩
    rw [e19]
    have lm : (g.letters.map (·.1)).length ≤ 20 := by
      have h : (g.letters.map (·.1)).length ≤ nm8.length := List.Nodup.length_le_of_subset wf.nd fun x hx => by
        obtain ⟨q, hq, rfl⟩ := List.mem_map.mp hx
        exact wf.nm q hq
      have : nm8.length = 8 := rfl
      omega
    have lm2 := List.length_filter_le (fun x => !decide (x ∈ g.fixed)) (g.letters.map (·.1))
    refine ⟨_, rfl, x, C, dx, _, _, rfl, h19, cl, n3, (by rw [lookup_putF, if_neg (by decide +kernel), lookup_putF, if_neg (by decide +kernel), lookup_putF, if_neg (by decide +kernel), lookup_putF, if_neg (by decide +kernel), lookup_putF, if_neg (by decide +kernel), lookup_putF, if_pos rfl] : (putF "known_ends" (.ref l8) (putF "commutes" (.ref l7) (putF "moving" (.ref l6) (putF "_commuting" (.ref l5) (putF "_fixed" (.ref l4) (putF "_order" (.ref l3) (putF "_letters" (.ref l2) (putF "_facts" (.ref l1) [])))))))).lookup ("_order" : Str) = some (.ref l3)), _, rfl, x, C, dx, _, _, rfl, h19, cl, n6, (by rw [lookup_putF, if_neg (by decide +kernel), lookup_putF, if_neg (by decide +kernel), lookup_putF, if_pos rfl] : (putF "known_ends" (.ref l8) (putF "commutes" (.ref l7) (putF "moving" (.ref l6) (putF "_commuting" (.ref l5) (putF "_fixed" (.ref l4) (putF "_order" (.ref l3) (putF "_letters" (.ref l2) (putF "_facts" (.ref l1) [])))))))).lookup ("moving" : Str) = some (.ref l6)), l6, _, rfl, .inl (b19 _ _ x6 (s18 _ _ hl6c)), fun lv nlv => ?_⟩
    rw [true_keys]
    obtain ⟨H20, s20, h20, e20⟩ := lay (o := .lst (sts ((g.letters.map (·.1)).filter fun x => !decide (x ∈ g.fixed)))) nlv
    rw [e20]
    refine ⟨l3, lv, _, _, rfl, s20 _ _ (b19 _ _ x3 (s18 _ _ hl3c)), h20, lm, by omega, fun lp ts H21 nlp s21 hlp rlp => ?_⟩
    have lrow := allPerms_len lm (show ((g.letters.map (·.1)).filter fun x => !decide (x ∈ g.fixed)).length ≤ 20 by omega)
    generalize hrows : allPerms (g.letters.map (·.1)) ((g.letters.map (·.1)).filter fun x => !decide (x ∈ g.fixed)) = rows at rlp lrow
    refine ⟨lp, ts.map V.ref, true, [], rfl, SqL.of (hid_to (by simp) hlp), fun J WJ l9 nl9 => ?_⟩
    refine DictT.dc_it WJ (fun i H' => Same H21 H' ∧ H' l9 = some (.dT (plK rows i))) ⟨same_new nl9, upd_same⟩ (fun i H' _ s => SqL.of (hid_to (by simp) (s.1 _ _ hlp))) ?_ ?_
    · rintro i y H1' H2' hi ⟨sc, hD⟩ ⟨Tp, y1, y2, rfl, nT, rfl, e1, e2⟩
      obtain rfl := Option.some.inj e1
      have e2 : (ts.map V.ref)[i]? = some y2 := e2
      rw [List.getElem?_map] at e2
      obtain ⟨t, htt, rfl⟩ := Option.map_eq_some_iff.mp e2
      have hir : i < rows.length := by rw [rlp.len]; exact (List.getElem?_eq_some_iff.mp htt).1
      obtain ⟨t', ht', hrt⟩ := paired_at' rlp (List.getElem?_eq_getElem hir)
      obtain rfl : t' = t := by rw [htt] at ht'; exact (Option.some.inj ht').symm
      obtain ⟨H3', s3', h3', e3'⟩ := lay (o := .tup [.int (i : Nat), .ref t']) nT
      rw [e3']
      have hrt : H21 t' = some (.tup (sts rows[i])) := hrt
      have hk : H3' t' = some (.tup (((rows[i].map Sum.inr : List Key)).map kV)) := by rw [← sts_kV]; exact s3' _ _ (sc _ _ hrt)
      have hl := plK_len rows i
      have eg : rows.getD i [] = rows[i] := by rw [List.getD_eq_getElem?_getD, List.getElem?_eq_getElem hir]; rfl
      refine ⟨Tp, _, rfl, SqT.of h3', rfl, _, _, rfl, _, _, rfl, rfl, ?_⟩
      refine ⟨rfl, ?_⟩
      refine ⟨_, rfl, _, rfl, _, DPut.t (s3' _ _ hD) hk (by rw [sizeLine_eq]; omega), fun b o e => ?_, ?_⟩
      · rw [upd_ne (ne_of_none e nl9)]; exact s3' _ _ (sc _ _ e)
      · rw [upd_same, plK, eg]
    rintro H22 ⟨s22, hl9⟩
    refine ⟨_, rfl, x, C, dx, _, rfl, s22 _ _ (s21 _ _ (s20 _ _ h19)), cl, n9, by show 8 < 1000; decide, ?_⟩
    obtain ⟨H23, b23, h23, B23, e23⟩ : ∃ H23, (∀ b o, b ≠ x → H22 b = some o → H23 b = some o) ∧ H23 x = some (.ins C dx (putF "places" (.ref l9) (putF "known_ends" (.ref l8) (putF "commutes" (.ref l7) (putF "moving" (.ref l6) (putF "_commuting" (.ref l5) (putF "_fixed" (.ref l4) (putF "_order" (.ref l3) (putF "_letters" (.ref l2) (putF "_facts" (.ref l1) [])))))))))) ∧ Bt [x] H22 H23 ∧ upd H22 x (.ins C dx (putF "places" (.ref l9) (putF "known_ends" (.ref l8) (putF "commutes" (.ref l7) (putF "moving" (.ref l6) (putF "_commuting" (.ref l5) (putF "_fixed" (.ref l4) (putF "_order" (.ref l3) (putF "_letters" (.ref l2) (putF "_facts" (.ref l1) [])))))))))) = H23 := ⟨_, fun b o z e => by rw [upd_ne z]; exact e, upd_same, bt_upd (by simp), rfl⟩
    rw [e23]
    have B1723 : Bt [x] H17 H23 := (bt_of s18).trans (B19.trans ((bt_of ((s20.trans s21).trans s22)).trans B23))
    have h17l := bt_at ((B913.trans ((bt_of s14).trans (B15.trans ((bt_of s16).trans B17)))).trans B1723) (ni1 x2) h9l
    refine q H23 ((bt_of S4).trans (B417.trans B1723)) ⟨dx, _, l2, h23, ?_, h17l, ?_⟩
    · exact (by rw [lookup_putF, if_neg (by decide +kernel), lookup_putF, if_neg (by decide +kernel), lookup_putF, if_neg (by decide +kernel), lookup_putF, if_neg (by decide +kernel), lookup_putF, if_neg (by decide +kernel), lookup_putF, if_neg (by decide +kernel), lookup_putF, if_neg (by decide +kernel), lookup_putF, if_pos rfl] : (putF "places" (.ref l9) (putF "known_ends" (.ref l8) (putF "commutes" (.ref l7) (putF "moving" (.ref l6) (putF "_commuting" (.ref l5) (putF "_fixed" (.ref l4) (putF "_order" (.ref l3) (putF "_letters" (.ref l2) (putF "_facts" (.ref l1) []))))))))).lookup ("_letters" : Str) = some (.ref l2))
    · exact (by rw [lookup_putF, if_neg (by decide +kernel), lookup_putF, if_neg (by decide +kernel), lookup_putF, if_neg (by decide +kernel), lookup_putF, if_neg (by decide +kernel), lookup_putF, if_neg (by decide +kernel), lookup_putF, if_neg (by decide +kernel), lookup_putF, if_neg (by decide +kernel), lookup_putF, if_neg (by decide +kernel), lookup_putF, if_neg (by decide +kernel)]; rfl : (putF "places" (.ref l9) (putF "known_ends" (.ref l8) (putF "commutes" (.ref l7) (putF "moving" (.ref l6) (putF "_commuting" (.ref l5) (putF "_fixed" (.ref l4) (putF "_order" (.ref l3) (putF "_letters" (.ref l2) (putF "_facts" (.ref l1) []))))))))).lookup ("parts_of" : Str) = none)
theorem ok_made {f fI : Addr} {fd fdI : FuncData} (F : Fun K "_law_made" "_law_made" sMade f fd) (MK : Mk K C fI) (FI : FnOk P w K mg base CX0 5 fI fdI ["self", "letters", "fixed", "commuting", "facts"] (spGI C)) (bI : Binds K fdI ["self", "letters", "fixed", "commuting", "facts"] []) (gC : mg "Ground" = some (.ref C)) :
    FnOk P w K mg base CX0 7 f fd ["_law_g"] (spMade C) := by
  refine F.ok scMade (fun vs H Q E h => ?_) (fun cdv A outer s H vs Q E hr h => ?_)
  · obtain ⟨g, gd, rfl, _⟩ := h
    rfl
  · obtain ⟨g, gd, rfl, hG, wf, q⟩ := h
    refine ⟨_, pss_one (ps_ret (pe_make MK FI hr rfl gC bI .nil pass0 (pa_cons (pe_dget (hu_of hr) (pv 0) (pe_str) (fun _ _ => rfl)) (pa_cons (pe_dget (hu_of hr) (pv 0) (pe_str) (fun _ _ => rfl)) (pa_cons (pe_dget (hu_of hr) (pv 0) (pe_str) (fun _ _ => rfl)) (pa_cons (pe_dget (hu_of hr) (pv 0) (pe_str) (fun _ _ => rfl)) (pa_nil))))))), ?_⟩
    obtain ⟨aL, aF, aC, aT, g1, g2, g3, g4, g5⟩ := hG.ex
    have v1 : valV [(.inr "letters", .ref aL), (.inr "fixed", .ref aF), (.inr "commuting", .ref aC), (.inr "facts", .ref aT)] (.inr "letters" : Key) = some (.ref aL) := by rfl
    have v2 : valV [(.inr "letters", .ref aL), (.inr "fixed", .ref aF), (.inr "commuting", .ref aC), (.inr "facts", .ref aT)] (.inr "fixed" : Key) = some (.ref aF) := by rfl
    have v3 : valV [(.inr "letters", .ref aL), (.inr "fixed", .ref aF), (.inr "commuting", .ref aC), (.inr "facts", .ref aT)] (.inr "commuting" : Key) = some (.ref aC) := by rfl
    have v4 : valV [(.inr "letters", .ref aL), (.inr "fixed", .ref aF), (.inr "commuting", .ref aC), (.inr "facts", .ref aT)] (.inr "facts" : Key) = some (.ref aT) := by rfl
    refine ⟨_, rfl, g, .ref aL, rfl, (by rw [← v1]; exact DGet.k (k := .inr "letters") g1), _, rfl, g, .ref aF, rfl, (by rw [← v2]; exact DGet.k (k := .inr "fixed") g1), _, rfl, g, .ref aC, rfl, (by rw [← v3]; exact DGet.k (k := .inr "commuting") g1), _, rfl, g, .ref aT, rfl, (by rw [← v4]; exact DGet.k (k := .inr "facts") g1), fun x dx nx ndx nex => ?_⟩
    have s0 : Same H (upd (upd H dx (.own x)) x (.ins C dx [])) := fun b o e => by
      rw [upd_ne (ne_of_none e nx), upd_ne (ne_of_none e ndx)]
      exact e
    have sx : Same H (hid [x] (upd (upd H dx (.own x)) x (.ins C dx []))) := same_hid_new nx s0
    refine ⟨x, dx, aL, aF, aC, aT, gd, rfl, upd_same, s0 _ _ g2, s0 _ _ g3, s0 _ _ g4, g5.mono sx, wf, fun H' B' gr => ⟨rfl, q x H' nx ((sx.trans B').trans (hid_low _ _)) gr⟩⟩
end
end K4
set_option Elab.async false
set_option linter.all false
set_option autoImplicit false
set_option maxRecDepth 100000
set_option maxHeartbeats 16000000
namespace GB
open PySem PySem.Spec L2
section
variable {K : PySem.W.Frag} {H H' : Hp} {ps : List Addr}
def Lives (ps : List Addr) (H : Hp) : Prop := ∀ q ∈ ps, ∃ xs, H q = some (.lst xs)
theorem lives {H H' : Hp} {ps : List Addr} (s : Same H H') (h : Lives ps H) : Lives ps H' := fun q hq => let ⟨xs, e⟩ := h q hq; ⟨xs, s _ _ e⟩
theorem Lives.ni {a : Addr} (h : Lives ps H) (n : H a = none) : a ∉ ps := fun m => by
  obtain ⟨xs, e⟩ := h a m
  rw [n] at e
  cases e
theorem layT {a : Addr} {xs : List V} {ds : List AD} (hp : Lives ps H) (na : H a = none) (h : AdAll K (hid ps H) xs ds) : ∃ H', Same H H' ∧ AdAt K (hid ps H') (.ref a) (.seq true ds) ∧ H' a = some (.tup xs) ∧ upd H a (.tup xs) = H' := by
  obtain ⟨H1, s1, h1, e1⟩ := lay (o := .tup xs) na
  exact ⟨H1, s1, .tup (SqT.of (hid_to (hp.ni na) h1)) (h.mono (hid_same s1)), h1, e1⟩
theorem layL {a : Addr} {xs : List V} {ds : List AD} (hp : Lives ps H) (na : H a = none) (h : AdAll K (hid ps H) xs ds) : ∃ H', Same H H' ∧ AdAt K (hid ps H') (.ref a) (.seq false ds) ∧ H' a = some (.lst xs) ∧ upd H a (.lst xs) = H' := by
  obtain ⟨H1, s1, h1, e1⟩ := lay (o := .lst xs) na
  exact ⟨H1, s1, .lst (SqL.of (hid_to (hp.ni na) h1)) (h.mono (hid_same s1)), h1, e1⟩
theorem layD {a : Addr} (hp : Lives ps H) (na : H a = none) : ∃ H', Same H H' ∧ AdAt K (hid ps H') (.ref a) .dic ∧ upd H a (.dK []) = H' := by
  obtain ⟨H1, s1, h1, e1⟩ := lay (o := .dK []) na
  exact ⟨H1, s1, .dic (hid_to (hp.ni na) h1), e1⟩
mutual
theorem adOf_own : ∀ d : PyData, tupO d = true → (adOf d).noDic = true ∧ (adOf d).py = d
  | .tuple ds, h => by
    have := adsOf_own ds h
    exact ⟨this.1, by rw [adOf, AD.py, this.2]⟩
  | .str s, _ => ⟨rfl, rfl⟩
  | .int i, _ => ⟨rfl, rfl⟩
  | .none, h => by cases h
  | .bool _, h => by cases h
  | .list _, h => by cases h
theorem adsOf_own : ∀ ds : List PyData, tupOs ds = true → AD.noDics (adsOf ds) = true ∧ AD.pys (adsOf ds) = ds
  | [], _ => ⟨rfl, rfl⟩
  | d :: r, h => by
    rw [tupOs] at h
    obtain ⟨h1, h2⟩ := Bool.and_eq_true_iff.mp h
    have a := adOf_own d h1
    have b := adsOf_own r h2
    exact ⟨by rw [adsOf, AD.noDics, a.1, b.1]; rfl, by rw [adsOf, AD.pys, a.2, b.2]⟩
end
theorem tupOs_tm (ks : List Tm) : tupOs (ks.map Tm.d) = true := by rw [← ds_map]; exact tupO_ds ks
theorem own_dps {K : PySem.W.Frag} {H : Hp} (ks : List Tm) {us : List V} (h : AdAll K H us ((ks.map Tm.d).map adOf)) : DpAll K H us (ks.map Tm.d) := by
  have o := adsOf_own _ (tupOs_tm ks)
  rw [← adsOf_map] at h
  have := AdAll.dp o.1 h
  rw [o.2] at this
  exact this
theorem AdAll.mem {K : PySem.W.Frag} {H : Hp} {v : V} : ∀ {vs : List V} {ds : List AD}, AdAll K H vs ds → v ∈ vs → ∃ d ∈ ds, AdAt K H v d
  | _, _, .cons a b, h => by
    rcases List.mem_cons.mp h with rfl | h
    · exact ⟨_, List.mem_cons_self, a⟩
    · obtain ⟨d, hd, r⟩ := b.mem h
      exact ⟨d, List.mem_cons_of_mem _ hd, r⟩
theorem AdAll.set {K : PySem.W.Frag} {H : Hp} {v : V} {d : AD} : ∀ {vs : List V} {ds : List AD} {i : Nat}, AdAll K H vs ds → AdAt K H v d → AdAll K H (vs.set i v) (ds.set i d)
  | _, _, _, .nil, _ => .nil
  | _, _, 0, .cons _ h, hx => .cons hx h
  | _, _, i + 1, .cons h1 h, hx => .cons h1 (h.set hx)
theorem ixN_nat {n i : Nat} (h : i < n) : ixN n (i : Int) = some i := by
  unfold ixN
  simp [h]
theorem szs_set : ∀ (l : List AD) (i : Nat) (d c : AD), l[i]? = some c → AD.szs (l.set i d) + c.sz = AD.szs l + d.sz
  | x :: r, 0, d, c, h => by
    obtain rfl := Option.some.inj h
    rw [List.set_cons_zero, AD.szs, AD.szs]
    omega
  | x :: r, i + 1, d, c, h => by
    have := szs_set r i d c h
    rw [List.set_cons_succ, AD.szs, AD.szs]
    omega
theorem own_use (n : Str) (ks : List Tm) : adOf (Tm.mk "use" n ks).d = .seq true [.str "use", .str n, .seq true ((ks.map Tm.d).map adOf)] := by
  rw [Tm.d, if_pos rfl, ds_map]
  simp only [adOf, adsOf, adsOf_map]
theorem own_bind (n : Str) (ks : List Tm) : adOf (Tm.mk "bind" n ks).d = .seq true (.str "bind" :: .str n :: (ks.map Tm.d).map adOf) := by
  rw [Tm.d, if_neg (by decide), if_pos rfl, ds_map]
  simp only [adOf, adsOf, adsOf_map]
theorem own_op {w : Str} {m : Nat} (h : (w, m) ∈ opsW) (n : Str) (ks : List Tm) : adOf (Tm.mk w n ks).d = .seq true (.str w :: (ks.map Tm.d).map adOf) := by
  have := ops_no _ h
  rw [Tm.d, if_neg this.2.1, if_neg this.2.2, if_pos (List.mem_map.mpr ⟨_, h, rfl⟩), ds_map]
  simp only [adOf, adsOf, adsOf_map]
theorem slTo {K : PySem.W.Frag} {H : Hp} {Q : VK} {p : Addr} {xs : List V} (h : SqA K H p xs) (k : Nat) (hk : k ≤ xs.length) (q : ∀ b H', Same H H' → SqA K H' b (xs.take k) → Q (.ref b) H') : rSlAny K (.ref p) none (some (k : Int)) H Q := by
  rcases h with h | h
  · refine .inl ⟨p, xs, rfl, h, fun a na => ?_⟩
    obtain ⟨H1, s1, h1, e1⟩ := lay (o := .lst (cutV xs none (some (k : Int)))) na
    rw [e1]
    exact q a H1 s1 (by rw [← cut_to _ _ hk]; exact .inl (SqL.of h1))
  · refine .inr ⟨p, xs, rfl, h, fun hw => ?_, fun _ a na => ?_⟩
    · have h0 := hw.2
      rw [HT.sIx_nat] at h0
      have e : xs.take k = xs := List.take_of_length_le (by omega)
      exact q p H (Same.refl _) (by rw [e]; exact .inr h)
    · obtain ⟨H1, s1, h1, e1⟩ := lay (o := .tup (cutV xs none (some (k : Int)))) na
      rw [e1]
      exact q a H1 s1 (by rw [← cut_to _ _ hk]; exact .inr (SqT.of h1))
theorem same_hid_cons {a : Addr} (n : H a = none) (s : Same H H') : Same (hid ps H) (hid (a :: ps) H') := fun b o e => by
  obtain ⟨e1, m⟩ := hid_in e
  refine hid_to (fun c => ?_) (s _ _ e1)
  rcases List.mem_cons.mp c with rfl | c
  · rw [n] at e1; cases e1
  · exact m c
/-- a ground whose dict of letters stands at aL -/
structure IsGa (H : Hp) (g aL : Addr) (d : GD) : Prop where
  ex : ∃ aF aC aT : Addr, H g = some (.dK [(.inr "letters", .ref aL), (.inr "fixed", .ref aF), (.inr "commuting", .ref aC), (.inr "facts", .ref aT)]) ∧ H aL = some (.dK (lkv d.letters)) ∧ H aF = some (.lst (sts d.fixed)) ∧ H aC = some (.lst (sts d.comm)) ∧ FactsAt H aT d.facts
theorem IsG.at_ {g : Addr} {d : GD} (h : IsG H g d) : ∃ aL, IsGa H g aL d := let ⟨aL, aF, aC, aT, r⟩ := h.ex; ⟨aL, aF, aC, aT, r⟩
theorem IsGa.is {g aL : Addr} {d : GD} (h : IsGa H g aL d) : IsG H g d := let ⟨aF, aC, aT, r⟩ := h.ex; ⟨aL, aF, aC, aT, r⟩
theorem IsGa.mono {g aL : Addr} {d : GD} (s : Same H H') (h : IsGa H g aL d) : IsGa H' g aL d := let ⟨aF, aC, aT, h1, h2, h3, h4, h5⟩ := h.ex; ⟨aF, aC, aT, s _ _ h1, s _ _ h2, s _ _ h3, s _ _ h4, h5.mono s⟩
theorem gLet {g aL : Addr} {d : GD} (_ : Lives ps H) (h : IsGa (hid ps H) g aL d) : DGet H g (.str "letters") (some (.ref aL)) := by
  obtain ⟨aF, aC, aT, h1, _⟩ := h.ex
  have v1 : valV [(.inr "letters", .ref aL), (.inr "fixed", .ref aF), (.inr "commuting", .ref aC), (.inr "facts", .ref aT)] (.inr "letters" : Key) = some (.ref aL) := by rfl
  rw [← v1]
  exact DGet.k (k := .inr "letters") ((hid_low _ _) _ _ h1)
theorem gLet2 {g aL : Addr} {d : GD} (h : IsGa (hid ps H) g aL d) : H aL = some (.dK (lkv d.letters)) := let ⟨_, _, _, _, h2, _⟩ := h.ex; (hid_low _ _) _ _ h2
end
end GB
namespace K4
open PySem PySem.Spec L2 GB
abbrev sSp : Stmt := topS 45
def spN : List Str := ["_law_pool_here", "_law_g", "_law_term_here", "_law_inner_here", "_law_odd", "_law_at"]
def spSp (K : PySem.W.Frag) (z : Nat) : Sp := fun vs H Q _ => ∃ (p g : Addr) (x : V) (gd : GD) (t : GB.Tm) (ns : List Str) (n : Nat) (ps : List Addr), vs = [.ref p, .ref g, x] ∧ p ∈ ps ∧ Lives ps H ∧ IsG (hid ps H) g gd ∧ gd.Wf ∧ Dp K H x t.d ∧ TmOk gd.letters ns t ∧ (∀ m ∈ ns, m ∈ bnd) ∧ t.size ≤ z ∧ z ≤ 20 ∧ n + 3 * z ≤ 900000 ∧ PoolIs H p n ∧
  ∀ y d H', Bt [p] H H' → AdAt K (hid ps H') y d → SpRes gd.letters ns t.size d → d.sz ≤ (adOf t.d).sz + 12 → PoolIs H' p (n + 3 * z) → Q y H'
section
variable {P : Program} {w : World} {K : PySem.W.Frag} {mg : Str → Option Value} {base : Heap}
theorem scSp : FnScope spN ["_law_pool_here", "_law_g", "_law_term_here"] (defScope sSp) := ⟨rfl, rfl, rfl, by decide +kernel, rfl, by decide +kernel, by decide +kernel⟩
theorem ok_sp {f : Addr} {fd : FuncData} (F : Fun K "_law_spoilt" "_law_spoilt" sSp f fd) (T : Bl mg) (mgF : mg "_law_spoilt" = some (.ref f)) (kF : PySem.W.keepIn K (.ref f) = true) (bF : Binds K fd ["_law_pool_here", "_law_g", "_law_term_here"] [])
    (INN : Fns P w K mg base "_law_inner" 2 ["_law_g", "_law_thing"] (spInn K)) (TK : Fns P w K mg base "_law_take" 1 ["_law_pool_here", "_law_many_here"] spTake) (ON : Fns P w K mg base "_law_one" 2 ["_law_pool_here", "_law_things"] (spOne K)) :
    ∀ z : Nat, FnOk P w K mg base CX0 (3 + z) f fd ["_law_pool_here", "_law_g", "_law_term_here"] (spSp K z) := by
  intro z
  induction z with
  | zero =>
    refine F.ok scSp (fun vs H Q E h => ?_) (fun cdv A outer s H vs Q E hr h => ?_)
    · obtain ⟨p, g, x, gd, t, ns, n, ps, rfl, _⟩ := h
      rfl
    · obtain ⟨p, g, x, gd, t, ns, n, ps, rfl, _, _, _, _, _, _, _, hz, _⟩ := h
      exact absurd hz (by have := size_pos t; omega)
  | succ z ih =>
    have SP : Fns P w K mg base "_law_spoilt" (3 + z) ["_law_pool_here", "_law_g", "_law_term_here"] (spSp K z) := ⟨f, fd, ih, mgF, kF, bF⟩
    refine F.ok scSp (fun vs H Q E h => ?_) (fun cdv A outer s0 H vs Q E hr h => ?_)
    · obtain ⟨p, g, x, gd, t, ns, n, ps, rfl, _⟩ := h
      rfl
    · obtain ⟨p, g, x, gd, t, ns, n, ps, rfl, hpp, hps, hG, wf, hx, hO, hns, hz, hz20, hn, P, k⟩ := h
      have l1 : 1 ≤ 3 + z := by omega
      have l2 : 2 ≤ 3 + z := by omega
      have lz : 3 + z ≤ 3 + z := by omega
      obtain ⟨⟨l0, k0⟩, lrest, hl0⟩ : ∃ q r, gd.letters = q :: r := by
        cases e : gd.letters with
        | nil => exact absurd e wf.ne
        | cons q r => exact ⟨q, r, rfl⟩
      have first0 : ((lkv gd.letters).map fun kv => kV kv.1)[0]? = some (.str l0) := by rw [hl0]; rfl
      refine ⟨_, pss_cons (ps_set (i := 3) scSp.nd rfl (.inl rfl) (pe_fn INN hr l2 rfl (pa_cons (pv 1) (pa_cons (pv 2) (pa_nil))))) (pss_cons (ps_set (i := 4) scSp.nd rfl (.inl rfl) (pe_lst (pa_cons (pe_non) (pa_cons (pe_int) (pa_cons (pe_str) (pa_cons (pe_tup (pa_nil)) (pa_cons (pe_tup (pa_cons (pe_str) (pa_nil))) (pa_cons (pe_tup (pa_cons (pe_str) (pa_cons (pe_str) (pa_nil)))) (pa_cons (pe_tup (pa_cons (pe_str) (pa_cons (pe_str) (pa_nil)))) (pa_cons (pe_tup (pa_cons (pe_str) (pa_cons (pe_str) (pa_cons (pe_tup (pa_nil)) (pa_nil))))) (pa_cons (pe_tup (pa_cons (pe_str) (pa_nil))) (pa_cons (pe_dnewK) (pa_cons (pe_bl) (pa_nil)))))))))))))) (pss_cons (ps_expr (pe_bm PySem.F.plainAttrs_list PySem.F.slot_list_append PySem.F.type_list_append mt_append (pv 4) (pa_cons (pe_tup (pa_cons (pe_str) (pa_cons (pe_str) (pa_nil)))) (pa_nil)))) (pss_cons (ps_set (i := 4) scSp.nd rfl (.inl rfl) (pe_op op_cat (pv 4) (pe_lst (pa_cons (pe_tup (pa_cons (pe_str) (pa_cons (pe_ix ix_list (pe_callTy (call_listD rfl) (by rfl) T.list (by decide +kernel) (pa_cons (pe_dget (hu_of hr) (pv 1) (pe_str) (fun _ _ => rfl)) (pa_nil))) (pe_int) (fun _ _ => rfl)) (pa_nil)))) (pa_cons (pe_tup (pa_cons (pe_str) (pa_cons (pe_non) (pa_nil)))) (pa_cons (pe_tup (pa_cons (pe_str) (pa_nil))) (pa_cons (pe_tup (pa_cons (pe_str) (pa_cons (pe_tup (pa_cons (pe_str) (pa_cons (pe_str) (pa_nil)))) (pa_cons (pe_tup (pa_cons (pe_str) (pa_cons (pe_str) (pa_nil)))) (pa_nil))))) (pa_nil)))))))) (pss_cons (ps_set (i := 4) scSp.nd rfl (.inl rfl) (pe_op op_cat (pv 4) (pe_lst (pa_cons (pe_tup (pa_cons (pe_lst (pa_cons (pe_str) (pa_nil))) (pa_cons (pe_str) (pa_nil)))) (pa_cons (pe_tup (pa_cons (pe_str) (pa_cons (pe_str) (pa_cons (pe_tup (pa_cons (pe_str) (pa_cons (pe_str) (pa_nil)))) (pa_cons (pe_tup (pa_cons (pe_str) (pa_cons (pe_str) (pa_nil)))) (pa_nil)))))) (pa_cons (pe_tup (pa_cons (pe_str) (pa_cons (pe_str) (pa_cons (pe_int) (pa_nil))))) (pa_cons (pe_str) (pa_nil)))))))) (pss_cons (ps_set (i := 4) scSp.nd rfl (.inl rfl) (pe_op op_cat (pv 4) (pe_lst (pa_cons (pe_tup (pa_cons (pe_str) (pa_cons (pe_lst (pa_cons (pe_str) (pa_nil))) (pa_cons (pe_tup (pa_nil)) (pa_nil))))) (pa_cons (pe_tup (pa_cons (pe_str) (pa_cons (pe_ix ix_list (pe_callTy (call_listD rfl) (by rfl) T.list (by decide +kernel) (pa_cons (pe_dget (hu_of hr) (pv 1) (pe_str) (fun _ _ => rfl)) (pa_nil))) (pe_int) (fun _ _ => rfl)) (pa_cons (pe_non) (pa_nil))))) (pa_cons (pe_tup (pa_cons (pe_str) (pa_cons (pe_tup (pa_cons (pe_str) (pa_cons (pe_str) (pa_nil)))) (pa_nil)))) (pa_cons (pe_tup (pa_cons (pe_str) (pa_cons (pe_lst (pa_cons (pe_str) (pa_nil))) (pa_nil)))) (pa_nil)))))))) (pss_cons (ps_if (PW.pt (pw_or (pt_cmpR (op_eqD hr.units) (pv 3) (pe_lst pa_nil) (nomark _)) (pw_or1 (pt_cmpR op_eq (pe_fn TK hr l1 rfl (pa_cons (pv 0) (pa_cons (pe_int) (pa_nil)))) (pe_int) (nomark _))))) (pss_one (ps_ret (pe_fn ON hr l2 rfl (pa_cons (pv 0) (pa_cons (pv 4) (pa_nil)))))) (pss_nil)) (pss_cons (ps_set (i := 5) scSp.nd rfl (.inl rfl) (pe_fn TK hr l1 rfl (pa_cons (pv 0) (pa_cons (pe_callB call_len_seq (by rfl) T.len PySem.boot_len (pa_cons (pv 3) (pa_nil))) (pa_nil))))) (pss_cons (ps_asg (pe_fn SP hr lz rfl (pa_cons (pv 0) (pa_cons (pv 1) (pa_cons (pe_ix ix_list (pv 3) (pv 5) (fun _ _ => rfl)) (pa_nil))))) (pg_sub (pv 3) (pv 5) set_list)) (pss_cons (ps_if (pt_cmpR op_eq (pe_ix ix_seq (pv 2) (pe_int) (fun _ _ => rfl)) (pe_str) (nomark _)) (pss_one (ps_ret (pe_tup (pa_cons (pe_str) (pa_cons (pe_ix ix_seq (pv 2) (pe_int) (fun _ _ => rfl)) (pa_cons (pe_callTy (call_tuple_of) (by rfl) T.tuple (by decide +kernel) (pa_cons (pv 3) (pa_nil))) (pa_nil))))))) (pss_nil)) (pss_one (ps_ret (pe_callTy (call_tuple_of) (by rfl) T.tuple (by decide +kernel) (pa_cons (pe_op op_cat (pe_callTy (call_list_of) (by rfl) T.list (by decide +kernel) (pa_cons (pe_slice sl_any (pv 2) po_none (po_some (pe_op op_sub (pe_callB call_len_seq (by rfl) T.len PySem.boot_len (pa_cons (pv 2) (pa_nil))) (pe_callB call_len_seq (by rfl) T.len PySem.boot_len (pa_cons (pv 3) (pa_nil)))))) (pa_nil))) (pv 3)) (pa_nil)))))))))))))), ?_⟩
      obtain ⟨aL, hG⟩ := hG.at_
      have hO0 := hO
      cases hO with
      | @mk _ wd nm ks hH hK =>
      refine ⟨_, rfl, _, rfl, g, x, gd, _, rfl, hG.is.mono (hid_low _ _), wf, adOf_at hx, .inr ⟨wd, nm, _, ns, nodA_own hH, by rw [List.length_map, List.length_map]; exact hH, fun q us H1 nq s hq hus => ?_⟩⟩
      have nqH := nq
      have P0 := P
      have S := s
      have hD : DpAll K H1 us (ks.map GB.Tm.d) := own_dps ks hus
      have hx := dp_mono s hx
      have P := P.mono s (Nat.le_refl _)
      have hG := hG.mono (same_hid_cons nq s)
      have hps : Lives (q :: ps) H1 := fun c hc => by
        rcases List.mem_cons.mp hc with rfl | hc
        · exact ⟨_, hq⟩
        · exact lives s hps c hc
      generalize eps1 : q :: ps = ps1 at hps hG
      refine ⟨by show 0 ≤ sizeLine; decide, fun a1 na1 => ?_⟩
      obtain ⟨Hn, s, i1, _, eq⟩ := layT (K := K) (xs := []) (ds := []) hps na1 (.nil)
      rw [eq]
      clear eq
      have P := P.mono s (Nat.le_refl _)
      have hG := hG.mono (hid_same s)
      have hq := s _ _ hq
      have S := S.trans s
      have hD := dps_mono s hD
      have hx := dp_mono s hx
      have hps := lives s hps
      refine ⟨by show 1 ≤ sizeLine; decide, fun a2 na2 => ?_⟩
      obtain ⟨Hn, s, i2, _, eq⟩ := layT (K := K) (xs := [.str "value"]) (ds := [.str "value"]) hps na2 (.cons (.str _) (.nil))
      rw [eq]
      clear eq
      have i1 := AdAt.mono (hid_same s) i1
      have P := P.mono s (Nat.le_refl _)
      have hG := hG.mono (hid_same s)
      have hq := s _ _ hq
      have S := S.trans s
      have hD := dps_mono s hD
      have hx := dp_mono s hx
      have hps := lives s hps
      refine ⟨by show 2 ≤ sizeLine; decide, fun a3 na3 => ?_⟩
      obtain ⟨Hn, s, i3, _, eq⟩ := layT (K := K) (xs := [.str "value", .str "A"]) (ds := [.str "value", .str "A"]) hps na3 (.cons (.str _) (.cons (.str _) (.nil)))
      rw [eq]
      clear eq
      have i1 := AdAt.mono (hid_same s) i1
      have i2 := AdAt.mono (hid_same s) i2
      have P := P.mono s (Nat.le_refl _)
      have hG := hG.mono (hid_same s)
      have hq := s _ _ hq
      have S := S.trans s
      have hD := dps_mono s hD
      have hx := dp_mono s hx
      have hps := lives s hps
      refine ⟨by show 2 ≤ sizeLine; decide, fun a4 na4 => ?_⟩
      obtain ⟨Hn, s, i4, _, eq⟩ := layT (K := K) (xs := [.str "name", .str "none"]) (ds := [.str "name", .str "none"]) hps na4 (.cons (.str _) (.cons (.str _) (.nil)))
      rw [eq]
      clear eq
      have i1 := AdAt.mono (hid_same s) i1
      have i2 := AdAt.mono (hid_same s) i2
      have i3 := AdAt.mono (hid_same s) i3
      have P := P.mono s (Nat.le_refl _)
      have hG := hG.mono (hid_same s)
      have hq := s _ _ hq
      have S := S.trans s
      have hD := dps_mono s hD
      have hx := dp_mono s hx
      have hps := lives s hps
      refine ⟨by show 0 ≤ sizeLine; decide, fun a6 na6 => ?_⟩
      obtain ⟨Hn, s, i6, _, eq⟩ := layT (K := K) (xs := []) (ds := []) hps na6 (.nil)
      rw [eq]
      clear eq
      have i1 := AdAt.mono (hid_same s) i1
      have i2 := AdAt.mono (hid_same s) i2
      have i3 := AdAt.mono (hid_same s) i3
      have i4 := AdAt.mono (hid_same s) i4
      have P := P.mono s (Nat.le_refl _)
      have hG := hG.mono (hid_same s)
      have hq := s _ _ hq
      have S := S.trans s
      have hD := dps_mono s hD
      have hx := dp_mono s hx
      have hps := lives s hps
      refine ⟨by show 3 ≤ sizeLine; decide, fun a5 na5 => ?_⟩
      obtain ⟨Hn, s, i5, _, eq⟩ := layT (K := K) (xs := [.str "use", .str "none", .ref a6]) (ds := [.str "use", .str "none", .seq true []]) hps na5 (.cons (.str _) (.cons (.str _) (.cons (i6) (.nil))))
      rw [eq]
      clear eq
      have i1 := AdAt.mono (hid_same s) i1
      have i2 := AdAt.mono (hid_same s) i2
      have i3 := AdAt.mono (hid_same s) i3
      have i4 := AdAt.mono (hid_same s) i4
      have P := P.mono s (Nat.le_refl _)
      have hG := hG.mono (hid_same s)
      have hq := s _ _ hq
      have S := S.trans s
      have hD := dps_mono s hD
      have hx := dp_mono s hx
      have hps := lives s hps
      refine ⟨by show 1 ≤ sizeLine; decide, fun a7 na7 => ?_⟩
      obtain ⟨Hn, s, i7, _, eq⟩ := layT (K := K) (xs := [.str "if"]) (ds := [.str "if"]) hps na7 (.cons (.str _) (.nil))
      rw [eq]
      clear eq
      have i1 := AdAt.mono (hid_same s) i1
      have i2 := AdAt.mono (hid_same s) i2
      have i3 := AdAt.mono (hid_same s) i3
      have i4 := AdAt.mono (hid_same s) i4
      have i5 := AdAt.mono (hid_same s) i5
      have P := P.mono s (Nat.le_refl _)
      have hG := hG.mono (hid_same s)
      have hq := s _ _ hq
      have S := S.trans s
      have hD := dps_mono s hD
      have hx := dp_mono s hx
      have hps := lives s hps
      refine fun a8 na8 => ?_
      obtain ⟨Hn, s, i8, eq⟩ := layD (K := K) hps na8
      rw [eq]
      clear eq
      have i1 := AdAt.mono (hid_same s) i1
      have i2 := AdAt.mono (hid_same s) i2
      have i3 := AdAt.mono (hid_same s) i3
      have i4 := AdAt.mono (hid_same s) i4
      have i5 := AdAt.mono (hid_same s) i5
      have i7 := AdAt.mono (hid_same s) i7
      have P := P.mono s (Nat.le_refl _)
      have hG := hG.mono (hid_same s)
      have hq := s _ _ hq
      have S := S.trans s
      have hD := dps_mono s hD
      have hx := dp_mono s hx
      have hps := lives s hps
      refine ⟨by show 11 ≤ sizeLine; decide, fun L1 nL1 => ?_⟩
      have A : AdAll K (hid ps1 _) [.non, .int 5, .str "x", .ref a1, .ref a2, .ref a3, .ref a4, .ref a5, .ref a7, .ref a8, .bl true] [.non, .int 5, .str "x", .seq true [], .seq true [.str "value"], .seq true [.str "value", .str "A"], .seq true [.str "name", .str "none"], .seq true [.str "use", .str "none", .seq true []], .seq true [.str "if"], .dic, .bl true] := .cons (.non) (.cons (.int _) (.cons (.str _) (.cons (i1) (.cons (i2) (.cons (i3) (.cons (i4) (.cons (i5) (.cons (i7) (.cons (i8) (.cons (.bl _) (.nil)))))))))))
      have nL1H : H L1 = none := S.free nL1
      obtain ⟨Hn, s, hL1, eq⟩ := lay (o := .lst [.non, .int 5, .str "x", .ref a1, .ref a2, .ref a3, .ref a4, .ref a5, .ref a7, .ref a8, .bl true]) nL1
      rw [eq]
      clear eq
      have A := AdAll.mono (same_hid_cons nL1 s) A
      have P := P.mono s (Nat.le_refl _)
      have hG := hG.mono (same_hid_cons nL1 s)
      have qL : q ≠ L1 := ne_of_none hq nL1
      have pL : p ≠ L1 := fun z => by
        obtain ⟨x1, x2, x3, e, _⟩ := P0
        rw [z, nL1H] at e; cases e
      have hq := s _ _ hq
      have S := S.trans s
      have hD := dps_mono s hD
      have hx := dp_mono s hx
      have hps : Lives (L1 :: ps1) Hn := fun c hc => by
        rcases List.mem_cons.mp hc with rfl | hc
        · exact ⟨_, hL1⟩
        · exact lives s hps c hc
      have pp2 : p ∈ L1 :: ps1 := by rw [← eps1]; exact List.mem_cons_of_mem _ (List.mem_cons_of_mem _ hpp)
      have qq2 : q ∈ L1 :: ps1 := by rw [← eps1]; simp
      have LL2 : L1 ∈ L1 :: ps1 := by simp
      have ss2 : ∀ c ∈ ps, c ∈ L1 :: ps1 := fun c hc => by rw [← eps1]; exact List.mem_cons_of_mem _ (List.mem_cons_of_mem _ hc)
      generalize eps2 : L1 :: ps1 = ps2 at hps hG A pp2 qq2 LL2 ss2
      refine ⟨_, rfl, .inl ⟨rfl, _, SqL.of hL1⟩, ?_⟩
      refine ⟨by show 2 ≤ sizeLine; decide, fun a9 na9 => ?_⟩
      obtain ⟨Hn, s, i9, _, eq⟩ := layT (K := K) (xs := [.str "name", .str "v"]) (ds := [.str "name", .str "v"]) hps na9 (.cons (.str _) (.cons (.str _) (.nil)))
      rw [eq]
      clear eq
      have A := AdAll.mono (hid_same s) A
      have P := P.mono s (Nat.le_refl _)
      have hG := hG.mono (hid_same s)
      have hq := s _ _ hq
      have S := S.trans s
      have hD := dps_mono s hD
      have hx := dp_mono s hx
      have hps := lives s hps
      have hL1 := s _ _ hL1
      refine ⟨L1, _, _, rfl, rfl, hL1, by rw [sizeLine_eq]; simp, ?_⟩
      obtain ⟨Hm, B, bn, hL1b, eq⟩ : ∃ Hm, Bt ps2 Hn Hm ∧ (∀ b o, b ≠ L1 → Hn b = some o → Hm b = some o) ∧ Hm L1 = some (.lst ([.non, .int 5, .str "x", .ref a1, .ref a2, .ref a3, .ref a4, .ref a5, .ref a7, .ref a8, .bl true] ++ [.ref a9])) ∧ upd Hn L1 (.lst ([.non, .int 5, .str "x", .ref a1, .ref a2, .ref a3, .ref a4, .ref a5, .ref a7, .ref a8, .bl true] ++ [.ref a9])) = Hm := ⟨_, bt_upd LL2, fun b o z e => by rw [upd_ne z]; exact e, upd_same, rfl⟩
      rw [eq]
      clear eq
      have hD := dps_mono (hid_low _ _) (dps_mono B (dps_hid hps _ _ (tupOs_tm ks) hD))
      have hx := dp_mono (hid_low _ _) (dp_mono B (dp_hid hps _ _ (tupO_d _) hx))
      have A := (AdAll.mono B A).app (.cons (AdAt.mono B i9) .nil)
      have P : PoolIs Hm p n := let ⟨x1, x2, x3, e, r⟩ := P; ⟨x1, x2, x3, bn _ _ pL e, r⟩
      have hG := hG.mono B
      have hq := bn _ _ qL hq
      have S : Same H Hm := fun b o e => bn b o (ne_of_none e nL1H) (S b o e)
      have hps : Lives ps2 Hm := fun c hc => by
        by_cases z : c = L1
        · subst z; exact ⟨_, hL1b⟩
        · obtain ⟨xs, e⟩ := hps c hc; exact ⟨xs, bn _ _ z e⟩
      clear hL1 B bn
      refine ⟨_, rfl, ?_⟩
      refine ⟨_, rfl, g, .ref aL, rfl, gLet hps hG, aL, _, rfl, .inl (gLet2 hG), fun u11 nu11 => ?_⟩
      obtain ⟨Hn, s, hu11, eq⟩ := lay (o := .lst ((lkv gd.letters).map fun kv => kV kv.1)) nu11
      rw [eq]
      clear eq
      have A := AdAll.mono (hid_same s) A
      have P := P.mono s (Nat.le_refl _)
      have hG := hG.mono (hid_same s)
      have hq := s _ _ hq
      have S := S.trans s
      have hD := dps_mono s hD
      have hx := dp_mono s hx
      have hps := lives s hps
      have hL1b := s _ _ hL1b
      refine ⟨u11, _, 0, .str l0, rfl, rfl, SqL.of hu11, atI_nat (j := 0) first0, ?_⟩
      refine ⟨by show 2 ≤ sizeLine; decide, fun a10 na10 => ?_⟩
      obtain ⟨Hn, s, i10, _, eq⟩ := layT (K := K) (xs := [.str "use", .str l0]) (ds := [.str "use", .str l0]) hps na10 (.cons (.str _) (.cons (.str _) (.nil)))
      rw [eq]
      clear eq
      have A := AdAll.mono (hid_same s) A
      have P := P.mono s (Nat.le_refl _)
      have hG := hG.mono (hid_same s)
      have hq := s _ _ hq
      have S := S.trans s
      have hD := dps_mono s hD
      have hx := dp_mono s hx
      have hps := lives s hps
      have hL1b := s _ _ hL1b
      refine ⟨by show 2 ≤ sizeLine; decide, fun a12 na12 => ?_⟩
      obtain ⟨Hn, s, i12, _, eq⟩ := layT (K := K) (xs := [.str "fail", .non]) (ds := [.str "fail", .non]) hps na12 (.cons (.str _) (.cons (.non) (.nil)))
      rw [eq]
      clear eq
      have A := AdAll.mono (hid_same s) A
      have i10 := AdAt.mono (hid_same s) i10
      have P := P.mono s (Nat.le_refl _)
      have hG := hG.mono (hid_same s)
      have hq := s _ _ hq
      have S := S.trans s
      have hD := dps_mono s hD
      have hx := dp_mono s hx
      have hps := lives s hps
      have hL1b := s _ _ hL1b
      refine ⟨by show 1 ≤ sizeLine; decide, fun a13 na13 => ?_⟩
      obtain ⟨Hn, s, i13, _, eq⟩ := layT (K := K) (xs := [.str "not"]) (ds := [.str "not"]) hps na13 (.cons (.str _) (.nil))
      rw [eq]
      clear eq
      have A := AdAll.mono (hid_same s) A
      have i10 := AdAt.mono (hid_same s) i10
      have i12 := AdAt.mono (hid_same s) i12
      have P := P.mono s (Nat.le_refl _)
      have hG := hG.mono (hid_same s)
      have hq := s _ _ hq
      have S := S.trans s
      have hD := dps_mono s hD
      have hx := dp_mono s hx
      have hps := lives s hps
      have hL1b := s _ _ hL1b
      refine ⟨by show 2 ≤ sizeLine; decide, fun a15 na15 => ?_⟩
      obtain ⟨Hn, s, i15, _, eq⟩ := layT (K := K) (xs := [.str "value", .str "one"]) (ds := [.str "value", .str "one"]) hps na15 (.cons (.str _) (.cons (.str _) (.nil)))
      rw [eq]
      clear eq
      have A := AdAll.mono (hid_same s) A
      have i10 := AdAt.mono (hid_same s) i10
      have i12 := AdAt.mono (hid_same s) i12
      have i13 := AdAt.mono (hid_same s) i13
      have P := P.mono s (Nat.le_refl _)
      have hG := hG.mono (hid_same s)
      have hq := s _ _ hq
      have S := S.trans s
      have hD := dps_mono s hD
      have hx := dp_mono s hx
      have hps := lives s hps
      have hL1b := s _ _ hL1b
      refine ⟨by show 2 ≤ sizeLine; decide, fun a16 na16 => ?_⟩
      obtain ⟨Hn, s, i16, _, eq⟩ := layT (K := K) (xs := [.str "value", .str "one"]) (ds := [.str "value", .str "one"]) hps na16 (.cons (.str _) (.cons (.str _) (.nil)))
      rw [eq]
      clear eq
      have A := AdAll.mono (hid_same s) A
      have i10 := AdAt.mono (hid_same s) i10
      have i12 := AdAt.mono (hid_same s) i12
      have i13 := AdAt.mono (hid_same s) i13
      have i15 := AdAt.mono (hid_same s) i15
      have P := P.mono s (Nat.le_refl _)
      have hG := hG.mono (hid_same s)
      have hq := s _ _ hq
      have S := S.trans s
      have hD := dps_mono s hD
      have hx := dp_mono s hx
      have hps := lives s hps
      have hL1b := s _ _ hL1b
      refine ⟨by show 3 ≤ sizeLine; decide, fun a14 na14 => ?_⟩
      obtain ⟨Hn, s, i14, _, eq⟩ := layT (K := K) (xs := [.str "xor", .ref a15, .ref a16]) (ds := [.str "xor", .seq true [.str "value", .str "one"], .seq true [.str "value", .str "one"]]) hps na14 (.cons (.str _) (.cons (i15) (.cons (i16) (.nil))))
      rw [eq]
      clear eq
      have A := AdAll.mono (hid_same s) A
      have i10 := AdAt.mono (hid_same s) i10
      have i12 := AdAt.mono (hid_same s) i12
      have i13 := AdAt.mono (hid_same s) i13
      have P := P.mono s (Nat.le_refl _)
      have hG := hG.mono (hid_same s)
      have hq := s _ _ hq
      have S := S.trans s
      have hD := dps_mono s hD
      have hx := dp_mono s hx
      have hps := lives s hps
      have hL1b := s _ _ hL1b
      refine ⟨by show 4 ≤ sizeLine; decide, fun L3 nL3 => ?_⟩
      have A3 : AdAll K (hid ps2 _) [.ref a10, .ref a12, .ref a13, .ref a14] [.seq true [.str "use", .str l0], .seq true [.str "fail", .non], .seq true [.str "not"], .seq true [.str "xor", .seq true [.str "value", .str "one"], .seq true [.str "value", .str "one"]]] := .cons (i10) (.cons (i12) (.cons (i13) (.cons (i14) (.nil))))
      obtain ⟨Hn, s, hL3, eq⟩ := lay (o := .lst [.ref a10, .ref a12, .ref a13, .ref a14]) nL3
      rw [eq]
      clear eq
      have A := AdAll.mono (hid_same s) A
      have A3 := AdAll.mono (hid_same s) A3
      have P := P.mono s (Nat.le_refl _)
      have hG := hG.mono (hid_same s)
      have hq := s _ _ hq
      have S := S.trans s
      have hD := dps_mono s hD
      have hx := dp_mono s hx
      have hps := lives s hps
      have hL1b := s _ _ hL1b
      refine ⟨L1, L3, _, _, rfl, rfl, hL1b, hL3, by rw [sizeLine_eq]; simp, fun M0 nM0 => ?_⟩
      have A := A.app A3
      have pMx : M0 ≠ p := P.ne nM0
      obtain ⟨Hn, s, hM0, eq⟩ := lay (o := .lst (([.non, .int 5, .str "x", .ref a1, .ref a2, .ref a3, .ref a4, .ref a5, .ref a7, .ref a8, .bl true] ++ [.ref a9]) ++ [.ref a10, .ref a12, .ref a13, .ref a14])) nM0
      rw [eq]
      clear eq
      have A := AdAll.mono (hid_same s) A
      have P := P.mono s (Nat.le_refl _)
      have hG := hG.mono (hid_same s)
      have hq := s _ _ hq
      have S := S.trans s
      have hD := dps_mono s hD
      have hx := dp_mono s hx
      have hps := lives s hps
      have hL1b := s _ _ hL1b
      have hL3 := s _ _ hL3
      refine ⟨_, rfl, ?_⟩
      refine ⟨by show 1 ≤ sizeLine; decide, fun a18 na18 => ?_⟩
      obtain ⟨Hn, s, i18, _, eq⟩ := layL (K := K) (xs := [.str "value"]) (ds := [.str "value"]) hps na18 (.cons (.str _) (.nil))
      rw [eq]
      clear eq
      have A := AdAll.mono (hid_same s) A
      have P := P.mono s (Nat.le_refl _)
      have hG := hG.mono (hid_same s)
      have hq := s _ _ hq
      have S := S.trans s
      have hD := dps_mono s hD
      have hx := dp_mono s hx
      have hps := lives s hps
      have hM0 := s _ _ hM0
      refine ⟨by show 2 ≤ sizeLine; decide, fun a17 na17 => ?_⟩
      obtain ⟨Hn, s, i17, _, eq⟩ := layT (K := K) (xs := [.ref a18, .str "one"]) (ds := [.seq false [.str "value"], .str "one"]) hps na17 (.cons (i18) (.cons (.str _) (.nil)))
      rw [eq]
      clear eq
      have A := AdAll.mono (hid_same s) A
      have P := P.mono s (Nat.le_refl _)
      have hG := hG.mono (hid_same s)
      have hq := s _ _ hq
      have S := S.trans s
      have hD := dps_mono s hD
      have hx := dp_mono s hx
      have hps := lives s hps
      have hM0 := s _ _ hM0
      refine ⟨by show 2 ≤ sizeLine; decide, fun a20 na20 => ?_⟩
      obtain ⟨Hn, s, i20, _, eq⟩ := layT (K := K) (xs := [.str "value", .str "one"]) (ds := [.str "value", .str "one"]) hps na20 (.cons (.str _) (.cons (.str _) (.nil)))
      rw [eq]
      clear eq
      have A := AdAll.mono (hid_same s) A
      have i17 := AdAt.mono (hid_same s) i17
      have P := P.mono s (Nat.le_refl _)
      have hG := hG.mono (hid_same s)
      have hq := s _ _ hq
      have S := S.trans s
      have hD := dps_mono s hD
      have hx := dp_mono s hx
      have hps := lives s hps
      have hM0 := s _ _ hM0
      refine ⟨by show 2 ≤ sizeLine; decide, fun a21 na21 => ?_⟩
      obtain ⟨Hn, s, i21, _, eq⟩ := layT (K := K) (xs := [.str "value", .str "one"]) (ds := [.str "value", .str "one"]) hps na21 (.cons (.str _) (.cons (.str _) (.nil)))
      rw [eq]
      clear eq
      have A := AdAll.mono (hid_same s) A
      have i17 := AdAt.mono (hid_same s) i17
      have i20 := AdAt.mono (hid_same s) i20
      have P := P.mono s (Nat.le_refl _)
      have hG := hG.mono (hid_same s)
      have hq := s _ _ hq
      have S := S.trans s
      have hD := dps_mono s hD
      have hx := dp_mono s hx
      have hps := lives s hps
      have hM0 := s _ _ hM0
      refine ⟨by show 4 ≤ sizeLine; decide, fun a19 na19 => ?_⟩
      obtain ⟨Hn, s, i19, _, eq⟩ := layT (K := K) (xs := [.str "bind", .str "A", .ref a20, .ref a21]) (ds := [.str "bind", .str "A", .seq true [.str "value", .str "one"], .seq true [.str "value", .str "one"]]) hps na19 (.cons (.str _) (.cons (.str _) (.cons (i20) (.cons (i21) (.nil)))))
      rw [eq]
      clear eq
      have A := AdAll.mono (hid_same s) A
      have i17 := AdAt.mono (hid_same s) i17
      have P := P.mono s (Nat.le_refl _)
      have hG := hG.mono (hid_same s)
      have hq := s _ _ hq
      have S := S.trans s
      have hD := dps_mono s hD
      have hx := dp_mono s hx
      have hps := lives s hps
      have hM0 := s _ _ hM0
      refine ⟨by show 3 ≤ sizeLine; decide, fun a22 na22 => ?_⟩
      obtain ⟨Hn, s, i22, _, eq⟩ := layT (K := K) (xs := [.str "value", .str "one", .int 1]) (ds := [.str "value", .str "one", .int 1]) hps na22 (.cons (.str _) (.cons (.str _) (.cons (.int _) (.nil))))
      rw [eq]
      clear eq
      have A := AdAll.mono (hid_same s) A
      have i17 := AdAt.mono (hid_same s) i17
      have i19 := AdAt.mono (hid_same s) i19
      have P := P.mono s (Nat.le_refl _)
      have hG := hG.mono (hid_same s)
      have hq := s _ _ hq
      have S := S.trans s
      have hD := dps_mono s hD
      have hx := dp_mono s hx
      have hps := lives s hps
      have hM0 := s _ _ hM0
      refine ⟨by show 4 ≤ sizeLine; decide, fun L4 nL4 => ?_⟩
      have A4 : AdAll K (hid ps2 _) [.ref a17, .ref a19, .ref a22, .str "value"] [.seq true [.seq false [.str "value"], .str "one"], .seq true [.str "bind", .str "A", .seq true [.str "value", .str "one"], .seq true [.str "value", .str "one"]], .seq true [.str "value", .str "one", .int 1], .str "value"] := .cons (i17) (.cons (i19) (.cons (i22) (.cons (.str _) (.nil))))
      obtain ⟨Hn, s, hL4, eq⟩ := lay (o := .lst [.ref a17, .ref a19, .ref a22, .str "value"]) nL4
      rw [eq]
      clear eq
      have A := AdAll.mono (hid_same s) A
      have A4 := AdAll.mono (hid_same s) A4
      have P := P.mono s (Nat.le_refl _)
      have hG := hG.mono (hid_same s)
      have hq := s _ _ hq
      have S := S.trans s
      have hD := dps_mono s hD
      have hx := dp_mono s hx
      have hps := lives s hps
      have hM0 := s _ _ hM0
      refine ⟨M0, L4, _, _, rfl, rfl, hM0, hL4, by rw [sizeLine_eq]; simp, fun M1 nM1 => ?_⟩
      have A := A.app A4
      have pMx : M1 ≠ p := P.ne nM1
      obtain ⟨Hn, s, hM1, eq⟩ := lay (o := .lst ((([.non, .int 5, .str "x", .ref a1, .ref a2, .ref a3, .ref a4, .ref a5, .ref a7, .ref a8, .bl true] ++ [.ref a9]) ++ [.ref a10, .ref a12, .ref a13, .ref a14]) ++ [.ref a17, .ref a19, .ref a22, .str "value"])) nM1
      rw [eq]
      clear eq
      have A := AdAll.mono (hid_same s) A
      have P := P.mono s (Nat.le_refl _)
      have hG := hG.mono (hid_same s)
      have hq := s _ _ hq
      have S := S.trans s
      have hD := dps_mono s hD
      have hx := dp_mono s hx
      have hps := lives s hps
      have hM0 := s _ _ hM0
      have hL4 := s _ _ hL4
      refine ⟨_, rfl, ?_⟩
      refine ⟨by show 1 ≤ sizeLine; decide, fun a24 na24 => ?_⟩
      obtain ⟨Hn, s, i24, _, eq⟩ := layL (K := K) (xs := [.str "x"]) (ds := [.str "x"]) hps na24 (.cons (.str _) (.nil))
      rw [eq]
      clear eq
      have A := AdAll.mono (hid_same s) A
      have P := P.mono s (Nat.le_refl _)
      have hG := hG.mono (hid_same s)
      have hq := s _ _ hq
      have S := S.trans s
      have hD := dps_mono s hD
      have hx := dp_mono s hx
      have hps := lives s hps
      have hM1 := s _ _ hM1
      refine ⟨by show 0 ≤ sizeLine; decide, fun a25 na25 => ?_⟩
      obtain ⟨Hn, s, i25, _, eq⟩ := layT (K := K) (xs := []) (ds := []) hps na25 (.nil)
      rw [eq]
      clear eq
      have A := AdAll.mono (hid_same s) A
      have i24 := AdAt.mono (hid_same s) i24
      have P := P.mono s (Nat.le_refl _)
      have hG := hG.mono (hid_same s)
      have hq := s _ _ hq
      have S := S.trans s
      have hD := dps_mono s hD
      have hx := dp_mono s hx
      have hps := lives s hps
      have hM1 := s _ _ hM1
      refine ⟨by show 3 ≤ sizeLine; decide, fun a23 na23 => ?_⟩
      obtain ⟨Hn, s, i23, _, eq⟩ := layT (K := K) (xs := [.str "use", .ref a24, .ref a25]) (ds := [.str "use", .seq false [.str "x"], .seq true []]) hps na23 (.cons (.str _) (.cons (i24) (.cons (i25) (.nil))))
      rw [eq]
      clear eq
      have A := AdAll.mono (hid_same s) A
      have P := P.mono s (Nat.le_refl _)
      have hG := hG.mono (hid_same s)
      have hq := s _ _ hq
      have S := S.trans s
      have hD := dps_mono s hD
      have hx := dp_mono s hx
      have hps := lives s hps
      have hM1 := s _ _ hM1
      refine ⟨_, rfl, g, .ref aL, rfl, gLet hps hG, aL, _, rfl, .inl (gLet2 hG), fun u27 nu27 => ?_⟩
      obtain ⟨Hn, s, hu27, eq⟩ := lay (o := .lst ((lkv gd.letters).map fun kv => kV kv.1)) nu27
      rw [eq]
      clear eq
      have A := AdAll.mono (hid_same s) A
      have i23 := AdAt.mono (hid_same s) i23
      have P := P.mono s (Nat.le_refl _)
      have hG := hG.mono (hid_same s)
      have hq := s _ _ hq
      have S := S.trans s
      have hD := dps_mono s hD
      have hx := dp_mono s hx
      have hps := lives s hps
      have hM1 := s _ _ hM1
      refine ⟨u27, _, 0, .str l0, rfl, rfl, SqL.of hu27, atI_nat (j := 0) first0, ?_⟩
      refine ⟨by show 3 ≤ sizeLine; decide, fun a26 na26 => ?_⟩
      obtain ⟨Hn, s, i26, _, eq⟩ := layT (K := K) (xs := [.str "use", .str l0, .non]) (ds := [.str "use", .str l0, .non]) hps na26 (.cons (.str _) (.cons (.str _) (.cons (.non) (.nil))))
      rw [eq]
      clear eq
      have A := AdAll.mono (hid_same s) A
      have i23 := AdAt.mono (hid_same s) i23
      have P := P.mono s (Nat.le_refl _)
      have hG := hG.mono (hid_same s)
      have hq := s _ _ hq
      have S := S.trans s
      have hD := dps_mono s hD
      have hx := dp_mono s hx
      have hps := lives s hps
      have hM1 := s _ _ hM1
      refine ⟨by show 2 ≤ sizeLine; decide, fun a29 na29 => ?_⟩
      obtain ⟨Hn, s, i29, _, eq⟩ := layT (K := K) (xs := [.str "value", .str "one"]) (ds := [.str "value", .str "one"]) hps na29 (.cons (.str _) (.cons (.str _) (.nil)))
      rw [eq]
      clear eq
      have A := AdAll.mono (hid_same s) A
      have i23 := AdAt.mono (hid_same s) i23
      have i26 := AdAt.mono (hid_same s) i26
      have P := P.mono s (Nat.le_refl _)
      have hG := hG.mono (hid_same s)
      have hq := s _ _ hq
      have S := S.trans s
      have hD := dps_mono s hD
      have hx := dp_mono s hx
      have hps := lives s hps
      have hM1 := s _ _ hM1
      refine ⟨by show 2 ≤ sizeLine; decide, fun a28 na28 => ?_⟩
      obtain ⟨Hn, s, i28, _, eq⟩ := layT (K := K) (xs := [.str "then", .ref a29]) (ds := [.str "then", .seq true [.str "value", .str "one"]]) hps na28 (.cons (.str _) (.cons (i29) (.nil)))
      rw [eq]
      clear eq
      have A := AdAll.mono (hid_same s) A
      have i23 := AdAt.mono (hid_same s) i23
      have i26 := AdAt.mono (hid_same s) i26
      have P := P.mono s (Nat.le_refl _)
      have hG := hG.mono (hid_same s)
      have hq := s _ _ hq
      have S := S.trans s
      have hD := dps_mono s hD
      have hx := dp_mono s hx
      have hps := lives s hps
      have hM1 := s _ _ hM1
      refine ⟨by show 1 ≤ sizeLine; decide, fun a31 na31 => ?_⟩
      obtain ⟨Hn, s, i31, _, eq⟩ := layL (K := K) (xs := [.str "v"]) (ds := [.str "v"]) hps na31 (.cons (.str _) (.nil))
      rw [eq]
      clear eq
      have A := AdAll.mono (hid_same s) A
      have i23 := AdAt.mono (hid_same s) i23
      have i26 := AdAt.mono (hid_same s) i26
      have i28 := AdAt.mono (hid_same s) i28
      have P := P.mono s (Nat.le_refl _)
      have hG := hG.mono (hid_same s)
      have hq := s _ _ hq
      have S := S.trans s
      have hD := dps_mono s hD
      have hx := dp_mono s hx
      have hps := lives s hps
      have hM1 := s _ _ hM1
      refine ⟨by show 2 ≤ sizeLine; decide, fun a30 na30 => ?_⟩
      obtain ⟨Hn, s, i30, _, eq⟩ := layT (K := K) (xs := [.str "name", .ref a31]) (ds := [.str "name", .seq false [.str "v"]]) hps na30 (.cons (.str _) (.cons (i31) (.nil)))
      rw [eq]
      clear eq
      have A := AdAll.mono (hid_same s) A
      have i23 := AdAt.mono (hid_same s) i23
      have i26 := AdAt.mono (hid_same s) i26
      have i28 := AdAt.mono (hid_same s) i28
      have P := P.mono s (Nat.le_refl _)
      have hG := hG.mono (hid_same s)
      have hq := s _ _ hq
      have S := S.trans s
      have hD := dps_mono s hD
      have hx := dp_mono s hx
      have hps := lives s hps
      have hM1 := s _ _ hM1
      refine ⟨by show 4 ≤ sizeLine; decide, fun L5 nL5 => ?_⟩
      have A5 : AdAll K (hid ps2 _) [.ref a23, .ref a26, .ref a28, .ref a30] [.seq true [.str "use", .seq false [.str "x"], .seq true []], .seq true [.str "use", .str l0, .non], .seq true [.str "then", .seq true [.str "value", .str "one"]], .seq true [.str "name", .seq false [.str "v"]]] := .cons (i23) (.cons (i26) (.cons (i28) (.cons (i30) (.nil))))
      obtain ⟨Hn, s, hL5, eq⟩ := lay (o := .lst [.ref a23, .ref a26, .ref a28, .ref a30]) nL5
      rw [eq]
      clear eq
      have A := AdAll.mono (hid_same s) A
      have A5 := AdAll.mono (hid_same s) A5
      have P := P.mono s (Nat.le_refl _)
      have hG := hG.mono (hid_same s)
      have hq := s _ _ hq
      have S := S.trans s
      have hD := dps_mono s hD
      have hx := dp_mono s hx
      have hps := lives s hps
      have hM1 := s _ _ hM1
      refine ⟨M1, L5, _, _, rfl, rfl, hM1, hL5, by rw [sizeLine_eq]; simp, fun M2 nM2 => ?_⟩
      have A := A.app A5
      have pMx : M2 ≠ p := P.ne nM2
      obtain ⟨Hn, s, hM2, eq⟩ := lay (o := .lst (((([.non, .int 5, .str "x", .ref a1, .ref a2, .ref a3, .ref a4, .ref a5, .ref a7, .ref a8, .bl true] ++ [.ref a9]) ++ [.ref a10, .ref a12, .ref a13, .ref a14]) ++ [.ref a17, .ref a19, .ref a22, .str "value"]) ++ [.ref a23, .ref a26, .ref a28, .ref a30])) nM2
      rw [eq]
      clear eq
      have A := AdAll.mono (hid_same s) A
      have P := P.mono s (Nat.le_refl _)
      have hG := hG.mono (hid_same s)
      have hq := s _ _ hq
      have S := S.trans s
      have hD := dps_mono s hD
      have hx := dp_mono s hx
      have hps := lives s hps
      have hM1 := s _ _ hM1
      have hL5 := s _ _ hL5
      have pM := pMx
      generalize eVS : ((((([.non, .int 5, .str "x", .ref a1, .ref a2, .ref a3, .ref a4, .ref a5, .ref a7, .ref a8, .bl true] ++ [.ref a9]) ++ [.ref a10, .ref a12, .ref a13, .ref a14]) ++ [.ref a17, .ref a19, .ref a22, .str "value"]) ++ [.ref a23, .ref a26, .ref a28, .ref a30]) : List V) = VS at hM2 A
      have nVS : VS ≠ [] := fun e => by rw [← eVS] at e; cases e
      have lVS : VS.length ≤ 100000 := by rw [← eVS]; simp
      have A : AdAll K (hid ps2 Hn) VS (oddAD l0) := A
      have hmem : ∀ v ∈ VS, ∃ d ∈ oddAD l0, AdAt K (hid ps2 Hn) v d := fun v hv => A.mem hv
      have hl0m : (l0, k0) ∈ gd.letters := by rw [hl0]; exact List.mem_cons_self
      have tpos := size_pos (GB.Tm.mk wd nm ks)
      have less2 : ∀ (J : Hp), Same (hid ps2 J) (hid ps J) := fun J => hid_less ss2
      have fin : ∀ (m : Nat) (Hc : Hp) (E2 : XK), m ≤ 1 → Bt [p] H Hc → Bt [p] Hn Hc → PoolIs Hc p (n + m) → spOne K [.ref p, .ref M2] Hc Q E2 := fun m Hc E2 hm B1 B2 Pc => by
        refine ⟨p, M2, VS, n + m, rfl, SqL.of (hid_to (ni1 pM) (bt_at B2 (ni1 pM) hM2)), nVS, lVS, by omega, Pc, fun v Hd hv B3 P3 => ?_⟩
        obtain ⟨d, hd, hvd⟩ := hmem v hv
        have hvd := AdAt.mono (less2 _) (AdAt.mono (bt_weak (ps := ps2) (fun c hc => by rw [List.mem_singleton.mp hc]; exact pp2) (B2.trans B3)) hvd)
        refine k v d Hd (B1.trans B3) hvd ((odd_res hl0m wf.nm hns d hd).up (by omega)) ?_ (P3.mono (Same.refl _) (by omega))
        have := odd_sz l0 d hd
        omega
      refine ⟨_, rfl, by show 0 ≤ sizeLine; decide, fun e0 ne0 => ?_⟩
      obtain ⟨Hn2, s, he0, eq⟩ := lay (o := .lst []) ne0
      rw [eq]
      clear eq
      have hlay : PyData.canLayAll0 (ks.map GB.Tm.d) = true ∧ PyData.depthAll (ks.map GB.Tm.d) ≤ 40 := ds_lay fun i d hd => by
        rw [List.getElem?_map] at hd
        cases hk : ks[i]? with
        | none => rw [hk] at hd; cases hd
        | some c =>
          rw [hk] at hd
          obtain rfl := Option.some.inj hd
          have := tm_lay (fun q hq => ok8 _ (wf.nm q hq)) (hK i c hk)
          have hsz := size_at (w := wd) (n := nm) hk
          exact ⟨this.1, by omega⟩
      have hsh : SeqAt.shaped (.list (ks.map GB.Tm.d)) = true := by
        unfold SeqAt.shaped
        rw [PyData.canLay0, hlay.1, PyData.depth, decide_eq_true (by omega)]
        rfl
      refine ⟨.list (ks.map GB.Tm.d), .list [], .lst (SqL.of (s _ _ hq)) (dps_mono s hD), .lst (SqL.of he0) .nil, hsh, by decide, _, rfl, ?_⟩
      have P := P.mono s (Nat.le_refl _)
      by_cases ck : ks = []
      · subst ck
        refine iteT ?_
        exact ⟨_, rfl, _, rfl, fin 0 Hn2 (fun _ _ _ => False) (by omega) (bt_of (S.trans s)) (bt_of s) P⟩
      have eqf : PyData.eqv (.list (ks.map GB.Tm.d)) (.list []) = false := by
        cases ks with
        | nil => exact absurd rfl ck
        | cons c r => simp [PyData.eqv, PyData.eqvAll]
      rw [eqf]
      refine iteF ?_
      refine ⟨_, rfl, p, 3, n, rfl, by decide, by decide, by omega, P, fun r Hn3 hr3 B P => ⟨rfl, _, rfl, ?_⟩⟩
      rw [decI]
      by_cases cr : (r : Int) = 0
      · rw [decide_eq_true cr]
        refine iteT ?_
        exact ⟨_, rfl, _, rfl, fin 1 Hn3 (fun _ _ _ => False) (by omega) ((bt_of (S.trans s)).trans B) ((bt_of s).trans B) P⟩
      rw [decide_eq_false cr]
      refine iteF ?_
      have qp : q ≠ p := fun z => by
        obtain ⟨x1, x2, x3, e, _⟩ := P0
        rw [← z, nqH] at e; cases e
      have Bn3 : Bt [p] Hn Hn3 := (bt_of s).trans B
      have B03 : Bt [p] H Hn3 := (bt_of (S.trans s)).trans B
      have hul : us.length = ks.length := by have := hus.len; rw [List.length_map, List.length_map] at this; exact this
      have kpos : 0 < ks.length := List.length_pos_iff.mpr ck
      have hls := len_sizes ks
      have hz' := hz
      rw [GB.Tm.size] at hz'
      refine ⟨_, rfl, _, rfl, q, us, rfl, .inl (SqL.of (bt_at Bn3 (ni1 qp) hq)), p, _, n + 1, rfl, (by show (0 : Int) < (us.length : Int); omega), (by show (us.length : Int) < 1000000; omega), by omega, P, fun i Hn4 hi B4 P => ?_⟩
      have hi' : i < us.length := by have h := hi; omega
      have hik : i < ks.length := by omega
      have hui : us[i]? = some us[i] := List.getElem?_eq_getElem hi'
      have hki : ks[i]? = some ks[i] := List.getElem?_eq_getElem hik
      have Bn4 : Bt [p] Hn Hn4 := Bn3.trans B4
      have B2n4 : Bt ps2 Hn Hn4 := bt_weak (fun c hc => by rw [List.mem_singleton.mp hc]; exact pp2) Bn4
      have hq4 := bt_at Bn4 (ni1 qp) hq
      have hDh : DpAll K (hid ps2 Hn4) us (ks.map GB.Tm.d) := dps_mono B2n4 (dps_hid hps _ _ (tupOs_tm ks) hD)
      have hxh : Dp K (hid ps2 Hn4) x (GB.Tm.mk wd nm ks).d := dp_mono B2n4 (dp_hid hps _ _ (tupO_d _) hx)
      have hps4 : Lives ps2 Hn4 := fun c hc => by
        by_cases z : c = p
        · subst z; obtain ⟨x1, x2, x3, e, _⟩ := P; exact ⟨_, e⟩
        · obtain ⟨xs, e⟩ := hps c hc; exact ⟨xs, bt_at Bn4 (ni1 z) e⟩
      obtain ⟨dk, hdk, Dk⟩ := dps_at hDh hui
      rw [List.getElem?_map, hki] at hdk
      obtain rfl := Option.some.inj hdk
      have zk := size_at (w := wd) (n := nm) hki
      have bndk : ∀ m ∈ nsAt wd nm i ns, m ∈ bnd := fun m hm => by
        unfold nsAt at hm
        split at hm
        · rename_i e
          rcases List.mem_append.mp hm with h | h
          · exact hns m h
          · rw [List.mem_singleton.mp h]
            have hH2 := hH
            rw [e.1] at hH2
            exact head_bnd hH2
        · exact hns m hm
      refine ⟨_, rfl, _, rfl, _, rfl, _, rfl, q, us, (i : Int), us[i], rfl, rfl, SqL.of hq4, atI_nat hui, p, g, us[i], gd, ks[i], nsAt wd nm i ns, n + 2, ps2, rfl, pp2, hps4, hG.is.mono B2n4, wf, dp_mono (hid_low _ _) Dk, hK i _ hki, bndk, by omega, by omega, by omega, P, fun y d Hn5 B5 hy hr hsz P => ?_⟩
      have hq5 := bt_at B5 (ni1 qp) hq4
      refine ⟨_, rfl, _, rfl, q, us, (i : Int), i, rfl, rfl, hq5, ixN_nat hi', ?_⟩
      obtain ⟨Hn6, B6, bn6, hq6, eq⟩ : ∃ Hm, Bt ps2 Hn5 Hm ∧ (∀ b o, b ≠ q → Hn5 b = some o → Hm b = some o) ∧ Hm q = some (.lst (us.set i y)) ∧ upd Hn5 q (.lst (us.set i y)) = Hm := ⟨_, bt_upd qq2, fun b o z e => by rw [upd_ne z]; exact e, upd_same, rfl⟩
      rw [eq]
      clear eq
      have B56 : Bt ps2 Hn4 Hn6 := (bt_weak (fun c hc => by rw [List.mem_singleton.mp hc]; exact pp2) B5).trans B6
      have AA : AdAll K (hid ps2 Hn6) (us.set i y) (((ks.map GB.Tm.d).map adOf).set i d) := by
        have := adsOf_at (dps_mono B56 hDh)
        rw [adsOf_map] at this
        exact this.set (AdAt.mono B6 hy)
      have hx6 := dp_mono (hid_low _ _) (dp_mono B56 hxh)
      have P : PoolIs Hn6 p (n + 2 + 3 * z) := let ⟨x1, x2, x3, e, r⟩ := P; ⟨x1, x2, x3, bn6 _ _ qp.symm e, r⟩
      have B06 : Bt [p] H Hn6 := fun b o e => by
        obtain ⟨e1, nb⟩ := hid_in ((B03.trans (B4.trans B5)) b o e)
        refine hid_to nb (bn6 _ _ (fun z => ?_) e1)
        have e2 := (hid_in e).1
        rw [z, nqH] at e2; cases e2
      have hps6 : Lives ps2 Hn6 := fun c hc => by
        by_cases z : c = q
        · subst z; exact ⟨_, hq6⟩
        · by_cases z2 : c = p
          · subst z2; obtain ⟨x1, x2, x3, e, _⟩ := P; exact ⟨_, e⟩
          · obtain ⟨xs, e⟩ := hps4 c hc; exact ⟨xs, bn6 _ _ z (bt_at B5 (ni1 z2) e)⟩
      have hsl : (us.set i y).length = ks.length := by rw [List.length_set]; exact hul
      have fin2 : ∀ (tt : Addr) (Hz : Hp) (e : AD), Same Hn6 Hz → AdAt K (hid ps2 Hz) (.ref tt) e → NodA e wd nm (((ks.map GB.Tm.d).map adOf).set i d) → (∀ ks' : List GB.Tm, ((ks.map GB.Tm.d).map adOf).set i d = (ks'.map GB.Tm.d).map adOf → e = adOf (GB.Tm.mk wd nm ks').d) → e.sz ≤ (adOf (GB.Tm.mk wd nm ks).d).sz + 12 → Q (.ref tt) Hz := fun tt Hz e sz he hne own hle =>
        k (.ref tt) e Hz (B06.trans (bt_of sz)) (AdAt.mono (less2 _) he) (node_res hO0 (by omega) hki hne hr own) hle (P.mono sz (by omega))
      have hset := szs_set (ks.map GB.Tm.d |>.map adOf) i d (adOf ks[i].d) (by rw [List.getElem?_map, List.getElem?_map, hki]; rfl)
      obtain ⟨p', vs, rfl, hV, hvd⟩ := nodeV hx6 (nodeD_own hH)
      have hvl : vs.length = ks.length := (dps_len hvd).trans (List.length_map _)
      rcases hV.kind with ⟨hw, rfl, hs⟩ | ⟨rfl, qq, hs, _⟩ | ⟨rfl, hs⟩ | ⟨⟨m, ho⟩, rfl, hs⟩
      · exact absurd hvl (by simp; omega)
      · refine ⟨_, rfl, ixA hs 0 rfl ⟨rfl, _, rfl, ?_⟩⟩
        refine iteT ?_
        refine ⟨_, rfl, ixA hs 1 rfl ⟨_, rfl, q, us.set i y, rfl, .inl ⟨SqL.of hq6, fun tb ntb => ?_⟩⟩⟩
        obtain ⟨Hn7, s7, i7, _, eq⟩ := layT hps6 ntb AA
        rw [eq]
        clear eq
        refine ⟨by show 3 ≤ sizeLine; decide, fun tt ntt => ?_⟩
        obtain ⟨Hn8, s8, i8, _, eq⟩ := layT (xs := [.str "use", .str nm, .ref tb]) (ds := [.str "use", .str nm, _]) (lives s7 hps6) ntt (.cons (.str _) (.cons (.str _) (.cons i7 .nil)))
        rw [eq]
        clear eq
        refine fin2 tt Hn8 _ (s7.trans s8) i8 .use (fun ks' e => by rw [own_use, e]) ?_
        rw [own_use]
        simp only [AD.sz, AD.szs]
        omega
      · refine ⟨_, rfl, ixA hs 0 rfl ⟨rfl, _, rfl, ?_⟩⟩
        refine iteF ?_
        refine ⟨_, rfl, _, rfl, p', _, rfl, hs, _, rfl, q, us.set i y, rfl, .inl (SqL.of hq6), _, _, rfl, rfl, _, rfl, ?_⟩
        have ek : (((V.str "bind" :: V.str nm :: vs).length : Int) - ((us.set i y).length : Int)) = ((2 : Nat) : Int) := by simp only [List.length_cons]; omega
        rw [ek]
        refine slTo hs 2 (by simp) fun b Hn7 s7 hb7 => ?_
        refine ⟨b, _, rfl, hb7, fun l nl => ?_⟩
        obtain ⟨Hn8, s8, h8, eq⟩ := lay (o := .lst [.str "bind", .str nm]) nl
        rw [show (List.take 2 (V.str "bind" :: V.str nm :: vs)) = [V.str "bind", V.str nm] from rfl, eq]
        clear eq
        refine ⟨_, rfl, l, q, _, _, rfl, rfl, h8, s8 _ _ (s7 _ _ hq6), by rw [sizeLine_eq, hsl]; simp; omega, fun m nm' => ?_⟩
        obtain ⟨Hn9, s9, h9, eq⟩ := lay (o := .lst ([.str "bind", .str nm] ++ us.set i y)) nm'
        rw [eq]
        clear eq
        refine ⟨m, _, rfl, .inl ⟨SqL.of h9, fun tt ntt => ?_⟩⟩
        have S79 := (s7.trans s8).trans s9
        obtain ⟨Hn10, s10, i10, _, eq⟩ := layT (xs := .str "bind" :: .str nm :: us.set i y) (ds := .str "bind" :: .str nm :: _) (lives S79 hps6) ntt (.cons (.str _) (.cons (.str _) (AdAll.mono (hid_same S79) AA)))
        rw [show ([V.str "bind", V.str nm] ++ us.set i y) = V.str "bind" :: V.str nm :: us.set i y from rfl, eq]
        clear eq
        refine fin2 tt Hn10 _ (S79.trans s10) i10 .bind (fun ks' e => by rw [own_bind, e]) ?_
        rw [own_bind]
        simp only [AD.sz, AD.szs]
        omega
      · have n3 := ops_no _ ho
        refine ⟨_, rfl, ixA hs 0 rfl ⟨rfl, _, rfl, ?_⟩⟩
        rw [decS, decide_eq_false n3.2.1]
        refine iteF ?_
        refine ⟨_, rfl, _, rfl, p', _, rfl, hs, _, rfl, q, us.set i y, rfl, .inl (SqL.of hq6), _, _, rfl, rfl, _, rfl, ?_⟩
        have ek : (((V.str wd :: vs).length : Int) - ((us.set i y).length : Int)) = ((1 : Nat) : Int) := by simp only [List.length_cons]; omega
        rw [ek]
        refine slTo hs 1 (by simp) fun b Hn7 s7 hb7 => ?_
        refine ⟨b, _, rfl, hb7, fun l nl => ?_⟩
        obtain ⟨Hn8, s8, h8, eq⟩ := lay (o := .lst [.str wd]) nl
        rw [show (List.take 1 (V.str wd :: vs)) = [V.str wd] from rfl, eq]
        clear eq
        refine ⟨_, rfl, l, q, _, _, rfl, rfl, h8, s8 _ _ (s7 _ _ hq6), by rw [sizeLine_eq, hsl]; simp; omega, fun m nm' => ?_⟩
        obtain ⟨Hn9, s9, h9, eq⟩ := lay (o := .lst ([.str wd] ++ us.set i y)) nm'
        rw [eq]
        clear eq
        refine ⟨m, _, rfl, .inl ⟨SqL.of h9, fun tt ntt => ?_⟩⟩
        have S79 := (s7.trans s8).trans s9
        obtain ⟨Hn10, s10, i10, _, eq⟩ := layT (xs := .str wd :: us.set i y) (ds := .str wd :: _) (lives S79 hps6) ntt (.cons (.str _) (AdAll.mono (hid_same S79) AA))
        rw [show ([V.str wd] ++ us.set i y) = V.str wd :: us.set i y from rfl, eq]
        clear eq
        refine fin2 tt Hn10 _ (S79.trans s10) i10 (.op ho) (fun ks' e => by rw [own_op ho, e]) ?_
        rw [own_op ho]
        simp only [AD.sz, AD.szs]
        omega
      

end
end K4
set_option Elab.async false
set_option linter.all false
set_option maxRecDepth 100000
set_option maxHeartbeats 8000000
namespace K4
open PySem PySem.Spec L2 GB
abbrev sGround : Stmt := topS 37
def grN : List Str := ["_law_pool_here", "_law_most", "_law_names", "_law_letters", "_law_fixed", "_law_name", "_law_x", "_law_commuting", "_law_facts", "_law_seen", "_law_k", "_law_values", "_law_key", "_law_end", "_law_j"]
def spGround : Sp := fun vs H Q _ => ∃ (p : Addr) (m : Int) (n : Nat), vs = [.ref p, .int m] ∧ 0 < m ∧ m ≤ 7 ∧ n + 500 ≤ 1000000 ∧ PoolIs H p n ∧
  ∀ g gd H', Bt [p] H H' → IsG (hid [p] H') g gd → gd.Wf → PoolIs H' p (n + 500) → Q (.ref g) H'
def grI (p : Addr) (m : Int) (n : Nat) (H : Hp) (aN dL fA : Addr) (ns : List Str) (i : Nat) (σ : L2.St) (H' : Hp) : Prop := ∃ (ls : List (Str × Nat)) (fx : List Str) (o5 : Option V), σ = [some (.ref p), some (.int m), some (.ref aN), some (.ref dL), some (.ref fA), o5, none, none, none, none, none, none, none, none, none] ∧
        Bt [p] H H' ∧ H' aN = some (.lst (sts ns)) ∧ H' dL = some (.dK (lkv ls)) ∧ H' fA = some (.lst (sts fx)) ∧ ls.map (·.1) = ns.take i ∧ (∀ q ∈ ls, q.2 ≤ 2) ∧ fx.Sublist (ns.take i) ∧ ls.length ≤ fx.length + 3 ∧ PoolIs H' p (n + 61 + 2 * i)
/-- after k turns of the facts' loop -/
def frI (K : PySem.W.Frag) (p : Addr) (m : Int) (aN dL fA cA tA eA : Addr) (o5 : Option V) (ls : List (Str × Nat)) (fx cm : List Str) (H11 : Hp) (n : Nat) (k : Nat) (σ : L2.St) (H' : Hp) : Prop :=
  ∃ (fs : List Fact) (ts ks : List Addr) (o6 o10 o11 o12 o13 : Option V), σ = [some (.ref p), some (.int m), some (.ref aN), some (.ref dL), some (.ref fA), o5, o6, some (.ref cA), some (.ref tA), some (.ref eA), o10, o11, o12, o13, none] ∧
    Bt [p, tA, eA] H11 H' ∧ H' tA = some (.lst (ts.map V.ref)) ∧ H' eA = some (.lst (ks.map V.ref)) ∧ Paired (FactAt (hid [p, tA, eA] H')) fs ts ∧ DpAll K (hid [p, tA, eA] H') (ks.map V.ref) ((fs.map (GD.mk ls fx cm []).asked).map kd) ∧
    fs.length ≤ k ∧ (∀ f ∈ fs, f.Ok ls fx) ∧ (fs.map (GD.mk ls fx cm []).asked).Nodup ∧ ks.length = fs.length ∧ PoolIs H' p (n + 5 * k)
section
variable {P : Program} {w : World} {K : PySem.W.Frag} {mg : Str → Option Value} {base : Heap}
theorem scGround : FnScope grN ["_law_pool_here", "_law_most"] (defScope sGround) := ⟨rfl, rfl, rfl, by decide +kernel, rfl, by decide +kernel, by decide +kernel⟩
theorem ok_ground {f : Addr} {fd : FuncData} (F : Fun K "_law_ground" "_law_ground" sGround f fd) (T : Bl mg) (TK : Fns P w K mg base "_law_take" 1 ["_law_pool_here", "_law_many_here"] spTake)
    (MX : Fns P w K mg base "_law_mixed" 2 ["_law_pool_here", "_law_things"] (spMixed K)) (ON : Fns P w K mg base "_law_one" 2 ["_law_pool_here", "_law_things"] (spOne K)) : FnOk P w K mg base CX0 3 f fd ["_law_pool_here", "_law_most"] spGround := by
  refine F.ok scGround (fun vs H Q E h => ?_) (fun cdv A outer s H vs Q E hr h => ?_)
  · obtain ⟨p, m, n, rfl, _⟩ := h
    rfl
  · obtain ⟨p, m, n, rfl, m0, m7, hn, hP, q⟩ := h
    have hu65 : (A.deeper (PyProof.Rows.envOfC "_law_ground" (defScope sGround) s.heap.objs.size f cdv)).units + 65 < cLine := by have := hr.un; omega
    refine ⟨_, pss_cons (ps_set (i := 2) scGround.nd rfl (.inl rfl) (pe_slice sl_list (pe_fn MX hr (by decide) rfl (pa_cons (pv 0) (pa_cons (pe_lst (pa_cons (pe_str) (pa_cons (pe_str) (pa_cons (pe_str) (pa_cons (pe_str) (pa_cons (pe_str) (pa_cons (pe_str) (pa_cons (pe_str) (pa_cons (pe_str) (pa_nil)))))))))) (pa_nil)))) po_none (po_some (pe_op op_add (pe_int) (pe_fn TK hr (by decide) rfl (pa_cons (pv 0) (pa_cons (pv 1) (pa_nil)))))))) (pss_cons (ps_asg (pe_tup (pa_cons (pe_dnewK) (pa_cons (pe_lst (pa_nil)) (pa_nil)))) (pg_tup rfl (pgs_cons (pg_name (i := 3) scGround.nd rfl (.inr rfl)) (pgs_cons (pg_name (i := 4) scGround.nd rfl (.inl rfl)) (pgs_nil))))) (pss_cons (ps_for PassesOwn.never rfl (pi_list (pv 2)) (pg_name (i := 5) scGround.nd rfl (.inl rfl)) (pss_cons (ps_dput (hu_of hr) (pv 3) (pv 5) (pe_fn ON hr (by decide) rfl (pa_cons (pv 0) (pa_cons (pe_lst (pa_cons (pe_int) (pa_cons (pe_int) (pa_cons (pe_int) (pa_cons (pe_int) (pa_cons (pe_int) (pa_nil))))))) (pa_nil)))) rfl) (pss_one (ps_if (PW.pt (pw_or (pt_cmpR op_gt (pe_op op_sub (pe_callB call_lenD (by rfl) T.len PySem.boot_len (pa_cons (pv 3) (pa_nil))) (pe_callB call_len_seq (by rfl) T.len PySem.boot_len (pa_cons (pv 4) (pa_nil)))) (pe_int) (nomark _)) (pw_or1 (pt_cmpR op_eq (pe_fn TK hr (by decide) rfl (pa_cons (pv 0) (pa_cons (pe_int) (pa_nil)))) (pe_int) (nomark _))))) (pss_one (ps_expr (pe_bm PySem.F.plainAttrs_list PySem.F.slot_list_append PySem.F.type_list_append mt_append (pv 4) (pa_cons (pv 5) (pa_nil))))) (pss_nil))))) (pss_cons (ps_setLc (i := 7) (own := [("_law_x", 6)]) (g := gName 6) (tt := tAnd (tTest (tOp rEq (tDGet (tVar 3) (tVar 6)) (tC (.int 2)))) (tTest (tOp rEq (tCall spTake [] E0 (tCons (tVar 0) (tCons (tC (.int 2)) tNil))) (tC (.int 0))))) rfl scGround.nd rfl rfl (sw_true rfl rfl rfl (by decide +kernel)) (pi_list (pv 4)) (blkOk_by (own := [("_law_x", 6)]) (N := grN) (sc := defScope sGround) (by decide +kernel)) (fun _ _ _ _ _ => pg_name (i := 6) scGround.nd rfl (.inl rfl)) (fun _ _ _ _ _ => pts_one (PW.pt (pw_and (pt_cmpR op_eq (pe_dget (hu_of hr) (pv 3) (pv 6) (fun _ _ => rfl)) (pe_int) (nomark _)) (pw_and1 (pt_cmpR op_eq (pe_fn TK hr (by decide) rfl (pa_cons (pv 0) (pa_cons (pe_int) (pa_nil)))) (pe_int) (nomark _)))))) (fun _ _ _ _ _ => pv 6)) (pss_cons (ps_par (i := 8) (j := 9) rfl scGround.nd rfl rfl (by decide) rfl rfl (pa_cons (pe_lst (pa_nil)) (pa_cons (pe_lst (pa_nil)) (pa_nil))) (by rfl)) (pss_cons (ps_for PassesOwn.never rfl (pi_range1 rfl T.range (pa_cons (pe_op op_mul (pe_ix ix_list (pe_lst (pa_cons (pe_int) (pa_cons (pe_int) (pa_cons (pe_int) (pa_cons (pe_int) (pa_cons (pe_int) (pa_nil))))))) (pe_fn TK hr (by decide) rfl (pa_cons (pv 0) (pa_cons (pe_int) (pa_nil)))) (fun _ _ => rfl)) (pe_callTy (call_int1) (by rfl) T.int (by decide +kernel) (pa_cons (pe_cmpR (op_neD hr.units) (pv 4) (pe_lst (pa_nil)) (nomark _)) (pa_nil)))) (pa_nil))) (pg_name (i := 10) scGround.nd rfl (.inl rfl)) (pss_cons (ps_set (i := 6) scGround.nd rfl (.inl rfl) (pe_fn ON hr (by decide) rfl (pa_cons (pv 0) (pa_cons (pv 4) (pa_nil))))) (pss_cons (ps_setLc (i := 11) (own := [("_law_j", 14)]) (g := gName 14) (tt := tYes) rfl scGround.nd rfl rfl (sw_true rfl rfl rfl (by decide +kernel)) (pi_range1 rfl T.range (pa_cons (pe_dget (hu_of hr) (pv 3) (pv 6) (fun _ _ => rfl)) (pa_nil))) (blkOk_by (own := [("_law_j", 14)]) (N := grN) (sc := defScope sGround) (by decide +kernel)) (fun _ _ _ _ _ => pg_name (i := 14) scGround.nd rfl (.inl rfl)) (fun _ _ _ _ _ => pts_nil) (fun _ _ _ _ _ => pe_fn ON hr (by decide) rfl (pa_cons (pv 0) (pa_cons (pe_lst (pa_cons (pe_str) (pa_cons (pe_str) (pa_cons (pe_str) (pa_nil))))) (pa_nil))))) (pss_cons (ps_set (i := 12) scGround.nd rfl (.inl rfl) (pe_tup (pa_cons (pv 6) (pa_cons (pe_ifExp (pt_cmpR op_in_seq (pv 6) (pv 7) (by rfl)) (pe_callB (cr_sortedS) (by rfl) T.sorted (by decide +kernel) (pa_cons (pv 11) (pa_nil))) (pv 11)) (pa_nil))))) (pss_one (ps_if (pt_cmpR (op_notInD hu65) (pv 12) (pv 9) (by rfl)) (pss_cons (ps_expr (pe_bm PySem.F.plainAttrs_list PySem.F.slot_list_append PySem.F.type_list_append mt_append (pv 9) (pa_cons (pv 12) (pa_nil)))) (pss_cons (ps_set (i := 13) scGround.nd rfl (.inl rfl) (pe_tup (pa_cons (pe_fn ON hr (by decide) rfl (pa_cons (pv 0) (pa_cons (pe_lst (pa_cons (pe_str) (pa_cons (pe_str) (pa_cons (pe_str) (pa_nil))))) (pa_nil)))) (pa_cons (pe_fn ON hr (by decide) rfl (pa_cons (pv 0) (pa_cons (pe_lst (pa_cons (pe_str) (pa_cons (pe_str) (pa_nil)))) (pa_nil)))) (pa_nil))))) (pss_one (ps_expr (pe_bm PySem.F.plainAttrs_list PySem.F.slot_list_append PySem.F.type_list_append mt_append (pv 8) (pa_cons (pe_tup (pa_cons (pv 6) (pa_cons (pe_callTy (call_tuple_of) (by rfl) T.tuple (by decide +kernel) (pa_cons (pv 11) (pa_nil))) (pa_cons (pv 13) (pa_nil))))) (pa_nil))))))) (pss_nil))))))) (pss_one (ps_ret (pe_callTy (call_dictP rfl) (by rfl) T.dict (by decide +kernel) (pa_cons (pe_lst (pa_cons (pe_tup (pa_cons (pe_str) (pa_cons (pv 3) (pa_nil)))) (pa_cons (pe_tup (pa_cons (pe_str) (pa_cons (pv 4) (pa_nil)))) (pa_cons (pe_tup (pa_cons (pe_str) (pa_cons (pv 7) (pa_nil)))) (pa_cons (pe_tup (pa_cons (pe_str) (pa_cons (pv 8) (pa_nil)))) (pa_nil)))))) (pa_nil)))))))))), ?_⟩
    refine ⟨_, rfl, by show 8 ≤ sizeLine; decide, fun a8 n8 => ?_⟩
    obtain ⟨H1, s1, h1, e1⟩ := lay (o := .lst [.str "x", .str "y", .str "z", .str "plus", .str "if", .str "name", .str "abcdefgh", .str "fail"]) n8
    rw [e1]
    have P1 := hP.mono s1 (Nat.le_refl _)
    have na8 := hP.ne n8
    refine ⟨p, a8, sts nm8, n, rfl, SqL.of (hid_to (ni1 na8) h1), by decide, by omega, P1, fun qa ys H2 hperm nqa b2 hqa P2 => ?_⟩
    refine ⟨_, rfl, _, rfl, p, m, n + 60, rfl, m0, by omega, by omega, P2, fun r H3 hr3 b3 P3 => ?_⟩
    have nqp : qa ≠ p := P1.ne nqa
    refine ⟨_, _, rfl, rfl, _, rfl, qa, ys, rfl, SqL.of (bt_at b3 (ni1 nqp) hqa), fun aN nN => ?_⟩
    obtain ⟨ns8, rfl, hp8⟩ := sts_perm hperm
    obtain ⟨H4, s4, h4, e4⟩ := lay (o := .lst (cutV (sts ns8) none (some (((1 + r : Nat) : Int))))) nN
    rw [show ((1 : Int) + (r : Int)) = ((1 + r : Nat) : Int) from (Int.natCast_add 1 r).symm, e4]
    have l8 : ns8.length = 8 := hp8.length_eq
    have hr4 : 1 + r ≤ 7 := by have := hr3; omega
    obtain ⟨ns, hns⟩ : ∃ ns, ns = ns8.take (1 + r) := ⟨_, rfl⟩
    have h4' : H4 aN = some (.lst (sts ns)) := by
      rw [h4, cut_to _ _ (by unfold sts; rw [List.length_map]; omega), hns]
      unfold sts
      rw [List.map_take]
    have nsl : ns.length = 1 + r := by rw [hns, List.length_take]; omega
    have nsub : ∀ x ∈ ns, x ∈ nm8 := fun x hx => hp8.subset (List.mem_of_mem_take (by rw [← hns]; exact hx))
    have nsnd : ns.Nodup := by
      rw [hns]
      exact (hp8.nodup_iff.mpr (by decide)).sublist (List.take_sublist _ _)
    have P4 := P3.mono s4 (Nat.le_refl _)
    have nNp : aN ≠ p := P3.ne nN
    have B4 : Bt [p] H H4 := ((bt_of s1).trans (b2.trans b3)).trans (bt_of s4)
    clear h4 e4 hqa h1 e1 hperm
    intro dL ndL
    obtain ⟨H5, s5, h5, e5⟩ := lay (o := .dK []) ndL
    rw [e5]
    refine ⟨by show 0 ≤ sizeLine; decide, fun fA nfA => ?_⟩
    obtain ⟨H6, s6, h6, e6⟩ := lay (o := .lst []) nfA
    rw [e6]
    refine ⟨by show 2 ≤ sizeLine; decide, fun tA ntA => ?_⟩
    obtain ⟨H7, s7, h7, e7⟩ := lay (o := .tup [.ref dL, .ref fA]) ntA
    rw [e7]
    refine ⟨tA, [.ref dL, .ref fA], rfl, SqT.of h7, rfl, .ref dL, [.ref fA], rfl, .ref fA, [], rfl, rfl, ?_⟩
    have s47 : Same H4 H7 := (s5.trans s6).trans s7
    have P7 := P4.mono s47 (Nat.le_refl _)
    have ndp : dL ≠ p := P4.ne ndL
    have nfp : fA ≠ p := (P4.mono s5 (Nat.le_refl _)).ne nfA
    have ndf : dL ≠ fA := ne_of_none h5 nfA
    have ndN : aN ≠ dL := ne_of_none h4' ndL
    have nfN : aN ≠ fA := ne_of_none (s5 _ _ h4') nfA
    have B7 : Bt [p] H H7 := B4.trans (bt_of s47)
    have ndLH : H dL = none := by
      cases e : H dL with
      | none => rfl
      | some o => rw [bt_at B4 (ni1 ndp) e] at ndL; cases ndL
    have nfAH : H fA = none := by
      cases e : H fA with
      | none => rfl
      | some o => rw [s5 _ _ (bt_at B4 (ni1 nfp) e)] at nfA; cases nfA
    have hS5 : ∀ {H' : Hp}, PoolIs H' p n → True := fun _ => trivial
    refine ⟨_, rfl, aN, rfl, ⟨_, SqL.of (s47 _ _ h4')⟩, for_list (K := K) (a := aN) (xs := sts ns) (grI p m n H aN dL fA ns)
      ⟨[], [], none, rfl, B7, s47 _ _ h4', s7 _ _ (s6 _ _ h5), s7 _ _ h6, rfl, (fun _ h => nomatch h), List.Sublist.refl _, Nat.zero_le _, P7.mono (Same.refl _) (by omega)⟩ (fun i σ H' _ ⟨_, _, _, _, _, h, _⟩ => SqL.of h) ?_ ?_⟩
    · rintro i x σ H8 hi ⟨ls, fx, o5, rfl, B8, hN8, hL8, hF8, hls, har, hfx, hnf, P8⟩
      obtain ⟨nm, hnm, rfl⟩ := sts_at hi
      have hil' : i < ns.length := (List.getElem?_eq_some_iff.mp hnm).1
      have tk : ns.take (i + 1) = ns.take i ++ [nm] := by rw [List.take_add_one, hnm]; rfl
      have nmn : nm ∉ ls.map (·.1) := by
        rw [hls]
        intro hm
        have nd := nsnd.sublist (List.take_sublist (i + 1) ns)
        rw [tk] at nd
        exact (List.nodup_append.mp nd).2.2 nm hm nm List.mem_cons_self rfl
      have lsl : ls.length = i := by
        have := congrArg List.length hls
        rw [List.length_map, List.length_take] at this
        omega
      refine ⟨_, rfl, by show 5 ≤ sizeLine; decide, fun b5 nb5 => ?_⟩
      obtain ⟨H9, s9, h9, e9⟩ := lay (o := .lst [.int 0, .int 0, .int 0, .int 1, .int 2]) nb5
      rw [e9]
      have P9 := P8.mono s9 (Nat.le_refl _)
      refine ⟨p, b5, [.int 0, .int 0, .int 0, .int 1, .int 2], _, rfl, SqL.of (hid_to (ni1 (P8.ne nb5)) h9), (fun h => nomatch h), (by show 5 ≤ 100000; decide), (by omega), P9, fun v H10 hv b10 P10 => ?_⟩
      obtain ⟨k, hk, rfl⟩ : ∃ k : Nat, k ≤ 2 ∧ v = .int k := by
        simp only [List.mem_cons, List.not_mem_nil, or_false] at hv
        rcases hv with rfl | rfl | rfl | rfl | rfl
        · exact ⟨0, by decide, rfl⟩
        · exact ⟨0, by decide, rfl⟩
        · exact ⟨0, by decide, rfl⟩
        · exact ⟨1, by decide, rfl⟩
        · exact ⟨2, by decide, rfl⟩
      have hL10 := bt_at b10 (ni1 ndp) (s9 _ _ hL8)
      have hF10 := bt_at b10 (ni1 nfp) (s9 _ _ hF8)
      have hN10 := bt_at b10 (ni1 nNp) (s9 _ _ hN8)
      refine ⟨_, rfl, _, rfl, dL, _, rfl, DPut.k (k := .inr nm) hL10 (by unfold lkv; rw [List.length_map, sizeLine_eq]; omega), ?_⟩
      have ep : putK (lkv ls) (.inr nm : Key) (V.int k) = lkv (ls ++ [(nm, k)]) := by
        rw [putK_new _ (valV_no nmn)]
        unfold lkv
        rw [List.map_append]
        rfl
      rw [ep]
      obtain ⟨H11, b11, h11, e11⟩ : ∃ H11, (∀ b o, b ≠ dL → H10 b = some o → H11 b = some o) ∧ H11 dL = some (.dK (lkv (ls ++ [(nm, k)]))) ∧ upd H10 dL (.dK (lkv (ls ++ [(nm, k)]))) = H11 :=
        ⟨upd H10 dL (.dK (lkv (ls ++ [(nm, k)]))), fun b o z e => by rw [upd_ne z]; exact e, upd_same, rfl⟩
      rw [e11]
      have hF11 := b11 _ _ ndf.symm hF10
      have hN11 := b11 _ _ ndN hN10
      have P11 : PoolIs H11 p (n + 61 + 2 * i + 1) := by
        obtain ⟨x, y, z, e, r⟩ := P10
        exact ⟨x, y, z, b11 _ _ ndp.symm e, r⟩
      have B11 : Bt [p] H H11 := fun b o e => by
        obtain ⟨e', nb⟩ := hid_in e
        exact hid_to nb (b11 _ _ (ne_of_none e' ndLH) (bt_at b10 nb (s9 _ _ (bt_at B8 nb e'))))
      have har' : ∀ q ∈ ls ++ [(nm, k)], q.2 ≤ 2 := fun q hq => by
        rcases List.mem_append.mp hq with h | h
        · exact har q h
        · rw [List.mem_singleton.mp h]; exact hk
      have hls' : (ls ++ [(nm, k)]).map (·.1) = ns.take (i + 1) := by rw [tk, List.map_append, hls]; rfl
      have fl : fx.length ≤ i := by
        have := hfx.length_le
        rw [List.length_take] at this
        omega
      refine ⟨_, rfl, dL, _, rfl, h11, _, rfl, fA, _, rfl, .inl (SqL.of hF11), _, _, rfl, rfl, _, _, rfl, rfl, _, rfl, ?_⟩
      have app : ∀ H12, Bt [p] H11 H12 → PoolIs H12 p (n + 61 + 2 * (i + 1)) → ∀ D : Ends, (∀ σ' H', grI p m n H aN dL fA ns (i + 1) σ' H' → D.nx σ' H') → (tDrop (tBM K "list" rAppend (tVar 4) (tCons (tVar 5) tNil))) D [some (.ref p), some (.int m), some (.ref aN), some (.ref dL), some (.ref fA), some (.str nm), none, none, none, none, none, none, none, none, none] H12 := fun H12 b12 P12 D fin => by
        have hF12 := bt_at b12 (ni1 nfp) hF11
        have hL12 := bt_at b12 (ni1 ndp) h11
        have hN12 := bt_at b12 (ni1 nNp) hN11
        refine ⟨_, rfl, .inl ⟨rfl, _, SqL.of hF12⟩, _, rfl, fA, _, _, rfl, rfl, hF12, (by rw [sts_len, sizeLine_eq]; omega), ?_⟩
        obtain ⟨H13, b13, h13, e13⟩ : ∃ H13, (∀ b o, b ≠ fA → H12 b = some o → H13 b = some o) ∧ H13 fA = some (.lst (sts (fx ++ [nm]))) ∧ upd H12 fA (.lst (sts fx ++ [.str nm])) = H13 :=
          ⟨upd H12 fA (.lst (sts fx ++ [.str nm])), fun b o z e => by rw [upd_ne z]; exact e, by rw [upd_same]; unfold sts; rw [List.map_append]; rfl, rfl⟩
        rw [e13]
        obtain ⟨x, y, z, ep12, pr12⟩ := P12
        refine fin _ _ ⟨ls ++ [(nm, k)], fx ++ [nm], _, rfl, fun b o e => ?_, b13 _ _ nfN hN12, b13 _ _ ndf hL12, h13, hls', har', ?_, ?_, ⟨x, y, z, b13 _ _ nfp.symm ep12, pr12⟩⟩
        · obtain ⟨e', nb⟩ := hid_in e
          exact hid_to nb (b13 _ _ (ne_of_none e' nfAH) (bt_at b12 nb (bt_at B11 nb e')))
        · rw [tk]; exact hfx.append (List.Sublist.refl _)
        · rw [List.length_append, List.length_append]; simp only [List.length_singleton]; omega
      have skip : ∀ H12, Bt [p] H11 H12 → PoolIs H12 p (n + 61 + 2 * (i + 1)) → ls.length + 1 ≤ fx.length + 3 → grI p m n H aN dL fA ns (i + 1) [some (.ref p), some (.int m), some (.ref aN), some (.ref dL), some (.ref fA), some (.str nm), none, none, none, none, none, none, none, none, none] H12 := fun H12 b12 P12 hle =>
        ⟨ls ++ [(nm, k)], fx, some (.str nm), rfl, B11.trans b12, bt_at b12 (ni1 nNp) hN11, bt_at b12 (ni1 ndp) h11, bt_at b12 (ni1 nfp) hF11, hls', har', (by rw [tk]; exact hfx.trans (List.sublist_append_left _ _)), (by rw [List.length_append]; exact hle), P12⟩
      by_cases c : (3 : Int) < (((lkv (ls ++ [(nm, k)])).length : Nat) : Int) - (((sts fx).length : Nat) : Int)
      · rw [decide_eq_true c]
        refine iteT (iteT (app H11 (Same.refl _) (P11.mono (Same.refl _) (by omega)) _ fun _ _ h => h))
      · rw [decide_eq_false c]
        refine iteF ⟨_, rfl, p, 3, _, rfl, by decide, by decide, (by omega), P11, fun r H12 hr12 b12 P12 => ⟨rfl, _, rfl, ?_⟩⟩
        have P12' := P12.mono (Same.refl _) (show _ ≤ n + 61 + 2 * (i + 1) by omega)
        by_cases c2 : (V.int (r : Int)) = .int 0
        · rw [decide_eq_true c2]
          exact iteT (app H12 b12 P12' _ fun _ _ h => h)
        · rw [decide_eq_false c2]
          refine iteF (skip H12 b12 P12' ?_)
          unfold lkv at c
          rw [List.length_map, List.length_append, sts_len] at c
          simp only [List.length_singleton] at c
          omega
    · rintro σ H8 ⟨ls, fx, o5, rfl, B8, hN8, hL8, hF8, hls, har, hfx, hnf, P8⟩
      rw [sts_len, List.take_length] at hls hfx
      rw [sts_len] at P8
      have lnd : (ls.map (·.1)).Nodup := by rw [hls]; exact nsnd
      have fin : ∀ x ∈ fx, ∃ k, (x, k) ∈ ls := fun x hx => by
        have := hfx.subset hx
        rw [← hls] at this
        obtain ⟨q, hq, rfl⟩ := List.mem_map.mp this
        exact ⟨q.2, hq⟩
      have lls : ls.length ≤ 7 := by
        have := congrArg List.length hls
        rw [List.length_map] at this
        omega
      have lfx : fx.length ≤ 7 := by have := hfx.length_le; omega
      have P8' : PoolIs H8 p (n + 80) := P8.mono (Same.refl _) (by omega)
      have f8 : ∀ x ∈ fx, x ∈ nm8 := fun x hx => nsub x (hfx.subset hx)
      -- commuting
      refine ⟨_, rfl, fA, rfl, ⟨_, SqL.of hF8⟩, fun cA ncA => lc_list (K := K) (a := fA) (xs := sts fx) (fun i H' => ∃ cm : List Str, Bt [p, cA] H8 H' ∧ H' cA = some (.lst (sts cm)) ∧ cm.Sublist (fx.take i) ∧ (∀ x ∈ cm, (x, 2) ∈ ls) ∧ PoolIs H' p (n + 80 + i))
        ⟨[], bt_upd (by simp), upd_same, List.Sublist.refl _, (fun _ h => nomatch h), (by
          obtain ⟨x, y, z, e, r⟩ := P8'
          exact ⟨x, y, z, by rw [upd_ne (ne_of_none e ncA)]; exact e, r⟩)⟩ ?_ ?_ ?_⟩
      · rintro i H9 _ ⟨cm, B9, _⟩
        exact SqL.of (bt_at B9 (by simp [nfp, ne_of_none hF8 ncA]) hF8)
      · rintro i x H9 hi ⟨cm, B9, hC9, hcm, hc2, P9⟩
        obtain ⟨s, hs, rfl⟩ := sts_at hi
        have hsx : s ∈ fx := List.mem_of_getElem? hs
        obtain ⟨k, hk⟩ := fin s hsx
        have tk : fx.take (i + 1) = fx.take i ++ [s] := by rw [List.take_add_one, hs]; rfl
        have cp : cA ≠ p := P8.ne ncA
        have hL9 := bt_at B9 (by simp [ndp, ne_of_none hL8 ncA]) hL8
        have il : i < fx.length := (List.getElem?_eq_some_iff.mp hs).1
        have cml : cm.length ≤ 7 := by
          have := hcm.length_le
          rw [List.length_take] at this
          omega
        have drop : ∀ H', Bt [p] H9 H' → PoolIs H' p (n + 80 + (i + 1)) → ∃ cm : List Str, Bt [p, cA] H8 H' ∧ H' cA = some (.lst (sts cm)) ∧ cm.Sublist (fx.take (i + 1)) ∧ (∀ x ∈ cm, (x, 2) ∈ ls) ∧ PoolIs H' p (n + 80 + (i + 1)) := fun H' b P =>
          ⟨cm, B9.trans (bt_weak (by simp) b), bt_at b (ni1 cp) hC9, (by rw [tk]; exact hcm.trans (List.sublist_append_left _ _)), hc2, P⟩
        refine ⟨rfl, _, rfl, _, rfl, dL, .int k, rfl, (by rw [← valV_lkv lnd hk]; exact DGet.k (k := .inr s) hL9), rfl, _, rfl, ?_⟩
        by_cases c : (V.int (k : Int)) = .int 2
        · rw [decide_eq_true c]
          refine iteT ⟨_, rfl, p, 2, _, rfl, by decide, by decide, (by omega), P9, fun r H10 hr10 b10 P10 => ⟨rfl, _, rfl, ?_⟩⟩
          by_cases c2 : (V.int (r : Int)) = .int 0
          · rw [decide_eq_true c2]
            refine iteT ⟨_, rfl, sts cm, bt_at b10 (ni1 cp) hC9, (by rw [sts_len, sizeLine_eq]; omega), cm ++ [s], ?_, ?_, ?_, ?_, ?_⟩
            · exact B9.trans ((bt_weak (by simp) b10).trans (bt_upd (by simp)))
            · rw [upd_same]; unfold sts; rw [List.map_append]; rfl
            · rw [tk]; exact hcm.append (List.Sublist.refl _)
            · intro x hx
              rcases List.mem_append.mp hx with h | h
              · exact hc2 x h
              · obtain rfl := List.mem_singleton.mp h
                have : k = 2 := by injection c with c; omega
                rw [← this]; exact hk
            · obtain ⟨x, y, z, e, r⟩ := P10
              exact ⟨x, y, z, by rw [upd_ne cp.symm]; exact e, r⟩
          · rw [decide_eq_false c2]
            exact iteF (drop H10 b10 (P10.mono (Same.refl _) (by omega)))
        · rw [decide_eq_false c]
          exact iteF (iteF (drop H9 (Same.refl _) (P9.mono (Same.refl _) (by omega))))
      · rintro H9 ⟨cm, B9, hC9, hcm, hc2, P9⟩
        rw [sts_len, List.take_length] at hcm
        rw [sts_len] at P9
        have cp : cA ≠ p := P8.ne ncA
        have hL9 := bt_at B9 (by simp [ndp, ne_of_none hL8 ncA]) hL8
        have hF9 := bt_at B9 (by simp [nfp, ne_of_none hF8 ncA]) hF8
        have hN9 := bt_at B9 (by simp [nNp, ne_of_none hN8 ncA]) hN8
        have ncAH : H cA = none := by
          cases e : H cA with
          | none => rfl
          | some o => rw [bt_at B8 (ni1 cp) e] at ncA; cases ncA
        have B9' : Bt [p] H H9 := fun b o e => by
          obtain ⟨e', nb⟩ := hid_in e
          exact hid_to nb (bt_at B9 (by
            have := ne_of_none e' ncAH
            simp only [List.mem_cons, List.not_mem_nil, or_false, not_or]
            exact ⟨fun z => nb (by rw [z]; exact List.mem_cons_self), this⟩) (bt_at B8 nb e'))
        refine ⟨by show 0 ≤ sizeLine; decide, fun tA' ntA' => ?_⟩
        obtain ⟨H10, s10, h10, e10⟩ := lay (o := .lst []) ntA'
        rw [e10]
        refine ⟨by show 0 ≤ sizeLine; decide, fun eA neA => ?_⟩
        obtain ⟨H11, s11, h11, e11⟩ := lay (o := .lst []) neA
        rw [e11]
        refine ⟨_, _, rfl, ?_⟩
        have tp : tA' ≠ p := P9.ne ntA'
        have P11 := P9.mono (s10.trans s11) (Nat.le_refl _)
        have ep : eA ≠ p := (P9.mono s10 (Nat.le_refl _)).ne neA
        have te : tA' ≠ eA := ne_of_none h10 neA
        have s911 := s10.trans s11
        have hL11 := s911 _ _ hL9
        have hF11 := s911 _ _ hF9
        have hC11 := s911 _ _ hC9
        have nLt : dL ≠ tA' := ne_of_none hL9 ntA'
        have nFt : fA ≠ tA' := ne_of_none hF9 ntA'
        have nCt : cA ≠ tA' := ne_of_none hC9 ntA'
        have nLe : dL ≠ eA := ne_of_none (s10 _ _ hL9) neA
        have nFe : fA ≠ eA := ne_of_none (s10 _ _ hF9) neA
        have nCe : cA ≠ eA := ne_of_none (s10 _ _ hC9) neA
        have cmx : ∀ x ∈ cm, x ∈ fx := fun x hx => hcm.subset hx
        have cml : cm.length ≤ 7 := by have := hcm.length_le; omega
        refine ⟨by show 5 ≤ sizeLine; decide, fun b5 n5 => ?_⟩
        obtain ⟨H12, s12, h12, e12⟩ := lay (o := .lst [.int 0, .int 1, .int 2, .int 3, .int 6]) n5
        rw [e12]
        have P12 := P11.mono s12 (Nat.le_refl _)
        refine ⟨_, rfl, p, 5, _, rfl, by decide, by decide, by omega, P12, fun r H13 hr13 b13 P13 => ?_⟩
        obtain ⟨c, hc6, hv⟩ : ∃ c : Nat, c ≤ 6 ∧ ([.int 0, .int 1, .int 2, .int 3, .int 6] : List V)[r]? = some (.int c) := by
          have hr5 : r < 5 := by have := hr13; omega
          match r, hr5 with
          | 0, _ => exact ⟨0, by decide, rfl⟩
          | 1, _ => exact ⟨1, by decide, rfl⟩
          | 2, _ => exact ⟨2, by decide, rfl⟩
          | 3, _ => exact ⟨3, by decide, rfl⟩
          | 4, _ => exact ⟨6, by decide, rfl⟩
        refine ⟨b5, _, _, _, rfl, rfl, SqL.of (bt_at b13 (ni1 (P11.ne n5)) h12), atI_nat hv, ?_⟩
        have hF13 := bt_at b13 (ni1 nfp) (s12 _ _ hF11)
        refine ⟨_, rfl, by show 0 ≤ sizeLine; decide, fun zA nzA => ?_⟩
        obtain ⟨H14, s14, h14, e14⟩ := lay (o := .lst []) nzA
        rw [e14]
        refine ⟨.list (pst fx), .list [], .lst (SqL.of (s14 _ _ hF13)) (dp_sts fx), .lst (SqL.of h14) .nil, sh_pst (fun v hv => ok8 v (f8 v hv)), by decide +kernel, .inr ⟨_, rfl, _, _, rfl, rfl, .inl ⟨by omega, by omega⟩, ?_⟩⟩
        rw [ne_nil]
        obtain ⟨N, hN, hN6, hNx⟩ : ∃ N : Nat, (c : Int) * (if decide (fx ≠ []) = true then 1 else 0) = (N : Int) ∧ N ≤ 6 ∧ (0 < N → fx ≠ []) := by
          by_cases h : fx = []
          · exact ⟨0, by rw [decide_eq_false (not_not_intro h)]; simp, by decide, fun z => absurd z (by decide)⟩
          · exact ⟨c, by rw [decide_eq_true h]; simp, hc6, fun _ => h⟩
        have P14 := P13.mono s14 (Nat.le_refl _)
        have B1114 : Bt [p] H11 H14 := (bt_of s12).trans (b13.trans (bt_of s14))
        refine ⟨(N : Int), congrArg (fun z => [V.int z]) hN, by omega, by omega, for_range (lo := 0) (n := N) (frI K p m aN dL fA cA tA' eA o5 ls fx cm H11 (n + 90)) ?_ ?_ ?_⟩
        · refine ⟨[], [], [], none, none, none, none, none, rfl, bt3 B1114, bt_at B1114 (ni1 tp) (s11 _ _ h10), bt_at B1114 (ni1 ep) h11, .nil, .nil, Nat.zero_le _, (fun _ h => nomatch h), List.nodup_nil, rfl, P14.mono (Same.refl _) (by omega)⟩
        · rintro k σ H15 hk ⟨fs, ts, ks, o6, o10, o11, o12, o13, rfl, B15, hT15, hE15, hts, hks, hfl, hfo, hfd, hkl, P15⟩
          have hFx : hid [p, tA', eA] H15 fA = some (.lst (sts fx)) := B15 _ _ (hid_to (ni3 nfp nFt nFe) hF11)
          have hF15 := (hid_in hFx).1
          have hL15 := bt_at B15 (ni3 ndp nLt nLe) hL11
          have hC15 := bt_at B15 (ni3 cp nCt nCe) hC11
          refine ⟨_, rfl, _, rfl, p, fA, sts fx, _, rfl, SqL.of (hid_to (ni1 nfp) hF15), ?_, (by rw [sts_len]; omega), (by omega), P15, fun v H16 hv16 b16 P16 => ?_⟩
          · have := hNx (by omega)
            cases fx with
            | nil => exact absurd rfl this
            | cons y z => exact fun e => nomatch e
          obtain ⟨x, hx, rfl⟩ := mem_sts hv16
          obtain ⟨kx, hkx⟩ := fin x hx
          have kx2 : kx ≤ 2 := har _ hkx
          have hL16 := bt_at b16 (ni1 ndp) hL15
          refine ⟨_, rfl, _, rfl, dL, .int kx, rfl, (by rw [← valV_lkv lnd hkx]; exact DGet.k (k := .inr x) hL16), kx, rfl, by omega, by omega, fun D nD => lc_range (lo := 0) (n := kx) (fun i H' => ∃ vs : List Str, Bt [p, D] H16 H' ∧ H' D = some (.lst (sts vs)) ∧ vs.length = i ∧ (∀ v ∈ vs, v ∈ va3) ∧ PoolIs H' p (n + 90 + 5 * k + 1 + i))
            ⟨[], bt_upd (by simp), upd_same, rfl, (fun _ h => nomatch h), (by
              obtain ⟨x, y, z, e, r⟩ := P16
              exact ⟨x, y, z, by rw [upd_ne (ne_of_none e nD)]; exact e, r⟩)⟩ ?_ ?_⟩
          · rintro i H17 hi ⟨vs, B17, hD17, hvl, hv3, P17⟩
            have Dp1 : D ≠ p := P16.ne nD
            refine ⟨rfl, _, rfl, by show 3 ≤ sizeLine; decide, fun b3 nb3 => ?_⟩
            obtain ⟨H18, s18, h18, e18⟩ := lay (o := .lst [.str "one", .str "two", .str "false"]) nb3
            rw [e18]
            refine ⟨p, b3, sts va3, _, rfl, SqL.of (hid_to (ni1 (P17.ne nb3)) h18), (fun z => nomatch z), by decide, by omega, P17.mono s18 (Nat.le_refl _), fun v H19 hv19 b19 P19 => ?_⟩
            obtain ⟨u, hu, rfl⟩ := mem_sts hv19
            have hD19 := bt_at b19 (ni1 Dp1) (s18 _ _ hD17)
            refine ⟨_, hD19, (by rw [sts_len, sizeLine_eq]; omega), vs ++ [u], ?_, ?_, ?_, ?_, ?_⟩
            · exact B17.trans ((bt_of s18).trans ((bt_weak (by simp) b19).trans (bt_upd (by simp))))
            · rw [upd_same]; unfold sts; rw [List.map_append]; rfl
            · rw [List.length_append, hvl]; rfl
            · intro v hv
              rcases List.mem_append.mp hv with h | h
              · exact hv3 v h
              · rw [List.mem_singleton.mp h]; exact hu
            · obtain ⟨x, y, z, e, r⟩ := P19
              exact ⟨x, y, z, by rw [upd_ne Dp1.symm]; exact e, r⟩
          · rintro H17 ⟨vs, B17, hD17, hvl, hv3, P17⟩
            have Dp1 : D ≠ p := P16.ne nD
            have nDx : ∀ {b : Addr} {o : HO}, H16 b = some o → b ≠ D := fun e => ne_of_none e nD
            have B1617 : ∀ {qs : List Addr}, p ∈ qs → Bt qs H16 H17 := fun {qs} hq b o e => by
              obtain ⟨e', nb⟩ := hid_in e
              refine hid_to nb (bt_at B17 ?_ e')
              intro mm
              simp only [List.mem_cons, List.not_mem_nil, or_false] at mm
              rcases mm with rfl | rfl
              · exact nb hq
              · exact nDx e' rfl
            have B1517 : Bt [p, tA', eA] H15 H17 := (bt3 b16).trans (B1617 (by simp))
            have B1117 := B15.trans B1517
            have hT16 := bt_at b16 (ni1 tp) hT15
            have hE16 := bt_at b16 (ni1 ep) hE15
            have hT17 := bt_at B17 (by simp [tp, nDx hT16]) hT16
            have hE17 := bt_at B17 (by simp [ep, nDx hE16]) hE16
            have hC17 := bt_at B1117 (ni3 cp nCt nCe) hC11
            have Dn3 : D ∉ [p, tA', eA] := ni3 Dp1 (nDx hT16).symm (nDx hE16).symm
            have v2l : vs.length ≤ 2 := by omega
            have okx : PyData.strOk x = true := ok8 x (f8 x hx)
            have lts : ts.length ≤ 100 := by
              have := Paired.length hts
              omega
            have askok : ∀ f, f.Ok ls fx → OkS ((GD.mk ls fx cm []).asked f) := fun f hf => ⟨ok8 _ (f8 _ hf.x), fun v hv => by
              have e : v ∈ f.vals := by
                unfold GD.asked at hv
                dsimp only at hv
                split at hv
                · have hp := sort2_perm f.vals
                  exact hp.subset hv
                · exact hv
              exact ok3 v (hf.vals v e)⟩
            have oks : ∀ a ∈ fs.map (GD.mk ls fx cm []).asked, OkS a := fun a ha => by
              obtain ⟨f, hf, rfl⟩ := List.mem_map.mp ha
              exact askok f (hfo f hf)
            have fOk : ∀ kk en : Str, (kk = "value" ∨ kk = "fail") → (en = "one" ∨ en = "false") → Fact.Ok ls fx ⟨x, vs, kk, en⟩ := fun kk en h1 h2 => ⟨hx, ⟨kx, hkx, hvl⟩, hv3, h1, h2⟩
            have tail : ∀ (H18 : Hp) (kT : Addr) (l : List Str), Same H17 H18 → (GD.mk ls fx cm []).asked ⟨x, vs, "value", "one"⟩ = (x, l) →
                ((x, l) ∈ fs.map (GD.mk ls fx cm []).asked → frI K p m aN dL fA cA tA' eA o5 ls fx cm H11 (n + 90) (k + 1) [some (.ref p), some (.int m), some (.ref aN), some (.ref dL), some (.ref fA), o5, some (.str x), some (.ref cA), some (.ref tA'), some (.ref eA), some (.int (0 + (k : Int))), some (.ref D), some (.ref kT), o13, none] H18) ∧
                ((x, l) ∉ fs.map (GD.mk ls fx cm []).asked → ∀ (H' : Hp) (t : Addr) (kk en : Str) (s13' : Option V), Bt [p, tA', eA] H18 H' → H' tA' = some (.lst ((ts ++ [t]).map V.ref)) → H' eA = some (.lst ((ks ++ [kT]).map V.ref)) → FactAt (hid [p, tA', eA] H') ⟨x, vs, kk, en⟩ t →
                  DpAll K (hid [p, tA', eA] H') ((ks ++ [kT]).map V.ref) ((fs.map (GD.mk ls fx cm []).asked ++ [(x, l)]).map kd) → (kk = "value" ∨ kk = "fail") → (en = "one" ∨ en = "false") → PoolIs H' p (n + 90 + 5 * k + 1 + kx + 2) →
                  frI K p m aN dL fA cA tA' eA o5 ls fx cm H11 (n + 90) (k + 1) [some (.ref p), some (.int m), some (.ref aN), some (.ref dL), some (.ref fA), o5, some (.str x), some (.ref cA), some (.ref tA'), some (.ref eA), some (.int (0 + (k : Int))), some (.ref D), some (.ref kT), s13', none] H') := fun H18 kT l s18 hask => by
              refine ⟨fun _ => ⟨fs, ts, ks, _, _, _, _, _, rfl, B1117.trans (bt_of s18), s18 _ _ hT17, s18 _ _ hE17, Paired.mapP hts fun _ _ r => r.mono (B1517.trans (bt_of s18)), dps_mono (B1517.trans (bt_of s18)) hks, (by omega), hfo, hfd, hkl, P17.mono s18 (by omega)⟩, fun hnew H' t kk en s13' b' hT' hE' hf' hs' h1 h2 P' => ?_⟩
              have eq : (GD.mk ls fx cm []).asked ⟨x, vs, kk, en⟩ = (x, l) := hask
              refine ⟨fs ++ [⟨x, vs, kk, en⟩], ts ++ [t], ks ++ [kT], _, _, _, _, _, rfl, (B1117.trans (bt_of s18)).trans b', hT', hE', ?_, ?_, ?_, ?_, ?_, ?_, P'.mono (Same.refl _) (by omega)⟩
              · exact paired_app (Paired.mapP hts fun _ _ r => r.mono ((B1517.trans (bt_of s18)).trans b')) (.cons hf' .nil)
              · rw [List.map_append (f := (GD.mk ls fx cm []).asked)]
                show DpAll K _ _ ((fs.map (GD.mk ls fx cm []).asked ++ [(GD.mk ls fx cm []).asked ⟨x, vs, kk, en⟩]).map kd)
                rw [eq]
                exact hs'
              · rw [List.length_append]
                show fs.length + 1 ≤ k + 1
                omega
              · intro f hf
                rcases List.mem_append.mp hf with h | h
                · exact hfo f h
                · rw [List.mem_singleton.mp h]; exact fOk kk en h1 h2
              · rw [List.map_append, List.nodup_append]
                refine ⟨hfd, by simp, fun a ha b hb e => ?_⟩
                have hb' : b = (GD.mk ls fx cm []).asked ⟨x, vs, kk, en⟩ := List.mem_singleton.mp hb
                rw [hb', eq] at e
                rw [e] at ha
                exact hnew ha
              · rw [List.length_append, List.length_append, hkl]
                rfl
            refine ⟨_, rfl, _, rfl, _, rfl, cA, sts cm, rfl, .inl (SqL.of hC17), rfl, flat_sts cm, _, rfl, ?_⟩
            rw [if_neg Bool.false_ne_true, inV_sts]
            by_cases hxc : x ∈ cm
            · rw [decide_eq_true hxc]
              refine iteT ⟨_, rfl, D, vs, rfl, SqL.of hD17, by omega, fun ys q2 hperm hsrt nq2 => ?_⟩
              obtain ⟨H18, s18, h18, e18⟩ := lay (o := .lst (ys.map V.str)) nq2
              rw [e18]
              refine ⟨by show 2 ≤ sizeLine; decide, fun kT nkT => ?_⟩
              obtain ⟨H19, s19, h19, e19⟩ := lay (o := .tup [.str x, .ref q2]) nkT
              rw [e19]
              have ey : ys = sort2 vs := sort2_of hperm hsrt v2l hv3
              have s1719 := s18.trans s19
              have hask : (GD.mk ls fx cm []).asked ⟨x, vs, "value", "one"⟩ = (x, ys) := by
                rw [ey]
                show (x, if x ∈ cm then sort2 vs else vs) = (x, sort2 vs)
                rw [if_pos hxc]
              have q2n : q2 ∉ [p, tA', eA] := ni3 (P17.ne nq2) (ne_of_none hT17 nq2).symm (ne_of_none hE17 nq2).symm
              exact fact_tail (P17.mono s1719 (Nat.le_refl _)) (by omega) (s1719 _ _ hT17) (s1719 _ _ hE17) tp ep te lts (by omega) h19 (s19 _ _ h18) q2n (s1719 _ _ hD17) Dn3 (dps_mono (B1517.trans (bt_of s1719)) hks) oks
                ⟨okx, fun v hv => ok3 v (hv3 v (hperm.subset hv))⟩ (tail H19 kT ys s1719 hask).1 (tail H19 kT ys s1719 hask).2
            · rw [decide_eq_false hxc]
              refine iteF ⟨_, rfl, by show 2 ≤ sizeLine; decide, fun kT nkT => ?_⟩
              obtain ⟨H19, s19, h19, e19⟩ := lay (o := .tup [.str x, .ref D]) nkT
              rw [e19]
              have hask : (GD.mk ls fx cm []).asked ⟨x, vs, "value", "one"⟩ = (x, vs) := by
                show (x, if x ∈ cm then sort2 vs else vs) = (x, vs)
                rw [if_neg hxc]
              exact fact_tail (P17.mono s19 (Nat.le_refl _)) (by omega) (s19 _ _ hT17) (s19 _ _ hE17) tp ep te lts (by omega) h19 (s19 _ _ hD17) Dn3 (s19 _ _ hD17) Dn3 (dps_mono (B1517.trans (bt_of s19)) hks) oks
                ⟨okx, fun v hv => ok3 v (hv3 v hv)⟩ (tail H19 kT vs s19 hask).1 (tail H19 kT vs s19 hask).2
        · rintro σ H15 ⟨fs, ts, ks, o6, o10, o11, o12, o13, rfl, B15, hT15, hE15, hts, hks, hfl, hfo, hfd, hkl, P15⟩
          have hFx := bt_at B15 (ni3 nfp nFt nFe) hF11
          have hLx := bt_at B15 (ni3 ndp nLt nLe) hL11
          have hCx := bt_at B15 (ni3 cp nCt nCe) hC11
          have ntH : ∀ {b : Addr} {o : HO}, H b = some o → b ≠ p → b ∉ [p, tA', eA] := fun e np => by
            have e9 := bt_at B9' (ni1 np) e
            exact ni3 np (ne_of_none e9 ntA') (ne_of_none (s10 _ _ e9) neA)
          have B015 : Bt [p] H H15 := fun b o e => by
            obtain ⟨e', nb⟩ := hid_in e
            have np : b ≠ p := fun z => nb (by rw [z]; exact List.mem_cons_self)
            exact hid_to nb (bt_at B15 (ntH e' np) (s911 _ _ (bt_at B9' nb e')))
          refine ⟨_, rfl, by show 2 ≤ sizeLine; decide, fun t1 n1 => ?_⟩
          obtain ⟨G1, g1, k1, e1⟩ := lay (o := .tup [.str "letters", .ref dL]) n1
          rw [e1]
          refine ⟨_, rfl, by show 2 ≤ sizeLine; decide, fun t2 n2 => ?_⟩
          obtain ⟨G2, g2, k2, e2⟩ := lay (o := .tup [.str "fixed", .ref fA]) n2
          rw [e2]
          refine ⟨_, rfl, by show 2 ≤ sizeLine; decide, fun t3 n3 => ?_⟩
          obtain ⟨G3, g3, k3, e3⟩ := lay (o := .tup [.str "commuting", .ref cA]) n3
          rw [e3]
          refine ⟨_, rfl, by show 2 ≤ sizeLine; decide, fun t4 n4 => ?_⟩
          obtain ⟨G4, g4, k4, e4⟩ := lay (o := .tup [.str "facts", .ref tA']) n4
          rw [e4]
          refine ⟨by show 4 ≤ sizeLine; decide, fun tl ntl => ?_⟩
          obtain ⟨G5, g5, k5, e5⟩ := lay (o := .lst [.ref t1, .ref t2, .ref t3, .ref t4]) ntl
          rw [e5]
          refine ⟨tl, [t1, t2, t3, t4], [(.inr "letters", .ref dL), (.inr "fixed", .ref fA), (.inr "commuting", .ref cA), (.inr "facts", .ref tA')], rfl, SqL.of k5,
            .cons (SqT.of (g5 _ _ (g4 _ _ (g3 _ _ (g2 _ _ k1))))) (.cons (SqT.of (g5 _ _ (g4 _ _ (g3 _ _ k2)))) (.cons (SqT.of (g5 _ _ (g4 _ _ k3))) (.cons (SqT.of (g5 _ _ k4)) .nil))), fun g ng => ?_⟩
          obtain ⟨G6, g6, k6, e6⟩ := lay (o := .dK [(.inr "letters", .ref dL), (.inr "fixed", .ref fA), (.inr "commuting", .ref cA), (.inr "facts", .ref tA')]) ng
          have em : mergeK [] [((.inr "letters" : Key), V.ref dL), (.inr "fixed", .ref fA), (.inr "commuting", .ref cA), (.inr "facts", .ref tA')] = [(.inr "letters", .ref dL), (.inr "fixed", .ref fA), (.inr "commuting", .ref cA), (.inr "facts", .ref tA')] := by rfl
          show Q (.ref g) (upd G5 g (.dK (mergeK [] [((.inr "letters" : Key), V.ref dL), (.inr "fixed", .ref fA), (.inr "commuting", .ref cA), (.inr "facts", .ref tA')])))
          rw [em, e6]
          have s156 : Same H15 G6 := ((((g1.trans g2).trans g3).trans g4).trans g5).trans g6
          have gp : g ≠ p := (P15.mono ((((g1.trans g2).trans g3).trans g4).trans g5) (Nat.le_refl _)).ne ng
          refine q g ⟨ls, fx, cm, fs⟩ G6 (B015.trans (bt_of s156)) ⟨dL, fA, cA, tA', hid_to (ni1 gp) k6, hid_to (ni1 ndp) (s156 _ _ hLx), hid_to (ni1 nfp) (s156 _ _ hFx), hid_to (ni1 cp) (s156 _ _ hCx), ts, hid_to (ni1 tp) (s156 _ _ hT15), Paired.mapP hts fun _ _ r => r.mono ((hid_less (by simp)).trans (hid_same s156))⟩ ?_ (P15.mono s156 (by omega))
          refine ⟨?_, lnd, ?_, har, ?_, hnf, hcm, hc2, (show fs.length ≤ 6 by omega), hfo, hfd⟩
          · intro e
            have : ls.length = 0 := by
              have e' : ls = [] := e
              rw [e']; rfl
            have := congrArg List.length hls
            rw [List.length_map] at this
            omega
          · intro q hq
            refine nsub q.1 ?_
            rw [← hls]
            exact List.mem_map.mpr ⟨q, hq, rfl⟩
          · show fx.Sublist (ls.map (·.1))
            rw [hls]
            exact hfx
    --END
end
end K4
set_option Elab.async false
set_option linter.all false
set_option maxRecDepth 100000
set_option maxHeartbeats 16000000
namespace K4
open PySem PySem.Spec L2 GB
abbrev sTerm : Stmt := topS 39
def termN : List Str := ["_law_pool_here", "_law_g", "_law_names", "_law_left", "_law_x", "_law_some", "_law_inner_here", "_law_words", "_law_word", "_law_name", "_law_first", "_law_many_here", "_law_k"]
/-- one of the things of a tuple -/
def spOneT (K : PySem.W.Frag) : Sp := fun vs H Q _ => ∃ (p t : Addr) (xs : List V) (n : Nat), vs = [.ref p, .ref t] ∧ SqT K (hid [p] H) t xs ∧ xs ≠ [] ∧ xs.length ≤ 100000 ∧ n + 1 ≤ 1000000 ∧ PoolIs H p n ∧
  ∀ (v : V) H', v ∈ xs → Bt [p] H H' → PoolIs H' p (n + 1) → Q v H'
def spTerm (K : PySem.W.Frag) (z : Nat) : Sp := fun vs H Q _ => ∃ (p g a l : Addr) (gd : GD) (ns : List Str) (x0 : Nat) (u0 : Int) (n : Nat), vs = [.ref p, .ref g, .ref a, .ref l] ∧ IsG (hid [p, l] H) g gd ∧ gd.Wf ∧ SqT K H a (sts ns) ∧ (∀ m ∈ ns, nameB m = true) ∧ ns.length + z ≤ 100 ∧ p ≠ l ∧
  H l = some (.lst [.int (x0 : Int), .int u0]) ∧ x0 < z ∧ z ≤ 20 ∧ PoolIs H p n ∧ n + 2 * (x0 + 1) ≤ 900000 ∧
  ∀ (v : V) (t : GB.Tm) (x1 : Nat) (u1 : Int) H', Bt [p, l] H H' → H' l = some (.lst [.int (x1 : Int), .int u1]) → t.size + x1 = x0 + 1 → TmOk gd.letters ns t → Dp K H' v t.d → PoolIs H' p (n + 2 * t.size) → Q v H'
section
variable {P : Program} {w : World} {K : PySem.W.Frag} {mg : Str → Option Value} {base : Heap} {C : Addr}
def opsI : List (Str × Nat) := [("if", 3), ("and", 2), ("or", 2), ("not", 1), ("bind", 2), ("try", 2), ("last", 2), ("then", 2), ("then", 2)]
def opsB : List (Str × Nat) := ("bind", 2) :: opsW
theorem opsI_B : ∀ q ∈ opsI, q ∈ opsB := by decide
theorem paired_at {α β : Type} {R : α → β → Prop} : ∀ {l : List α} {m : List β} {j : Nat} {c : α}, Paired R l m → l[j]? = some c → ∃ x, m[j]? = some x ∧ R c x
  | _, _, j, c, .nil, e => by simp at e
  | _, _, 0, c, .cons r _, e => by
    obtain rfl : _ = c := by simpa using e
    exact ⟨_, rfl, r⟩
  | _, _, j + 1, c, .cons _ t, e => paired_at (j := j) t (by simpa using e)
theorem sqT_bt {K : PySem.W.Frag} {ps : List Addr} {H H' : Hp} (hl : ∀ p ∈ ps, ∃ xs, H p = some (.lst xs)) (B : Bt ps H H') {a : Addr} {xs : List V} (h : SqT K H a xs) : SqT K H' a xs := Same.seqT (hid_low ps H') (Same.seqT B (sqT_hid hl h))
theorem leaf_d {w n : Str} (hw : w ∈ nmd) : (GB.Tm.mk w n []).d = .tuple [.str w, .str n] := by
  have : ∀ x ∈ nmd, x ≠ "use" ∧ x ≠ "bind" ∧ x ∉ opsW.map (·.1) := by decide
  obtain ⟨e1, e2, e3⟩ := this w hw
  rw [GB.Tm.d, if_neg e1, if_neg e2, if_neg e3]
theorem paired_map_r {α β γ : Type} {R : α → γ → Prop} {f : β → γ} : ∀ {l : List α} {m : List β}, Paired (fun x y => R x (f y)) l m → Paired R l (m.map f)
  | _, _, .nil => .nil
  | _, _, .cons h t => .cons h (paired_map_r t)
theorem merge_ops : ∀ q ∈ opsB, valV (mergeK [] (opsI.map fun q => ((.inr q.1 : Key), V.int ((q.2 : Nat) : Int)))) (.inr q.1 : Key) = some (.int (q.2 : Int)) := by
  intro q hq
  simp only [opsB, opsW, List.mem_cons, List.not_mem_nil, or_false] at hq
  rcases hq with rfl | rfl | rfl | rfl | rfl | rfl | rfl | rfl <;> rfl
theorem wf_len {g : GD} (w : g.Wf) : g.letters.length ≤ 8 := by
  have h : (g.letters.map (·.1)).length ≤ nm8.length := List.Nodup.length_le_of_subset w.nd fun x hx => by
    obtain ⟨q, hq, rfl⟩ := List.mem_map.mp hx
    exact w.nm q hq
  rw [List.length_map] at h
  exact h
theorem ok_oneT {f : Addr} {fd : FuncData} (F : Fun K "_law_one" "_law_one" sOne f fd) (T : Bl mg) (TK : Fns P w K mg base "_law_take" 1 ["_law_pool_here", "_law_many_here"] spTake) : FnOk P w K mg base CX0 2 f fd ["_law_pool_here", "_law_things"] (spOneT K) := by
  refine F.ok scOne (fun vs H Q E h => ?_) (fun cdv A outer s H vs Q E hr h => ?_)
  · obtain ⟨p, t, xs, n, rfl, _⟩ := h
    rfl
  · obtain ⟨p, t, xs, n, rfl, hS, hx, hx2, hn, hP, q⟩ := h
    refine ⟨_, pss_one (ps_ret (pe_ix ix_tup (pv 1) (pe_fn TK hr (by decide) rfl (pa_cons (pv 0) (pa_cons (pe_callB call_len_seq (by rfl) T.len PySem.boot_len (pa_cons (pv 1) pa_nil)) pa_nil))) (fun _ _ => rfl))), ?_⟩
    have hS0 := Same.seqT (hid_low [p] H) hS
    have l0 : 0 < xs.length := List.length_pos_iff.mpr hx
    refine ⟨_, rfl, _, rfl, _, rfl, t, xs, rfl, .inr hS0, p, _, n, rfl, (by show (0 : Int) < (xs.length : Int); omega), (by show (xs.length : Int) < 1000000; omega), by omega, hP, fun r H4 hr' b4 P4 => ?_⟩
    have hr2 : r < xs.length := by have := hr'; omega
    exact ⟨t, xs, _, xs[r], rfl, rfl, Same.seqT (hid_low [p] H4) (Same.seqT b4 hS), atI_nat (List.getElem?_eq_getElem hr2), q _ H4 (List.getElem_mem hr2) b4 P4⟩
theorem dps_bt {K : PySem.W.Frag} {ps : List Addr} {H H' : Hp} (hl : ∀ p ∈ ps, ∃ xs, H p = some (.lst xs)) (B : Bt ps H H') {vs : List V} {ds : List PyData} (t : tupOs ds = true) (h : DpAll K H vs ds) : DpAll K H' vs ds := dps_mono ((B.trans (hid_low ps H'))) (dps_hid hl ds vs t h)
theorem dp_bt {K : PySem.W.Frag} {ps : List Addr} {H H' : Hp} (hl : ∀ p ∈ ps, ∃ xs, H p = some (.lst xs)) (B : Bt ps H H') {v : V} {d : PyData} (t : tupO d = true) (h : Dp K H v d) : Dp K H' v d := dp_mono ((B.trans (hid_low ps H'))) (dp_hid hl d v t h)
theorem pl_lists {H : Hp} {p l : Addr} {m : Nat} {xs : List V} (P : PoolIs H p m) (h : H l = some (.lst xs)) : ∀ q ∈ [p, l], ∃ ys, H q = some (.lst ys) := fun q hq => by
  simp only [List.mem_cons, List.not_mem_nil, or_false] at hq
  rcases hq with rfl | rfl
  · obtain ⟨x1, y1, w1', hp, _⟩ := P
    exact ⟨_, hp⟩
  · exact ⟨_, h⟩
theorem tupOs_map (ts : List GB.Tm) : tupOs (ts.map GB.Tm.d) = true := by rw [← ds_map]; exact tupO_ds ts
/-- the terms within, one after another -/
theorem kids_ok {z : Nat} {p g a l D : Addr} {gd : GD} {ns : List Str} {σ : L2.St} {H : Hp} {x0 k n : Nat} {u0 : Int} {Qd : Hp → Prop} (hσ : ∀ v, ((wipe σ [12]).set 12 (some v))[0]? = some (some (.ref p)) ∧ ((wipe σ [12]).set 12 (some v))[1]? = some (some (.ref g)) ∧ ((wipe σ [12]).set 12 (some v))[2]? = some (some (.ref a)) ∧ ((wipe σ [12]).set 12 (some v))[3]? = some (some (.ref l)) ∧ wipe ((wipe σ [12]).set 12 (some v)) [12] = wipe σ [12])
    (nD : H D = none) (hG : IsG (hid [p, l] H) g gd) (wf : gd.Wf) (ha : SqT K H a (sts ns)) (hnm : ∀ m ∈ ns, nameB m = true) (hnl : ns.length + z ≤ 100) (pl : p ≠ l) (hl : H l = some (.lst [.int (x0 : Int), .int u0])) (hx : k = 0 ∨ x0 < z) (hz : z ≤ 20) (hk : k ≤ 100) (hP : PoolIs H p n) (hn : n + 2 * (x0 + k) ≤ 900000)
    (done : ∀ (ts : List GB.Tm) (x1 : Nat) (u1 : Int) H' acc, ts.length = k → Bt [p, l] H H' → H' D = some (.lst acc) → DpAll K H' acc (ts.map GB.Tm.d) → H' l = some (.lst [.int (x1 : Int), .int u1]) → GB.Tm.sizes ts + x1 = x0 + k → (∀ (i : Nat) (t : GB.Tm), ts[i]? = some t → TmOk gd.letters ns t) → PoolIs H' p (n + 2 * GB.Tm.sizes ts) → Qd H') :
    ∃ W : Nat → Nat → Hp → Prop, (∃ m, W 0 m (upd H D (.lst []))) ∧ ∀ i m H, W i m H →
      ((Itr 0 k).stop i H ∧ Qd H) ∨ ((Itr 0 k).go i H ∧ ∃ Nx : Hp → Prop, (∀ H', Nx H' → ∃ m', m' < m ∧ W (i + 1) m' H') ∧ ∀ x H', (Itr 0 k).yld i H x H' → gName 12 x (wipe σ [12]) H' fun σ2 H2 => wipe σ2 [12] = wipe σ [12] ∧ tYes σ2 H2 fun b H3 =>
        if b = true then tCall (spTerm K z) [] E0 (tCons (tVar 0) (tCons (tVar 1) (tCons (tVar 2) (tCons (tVar 3) tNil)))) σ2 H3 fun y H4 => ∃ acc, H4 D = some (.lst acc) ∧ acc.length < sizeLine ∧ Nx (upd H4 D (.lst (acc ++ [y]))) else Nx H3) := by
  have Dp' : D ≠ p := hP.ne nD
  have Dl : D ≠ l := fun e => by rw [e, hl] at nD; cases nD
  have Dni : D ∉ [p, l] := by simp [Dp', Dl]
  have PL := pl_lists hP hl
  refine lc_it walk_range (fun i H' => ∃ (ts : List GB.Tm) (x1 : Nat) (u1 : Int) (acc : List V), ts.length = i ∧ Bt [p, l] H H' ∧ H' D = some (.lst acc) ∧ DpAll K H' acc (ts.map GB.Tm.d) ∧ H' l = some (.lst [.int (x1 : Int), .int u1]) ∧ GB.Tm.sizes ts + x1 = x0 + i ∧ (∀ (i : Nat) (t : GB.Tm), ts[i]? = some t → TmOk gd.letters ns t) ∧ PoolIs H' p (n + 2 * GB.Tm.sizes ts))
    ⟨[], x0, u0, [], rfl, bt_of (same_new nD), upd_same, .nil, by rw [upd_ne Dl.symm]; exact hl, by rw [GB.Tm.sizes]; omega, (fun i t h => by simp at h), hP.mono (same_new nD) (by omega)⟩ (fun _ _ _ _ => trivial) ?_ ?_
  · rintro i x H1 H1' hi ⟨ts, x1, u1, acc, hti, B1, hD, hd, hl1, hsz, hok, P1⟩ ⟨rfl, rfl⟩
    obtain ⟨e0, e1, e2, e3, e4⟩ := hσ (.int (0 + (i : Nat)))
    refine ⟨e4, ?_⟩
    have hx' : x0 < z := by
      rcases hx with h | h
      · omega
      · exact h
    have ls := len_sizes ts
    refine ⟨_, e0, _, e1, _, e2, _, e3, p, g, a, l, gd, ns, x1, u1, _, rfl, hG.mono B1, wf, sqT_bt PL B1 ha, hnm, by omega, pl, hl1, by omega, hz, P1, by omega, fun v t x2 u2 H2 B2 hl2 hs2 ok2 d2 P2 => ?_⟩
    have PL1 := pl_lists P1 hl1
    have hD2 := bt_at B2 Dni hD
    have ac2 := dps_bt PL1 B2 (tupOs_map ts) hd
    have lacc : acc.length = i := by rw [dps_len hd, List.length_map, hti]
    refine ⟨acc, hD2, by rw [sizeLine_eq]; omega, ts ++ [t], x2, u2, acc ++ [v], by rw [List.length_append, hti]; rfl, fun b o e => ?_, upd_same, ?_, by rw [upd_ne Dl.symm]; exact hl2, ?_, fun j t' h => ?_, ?_⟩
    · obtain ⟨e', m⟩ := hid_in e
      have bD : b ≠ D := ne_of_none e' nD
      exact hid_to m (by rw [upd_ne bD]; exact bt_at B2 m (bt_at B1 m e'))
    · rw [List.map_append]
      have bD : Bt [D] H2 (upd H2 D (.lst (acc ++ [v]))) := bt_upd (by simp)
      have LD : ∀ q ∈ [D], ∃ ys, H2 q = some (.lst ys) := fun q hq => by rw [List.mem_singleton.mp hq]; exact ⟨_, hD2⟩
      exact dps_app (dps_bt LD bD (tupOs_map ts) ac2) (.cons (dp_bt LD bD (tupO_d t) d2) .nil)
    · rw [sizes_app, GB.Tm.sizes, GB.Tm.sizes]; omega
    · rcases Nat.lt_or_ge j ts.length with hj | hj
      · rw [List.getElem?_append_left hj] at h
        exact hok j t' h
      · rw [List.getElem?_append_right hj] at h
        cases hjj : j - ts.length with
        | zero =>
          rw [hjj] at h
          obtain rfl := Option.some.inj h
          exact ok2
        | succ m => rw [hjj] at h; simp at h
    · have e : n + 2 * GB.Tm.sizes (ts ++ [t]) = n + 2 * GB.Tm.sizes ts + 2 * t.size := by rw [sizes_app, GB.Tm.sizes, GB.Tm.sizes]; omega
      rw [e]
      obtain ⟨x, y, w', hp, r⟩ := P2
      exact ⟨x, y, w', by rw [upd_ne Dp'.symm]; exact hp, r⟩
  · rintro H' ⟨ts, x1, u1, acc, h1, h2, h3, h4, h5, h6, h7, h8⟩
    exact done ts x1 u1 H' acc h1 h2 h3 h4 h5 h6 h7 h8
theorem scTerm : FnScope termN ["_law_pool_here", "_law_g", "_law_names", "_law_left"] (defScope sTerm) := ⟨rfl, rfl, rfl, by decide +kernel, rfl, by decide +kernel, by decide +kernel⟩

theorem ok_term {f : Addr} {fd : FuncData} (F : Fun K "_law_term" "_law_term" sTerm f fd) (T : Bl mg) (mgF : mg "_law_term" = some (.ref f)) (kF : PySem.W.keepIn K (.ref f) = true) (bF : Binds K fd ["_law_pool_here", "_law_g", "_law_names", "_law_left"] [])
    (ON : Fns P w K mg base "_law_one" 2 ["_law_pool_here", "_law_things"] (spOne K)) (OT : Fns P w K mg base "_law_one" 2 ["_law_pool_here", "_law_things"] (spOneT K)) : ∀ z : Nat, FnOk P w K mg base CX0 (2 + z) f fd ["_law_pool_here", "_law_g", "_law_names", "_law_left"] (spTerm K z) := by
  intro z
  induction z with
  | zero =>
    refine F.ok scTerm (fun vs H Q E h => ?_) (fun cdv A outer s H vs Q E hr h => ?_)
    · obtain ⟨p, g, a, l, gd, ns, x0, u0, n, rfl, _⟩ := h
      rfl
    · obtain ⟨p, g, a, l, gd, ns, x0, u0, n, rfl, _, _, _, _, _, _, _, hz, _⟩ := h
      exact absurd hz (by omega)
  | succ z ih =>
    have TM : Fns P w K mg base "_law_term" (2 + z) ["_law_pool_here", "_law_g", "_law_names", "_law_left"] (spTerm K z) := ⟨f, fd, ih, mgF, kF, bF⟩
    refine F.ok scTerm (fun vs H Q E h => ?_) (fun cdv A outer s H vs Q E hr h => ?_)
    · obtain ⟨p, g, a, l, gd, ns, x0, u0, n, rfl, _⟩ := h
      rfl
    · obtain ⟨p, g, a, l, gd, ns, x0, u0, n, rfl, hG, wf, ha, hnm, hnl, pl, hl, hx0, hz20, hP, hn, q⟩ := h
      have l2 : 2 ≤ 2 + z := by omega
      have lz : 2 + z ≤ 2 + z := by omega
      refine ⟨_, pss_cons (ps_lock (ps_setLc (i := 5) (own := [("_law_x", 4)]) (g := gName 4) (tt := tAnd (tTest (tOp (rI0 fun i j => .bl (decide (i ≤ j))) (tDGet (tDGet (tVar 1) (tC (.str "letters"))) (tVar 4)) (tOp (rIxL K) (tVar 3) (tC (.int 0))))) (tTest (tOp (rI0 fun i j => .bl (decide (i > j))) (tOp (rIxL K) (tVar 3) (tC (.int 1))) (tC (.int 0))))) rfl scTerm.nd rfl rfl (sw_true rfl rfl rfl (by decide +kernel)) (pi_keys (pe_dget (hu_of hr) (pv 1) (pe_str) (fun _ _ => rfl))) (blkOk_by (own := [("_law_x", 4)]) (N := termN) (sc := defScope sTerm) (by decide +kernel)) (fun _ _ _ _ _ => pg_name (i := 4) scTerm.nd rfl (.inl rfl)) (fun _ _ _ _ _ => pts_one (PW.pt (pw_and (pt_cmpR op_le (pe_dget (hu_of hr) (pe_dget (hu_of hr) (pv 1) (pe_str) (fun _ _ => rfl)) (pv 4) (fun _ _ => rfl)) (pe_ix ix_list (pv 3) (pe_int) (fun _ _ => rfl)) (nomark _)) (pw_and1 (pt_cmpR op_gt (pe_ix ix_list (pv 3) (pe_int) (fun _ _ => rfl)) (pe_int) (nomark _)))))) (fun _ _ _ _ _ => pv 4))) (pss_cons (ps_set (i := 6) scTerm.nd rfl (.inl rfl) (pe_op op_cat (pe_lst (pa_cons (pe_tup (pa_cons (pe_str) (pa_cons (pe_int) (pa_nil)))) (pa_cons (pe_tup (pa_cons (pe_str) (pa_cons (pe_int) (pa_nil)))) (pa_cons (pe_tup (pa_cons (pe_str) (pa_cons (pe_int) (pa_nil)))) (pa_cons (pe_tup (pa_cons (pe_str) (pa_cons (pe_int) (pa_nil)))) (pa_cons (pe_tup (pa_cons (pe_str) (pa_cons (pe_int) (pa_nil)))) (pa_cons (pe_tup (pa_cons (pe_str) (pa_cons (pe_int) (pa_nil)))) (pa_cons (pe_tup (pa_cons (pe_str) (pa_cons (pe_int) (pa_nil)))) (pa_nil))))))))) (pe_op op_rep (pe_lst (pa_cons (pe_tup (pa_cons (pe_str) (pa_cons (pe_int) (pa_nil)))) (pa_nil))) (pe_int)))) (pss_cons (ps_set (i := 7) scTerm.nd rfl (.inl rfl) (pe_op op_cat (pe_op op_cat (pe_op op_rep (pe_op op_rep (pe_lst (pa_cons (pe_str) (pa_nil))) (pe_int)) (pe_callTy (call_int1) (by rfl) T.int (by decide +kernel) (pa_cons (pe_cmpR (op_neD hr.units) (pv 5) (pe_lst (pa_nil)) (nomark _)) (pa_nil)))) (pe_lst (pa_cons (pe_str) (pa_cons (pe_str) (pa_nil))))) (pe_op op_rep (pe_op op_rep (pe_lst (pa_cons (pe_str) (pa_nil))) (pe_int)) (pe_callTy (call_int1) (by rfl) T.int (by decide +kernel) (pa_cons (pe_cmpR op_gt (pe_callB call_len_seq (by rfl) T.len PySem.boot_len (pa_cons (pv 2) (pa_nil))) (pe_int) (nomark _)) (pa_nil)))))) (pss_cons (ps_set (i := 7) scTerm.nd rfl (.inl rfl) (pe_op op_cat (pv 7) (pe_lc (own := [("_law_word", 8), ("_law_many_here", 11)]) (g := gTup K 2 (gCons (gName 8) (gCons (gName 11) gNil))) (tt := tTest (tOp (rI0 fun i j => .bl (decide (i ≤ j))) (tVar 11) (tOp (rIxL K) (tVar 3) (tC (.int 0))))) rfl scTerm.nd (pi_list (pv 6)) (blkOk_by (own := [("_law_word", 8), ("_law_many_here", 11)]) (N := termN) (sc := defScope sTerm) (by decide +kernel)) (fun _ _ _ _ _ => pg_tup rfl (pgs_cons (pg_name (i := 8) scTerm.nd rfl (.inl rfl)) (pgs_cons (pg_name (i := 11) scTerm.nd rfl (.inl rfl)) (pgs_nil)))) (fun _ _ _ _ _ => pts_one (pt_cmpR op_le (pv 11) (pe_ix ix_list (pv 3) (pe_int) (fun _ _ => rfl)) (nomark _))) (fun _ _ _ _ _ => pv 8)))) (pss_cons (ps_set (i := 8) scTerm.nd rfl (.inl rfl) (pe_fn ON hr l2 rfl (pa_cons (pv 0) (pa_cons (pv 7) (pa_nil))))) (pss_cons (ps_if (pt_cmpR op_in_seq (pv 8) (pe_tup (pa_cons (pe_str) (pa_cons (pe_str) (pa_nil)))) (by rfl)) (pss_one (ps_ret (pe_tup (pa_cons (pv 8) (pa_cons (pe_fn ON hr l2 rfl (pa_cons (pv 0) (pa_cons (pe_lst (pa_cons (pe_str) (pa_cons (pe_str) (pa_cons (pe_str) (pa_cons (pe_str) (pa_cons (pe_str) (pa_nil))))))) (pa_nil)))) (pa_nil)))))) (pss_nil)) (pss_cons (ps_if (pt_cmpR op_eq (pv 8) (pe_str) (nomark _)) (pss_one (ps_ret (pe_tup (pa_cons (pv 8) (pa_cons (pe_fn OT hr l2 rfl (pa_cons (pv 0) (pa_cons (pv 2) (pa_nil)))) (pa_nil)))))) (pss_nil)) (pss_cons (ps_if (pt_cmpR op_eq (pv 8) (pe_str) (nomark _)) (pss_cons (ps_set (i := 4) scTerm.nd rfl (.inl rfl) (pe_fn ON hr l2 rfl (pa_cons (pv 0) (pa_cons (pv 5) (pa_nil))))) (pss_cons (ps_asg (pe_tup (pa_cons (pe_op op_sub (pe_ix ix_list (pv 3) (pe_int) (fun _ _ => rfl)) (pe_dget (hu_of hr) (pe_dget (hu_of hr) (pv 1) (pe_str) (fun _ _ => rfl)) (pv 4) (fun _ _ => rfl))) (pa_cons (pe_op op_sub (pe_ix ix_list (pv 3) (pe_int) (fun _ _ => rfl)) (pe_int)) (pa_nil)))) (pg_tup rfl (pgs_cons (pg_sub (pv 3) pe_int set_list) (pgs_cons (pg_sub (pv 3) pe_int set_list) pgs_nil)))) (pss_one (ps_ret (pe_tup (pa_cons (pv 8) (pa_cons (pv 4) (pa_cons (pe_callTy (call_tuple_of) (by rfl) T.tuple (by decide +kernel) (pa_cons (pe_lc (own := [("_law_k", 12)]) (g := gName 12) (tt := tYes) rfl scTerm.nd (pi_range1 rfl T.range (pa_cons (pe_dget (hu_of hr) (pe_dget (hu_of hr) (pv 1) (pe_str) (fun _ _ => rfl)) (pv 4) (fun _ _ => rfl)) (pa_nil))) (blkOk_by (own := [("_law_k", 12)]) (N := termN) (sc := defScope sTerm) (by decide +kernel)) (fun _ _ _ _ _ => pg_name (i := 12) scTerm.nd rfl (.inl rfl)) (fun _ _ _ _ _ => pts_nil) (fun _ _ _ _ _ => pe_fn TM hr lz rfl (pa_cons (pv 0) (pa_cons (pv 1) (pa_cons (pv 2) (pa_cons (pv 3) (pa_nil))))))) (pa_nil))) (pa_nil))))))))) (pss_nil)) (pss_cons (ps_asg (pe_op op_sub (pe_ix ix_list (pv 3) (pe_int) (fun _ _ => rfl)) (pe_dget (hu_of hr) (pe_callTy (call_dictP rfl) (by rfl) T.dict (by decide +kernel) (pa_cons (pv 6) (pa_nil))) (pv 8) (fun _ _ => rfl))) (pg_sub (pv 3) pe_int set_list)) (pss_cons (ps_if (pt_cmpR op_eq (pv 8) (pe_str) (nomark _)) (pss_cons (ps_set (i := 9) scTerm.nd rfl (.inl rfl) (pe_fn ON hr l2 rfl (pa_cons (pv 0) (pa_cons (pe_lst (pa_cons (pe_str) (pa_cons (pe_str) (pa_cons (pe_str) (pa_cons (pe_str) (pa_nil)))))) (pa_nil))))) (pss_cons (ps_set (i := 10) scTerm.nd rfl (.inl rfl) (pe_fn TM hr lz rfl (pa_cons (pv 0) (pa_cons (pv 1) (pa_cons (pv 2) (pa_cons (pv 3) (pa_nil))))))) (pss_one (ps_ret (pe_tup (pa_cons (pv 8) (pa_cons (pv 9) (pa_cons (pv 10) (pa_cons (pe_fn TM hr lz rfl (pa_cons (pv 0) (pa_cons (pv 1) (pa_cons (pe_op op_catA (pv 2) (pe_tup (pa_cons (pv 9) (pa_nil)))) (pa_cons (pv 3) (pa_nil)))))) (pa_nil)))))))))) (pss_nil)) (pss_one (ps_ret (pe_callTy (call_tuple_of) (by rfl) T.tuple (by decide +kernel) (pa_cons (pe_op op_cat (pe_lst (pa_cons (pv 8) (pa_nil))) (pe_lc (own := [("_law_k", 12)]) (g := gName 12) (tt := tYes) rfl scTerm.nd (pi_range1 rfl T.range (pa_cons (pe_dget (hu_of hr) (pe_callTy (call_dictP rfl) (by rfl) T.dict (by decide +kernel) (pa_cons (pv 6) (pa_nil))) (pv 8) (fun _ _ => rfl)) (pa_nil))) (blkOk_by (own := [("_law_k", 12)]) (N := termN) (sc := defScope sTerm) (by decide +kernel)) (fun _ _ _ _ _ => pg_name (i := 12) scTerm.nd rfl (.inl rfl)) (fun _ _ _ _ _ => pts_nil) (fun _ _ _ _ _ => pe_fn TM hr lz rfl (pa_cons (pv 0) (pa_cons (pv 1) (pa_cons (pv 2) (pa_cons (pv 3) (pa_nil)))))))) (pa_nil)))))))))))))), ?_⟩
      obtain ⟨aL, aF, aC, aT, g1, g2, g3, g4, g5⟩ := hG.ex
      have hg := (hid_in g1).1
      have hL := (hid_in g2).1
      have lnd := wf.nd
      have gL : g ≠ aL := ne_of hg hL (by
        intro z
        have z2 := HO.dK.inj z
        revert z2
        cases gd.letters with
        | nil => intro z2; cases z2
        | cons q r =>
          intro z2
          have := congrArg (fun l => l.head?.map Prod.snd) z2
          simp [lkv] at this)
      have lL : l ≠ aL := ne_of hl hL (by intro z; cases z)
      have vL : valV [(.inr "letters", .ref aL), (.inr "fixed", .ref aF), (.inr "commuting", .ref aC), (.inr "facts", .ref aT)] (.inr "letters" : Key) = some (.ref aL) := valV_pos rfl
      refine ⟨aL, _, hL, trivial, fun od => ?_⟩
      obtain ⟨Hl, hlL, hlo, el⟩ : ∃ Hl, Hl aL = some (.frz od (.dK (lkv gd.letters))) ∧ (∀ b, b ≠ aL → Hl b = H b) ∧ upd H aL (.frz od (.dK (lkv gd.letters))) = Hl := ⟨_, upd_same, fun b hb => upd_ne hb, rfl⟩
      rw [el]
      have hgl : Hl g = some _ := (hlo g gL).trans hg
      have hll : Hl l = some _ := (hlo l lL).trans hl
      have DGl : ∀ {H' : Hp}, Same Hl H' → DGet H' g (.str "letters") (some (.ref aL)) := fun s => by
        rw [← vL]
        exact DGet.k (k := .inr "letters") (s _ _ hgl)
      refine ⟨_, rfl, g, .ref aL, rfl, DGl (Same.refl _), aL, od, rfl, .inl ⟨_, hlL, fun D nD => ?_⟩⟩
      refine lc_it walk_keys (fun i H' => ∃ acc : List Str, Same Hl H' ∧ H' D = some (.lst (sts acc)) ∧ acc.length ≤ i ∧ ∀ x ∈ acc, ∃ k, (x, k) ∈ gd.letters ∧ k ≤ x0) ⟨[], same_new nD, upd_same, Nat.le_refl _, fun x h => nomatch h⟩ (fun i H' _ ⟨acc, s', _⟩ => s' _ _ hlL) ?turn ?done
      case turn =>
        rintro i x H1 H1' hi ⟨acc, s1, hD, hal, good⟩ ⟨rfl, k, v, hk, rfl⟩
        obtain ⟨⟨sx, m⟩, hq, eq⟩ : ∃ q, gd.letters[i]? = some q ∧ (Sum.inr q.1, V.int q.2) = (k, v) := by
          unfold lkv at hk
          rw [List.getElem?_map] at hk
          cases e : gd.letters[i]? with
          | none => rw [e] at hk; cases hk
          | some q => rw [e] at hk; exact ⟨q, rfl, Option.some.inj hk⟩
        obtain ⟨rfl, rfl⟩ := Prod.mk.inj eq
        have hmem := List.mem_of_getElem? hq
        have hile : i < gd.letters.length := (List.getElem?_eq_some_iff.mp hq).1
        have DG2 : DGet H1' aL (.str sx) (some (.int (m : Int))) := .inl ⟨lkv gd.letters, .inr sx, .inr ⟨od, s1 _ _ hlL⟩, rfl, (valV_lkv lnd hmem).symm⟩
        have hl1 := s1 _ _ hll
        refine ⟨rfl, ?_⟩
        have l8 := wf_len wf
        refine ⟨_, rfl, g, .ref aL, rfl, DGl s1, _, rfl, aL, .int (m : Int), rfl, DG2, _, rfl, l, _, ((0 : Nat) : Int), _, rfl, rfl, SqL.of hl1, atI_nat (j := 0) rfl, _, _, rfl, rfl, _, rfl, ?_⟩
        by_cases c : (m : Int) ≤ (x0 : Int)
        · rw [decide_eq_true c]
          refine iteT ?_
          refine ⟨_, rfl, l, _, ((1 : Nat) : Int), _, rfl, rfl, SqL.of hl1, atI_nat (j := 1) rfl, _, _, rfl, rfl, _, rfl, ?_⟩
          by_cases c2 : u0 > 0
          · rw [decide_eq_true c2]
            refine ⟨_, rfl, sts acc, hD, by rw [sts_len, sizeLine_eq]; omega, acc ++ [sx], fun b o e => ?_, by rw [upd_same]; unfold sts; rw [List.map_append]; rfl, by rw [List.length_append]; simp; omega, fun y hy => ?_⟩
            · rw [upd_ne (ne_of_none e nD)]; exact s1 _ _ e
            · rcases List.mem_append.mp hy with h | h
              · exact good y h
              · rw [List.mem_singleton.mp h]
                exact ⟨m, hmem, by omega⟩
          · rw [decide_eq_false c2]
            exact ⟨acc, s1, hD, by omega, good⟩
        · rw [decide_eq_false c]
          exact ⟨acc, s1, hD, by omega, good⟩
      rintro H1' ⟨some_, s1', hD1', hsl, hsome⟩
      refine ⟨s1' _ _ hlL, ?_⟩
      have DL : D ≠ aL := fun e => by rw [e, hlL] at nD; cases nD
      have nDH : H D = none := by rw [← hlo D DL]; exact nD
      obtain ⟨H1, s1, hD1, e1⟩ : ∃ H1, Same H H1 ∧ H1 D = some (.lst (sts some_)) ∧ upd H1' aL (.dK (lkv gd.letters)) = H1 := by
        refine ⟨_, fun b o e => ?_, ?_, rfl⟩
        · by_cases hb : b = aL
          · subst hb; rw [upd_same, ← e, hL]
          · rw [upd_ne hb]; exact s1' _ _ ((hlo b hb).trans e)
        · rw [upd_ne DL]; exact hD1'
      rw [e1]
      clear e1 hD1' s1' hlL hlo el hgl hll DGl
      have l8 := wf_len wf
      refine ⟨by show 2 ≤ sizeLine; decide, fun t1 nt1 => ?_⟩
      obtain ⟨Ha1, sa1, ha1, ea1⟩ := lay (o := .tup [.str "if", .int ((3 : Nat) : Int)]) nt1
      rw [show ([V.str "if", V.int 3] : List V) = [.str "if", .int ((3 : Nat) : Int)] from rfl, ea1]
      refine ⟨by show 2 ≤ sizeLine; decide, fun t2 nt2 => ?_⟩
      obtain ⟨Ha2, sa2, ha2, ea2⟩ := lay (o := .tup [.str "and", .int ((2 : Nat) : Int)]) nt2
      rw [show ([V.str "and", V.int 2] : List V) = [.str "and", .int ((2 : Nat) : Int)] from rfl, ea2]
      refine ⟨by show 2 ≤ sizeLine; decide, fun t3 nt3 => ?_⟩
      obtain ⟨Ha3, sa3, ha3, ea3⟩ := lay (o := .tup [.str "or", .int ((2 : Nat) : Int)]) nt3
      rw [show ([V.str "or", V.int 2] : List V) = [.str "or", .int ((2 : Nat) : Int)] from rfl, ea3]
      refine ⟨by show 2 ≤ sizeLine; decide, fun t4 nt4 => ?_⟩
      obtain ⟨Ha4, sa4, ha4, ea4⟩ := lay (o := .tup [.str "not", .int ((1 : Nat) : Int)]) nt4
      rw [show ([V.str "not", V.int 1] : List V) = [.str "not", .int ((1 : Nat) : Int)] from rfl, ea4]
      refine ⟨by show 2 ≤ sizeLine; decide, fun t5 nt5 => ?_⟩
      obtain ⟨Ha5, sa5, ha5, ea5⟩ := lay (o := .tup [.str "bind", .int ((2 : Nat) : Int)]) nt5
      rw [show ([V.str "bind", V.int 2] : List V) = [.str "bind", .int ((2 : Nat) : Int)] from rfl, ea5]
      refine ⟨by show 2 ≤ sizeLine; decide, fun t6 nt6 => ?_⟩
      obtain ⟨Ha6, sa6, ha6, ea6⟩ := lay (o := .tup [.str "try", .int ((2 : Nat) : Int)]) nt6
      rw [show ([V.str "try", V.int 2] : List V) = [.str "try", .int ((2 : Nat) : Int)] from rfl, ea6]
      refine ⟨by show 2 ≤ sizeLine; decide, fun t7 nt7 => ?_⟩
      obtain ⟨Ha7, sa7, ha7, ea7⟩ := lay (o := .tup [.str "last", .int ((2 : Nat) : Int)]) nt7
      rw [show ([V.str "last", V.int 2] : List V) = [.str "last", .int ((2 : Nat) : Int)] from rfl, ea7]
      refine ⟨by show 7 ≤ sizeLine; decide, fun la nla => ?_⟩
      obtain ⟨Hb, sb, hb, eb⟩ := lay (o := .lst [.ref t1, .ref t2, .ref t3, .ref t4, .ref t5, .ref t6, .ref t7]) nla
      rw [eb]
      refine ⟨by show 2 ≤ sizeLine; decide, fun t8 nt8 => ?_⟩
      obtain ⟨Ha8, sa8, ha8, ea8⟩ := lay (o := .tup [.str "then", .int ((2 : Nat) : Int)]) nt8
      rw [show ([V.str "then", V.int 2] : List V) = [.str "then", .int ((2 : Nat) : Int)] from rfl, ea8]
      refine ⟨by show 1 ≤ sizeLine; decide, fun lb nlb => ?_⟩
      obtain ⟨Hc, sc, hc, ec⟩ := lay (o := .lst [.ref t8]) nlb
      rw [ec]
      refine ⟨lb, 2, _, rfl, rfl, hc, by decide, by decide, by show 1 * 2 ≤ sizeLine; decide, fun lc nlc => ?_⟩
      obtain ⟨Hd, sd, hd, ed⟩ := lay (o := .lst [.ref t8, .ref t8]) nlc
      rw [show ((List.replicate (2 : Int).toNat [V.ref t8]).flatten) = [.ref t8, .ref t8] from rfl, ed]
      refine ⟨la, lc, _, _, rfl, rfl, sd _ _ (sc _ _ (sa8 _ _ hb)), hd, by show 7 + 2 ≤ sizeLine; decide, fun I nI => ?_⟩
      obtain ⟨H2, s2, h2, e2⟩ := lay (o := .lst ([t1, t2, t3, t4, t5, t6, t7, t8, t8].map V.ref)) nI
      rw [show ([V.ref t1, .ref t2, .ref t3, .ref t4, .ref t5, .ref t6, .ref t7] ++ [.ref t8, .ref t8]) = [t1, t2, t3, t4, t5, t6, t7, t8, t8].map V.ref from rfl, e2]
      have S12 : Same H1 H2 := (((((((((((sa1.trans sa2).trans sa3).trans sa4).trans sa5).trans sa6).trans sa7).trans sb).trans sa8).trans sc).trans sd).trans s2)
      have hops : Paired (fun t q => H2 t = some (.tup [.str q.1, .int ((q.2 : Nat) : Int)])) [t1, t2, t3, t4, t5, t6, t7, t8, t8] opsI :=
        .cons (((((((((((sa2.trans sa3).trans sa4).trans sa5).trans sa6).trans sa7).trans sb).trans sa8).trans sc).trans sd).trans s2) _ _ ha1) (.cons ((((((((((sa3.trans sa4).trans sa5).trans sa6).trans sa7).trans sb).trans sa8).trans sc).trans sd).trans s2) _ _ ha2) (.cons (((((((((sa4.trans sa5).trans sa6).trans sa7).trans sb).trans sa8).trans sc).trans sd).trans s2) _ _ ha3) (.cons ((((((((sa5.trans sa6).trans sa7).trans sb).trans sa8).trans sc).trans sd).trans s2) _ _ ha4) (.cons (((((((sa6.trans sa7).trans sb).trans sa8).trans sc).trans sd).trans s2) _ _ ha5) (.cons ((((((sa7.trans sb).trans sa8).trans sc).trans sd).trans s2) _ _ ha6) (.cons (((((sb.trans sa8).trans sc).trans sd).trans s2) _ _ ha7) (.cons (((sc.trans sd).trans s2) _ _ ha8) (.cons (((sc.trans sd).trans s2) _ _ ha8) (.nil)))))))))
      generalize hts : [t1, t2, t3, t4, t5, t6, t7, t8, t8] = ts at h2 hops
      clear hts
      clear ha1
      clear ha2
      clear ha3
      clear ha4
      clear ha5
      clear ha6
      clear ha7
      have S2 : Same H H2 := s1.trans S12
      have hD2 := S12 _ _ hD1
      have okn8 : ∀ y ∈ some_, PyData.strOk y = true := fun y hy => by
        obtain ⟨k, hk, _⟩ := hsome y hy
        exact ok8 y (wf.nm _ hk)
      refine ⟨by show 1 ≤ sizeLine; decide, fun b1 nb1 => ?_⟩
      obtain ⟨G1, r1, k1, f1⟩ := lay (o := .lst [.str "use"]) nb1
      rw [f1]
      refine ⟨b1, 4, _, rfl, rfl, k1, by decide, by decide, by show 1 * 4 ≤ sizeLine; decide, fun b2 nb2 => ?_⟩
      obtain ⟨G2, r2, k2, f2⟩ := lay (o := .lst (sts (List.replicate 4 "use"))) nb2
      rw [show ((List.replicate (4 : Int).toNat [V.str "use"]).flatten) = sts (List.replicate 4 "use") from rfl, f2]
      refine ⟨_, rfl, by show 0 ≤ sizeLine; decide, fun b3 nb3 => ?_⟩
      obtain ⟨G3, r3, k3, f3⟩ := lay (o := .lst []) nb3
      rw [f3]
      have R3 : Same H2 G3 := (r1.trans r2).trans r3
      refine ⟨.list (pst some_), .list [], .lst (SqL.of (R3 _ _ hD2)) (dp_sts some_), .lst (SqL.of k3) .nil, sh_pst okn8, by decide +kernel, .inr ⟨_, rfl, ?_⟩⟩
      rw [ne_nil]
      obtain ⟨w1, ew1, hw1, lw1, ki⟩ : ∃ w1 : List Str, (List.replicate (if decide (some_ ≠ []) = true then (1 : Int) else 0).toNat (sts (List.replicate 4 "use"))).flatten = sts w1 ∧ (∀ x ∈ w1, x = "use" ∧ some_ ≠ []) ∧ w1.length ≤ 4 ∧ ((if decide (some_ ≠ []) = true then (1 : Int) else 0) = 0 ∨ (if decide (some_ ≠ []) = true then (1 : Int) else 0) = 1) := by
        by_cases h : some_ = []
        · exact ⟨[], by rw [decide_eq_false (not_not_intro h)]; rfl, (fun x hx => nomatch hx), by decide, .inl (by rw [decide_eq_false (not_not_intro h)]; rfl)⟩
        · exact ⟨List.replicate 4 "use", by rw [decide_eq_true h]; rfl, fun x hx => ⟨(List.mem_replicate.mp hx).2, h⟩, by decide, .inr (by rw [decide_eq_true h]; rfl)⟩
      refine ⟨b2, _, _, rfl, rfl, r3 _ _ k2, by rcases ki with e | e <;> rw [e] <;> decide, by rcases ki with e | e <;> rw [e] <;> decide, by rcases ki with e | e <;> rw [e] <;> decide, fun b4 nb4 => ?_⟩
      obtain ⟨G4, r4, k4, f4⟩ := lay (o := .lst (sts w1)) nb4
      rw [ew1, f4]
      refine ⟨by show 2 ≤ sizeLine; decide, fun b5 nb5 => ?_⟩
      obtain ⟨G5, r5, k5, f5⟩ := lay (o := .lst (sts ["value", "fail"])) nb5
      rw [show ([V.str "value", V.str "fail"] : List V) = sts ["value", "fail"] from rfl, f5]
      refine ⟨b4, b5, _, _, rfl, rfl, r5 _ _ k4, k5, by rw [sts_len, sts_len, sizeLine_eq]; simp; omega, fun b6 nb6 => ?_⟩
      obtain ⟨G6, r6, k6, f6⟩ := lay (o := .lst (sts (w1 ++ (["value", "fail"] : List Str)))) nb6
      rw [show sts w1 ++ sts ["value", "fail"] = sts (w1 ++ (["value", "fail"] : List Str)) from (List.map_append ..).symm, f6]
      refine ⟨by show 1 ≤ sizeLine; decide, fun b7 nb7 => ?_⟩
      obtain ⟨G7, r7, k7, f7⟩ := lay (o := .lst [.str "name"]) nb7
      rw [f7]
      refine ⟨b7, 2, _, rfl, rfl, k7, by decide, by decide, by show 1 * 2 ≤ sizeLine; decide, fun b8 nb8 => ?_⟩
      obtain ⟨G8, r8, k8, f8⟩ := lay (o := .lst (sts (List.replicate 2 "name"))) nb8
      rw [show ((List.replicate (2 : Int).toNat [V.str "name"]).flatten) = sts (List.replicate 2 "name") from rfl, f8]
      have R8 : Same H2 G8 := ((((R3.trans r4).trans r5).trans r6).trans r7).trans r8
      refine ⟨_, rfl, a, _, rfl, .inr (Same.seqT (S2.trans R8) ha), _, _, rfl, rfl, .inr ⟨_, rfl, ?_⟩⟩
      obtain ⟨w2, ew2, hw2, lw2, kj⟩ : ∃ w2 : List Str, (List.replicate (if decide (((sts ns).length : Int) > 0) = true then (1 : Int) else 0).toNat (sts (List.replicate 2 "name"))).flatten = sts w2 ∧ (∀ x ∈ w2, x = "name" ∧ ns ≠ []) ∧ w2.length ≤ 2 ∧ ((if decide (((sts ns).length : Int) > 0) = true then (1 : Int) else 0) = 0 ∨ (if decide (((sts ns).length : Int) > 0) = true then (1 : Int) else 0) = 1) := by
        by_cases h : ns = []
        · subst h
          exact ⟨[], rfl, (fun x hx => nomatch hx), by decide, .inl rfl⟩
        · have h0 : ((sts ns).length : Int) > 0 := by rw [sts_len]; have := List.length_pos_iff.mpr h; omega
          exact ⟨List.replicate 2 "name", by rw [decide_eq_true h0]; rfl, fun x hx => ⟨(List.mem_replicate.mp hx).2, h⟩, by decide, .inr (by rw [decide_eq_true h0]; rfl)⟩
      refine ⟨b8, _, _, rfl, rfl, k8, by rcases kj with e | e <;> rw [e] <;> decide, by rcases kj with e | e <;> rw [e] <;> decide, by rcases kj with e | e <;> rw [e] <;> decide, fun b9 nb9 => ?_⟩
      obtain ⟨G9, r9, k9, f9⟩ := lay (o := .lst (sts w2)) nb9
      rw [ew2, f9]
      refine ⟨b6, b9, _, _, rfl, rfl, r9 _ _ (r8 _ _ (r7 _ _ k6)), k9, by rw [sts_len, sts_len, List.length_append, sizeLine_eq]; simp; omega, fun Wl nWl => ?_⟩
      obtain ⟨H3, r10, h3W, f10⟩ := lay (o := .lst (sts ((w1 ++ (["value", "fail"] : List Str)) ++ w2))) nWl
      rw [show sts (w1 ++ (["value", "fail"] : List Str)) ++ sts w2 = sts ((w1 ++ (["value", "fail"] : List Str)) ++ w2) from (List.map_append ..).symm, f10]
      obtain ⟨wd1, ewd1, hwd1, lwd1, vwd1⟩ : ∃ wd1, (w1 ++ (["value", "fail"] : List Str)) ++ w2 = wd1 ∧ (∀ x ∈ wd1, (x = "use" ∧ some_ ≠ []) ∨ x = "value" ∨ x = "fail" ∨ (x = "name" ∧ ns ≠ [])) ∧ wd1.length ≤ 8 ∧ wd1 ≠ [] := by
        refine ⟨_, rfl, fun x hx => ?_, ?_, ?_⟩
        · rcases List.mem_append.mp hx with hx | hx
          · rcases List.mem_append.mp hx with hx | hx
            · exact .inl (hw1 x hx)
            · simp only [List.mem_cons, List.not_mem_nil, or_false] at hx
              rcases hx with rfl | rfl
              · exact .inr (.inl rfl)
              · exact .inr (.inr (.inl rfl))
          · exact .inr (.inr (.inr (hw2 x hx)))
        · rw [List.length_append, List.length_append]
          show w1.length + 2 + w2.length ≤ 8
          omega
        · intro e
          have := congrArg List.length e
          rw [List.length_append, List.length_append] at this
          simp at this
      rw [ewd1] at h3W
      have S23 : Same H2 H3 := (R8.trans r9).trans r10
      have S3 : Same H H3 := S2.trans S23
      have hD3 := S23 _ _ hD2
      have h3I := S23 _ _ h2
      have hops3 : Paired (fun t q => H3 t = some (.tup [.str q.1, .int ((q.2 : Nat) : Int)])) ts opsI := Paired.mapP hops fun _ _ r => S23 _ _ r
      clear r1 r2 r3 r4 r5 r6 r7 r8 r9 r10 k1 k2 k3 k4 k5 k6 k7 k8 k9 f1 f2 f3 f4 f5 f6 f7 f8 f9 f10 nb1 nb2 nb3 nb4 nb5 nb6 nb7 nb8 nb9 ew1 ew2 hw1 hw2 lw1 lw2 ki kj R3 R8 ewd1
      have hl3 := S3 _ _ hl
      refine ⟨_, rfl, ?_⟩
      refine ⟨_, rfl, I, rfl, ⟨_, SqL.of h3I⟩, fun D2 nD2 => ?_⟩
      refine lc_it walk_list (fun i H' => ∃ acc : List Str, Same H3 H' ∧ H' D2 = some (.lst (sts acc)) ∧ acc.length ≤ i ∧ ∀ x ∈ acc, ∃ m, (x, m) ∈ opsB ∧ m ≤ x0) ⟨[], same_new nD2, upd_same, Nat.le_refl _, fun x h => nomatch h⟩ (fun i H' _ ⟨acc, s', _⟩ => s'.seq (SqL.of h3I)) ?turn4 ?done4
      case turn4 =>
        rintro i x H4 H4' hi ⟨acc, s4, hDa, hal, good⟩ ⟨rfl, hx⟩
        obtain ⟨tq, htq, rfl⟩ : ∃ tq, ts[i]? = some tq ∧ x = V.ref tq := by
          rw [List.getElem?_map] at hx
          cases e : ts[i]? with
          | none => rw [e] at hx; cases hx
          | some y => rw [e] at hx; exact ⟨y, rfl, (Option.some.inj hx).symm⟩
        obtain ⟨qo, hqo, ho⟩ := paired_at hops3 htq
        have hi9 : i < 9 := by
          have := (List.getElem?_eq_some_iff.mp hqo).1
          exact this
        have hl4 := s4 _ _ hl3
        refine ⟨tq, _, rfl, SqT.of (s4 _ _ ho), rfl, _, _, rfl, _, _, rfl, rfl, rfl, ?_⟩
        refine ⟨_, rfl, _, rfl, l, _, ((0 : Nat) : Int), _, rfl, rfl, SqL.of hl4, atI_nat (j := 0) rfl, _, _, rfl, rfl, _, rfl, ?_⟩
        by_cases c : (qo.2 : Int) ≤ (x0 : Int)
        · rw [decide_eq_true c]
          refine ⟨_, rfl, sts acc, hDa, by rw [sts_len, sizeLine_eq]; omega, acc ++ [qo.1], fun b o e => ?_, by rw [upd_same]; unfold sts; rw [List.map_append]; rfl, by rw [List.length_append]; simp; omega, fun y hy => ?_⟩
          · rw [upd_ne (ne_of_none e nD2)]; exact s4 _ _ e
          · rcases List.mem_append.mp hy with h | h
            · exact good y h
            · rw [List.mem_singleton.mp h]
              exact ⟨qo.2, opsI_B _ (List.mem_of_getElem? hqo), by omega⟩
        · rw [decide_eq_false c]
          exact ⟨acc, s4, hDa, by omega, good⟩
      rintro H4 ⟨acc, s4, hDa, hal, good⟩
      have lI : acc.length ≤ 9 := by
        rw [List.length_map, Paired.length hops3] at hal
        exact hal
      refine ⟨Wl, D2, _, _, rfl, rfl, s4 _ _ h3W, hDa, by rw [sts_len, sts_len, sizeLine_eq]; omega, fun W2 nW2 => ?_⟩
      obtain ⟨H5, s5, h5W, e5⟩ := lay (o := .lst (sts (wd1 ++ acc))) nW2
      rw [show sts wd1 ++ sts acc = sts (wd1 ++ acc) from (List.map_append ..).symm, e5]
      have S5 : Same H H5 := (S3.trans s4).trans s5
      have P5 := hP.mono S5 (Nat.le_refl _)
      have W2p : W2 ≠ p := (hP.mono (S3.trans s4) (Nat.le_refl _)).ne nW2
      have wne : wd1 ++ acc ≠ [] := fun e => vwd1 (List.append_eq_nil_iff.mp e).1
      refine ⟨_, rfl, _, rfl, p, W2, sts (wd1 ++ acc), n, rfl, SqL.of (hid_to (ni1 W2p) h5W), fun e => wne (List.map_eq_nil_iff.mp e), by rw [sts_len, List.length_append]; omega, by omega, P5, fun v H6 hv B56 P6 => ?_⟩
      obtain ⟨wd, hwd, rfl⟩ := mem_sts hv
      have hW : (wd = "use" ∧ some_ ≠ []) ∨ wd = "value" ∨ wd = "fail" ∨ (wd = "name" ∧ ns ≠ []) ∨ ∃ m, (wd, m) ∈ opsB ∧ m ≤ x0 := by
        rcases List.mem_append.mp hwd with h | h
        · rcases hwd1 wd h with h | h | h | h
          · exact .inl h
          · exact .inr (.inl h)
          · exact .inr (.inr (.inl h))
          · exact .inr (.inr (.inr (.inl h)))
        · exact .inr (.inr (.inr (.inr (good wd h))))
      have B06 : Bt [p] H H6 := (bt_of S5).trans B56
      have Dp_ : D ≠ p := by
        obtain ⟨x1, y1, w1', hp, _⟩ := hP.mono S3 (Nat.le_refl _)
        intro e
        rw [e, hp] at hD3
        have := HO.lst.inj (Option.some.inj hD3)
        cases hs : some_ with
        | nil => rw [hs] at this; cases this
        | cons y r => rw [hs] at this; cases this
      have hD6 : H6 D = some (.lst (sts some_)) := bt_at B56 (ni1 Dp_) (s5 _ _ (s4 _ _ hD3))
      have hl6 : H6 l = some (.lst [.int (x0 : Int), .int u0]) := bt_at B56 (ni1 pl.symm) (s5 _ _ (s4 _ _ hl3))
      have Ip : I ≠ p := by
        obtain ⟨x1, y1, w1', hp, _⟩ := hP.mono S3 (Nat.le_refl _)
        intro e
        rw [e, hp] at h3I
        have h := HO.lst.inj (Option.some.inj h3I)
        have hl := congrArg List.length h
        rw [List.length_map, Paired.length hops3] at hl
        exact absurd hl (by show ¬ 3 = 9; decide)
      have h6I : H6 I = some (.lst (ts.map V.ref)) := bt_at B56 (ni1 Ip) (s5 _ _ (s4 _ _ h3I))
      have hops6 : Paired (fun t q => H6 t = some (.tup [.str q.1, .int ((q.2 : Nat) : Int)])) ts opsI := Paired.mapP hops3 fun t q r => by
        obtain ⟨x1, y1, w1', hp, _⟩ := hP.mono S3 (Nat.le_refl _)
        exact bt_at B56 (ni1 (ne_of r hp (by intro z; cases z))) (s5 _ _ (s4 _ _ r))
      have hG6 : IsG (hid [p, l] H6) g gd := hG.mono (bt_weak (fun q hq => by rw [List.mem_singleton.mp hq]; simp) B06)
      have ha6 : SqT K H6 a (sts ns) := sqT_bt (fun q hq => by rw [List.mem_singleton.mp hq]; obtain ⟨x1, y1, w1', hp, _⟩ := hP; exact ⟨_, hp⟩) B06 ha
      clear hops hops3 hwd hv good h3W hDa hal h5W e5 s4 s5 hD1 hD2 hD3 h2 h3I hwd1 wne S12 S23
      have B2 : Bt [p, l] H H6 := bt_weak (fun q hq => by rw [List.mem_singleton.mp hq]; simp) B06
      have PLl : ∀ {H' : Hp} {m : Nat}, PoolIs H' p m → H' l = some (.lst [.int (x0 : Int), .int u0]) → ∀ q ∈ [p, l], ∃ xs, H' q = some (.lst xs) := fun P h q hq => by
        simp only [List.mem_cons, List.not_mem_nil, or_false] at hq
        rcases hq with rfl | rfl
        · obtain ⟨x1, y1, w1', hp, _⟩ := P
          exact ⟨_, hp⟩
        · exact ⟨_, h⟩
      refine ⟨_, rfl, by show 2 ≤ sizeLine; decide, fun tv ntv => ?_⟩
      obtain ⟨H7, s7, h7, e7⟩ := lay (o := .tup (sts ["value", "fail"])) ntv
      rw [show ([V.str "value", V.str "fail"] : List V) = sts ["value", "fail"] from rfl, e7]
      refine ⟨tv, sts ["value", "fail"], rfl, .inr (SqT.of h7), rfl, flat_sts _, _, rfl, ?_⟩
      rw [show (if false = true then !inV (.str wd) (sts ["value", "fail"]) else inV (.str wd) (sts ["value", "fail"])) = decide (wd ∈ (["value", "fail"] : List Str)) from inV_sts wd ["value", "fail"]]
      have P7 := P6.mono s7 (Nat.le_refl _)
      have hl7 := s7 _ _ hl6
      have ha7 := Same.seqT s7 ha6
      have B07 : Bt [p, l] H H7 := B2.trans (bt_of s7)
      by_cases c6 : wd ∈ (["value", "fail"] : List Str)
      · rw [decide_eq_true c6]
        refine iteT ?_
        refine ⟨_, rfl, _, rfl, by show 5 ≤ sizeLine; decide, fun b nb => ?_⟩
        obtain ⟨H8, s8, h8, e8⟩ := lay (o := .lst (sts ["one", "two", "false", "true", "x"])) nb
        rw [show ([V.str "one", V.str "two", V.str "false", V.str "true", V.str "x"] : List V) = sts ["one", "two", "false", "true", "x"] from rfl, e8]
        refine ⟨p, b, sts ["one", "two", "false", "true", "x"], n + 1, rfl, SqL.of (hid_to (ni1 (P7.ne nb)) h8), (fun z => nomatch z), by decide, by omega, P7.mono s8 (Nat.le_refl _), fun v H9 hv B9 P9 => ?_⟩
        obtain ⟨nm, hnm', rfl⟩ := mem_sts hv
        refine ⟨by show 2 ≤ sizeLine; decide, fun t nt => ?_⟩
        obtain ⟨H10, s10, h10, e10⟩ := lay (o := .tup [.str wd, .str nm]) nt
        rw [e10]
        have nB : nameB nm = true := (show ∀ x ∈ (["one", "two", "false", "true", "x"] : List Str), nameB x = true by decide +kernel) nm hnm'
        have hin : wd ∈ nmd := (show ∀ x ∈ (["value", "fail"] : List Str), x ∈ nmd by decide) wd c6
        have hd : HeadOk gd.letters ns wd nm 0 := by
          simp only [List.mem_cons, List.not_mem_nil, or_false] at c6
          rcases c6 with rfl | rfl
          · exact .val nB
          · exact .fail nB
        have hl10 : H10 l = some (.lst [.int (x0 : Int), .int u0]) := s10 _ _ (bt_at B9 (ni1 pl.symm) (s8 _ _ hl7))
        exact q (.ref t) (.mk wd nm []) x0 u0 H10 (B07.trans ((bt_of s8).trans ((bt_weak (fun q hq => by rw [List.mem_singleton.mp hq]; simp) B9).trans (bt_of s10)))) hl10 (by rw [GB.Tm.size, GB.Tm.sizes]; omega) (.mk hd fun i k h => by simp at h) (by rw [leaf_d hin]; exact .tup (SqT.of h10) (.cons (.str _) (.cons (.str _) .nil))) (P9.mono s10 (by rw [GB.Tm.size, GB.Tm.sizes]; omega))
      rw [decide_eq_false c6]
      refine iteF ?_
      refine ⟨_, rfl, rfl, _, rfl, ?_⟩
      rw [decS]
      by_cases c7 : wd = "name"
      · rw [decide_eq_true c7]
        refine iteT ?_
        have nse : ns ≠ [] := by
          rcases hW with h | h | h | h | ⟨m, h, _⟩
          · exact absurd (h.1.symm.trans c7) (by decide)
          · exact absurd (h.symm.trans c7) (by decide)
          · exact absurd (h.symm.trans c7) (by decide)
          · exact h.2
          · rw [c7] at h
            exact absurd rfl ((show ∀ q ∈ opsB, q.1 ≠ "name" by decide) _ h)
        have ha7' : SqT K (hid [p] H7) a (sts ns) := sqT_hid (fun q hq => by rw [List.mem_singleton.mp hq]; obtain ⟨x1, y1, w1', hp, _⟩ := P7; exact ⟨_, hp⟩) ha7
        refine ⟨_, rfl, _, rfl, _, rfl, p, a, sts ns, n + 1, rfl, ha7', fun e => nse (List.map_eq_nil_iff.mp e), by rw [sts_len]; omega, by omega, P7, fun v H9 hv B9 P9 => ?_⟩
        obtain ⟨nm, hnm', rfl⟩ := mem_sts hv
        refine ⟨by show 2 ≤ sizeLine; decide, fun t nt => ?_⟩
        obtain ⟨H10, s10, h10, e10⟩ := lay (o := .tup [.str wd, .str nm]) nt
        rw [e10]
        have hin : wd ∈ nmd := by rw [c7]; decide
        have hd : HeadOk gd.letters ns wd nm 0 := by
          rw [c7]
          exact .name (hnm nm hnm') hnm'
        have hl10 : H10 l = some (.lst [.int (x0 : Int), .int u0]) := s10 _ _ (bt_at B9 (ni1 pl.symm) hl7)
        exact q (.ref t) (.mk wd nm []) x0 u0 H10 (B07.trans ((bt_weak (fun q hq => by rw [List.mem_singleton.mp hq]; simp) B9).trans (bt_of s10))) hl10 (by rw [GB.Tm.size, GB.Tm.sizes]; omega) (.mk hd fun i k h => by simp at h) (by rw [leaf_d hin]; exact .tup (SqT.of h10) (.cons (.str _) (.cons (.str _) .nil))) (P9.mono s10 (by rw [GB.Tm.size, GB.Tm.sizes]; omega))
      rw [decide_eq_false c7]
      refine iteF ?_
      refine ⟨_, rfl, rfl, _, rfl, ?_⟩
      rw [decS]
      have hG7 : IsG (hid [p, l] H7) g gd := hG6.mono (hid_same s7)
      have hD7 := s7 _ _ hD6
      have h7I := s7 _ _ h6I
      have hops7 : Paired (fun t q => H7 t = some (.tup [.str q.1, .int ((q.2 : Nat) : Int)])) ts opsI := Paired.mapP hops6 fun _ _ r => s7 _ _ r
      clear hops6 h6I hD6 hG6 ha6 hl6 B06 B56 B2 h7 e7
      have DGg : ∀ {H' : Hp}, IsG (hid [p, l] H') g gd → ∃ aL, DGet H' g (.str "letters") (some (.ref aL)) ∧ H' aL = some (.dK (lkv gd.letters)) := fun hG => by
        obtain ⟨aL, aF, aC, aT, g1, g2, _⟩ := hG.ex
        have e : valV [(.inr "letters", .ref aL), (.inr "fixed", .ref aF), (.inr "commuting", .ref aC), (.inr "facts", .ref aT)] (.inr "letters" : Key) = some (.ref aL) := valV_pos rfl
        exact ⟨aL, by rw [← e]; exact DGet.k (k := .inr "letters") (hid_in g1).1, (hid_in g2).1⟩
      have lsome : some_.length ≤ 8 := by
        have e : (lkv gd.letters).length = gd.letters.length := List.length_map _
        omega
      by_cases c8 : wd = "use"
      · rw [decide_eq_true c8]
        refine iteT ?_
        have sne : some_ ≠ [] := by
          rcases hW with h | h | h | h | ⟨m, h, _⟩
          · exact h.2
          · exact absurd (h.symm.trans c8) (by decide)
          · exact absurd (h.symm.trans c8) (by decide)
          · exact absurd (h.1.symm.trans c8) (by decide)
          · rw [c8] at h
            exact absurd rfl ((show ∀ q ∈ opsB, q.1 ≠ "use" by decide) _ h)
        refine ⟨_, rfl, _, rfl, p, D, sts some_, n + 1, rfl, SqL.of (hid_to (ni1 Dp_) hD7), fun e => sne (List.map_eq_nil_iff.mp e), by rw [sts_len]; omega, by omega, P7, fun v H8 hv B8 P8 => ?_⟩
        obtain ⟨x, hxs, rfl⟩ := mem_sts hv
        obtain ⟨k, hk, hkx⟩ := hsome x hxs
        have hk2 := wf.ar _ hk
        have B8' : Bt [p, l] H7 H8 := bt_weak (fun q hq => by rw [List.mem_singleton.mp hq]; simp) B8
        have hl8 := bt_at B8 (ni1 pl.symm) hl7
        have hG8 := hG7.mono B8'
        obtain ⟨aL8, dg8, hL8⟩ := DGg hG8
        have DG2 : DGet H8 aL8 (.str x) (some (.int (k : Int))) := by rw [← valV_lkv lnd hk]; exact DGet.k (k := .inr x) hL8
        refine ⟨_, rfl, l, _, ((0 : Nat) : Int), _, rfl, rfl, SqL.of hl8, atI_nat (j := 0) rfl, _, rfl, g, .ref aL8, rfl, dg8, _, rfl, aL8, .int (k : Int), rfl, DG2, _, _, rfl, rfl, _, rfl, l, _, ((1 : Nat) : Int), _, rfl, rfl, SqL.of hl8, atI_nat (j := 1) rfl, _, _, rfl, rfl, by show 2 ≤ sizeLine; decide, fun tt ntt => ?_⟩
        obtain ⟨H9, s9, h9, e9⟩ := lay (o := .tup [.int ((x0 : Int) - k), .int (u0 - 1)]) ntt
        rw [e9]
        refine ⟨tt, _, rfl, SqT.of h9, rfl, _, _, rfl, _, rfl, l, _, ((0 : Nat) : Int), 0, rfl, rfl, s9 _ _ hl8, rfl, ?_⟩
        refine ⟨_, _, rfl, _, rfl, l, _, ((1 : Nat) : Int), 1, rfl, rfl, upd_same, rfl, ?_⟩
        refine ⟨rfl, ?_⟩
        obtain ⟨H10, b10, h10, e10⟩ : ∃ H10, (∀ b o, b ≠ l → H9 b = some o → H10 b = some o) ∧ H10 l = some (.lst [.int (((x0 - k : Nat)) : Int), .int (u0 - 1)]) ∧ upd (upd H9 l (.lst ([V.int (x0 : Int), V.int u0].set 0 (V.int ((x0 : Int) - (k : Int)))))) l (.lst (([V.int (x0 : Int), V.int u0].set 0 (V.int ((x0 : Int) - (k : Int)))).set 1 (V.int (u0 - 1)))) = H10 :=
          ⟨_, fun b o z e => by rw [upd_ne z, upd_ne z]; exact e, by rw [upd_same, show (((x0 - k : Nat)) : Int) = (x0 : Int) - k by omega]; rfl, rfl⟩
        rw [e10]
        have B10 : Bt [p, l] H H10 := (B07.trans (B8'.trans (bt_of s9))).trans (by rw [← e10]; exact (bt_upd (by simp)).trans (bt_upd (by simp)))
        have B710 : Bt [p, l] H7 H10 := (B8'.trans (bt_of s9)).trans (by rw [← e10]; exact (bt_upd (by simp)).trans (bt_upd (by simp)))
        have P10 : PoolIs H10 p (n + 1 + 1) := by
          obtain ⟨x1, y1, w1', hp, r⟩ := P8.mono s9 (Nat.le_refl _)
          exact ⟨x1, y1, w1', b10 _ _ pl hp, r⟩
        have PL7 := pl_lists P7 hl7
        have hG10 := hG7.mono B710
        have ha10 := sqT_bt PL7 B710 ha7
        obtain ⟨aL10, dg10, hL10⟩ := DGg hG10
        have DG10 : DGet H10 aL10 (.str x) (some (.int (k : Int))) := by rw [← valV_lkv lnd hk]; exact DGet.k (k := .inr x) hL10
        refine ⟨_, rfl, _, rfl, _, rfl, g, .ref aL10, rfl, dg10, _, rfl, aL10, .int (k : Int), rfl, DG10, k, rfl, by omega, by omega, fun D3 nD3 => ?_⟩
        refine kids_ok (n := n + 2) (fun v => ⟨rfl, rfl, rfl, rfl, rfl⟩) nD3 hG10 wf ha10 hnm (by omega) pl h10 (by omega) (by omega) (by omega) P10 (by omega) fun ts x1 u1 H11 acc hts B11 hD11 hd11 hl11 hs11 ok11 P11 => ?_
        refine ⟨D3, acc, rfl, .inl ⟨SqL.of hD11, fun tk ntk => ?_⟩⟩
        obtain ⟨H12, s12, h12, e12⟩ := lay (o := .tup acc) ntk
        rw [e12]
        refine ⟨by show 3 ≤ sizeLine; decide, fun t nt => ?_⟩
        obtain ⟨H13, s13, h13, e13⟩ := lay (o := .tup [.str wd, .str x, .ref tk]) nt
        rw [e13]
        refine q (.ref t) (.mk wd x ts) x1 u1 H13 ((B10.trans B11).trans (bt_of (s12.trans s13))) (s13 _ _ (s12 _ _ hl11)) (by rw [GB.Tm.size]; omega) (.mk (by rw [c8, hts]; exact .use hk) fun i t' h => ?_) ?_ (P11.mono (s12.trans s13) (by rw [GB.Tm.size]; omega))
        · rw [c8]
          unfold nsAt
          rw [if_neg (fun h => absurd h.1 (by decide))]
          exact ok11 i t' h
        · rw [d_node, c8]
          exact .tup (by rw [← c8]; exact SqT.of h13) (.cons (.str _) (.cons (.str _) (.cons (.tup (SqT.of (s13 _ _ h12)) (dps_mono (s12.trans s13) hd11)) .nil)))
      rw [decide_eq_false c8]
      refine iteF ?_
      obtain ⟨m, hmB, hmx⟩ : ∃ m, (wd, m) ∈ opsB ∧ m ≤ x0 := by
        rcases hW with h | h | h | h | h
        · exact absurd h.1 c8
        · exact absurd (by rw [h]; decide) c6
        · exact absurd (by rw [h]; decide) c6
        · exact absurd h.1 c7
        · exact h
      have dictOf : ∀ {H' : Hp} {Q' : VK}, H' I = some (.lst (ts.map V.ref)) → Paired (fun t q => H' t = some (.tup [.str q.1, .int ((q.2 : Nat) : Int)])) ts opsI → (∀ H2, Same H' H2 → Q' (.int (m : Int)) H2) → ∃ (a : Addr) (ps : List Addr) (kvs : List (Key × V)), [V.ref I] = [.ref a] ∧ SqL K H' a (ps.map V.ref) ∧ Paired (fun p kv => SqT K H' p [kV kv.1, kv.2]) ps kvs ∧ ∀ p', H' p' = none → (fun (x : V) (H2 : Hp) => ∃ v, [some (V.str wd)][0]? = some (some v) ∧ ∃ (a : Addr) (v' : V), x = .ref a ∧ DGet H2 a v (some v') ∧ Q' v' H2) (.ref p') (upd H' p' (.dK (mergeK [] kvs))) := fun {H' Q'} hI ho qq => by
        refine ⟨I, ts, opsI.map fun q => ((.inr q.1 : Key), V.int ((q.2 : Nat) : Int)), rfl, SqL.of hI, ?_, fun p' np => ?_⟩
        · exact paired_map_r (Paired.mapP ho fun _ _ r => SqT.of r)
        · obtain ⟨H2, s2', h2', e2'⟩ := lay (o := .dK (mergeK [] (opsI.map fun q => ((.inr q.1 : Key), V.int ((q.2 : Nat) : Int))))) np
          rw [e2']
          have ev : valV (mergeK [] (opsI.map fun q => ((.inr q.1 : Key), V.int ((q.2 : Nat) : Int)))) (.inr wd : Key) = some (.int (m : Int)) := merge_ops _ hmB
          refine ⟨.str wd, rfl, p', _, rfl, ?_, qq H2 s2'⟩
          rw [← ev]
          exact DGet.k (k := .inr wd) h2'
      refine ⟨_, rfl, l, _, ((0 : Nat) : Int), _, rfl, rfl, SqL.of hl7, atI_nat (j := 0) rfl, ?_⟩
      refine ⟨_, rfl, dictOf (Q' := fun v H2 => rI0 (fun i j => .int (i - j)) (.int (x0 : Int)) v H2 _) h7I hops7 fun H8 s8 => ?_⟩
      refine ⟨_, _, rfl, rfl, ?_⟩
      have hl8 := s8 _ _ hl7
      refine ⟨_, rfl, l, _, ((0 : Nat) : Int), 0, rfl, rfl, hl8, rfl, ?_⟩
      obtain ⟨H9, b9, h9, B89, e9⟩ : ∃ H9, (∀ b o, b ≠ l → H8 b = some o → H9 b = some o) ∧ H9 l = some (.lst [.int (((x0 - m : Nat)) : Int), .int u0]) ∧ Bt [p, l] H8 H9 ∧ upd H8 l (.lst ([V.int (x0 : Int), V.int u0].set 0 (V.int ((x0 : Int) - (m : Int))))) = H9 :=
        ⟨_, fun b o z e => by rw [upd_ne z]; exact e, by rw [upd_same, show (((x0 - m : Nat)) : Int) = (x0 : Int) - m by omega]; rfl, bt_upd (by simp), rfl⟩
      rw [e9]
      have Il : I ≠ l := fun e => by
        rw [e, hl7] at h7I
        have h := congrArg List.length (HO.lst.inj (Option.some.inj h7I))
        rw [List.length_map, Paired.length hops7] at h
        exact absurd h (by show ¬ 2 = 9; decide)
      have h9I := b9 _ _ Il (s8 _ _ h7I)
      have hops9 : Paired (fun t q => H9 t = some (.tup [.str q.1, .int ((q.2 : Nat) : Int)])) ts opsI := Paired.mapP hops7 fun t q r => b9 _ _ (ne_of (s8 _ _ r) hl8 (by intro z; cases z)) (s8 _ _ r)
      have P9 : PoolIs H9 p (n + 1) := by
        obtain ⟨x1, y1, w1', hp, r⟩ := P7.mono s8 (Nat.le_refl _)
        exact ⟨x1, y1, w1', b9 _ _ pl hp, r⟩
      have B79 : Bt [p, l] H7 H9 := (bt_of s8).trans B89
      have PL7 := pl_lists P7 hl7
      have hG9 := hG7.mono B79
      have ha9 := sqT_bt PL7 B79 ha7
      have B09 : Bt [p, l] H H9 := B07.trans B79
      refine ⟨_, rfl, rfl, _, rfl, ?_⟩
      rw [decS]
      by_cases c10 : wd = "bind"
      · rw [decide_eq_true c10]
        refine iteT ?_
        have hm2 : m = 2 := by
          rw [c10] at hmB
          exact (show ∀ q ∈ opsB, q.1 = "bind" → q.2 = 2 by decide) _ hmB rfl
        refine ⟨_, rfl, by show 4 ≤ sizeLine; decide, fun b nb => ?_⟩
        obtain ⟨H10, s10, h10, e10⟩ := lay (o := .lst (sts ["v", "w", "x", "if"])) nb
        rw [show ([V.str "v", V.str "w", V.str "x", V.str "if"] : List V) = sts ["v", "w", "x", "if"] from rfl, e10]
        refine ⟨p, b, sts ["v", "w", "x", "if"], n + 1, rfl, SqL.of (hid_to (ni1 (P9.ne nb)) h10), (fun z => nomatch z), by decide, by omega, P9.mono s10 (Nat.le_refl _), fun v H11 hv B11 P11 => ?_⟩
        obtain ⟨nm, hnm', rfl⟩ := mem_sts hv
        have nB : nameB nm = true := (show ∀ x ∈ (["v", "w", "x", "if"] : List Str), nameB x = true by decide +kernel) nm hnm'
        have hl11 := bt_at B11 (ni1 pl.symm) (s10 _ _ h9)
        have B911 : Bt [p, l] H9 H11 := (bt_of s10).trans (bt_weak (fun q hq => by rw [List.mem_singleton.mp hq]; simp) B11)
        have PL9 := pl_lists P9 h9
        have hG11 := hG9.mono B911
        have ha11 := sqT_bt PL9 B911 ha9
        have PL11 := pl_lists P11 hl11
        refine ⟨_, rfl, _, rfl, _, rfl, _, rfl, p, g, a, l, gd, ns, x0 - m, u0, n + 2, rfl, hG11, wf, ha11, hnm, by omega, pl, hl11, by omega, by omega, P11, by omega, fun v1 t1 x1 u1 H12 B12 hl12 hs1 ok1 d1 P12 => ?_⟩
        have hG12 := hG11.mono B12
        have ha12 := sqT_bt PL11 B12 ha11
        refine ⟨_, rfl, _, rfl, _, rfl, _, rfl, _, rfl, _, rfl, _, rfl, by show 1 ≤ sizeLine; decide, fun tb ntb => ?_⟩
        obtain ⟨H13, s13, h13, e13⟩ := lay (o := .tup [.str nm]) ntb
        rw [e13]
        refine catA (Same.seqT s13 ha12) (SqT.of h13) (by rw [sts_len, sizeLine_eq]; simp; omega) fun nb2 H14 s14 hnb2 => ?_
        have S14 : Same H12 H14 := s13.trans s14
        have hl14 := S14 _ _ hl12
        have P14 := P12.mono S14 (Nat.le_refl _)
        have PL14 := pl_lists P14 hl14
        refine ⟨_, rfl, p, g, nb2, l, gd, ns ++ [nm], x1, u1, _, rfl, hG12.mono (hid_same S14), wf, by unfold sts; rw [List.map_append]; exact hnb2, fun y hy => ?_, by rw [List.length_append]; simp; omega, pl, hl14, by omega, by omega, P14, by omega, fun v2 t2 x2 u2 H15 B15 hl15 hs2 ok2 d2 P15 => ?_⟩
        · rcases List.mem_append.mp hy with h | h
          · exact hnm y h
          · rw [List.mem_singleton.mp h]; exact nB
        · have d1' := dp_bt PL14 B15 (tupO_d t1) (dp_mono S14 d1)
          refine ⟨by show 4 ≤ sizeLine; decide, fun t nt => ?_⟩
          obtain ⟨H16, s16, h16, e16⟩ := lay (o := .tup [.str wd, .str nm, v1, v2]) nt
          rw [e16]
          refine q (.ref t) (.mk wd nm [t1, t2]) x2 u2 H16 ((((B09.trans B911).trans B12).trans ((bt_of S14).trans B15)).trans (bt_of s16)) (s16 _ _ hl15) (by rw [GB.Tm.size, GB.Tm.sizes, GB.Tm.sizes, GB.Tm.sizes]; omega) (.mk (by rw [c10]; exact .bind nB hnm') fun i t' h => ?_) ?_ (P15.mono s16 (by rw [GB.Tm.size, GB.Tm.sizes, GB.Tm.sizes, GB.Tm.sizes]; omega))
          · match i, h with
            | 0, h =>
              obtain rfl := Option.some.inj h
              unfold nsAt
              rw [if_neg (fun h => absurd h.2 (by decide))]
              exact ok1
            | 1, h =>
              obtain rfl := Option.some.inj h
              unfold nsAt
              rw [if_pos ⟨c10, rfl⟩]
              exact ok2
            | i + 2, h => simp at h
          · rw [d_node, c10]
            exact .tup (by rw [← c10]; exact SqT.of h16) (.cons (.str _) (.cons (.str _) (.cons (dp_mono s16 d1') (.cons (dp_mono s16 d2) .nil))))
      rw [decide_eq_false c10]
      refine iteF ?_
      have hmW : (wd, m) ∈ opsW := by
        rcases List.mem_cons.mp hmB with h | h
        · exact absurd (Prod.mk.inj h).1 c10
        · exact h
      obtain ⟨nw1, nw2, nw3⟩ := ops_no _ hmW
      refine ⟨_, rfl, by show 1 ≤ sizeLine; decide, fun Lw nLw => ?_⟩
      obtain ⟨H10, s10, h10, e10⟩ := lay (o := .lst [.str wd]) nLw
      rw [e10]
      have hops10 : Paired (fun t q => H10 t = some (.tup [.str q.1, .int ((q.2 : Nat) : Int)])) ts opsI := Paired.mapP hops9 fun _ _ r => s10 _ _ r
      have hkv : Paired (fun (p : Addr) (kv : Key × V) => SqT K H10 p [kV kv.1, kv.2]) ts (opsI.map fun q => ((.inr q.1 : Key), V.int ((q.2 : Nat) : Int))) := by
        refine paired_map_r ?_
        exact Paired.mapP hops10 fun _ _ r => SqT.of r
      refine ⟨_, rfl, I, ts, _, rfl, SqL.of (s10 _ _ h9I), hkv, fun p' np => ?_⟩
      obtain ⟨H11, s11, h11, e11⟩ := lay (o := .dK (mergeK [] (opsI.map fun q => ((.inr q.1 : Key), V.int ((q.2 : Nat) : Int))))) np
      rw [e11]
      have ev : valV (mergeK [] (opsI.map fun q => ((.inr q.1 : Key), V.int ((q.2 : Nat) : Int)))) (.inr wd : Key) = some (.int (m : Int)) := merge_ops _ hmB
      have m3 : m ≤ 3 := (show ∀ q ∈ opsB, q.2 ≤ 3 by decide) _ hmB
      have m1 : 1 ≤ m := (show ∀ q ∈ opsB, 1 ≤ q.2 by decide) _ hmB
      refine ⟨.str wd, rfl, p', .int (m : Int), rfl, (by rw [← ev]; exact DGet.k (k := .inr wd) h11), m, rfl, by omega, by omega, fun D3 nD3 => ?_⟩
      have S911 : Same H9 H11 := s10.trans s11
      have hl11 := S911 _ _ h9
      have P11 := P9.mono S911 (Nat.le_refl _)
      refine kids_ok (n := n + 1) (fun v => ⟨rfl, rfl, rfl, rfl, rfl⟩) nD3 (hG9.mono (hid_same S911)) wf (Same.seqT S911 ha9) hnm (by omega) pl hl11 (by omega) (by omega) (by omega) P11 (by omega) fun tms x1 u1 H12 acc hts B12 hD12 hd12 hl12 hs12 ok12 P12 => ?_
      have Lwp : Lw ≠ p := P9.ne nLw
      have Lwl : Lw ≠ l := fun e => by rw [e, h9] at nLw; cases nLw
      have hLw := bt_at B12 (by simp [Lwp, Lwl]) (s11 _ _ h10)
      refine ⟨Lw, D3, _, _, rfl, rfl, hLw, hD12, by rw [dps_len hd12, List.length_map, hts, sizeLine_eq]; simp; omega, fun c nc => ?_⟩
      obtain ⟨H13, s13, h13, e13⟩ := lay (o := .lst (.str wd :: acc)) nc
      rw [show ([V.str wd] ++ acc) = .str wd :: acc from rfl, e13]
      refine ⟨c, _, rfl, .inl ⟨SqL.of h13, fun t nt => ?_⟩⟩
      obtain ⟨H14, s14, h14, e14⟩ := lay (o := .tup (.str wd :: acc)) nt
      rw [e14]
      refine q (.ref t) (.mk wd "" tms) x1 u1 H14 (((B09.trans (bt_of S911)).trans B12).trans (bt_of (s13.trans s14))) (s14 _ _ (s13 _ _ hl12)) (by rw [GB.Tm.size]; omega) (.mk (by rw [hts]; exact .op hmW) fun i t' h => ?_) ?_ (P12.mono (s13.trans s14) (by rw [GB.Tm.size]; omega))
      · unfold nsAt
        rw [if_neg (fun h => nw3 h.1)]
        exact ok12 i t' h
      · rw [d_node]
        unfold nodeT
        rw [if_neg nw2, if_neg nw3, if_pos (List.mem_map.mpr ⟨_, hmW, rfl⟩)]
        exact .tup (SqT.of h14) (.cons (.str _) (dps_mono (s13.trans s14) hd12))

end
end K4
set_option Elab.async false
set_option linter.all false
set_option maxRecDepth 100000
set_option maxHeartbeats 4000000
/-! repr of data, where no repr is under way; a term's text is short. -/
namespace GB
open PySem PySem.Spec L2
def rRepr (K : PySem.W.Frag) : List V → Hp → VK → Prop := fun xs H Q => ∃ (a : Addr) (d : PyData), xs = [.ref a] ∧ Dp K H (.ref a) d ∧ d.showable = true ∧ d.hasDict = false ∧ d.depth ≤ 100 ∧ d.shown.length ≤ sizeLine ∧ Q (.str d.shown) H
theorem call_repr {X : Cx} (hg : X.A.guards = some []) (hu : X.A.units + 110 < cLine) : CallR X (.builtin "repr") (rRepr X.K) := by
  intro pins s σ H xs us Q I r h
  obtain ⟨a, d, rfl, hd, h1, h2, h3, h4, q⟩ := h
  cases r with
  | cons r1 r2 =>
    cases r2
    cases r1
    obtain ⟨as, rd⟩ := Dp.reads I d (.ref a) (.ref a) hd rfl
    exact repr_of_reads' rd h1 (PyData.noDict_hsm h2) hg (by omega) (fun _ _ e => e) (fun h' u tk hk => ⟨.str d.shown, H, I.kept hk, ⟨_, rfl⟩, q⟩) h4
mutual
theorem tm_shows : ∀ t : Tm, t.d.showable = true ∧ t.d.intsShort 13 = true
  | .mk w n ks => by
    have h := tms_show ks
    rw [Tm.d]
    split
    · simp [PyData.showable, PyData.showableAll, PyData.intsShort, PyData.intsShortAll, h]
    · split
      · simp [PyData.showable, PyData.showableAll, PyData.intsShort, PyData.intsShortAll, h]
      · split
        · simp [PyData.showable, PyData.showableAll, PyData.intsShort, PyData.intsShortAll, h]
        · simp [PyData.showable, PyData.showableAll, PyData.intsShort, PyData.intsShortAll]
theorem tms_show : ∀ ks : List Tm, PyData.showableAll (Tm.ds ks) = true ∧ PyData.intsShortAll 13 (Tm.ds ks) = true
  | [] => ⟨rfl, rfl⟩
  | k :: r => by
    obtain ⟨a1, a2⟩ := tm_shows k
    obtain ⟨b1, b2⟩ := tms_show r
    rw [Tm.ds]
    simp [PyData.showableAll, PyData.intsShortAll, a1, a2, b1, b2]
end
theorem weight_tm {L : List (Str × Nat)} (hL : ∀ q ∈ L, nameB q.1 = true) {ns : List Str} {t : Tm} (h : TmOk L ns t) : t.d.weight + 1 ≤ 40 * t.size := by
  have n8 : ∀ {z : Str}, nameB z = true → z.cps.size ≤ 8 := fun {z} h => by
    unfold nameB at h
    have := of_decide_eq_true (Bool.and_eq_true_iff.mp h).1
    exact this.2
  induction h with
  | @mk ns w n ks hH hK ih =>
    have hks : ∀ (l : List Tm), (∀ k ∈ l, k.d.weight + 1 ≤ 40 * k.size) → PyData.weightAll (Tm.ds l) ≤ 40 * Tm.sizes l := by
      intro l
      induction l with
      | nil => intro _; rw [Tm.ds, Tm.sizes]; simp [PyData.weightAll]
      | cons k r ihr =>
        intro hh
        have h1 := hh k List.mem_cons_self
        have h2 := ihr fun k' hk' => hh k' (List.mem_cons_of_mem _ hk')
        rw [Tm.ds, Tm.sizes]
        simp only [PyData.weightAll]
        omega
    have hw : PyData.weightAll (Tm.ds ks) ≤ 40 * Tm.sizes ks := hks ks fun k hk => by
      obtain ⟨i, hi⟩ := List.mem_iff_getElem?.mp hk
      exact ih i k hi
    have wn : w.cps.size ≤ 5 ∧ n.cps.size ≤ 8 := by
      clear hw hks ih hK
      revert hH
      generalize ks.length = m
      intro hH
      cases hH with
      | val h => exact ⟨by decide, n8 h⟩
      | fail h => exact ⟨by decide, n8 h⟩
      | name h _ => exact ⟨by decide, n8 h⟩
      | use h => exact ⟨by decide, n8 (hL _ h)⟩
      | bind h _ => exact ⟨by decide, n8 h⟩
      | op ho => exact ⟨(show ∀ q ∈ opsW, q.1.cps.size ≤ 5 by decide) _ ho, by decide⟩
    rw [Tm.d, Tm.size]
    split
    · simp only [PyData.weight, PyData.weightAll]
      omega
    · split
      · simp only [PyData.weight, PyData.weightAll]
        omega
      · split
        · simp only [PyData.weight, PyData.weightAll]
          omega
        · simp only [PyData.weight, PyData.weightAll]
          omega
/-- [t, o] can be shown -/
theorem shows_two {L : List (Str × Nat)} (hL : ∀ q ∈ L, nameB q.1 = true) {ns ms : List Str} {t o : Tm} (h1 : TmOk L ns t) (h2 : TmOk L ms o) (s1 : t.size ≤ 20) (s2 : o.size ≤ 20) :
    (PyData.list [t.d, o.d]).showable = true ∧ (PyData.list [t.d, o.d]).hasDict = false ∧ (PyData.list [t.d, o.d]).depth ≤ 100 ∧ (PyData.list [t.d, o.d]).shown.length ≤ sizeLine := by
  have hs : ∀ q ∈ L, PyData.strOk q.1 = true := fun q hq => name_ok (hL q hq)
  obtain ⟨c1, d1⟩ := tm_lay hs h1
  obtain ⟨c2, d2⟩ := tm_lay hs h2
  obtain ⟨a1, b1⟩ := tm_shows t
  obtain ⟨a2, b2⟩ := tm_shows o
  have w1 := weight_tm hL h1
  have w2 := weight_tm hL h2
  have cl : PyData.canLay0 (.list [t.d, o.d]) = true := by simp [PyData.canLay0, PyData.canLayAll0, c1, c2]
  refine ⟨by simp [PyData.showable, PyData.showableAll, a1, a2], PyData.hasDict_of_canLay _ cl, ?_, ?_⟩
  · simp only [PyData.depth, PyData.depthAll]
    omega
  · refine PyData.shown_fits (B := 13) (by decide) (by decide) (PyData.leavesShort_of_canLay0 13 _ cl (by simp [PyData.intsShort, PyData.intsShortAll, b1, b2])) ?_
    simp only [PyData.weight, PyData.weightAll]
    omega
end GB
set_option Elab.async false
set_option linter.all false
set_option autoImplicit false
set_option maxRecDepth 100000
set_option maxHeartbeats 4000000
/-! Lists for tuples change nothing of what a text of it needs. -/
namespace GB
open PySem PySem.Spec L2
mutual
theorem Lo.py_eq : ∀ {d e : AD}, Lo d e → d.noDic = true → PyData.canLay0 e.py = PyData.canLay0 d.py ∧ PyData.depth e.py = PyData.depth d.py ∧ e.py.showable = d.py.showable ∧ e.py.intsShort 13 = d.py.intsShort 13 ∧ e.py.weight = d.py.weight
  | _, _, .same h, n => ⟨rfl, rfl, rfl, rfl, rfl⟩
  | .seq true xs, .seq true ys, .tup h, n => by
    obtain ⟨a, b, c, d, e⟩ := LoAll.py_eq h n
    simp only [AD.py, PyData.canLay0, PyData.depth, PyData.showable, PyData.intsShort, PyData.weight, a, b, c, d, e, and_self]
  | .seq true xs, .seq false ys, .tup h, n => by
    obtain ⟨a, b, c, d, e⟩ := LoAll.py_eq h n
    simp only [AD.py, PyData.canLay0, PyData.depth, PyData.showable, PyData.intsShort, PyData.weight, a, b, c, d, e, and_self]
theorem LoAll.py_eq : ∀ {ds es : List AD}, LoAll ds es → AD.noDics ds = true → PyData.canLayAll0 (AD.pys es) = PyData.canLayAll0 (AD.pys ds) ∧ PyData.depthAll (AD.pys es) = PyData.depthAll (AD.pys ds) ∧ PyData.showableAll (AD.pys es) = PyData.showableAll (AD.pys ds) ∧ PyData.intsShortAll 13 (AD.pys es) = PyData.intsShortAll 13 (AD.pys ds) ∧ PyData.weightAll (AD.pys es) = PyData.weightAll (AD.pys ds)
  | _, _, .nil, _ => ⟨rfl, rfl, rfl, rfl, rfl⟩
  | _, _, .cons h1 h2, n => by
    rw [AD.noDics] at n
    obtain ⟨n1, n2⟩ := Bool.and_eq_true_iff.mp n
    obtain ⟨a, b, c, d, e⟩ := Lo.py_eq h1 n1
    obtain ⟨a2, b2, c2, d2, e2⟩ := LoAll.py_eq h2 n2
    simp only [AD.pys, PyData.canLayAll0, PyData.depthAll, PyData.showableAll, PyData.intsShortAll, PyData.weightAll, a, b, c, d, e, a2, b2, c2, d2, e2, and_self]
end
/-- a loosened term can be shown -/
theorem shows_lo {L : List (Str × Nat)} (hL : ∀ q ∈ L, nameB q.1 = true) {ns : List Str} {t : Tm} (h : TmOk L ns t) (hs : t.size ≤ 20) {e : AD} (l : Lo (adOf t.d) e) (ht : (adOf t.d).py = t.d) (hn : (adOf t.d).noDic = true) :
    e.py.showable = true ∧ e.py.hasDict = false ∧ e.py.depth ≤ 100 ∧ e.py.shown.length ≤ sizeLine := by
  obtain ⟨a, b, c, d, w⟩ := l.py_eq hn
  rw [ht] at a b c d w
  obtain ⟨c1, d1⟩ := tm_lay (fun q hq => name_ok (hL q hq)) h
  obtain ⟨a1, b1⟩ := tm_shows t
  have w1 := weight_tm hL h
  refine ⟨by rw [c]; exact a1, PyData.hasDict_of_canLay _ (by rw [a]; exact c1), by omega, ?_⟩
  refine PyData.shown_fits (B := 13) (by decide) (by decide) (PyData.leavesShort_of_canLay0 13 _ (by rw [a]; exact c1) (by rw [d]; exact b1)) ?_
  omega
end GB
set_option Elab.async false
set_option linter.all false
set_option maxRecDepth 100000
set_option maxHeartbeats 8000000
/-! The end of a law whose own body asks repr: at the outer call it is known that no repr is under way. -/
namespace EndG
open PySem PySem.Spec PyProof.Rows L2 LamX
/-- a call of a def in one surrounding -/
theorem fn_at {CT : CXT} {P : Program} {w : World} {K : PySem.W.Frag} {mg : Str → Option Value} {base : Heap} {k : Nat} {f : Addr} {nm ql : Str} {par : Arguments} {body : List Stmt} {sc : Scope} {dV kV doc pm cdv ct oc : Value} {an od : Option Addr} {osl : Array (Option Value)} {N ps : List Str}
    (lk : K.lookup f = some ⟨oc, od, .func (PySem.W.fnOf nm ql par body sc dV kV doc pm an cdv ct), osl⟩) (hcd : PySem.W.codeIn K cdv ql = true) (S : FnScope N ps sc) {A : Around} {outer : List Env} {s : Shared} {H : Hp} {args : Args} {us : List Value} {vs : List V} {Q : VK} {E : XK}
    (hr : Room (k + 1) A) (e0 : Env0 P w K mg base A outer s H) (hb : BindsTo s (PySem.W.fnOf nm ql par body sc dV kV doc pm an cdv ct) args (ps.zip us)) (r : Vals vs us) (hl : vs.length = ps.length)
    (hbody : ∃ t, PSs (cxOf CT P w K mg base N ql sc f cdv A outer s H E) body t ∧ t { nx := fun _ J => Q .non J, rt := Q } (L2.start N vs) H) :
    codeAny (model P w) A (.call (.ref f) args) (CR CT outer P w H s Q E) s := by
  have kIn : K.In s.heap := e0.mod.kin.keeps fun b o e => (e0.bs b o e).1
  have nolim : s.heap.NoLimit := e0.mod.nolimit.keeps fun b o e => (e0.bs b o e).1
  have kinds : ∀ y ∈ ps.zip us, sc.names.lookup y.1 = some .local ∨ (sc.names.lookup y.1 = some .cell ∧ ((cellsFrom (s.heap.objs.size + 1) sc.names []).lookup y.1).isSome = true) := by
    rintro ⟨n, v⟩ hy
    exact (S.par n (List.of_mem_zip hy).1).elim .inl fun q => .inr ⟨q, PySem.W.cellsFrom_some _ _ _ (.inl q)⟩
  refine codeAny_call_function hr.depth (kIn _ _ lk) rfl S.co S.gen rfl (PySem.W.codeRec_of kIn hcd) (hb _ _ _ _ (wpAny_newFunctionEnv_cells S.kind kinds fun env he t x => ?_))
  subst he
  refine ⟨nolim.keeps x.toInCall.keep, codeAny_func ?_⟩
  obtain ⟨tb, ht, hq⟩ := hbody
  have I : Inv (cxOf CT P w K mg base N ql sc f cdv A outer s H E) [] (L2.start N vs) H t := inv_start S hr.hd e0 hl r x
  refine wpAny_mono (ht.run [] t (L2.start N vs) H _ I hq) (fun fl t2 hs => ?_) fun e t2 hs => hs
  cases fl with
  | ret u => obtain ⟨v, τ, J, I2, rv, q⟩ := hs; exact ⟨v, J, I2.os, I2.bare, I2.base, I2.hok, rv, q⟩
  | next => obtain ⟨τ, J, I2, q⟩ := hs; exact ⟨V.non, J, I2.os, I2.bare, I2.base, I2.hok, rfl, q⟩
  | brk => exact hs.elim fun _ z => z.elim fun _ z => z.2.elim
  | cont => exact hs.elim fun _ z => z.elim fun _ z => z.2.elim
section
variable {P : Program} {w : World} {K : PySem.W.Frag} {mg mb : Str → Option Value} {fa a : Addr} {cs : List (Addr × Addr)} {t0 : Shared} {vs : List Value} {ns : List Int}
/-- the outer call, from what is promised of it alone -/
theorem call_top (KX : K.In t0.heap) (hns : t0.heap.Ns mainGlobals mg) (hb : t0.heap.Ns builtinsNs mb) (hbb : ∀ x : Str, x ≠ "__name__" → mb x = bootBuiltins x) (hlim : t0.heap.NoLimit) (hg : t0.gens = #[])
    (hT : ∀ p ∈ cs, t0.heap.get? p.2 = some { cls := .none, data := .fields #[] }) (nT : ∀ p ∈ cs, K.lookup p.2 = none) (hC : ∀ p ∈ cs, PySem.W.CodeHd t0.heap p.1 p.2)
    (hbm : ∃ (bm : Addr) (ob : Obj), mg "__builtins__" = some (.ref bm) ∧ bm ≠ builtinsNs ∧ t0.heap.get? bm = some ob ∧ ob.cls = .type "module" ∧ ob.dict = some builtinsNs ∧ ob.data = .plain)
    (ha : t0.heap.get? a = some { cls := .type "list", data := .seq vs.toArray }) (hi : IntsAre vs ns) (hl : ns.length ≤ sizeLine)
    (F : ∀ (base : Heap) (H : Hp), K.In base → base.Ns mainGlobals mg → (∀ p ∈ cs, TabB base mg p.1 p.2) → Env0 P w K mg base callerA [] t0 H → (∀ p ∈ cs, H p.2 = some (.tbl #[])) → SqL K H a (ns.map V.int) →
      codeAny (model P w) callerA (.call (.ref fa) ⟨[.ref a], []⟩) (CR CX0 [] P w H t0 (fun v _ => v = .bl true) fun _ _ _ => False) t0) :
    codeAny (model P w) callerA (.call (.ref fa) ⟨[.ref a], []⟩) (fun r t => r = .ok (.ret (.bool true)) ∧ OldK t0.heap t.heap ∧ t.os = t0.os ∧ AllBare t.gens) t0 := by
  have rv := vals_ints hi
  have lenV := hi.length
  have tabAt : ∀ b : Addr, b ∈ cs.map (·.2) → t0.heap.get? b = some { cls := .none, data := .fields #[] } := by
    intro b hb
    obtain ⟨p, hp, rfl⟩ := List.mem_map.mp hb
    exact hT p hp
  have aNo : a ∉ cs.map (·.2) := by
    intro z
    have q := ha.symm.trans (tabAt a z)
    have d : Data.seq vs.toArray _ = Data.fields #[] := congrArg Obj.data (Option.some.inj q)
    cases d
  have inT : ∀ p ∈ cs, p.2 ∈ cs.map (·.2) := fun p hp => List.mem_map.mpr ⟨p, hp, rfl⟩
  have core : ∀ H : Hp, (∀ p ∈ cs, H p.2 = some (.tbl #[])) → (∀ b, H b = none ∨ b ∈ cs.map (·.2) ∨ ∃ o xs, H b = some (.frz o (.lst xs))) → SqL K H a (ns.map V.int) → HOk P w H t0.heap → (∀ b, H b ≠ none → b = a ∨ b ∈ cs.map (·.2)) → (H a ≠ none → K.lookup a = none) →
      codeAny (model P w) callerA (.call (.ref fa) ⟨[.ref a], []⟩) (fun r t => r = .ok (.ret (.bool true)) ∧ OldK t0.heap t.heap ∧ t.os = t0.os ∧ AllBare t.gens) t0 := by
    intro H hH hO hS hok hA hK
    have low : ∀ {b : Addr} {o : Obj}, t0.heap.get? b = some o → H b = none → (hidT t0.heap H).get? b = some o := fun e n => hidT_get e n
    have free : ∀ {b : Addr} {o : Obj}, t0.heap.get? b = some o → (∀ us n, o.data ≠ .seq us n) → o.data ≠ .fields #[] → H b = none := by
      intro b o e h1 h2
      by_cases q : H b = none
      · exact q
      · rcases hA b q with z | z
        · rw [z, ha] at e
          cases e
          exact absurd rfl (h1 _ _)
        · rw [tabAt b z] at e
          cases e
          exact absurd rfl h2
    have lowNs : ∀ {b : Addr} {m : Str → Option Value}, t0.heap.Ns b m → (hidT t0.heap H).Ns b m := by
      rintro b m ⟨o, es, ep, e, d, r⟩
      exact ⟨o, es, ep, low e (free e (fun us n z => by rw [d] at z; cases z) fun z => by rw [d] at z; cases z), d, r⟩
    have hKb : K.In (hidT t0.heap H) := by
      intro b o e
      refine low (KX b o e) ?_
      by_cases q : H b = none
      · exact q
      · rcases hA b q with z | z
        · subst z
          rw [hK q] at e
          cases e
        · obtain ⟨p, hp, rfl⟩ := List.mem_map.mp z
          rw [nT p hp] at e
          cases e
    have hM : L2.Mod K mg (hidT t0.heap H) := ⟨hKb, lowNs hns, ⟨mb, lowNs hb, hbb⟩, let ⟨mc, h1, h2⟩ := hlim; ⟨mc, lowNs h1, h2⟩⟩
    have TB : ∀ p ∈ cs, TabB (hidT t0.heap H) mg p.1 p.2 := by
      intro p hp
      refine ⟨?_, ?_, ?_⟩
      · obtain ⟨o, us, file, tf, flags, tg, inF, text, tt, e1, r1, r2, r3, rest⟩ := hC p hp
        refine ⟨o, us, file, tf, flags, tg, inF, text, tt, low e1 (free e1 (fun us n z => by rw [r2] at z; cases z) fun z => ?_), r1, r2, r3, rest⟩
        rw [r2] at z
        cases z
        simp at r3
      · obtain ⟨bm, ob, b1, b2, b3, b4, b5, b6⟩ := hbm
        refine ⟨bm, ob, b1, b2, fun q => ?_, fun q => ?_, low b3 (free b3 (fun us n z => by rw [b6] at z; cases z) fun z => by rw [b6] at z; cases z), b4, b5, b6⟩
        · obtain ⟨o, es, ep, e, hd, _⟩ := hns
          rw [q, e] at b3
          cases b3
          rw [hd] at b6
          cases b6
        · rw [q, hT p hp] at b3
          cases b3
          cases b6
      · intro z
        obtain ⟨o, es, ep, e, hd, _⟩ := hns
        rw [z, hT p hp] at e
        cases e
        cases hd
    have e0 : Env0 P w K mg (hidT t0.heap H) callerA [] t0 H := ⟨rfl, hM, fun b o e => of_hidT e, Nat.le_of_eq (hidT_size _ _), trivial, fun b hb => absurd (show b ∈ ([] : List Addr) from hb) (by simp), hok, .of_eq hg⟩
    refine codeAny_mono (F _ H hKb (lowNs hns) TB e0 hH hS) fun r t h => ?_
    cases r with
    | error e => exact False.elim h
    | ok fl =>
      cases fl with
      | next => exact False.elim h
      | brk => exact False.elim h
      | cont => exact False.elim h
      | ret u =>
        obtain ⟨v, J, os, bare, un, hok2, rr, q⟩ := h
        have q2 : v = .bl true := q
        subst q2
        obtain rfl : u = Value.bool true := rr
        have stays : ∀ b o, b ∉ cs.map (·.2) → t0.heap.get? b = some o → t.heap.get? b = some o := by
          intro b o nb e
          by_cases hn : H b = none
          · exact un.keep b o e hn (by intro z; exact absurd (show b ∈ ([] : List Addr) from z) (by simp)) (by simp)
          · rcases hO b with z | z | ⟨ob, xs, z⟩
            · exact absurd z hn
            · exact absurd z nb
            · obtain ⟨e1, _⟩ := hok b _ z
              obtain ⟨e2, _⟩ := hok2 b _ (un.frzs b ob _ z)
              rw [e] at e1
              cases e1
              exact e2
        have grow : ∀ p ∈ cs, ∃ more : Array Value, t.heap.get? p.2 = some { cls := .none, data := .fields more } := by
          intro p hp
          obtain ⟨more, z⟩ := un.tbls p.2 #[] (hH p hp)
          exact ⟨_, hok2 p.2 _ z⟩
        refine ⟨rfl, ⟨fun b o e => ?_, fun b o e => ?_⟩, os, bare⟩
        · by_cases hbT : b ∈ cs.map (·.2)
          · obtain ⟨p, hp, rfl⟩ := List.mem_map.mp hbT
            obtain ⟨more, hm⟩ := grow p hp
            rw [hT p hp] at e
            cases e
            exact .inr (.inl ⟨((hC p hp).tab (hT p hp)).isCodeTable, rfl, #[], more, rfl, by rw [Array.empty_append]; exact hm⟩)
          · exact .inl (stays b o hbT e)
        · by_cases hbT : b ∈ cs.map (·.2)
          · obtain ⟨p, hp, rfl⟩ := List.mem_map.mp hbT
            obtain ⟨more, hm⟩ := grow p hp
            exact ⟨_, hm⟩
          · exact ⟨o, stays b o hbT e⟩
  cases hk : K.lookup a with
  | some o =>
    have e := (KX a o hk).symm.trans ha
    cases e
    refine core (fun b => if b ∈ cs.map (·.2) then some (.tbl #[]) else none) (fun p hp => if_pos (inT p hp)) (fun b => ?_) (.inr ⟨_, vs.toArray, _, hk, rfl, rfl, rfl, by rw [List.size_toArray, lenV]; exact hl, by simpa using rv⟩) (fun b u z => ?_) (fun b z => ?_) fun z => absurd (show (if a ∈ cs.map (·.2) then some (HO.tbl #[]) else none) = none from if_neg aNo) z
    · by_cases hbT : b ∈ cs.map (·.2)
      · exact .inr (.inl hbT)
      · exact .inl (if_neg hbT)
    · by_cases hbT : b ∈ cs.map (·.2)
      · cases (if_pos hbT).symm.trans z
        exact tabAt b hbT
      · cases (if_neg hbT).symm.trans z
    · by_cases hbT : b ∈ cs.map (·.2)
      · exact .inr hbT
      · exact absurd (if_neg hbT) z
  | none =>
    refine core (fun b => if b = a then some (.frz { cls := .type "list", data := .seq vs.toArray } (.lst (ns.map V.int))) else if b ∈ cs.map (·.2) then some (.tbl #[]) else none)
      (fun p hp => (if_neg (show ¬ p.2 = a from fun z => aNo (by rw [← z]; exact inT p hp))).trans (if_pos (inT p hp))) (fun b => ?_) (.inl (.inr ⟨{ cls := .type "list", data := .seq vs.toArray }, if_pos rfl⟩)) (fun b u z => ?_) (fun b z => ?_) fun _ => hk
    · by_cases h1 : b = a
      · exact .inr (.inr ⟨_, _, if_pos h1⟩)
      · by_cases hbT : b ∈ cs.map (·.2)
        · exact .inr (.inl hbT)
        · exact .inl ((if_neg h1).trans (if_neg hbT))
    · by_cases h1 : b = a
      · cases (if_pos h1).symm.trans z
        rw [h1]
        exact ⟨ha, by rw [List.length_map]; exact hl, vs, _, rv, ha⟩
      · have z1 := (if_neg h1).symm.trans z
        by_cases hbT : b ∈ cs.map (·.2)
        · cases (if_pos hbT).symm.trans z1
          exact tabAt b hbT
        · cases (if_neg hbT).symm.trans z1
    · by_cases h1 : b = a
      · exact .inl h1
      · by_cases hbT : b ∈ cs.map (·.2)
        · exact .inr hbT
        · exact absurd ((if_neg h1).trans (if_neg hbT)) z
end
/-- what is known of the law at the head's heap h: its body's promise, in the outer call's surrounding -/
def LawG (l : PySem.W.OpenLaw) (w : World) (K : PySem.W.Frag) (k n : Nat) (x : Str) (N : List Str) (mg : Str → Option Value) (fa : Addr) (h : Heap) : Prop :=
  ∃ (cs : List (Addr × Addr)) (nm ql : Str) (par : Arguments) (body : List Stmt) (sc : Scope) (dV kV doc pm cdv ct oc : Value) (an od : Option Addr) (osl : Array (Option Value)), K.lookup fa = some ⟨oc, od, .func (PySem.W.fnOf nm ql par body sc dV kV doc pm an cdv ct), osl⟩ ∧ PySem.W.codeIn K cdv ql = true ∧ FnScope N [x] sc ∧
    (∀ p ∈ cs, h.get? p.2 = some { cls := .none, data := .fields #[] }) ∧ (∀ p ∈ cs, K.lookup p.2 = none) ∧ (∀ p ∈ cs, PySem.W.CodeHd h p.1 p.2) ∧ (∀ (s : Shared) (u : Value), BindsTo s (PySem.W.fnOf nm ql par body sc dV kV doc pm an cdv ct) ⟨[u], []⟩ [(x, u)]) ∧
    ∀ (base : Heap) (t : Shared) (H : Hp) (a : Addr) (ns : List Int), K.In base → base.Ns mainGlobals mg → (∀ p ∈ cs, TabB base mg p.1 p.2) → ns.length ≤ n → (∀ p ∈ cs, H p.2 = some (.tbl #[])) → SqL K H a (ns.map V.int) → Room k (callerA.deeper (envOfC ql sc t.heap.objs.size fa cdv)) →
      ∃ tb, PSs (cxOf CX0 l.prog w K mg base N ql sc fa cdv callerA [] t H fun _ _ _ => False) body tb ∧ tb { nx := fun _ J => (V.non : V) = .bl true, rt := fun v _ => v = .bl true } (L2.start N [.ref a]) H
theorem walk_g {l : PySem.W.OpenLaw} {n k : Nat} {q : Program} {loose : List Str} {XP : (Str → Option Value) → Heap → Prop} {YP : World → Heap → Prop} {d : DefRec} {K : Params → PySem.W.Frag} {x : Str} {N : List Str}
    (hn : l.most = some n) (hn2 : n ≤ sizeLine) (hdf : d.params.defaults = []) (hr : Room (k + 1) callerA) (hrec : ((recsOf q).any fun e => e.name == d.name) = true) (hY : ∀ (w : World) (h : Heap), YP w h → (K w.params).In h)
    (F : ∀ (w : World) (mg : Str → Option Value) (fa : Addr) (h : Heap), (K w.params).In h → h.Ns mainGlobals mg → mg d.name = some (.ref fa) → OwnTab (K w.params) fa h → LawG l w (K w.params) k n x N mg fa h) :
    PySem.W.WalkO q loose XP YP l.row.toRowW d [] (fun f vs => PySem.call f vs) := by
  refine Att.attach_callB hn hdf fun w s₀ s₁ mg mb fa o pm cd doc a vs ns G Y ho hd hcd hmg hobj hints hlen hbits hg => ?_
  have KX := hY w _ Y
  have own : OwnTab (K w.params) fa s₁.heap := by
    intro c P o1 fd1 e dd vs1 sl k1 k2 k3 k4 k5
    obtain ⟨dL, hm, hn1⟩ := List.any_eq_true.mp hrec
    obtain ⟨a', o', fd', c', P', h1, h2, h3, h4, h5, ⟨oc, vc, e1, _, e3, e4⟩, hP⟩ := G.T.tab dL hm
    rw [show dL.name = d.name from beq_iff_eq.mp hn1, hmg] at h1
    cases h1
    cases (KX _ _ k1).symm.trans h2
    cases k2.symm.trans h3
    cases k3.symm.trans h4
    cases (KX _ _ k4).symm.trans e1
    cases e3
    cases k5.symm.trans e4
    exact hP
  obtain ⟨cs, nm, ql, par, body, sc, dV, kV, doc2, pm2, cdv, ct, oc, an, od, osl, lk, hcd2, S, hT, nT, hC, hbd, hF⟩ := F w mg fa _ KX G.T.g hmg own
  refine call_top KX G.T.g G.T.b G.T.builtins G.T.nolimit hg hT nT hC G.T.bmain hobj hints (Nat.le_trans hlen hn2) fun base H KB GB TB e0 hH hS => ?_
  exact fn_at (us := [.ref a]) (vs := [.ref a]) lk hcd2 S hr e0 (hbd _ _) (.cons rfl .nil) rfl (hF base s₁ H a ns KB GB TB hlen hH hS (hr.deeper _))
end EndG
set_option Elab.async false
set_option linter.all false
set_option autoImplicit false
set_option maxRecDepth 100000
set_option maxHeartbeats 16000000
namespace GB
open PySem PySem.Spec L2
theorem pool_at4 {H : Hp} {p : Addr} {n : Nat} (P : PoolIs H p n) : Lives [p] H := fun q hq => by
  rw [List.mem_singleton.mp hq]
  obtain ⟨a, b, c, h, _⟩ := P
  exact ⟨_, h⟩
theorem gr_hid4 {C : Addr} {ps : List Addr} {H : Hp} {G : Addr} {g : GD} (hl : Lives ps H) (h : IsGr C H G g) : IsGr C (hid ps H) G g := by
  obtain ⟨dx, fs, aL, h1, h2, h3, h4⟩ := h.ex
  have ni : ∀ {a : Addr} {o : HO}, H a = some o → (∀ ys, o ≠ .lst ys) → a ∉ ps := fun e n m => by
    obtain ⟨ys, e2⟩ := hl _ m
    rw [e] at e2
    exact n ys (Option.some.inj e2)
  exact ⟨dx, fs, aL, hid_to (ni h1 fun ys z => nomatch z) h1, h2, hid_to (ni h3 fun ys z => nomatch z) h3, h4⟩
theorem lay_pin4 : ∀ p : List Nat, PyData.canLayAll0 (p.map fun i : Nat => PyData.int (i : Int)) = true ∧ PyData.depthAll (p.map fun i : Nat => PyData.int (i : Int)) = 0
  | [] => ⟨rfl, rfl⟩
  | i :: r => by
    obtain ⟨h1, h2⟩ := lay_pin4 r
    refine ⟨?_, ?_⟩
    · show (PyData.canLay0 (.int (i : Int)) && _) = true
      rw [h1, PyData.canLay0]
      rfl
    · show max (PyData.depth (.int (i : Int))) _ = 0
      rw [h2, PyData.depth]
      rfl
theorem path_can4 (r : List Nat) : PyData.canLay0 (pathD r) = true := by unfold pathD; rw [PyData.canLay0]; exact (lay_pin4 r).1
theorem two_can {s : Str} {d : PyData} (hs : PyData.strOk s = true) (hd : PyData.canLay0 d = true) : PyData.canLay0 (.tuple [.str s, d]) = true := by
  rw [PyData.canLay0]
  show (PyData.canLay0 (.str s) && (PyData.canLay0 d && true)) = true
  rw [hd, show PyData.canLay0 (.str s) = true by rw [PyData.canLay0]; exact hs]
  rfl
theorem two_sh {s : Str} {d : PyData} (hs : PyData.strOk s = true) (hd : PyData.canLay0 d = true) (hz : PyData.depth d ≤ 60) : SeqAt.shaped (.tuple [.str s, d]) = true := by
  have z : PyData.depth (.tuple [.str s, d]) ≤ 64 := by
    rw [PyData.depth]
    show max (PyData.depth (.str s)) (max (PyData.depth d) 0) + 1 ≤ 64
    have z : PyData.depth (.str s) = 0 := by rw [PyData.depth]
    omega
  unfold SeqAt.shaped
  rw [two_can hs hd, decide_eq_true z]
  rfl
theorem neD_two {K : PySem.W.Frag} {J : Hp} {pf pq : Addr} {s : Str} {x y : V} {d : PyData} {Q : VK} (hs : PyData.strOk s = true) (hd : PyData.canLay0 d = true) (hz : PyData.depth d ≤ 60) (h1 : J pf = some (.tup [.str s, x])) (h2 : Dp K J x d) (h3 : J pq = some (.tup [.str s, y])) (h4 : Dp K J y d) (q : Q (.bl false) J) : rNeD K (.ref pf) (.ref pq) J Q := by
  refine ⟨.tuple [.str s, d], .tuple [.str s, d], .tup (SqT.of h1) (.cons (.str _) (.cons h2 .nil)), .tup (SqT.of h3) (.cons (.str _) (.cons h4 .nil)), two_sh hs hd hz, two_sh hs hd hz, ?_⟩
  rw [SeqAt.eqv_refl _ (two_can hs hd)]
  exact q
theorem dp_path4 {K : PySem.W.Frag} {H : Hp} {b : Addr} {r : List Nat} (h : SqT K H b (pin r)) : Dp K H (.ref b) (pathD r) := .tup h (dps_pin r)
theorem path_dep (r : List Nat) : PyData.depth (pathD r) ≤ 60 := by
  unfold pathD
  rw [PyData.depth, (lay_pin4 r).2]
  decide
theorem Gd.ref {K : PySem.W.Frag} {H : Hp} {L : List (Str × Nat)} {ns : List Str} {d : AD} {t : Tm} {v : V} (h : Gd L ns d t) (hv : AdAt K H v d) : ∃ a, v = .ref a := by
  cases h with
  | mk hn _ _ _ => obtain ⟨p, us, e, _⟩ := hn.v hv; exact ⟨p, e⟩
theorem ns_then (i : Nat) (ns : List Str) : nsAt "then" "" i ns = ns := by
  unfold nsAt
  rw [if_neg (fun h => absurd h.1 (by decide))]
theorem then_op : (("then" : Str), 2) ∈ opsW := by decide +kernel
theorem then_res {L : List (Str × Nat)} {ns : List Str} {z : Nat} {d e : AD} (h1 : SpRes L ns z d) (h2 : SpRes L ns 1 e) : SpRes L ns (z + 2) (.seq true [.str "then", d, e]) := by
  rcases h1 with ⟨t, rfl, ho, hs⟩ | ⟨r, hb⟩
  · rcases h2 with ⟨t2, rfl, ho2, hs2⟩ | ⟨r2, hb2⟩
    · refine .inl ⟨.mk "then" "" [t, t2], (own_op then_op "" [t, t2]).symm, .mk (.op then_op) fun i k hk => ?_, ?_⟩
      · rw [ns_then]
        match i, hk with
        | 0, hk => obtain rfl := Option.some.inj hk; exact ho
        | 1, hk => obtain rfl := Option.some.inj hk; exact ho2
      · rw [Tm.size, Tm.sizes, Tm.sizes, Tm.sizes]; omega
    · refine .inr ⟨1 :: r2, .within (.op then_op) (.op then_op) (i := 1) rfl (fun j x hji hx => ?_) (by rw [ns_then]; exact hb2.up (by omega)) (by show 2 ≤ 1000; decide)⟩
      obtain rfl : j = 0 := by omega
      obtain rfl := Option.some.inj hx
      exact ⟨t, by rw [ns_then]; exact Gd.own ho, by omega⟩
  · exact .inr ⟨0 :: r, .within (.op then_op) (.op then_op) (i := 0) rfl (fun j x hji hx => absurd hji (by omega)) (by rw [ns_then]; exact hb.up (by omega)) (by show 2 ≤ 1000; decide)⟩
theorem three_res (L : List (Str × Nat)) : ∀ d ∈ ([.non, .seq true [.str "name", .str "none"], vOne] : List AD), SpRes L [] 1 d ∧ d.sz ≤ 3 := by
  intro d hd
  simp only [List.mem_cons, List.not_mem_nil, or_false] at hd
  rcases hd with rfl | rfl | rfl
  · exact ⟨.inr ⟨[], .odd (.flat rfl)⟩, by simp [AD.sz]⟩
  · exact ⟨.inr ⟨[], .odd (.free (by decide +kernel) (by simp))⟩, by simp [AD.sz, AD.szs]⟩
  · exact ⟨.inl ⟨.mk "value" "one" [], rfl, .mk (.val (by decide +kernel)) (fun i k h => nomatch h), by decide⟩, by simp [AD.sz, AD.szs, vOne]⟩
end GB
namespace K4
open PySem PySem.Spec L2 GB
abbrev sLaw : Stmt := topS 47
def lawN : List Str := ["_law_script", "_law_turn", "_law_pool_here", "_law_g", "_law_ground_here", "_law_k", "_law_term_here", "_law_handed", "_law_kept", "_law_bad", "_law_path", "_law_due"]
theorem scLaw : FnScope lawN ["_law_script"] (defScope sLaw) := ⟨rfl, rfl, rfl, by decide +kernel, rfl, by decide +kernel, by decide +kernel⟩
structure LawT (P : Program) (w : World) (K : PySem.W.Frag) (mg : Str → Option Value) (base : Heap) (C CB : Addr) : Prop where
  T : Bl mg
  gRp : mg "repr" = none
  CE : Fns P w K mg base "_law_cell" 1 ["_law_script", "_law_k"] (GB.spCell K)
  PL : Fns P w K mg base "_law_pool" 1 ["_law_grain"] spPool
  TK : Fns P w K mg base "_law_take" 1 ["_law_pool_here", "_law_many_here"] spTake
  ON : Fns P w K mg base "_law_one" 2 ["_law_pool_here", "_law_things"] (spOne K)
  GR : Fns P w K mg base "_law_ground" 3 ["_law_pool_here", "_law_most"] spGround
  MD : Fns P w K mg base "_law_made" 7 ["_law_g"] (spMade C)
  TM : Fns P w K mg base "_law_term" 16 ["_law_pool_here", "_law_g", "_law_names", "_law_left"] (spTerm K 14)
  LO : Fns P w K mg base "_law_loose" 62 ["_law_pool_here", "_law_thing"] (spLoose K 60)
  SP : Fns P w K mg base "_law_spoilt" 13 ["_law_pool_here", "_law_g", "_law_term_here"] (spSp K 10)
  FB : Fns P w K mg base "_law_first_bad" 17 ["_law_g", "_law_thing", "_law_names", "_law_path"] (spFb K 14)
  MT : Fns P w K mg base "_law_met" 35 ["_law_ground_here", "_law_thing"] (spMet K C CB)
section
variable {P : Program} {w : World} {K : PySem.W.Frag} {mg : Str → Option Value} {base : Heap} {C CB f a : Addr} {cdv : Value}
theorem ok_law {s : Shared} {H : Hp} {ns : List Int} (Z : LawT P w K mg base C CB) (hr : Room 70 (callerA.deeper (PyProof.Rows.envOfC "law" (defScope sLaw) s.heap.objs.size f cdv))) (hS : SqL K H a (ns.map V.int)) :
    ∃ t, PSs (cxOf CX0 P w K mg base lawN "law" (defScope sLaw) f cdv callerA [] s H (fun _ _ _ => False)) (defBody sLaw) t ∧ t { nx := fun _ J => (V.non : V) = .bl true, rt := fun v _ => v = .bl true } (L2.start lawN [.ref a]) H := by
  obtain ⟨T, gRp, CE, PL, TK, ON, GR, MD, TM, LO, SP, FB, MT⟩ := Z
  have hu110 : (callerA.deeper (PyProof.Rows.envOfC "law" (defScope sLaw) s.heap.objs.size f cdv)).units + 110 < cLine := by have h := hr.un; omega
  have hgd : (callerA.deeper (PyProof.Rows.envOfC "law" (defScope sLaw) s.heap.objs.size f cdv)).guards = some [] := rfl
  have key : ∃ t, PSs (cxOf CX0 P w K mg base lawN "law" (defScope sLaw) f cdv callerA [] s H (fun _ _ _ => False)).nox (defBody sLaw) t ∧ t { nx := fun _ J => (V.non : V) = .bl true, rt := fun v _ => v = .bl true } (L2.start lawN [.ref a]) H := by
    refine ⟨_, pss_cons (ps_for PassesOwn.never rfl (pi_range1 rfl T.range (pa_cons pe_int pa_nil)) (pg_name (i := 1) scLaw.nd rfl (.inl rfl)) (pss_cons (ps_set (i := 2) scLaw.nd rfl (.inl rfl) (pe_fn PL hr (by decide) rfl (pa_cons (pe_op op_add (pe_fn CE hr (by decide) rfl (pa_cons (pv 0) (pa_cons (pv 1) (pa_nil)))) (pv 1)) (pa_nil)))) (pss_cons (ps_set (i := 3) scLaw.nd rfl (.inl rfl) (pe_fn GR hr (by decide) rfl (pa_cons (pv 2) (pa_cons (pe_int) (pa_nil))))) (pss_cons (ps_set (i := 4) scLaw.nd rfl (.inl rfl) (pe_fn MD hr (by decide) rfl (pa_cons (pv 3) (pa_nil)))) (pss_one (ps_for PassesOwn.never rfl (pi_range1 rfl T.range (pa_cons pe_int pa_nil)) (pg_name (i := 5) scLaw.nd rfl (.inl rfl)) (pss_cons (ps_set (i := 6) scLaw.nd rfl (.inl rfl) (pe_fn TM hr (by decide) rfl (pa_cons (pv 2) (pa_cons (pv 3) (pa_cons (pe_tup pa_nil) (pa_cons (pe_lst (pa_cons (pe_int) (pa_cons (pe_int) (pa_nil)))) (pa_nil))))))) (pss_cons (ps_set (i := 7) scLaw.nd rfl (.inl rfl) (pe_fn LO hr (by decide) rfl (pa_cons (pv 2) (pa_cons (pv 6) (pa_nil))))) (pss_cons (ps_set (i := 8) scLaw.nd rfl (.inl rfl) (pe_callB (call_repr hgd hu110) (by rfl) gRp (by decide +kernel) (pa_cons (pv 7) (pa_nil)))) (pss_cons (ps_if (PW.pt (pw_or (pt_cmpR (op_neD hr.units) (pe_fn MT hr (by decide) rfl (pa_cons (pv 4) (pa_cons (pv 7) (pa_nil)))) (pe_tup (pa_cons (pe_str) (pa_cons (pv 6) (pa_nil)))) (nomark _)) (pw_or1 (pt_cmpR op_ne (pe_callB (call_repr hgd hu110) (by rfl) gRp (by decide +kernel) (pa_cons (pv 7) (pa_nil))) (pv 8) (nomark _))))) (pss_one (ps_ret pe_bl)) pss_nil) (pss_cons (ps_set (i := 9) scLaw.nd rfl (.inl rfl) (pe_fn SP hr (by decide) rfl (pa_cons (pv 2) (pa_cons (pv 3) (pa_cons (pv 6) (pa_nil)))))) (pss_cons (ps_if (pt_cmpR op_eq (pe_fn TK hr (by decide) rfl (pa_cons (pv 2) (pa_cons (pe_int) (pa_nil)))) pe_int (nomark _)) (pss_one (ps_set (i := 9) scLaw.nd rfl (.inl rfl) (pe_tup (pa_cons (pe_str) (pa_cons (pv 9) (pa_cons (pe_fn ON hr (by decide) rfl (pa_cons (pv 2) (pa_cons (pe_lst (pa_cons (pe_non) (pa_cons (pe_tup (pa_cons (pe_str) (pa_cons (pe_str) (pa_nil)))) (pa_cons (pe_tup (pa_cons (pe_str) (pa_cons (pe_str) (pa_nil)))) (pa_nil))))) (pa_nil)))) (pa_nil))))))) pss_nil) (pss_cons (ps_set (i := 10) scLaw.nd rfl (.inl rfl) (pe_fn FB hr (by decide) rfl (pa_cons (pv 3) (pa_cons (pv 9) (pa_cons (pe_tup pa_nil) (pa_cons (pe_tup pa_nil) (pa_nil))))))) (pss_cons (ps_set (i := 11) scLaw.nd rfl (.inl rfl) (pe_ifExp (pt_cmpR op_isN (pv 10) pe_non (nomark _)) (pe_tup (pa_cons (pe_str) (pa_cons (pv 9) (pa_nil)))) (pe_tup (pa_cons (pe_str) (pa_cons (pv 10) (pa_nil)))))) (pss_one (ps_if (pt_cmpR (op_neD hr.units) (pe_fn MT hr (by decide) rfl (pa_cons (pv 4) (pa_cons (pe_fn LO hr (by decide) rfl (pa_cons (pv 2) (pa_cons (pv 9) (pa_nil)))) (pa_nil)))) (pv 11) (nomark _)) (pss_one (ps_ret pe_bl)) pss_nil)))))))))))))))) (pss_one (ps_ret pe_bl)), ?_⟩
    refine ⟨5, rfl, by decide, by decide, for_range (lo := 0) (n := 5) (fun i σ H' => ∃ o1 o2 o3 o4 o5 o6 o7 o8 o9 o10 o11, σ = [some (.ref a), o1, o2, o3, o4, o5, o6, o7, o8, o9, o10, o11] ∧ SqL K H' a (ns.map V.int)) ⟨none, none, none, none, none, none, none, none, none, none, none, rfl, hS⟩ ?turn ?done⟩
    case done =>
      rintro σ H' _
      exact rfl
    rintro i σ H1 hi ⟨o1, o2, o3, o4, o5, o6, o7, o8, o9, o10, o11, rfl, hS1⟩
    refine ⟨_, rfl, _, rfl, a, ns, i, (by rw [Int.zero_add]; rfl), hS1, fun z0 => ⟨_, rfl, _, _, rfl, rfl, _, rfl, fun p H2 np s2 P2 => ?_⟩⟩
    refine ⟨_, rfl, p, 4, 0, rfl, by decide, by decide, by decide, P2, fun g gd H3 B3 hG3 wf P3 => ?_⟩
    refine ⟨_, rfl, g, gd, rfl, hG3.mono (hid_low _ _), wf, fun G H4 nG s4 gr4 => ?_⟩
    have P4 := P3.mono s4 (Nat.le_refl _)
    have BG : IsG (hid [p] H4) g gd := hG3.mono (hid_same s4)
    have BR : IsGr C (hid [p] H4) G gd := gr_hid4 (pool_at4 P4) gr4
    have BA : SqL K (hid [p] H4) a (ns.map V.int) := Same.seq (fun b o h => by
      have bp : b ≠ p := ne_of_none h np
      exact hid_to (ni1 bp) (s4 _ _ (bt_at B3 (ni1 bp) (s2 _ _ h)))) hS1
    have nbL : ∀ q ∈ gd.letters, nameB q.1 = true := fun q hq => (show ∀ x ∈ nm8, nameB x = true by decide +kernel) _ (wf.nm q hq)
    have okL : ∀ q ∈ gd.letters, PyData.strOk q.1 = true := fun q hq => name_ok (nbL q hq)
    have tSt : PyData.strOk "told" = true := by decide +kernel
    have bSt : PyData.strOk "bad" = true := by decide +kernel
    clear P2 P3 hG3 B3 s2 s4 gr4 hS1
    refine ⟨4, rfl, by decide, by decide, for_range (lo := 0) (n := 4) (fun j σ H' => ∃ o5 o6 o7 o8 o9 o10 o11, σ = [some (.ref a), some (.int (0 + (i : Int))), some (.ref p), some (.ref g), some (.ref G), o5, o6, o7, o8, o9, o10, o11] ∧ Bt [p] H4 H' ∧ ∃ m, m ≤ 600 + 300 * j ∧ PoolIs H' p m) ⟨_, _, _, _, _, _, _, rfl, Same.refl _, _, by omega, P4⟩ ?turnI ?doneI⟩
    case doneI =>
      rintro σ Ha ⟨p5, p6, p7, p8, p9, p10, p11, rfl, Ba, _⟩
      exact ⟨_, _, _, _, _, _, _, _, _, _, _, rfl, Same.seq (Ba.trans (hid_low _ _)) BA⟩
    rintro j σ J0 hj ⟨p5, p6, p7, p8, p9, p10, p11, rfl, B0, m0, hm0, P0⟩
    clear P4
    -- the term
    refine ⟨_, rfl, _, rfl, by show 0 ≤ sizeLine; decide, fun e ne => ?_⟩
    obtain ⟨J1, s1, h1, q1⟩ := lay (o := .tup []) ne
    rw [q1]
    refine ⟨by show 2 ≤ sizeLine; decide, fun l nl => ?_⟩
    obtain ⟨J2, s2, h2, q2⟩ := lay (o := .lst [.int 9, .int 5]) nl
    rw [q2]
    have P1 := P0.mono s1 (Nat.le_refl _)
    have lp : l ≠ p := P1.ne nl
    have P2 := P1.mono s2 (Nat.le_refl _)
    have hG2 : IsG (hid [p, l] J2) g gd := (BG.mono B0).mono fun b' o' e' => by
      obtain ⟨e1, m1⟩ := hid_in e'
      have bl : b' ≠ l := ne_of_none (s1 _ _ e1) nl
      refine hid_to (fun m => ?_) (s2 _ _ (s1 _ _ e1))
      simp only [List.mem_cons, List.not_mem_nil, or_false] at m
      rcases m with rfl | rfl
      · exact m1 (by simp)
      · exact bl rfl
    refine ⟨p, g, e, l, gd, [], 9, 5, m0, rfl, hG2, wf, SqT.of (s2 _ _ h1), (fun m h => nomatch h), by decide, lp.symm, h2, by decide, by decide, P2, by omega, fun v t x1 u1 J3 B3 hl3 hsz hok hdp P3 => ?_⟩
    have tsz : t.size ≤ 10 := by omega
    have tpos := size_pos t
    have B03 : Bt [p] J0 J3 := fun b o h => by
      obtain ⟨e1, m⟩ := hid_in h
      have bl : b ≠ l := ne_of_none (s1 _ _ e1) nl
      have bp : b ≠ p := fun z => m (by simp [z])
      exact hid_to m (bt_at B3 (by simp [bp, bl]) (s2 _ _ (s1 _ _ e1)))
    have B3' : Bt [p] H4 J3 := B0.trans B03
    have hv : Dp K (hid [p] J3) v t.d := dp_hid (pool_at4 P3) _ _ (tupO_d t) hdp
    have own := adOf_own _ (tupO_d t)
    have szt := sz_own t
    clear hG2 B03 B3 h1 h2 hl3 s1 s2 P0 P1 P2 B0 hdp
    -- handed
    refine ⟨_, rfl, _, rfl, p, [p], v, adOf t.d, _, rfl, List.mem_singleton.mpr rfl, (fun q hq => let ⟨_, e⟩ := pool_at4 P3 q hq; ⟨_, e⟩), adOf_at hv, by omega, by decide, by omega, P3, fun hd d' J4 B4 had hlo P4 => ?_⟩
    have hgd' := (Gd.own hok).lo hlo
    obtain ⟨ha, rfl⟩ := hgd'.ref had
    have hdp4 : Dp K J4 (.ref ha) d'.py := dp_mono (hid_low _ _) (had.dp hgd'.noDic)
    obtain ⟨r1, r2, r3, r4⟩ := shows_lo nbL hok (by omega) hlo own.2 own.1
    obtain ⟨c1, c2⟩ := tm_lay okL hok
    refine ⟨_, rfl, ha, d'.py, rfl, hdp4, r1, r2, r3, r4, ?_⟩
    have gr4 : IsGr C J4 G gd := (BR.mono (B3'.trans B4)).mono (hid_low _ _)
    refine ⟨_, rfl, _, rfl, G, .ref ha, gd, rfl, gr4, wf.nd, .inl ⟨t, ⟨gr4, wf.nd, ⟨d'.py, hdp4, hgd'.isTm⟩, hok, by omega⟩, fun u pf J5 s5 hpf hu => ?_⟩⟩
    refine ⟨_, rfl, by show 2 ≤ sizeLine; decide, fun pq npq => ?_⟩
    obtain ⟨J6, s6, hpq, q6⟩ := lay (o := .tup [.str "told", v]) npq
    rw [q6]
    have hv6 : Dp K J6 v t.d := dp_mono (s5.trans s6) (dp_mono (B4.trans (hid_low _ _)) hv)
    refine neD_two tSt c1 (by omega) (s6 _ _ hpf) (dp_mono s6 hu) hpq hv6 ⟨_, rfl, ?_⟩
    refine iteF ?_
    refine ⟨_, rfl, ha, d'.py, rfl, dp_mono (s5.trans s6) hdp4, r1, r2, r3, r4, _, rfl, ?_⟩
    refine ⟨rfl, _, rfl, ?_⟩
    rw [decS, decide_eq_true rfl]
    refine iteF ?_
    have P6 := P4.mono (s5.trans s6) (Nat.le_refl _)
    have B6 : Bt [p] H4 J6 := (B3'.trans B4).trans (bt_of (s5.trans s6))
    clear hpf hpq hu gr4 hdp4 r1 r2 r3 r4 c1 c2 hgd' had hlo P4 s5 s6 hv B3' P3 own
    -- spoilt
    refine ⟨_, rfl, _, rfl, _, rfl, p, g, v, gd, t, [], _, [p], rfl, List.mem_singleton.mpr rfl, pool_at4 P6, BG.mono B6, wf, hv6, hok, (fun m h => nomatch h), tsz, by decide, by omega, P6, fun y d J7 B7 hy hres hds P7 => ?_⟩
    refine ⟨_, rfl, p, 2, _, rfl, by decide, by decide, by omega, P7, fun r J8 hr2 B8 P8 => ?_⟩
    refine ⟨rfl, _, rfl, ?_⟩
    rw [decI]
    have hy := hy.mono B8
    have hres := hres.up (y := 10) tsz
    have B8' : Bt [p] H4 J8 := (B6.trans B7).trans B8
    have inv9 : ∀ {J : Hp} (y2 : V) (d2 : AD) (N : Nat), Bt [p] H4 J → AdAt K (hid [p] J) y2 d2 → SpRes gd.letters [] 14 d2 → d2.sz ≤ 60 → N ≤ m0 + 100 → PoolIs J p N → True := fun _ _ _ _ _ _ _ _ _ => trivial
    by_cases c : (r : Int) = 0
    focus
      rw [decide_eq_true c]
      refine iteT ?_
      refine ⟨_, rfl, _, rfl, by show 2 ≤ sizeLine; decide, fun q1 nq1 => ?_⟩
      obtain ⟨K1, t1, i1, _, e1⟩ := layT (xs := [.str "name", .str "none"]) (pool_at4 P8) nq1 (.cons (.str "name") (.cons (.str "none") .nil))
      rw [e1]
      have Q1 := P8.mono t1 (Nat.le_refl _)
      refine ⟨by show 2 ≤ sizeLine; decide, fun q2 nq2 => ?_⟩
      obtain ⟨K2, t2, i2, _, e2⟩ := layT (xs := [.str "value", .str "one"]) (pool_at4 Q1) nq2 (.cons (.str "value") (.cons (.str "one") .nil))
      rw [e2]
      have Q2 := Q1.mono t2 (Nat.le_refl _)
      refine ⟨by show 3 ≤ sizeLine; decide, fun ll nll => ?_⟩
      have A3 : AdAll K (hid [p] K2) [.non, .ref q1, .ref q2] [.non, .seq true [.str "name", .str "none"], vOne] := .cons .non (.cons (i1.mono (hid_same t2)) (.cons i2 .nil))
      obtain ⟨K3, t3, i3, hll, e3⟩ := layL (xs := [.non, .ref q1, .ref q2]) (pool_at4 Q2) nll A3
      rw [e3]
      have Q3 := Q2.mono t3 (Nat.le_refl _)
      have llp : ll ≠ p := Q2.ne nll
      refine ⟨p, ll, [.non, .ref q1, .ref q2], _, rfl, SqL.of (hid_to (ni1 llp) hll), (fun e => nomatch e), (by show 3 ≤ 100000; decide), by omega, Q3, fun v3 K4 hmem B34 Q4 => ?_⟩
      have T13 := (t1.trans t2).trans t3
      obtain ⟨d3, hd3, hv3⟩ := (A3.mono ((hid_same t3).trans B34)).mem hmem
      obtain ⟨hr3, hs3⟩ := three_res gd.letters d3 hd3
      refine ⟨by show 3 ≤ sizeLine; decide, fun tt ntt => ?_⟩
      obtain ⟨J9, t5, hy2, _, e5⟩ := layT (xs := [.str "then", y, v3]) (ds := [.str "then", d, d3]) (pool_at4 Q4) ntt (.cons (.str "then") (.cons (hy.mono ((hid_same T13).trans B34)) (.cons hv3 .nil)))
      rw [e5]
      have B9 : Bt [p] H4 J9 := ((B8'.trans (bt_of T13)).trans B34).trans (bt_of t5)
      have hres2 : SpRes gd.letters [] 14 (.seq true [.str "then", d, d3]) := (then_res hres hr3).up (by omega)
      have hds2 : (AD.seq true [.str "then", d, d3]).sz ≤ 60 := by
        simp only [AD.sz, AD.szs]
        omega
      obtain ⟨N9, hN9, P9⟩ : ∃ N, N ≤ m0 + 100 ∧ PoolIs J9 p N := ⟨_, by omega, Q4.mono t5 (Nat.le_refl _)⟩
      generalize AD.seq true [.str "then", d, d3] = d2 at *
      generalize V.ref tt = y2 at *
      clear nq1 nq2 nll ntt e1 e2 e3 e5 t1 t2 t3 t5 T13 B34 Q1 Q2 Q3 Q4 A3 i1 i2 i3 hv3 hmem hy hres
    rotate_left
    focus
      rw [decide_eq_false c]
      refine iteF ?_
      obtain ⟨J9, rfl⟩ : ∃ J9, J9 = J8 := ⟨_, rfl⟩
      have B9 := B8'
      have hy2 := hy
      have hres2 : SpRes gd.letters [] 14 d := hres.up (by omega)
      have hds2 : d.sz ≤ 60 := by omega
      obtain ⟨N9, hN9, P9⟩ : ∃ N, N ≤ m0 + 100 ∧ PoolIs J9 p N := ⟨_, by omega, P8⟩
      clear hy hres hds P7 B7
      revert y d
      intro y2 d2
      intros
      rename_i hy2 hres2 hds2
    all_goals
      clear B8' P8
      refine ⟨_, rfl, _, rfl, by show 0 ≤ sizeLine; decide, fun e1 ne1 => ?_⟩
      obtain ⟨M1, t1, g1, q1⟩ := lay (o := .tup []) ne1
      rw [q1]
      refine ⟨by show 0 ≤ sizeLine; decide, fun e2 ne2 => ?_⟩
      obtain ⟨M2, t2, g2, q2⟩ := lay (o := .tup []) ne2
      rw [q2]
      have T12 := t1.trans t2
      have hyM := hy2.mono (hid_same T12)
      have BM : Bt [p] H4 M2 := B9.trans (bt_of T12)
      have PM := P9.mono T12 (Nat.le_refl _)
      refine ⟨g, e1, e2, y2, gd, d2, [], [], rfl, (BG.mono BM).mono (hid_low _ _), wf, hyM.mono (hid_low _ _), by decide, SqT.of (t2 _ _ g1), by decide, SqT.of g2, by decide, ?_⟩
      rcases hres2 with ⟨t', rfl, ho2, hs2⟩ | ⟨r2, hb2⟩
      · refine .inl ⟨t', Gd.own ho2, hs2, fun M3 s3 => ?_⟩
        refine ⟨_, rfl, rfl, _, rfl, ?_⟩
        refine iteT ?_
        refine ⟨_, rfl, by show 2 ≤ sizeLine; decide, fun du ndu => ?_⟩
        obtain ⟨M4, s4, hdu, q4⟩ := lay (o := .tup [.str "told", y2]) ndu
        rw [q4]
        have S24 := s3.trans s4
        have hy4 := hyM.mono (hid_same S24)
        have B4 := BM.trans (bt_of S24)
        have P4 := PM.mono S24 (Nat.le_refl _)
        have dup : du ≠ p := (PM.mono s3 (Nat.le_refl _)).ne ndu
        refine ⟨_, rfl, _, rfl, _, rfl, p, [p], y2, _, _, rfl, List.mem_singleton.mpr rfl, (fun q hq => let ⟨_, e⟩ := pool_at4 P4 q hq; ⟨_, e⟩), hy4, hds2, by decide, by omega, P4, fun hd2 d'' M5 B5 had hlo P5 => ?_⟩
        have gD := (Gd.own ho2).lo hlo
        have gr5 : IsGr C M5 G gd := (BR.mono (B4.trans B5)).mono (hid_low _ _)
        refine ⟨G, hd2, gd, rfl, gr5, wf.nd, .inl ⟨t', ⟨gr5, wf.nd, ⟨d''.py, dp_mono (hid_low _ _) (had.dp gD.noDic), gD.isTm⟩, ho2, hs2⟩, fun u pf M6 s6 hpf hu => ?_⟩⟩
        refine ⟨_, rfl, ?_⟩
        have own2 := adOf_own _ (tupO_d t')
        have hy6 : Dp K M6 y2 t'.d := by
          have := dp_mono ((B5.trans (hid_low _ _)).trans s6) (hy4.dp own2.1)
          rw [own2.2] at this
          exact this
        obtain ⟨c1, c2⟩ := tm_lay okL ho2
        refine neD_two tSt c1 (by omega) hpf hu (s6 _ _ (bt_at B5 (ni1 dup) hdu)) hy6 ⟨_, rfl, ?_⟩
        refine iteF ?_
        exact ⟨_, _, _, _, _, _, _, rfl, (B4.trans B5).trans (bt_of s6), _, by omega, P5.mono s6 (Nat.le_refl _)⟩
      · refine .inr ⟨r2, hb2, fun pb M3 s3 hpb => ?_⟩
        refine ⟨_, rfl, rfl, _, rfl, ?_⟩
        refine iteF ?_
        refine ⟨_, rfl, by show 2 ≤ sizeLine; decide, fun du ndu => ?_⟩
        obtain ⟨M4, s4, hdu, q4⟩ := lay (o := .tup [.str "bad", .ref pb]) ndu
        rw [q4]
        have S24 := s3.trans s4
        have hy4 := hyM.mono (hid_same S24)
        have B4 := BM.trans (bt_of S24)
        have P3 := PM.mono s3 (Nat.le_refl _)
        have P4 := PM.mono S24 (Nat.le_refl _)
        have dup : du ≠ p := P3.ne ndu
        have hpb4 : Dp K (hid [p] M4) (.ref pb) (pathD r2) := dp_hid (pool_at4 P4) _ _ (tupO_path _) (dp_mono s4 (dp_path4 hpb))
        refine ⟨_, rfl, _, rfl, _, rfl, p, [p], y2, _, _, rfl, List.mem_singleton.mpr rfl, (fun q hq => let ⟨_, e⟩ := pool_at4 P4 q hq; ⟨_, e⟩), hy4, hds2, by decide, by omega, P4, fun hd2 d'' M5 B5 had hlo P5 => ?_⟩
        have gr5 : IsGr C M5 G gd := (BR.mono (B4.trans B5)).mono (hid_low _ _)
        refine ⟨G, hd2, gd, rfl, gr5, wf.nd, .inr ⟨r2, (hb2.lo hlo).v (had.mono (hid_low _ _)), fun pb2 pf M6 s6 hpb2 hpf => ?_⟩⟩
        refine ⟨_, rfl, ?_⟩
        refine neD_two bSt (path_can4 r2) (path_dep r2) hpf (dp_path4 hpb2) (s6 _ _ (bt_at B5 (ni1 dup) hdu)) (dp_mono ((B5.trans (hid_low _ _)).trans s6) hpb4) ⟨_, rfl, ?_⟩
        refine iteF ?_
        exact ⟨_, _, _, _, _, _, _, rfl, (B4.trans B5).trans (bt_of s6), _, by omega, P5.mono s6 (Nat.le_refl _)⟩
  obtain ⟨t, h1, h2⟩ := key
  exact ⟨t, h1.nox, h2⟩
end
end K4
set_option Elab.async false
set_option linter.all false
set_option maxRecDepth 100000
set_option maxHeartbeats 8000000
namespace K4
open PySem PySem.Spec L2 GB LamX
def noDB (K : PySem.W.Frag) (d : Addr) (l : List Str) : Bool := l.all fun x => He.eqO (PySem.W.nsIn K d x) (some none)
theorem sc_bt : FnScope ["self", "path"] ["self", "path"] (defScope (inClass (topS 6) 0)) := ⟨rfl, rfl, rfl, by decide +kernel, rfl, by decide +kernel, by decide +kernel⟩
theorem all_mk {l : PySem.W.OpenLaw} {w : World} {K : PySem.W.Frag} {h : Heap} {mg : Str → Option Value} {fa C CB a_tb f_isL f_isN f_isNm f_chd f_chk f_par f_isU f_ckL f_ckF f_ckC f_ft f_isF f_te f_ebv f_out f_perm f_cell f_pool f_take f_mixed f_one f_ground f_made f_term f_loose f_many f_lnm f_inn f_fb f_sp f_met f_prt f_gi f_bt f_law : Addr} (X : K.In h) (G : h.Ns mainGlobals mg) (hfa : mg "law" = some (.ref fa)) (own : OwnTab K fa h)
    (aC : PySem.W.nsIn K mainGlobals "Ground" = some (some (.ref C)))
    (d_isL : PySem.W.nsIn K mainGlobals "is_list" = some (some (.ref f_isL)))
    (F_isL : ∃ fd, Fun K "is_list" "is_list" (topS 9) f_isL fd)
    (d_isN : PySem.W.nsIn K mainGlobals "is_number" = some (some (.ref f_isN)))
    (F_isN : ∃ fd, Fun K "is_number" "is_number" (topS 10) f_isN fd)
    (d_isNm : PySem.W.nsIn K mainGlobals "is_name" = some (some (.ref f_isNm)))
    (F_isNm : ∃ fd, Fun K "is_name" "is_name" (topS 11) f_isNm fd)
    (d_chd : PySem.W.nsIn K mainGlobals "checked" = some (some (.ref f_chd)))
    (F_chd : ∃ fd, Fun K "checked" "checked" (topS 15) f_chd fd)
    (d_chk : PySem.W.nsIn K mainGlobals "checked_within" = some (some (.ref f_chk)))
    (F_chk : ∃ fd, Fun K "checked_within" "checked_within" (topS 16) f_chk fd)
    (d_par : PySem.W.nsIn K mainGlobals "_checked_parts" = some (some (.ref f_par)))
    (F_par : ∃ fd, Fun K "_checked_parts" "_checked_parts" (topS 17) f_par fd)
    (d_isU : PySem.W.nsIn K mainGlobals "_is_use" = some (some (.ref f_isU)))
    (F_isU : ∃ fd, Fun K "_is_use" "_is_use" (topS 18) f_isU fd)
    (d_ckL : PySem.W.nsIn K mainGlobals "_check_letters" = some (some (.ref f_ckL)))
    (F_ckL : ∃ fd, Fun K "_check_letters" "_check_letters" (topS 25) f_ckL fd)
    (d_ckF : PySem.W.nsIn K mainGlobals "_check_fixed" = some (some (.ref f_ckF)))
    (F_ckF : ∃ fd, Fun K "_check_fixed" "_check_fixed" (topS 26) f_ckF fd)
    (d_ckC : PySem.W.nsIn K mainGlobals "_check_commuting" = some (some (.ref f_ckC)))
    (F_ckC : ∃ fd, Fun K "_check_commuting" "_check_commuting" (topS 27) f_ckC fd)
    (d_ft : PySem.W.nsIn K mainGlobals "_facts_as_told" = some (some (.ref f_ft)))
    (F_ft : ∃ fd, Fun K "_facts_as_told" "_facts_as_told" (topS 28) f_ft fd)
    (d_isF : PySem.W.nsIn K mainGlobals "_is_fact" = some (some (.ref f_isF)))
    (F_isF : ∃ fd, Fun K "_is_fact" "_is_fact" (topS 29) f_isF fd)
    (d_te : PySem.W.nsIn K mainGlobals "_is_told_end" = some (some (.ref f_te)))
    (F_te : ∃ fd, Fun K "_is_told_end" "_is_told_end" (topS 30) f_te fd)
    (d_ebv : PySem.W.nsIn K mainGlobals "_ends_by_values" = some (some (.ref f_ebv)))
    (F_ebv : ∃ fd, Fun K "_ends_by_values" "_ends_by_values" (topS 22) f_ebv fd)
    (d_out : PySem.W.nsIn K mainGlobals "as_outcome" = some (some (.ref f_out)))
    (F_out : ∃ fd, Fun K "as_outcome" "as_outcome" (topS 23) f_out fd)
    (d_perm : PySem.W.nsIn K mainGlobals "_all_permissions" = some (some (.ref f_perm)))
    (F_perm : ∃ fd, Fun K "_all_permissions" "_all_permissions" (topS 24) f_perm fd)
    (d_cell : PySem.W.nsIn K mainGlobals "_law_cell" = some (some (.ref f_cell)))
    (F_cell : ∃ fd, Fun K "_law_cell" "_law_cell" (topS 32) f_cell fd)
    (d_pool : PySem.W.nsIn K mainGlobals "_law_pool" = some (some (.ref f_pool)))
    (F_pool : ∃ fd, Fun K "_law_pool" "_law_pool" (topS 33) f_pool fd)
    (d_take : PySem.W.nsIn K mainGlobals "_law_take" = some (some (.ref f_take)))
    (F_take : ∃ fd, Fun K "_law_take" "_law_take" (topS 34) f_take fd)
    (d_mixed : PySem.W.nsIn K mainGlobals "_law_mixed" = some (some (.ref f_mixed)))
    (F_mixed : ∃ fd, Fun K "_law_mixed" "_law_mixed" (topS 35) f_mixed fd)
    (d_one : PySem.W.nsIn K mainGlobals "_law_one" = some (some (.ref f_one)))
    (F_one : ∃ fd, Fun K "_law_one" "_law_one" (topS 36) f_one fd)
    (d_ground : PySem.W.nsIn K mainGlobals "_law_ground" = some (some (.ref f_ground)))
    (F_ground : ∃ fd, Fun K "_law_ground" "_law_ground" (topS 37) f_ground fd)
    (d_made : PySem.W.nsIn K mainGlobals "_law_made" = some (some (.ref f_made)))
    (F_made : ∃ fd, Fun K "_law_made" "_law_made" (topS 38) f_made fd)
    (d_term : PySem.W.nsIn K mainGlobals "_law_term" = some (some (.ref f_term)))
    (F_term : ∃ fd, Fun K "_law_term" "_law_term" (topS 39) f_term fd)
    (d_loose : PySem.W.nsIn K mainGlobals "_law_loose" = some (some (.ref f_loose)))
    (F_loose : ∃ fd, Fun K "_law_loose" "_law_loose" (topS 40) f_loose fd)
    (d_many : PySem.W.nsIn K mainGlobals "_law_many" = some (some (.ref f_many)))
    (F_many : ∃ fd, Fun K "_law_many" "_law_many" (topS 41) f_many fd)
    (d_lnm : PySem.W.nsIn K mainGlobals "_law_is_name" = some (some (.ref f_lnm)))
    (F_lnm : ∃ fd, Fun K "_law_is_name" "_law_is_name" (topS 42) f_lnm fd)
    (d_inn : PySem.W.nsIn K mainGlobals "_law_inner" = some (some (.ref f_inn)))
    (F_inn : ∃ fd, Fun K "_law_inner" "_law_inner" (topS 43) f_inn fd)
    (d_fb : PySem.W.nsIn K mainGlobals "_law_first_bad" = some (some (.ref f_fb)))
    (F_fb : ∃ fd, Fun K "_law_first_bad" "_law_first_bad" (topS 44) f_fb fd)
    (d_sp : PySem.W.nsIn K mainGlobals "_law_spoilt" = some (some (.ref f_sp)))
    (F_sp : ∃ fd, Fun K "_law_spoilt" "_law_spoilt" (topS 45) f_sp fd)
    (d_met : PySem.W.nsIn K mainGlobals "_law_met" = some (some (.ref f_met)))
    (F_met : ∃ fd, Fun K "_law_met" "_law_met" (topS 46) f_met fd)
    (i_prt : PySem.W.findIn K (.ref C) "parts_of" = some (some (.ref f_prt)))
    (F_prt : ∃ fd, Fun K "parts_of" "Ground.parts_of" (inClass (topS 21) 5) f_prt fd)
    (i_gi : PySem.W.findIn K (.ref C) "__init__" = some (some (.ref f_gi)))
    (F_gi : ∃ (oc : Value) (od : Option Addr) (dV kV doc pm : Value) (an : Option Addr) (cdv ct : Value) (osl : Array (Option Value)), K.lookup f_gi = some ⟨oc, od, .func (PySem.W.fnOf "__init__" "Ground.__init__" (defArgs (inClass (topS 21) 0)) (defBody (inClass (topS 21) 0)) (defScope (inClass (topS 21) 0)) dV kV doc pm an cdv ct), osl⟩ ∧ PySem.W.codeIn K cdv "Ground.__init__" = true ∧ (FX.dfl3 K dV).isSome = true ∧ PySem.W.keepIn K (.ref f_gi) = true)
    (aB : PySem.W.nsIn K mainGlobals "BadTerm" = some (some (.ref CB)))
    (i_bt : PySem.W.findIn K (.ref CB) "__init__" = some (some (.ref f_bt)))
    (t_bt : PySem.W.typeIn K (.ref f_bt) = some (.type "function"))
    (F_bt : ∃ fd, Fun K "__init__" "BadTerm.__init__" (inClass (topS 6) 0) f_bt fd)
    (d_law : PySem.W.nsIn K mainGlobals "law" = some (some (.ref f_law)))
    (F_law : ∃ (oc : Value) (od : Option Addr) (kV doc pm : Value) (an : Option Addr) (cdv ct : Value) (osl : Array (Option Value)), K.lookup f_law = some ⟨oc, od, .func (PySem.W.fnOf "law" "law" (defArgs (topS 47)) (defBody (topS 47)) (defScope (topS 47)) .none kV doc pm an cdv ct), osl⟩ ∧ PySem.W.codeIn K cdv "law" = true ∧ PySem.W.keepIn K (.ref f_law) = true)
    (x_free : FX.freeB K FX.blts = true)
    (x_signs : (He.Fa.int "MOST_SIGNS" 8).ok K = true)
    (x_parts : (He.Fa.int "MOST_PARTS" 2).ok K = true)
    (x_named1 : (He.Fa.glo "NAMED").ok K = true)
    (x_named2 : He.tupB K "NAMED" (GB.nmd.map He.Dv.str) = true)
    (d_tb : PySem.W.nsIn K mainGlobals "TERMS_BEHIND" = some (some (.ref a_tb)))
    (x_tb1 : He.dicW K a_tb = some (He.keysIn w.params (GB.opsW.map (·.1))))
    (x_tb2 : FX.dctB K a_tb GB.opsW = true)
    (x_tb3 : noDB K a_tb GB.noW = true)
    (x_cl : FX.clB K C = true)
    (x_no : FX.noB K C ["_facts", "_letters", "_order", "_fixed", "_commuting", "moving", "commutes", "known_ends", "places"] = true)
    (x_mk : FX.mkB K C f_gi = true)
    (x_prt : FX.methB K C "parts_of" f_prt = true)
    (x_bt : FX.xfieldB K CB "path" = true)
    (x_rep : FX.freeB K ["repr"] = true)
    : EndG.LawG l w K 70 63 "_law_script" lawN mg fa h := by
  have e := hfa.symm.trans (PySem.W.mg_of X G d_law)
  cases e
  have b : Bl mg := FX.bl_of X G x_free
  have NMD : Nmd K mg := FX.tup_of X G x_named1 x_named2
  have TBH : TBh K w mg := by
    obtain ⟨es, n, kd⟩ := He.dicW_ok x_tb1
    refine ⟨a_tb, es, n, PySem.W.mg_of X G d_tb, kd, fun q hq => ?_, fun x hx => He.eqO_ok (List.all_eq_true.mp x_tb3 x hx)⟩
    obtain ⟨u, e1, e2⟩ := FX.dct_of x_tb2 hq
    exact ⟨⟨es, n, u, kd.at_, kd.lit, e1, e2⟩, u, e1⟩
  obtain ⟨oxB, xfB, noB, teB⟩ := FX.xfield_of x_bt
  have cl : Cls K C := FX.cl_of x_cl
  have no : ∀ f ∈ (["_facts", "_letters", "_order", "_fixed", "_commuting", "moving", "commutes", "known_ends", "places"] : List Str), NoAttr K C f := fun f hf => FX.no_of x_no hf
  obtain ⟨ocL, odL, kVL, docL, pmL, anL, cdvL, ctL, oslL, lkL, cL, kL⟩ := F_law
  obtain ⟨ocI, odI, dVI, kVI, docI, pmI, anI, cdvI, ctI, oslI, lkI, cI, dI, kI⟩ := F_gi
  obtain ⟨da, db, dc, dflI⟩ := FX.dfl3_ok dI
  have FI : FunD K "__init__" "Ground.__init__" (defArgs sGI) (defBody sGI) (defScope sGI) [.ref da, .ref db, .ref dc] [] f_gi _ := ⟨⟨ocI, odI, dVI, kVI, docI, pmI, anI, cdvI, ctI, oslI, rfl, lkI, cI, dflI, .inl rfl⟩, kI⟩
  obtain ⟨ds, vds, bI⟩ := FI.binds1 (ps := ["self", "letters", "fixed", "commuting", "facts"]) 5 3 (List.cons_ne_nil _ _) rfl (fun T kV doc pm an cdv ct us its hu hi => match us, hu, its, hi with | [_, _, _, _, _], _, [_, _, _], _ => ⟨_, rfl, rfl⟩)
  cases vds
  obtain ⟨g_isL, F_isL⟩ := F_isL
  have b_isL := F_isL.binds (ps := ["thing"]) fun _ _ _ _ _ _ us hl => match us, hl with | [_], _ => rfl
  obtain ⟨g_isN, F_isN⟩ := F_isN
  have b_isN := F_isN.binds (ps := ["thing"]) fun _ _ _ _ _ _ us hl => match us, hl with | [_], _ => rfl
  obtain ⟨g_isNm, F_isNm⟩ := F_isNm
  have b_isNm := F_isNm.binds (ps := ["thing"]) fun _ _ _ _ _ _ us hl => match us, hl with | [_], _ => rfl
  obtain ⟨g_chd, F_chd⟩ := F_chd
  have b_chd := F_chd.binds (ps := ["ground", "thing"]) fun _ _ _ _ _ _ us hl => match us, hl with | [_, _], _ => rfl
  obtain ⟨g_chk, F_chk⟩ := F_chk
  have b_chk := F_chk.binds (ps := ["ground", "thing", "names", "path"]) fun _ _ _ _ _ _ us hl => match us, hl with | [_, _, _, _], _ => rfl
  obtain ⟨g_par, F_par⟩ := F_par
  have b_par := F_par.binds (ps := ["ground", "things", "names", "path"]) fun _ _ _ _ _ _ us hl => match us, hl with | [_, _, _, _], _ => rfl
  obtain ⟨g_isU, F_isU⟩ := F_isU
  have b_isU := F_isU.binds (ps := ["ground", "thing"]) fun _ _ _ _ _ _ us hl => match us, hl with | [_, _], _ => rfl
  obtain ⟨g_ckL, F_ckL⟩ := F_ckL
  have b_ckL := F_ckL.binds (ps := ["letters"]) fun _ _ _ _ _ _ us hl => match us, hl with | [_], _ => rfl
  obtain ⟨g_ckF, F_ckF⟩ := F_ckF
  have b_ckF := F_ckF.binds (ps := ["letters", "fixed"]) fun _ _ _ _ _ _ us hl => match us, hl with | [_, _], _ => rfl
  obtain ⟨g_ckC, F_ckC⟩ := F_ckC
  have b_ckC := F_ckC.binds (ps := ["letters", "fixed", "commuting"]) fun _ _ _ _ _ _ us hl => match us, hl with | [_, _, _], _ => rfl
  obtain ⟨g_ft, F_ft⟩ := F_ft
  have b_ft := F_ft.binds (ps := ["letters", "fixed", "commuting", "facts"]) fun _ _ _ _ _ _ us hl => match us, hl with | [_, _, _, _], _ => rfl
  obtain ⟨g_isF, F_isF⟩ := F_isF
  have b_isF := F_isF.binds (ps := ["letters", "fixed", "thing"]) fun _ _ _ _ _ _ us hl => match us, hl with | [_, _, _], _ => rfl
  obtain ⟨g_te, F_te⟩ := F_te
  have b_te := F_te.binds (ps := ["thing"]) fun _ _ _ _ _ _ us hl => match us, hl with | [_], _ => rfl
  obtain ⟨g_ebv, F_ebv⟩ := F_ebv
  have b_ebv := F_ebv.binds (ps := ["facts", "commutes"]) fun _ _ _ _ _ _ us hl => match us, hl with | [_, _], _ => rfl
  obtain ⟨g_out, F_out⟩ := F_out
  have b_out := F_out.binds (ps := ["end"]) fun _ _ _ _ _ _ us hl => match us, hl with | [_], _ => rfl
  obtain ⟨g_perm, F_perm⟩ := F_perm
  have b_perm := F_perm.binds (ps := ["letters", "moving"]) fun _ _ _ _ _ _ us hl => match us, hl with | [_, _], _ => rfl
  obtain ⟨g_cell, F_cell⟩ := F_cell
  have b_cell := F_cell.binds (ps := ["_law_script", "_law_k"]) fun _ _ _ _ _ _ us hl => match us, hl with | [_, _], _ => rfl
  obtain ⟨g_pool, F_pool⟩ := F_pool
  have b_pool := F_pool.binds (ps := ["_law_grain"]) fun _ _ _ _ _ _ us hl => match us, hl with | [_], _ => rfl
  obtain ⟨g_take, F_take⟩ := F_take
  have b_take := F_take.binds (ps := ["_law_pool_here", "_law_many_here"]) fun _ _ _ _ _ _ us hl => match us, hl with | [_, _], _ => rfl
  obtain ⟨g_mixed, F_mixed⟩ := F_mixed
  have b_mixed := F_mixed.binds (ps := ["_law_pool_here", "_law_things"]) fun _ _ _ _ _ _ us hl => match us, hl with | [_, _], _ => rfl
  obtain ⟨g_one, F_one⟩ := F_one
  have b_one := F_one.binds (ps := ["_law_pool_here", "_law_things"]) fun _ _ _ _ _ _ us hl => match us, hl with | [_, _], _ => rfl
  obtain ⟨g_ground, F_ground⟩ := F_ground
  have b_ground := F_ground.binds (ps := ["_law_pool_here", "_law_most"]) fun _ _ _ _ _ _ us hl => match us, hl with | [_, _], _ => rfl
  obtain ⟨g_made, F_made⟩ := F_made
  have b_made := F_made.binds (ps := ["_law_g"]) fun _ _ _ _ _ _ us hl => match us, hl with | [_], _ => rfl
  obtain ⟨g_term, F_term⟩ := F_term
  have b_term := F_term.binds (ps := ["_law_pool_here", "_law_g", "_law_names", "_law_left"]) fun _ _ _ _ _ _ us hl => match us, hl with | [_, _, _, _], _ => rfl
  obtain ⟨g_loose, F_loose⟩ := F_loose
  have b_loose := F_loose.binds (ps := ["_law_pool_here", "_law_thing"]) fun _ _ _ _ _ _ us hl => match us, hl with | [_, _], _ => rfl
  obtain ⟨g_many, F_many⟩ := F_many
  have b_many := F_many.binds (ps := ["_law_g", "_law_word"]) fun _ _ _ _ _ _ us hl => match us, hl with | [_, _], _ => rfl
  obtain ⟨g_lnm, F_lnm⟩ := F_lnm
  have b_lnm := F_lnm.binds (ps := ["_law_thing"]) fun _ _ _ _ _ _ us hl => match us, hl with | [_], _ => rfl
  obtain ⟨g_inn, F_inn⟩ := F_inn
  have b_inn := F_inn.binds (ps := ["_law_g", "_law_thing"]) fun _ _ _ _ _ _ us hl => match us, hl with | [_, _], _ => rfl
  obtain ⟨g_fb, F_fb⟩ := F_fb
  have b_fb := F_fb.binds (ps := ["_law_g", "_law_thing", "_law_names", "_law_path"]) fun _ _ _ _ _ _ us hl => match us, hl with | [_, _, _, _], _ => rfl
  obtain ⟨g_sp, F_sp⟩ := F_sp
  have b_sp := F_sp.binds (ps := ["_law_pool_here", "_law_g", "_law_term_here"]) fun _ _ _ _ _ _ us hl => match us, hl with | [_, _, _], _ => rfl
  obtain ⟨g_met, F_met⟩ := F_met
  have b_met := F_met.binds (ps := ["_law_ground_here", "_law_thing"]) fun _ _ _ _ _ _ us hl => match us, hl with | [_, _], _ => rfl
  obtain ⟨g_prt, F_prt⟩ := F_prt
  have b_prt := F_prt.binds (ps := ["self", "letter"]) fun _ _ _ _ _ _ us hl => match us, hl with | [_, _], _ => rfl
  obtain ⟨g_bt, F_bt⟩ := F_bt
  have b_bt := F_bt.binds (ps := ["self", "path"]) fun _ _ _ _ _ _ us hl => match us, hl with | [_, _], _ => rfl
  refine ⟨[], "law", "law", defArgs sLaw, defBody sLaw, defScope sLaw, .none, kVL, docL, pmL, cdvL, ctL, ocL, anL, odL, oslL, lkL, cL, scLaw, fun p hp => (nomatch hp), fun p hp => (nomatch hp), fun p hp => (nomatch hp), fun s u => .of_eq rfl, fun base t H a ns KB GB0 HT hn hPT hS hr => ?_⟩
  have N_isL : Fns l.prog w K mg base "is_list" 1 ["thing"] (spIsL K) := ⟨f_isL, g_isL, ok_isL F_isL b, PySem.W.mg_of X G d_isL, F_isL.kp, b_isL⟩
  have N_isN : Fns l.prog w K mg base "is_number" 1 ["thing"] (spIsN K) := ⟨f_isN, g_isN, ok_isN F_isN b, PySem.W.mg_of X G d_isN, F_isN.kp, b_isN⟩
  have N_isNm : Fns l.prog w K mg base "is_name" 1 ["thing"] (spIsNm K) := ⟨f_isNm, g_isNm, ok_isNm F_isNm b (FX.int_of X G x_signs), PySem.W.mg_of X G d_isNm, F_isNm.kp, b_isNm⟩
  have GC : GrC l.prog w K mg base C := ⟨cl, ⟨f_prt, g_prt, FX.meth_of x_prt, ok_prt F_prt cl (no _ (by simp)), b_prt⟩⟩
  have N_isU : Fns l.prog w K mg base "_is_use" 2 ["ground", "thing"] (spIsU K C) := ⟨f_isU, g_isU, ok_isU F_isU b GC N_isL, PySem.W.mg_of X G d_isU, F_isU.kp, b_isU⟩
  have BT : ErrC l.prog w K mg base "BadTerm" "path" CB := by
    refine FX.err_of (PySem.W.mg_of X G aB) oxB i_bt t_bt (fI := f_bt) (fd := g_bt) ?_ b_bt
    refine F_bt.ok sc_bt (fun vs H Q E h => ?_) (fun cdv A outer s H vs Q E hr h => ?_)
    · obtain ⟨a, y, rfl, _⟩ := h
      rfl
    · obtain ⟨a, y, rfl, ha, q⟩ := h
      exact ⟨_, pss_one (ps_ost (pv 0) (pv 1)), _, rfl, _, rfl, a, CB, rfl, oxB, noB, .inl ⟨ha, q⟩⟩
  have FCK := ok_chkX (P := l.prog) (w := w) (base := base) F_chk F_par b (PySem.W.mg_of X G d_chk) F_chk.kp b_chk (PySem.W.mg_of X G d_par) F_par.kp b_par NMD TBH BT N_isL N_isNm N_isU 14
  have CKX : ∃ g gd, FnOk l.prog w K mg base (L2.CX l.prog w) 32 g gd ["ground", "thing", "names", "path"] (spChkX K C CB 14) ∧ mg "checked_within" = some (.ref g) ∧ PySem.W.keepIn K (.ref g) = true ∧ Binds K gd ["ground", "thing", "names", "path"] [] :=
    ⟨f_chk, g_chk, FCK, PySem.W.mg_of X G d_chk, F_chk.kp, b_chk⟩
  have FCD := ok_chdX F_chd CKX
  have CHX : ∃ g gd, FnOk l.prog w K mg base (L2.CX l.prog w) 33 g gd ["ground", "thing"] (spChdX K C CB) ∧ mg "checked" = some (.ref g) ∧ PySem.W.keepIn K (.ref g) = true ∧ Binds K gd ["ground", "thing"] [] :=
    ⟨f_chd, g_chd, FCD, PySem.W.mg_of X G d_chd, F_chd.kp, b_chd⟩
  have N_chd : Fns l.prog w K mg base "checked" 33 ["ground", "thing"] (spChd K C) := ⟨f_chd, g_chd, ok_chd FCD, PySem.W.mg_of X G d_chd, F_chd.kp, b_chd⟩
  have N_ckL : Fns l.prog w K mg base "_check_letters" 2 ["letters"] spCkL := ⟨f_ckL, g_ckL, ok_ckL F_ckL b (FX.int_of X G x_parts) N_isNm N_isN, PySem.W.mg_of X G d_ckL, F_ckL.kp, b_ckL⟩
  have N_ckF : Fns l.prog w K mg base "_check_fixed" 2 ["letters", "fixed"] spCkF := ⟨f_ckF, g_ckF, ok_ckF F_ckF b N_isL, PySem.W.mg_of X G d_ckF, F_ckF.kp, b_ckF⟩
  have N_ckC : Fns l.prog w K mg base "_check_commuting" 2 ["letters", "fixed", "commuting"] spCkC := ⟨f_ckC, g_ckC, ok_ckC F_ckC b N_isL, PySem.W.mg_of X G d_ckC, F_ckC.kp, b_ckC⟩
  have N_te : Fns l.prog w K mg base "_is_told_end" 2 ["thing"] spTE := ⟨f_te, g_te, ok_te F_te b N_isL N_isNm, PySem.W.mg_of X G d_te, F_te.kp, b_te⟩
  have N_isF : Fns l.prog w K mg base "_is_fact" 3 ["letters", "fixed", "thing"] spIsF := ⟨f_isF, g_isF, ok_isF F_isF b N_isL N_isNm N_te, PySem.W.mg_of X G d_isF, F_isF.kp, b_isF⟩
  have N_ft : Fns l.prog w K mg base "_facts_as_told" 4 ["letters", "fixed", "commuting", "facts"] spFT := ⟨f_ft, g_ft, ok_ft F_ft b N_isL N_isF, PySem.W.mg_of X G d_ft, F_ft.kp, b_ft⟩
  have N_out : Fns l.prog w K mg base "as_outcome" 1 ["end"] spOut := ⟨f_out, g_out, ok_out F_out, PySem.W.mg_of X G d_out, F_out.kp, b_out⟩
  have N_ebv : Fns l.prog w K mg base "_ends_by_values" 2 ["facts", "commutes"] (spEbv l.prog w) := ⟨f_ebv, g_ebv, ok_ebv F_ebv b N_out, PySem.W.mg_of X G d_ebv, F_ebv.kp, b_ebv⟩
  have N_perm : Fns l.prog w K mg base "_all_permissions" 1 ["letters", "moving"] spPerm := ⟨f_perm, g_perm, ok_perm F_perm b, PySem.W.mg_of X G d_perm, F_perm.kp, b_perm⟩
  have FGI := ok_gi (P := l.prog) (w := w) (mg := mg) (base := base) FI b cl (no _ (by simp)) (no _ (by simp)) (no _ (by simp)) (no _ (by simp)) (no _ (by simp)) (no _ (by simp)) (no _ (by simp)) (no _ (by simp)) (no _ (by simp)) N_ckL N_ckF N_ckC N_ft N_ebv N_perm
  have N_made : Fns l.prog w K mg base "_law_made" 7 ["_law_g"] (spMade C) := ⟨f_made, g_made, ok_made F_made (FX.mk_of x_mk) FGI bI (PySem.W.mg_of X G aC), PySem.W.mg_of X G d_made, F_made.kp, b_made⟩
  have N_cell : Fns l.prog w K mg base "_law_cell" 1 ["_law_script", "_law_k"] (GB.spCell K) := ⟨f_cell, g_cell, ok_cell F_cell b, PySem.W.mg_of X G d_cell, F_cell.kp, b_cell⟩
  have N_pool : Fns l.prog w K mg base "_law_pool" 1 ["_law_grain"] spPool := ⟨f_pool, g_pool, ok_pool F_pool b, PySem.W.mg_of X G d_pool, F_pool.kp, b_pool⟩
  have N_take : Fns l.prog w K mg base "_law_take" 1 ["_law_pool_here", "_law_many_here"] spTake := ⟨f_take, g_take, ok_take F_take b, PySem.W.mg_of X G d_take, F_take.kp, b_take⟩
  have N_mixed : Fns l.prog w K mg base "_law_mixed" 2 ["_law_pool_here", "_law_things"] (spMixed K) := ⟨f_mixed, g_mixed, ok_mixed F_mixed b N_take, PySem.W.mg_of X G d_mixed, F_mixed.kp, b_mixed⟩
  have N_one : Fns l.prog w K mg base "_law_one" 2 ["_law_pool_here", "_law_things"] (spOne K) := ⟨f_one, g_one, ok_one F_one b N_take, PySem.W.mg_of X G d_one, F_one.kp, b_one⟩
  have N_oneT : Fns l.prog w K mg base "_law_one" 2 ["_law_pool_here", "_law_things"] (spOneT K) := ⟨f_one, g_one, ok_oneT F_one b N_take, PySem.W.mg_of X G d_one, F_one.kp, b_one⟩
  have N_ground : Fns l.prog w K mg base "_law_ground" 3 ["_law_pool_here", "_law_most"] spGround := ⟨f_ground, g_ground, ok_ground F_ground b N_take N_mixed N_one, PySem.W.mg_of X G d_ground, F_ground.kp, b_ground⟩
  have N_term : Fns l.prog w K mg base "_law_term" 16 ["_law_pool_here", "_law_g", "_law_names", "_law_left"] (spTerm K 14) := ⟨f_term, g_term, ok_term F_term b (PySem.W.mg_of X G d_term) F_term.kp b_term N_one N_oneT 14, PySem.W.mg_of X G d_term, F_term.kp, b_term⟩
  have N_loose : Fns l.prog w K mg base "_law_loose" 62 ["_law_pool_here", "_law_thing"] (spLoose K 60) := ⟨f_loose, g_loose, ok_loose F_loose b (PySem.W.mg_of X G d_loose) F_loose.kp b_loose N_take 60, PySem.W.mg_of X G d_loose, F_loose.kp, b_loose⟩
  have N_many : Fns l.prog w K mg base "_law_many" 1 ["_law_g", "_law_word"] (spMany K) := ⟨f_many, g_many, ok_many F_many, PySem.W.mg_of X G d_many, F_many.kp, b_many⟩
  have N_lnm : Fns l.prog w K mg base "_law_is_name" 1 ["_law_thing"] (spLnm K) := ⟨f_lnm, g_lnm, ok_lnm F_lnm b, PySem.W.mg_of X G d_lnm, F_lnm.kp, b_lnm⟩
  have N_inn : Fns l.prog w K mg base "_law_inner" 2 ["_law_g", "_law_thing"] (spInn K) := ⟨f_inn, g_inn, ok_inn F_inn b N_many N_lnm, PySem.W.mg_of X G d_inn, F_inn.kp, b_inn⟩
  have N_fb : Fns l.prog w K mg base "_law_first_bad" 17 ["_law_g", "_law_thing", "_law_names", "_law_path"] (spFb K 14) := ⟨f_fb, g_fb, ok_fb F_fb b (PySem.W.mg_of X G d_fb) F_fb.kp b_fb N_inn 14, PySem.W.mg_of X G d_fb, F_fb.kp, b_fb⟩
  have N_sp : Fns l.prog w K mg base "_law_spoilt" 13 ["_law_pool_here", "_law_g", "_law_term_here"] (spSp K 10) := ⟨f_sp, g_sp, ok_sp F_sp b (PySem.W.mg_of X G d_sp) F_sp.kp b_sp N_inn N_take N_one 10, PySem.W.mg_of X G d_sp, F_sp.kp, b_sp⟩
  have N_met : Fns l.prog w K mg base "_law_met" 35 ["_law_ground_here", "_law_thing"] (spMet K C CB) := ⟨f_met, g_met, ok_met F_met CHX (PySem.W.mg_of X G aB) xfB noB teB, PySem.W.mg_of X G d_met, F_met.kp, b_met⟩
  exact ok_law {
    T := b
    gRp := FX.free_of X G x_rep (by simp)
    CE := N_cell
    PL := N_pool
    TK := N_take
    ON := N_one
    GR := N_ground
    MD := N_made
    TM := N_term
    LO := N_loose
    SP := N_sp
    FB := N_fb
    MT := N_met } hr hS
theorem walk {l : PySem.W.OpenLaw} {q : Program} {loose : List Str} {XP : (Str → Option Value) → Heap → Prop} {YP : World → Heap → Prop} {d : DefRec} {K : Params → PySem.W.Frag} (hn : l.most = some 63) (hdf : d.params.defaults = []) (hrec : ((PyProof.Rows.recsOf q).any fun e => e.name == d.name) = true)
    (hY : ∀ (w : World) (h : Heap), YP w h → (K w.params).In h)
    (F : ∀ (w : World) (mg : Str → Option Value) (fa : Addr) (h : Heap), (K w.params).In h → h.Ns mainGlobals mg → mg d.name = some (.ref fa) → OwnTab (K w.params) fa h → EndG.LawG l w (K w.params) 70 63 "_law_script" lawN mg fa h) :
    PySem.W.WalkO q loose XP YP l.row.toRowW d [] (fun f vs => PySem.call f vs) :=
  EndG.walk_g (n := 63) (k := 70) (x := "_law_script") hn (by decide) hdf ⟨rfl, by decide, by decide⟩ hrec hY F
end K4
set_option Elab.async false
open PySem PySem.W PyProof.Rows
set_option maxRecDepth 100000 in
set_option maxHeartbeats 0 in
theorem PySem.Challenge.cw_freeworldrules_k04_terms_checked_holds : PySem.Challenge.rw_freeworldrules_k04_terms_checked.Holds := by
  w_on; o_law; k_headLK; (case hw => w_witness2)
  k_fill
  refine K4.walk (l := PySem.Challenge.rw_freeworldrules_k04_terms_checked) rfl rfl (by kernel_rfl) (fun w h Y => PySem.W.kIn_of Y) ?F
  case F =>
    intro w mg fa h KX G hmg own
    refine' K4.all_mk KX G hmg own ?aC ?d_isL ?F_isL ?d_isN ?F_isN ?d_isNm ?F_isNm ?d_chd ?F_chd ?d_chk ?F_chk ?d_par ?F_par ?d_isU ?F_isU ?d_ckL ?F_ckL ?d_ckF ?F_ckF ?d_ckC ?F_ckC ?d_ft ?F_ft ?d_isF ?F_isF ?d_te ?F_te ?d_ebv ?F_ebv ?d_out ?F_out ?d_perm ?F_perm ?d_cell ?F_cell ?d_pool ?F_pool ?d_take ?F_take ?d_mixed ?F_mixed ?d_one ?F_one ?d_ground ?F_ground ?d_made ?F_made ?d_term ?F_term ?d_loose ?F_loose ?d_many ?F_many ?d_lnm ?F_lnm ?d_inn ?F_inn ?d_fb ?F_fb ?d_sp ?F_sp ?d_met ?F_met ?i_prt ?F_prt ?i_gi ?F_gi ?aB ?i_bt ?t_bt ?F_bt ?d_law ?F_law ?x_free ?x_signs ?x_parts ?x_named1 ?x_named2 ?d_tb ?x_tb1 ?x_tb2 ?x_tb3 ?x_cl ?x_no ?x_mk ?x_prt ?x_bt ?x_rep
    (case aC => k_is)
    (case d_isL => k_is)
    (case F_isL => exact ⟨_, L2.fun_mk (by k_is) (by k_is) (by k_is)⟩)
    (case d_isN => k_is)
    (case F_isN => exact ⟨_, L2.fun_mk (by k_is) (by k_is) (by k_is)⟩)
    (case d_isNm => k_is)
    (case F_isNm => exact ⟨_, L2.fun_mk (by k_is) (by k_is) (by k_is)⟩)
    (case d_chd => k_is)
    (case F_chd => exact ⟨_, L2.fun_mk (by k_is) (by k_is) (by k_is)⟩)
    (case d_chk => k_is)
    (case F_chk => exact ⟨_, L2.fun_mk (by k_is) (by k_is) (by k_is)⟩)
    (case d_par => k_is)
    (case F_par => exact ⟨_, L2.fun_mk (by k_is) (by k_is) (by k_is)⟩)
    (case d_isU => k_is)
    (case F_isU => exact ⟨_, L2.fun_mk (by k_is) (by k_is) (by k_is)⟩)
    (case d_ckL => k_is)
    (case F_ckL => exact ⟨_, L2.fun_mk (by k_is) (by k_is) (by k_is)⟩)
    (case d_ckF => k_is)
    (case F_ckF => exact ⟨_, L2.fun_mk (by k_is) (by k_is) (by k_is)⟩)
    (case d_ckC => k_is)
    (case F_ckC => exact ⟨_, L2.fun_mk (by k_is) (by k_is) (by k_is)⟩)
    (case d_ft => k_is)
    (case F_ft => exact ⟨_, L2.fun_mk (by k_is) (by k_is) (by k_is)⟩)
    (case d_isF => k_is)
    (case F_isF => exact ⟨_, L2.fun_mk (by k_is) (by k_is) (by k_is)⟩)
    (case d_te => k_is)
    (case F_te => exact ⟨_, L2.fun_mk (by k_is) (by k_is) (by k_is)⟩)
    (case d_ebv => k_is)
    (case F_ebv => exact ⟨_, L2.fun_mk (by k_is) (by k_is) (by k_is)⟩)
    (case d_out => k_is)
    (case F_out => exact ⟨_, L2.fun_mk (by k_is) (by k_is) (by k_is)⟩)
    (case d_perm => k_is)
    (case F_perm => exact ⟨_, L2.fun_mk (by k_is) (by k_is) (by k_is)⟩)
    (case d_cell => k_is)
    (case F_cell => exact ⟨_, L2.fun_mk (by k_is) (by k_is) (by k_is)⟩)
    (case d_pool => k_is)
    (case F_pool => exact ⟨_, L2.fun_mk (by k_is) (by k_is) (by k_is)⟩)
    (case d_take => k_is)
    (case F_take => exact ⟨_, L2.fun_mk (by k_is) (by k_is) (by k_is)⟩)
    (case d_mixed => k_is)
    (case F_mixed => exact ⟨_, L2.fun_mk (by k_is) (by k_is) (by k_is)⟩)
    (case d_one => k_is)
    (case F_one => exact ⟨_, L2.fun_mk (by k_is) (by k_is) (by k_is)⟩)
    (case d_ground => k_is)
    (case F_ground => exact ⟨_, L2.fun_mk (by k_is) (by k_is) (by k_is)⟩)
    (case d_made => k_is)
    (case F_made => exact ⟨_, L2.fun_mk (by k_is) (by k_is) (by k_is)⟩)
    (case d_term => k_is)
    (case F_term => exact ⟨_, L2.fun_mk (by k_is) (by k_is) (by k_is)⟩)
    (case d_loose => k_is)
    (case F_loose => exact ⟨_, L2.fun_mk (by k_is) (by k_is) (by k_is)⟩)
    (case d_many => k_is)
    (case F_many => exact ⟨_, L2.fun_mk (by k_is) (by k_is) (by k_is)⟩)
    (case d_lnm => k_is)
    (case F_lnm => exact ⟨_, L2.fun_mk (by k_is) (by k_is) (by k_is)⟩)
    (case d_inn => k_is)
    (case F_inn => exact ⟨_, L2.fun_mk (by k_is) (by k_is) (by k_is)⟩)
    (case d_fb => k_is)
    (case F_fb => exact ⟨_, L2.fun_mk (by k_is) (by k_is) (by k_is)⟩)
    (case d_sp => k_is)
    (case F_sp => exact ⟨_, L2.fun_mk (by k_is) (by k_is) (by k_is)⟩)
    (case d_met => k_is)
    (case F_met => exact ⟨_, L2.fun_mk (by k_is) (by k_is) (by k_is)⟩)
    (case i_prt => k_is)
    (case F_prt => exact ⟨_, L2.fun_mk (by k_is) (by k_is) (by k_is)⟩)
    (case i_gi => k_is)
    (case F_gi => exact ⟨_, _, _, _, _, _, _, _, _, _, by k_is, by k_is, by kernel_rfl, by k_is⟩)
    (case aB => k_is)
    (case i_bt => k_is)
    (case t_bt => k_is)
    (case F_bt => exact ⟨_, L2.fun_mk (by k_is) (by k_is) (by k_is)⟩)
    (case d_law => k_is)
    (case F_law => exact ⟨_, _, _, _, _, _, _, _, _, by k_is, by k_is, by k_is⟩)
    (case x_free => kernel_rfl)
    (case x_signs => kernel_rfl)
    (case x_parts => kernel_rfl)
    (case x_named1 => kernel_rfl)
    (case x_named2 => kernel_rfl)
    (case d_tb => k_is)
    (case x_tb1 => kernel_rfl)
    (case x_tb2 => kernel_rfl)
    (case x_tb3 => kernel_rfl)
    (case x_cl => kernel_rfl)
    (case x_no => kernel_rfl)
    (case x_mk => kernel_rfl)
    (case x_prt => kernel_rfl)
    (case x_bt => kernel_rfl)
    (case x_rep => kernel_rfl)
