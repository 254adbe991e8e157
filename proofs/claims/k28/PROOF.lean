import PyProof.Rows.All
import Wide.All
import OpenK.AllK
import Wide.FinOn
import HandS.ForMost
import HandS.IsInst
import HandS.Exc
import HandS.Deep
import HandS.Star
import KE.GoesEnum
import HandS.Walk
import HandS.Text
import HandS.FStr
import HandS.TupAny
import HandS.Call
import HandS.List
import PyProof.StrOps2
import HandS.StrMore
import HandS.ExcInit
import HandS.ExcField
import HandS.HeadHook3
import HandS.EndOwn
import HandS.Defaults
import HandS.WordsExc
import KE.KDictKeyed
import KE.KDictCopyH
import KE.KDictList
import KE.KeyNested
import HandS.Dict
import HandS.Comp
import HandS.TryMany
import HandS.TupMul
import HandS.Style
import HandS.More
import PyProof.ListStr
import HandS.DictComp
import PyProof.TupleOfSeq
import HandS.ExcValue
import HandS.ExcOwn
import PyProof.NeKinds
import HandS.Words
import HandS.Lambda
import KE.OsRunLaw
import PySem.Challenge.RW_freeworldrules_k28_texts_refused
set_option Elab.async false
set_option linter.all false
set_option maxRecDepth 100000
set_option maxHeartbeats 4000000
/-! What the laws' own helpers lean on: heaps with some places hidden, pools, promises. -/
namespace GB
open PySem PySem.Spec L2
/-- the heap without the places that others may change -/
def hid (ps : List Addr) (H : Hp) : Hp := fun b => if b ∈ ps then none else H b
theorem hid_in {ps : List Addr} {H : Hp} {b : Addr} {o : HO} (e : hid ps H b = some o) : H b = some o ∧ b ∉ ps := by
  unfold hid at e
  split at e
  · cases e
  · rename_i h; exact ⟨e, h⟩
theorem hid_of {ps : List Addr} {H : Hp} {b : Addr} (h : b ∉ ps) : hid ps H b = H b := if_neg h
theorem hid_to {ps : List Addr} {H : Hp} {b : Addr} {o : HO} (h : b ∉ ps) (e : H b = some o) : hid ps H b = some o := by rw [hid_of h]; exact e
theorem hid_low (ps : List Addr) (H : Hp) : Same (hid ps H) H := fun b o e => (hid_in e).1
theorem hid_less {ps qs : List Addr} {H : Hp} (h : ∀ p ∈ qs, p ∈ ps) : Same (hid ps H) (hid qs H) := fun b o e => by
  obtain ⟨e1, n⟩ := hid_in e
  exact hid_to (fun m => n (h b m)) e1
theorem hid_same {ps : List Addr} {H H' : Hp} (s : Same H H') : Same (hid ps H) (hid ps H') := fun b o e => by
  obtain ⟨e1, n⟩ := hid_in e
  exact hid_to n (s b o e1)
/-- all but these places stands as it was -/
abbrev Bt (ps : List Addr) (H H' : Hp) : Prop := Same (hid ps H) (hid ps H')
theorem bt_upd {ps : List Addr} {H : Hp} {a : Addr} {o : HO} (h : a ∈ ps) : Bt ps H (upd H a o) := fun b u e => by
  obtain ⟨e1, n⟩ := hid_in e
  have : b ≠ a := fun z => n (by rw [z]; exact h)
  exact hid_to n (by rw [upd_ne this]; exact e1)
theorem bt_weak {ps qs : List Addr} {H H' : Hp} (h : ∀ p ∈ qs, p ∈ ps) (s : Bt qs H H') : Bt ps H H' := fun b o e => by
  obtain ⟨e1, n⟩ := hid_in e
  have nq : b ∉ qs := fun m => n (h b m)
  exact hid_to n (hid_in (s b o (hid_to nq e1))).1
theorem bt_of {ps : List Addr} {H H' : Hp} (s : Same H H') : Bt ps H H' := hid_same s
theorem bt_at {ps : List Addr} {H H' : Hp} {a : Addr} {o : HO} (s : Bt ps H H') (n : a ∉ ps) (e : H a = some o) : H' a = some o := (hid_in (s a o (hid_to n e))).1
/-- a new object is laid -/
theorem lay {H : Hp} {a : Addr} {o : HO} (n : H a = none) : ∃ H', Same H H' ∧ H' a = some o ∧ upd H a o = H' := ⟨_, fun b u e => by rw [upd_ne (ne_of_none e n)]; exact e, upd_same, rfl⟩
theorem ni1 {a p : Addr} (h : a ≠ p) : a ∉ [p] := fun m => h (List.mem_singleton.mp m)
theorem Same.seqT {K : PySem.W.Frag} {H H' : Hp} {a : Addr} {xs : List V} (e : Same H H') (h : SqT K H a xs) : SqT K H' a xs := by
  rcases h with (h | ⟨o, h⟩) | h
  · exact .inl (.inl (e _ _ h))
  · exact .inl (.inr ⟨o, e _ _ h⟩)
  · exact .inr h
def poolV (a b c : Int) : List V := [.int a, .int b, .int c]
/-- a pool at p, drawn from n times at most -/
structure PoolIs (H : Hp) (p : Addr) (n : Nat) : Prop where
  ex : ∃ a b c : Int, H p = some (.lst (poolV a b c)) ∧ 0 ≤ a ∧ 0 ≤ b ∧ b < 1000000007 ∧ 0 ≤ c ∧ c ≤ n
theorem PoolIs.mono {H H' : Hp} {p : Addr} {n m : Nat} (s : Same H H') (h : n ≤ m) (P : PoolIs H p n) : PoolIs H' p m := by
  obtain ⟨a, b, c, e, h1, h2, h3, h4, h5⟩ := P
  exact ⟨a, b, c, s _ _ e, h1, h2, h3, h4, by omega⟩
theorem PoolIs.ne {H : Hp} {p a : Addr} {n : Nat} (P : PoolIs H p n) (h : H a = none) : a ≠ p := by
  obtain ⟨x, y, z, e, _⟩ := P
  exact (ne_of_none e h).symm
def spCell (K : PySem.W.Frag) : Sp := fun vs H Q _ => ∃ (a : Addr) (ns : List Int) (k : Nat), vs = [.ref a, .int k] ∧ SqL K H a (ns.map V.int) ∧ ∀ z, Q (.int z) H
def spPool : Sp := fun vs H Q _ => ∃ g : Int, vs = [.int g] ∧ ∀ p H', H p = none → Same H H' → PoolIs H' p 0 → Q (.ref p) H'
/-- a draw: below m -/
def spTake : Sp := fun vs H Q _ => ∃ (p : Addr) (m : Int) (n : Nat), vs = [.ref p, .int m] ∧ 0 < m ∧ m < 1000000 ∧ n ≤ 1000000 ∧ PoolIs H p n ∧
  ∀ (r : Nat) H', (r : Int) < m → Bt [p] H H' → PoolIs H' p (n + 1) → Q (.int r) H'
structure Fns (P : Program) (w : World) (K : PySem.W.Frag) (mg : Str → Option Value) (base : Heap) (n : Str) (k : Nat) (ps : List Str) (sp : Sp) : Prop where
  ex : ∃ (f : Addr) (fd : FuncData), FnOk P w K mg base CX0 k f fd ps sp ∧ mg n = some (.ref f) ∧ PySem.W.keepIn K (.ref f) = true ∧ Binds K fd ps []
section
variable {X : Cx} {n : Str} {k j : Nat} {ps : List Str} {sp : Sp} {e : Expr} {es : List Expr} {p pos : Pos} {t : TA}
theorem pe_fn (F : Fns X.prog X.w X.K X.mg X.base n k ps sp) (hr : Room j X.A) (hk : k ≤ j) (hg : Gl X n) (ha : PA X (e :: es) t) (hdb : (n == ("__debug__" : Str)) = false := by decide)
    (he : starEach (e :: es) X.env = (false, eval e X.env) :: starEach es X.env := by rfl) (hpl : (backTo pos (starEach es X.env)).any (·.1) = false := by rfl) : PE X (.Call (.Name n p) (e :: es) [] pos) (tCall sp [] E0 t) := by
  obtain ⟨f, fd, G, m, kp, b⟩ := F.ex
  exact pe_call G (hr.mono hk) hg m kp b .nil pass0 ha hdb he hpl
end
/-- the built-ins' names, as the module leaves them -/
structure Bl (mg : Str → Option Value) : Prop where
  len : mg "len" = none
  int : mg "int" = none
  list : mg "list" = none
  tuple : mg "tuple" = none
  dict : mg "dict" = none
  range : mg "range" = none
  sorted : mg "sorted" = none
  isi : mg "isinstance" = none
  bool : mg "bool" = none
  str : mg "str" = none
  all : mg "all" = none
  any : mg "any" = none
  enum : mg "enumerate" = none
/-- the things in an order of its own -/
def spMixed (K : PySem.W.Frag) : Sp := fun vs H Q _ => ∃ (p t : Addr) (xs : List V) (n : Nat), vs = [.ref p, .ref t] ∧ SqL K (hid [p] H) t xs ∧ xs.length ≤ 60 ∧ n + 60 ≤ 1000000 ∧ PoolIs H p n ∧
  ∀ (q : Addr) (ys : List V) H', ys.Perm xs → H q = none → Bt [p] H H' → H' q = some (.lst ys) → PoolIs H' p (n + 60) → Q (.ref q) H'
/-- one of the things -/
def spOne (K : PySem.W.Frag) : Sp := fun vs H Q _ => ∃ (p t : Addr) (xs : List V) (n : Nat), vs = [.ref p, .ref t] ∧ SqL K (hid [p] H) t xs ∧ xs ≠ [] ∧ xs.length ≤ 100000 ∧ n + 1 ≤ 1000000 ∧ PoolIs H p n ∧
  ∀ (v : V) H', v ∈ xs → Bt [p] H H' → PoolIs H' p (n + 1) → Q v H'
theorem cut_to (xs : List V) (r : Nat) (h : r ≤ xs.length) : cutV xs none (some (r : Int)) = xs.take r := by
  unfold cutV
  rw [HT.sIx_none, HT.sIx_nat, List.drop_zero, Nat.min_eq_left h, Nat.sub_zero]
theorem cut_from (xs : List V) (r : Nat) : cutV xs (some (r : Int)) none = xs.drop r := by
  unfold cutV
  rw [HT.sIx_none, HT.sIx_nat]
  by_cases h : r ≤ xs.length
  · rw [Nat.min_eq_left h, List.take_of_length_le]
    rw [List.length_drop]; exact Nat.le_refl _
  · rw [Nat.min_eq_right (by omega), List.drop_of_length_le (Nat.le_refl _), List.drop_of_length_le (by omega)]
    simp
theorem perm_out {α : Type} {left : List α} {r : Nat} {v : α} (fs : List α) (h : left[r]? = some v) : ((fs ++ [v]) ++ (left.take r ++ left.drop (r + 1))).Perm (fs ++ left) := by
  obtain ⟨hr, rfl⟩ := List.getElem?_eq_some_iff.mp h
  rw [List.append_assoc]
  refine List.Perm.append_left fs ?_
  have e : left = left.take r ++ left[r] :: left.drop (r + 1) := by
    rw [← List.drop_eq_getElem_cons hr, List.take_append_drop]
  conv => rhs; rw [e]
  show (left[r] :: (left.take r ++ left.drop (r + 1))).Perm _
  exact List.perm_middle.symm
end GB
set_option Elab.async false
set_option linter.all false
set_option maxRecDepth 100000
set_option maxHeartbeats 4000000
/-! The laws' grounds as plain data, and where they stand. -/
namespace GB
open PySem PySem.Spec L2
structure Fact where
  x : Str
  vals : List Str
  kind : Str
  en : Str
structure GD where
  letters : List (Str × Nat)
  fixed : List Str
  comm : List Str
  facts : List Fact
def nm8 : List Str := ["x", "y", "z", "plus", "if", "name", "abcdefgh", "fail"]
/-- all names that letters of this law have -/
def nmA : List Str := nm8 ++ (["and", "bind", "last", "value", "use", "ifs", "an"] : List Str)
theorem nmA_of {x : Str} (h : x ∈ nm8) : x ∈ nmA := List.mem_append_left _ h
def va3 : List Str := ["one", "two", "false"]
def sort2 : List Str → List Str
  | [a, b] => if PyProof.Rows.sortedS [a, b] = true then [a, b] else [b, a]
  | l => l
theorem perm2 {α : Type} {a b : α} : ∀ {l : List α}, l.Perm [a, b] → l = [a, b] ∨ l = [b, a]
  | [], h => by have := h.length_eq; simp at this
  | [x], h => by have := h.length_eq; simp at this
  | [x, y], h => by
    have hx : x ∈ [a, b] := h.subset List.mem_cons_self
    rcases List.mem_cons.mp hx with rfl | hx
    · have := List.Perm.cons_inv h
      exact .inl (by rw [List.perm_singleton.mp this])
    · obtain rfl := List.mem_singleton.mp hx
      have h2 : [x, y].Perm [x, a] := h.trans (List.Perm.swap _ _ _)
      have := List.Perm.cons_inv h2
      exact .inr (by rw [List.perm_singleton.mp this])
  | x :: y :: z :: r, h => by have := h.length_eq; simp at this
theorem two_sorted : ∀ a ∈ va3, ∀ b ∈ va3, (PyProof.Rows.sortedS [a, b] = true ∧ (PyProof.Rows.sortedS [b, a] = true → [b, a] = [a, b])) ∨ (PyProof.Rows.sortedS [a, b] = false ∧ PyProof.Rows.sortedS [b, a] = true) := by decide
/-- the one order of at most two such texts -/
theorem sort2_of {ys vs : List Str} (hp : ys.Perm vs) (hs : PyProof.Rows.sortedS ys = true) (hl : vs.length ≤ 2) (hv : ∀ v ∈ vs, v ∈ va3) : ys = sort2 vs := by
  match vs, hl, hp, hv with
  | [], _, hp, _ => exact hp.eq_nil
  | [a], _, hp, _ => exact List.perm_singleton.mp hp
  | [a, b], _, hp, hv =>
    have ha := hv a List.mem_cons_self
    have hb := hv b (List.mem_cons_of_mem _ List.mem_cons_self)
    show ys = if PyProof.Rows.sortedS [a, b] = true then [a, b] else [b, a]
    rcases perm2 hp with rfl | rfl
    · rw [if_pos hs]
    · rcases two_sorted a ha b hb with ⟨h1, h2⟩ | ⟨h1, h2⟩
      · rw [if_pos h1]; exact h2 hs
      · rw [if_neg (by rw [h1]; exact Bool.false_ne_true)]
theorem sort2_perm (l : List Str) : (sort2 l).Perm l := by
  match l with
  | [] => exact List.Perm.refl _
  | [a] => exact List.Perm.refl _
  | [a, b] =>
    show (if PyProof.Rows.sortedS [a, b] = true then [a, b] else [b, a]).Perm [a, b]
    split
    · exact List.Perm.refl _
    · exact List.Perm.swap _ _ _
  | a :: b :: c :: r => exact List.Perm.refl _
theorem paired_app {α β : Type} {R : α → β → Prop} : ∀ {l l' : List α} {m m' : List β}, Paired R l m → Paired R l' m' → Paired R (l ++ l') (m ++ m')
  | _, _, _, _, .nil, s => s
  | _, _, _, _, .cons r t, s => .cons r (paired_app t s)
def GD.asked (g : GD) (f : Fact) : Str × List Str := (f.x, if f.x ∈ g.comm then sort2 f.vals else f.vals)
structure Fact.Ok (ls : List (Str × Nat)) (fx : List Str) (f : Fact) : Prop where
  x : f.x ∈ fx
  len : ∃ k, (f.x, k) ∈ ls ∧ f.vals.length = k
  vals : ∀ v ∈ f.vals, v ∈ va3
  kind : f.kind = "value" ∨ f.kind = "fail"
  en : f.en = "one" ∨ f.en = "false"
structure GD.Wf (g : GD) : Prop where
  ne : g.letters ≠ []
  nd : (g.letters.map (·.1)).Nodup
  nm : ∀ q ∈ g.letters, q.1 ∈ nmA
  le : g.letters.length ≤ 8
  ar : ∀ q ∈ g.letters, q.2 ≤ 2
  fx : g.fixed.Sublist (g.letters.map (·.1))
  cm : g.comm.Sublist g.fixed
  c2 : ∀ x ∈ g.comm, (x, 2) ∈ g.letters
  fl : g.facts.length ≤ 6
  fa : ∀ f ∈ g.facts, f.Ok g.letters g.fixed
  fd : (g.facts.map g.asked).Nodup
def lkv (ls : List (Str × Nat)) : List (Key × V) := ls.map fun q => (Sum.inr q.1, V.int q.2)
def sts (l : List Str) : List V := l.map V.str
structure FactAt (H : Hp) (f : Fact) (t : Addr) : Prop where
  ex : ∃ v e : Addr, H t = some (.tup [.str f.x, .ref v, .ref e]) ∧ H v = some (.tup (sts f.vals)) ∧ H e = some (.tup [.str f.kind, .str f.en])
def FactsAt (H : Hp) (a : Addr) (fs : List Fact) : Prop := ∃ ts : List Addr, H a = some (.lst (ts.map V.ref)) ∧ Paired (FactAt H) fs ts
theorem FactAt.mono {H H' : Hp} {f : Fact} {t : Addr} (s : Same H H') (h : FactAt H f t) : FactAt H' f t := let ⟨v, e, h1, h2, h3⟩ := h.ex; ⟨v, e, s _ _ h1, s _ _ h2, s _ _ h3⟩
/-- the law's dict of a ground -/
structure IsG (H : Hp) (g : Addr) (d : GD) : Prop where
  ex : ∃ aL aF aC aT : Addr, H g = some (.dK [(.inr "letters", .ref aL), (.inr "fixed", .ref aF), (.inr "commuting", .ref aC), (.inr "facts", .ref aT)]) ∧ H aL = some (.dK (lkv d.letters)) ∧ H aF = some (.lst (sts d.fixed)) ∧
    H aC = some (.lst (sts d.comm)) ∧ FactsAt H aT d.facts
theorem FactsAt.mono {H H' : Hp} {fs : List Fact} {t : Addr} (s : Same H H') (h : FactsAt H t fs) : FactsAt H' t fs := let ⟨ts, h1, h2⟩ := h; ⟨ts, s _ _ h1, Paired.mapP h2 fun _ _ r => r.mono s⟩
theorem IsG.mono {H H' : Hp} {d : GD} {g : Addr} (s : Same H H') (h : IsG H g d) : IsG H' g d :=
  let ⟨aL, aF, aC, aT, h1, h2, h3, h4, h5⟩ := h.ex
  ⟨aL, aF, aC, aT, s _ _ h1, s _ _ h2, s _ _ h3, s _ _ h4, h5.mono s⟩
theorem valV_lkv : ∀ {ls : List (Str × Nat)} {x : Str} {k : Nat}, (ls.map (·.1)).Nodup → (x, k) ∈ ls → valV (lkv ls) (.inr x : Key) = some (.int k)
  | [], x, k, _, h => nomatch h
  | q :: r, x, k, nd, h => by
    have nd' := List.nodup_cons.mp nd
    rcases List.mem_cons.mp h with rfl | h
    · exact valV_pos rfl
    · have ne : ¬ ((Sum.inr q.1 : Key) = .inr x) := fun e => nd'.1 (by
        have e' : q.1 = x := Sum.inr.inj e
        show q.1 ∈ r.map (·.1)
        rw [e']
        exact List.mem_map.mpr ⟨(x, k), h, rfl⟩)
      show valV ((Sum.inr q.1, V.int q.2) :: lkv r) (.inr x : Key) = some (.int k)
      rw [valV_neg ne]
      exact valV_lkv nd'.2 h
theorem valV_no : ∀ {ls : List (Str × Nat)} {x : Str}, x ∉ ls.map (·.1) → valV (lkv ls) (.inr x : Key) = none
  | [], x, _ => rfl
  | q :: r, x, h => by
    have ne : ¬ ((Sum.inr q.1 : Key) = .inr x) := fun e => h (by
      have e' : q.1 = x := Sum.inr.inj e
      rw [← e']
      exact List.mem_cons_self)
    show valV ((Sum.inr q.1, V.int q.2) :: lkv r) (.inr x : Key) = none
    rw [valV_neg ne]
    exact valV_no fun m => h (List.mem_cons_of_mem _ m)
def unstr : V → Str
  | .str s => s
  | _ => ""
theorem sts_perm {ys : List V} {l : List Str} (h : ys.Perm (sts l)) : ∃ ns : List Str, ys = sts ns ∧ ns.Perm l := by
  refine ⟨ys.map unstr, ?_, ?_⟩
  · unfold sts
    rw [List.map_map]
    conv => lhs; rw [← List.map_id ys]
    refine List.map_congr_left fun v hv => ?_
    obtain ⟨s, _, rfl⟩ := List.mem_map.mp (h.subset hv)
    rfl
  · have := h.map unstr
    unfold sts at this
    rw [List.map_map] at this
    have e : l.map (unstr ∘ V.str) = l := by
      conv => rhs; rw [← List.map_id l]
      exact List.map_congr_left fun s _ => rfl
    rwa [e] at this
theorem sts_at {l : List Str} {i : Nat} {x : V} (h : (sts l)[i]? = some x) : ∃ s, l[i]? = some s ∧ x = .str s := by
  unfold sts at h
  rw [List.getElem?_map] at h
  cases e : l[i]? with
  | none => rw [e] at h; cases h
  | some s => rw [e] at h; exact ⟨s, rfl, (Option.some.inj h).symm⟩
theorem sts_len (l : List Str) : (sts l).length = l.length := List.length_map _
theorem mem_sts {v : V} {l : List Str} (h : v ∈ sts l) : ∃ s ∈ l, v = .str s := by
  obtain ⟨s, hs, rfl⟩ := List.mem_map.mp h
  exact ⟨s, hs, rfl⟩
end GB
set_option Elab.async false
set_option linter.all false
set_option maxRecDepth 100000
set_option maxHeartbeats 4000000
/-! Data of texts, lists and pairs as the comparisons read them. -/
namespace GB
open PySem PySem.Spec L2 PyProof.Rows
def pst (l : List Str) : List PyData := l.map PyData.str
theorem eqvAll_pst : ∀ a b : List Str, PyData.eqvAll (pst a) (pst b) = decide (a = b)
  | [], [] => by simp [pst, PyData.eqvAll]
  | [], _ :: _ => by simp [pst, PyData.eqvAll]
  | _ :: _, [] => by simp [pst, PyData.eqvAll]
  | x :: a, y :: b => by
    have ih := eqvAll_pst a b
    show (PyData.eqv (.str x) (.str y) && PyData.eqvAll (pst a) (pst b)) = _
    rw [ih, PyData.eqv]
    by_cases h : x = y
    · subst h
      by_cases h2 : a = b
      · subst h2; simp
      · rw [decide_eq_false h2, decide_eq_false fun e => h2 (List.cons.inj e).2, Bool.and_false]
    · rw [decide_eq_false fun e => h (List.cons.inj e).1, (beq_eq_false_iff_ne.mpr h : (x == y) = false), Bool.false_and]
def kd (a : Str × List Str) : PyData := .tuple [.str a.1, .list (pst a.2)]
theorem kd_eqv (a b : Str × List Str) : PyData.eqv (kd a) (kd b) = decide (a = b) := by
  obtain ⟨x, l⟩ := a
  obtain ⟨y, m⟩ := b
  show PyData.eqv (.tuple [.str x, .list (pst l)]) (.tuple [.str y, .list (pst m)]) = _
  simp only [PyData.eqv, PyData.eqvAll, Bool.and_true]
  rw [eqvAll_pst]
  by_cases h : x = y
  · subst h
    by_cases h2 : l = m
    · subst h2; simp
    · rw [decide_eq_false h2, decide_eq_false fun e => h2 (Prod.mk.inj e).2, Bool.and_false]
  · rw [decide_eq_false fun e => h (Prod.mk.inj e).1, (beq_eq_false_iff_ne.mpr h : (x == y) = false), Bool.false_and]
theorem lay_pst : ∀ {l : List Str}, (∀ v ∈ l, PyData.strOk v = true) → PyData.canLayAll0 (pst l) = true
  | [], _ => rfl
  | x :: r, h => by
    show (PyData.canLay0 (.str x) && PyData.canLayAll0 (pst r)) = true
    rw [lay_pst fun v hv => h v (List.mem_cons_of_mem _ hv), PyData.canLay0, h x List.mem_cons_self]
    rfl
theorem dep_pst : ∀ l : List Str, PyData.depthAll (pst l) = 0
  | [] => rfl
  | x :: r => by
    show max (PyData.depth (.str x)) (PyData.depthAll (pst r)) = 0
    rw [dep_pst r, PyData.depth]
    rfl
/-- texts that can be laid -/
def OkS (a : Str × List Str) : Prop := PyData.strOk a.1 = true ∧ ∀ v ∈ a.2, PyData.strOk v = true
theorem lay_kd {a : Str × List Str} (h : OkS a) : PyData.canLay0 (kd a) = true := by
  show PyData.canLay0 (.tuple [.str a.1, .list (pst a.2)]) = true
  simp only [PyData.canLay0, PyData.canLayAll0, Bool.and_true]
  rw [h.1, lay_pst h.2]
  rfl
theorem dep_kd (a : Str × List Str) : PyData.depth (kd a) = 2 := by
  show PyData.depth (.tuple [.str a.1, .list (pst a.2)]) = 2
  simp only [PyData.depth, PyData.depthAll]
  rw [dep_pst]
  rfl
theorem sh_kd {a : Str × List Str} (h : OkS a) : SeqAt.shaped (kd a) = true := by
  unfold SeqAt.shaped
  rw [lay_kd h, dep_kd]
  rfl
theorem lay_kds : ∀ {l : List (Str × List Str)}, (∀ a ∈ l, OkS a) → PyData.canLayAll0 (l.map kd) = true
  | [], _ => rfl
  | a :: r, h => by
    show (PyData.canLay0 (kd a) && PyData.canLayAll0 (r.map kd)) = true
    rw [lay_kd (h a List.mem_cons_self), lay_kds fun b hb => h b (List.mem_cons_of_mem _ hb)]
    rfl
theorem dep_kds : ∀ l : List (Str × List Str), PyData.depthAll (l.map kd) ≤ 2
  | [] => by decide
  | a :: r => by
    show max (PyData.depth (kd a)) (PyData.depthAll (r.map kd)) ≤ 2
    rw [dep_kd]
    have := dep_kds r
    omega
theorem sh_kds {l : List (Str × List Str)} (h : ∀ a ∈ l, OkS a) : SeqAt.shaped (.list (l.map kd)) = true := by
  unfold SeqAt.shaped
  have e : PyData.canLay0 (.list (l.map kd)) = true := by rw [PyData.canLay0]; exact lay_kds h
  have d : PyData.depth (.list (l.map kd)) ≤ 64 := by
    rw [PyData.depth]
    have := dep_kds l
    omega
  rw [e, decide_eq_true d]
  rfl
theorem sh_pst {l : List Str} (h : ∀ v ∈ l, PyData.strOk v = true) : SeqAt.shaped (.list (pst l)) = true := by
  unfold SeqAt.shaped
  have e : PyData.canLay0 (.list (pst l)) = true := by rw [PyData.canLay0]; exact lay_pst h
  rw [e, PyData.depth, dep_pst]
  rfl
theorem any_kd (l : List (Str × List Str)) (a : Str × List Str) : ((l.map kd).any fun z => PyData.eqv z (kd a)) = decide (a ∈ l) := by
  induction l with
  | nil => rfl
  | cons b r ih =>
    rw [List.map_cons, List.any_cons, ih, kd_eqv]
    by_cases h : b = a
    · subst h; simp
    · rw [decide_eq_false h, Bool.false_or]
      have : (a ∈ b :: r) = (a ∈ r) := propext ⟨fun m => (List.mem_cons.mp m).resolve_left fun e => h e.symm, List.mem_cons_of_mem _⟩
      simp only [this]
theorem ok8 : ∀ x ∈ nmA, PyData.strOk x = true := by decide +kernel
theorem ok3 : ∀ x ∈ va3, PyData.strOk x = true := by decide +kernel
theorem dp_sts {K : PySem.W.Frag} {H : Hp} : ∀ l : List Str, DpAll K H (sts l) (pst l)
  | [] => .nil
  | x :: r => .cons (.str x) (dp_sts r)
theorem ne_nil (l : List Str) : (!PyData.eqv (.list (pst l)) (.list [])) = decide (l ≠ []) := by
  cases l with
  | nil => simp [pst, PyData.eqv, PyData.eqvAll]
  | cons x r => simp [pst, PyData.eqv, PyData.eqvAll]
theorem inV_sts (x : Str) (l : List Str) : inV (.str x) (sts l) = decide (x ∈ l) := by
  unfold inV sts
  induction l with
  | nil => rfl
  | cons y r ih =>
    rw [List.map_cons, List.any_cons, ih]
    by_cases h : y = x
    · subst h
      simp [eqV]
    · have e : eqV (.str y) (.str x) = false := by
        simp [eqV, h]
      rw [e, Bool.false_or]
      have : (x ∈ y :: r) = (x ∈ r) := propext ⟨fun m => (List.mem_cons.mp m).resolve_left fun e => h e.symm, List.mem_cons_of_mem _⟩
      simp only [this]
theorem flat_sts (l : List Str) : (sts l).all flatV = true := by
  unfold sts
  rw [List.all_map]
  exact List.all_eq_true.mpr fun x _ => rfl
end GB
set_option Elab.async false
set_option linter.all false
set_option maxRecDepth 100000
set_option maxHeartbeats 4000000
namespace GB
open PySem PySem.Spec L2
theorem dpa_mono {K : PySem.W.Frag} {H H' : Hp} (s : Same H H') : (∀ (d : PyData) (v : V), Dp K H v d → Dp K H' v d) ∧ (∀ (ds : List PyData) (vs : List V), DpAll K H vs ds → DpAll K H' vs ds) := by
  have key : ∀ n, (∀ (d : PyData) (v : V), sizeOf d ≤ n → Dp K H v d → Dp K H' v d) ∧ (∀ (ds : List PyData) (vs : List V), sizeOf ds ≤ n → DpAll K H vs ds → DpAll K H' vs ds) := by
    intro n
    induction n with
    | zero =>
      refine ⟨fun d v hn => ?_, fun ds vs hn => ?_⟩
      · cases d <;> simp at hn
      · cases ds <;> simp at hn
    | succ n ih =>
      have hl : ∀ (ds : List PyData) (vs : List V), sizeOf ds ≤ n → DpAll K H vs ds → DpAll K H' vs ds := ih.2
      have h1 : ∀ (d : PyData) (v : V), sizeOf d ≤ n + 1 → Dp K H v d → Dp K H' v d := fun d v hn h => by
        cases h with
        | non => exact .non
        | bl b => exact .bl b
        | int i => exact .int i
        | str x => exact .str x
        | lst h1 h2 => exact .lst (s.seq h1) (hl _ _ (by simp at hn; omega) h2)
        | tup h1 h2 => exact .tup (Same.seqT s h1) (hl _ _ (by simp at hn; omega) h2)
      refine ⟨h1, fun ds vs hn h => ?_⟩
      cases h with
      | nil => exact .nil
      | cons a b => exact .cons (h1 _ _ (by simp at hn; omega) a) (hl _ _ (by simp at hn; omega) b)
  exact ⟨fun d v => (key (sizeOf d)).1 d v (Nat.le_refl _), fun ds vs => (key (sizeOf ds)).2 ds vs (Nat.le_refl _)⟩
theorem dp_mono {K : PySem.W.Frag} {H H' : Hp} {d : PyData} {v : V} (s : Same H H') (h : Dp K H v d) : Dp K H' v d := (dpa_mono s).1 d v h
theorem dps_mono {K : PySem.W.Frag} {H H' : Hp} {d : List PyData} {v : List V} (s : Same H H') (h : DpAll K H v d) : DpAll K H' v d := (dpa_mono s).2 d v h
theorem dps_app {K : PySem.W.Frag} {H : Hp} : ∀ {vs ws : List V} {ds es : List PyData}, DpAll K H vs ds → DpAll K H ws es → DpAll K H (vs ++ ws) (ds ++ es)
  | _, _, _, _, .nil, h => h
  | _, _, _, _, .cons a b, h => .cons a (dps_app b h)
end GB
set_option Elab.async false
set_option linter.all false
set_option maxRecDepth 100000
set_option maxHeartbeats 4000000
/-! enumerate over a tuple, or over a list or a tuple. -/
namespace GB
open PySem PySem.Spec L2 PyProof.Rows
open Sem (wp)
theorem meets_enum1 {v : Value} {o : Obj} {H : Heap → Prop} (B : Begins v o H) :
    Meets (Builtin.«enumerate.__new__» ⟨[.type "enumerate", v], []⟩) (fun _ R s => H s.heap ∧
      R (.ok (.ret (.ref (s.heap.push o).objs.size))) { s with heap := (s.heap.push o).push { cls := .type "enumerate", data := .fields #[.none, .bool false, .ref s.heap.objs.size, rawInt 0, .none, .none] } }) :=
  .of_wp fun prog w A R s h => by
    obtain ⟨hp, g, d, tk, os⟩ := s; obtain ⟨h1, h⟩ := h
    have hsub := sub_enumerate
    have q1 : ∀ {A' : Around} {E : Value → Shared → Prop} {Q : Value → Shared → Prop}, Q (.ref hp.objs.size) ⟨hp.push o, g, d, tk, os⟩ → wpAny (model prog w) A' (pyIter v) Q E ⟨hp, g, d, tk, os⟩ :=
      fun q => B.iter prog w _ _ ⟨hp, g, d, tk, os⟩ _ h1 q
    wp_walk using q1
    refine wpAny_stack_any fun st => wpAny_pure ?_
    split
    · rename_i c _ _ _ _ _
      cases (c == Value.type "enumerate")
      · wp_walk using q1
        exact ⟨_, rfl, h⟩
      · wp_walk using q1
        exact ⟨_, rfl, h⟩
    · wp_walk using q1
      exact ⟨_, rfl, h⟩
theorem call_enum1 {prog : Program} {w : World} {A : Around} {E : Value → Shared → Prop} {s : Shared} {v : Value} {o : Obj} {H : Heap → Prop} {Q : Value → Shared → Prop} (B : Begins v o H) (h1 : H s.heap)
    (h : ∀ h', IsEnum h' (s.heap.objs.size + 1) s.heap.objs.size 0 .none → h'.get? s.heap.objs.size = some o → h'.objs.size = s.heap.objs.size + 2 →
      (∀ b o, s.heap.get? b = some o → h'.get? b = some o) → Q (.ref (s.heap.objs.size + 1)) { s with heap := h' }) :
    wpAny (model prog w) A (call (.type "enumerate") [v]) Q E s := by
  refine callType_new F.called_enumerate (by decide) (F.typeCall_enumerate_1 _) (F.newCall_enumerate_1 _) (fun obj => F.args_object_init_2 obj _) F.entry_enumerate_new
    (meets_enum1 B) ⟨h1, ?_⟩
  have hz : (s.heap.push o).objs.size = s.heap.objs.size + 1 := Heap.size_push ..
  show _ ∧ _
  rw [hz]
  have he : IsEnum ((s.heap.push o).push { cls := .type "enumerate", data := .fields #[.none, .bool false, .ref s.heap.objs.size, rawInt 0, .none, .none] }) (s.heap.objs.size + 1) s.heap.objs.size 0 .none := by
    have := Heap.get?_push_size (s.heap.push o) (o := { cls := .type "enumerate", data := .fields #[.none, .bool false, .ref s.heap.objs.size, rawInt 0, .none, .none] }) rfl
    rw [hz] at this; exact this
  refine ⟨⟨_, he, rfl⟩, h _ he (Heap.get?_push_of_some _ (Heap.get?_push_size _ B.free)) (by rw [Heap.size_push, hz]) fun b o x => Heap.get?_push_of_some _ (Heap.get?_push_of_some _ x)⟩
/-- the tuple at a as it stands at each turn, each item in a new pair -/
def Itet (K : PySem.W.Frag) (a : Addr) : It :=
  ⟨fun i H => ∃ (xs : List V) (x : V), SqT K H a xs ∧ xs[i]? = some x, fun i H v H' => ∃ T x, v = .ref T ∧ H T = none ∧ H' = upd H T (.tup [.int (i : Nat), x]) ∧ ∀ xs, SqT K H a xs → xs[i]? = some x, fun i H => ∃ xs : List V, SqT K H a xs ∧ xs.length ≤ i⟩
theorem turn_enumT {P : Program} {w : World} {K : PySem.W.Frag} {elts : List Expr} {kk : Nat} {tpos : Pos} (a e it : Addr) (hia : a ≠ it) (hea : e ≠ a) :
    Turn P w K (.Tuple elts kk tpos) (Itet K a) [e, it] e (fun i h => (∃ old, IsEnum h e it ((i : Nat) : Int) old) ∧ h.IsTupleIter it a i ∧ e ≠ it) where
  mem := by simp
  obj := fun i h st b hb => by
    obtain ⟨⟨old, he⟩, ⟨o, ho, hc, hd⟩, _⟩ := st
    have e' : b = e ∨ b = it := by simpa using hb
    rcases e' with z | z
    · rw [z]; exact ⟨_, he, fun v q => nomatch q⟩
    · rw [z]; exact ⟨o, ho, fun v q => by rw [hd] at q; cases q⟩
  keep := fun i h h' st k => let ⟨⟨old, he⟩, hi, hne⟩ := st; ⟨⟨old, k e (by simp) _ he⟩, hi.at fun o q => k it (by simp) o q, hne⟩
  item := by
    intro X hP hw hK hc i pins s σ H E I hf st hg
    subst hP hw hK
    obtain ⟨⟨old, he⟩, hit, hne⟩ := st
    obtain ⟨xs, x, hq, hx⟩ := hg
    obtain ⟨its, rv, p, hz⟩ := I.tuple hq
    obtain ⟨u, hu, ru⟩ := rv.get hx
    have hel : e < s.heap.objs.size := Heap.lt_size he
    have hil : it < s.heap.objs.size := by obtain ⟨_, q, _⟩ := hit; exact Heap.lt_size q
    have hlt : i < its.length := (List.getElem?_eq_some_iff.mp hu).1
    refine wpAny_pyNext_enum_itemD (Draws.tuple (A := X.A.in1) (I.ok.hd hc) it a hia its.toArray) he ⟨hit, (show s.heap.IsTuple a its.toArray from p)⟩ (by simpa using hlt) hne (by simp [hne, hea]) fun x' h' tk hP' ho hst' hT hsz hk => ?_
    obtain rfl : x' = u := by
      have hP2 : its[i]? = some x' := by simpa using hP'
      rw [hu] at hP2
      exact (Option.some.inj hP2).symm
    refine ⟨_, rfl, wpAny_letOwnedTupleGo_enum (s := { s with heap := h', toks := tk + 1 }) ho fun h'' he' sb => ?_⟩
    have hT2 : h''.get? s.heap.objs.size = some { cls := .type "tuple", data := .seq #[.int i tk, x'] } := (sb.2 _ (Nat.ne_of_gt hel)).trans hT
    have new : ObjOk X.prog X.w (upd H s.heap.objs.size (.tup [.int (i : Nat), x])) h'' s.heap.objs.size (.tup [.int (i : Nat), x]) :=
      ⟨by show 2 ≤ sizeLine; decide, [.int i tk, x'], .cons ⟨_, rfl⟩ (.cons ru .nil), ⟨_, hT2, rfl, _, rfl⟩⟩
    have I1 : Inv X pins σ (upd H s.heap.objs.size (.tup [.int (i : Nat), x])) { s with heap := h'', toks := tk + 1 } :=
      I.turnedNew (ch := [e, it]) (fun b ob hb q => (sb.2 b (fun z => hb (by simp [z]))).trans (hk b ob (fun z => hb (by simp [z])) (fun z => hb (by simp [z])) q)) hf (Nat.le_refl _) new
    refine ⟨.ref s.heap.objs.size, _, I1, rfl, ⟨_, x, rfl, I.hok.fresh (Nat.le_refl _), rfl, fun ys hy => by rw [I.tuple_inj hy hq]; exact hx⟩, ⟨⟨x', ?_⟩, hst'.1.at fun o q => (sb.2 it (Ne.symm hne)).trans q, hne⟩, fun b hb => ?_⟩
    · have e1 : ((i + 1 : Nat) : Int) = (i : Int) + 1 := by omega
      rw [e1]; exact he'
    · have hb' : b < s.heap.objs.size := by
        have e' : b = e ∨ b = it := by simpa using hb
        rcases e' with z | z
        · rw [z]; exact hel
        · rw [z]; exact hil
      rw [upd_ne (Nat.ne_of_lt hb')]
      exact (hf b hb).1
  done := by
    intro X hP hw hK hc i pins s σ H E I hf st hg
    subst hP hw hK
    obtain ⟨⟨old, he⟩, hit, hne⟩ := st
    obtain ⟨xs, hq, hx⟩ := hg
    obtain ⟨its, rv, p, hz⟩ := I.tuple hq
    obtain ⟨f0, f1, f2, f3, f4, f5⟩ := hf it (by simp)
    have hl := rv.length
    have D : Draws X.prog X.w X.A.in1 it [it, a] i (fun _ _ => True) (fun j h => j = i ∧ h.IsTupleIter it a j ∧ h.IsTuple a its.toArray) :=
      { live := fun _ _ st => let ⟨o, ho, _⟩ := st.2.1; ⟨o, ho⟩
        frame := fun _ _ _ st hk => ⟨st.1, st.2.1.at fun o e => hk it (by simp) o e, st.2.2.at fun o e => hk a (by simp) o e⟩
        item := fun j s' Q E' hj st hQ => absurd st.1 (Nat.ne_of_lt hj)
        done := fun s' Q E' st hE => wpAny_nextOf_tuple_end (I.ok.hd hc) st.2.1 st.2.2 (by simp; omega) hE }
    exact wpAny_pyNext_enum_endD D he ⟨rfl, hit, (show s.heap.IsTuple a its.toArray from p)⟩ fun h' eb => ⟨rfl, I.turned (t' := s.toks) (fun b o hb q => eb b o hb q) f0 f1 f3 f4 f5⟩
  self := fun A i s Q E st h => let ⟨⟨_, he⟩, _⟩ := st; wpAny_pyIter_enum he h
section
variable {K : PySem.W.Frag} {a : Addr} {xs : List V}
theorem walk_enumT : Walk (Itet K a) xs.length (fun H => SqT K H a xs) (YPair (fun i => some (.int (i : Nat))) (fun i => xs[i]?)) where
  goes := fun i H hi h => ⟨xs, xs[i], h, List.getElem?_eq_getElem hi⟩
  stops := fun H h => ⟨xs, h, Nat.le_refl _⟩
  yields := fun i H x H' _ h ⟨T, y, e1, e2, e3, e4⟩ => ⟨T, _, y, e1, e2, e3, rfl, e4 xs h⟩
end
theorem rd_at {H H' : Hp} {a : Addr} {u : HO} (h : ∀ o, H a = some o → H' a = some o) (r : Rd H a u) : Rd H' a u := r.imp (fun e => h _ e) fun ⟨ob, e⟩ => ⟨ob, h _ e⟩
/-- a list (true) or a tuple -/
def SqV (K : PySem.W.Frag) (H : Hp) (a : Addr) (xs : List V) : Bool → Prop
  | true => SqL K H a xs
  | false => SqT K H a xs
theorem SqV.mono {K : PySem.W.Frag} {H H' : Hp} {a : Addr} {xs : List V} {b : Bool} (s : Same H H') (h : SqV K H a xs b) : SqV K H' a xs b := by
  cases b with
  | true => exact s.seq h
  | false => exact Same.seqT s h
/-- enumerate of a list or of a tuple, one way on -/
def iEnumW (K : PySem.W.Frag) (ta : TA) : TI := fun σ H R => ta σ H fun vs H1 => ∃ (a : Addr) (xs : List V) (b : Bool) (ps : List Addr), vs = [.ref a] ∧ SqV K (hid ps H1) a xs b ∧ ∀ (J : It), Walk J xs.length (fun H => SqV K (hid ps H) a xs b) (YPair (fun i => some (.int (i : Nat))) (fun i => xs[i]?)) → R J H1
theorem pi_enumW {X : Cx} {e : Expr} {ta : TA} {p pos tpos : Pos} {elts : List Expr} {kk : Nat} (hg : Gl X "enumerate") (hm : X.mg "enumerate" = none) (ha : PA X [e] ta) (hs : starEach [e] X.env = [(false, eval e X.env)] := by rfl) :
    PI X (.Tuple elts kk tpos) (.Call (.Name "enumerate" p) [e] [] pos) (iEnumW X.K ta) := by
  refine ⟨fun pins s σ H R I h => ?_⟩
  refine Call_ (ld_blt I hg hm boot_enumerate (PyProof.Rows.callWith_type1 (thn (ha.run pos pins s σ H _ I h) fun us s1 ⟨vs, H1, I1, r1, q1⟩ => ?_) hs rfl))
  obtain ⟨a, xs, kb, ps, ex, hh, q⟩ := q1
  subst ex
  cases r1 with
  | cons r rr =>
    cases rr
    cases r
    have cells : ∀ b ∈ [s1.heap.objs.size + 1, s1.heap.objs.size], s1.heap.objs.size ≤ b := fun b hb => by
      have e' : b = s1.heap.objs.size + 1 ∨ b = s1.heap.objs.size := by simpa using hb
      rcases e' with z | z
      · rw [z]; exact Nat.le_add_right _ _
      · rw [z]; exact Nat.le_refl _
    cases kb with
    | true =>
      have hq := (hid_low ps H1).seq (show SqL X.K (hid ps H1) a xs from hh)
      obtain ⟨its, rv, p', hz⟩ := I1.list hq
      refine call_enumerate_list p'.isList fun h' he hit hsz hk => wpAny_pyIter_enum he ?_
      have I2 : Inv X pins σ H1 { s1 with heap := h' } := I1.kept (t' := s1.toks) hk
      exact ⟨s1.heap.objs.size + 1, [s1.heap.objs.size + 1, s1.heap.objs.size], _, _, H1, rfl, I2, turn_enum a (s1.heap.objs.size + 1) s1.heap.objs.size, ⟨⟨.none, he⟩, hit, Nat.succ_ne_self _⟩, fun b hb => I1.fpOk (cells b hb) (I1.hok.fresh (cells b hb)), q _ (walk_enum.mono (fun H' h => (hid_low ps H').seq h) fun _ _ _ _ _ _ y => y)⟩
    | false =>
      have hq := Same.seqT (hid_low ps H1) (show SqT X.K (hid ps H1) a xs from hh)
      obtain ⟨its, rv, p', hz⟩ := I1.tuple hq
      have hT : s1.heap.IsTuple a its.toArray := p'
      have hal : a < s1.heap.objs.size := by obtain ⟨o, ho, _⟩ := hT; exact Heap.lt_size ho
      refine call_enum1 (begins_tuple a its.toArray) hT fun h' he hit hsz hk => wpAny_pyIter_enum he ?_
      have I2 : Inv X pins σ H1 { s1 with heap := h' } := I1.kept (t' := s1.toks) hk
      exact ⟨s1.heap.objs.size + 1, [s1.heap.objs.size + 1, s1.heap.objs.size], _, _, H1, rfl, I2, turn_enumT a (s1.heap.objs.size + 1) s1.heap.objs.size (Nat.ne_of_lt hal) (Nat.ne_of_gt (Nat.lt_succ_of_lt hal)), ⟨⟨.none, he⟩, ⟨_, hit, rfl, rfl⟩, Nat.succ_ne_self _⟩, fun b hb => I1.fpOk (cells b hb) (I1.hok.fresh (cells b hb)), q _ (walk_enumT.mono (fun H' h => Same.seqT (hid_low ps H') h) fun _ _ _ _ _ _ y => y)⟩
end GB
set_option Elab.async false
set_option linter.all false
set_option maxRecDepth 100000
set_option maxHeartbeats 4000000
/-! Terms: a head word, a name, the terms within; their data, and what of them a ground asks. -/
namespace GB
open PySem PySem.Spec L2
inductive Tm where
  | mk (w n : Str) (ks : List Tm)
/-- the names that binds of drawn terms bind -/
def bnd : List Str := ["v", "w", "x", "if"]
def opsW : List (Str × Nat) := [("if", 3), ("and", 2), ("or", 2), ("not", 1), ("then", 2), ("try", 2), ("last", 2)]
/-- a text of one to eight letters a to z, by the package's own look -/
def signB (c : Nat) : Bool := !decide ([c] < [97]) && !decide ([122] < [c])
def nameB (s : Str) : Bool := decide (1 ≤ s.length ∧ s.length ≤ 8) && s.cps.toList.all signB
inductive HeadOk (L : List (Str × Nat)) (ns : List Str) : Str → Str → Nat → Prop
  | val {n} : nameB n = true → HeadOk L ns "value" n 0
  | fail {n} : nameB n = true → HeadOk L ns "fail" n 0
  | name {n} : nameB n = true → n ∈ ns → HeadOk L ns "name" n 0
  | use {n m} : (n, m) ∈ L → HeadOk L ns "use" n m
  | bind {n} : nameB n = true → True → HeadOk L ns "bind" n 2
  | op {w m} : (w, m) ∈ opsW → HeadOk L ns w "" m
/-- the names that are bound at a place within -/
def nsAt (w n : Str) (i : Nat) (ns : List Str) : List Str := if w = "bind" ∧ i = 1 then ns ++ [n] else ns
inductive TmOk (L : List (Str × Nat)) : List Str → Tm → Prop
  | mk {ns : List Str} {w n : Str} {ks : List Tm} : HeadOk L ns w n ks.length → (∀ (i : Nat) (k : Tm), ks[i]? = some k → TmOk L (nsAt w n i ns) k) → TmOk L ns (.mk w n ks)
def Seq (d : PyData) (ds : List PyData) : Prop := d = .list ds ∨ d = .tuple ds
/-- the data of a node of this head, over the data of the terms within -/
inductive NodeD : PyData → Str → Str → List PyData → Prop
  | val {d n} : Seq d [.str "value", .str n] → NodeD d "value" n []
  | fail {d n} : Seq d [.str "fail", .str n] → NodeD d "fail" n []
  | name {d n} : Seq d [.str "name", .str n] → NodeD d "name" n []
  | use {d e n ds} : Seq d [.str "use", .str n, e] → Seq e ds → NodeD d "use" n ds
  | bind {d n ds} : Seq d (.str "bind" :: .str n :: ds) → NodeD d "bind" n ds
  | op {d w m ds} : (w, m) ∈ opsW → Seq d (.str w :: ds) → NodeD d w "" ds
/-- data that are the term, of lists and tuples -/
inductive IsTm : PyData → Tm → Prop
  | mk {d : PyData} {w n : Str} {ds : List PyData} {ks : List Tm} : NodeD d w n ds → ds.length = ks.length → (∀ (i : Nat) (e : PyData) (k : Tm), ds[i]? = some e → ks[i]? = some k → IsTm e k) → IsTm d (.mk w n ks)
mutual
/-- the term's data, of tuples throughout -/
def Tm.d : Tm → PyData
  | .mk w n ks => if w = "use" then .tuple [.str w, .str n, .tuple (Tm.ds ks)] else if w = "bind" then .tuple (.str w :: .str n :: Tm.ds ks) else if w ∈ opsW.map (·.1) then .tuple (.str w :: Tm.ds ks) else .tuple [.str w, .str n]
def Tm.ds : List Tm → List PyData
  | [] => []
  | k :: ks => k.d :: Tm.ds ks
end
theorem ds_map : ∀ ks : List Tm, Tm.ds ks = ks.map Tm.d
  | [] => rfl
  | k :: r => by rw [Tm.ds, List.map_cons, ds_map r]
mutual
def Tm.size : Tm → Nat
  | .mk _ _ ks => Tm.sizes ks + 1
def Tm.sizes : List Tm → Nat
  | [] => 0
  | k :: r => k.size + Tm.sizes r
end
theorem sizes_mem : ∀ {ks : List Tm} {k : Tm}, k ∈ ks → k.size ≤ Tm.sizes ks
  | a :: r, k, h => by
    rw [Tm.sizes]
    rcases List.mem_cons.mp h with rfl | h
    · omega
    · have := sizes_mem h; omega
theorem size_pos (t : Tm) : 0 < t.size := by
  cases t; rw [Tm.size]; omega
theorem size_at {w n : Str} {ks : List Tm} {i : Nat} {k : Tm} (h : ks[i]? = some k) : k.size < (Tm.mk w n ks).size := by
  have := sizes_mem (List.mem_of_getElem? h)
  rw [Tm.size]; omega
/-- a node's own data are of the node -/
theorem nodeD_own {L : List (Str × Nat)} {ns : List Str} {w n : Str} {ks : List Tm} (h : HeadOk L ns w n ks.length) : NodeD (Tm.mk w n ks).d w n (ks.map Tm.d) := by
  rw [Tm.d, ds_map]
  have nil : ks.length = 0 → ks.map Tm.d = [] := fun e => by rw [List.eq_nil_of_length_eq_zero e]; rfl
  revert h nil
  generalize hm : ks.length = m
  intro h nil
  cases h with
  | val hn => rw [nil rfl]; exact .val (.inr (by simp +decide))
  | fail hn => rw [nil rfl]; exact .fail (.inr (by simp +decide))
  | name hn _ => rw [nil rfl]; exact .name (.inr (by simp +decide))
  | use hx => exact .use (.inr (by rw [if_pos rfl])) (.inr rfl)
  | bind hn _ => exact .bind (.inr (by simp +decide))
  | op ho =>
    refine .op ho (.inr ?_)
    have h1 : w ≠ "use" := fun e => by subst e; revert ho; simp +decide [opsW]
    have h2 : w ≠ "bind" := fun e => by subst e; revert ho; simp +decide [opsW]
    rw [if_neg h1, if_neg h2, if_pos (List.mem_map.mpr ⟨_, ho, rfl⟩)]
theorem isTm_own {L : List (Str × Nat)} {t : Tm} {ns : List Str} (h : TmOk L ns t) : IsTm t.d t := by
  induction h with
  | mk ho hk ih =>
    refine .mk (nodeD_own ho) (List.length_map _) fun i e k he hk' => ?_
    rw [List.getElem?_map, hk'] at he
    obtain rfl := Option.some.inj he
    exact ih i k hk'
/-! what stands in the heap -/
section
variable {K : PySem.W.Frag} {H : Hp}
def SqA (K : PySem.W.Frag) (H : Hp) (a : Addr) (xs : List V) : Prop := SqL K H a xs ∨ SqT K H a xs
theorem SqA.mono {H H' : Hp} (s : Same H H') {a : Addr} {xs : List V} (h : SqA K H a xs) : SqA K H' a xs := h.imp (fun h => s.seq h) (fun h => Same.seqT s h)
theorem dp_seq {v : V} {d : PyData} {ds : List PyData} (h : Dp K H v d) (e : Seq d ds) : ∃ p xs, v = .ref p ∧ SqA K H p xs ∧ DpAll K H xs ds := by
  rcases e with rfl | rfl
  · cases h with | lst h1 h2 => exact ⟨_, _, rfl, .inl h1, h2⟩
  · cases h with | tup h1 h2 => exact ⟨_, _, rfl, .inr h1, h2⟩
theorem dps_len : ∀ {xs : List V} {ds : List PyData}, DpAll K H xs ds → xs.length = ds.length
  | _, _, .nil => rfl
  | _, _, .cons _ h => by rw [List.length_cons, List.length_cons, dps_len h]
theorem dps_at : ∀ {xs : List V} {ds : List PyData} {i : Nat} {x : V}, DpAll K H xs ds → xs[i]? = some x → ∃ d, ds[i]? = some d ∧ Dp K H x d
  | _, _, 0, _, .cons h _, e => ⟨_, rfl, Option.some.inj e ▸ h⟩
  | _, _, i + 1, _, .cons _ h, e => dps_at (i := i) h e
theorem dps_str {xs : List V} {s : Str} {ds : List PyData} (h : DpAll K H xs (.str s :: ds)) : ∃ ys, xs = .str s :: ys ∧ DpAll K H ys ds := by
  cases h with
  | cons h1 h2 => cases h1; exact ⟨_, rfl, h2⟩
/-- what a node's value holds -/
inductive NodeV (K : PySem.W.Frag) (H : Hp) : Addr → Str → Str → List V → Prop
  | val {p n} : SqA K H p [.str "value", .str n] → NodeV K H p "value" n []
  | fail {p n} : SqA K H p [.str "fail", .str n] → NodeV K H p "fail" n []
  | name {p n} : SqA K H p [.str "name", .str n] → NodeV K H p "name" n []
  | use {p q n vs} : SqA K H p [.str "use", .str n, .ref q] → SqA K H q vs → NodeV K H p "use" n vs
  | bind {p n vs} : SqA K H p (.str "bind" :: .str n :: vs) → NodeV K H p "bind" n vs
  | op {p w m vs} : (w, m) ∈ opsW → SqA K H p (.str w :: vs) → NodeV K H p w "" vs
theorem nodeV {v : V} {d : PyData} {w n : Str} {ds : List PyData} (h : Dp K H v d) (e : NodeD d w n ds) : ∃ p vs, v = .ref p ∧ NodeV K H p w n vs ∧ DpAll K H vs ds := by
  cases e with
  | val e => obtain ⟨p, xs, rfl, hs, hd⟩ := dp_seq h e; obtain ⟨_, e1, hd1⟩ := dps_str hd; obtain ⟨_, e2, hd2⟩ := dps_str hd1; cases hd2; subst e2 e1; exact ⟨p, _, rfl, .val hs, .nil⟩
  | fail e => obtain ⟨p, xs, rfl, hs, hd⟩ := dp_seq h e; obtain ⟨_, e1, hd1⟩ := dps_str hd; obtain ⟨_, e2, hd2⟩ := dps_str hd1; cases hd2; subst e2 e1; exact ⟨p, _, rfl, .fail hs, .nil⟩
  | name e => obtain ⟨p, xs, rfl, hs, hd⟩ := dp_seq h e; obtain ⟨_, e1, hd1⟩ := dps_str hd; obtain ⟨_, e2, hd2⟩ := dps_str hd1; cases hd2; subst e2 e1; exact ⟨p, _, rfl, .name hs, .nil⟩
  | use e e2 =>
    obtain ⟨p, xs, rfl, hs, hd⟩ := dp_seq h e; obtain ⟨_, e1, hd1⟩ := dps_str hd; obtain ⟨_, e3, hd2⟩ := dps_str hd1
    subst e3 e1
    cases hd2 with
    | cons h1 h2 =>
      cases h2
      obtain ⟨q, vs, rfl, hq, hd⟩ := dp_seq h1 e2
      exact ⟨p, vs, rfl, .use hs hq, hd⟩
  | bind e => obtain ⟨p, xs, rfl, hs, hd⟩ := dp_seq h e; obtain ⟨_, e1, hd1⟩ := dps_str hd; obtain ⟨_, e2, hd2⟩ := dps_str hd1; subst e2 e1; exact ⟨p, _, rfl, .bind hs, hd2⟩
  | op ho e => obtain ⟨p, xs, rfl, hs, hd⟩ := dp_seq h e; obtain ⟨_, e1, hd1⟩ := dps_str hd; subst e1; exact ⟨p, _, rfl, .op ho hs, hd1⟩
theorem NodeV.mono {H H' : Hp} (s : Same H H') {p : Addr} {w n : Str} {vs : List V} (h : NodeV K H p w n vs) : NodeV K H' p w n vs := by
  cases h with
  | val h => exact .val (h.mono s)
  | fail h => exact .fail (h.mono s)
  | name h => exact .name (h.mono s)
  | use h h2 => exact .use (h.mono s) (h2.mono s)
  | bind h => exact .bind (h.mono s)
  | op ho h => exact .op ho (h.mono s)
end
end GB
set_option Elab.async false
set_option linter.all false
set_option autoImplicit false
set_option maxRecDepth 100000
set_option maxHeartbeats 4000000
/-! Texts of terms as lists of signs, and that unlike terms have unlike texts. -/
namespace GB
open PySem PySem.Spec L2
def cl (s : Str) : List Nat := s.cps.toList
def wdsW : List Str := ["if", "and", "or", "not", "then", "bind", "try", "last", "fail"]
mutual
def txL : Tm → List Nat
  | .mk w n ks =>
    if w = "value" then 39 :: cl n
    else if w = "name" then cl n
    else if w = "fail" then cl "fail" ++ 40 :: (cl n ++ [41])
    else if w = "use" then (if n ∈ wdsW then [46] else []) ++ (cl n ++ 40 :: (txA ks ++ [41]))
    else if w = "bind" then cl "bind" ++ 40 :: (cl n ++ (txR ks ++ [41]))
    else cl w ++ 40 :: (txA ks ++ [41])
def txA : List Tm → List Nat
  | [] => []
  | k :: r => txL k ++ txR r
def txR : List Tm → List Nat
  | [] => []
  | k :: r => 44 :: 32 :: (txL k ++ txR r)
end
theorem cl_inj {a b : Str} (h : cl a = cl b) : a = b := by
  cases a with
  | mk a => cases b with
    | mk b => exact congrArg Str.mk (Array.toList_inj.mp h)
def ltr (c : Nat) : Prop := 97 ≤ c ∧ c ≤ 122
theorem signB_iff {c : Nat} : signB c = true ↔ ltr c := by
  unfold signB ltr
  have h1 : ([c] < [97]) ↔ c < 97 := by simp [List.cons_lt_cons_iff]
  have h2 : ([122] < [c]) ↔ 122 < c := by simp [List.cons_lt_cons_iff]
  simp only [h1, h2, Bool.and_eq_true, Bool.not_eq_true', decide_eq_false_iff_not]
  omega
theorem nameB_ltr {n : Str} (h : nameB n = true) : (∀ c ∈ cl n, ltr c) ∧ 1 ≤ (cl n).length ∧ (cl n).length ≤ 8 := by
  unfold nameB at h
  obtain ⟨h1, h2⟩ := Bool.and_eq_true_iff.mp h
  have h1 := of_decide_eq_true h1
  refine ⟨fun c hc => signB_iff.mp (List.all_eq_true.mp h2 c hc), ?_⟩
  have e : (cl n).length = n.length := by unfold cl; rw [Array.length_toList]; rfl
  omega
def NoL (q : List Nat) : Prop := ∀ c r, q = c :: r → ¬ ltr c
def Stop (q : List Nat) : Prop := ∀ c r, q = c :: r → c = 41 ∨ c = 44
theorem Stop.nol {q : List Nat} (h : Stop q) : NoL q := fun c r e l => by
  unfold ltr at l
  rcases h c r e with z | z <;> omega
theorem stop41 (q : List Nat) : Stop (41 :: q) := fun c r e => by cases e; exact .inl rfl
theorem nol40 (q : List Nat) : NoL (40 :: q) := fun c r e l => by cases e; unfold ltr at l; omega
theorem name_split : ∀ {a b q q' : List Nat}, (∀ c ∈ a, ltr c) → (∀ c ∈ b, ltr c) → NoL q → NoL q' → a ++ q = b ++ q' → a = b ∧ q = q'
  | [], [], _, _, _, _, _, _, e => ⟨rfl, e⟩
  | [], y :: b, q, q', _, hb, hq, _, e => absurd (hb y List.mem_cons_self) (hq y _ e)
  | x :: a, [], q, q', ha, _, _, hq', e => absurd (ha x List.mem_cons_self) (hq' x _ e.symm)
  | x :: a, y :: b, q, q', ha, hb, hq, hq', e => by
    have e1 : x = y := (List.cons.inj e).1
    obtain ⟨i, j⟩ := name_split (fun c hc => ha c (List.mem_cons_of_mem _ hc)) (fun c hc => hb c (List.mem_cons_of_mem _ hc)) hq hq' (List.cons.inj e).2
    exact ⟨by rw [e1, i], j⟩
/-- what stands ahead of a bracket, and what behind it -/
structure Call (t : Tm) (a : Str) (rest : List Nat) : Prop where
  tx : txL t = cl a ++ 40 :: rest
  lt : ∀ c ∈ cl a, ltr c
  ne : cl a ≠ []
inductive Shp (L : List (Str × Nat)) (t : Tm) : Prop
  | val {n} : t = .mk "value" n [] → nameB n = true → txL t = 39 :: cl n → Shp L t
  | name {n} : t = .mk "name" n [] → nameB n = true → txL t = cl n → Shp L t
  | fail {n} : t = .mk "fail" n [] → nameB n = true → Call t "fail" (cl n ++ [41]) → Shp L t
  | dot {n ks} : t = .mk "use" n ks → nameB n = true → n ∈ wdsW → txL t = 46 :: (cl n ++ 40 :: (txA ks ++ [41])) → Shp L t
  | use {n ks} : t = .mk "use" n ks → nameB n = true → n ∉ wdsW → Call t n (txA ks ++ [41]) → Shp L t
  | bind {n ks} : t = .mk "bind" n ks → nameB n = true → Call t "bind" (cl n ++ (txR ks ++ [41])) → Shp L t
  | op {w m ks} : t = .mk w "" ks → (w, m) ∈ opsW → Call t w (txA ks ++ [41]) → Shp L t
theorem shp {L : List (Str × Nat)} (hL : ∀ q ∈ L, nameB q.1 = true) {ns : List Str} {t : Tm} (h : TmOk L ns t) : Shp L t := by
  cases h with
  | @mk _ w n ks hH hK =>
  have nil : ks.length = 0 → ks = [] := List.eq_nil_of_length_eq_zero
  have op' : ∀ {m : Nat}, (w, m) ∈ opsW → w ≠ "value" ∧ w ≠ "name" ∧ w ≠ "fail" ∧ w ≠ "use" ∧ w ≠ "bind" ∧ nameB w = true := fun hm => (show ∀ q ∈ opsW, q.1 ≠ "value" ∧ q.1 ≠ "name" ∧ q.1 ≠ "fail" ∧ q.1 ≠ "use" ∧ q.1 ≠ "bind" ∧ nameB q.1 = true by decide +kernel) _ hm
  generalize hm : ks.length = m at hH
  have ne : ∀ {x : Str}, nameB x = true → cl x ≠ [] := fun h e => by
    have := (nameB_ltr h).2.1
    rw [e] at this
    simp at this
  cases hH with
  | val h => obtain rfl := nil hm; exact .val rfl h (by rw [txL, if_pos rfl])
  | name h _ => obtain rfl := nil hm; exact .name rfl h (by rw [txL, if_neg (by decide), if_pos rfl])
  | fail h => obtain rfl := nil hm; exact .fail rfl h ⟨by rw [txL, if_neg (by decide), if_neg (by decide), if_pos rfl], (nameB_ltr (by decide +kernel)).1, ne (by decide +kernel)⟩
  | use h =>
    have nb := hL _ h
    by_cases hw : n ∈ wdsW
    · exact .dot rfl nb hw (by rw [txL, if_neg (by decide), if_neg (by decide), if_neg (by decide), if_pos rfl, if_pos hw]; rfl)
    · exact .use rfl nb hw ⟨by rw [txL, if_neg (by decide), if_neg (by decide), if_neg (by decide), if_pos rfl, if_neg hw]; rfl, (nameB_ltr nb).1, ne nb⟩
  | bind h _ => exact .bind rfl h ⟨by rw [txL, if_neg (by decide), if_neg (by decide), if_neg (by decide), if_neg (by decide), if_pos rfl], (nameB_ltr (by decide +kernel)).1, ne (by decide +kernel)⟩
  | op h =>
    obtain ⟨h1, h2, h3, h4, h5, h6⟩ := op' h
    exact .op rfl h ⟨by rw [txL, if_neg h1, if_neg h2, if_neg h3, if_neg h4, if_neg h5], (nameB_ltr h6).1, ne h6⟩
/-- the first sign -/
theorem Shp.first {L : List (Str × Nat)} {t : Tm} (h : Shp L t) : ∃ c r, txL t = c :: r ∧ c ≠ 41 ∧ c ≠ 44 := by
  have lt : ∀ {l : List Nat} {q : List Nat}, (∀ c ∈ l, ltr c) → l ≠ [] → ∃ c r, l ++ q = c :: r ∧ c ≠ 41 ∧ c ≠ 44 := fun {l q} h n => by
    cases l with
    | nil => exact absurd rfl n
    | cons c r =>
      have := h c List.mem_cons_self
      unfold ltr at this
      exact ⟨c, r ++ q, rfl, by omega, by omega⟩
  have ne : ∀ {x : Str}, nameB x = true → cl x ≠ [] := fun h e => by
    have := (nameB_ltr h).2.1
    rw [e] at this
    simp at this
  cases h with
  | val e hn tx => exact ⟨39, _, tx, by decide, by decide⟩
  | name e hn tx =>
    rw [tx]
    have := lt (q := []) (nameB_ltr hn).1 (ne hn)
    rwa [List.append_nil] at this
  | fail e hn c => rw [c.tx]; exact lt c.lt c.ne
  | dot e hn hw tx => exact ⟨46, _, tx, by decide, by decide⟩
  | use e hn hw c => rw [c.tx]; exact lt c.lt c.ne
  | bind e hn c => rw [c.tx]; exact lt c.lt c.ne
  | op e hm c => rw [c.tx]; exact lt c.lt c.ne
end GB
namespace GB
open PySem PySem.Spec L2
theorem call_eq {L : List (Str × Nat)} {t t' : Tm} {a a' : Str} {r r' p p' : List Nat} (c : Call t a r) (c' : Call t' a' r') (e : txL t ++ p = txL t' ++ p') : a = a' ∧ r ++ p = r' ++ p' := by
  rw [c.tx, c'.tx, List.append_assoc, List.append_assoc] at e
  obtain ⟨h1, h2⟩ := name_split c.lt c'.lt (nol40 _) (nol40 _) e
  exact ⟨cl_inj h1, (List.cons.inj h2).2⟩
theorem args_inj {L : List (Str × Nat)} (hL : ∀ q ∈ L, nameB q.1 = true) {z : Nat} (ih : ∀ {t t' : Tm} {ns ns' : List Str} {p p' : List Nat}, t.size ≤ z → TmOk L ns t → TmOk L ns' t' → Stop p → Stop p' → txL t ++ p = txL t' ++ p' → t = t' ∧ p = p') :
    ∀ (ks ks' : List Tm) {p p' : List Nat}, Tm.sizes ks ≤ z → (∀ k ∈ ks, ∃ ns, TmOk L ns k) → (∀ k ∈ ks', ∃ ns, TmOk L ns k) → txR ks ++ 41 :: p = txR ks' ++ 41 :: p' → ks = ks' ∧ p = p'
  | [], [], p, p', _, _, _, e => ⟨rfl, (List.cons.inj e).2⟩
  | [], k' :: r', p, p', _, _, _, e => by
    rw [txR, txR] at e
    exact absurd (List.cons.inj e).1 (by decide)
  | k :: r, [], p, p', _, _, _, e => by
    rw [txR, txR] at e
    exact absurd (List.cons.inj e).1 (by decide)
  | k :: r, k' :: r', p, p', hz, hk, hk', e => by
    rw [txR, txR] at e
    have e1 : (txL k ++ txR r) ++ 41 :: p = (txL k' ++ txR r') ++ 41 :: p' := (List.cons.inj (List.cons.inj e).2).2
    rw [List.append_assoc, List.append_assoc] at e1
    obtain ⟨ns, o⟩ := hk k List.mem_cons_self
    obtain ⟨ns', o'⟩ := hk' k' List.mem_cons_self
    rw [Tm.sizes] at hz
    have st : ∀ (l : List Tm) (q : List Nat), Stop (txR l ++ 41 :: q) := fun l q => by
      cases l with
      | nil => rw [txR]; exact stop41 q
      | cons x y => rw [txR]; exact fun c r e => by cases e; exact .inr rfl
    obtain ⟨h1, h2⟩ := ih (by omega) o o' (st r p) (st r' p') e1
    obtain ⟨h3, h4⟩ := args_inj hL ih r r' (by omega) (fun x hx => hk x (List.mem_cons_of_mem _ hx)) (fun x hx => hk' x (List.mem_cons_of_mem _ hx)) h2
    exact ⟨by rw [h1, h3], h4⟩
theorem argsA_inj {L : List (Str × Nat)} (hL : ∀ q ∈ L, nameB q.1 = true) {z : Nat} (ih : ∀ {t t' : Tm} {ns ns' : List Str} {p p' : List Nat}, t.size ≤ z → TmOk L ns t → TmOk L ns' t' → Stop p → Stop p' → txL t ++ p = txL t' ++ p' → t = t' ∧ p = p') :
    ∀ (ks ks' : List Tm) {p p' : List Nat}, Tm.sizes ks ≤ z → (∀ k ∈ ks, ∃ ns, TmOk L ns k) → (∀ k ∈ ks', ∃ ns, TmOk L ns k) → txA ks ++ 41 :: p = txA ks' ++ 41 :: p' → ks = ks' ∧ p = p'
  | [], [], p, p', _, _, _, e => ⟨rfl, (List.cons.inj e).2⟩
  | [], k' :: r', p, p', _, _, hk', e => by
    obtain ⟨ns', o'⟩ := hk' k' List.mem_cons_self
    obtain ⟨c, r, e1, n1, n2⟩ := (shp hL o').first
    rw [txA, txA, e1] at e
    exact absurd (List.cons.inj e).1.symm n1
  | k :: r, [], p, p', _, hk, _, e => by
    obtain ⟨ns, o⟩ := hk k List.mem_cons_self
    obtain ⟨c, r, e1, n1, n2⟩ := (shp hL o).first
    rw [txA, txA, e1] at e
    exact absurd (List.cons.inj e).1 n1
  | k :: r, k' :: r', p, p', hz, hk, hk', e => by
    rw [txA, txA, List.append_assoc, List.append_assoc] at e
    have h : txR (k :: r) ++ 41 :: p = txR (k' :: r') ++ 41 :: p' := by
      rw [txR, txR, List.cons_append, List.cons_append, List.cons_append, List.cons_append, List.append_assoc, List.append_assoc, e]
    exact args_inj hL ih _ _ hz hk hk' h
theorem txL_inj {L : List (Str × Nat)} (hL : ∀ q ∈ L, nameB q.1 = true) : ∀ (z : Nat) {t t' : Tm} {ns ns' : List Str} {p p' : List Nat}, t.size ≤ z → TmOk L ns t → TmOk L ns' t' → Stop p → Stop p' → txL t ++ p = txL t' ++ p' → t = t' ∧ p = p' := by
  intro z
  induction z with
  | zero =>
    intro t t' ns ns' p p' hz
    exact absurd hz (by have := size_pos t; omega)
  | succ z ih =>
    intro t t' ns ns' p p' hz h h' hp hp' e
    have kids : ∀ {t : Tm} {ns : List Str} {w n : Str} {ks : List Tm}, TmOk L ns t → t = .mk w n ks → ∀ k ∈ ks, ∃ ns, TmOk L ns k := fun h e k hk => by
      subst e
      cases h with
      | mk _ hK =>
        obtain ⟨i, hi⟩ := List.mem_iff_getElem?.mp hk
        exact ⟨_, hK i k hi⟩
    have sz : ∀ {w n : Str} {ks : List Tm}, t = .mk w n ks → Tm.sizes ks ≤ z := fun e => by
      rw [e, Tm.size] at hz
      omega
    have lt : ∀ {l l' : List Nat} {q q' : List Nat} {c : Nat}, (∀ c ∈ l, ltr c) → l ≠ [] → ¬ ltr c → l ++ q = c :: q' → False := fun {l l' q q' c} h n nc e => by
      cases l with
      | nil => exact n rfl
      | cons x r => exact nc ((List.cons.inj e).1 ▸ h x List.mem_cons_self)
    have ne : ∀ {x : Str}, nameB x = true → cl x ≠ [] := fun h e => by
      have := (nameB_ltr h).2.1
      rw [e] at this
      simp at this
    have n39 : ¬ ltr 39 := by unfold ltr; omega
    have n46 : ¬ ltr 46 := by unfold ltr; omega
    -- a name and a call
    have nc : ∀ {n a : Str} {t : Tm} {r q q' : List Nat}, nameB n = true → Call t a r → Stop q → cl n ++ q = txL t ++ q' → False := fun {n a t r q q'} hn c hq e => by
      rw [c.tx, List.append_assoc] at e
      have := (name_split (nameB_ltr hn).1 c.lt hq.nol (nol40 _) e).2
      rcases hq _ _ this with z | z <;> omega
    -- a call and a quote or a dot
    have cq : ∀ {a : Str} {t : Tm} {r q q' : List Nat} {c : Nat}, Call t a r → ¬ ltr c → txL t ++ q = c :: q' → False := fun {a t r q q' c} h hc e => by
      rw [h.tx, List.append_assoc] at e
      exact lt (l' := []) h.lt h.ne hc e
    -- two calls
    have cc : ∀ {a a' : Str} {r r' : List Nat}, Call t a r → Call t' a' r' → a = a' ∧ r ++ p = r' ++ p' := fun c c' => call_eq (L := L) c c' e
    have wd : ∀ {w : Str} {m : Nat}, (w, m) ∈ opsW → w ∈ wdsW ∧ w ≠ "fail" ∧ w ≠ "bind" := fun hm => (show ∀ q ∈ opsW, q.1 ∈ wdsW ∧ q.1 ≠ "fail" ∧ q.1 ≠ "bind" by decide +kernel) _ hm
    have fw : ("fail" : Str) ∈ wdsW := by decide +kernel
    have bw : ("bind" : Str) ∈ wdsW := by decide +kernel
    have aA : ∀ {ks ks' : List Tm}, Tm.sizes ks ≤ z → (∀ k ∈ ks, ∃ ns, TmOk L ns k) → (∀ k ∈ ks', ∃ ns, TmOk L ns k) → (txA ks ++ [41]) ++ p = (txA ks' ++ [41]) ++ p' → ks = ks' ∧ p = p' := fun hz k1 k2 e => by
      rw [List.append_assoc, List.append_assoc] at e
      exact argsA_inj hL ih _ _ hz k1 k2 e
    have s1 := shp hL h
    have s2 := shp hL h'
    cases s1 with
    | val e1 n1 x1 =>
      rw [x1] at e
      cases s2 with
      | val e2 n2 x2 =>
        rw [x2] at e
        obtain ⟨i, j⟩ := name_split (nameB_ltr n1).1 (nameB_ltr n2).1 hp.nol hp'.nol (List.cons.inj e).2
        exact ⟨by rw [e1, e2, cl_inj i], j⟩
      | name e2 n2 x2 => rw [x2] at e; exact (lt (l' := []) (nameB_ltr n2).1 (ne n2) n39 e.symm).elim
      | fail e2 n2 c2 => exact (cq c2 n39 e.symm).elim
      | dot e2 n2 w2 x2 => rw [x2] at e; exact absurd (List.cons.inj e).1 (by decide)
      | use e2 n2 w2 c2 => exact (cq c2 n39 e.symm).elim
      | bind e2 n2 c2 => exact (cq c2 n39 e.symm).elim
      | op e2 m2 c2 => exact (cq c2 n39 e.symm).elim
    | name e1 n1 x1 =>
      rw [x1] at e
      cases s2 with
      | val e2 n2 x2 => rw [x2] at e; exact (lt (l' := []) (nameB_ltr n1).1 (ne n1) n39 e).elim
      | name e2 n2 x2 =>
        rw [x2] at e
        obtain ⟨i, j⟩ := name_split (nameB_ltr n1).1 (nameB_ltr n2).1 hp.nol hp'.nol e
        exact ⟨by rw [e1, e2, cl_inj i], j⟩
      | fail e2 n2 c2 => exact (nc n1 c2 hp e).elim
      | dot e2 n2 w2 x2 => rw [x2] at e; exact (lt (l' := []) (nameB_ltr n1).1 (ne n1) n46 e).elim
      | use e2 n2 w2 c2 => exact (nc n1 c2 hp e).elim
      | bind e2 n2 c2 => exact (nc n1 c2 hp e).elim
      | op e2 m2 c2 => exact (nc n1 c2 hp e).elim
    | dot e1 n1 w1 x1 =>
      rw [x1] at e
      cases s2 with
      | val e2 n2 x2 => rw [x2] at e; exact absurd (List.cons.inj e).1 (by decide)
      | name e2 n2 x2 => rw [x2] at e; exact (lt (l' := []) (nameB_ltr n2).1 (ne n2) n46 e.symm).elim
      | fail e2 n2 c2 => exact (cq c2 n46 e.symm).elim
      | dot e2 n2 w2 x2 =>
        rw [x2, List.cons_append, List.cons_append] at e
        have e3 := (List.cons.inj e).2
        rw [List.append_assoc, List.append_assoc] at e3
        obtain ⟨i, j⟩ := name_split (nameB_ltr n1).1 (nameB_ltr n2).1 (nol40 _) (nol40 _) e3
        obtain ⟨k1, k2⟩ := aA (sz e1) (kids h e1) (kids h' e2) (List.cons.inj j).2
        exact ⟨by rw [e1, e2, cl_inj i, k1], k2⟩
      | use e2 n2 w2 c2 => exact (cq c2 n46 e.symm).elim
      | bind e2 n2 c2 => exact (cq c2 n46 e.symm).elim
      | op e2 m2 c2 => exact (cq c2 n46 e.symm).elim
    | fail e1 n1 c1 =>
      cases s2 with
      | val e2 n2 x2 => rw [x2] at e; exact (cq c1 n39 e).elim
      | name e2 n2 x2 => rw [x2] at e; exact (nc n2 c1 hp' e.symm).elim
      | fail e2 n2 c2 =>
        have e3 := (cc c1 c2).2
        rw [List.append_assoc, List.append_assoc] at e3
        obtain ⟨i, j⟩ := name_split (nameB_ltr n1).1 (nameB_ltr n2).1 (stop41 _).nol (stop41 _).nol e3
        exact ⟨by rw [e1, e2, cl_inj i], (List.cons.inj j).2⟩
      | dot e2 n2 w2 x2 => rw [x2] at e; exact (cq c1 n46 e).elim
      | use e2 n2 w2 c2 => exact absurd ((cc c1 c2).1 ▸ fw) w2
      | bind e2 n2 c2 => exact absurd (cc c1 c2).1 (by decide)
      | op e2 m2 c2 => exact absurd (cc c1 c2).1.symm (wd m2).2.1
    | use e1 n1 w1 c1 =>
      cases s2 with
      | val e2 n2 x2 => rw [x2] at e; exact (cq c1 n39 e).elim
      | name e2 n2 x2 => rw [x2] at e; exact (nc n2 c1 hp' e.symm).elim
      | fail e2 n2 c2 => exact absurd ((cc c1 c2).1 ▸ fw) w1
      | dot e2 n2 w2 x2 => rw [x2] at e; exact (cq c1 n46 e).elim
      | use e2 n2 w2 c2 =>
        obtain ⟨i, j⟩ := cc c1 c2
        obtain ⟨k1, k2⟩ := aA (sz e1) (kids h e1) (kids h' e2) j
        exact ⟨by rw [e1, e2, i, k1], k2⟩
      | bind e2 n2 c2 => exact absurd ((cc c1 c2).1 ▸ bw) w1
      | op e2 m2 c2 => exact absurd ((cc c1 c2).1 ▸ (wd m2).1) w1
    | bind e1 n1 c1 =>
      cases s2 with
      | val e2 n2 x2 => rw [x2] at e; exact (cq c1 n39 e).elim
      | name e2 n2 x2 => rw [x2] at e; exact (nc n2 c1 hp' e.symm).elim
      | fail e2 n2 c2 => exact absurd (cc c1 c2).1 (by decide)
      | dot e2 n2 w2 x2 => rw [x2] at e; exact (cq c1 n46 e).elim
      | use e2 n2 w2 c2 => exact absurd ((cc c1 c2).1 ▸ bw) w2
      | bind e2 n2 c2 =>
        have e3 := (cc c1 c2).2
        rw [List.append_assoc, List.append_assoc, List.append_assoc, List.append_assoc] at e3
        have st : ∀ (l : List Tm) (q : List Nat), Stop (txR l ++ ([41] ++ q)) := fun l q => by
          cases l with
          | nil => rw [txR]; exact stop41 q
          | cons x y => rw [txR]; exact fun c r e => by cases e; exact .inr rfl
        obtain ⟨i, j⟩ := name_split (nameB_ltr n1).1 (nameB_ltr n2).1 (st _ _).nol (st _ _).nol e3
        obtain ⟨k1, k2⟩ := args_inj hL ih _ _ (sz e1) (kids h e1) (kids h' e2) j
        exact ⟨by rw [e1, e2, cl_inj i, k1], k2⟩
      | op e2 m2 c2 => exact absurd (cc c1 c2).1.symm (wd m2).2.2
    | op e1 m1 c1 =>
      cases s2 with
      | val e2 n2 x2 => rw [x2] at e; exact (cq c1 n39 e).elim
      | name e2 n2 x2 => rw [x2] at e; exact (nc n2 c1 hp' e.symm).elim
      | fail e2 n2 c2 => exact absurd (cc c1 c2).1 (wd m1).2.1
      | dot e2 n2 w2 x2 => rw [x2] at e; exact (cq c1 n46 e).elim
      | use e2 n2 w2 c2 => exact absurd ((cc c1 c2).1 ▸ (wd m1).1) w2
      | bind e2 n2 c2 => exact absurd (cc c1 c2).1 (wd m1).2.2
      | op e2 m2 c2 =>
        obtain ⟨i, j⟩ := cc c1 c2
        obtain ⟨k1, k2⟩ := aA (sz e1) (kids h e1) (kids h' e2) j
        exact ⟨by rw [e1, e2, i, k1], k2⟩
end GB
set_option Elab.async false
set_option linter.all false
set_option autoImplicit false
set_option maxRecDepth 100000
set_option maxHeartbeats 4000000
namespace GB
open PySem PySem.Spec L2
def txS (t : Tm) : Str := ⟨(txL t).toArray⟩
theorem cl_txS (t : Tm) : cl (txS t) = txL t := rfl
theorem cl_mk (l : List Nat) : cl ⟨l.toArray⟩ = l := rfl
theorem cl_app (a b : Str) : cl (a ++ b) = cl a ++ cl b := TL.tl_append a b
theorem mk_cl (s : Str) : (⟨(cl s).toArray⟩ : Str) = s := cl_inj rfl
theorem cl_len (s : Str) : s.length = (cl s).length := by unfold cl; rw [Array.length_toList]; rfl
theorem eq_txS {s : Str} {t : Tm} (h : cl s = txL t) : s = txS t := cl_inj h
theorem cl_join1 : ∀ (s : Str) (ks : List Tm), cl (Txt.join ", " (s :: ks.map txS)) = cl s ++ txR ks
  | s, [] => by rw [TL.join_eq]; show cl s = cl s ++ txR []; rw [txR, List.append_nil]
  | s, k :: r => by
    have h := cl_join1 (txS k) r
    rw [TL.join_eq] at h ⊢
    show cl (s ++ (", " : Str) ++ Str.join ", " (txS k :: r.map txS)) = _
    rw [cl_app, cl_app, h, cl_txS, txR, List.append_assoc]
    rfl
theorem cl_join : ∀ ks : List Tm, cl (Txt.join ", " (ks.map txS)) = txA ks
  | [] => by rw [TL.join_eq, txA]; rfl
  | k :: r => by rw [List.map_cons, cl_join1, txA]; rfl
mutual
theorem txL_len {L : List (Str × Nat)} (hL : ∀ q ∈ L, nameB q.1 = true) : ∀ (t : Tm) {ns : List Str}, TmOk L ns t → (txL t).length + 2 ≤ 20 * t.size
  | .mk w n ks, ns, h => by
    have hk : ∀ k ∈ ks, ∃ ns, TmOk L ns k := fun k hk => by
      cases h with
      | mk _ hK =>
        obtain ⟨i, hi⟩ := List.mem_iff_getElem?.mp hk
        exact ⟨_, hK i k hi⟩
    obtain ⟨a1, a2⟩ := txs_len hL ks hk
    rw [Tm.size]
    have l8 : ∀ {x : Str}, nameB x = true → (cl x).length ≤ 8 := fun h => (nameB_ltr h).2.2
    have wl : ∀ {w : Str} {m : Nat}, (w, m) ∈ opsW → (cl w).length ≤ 4 := fun hm => (show ∀ q ∈ opsW, (cl q.1).length ≤ 4 by decide +kernel) _ hm
    have f4 : (cl "fail").length = 4 := by decide +kernel
    have b4 : (cl "bind").length = 4 := by decide +kernel
    cases shp hL h with
    | val e hn tx => rw [tx]; cases e; have := l8 hn; rw [List.length_cons]; omega
    | name e hn tx => rw [tx]; cases e; have := l8 hn; omega
    | fail e hn c => rw [c.tx]; cases e; have := l8 hn; rw [List.length_append, List.length_cons, List.length_append, f4]; simp only [List.length_singleton]; omega
    | dot e hn hw tx => rw [tx]; cases e; have := l8 hn; rw [List.length_cons, List.length_append, List.length_cons, List.length_append]; simp only [List.length_singleton]; omega
    | use e hn hw c => rw [c.tx]; cases e; have := l8 hn; rw [List.length_append, List.length_cons, List.length_append]; simp only [List.length_singleton]; omega
    | bind e hn c => rw [c.tx]; cases e; have := l8 hn; rw [List.length_append, List.length_cons, List.length_append, List.length_append, b4]; simp only [List.length_singleton]; omega
    | op e hm c => rw [c.tx]; cases e; have := wl hm; rw [List.length_append, List.length_cons, List.length_append]; simp only [List.length_singleton]; omega
theorem txs_len {L : List (Str × Nat)} (hL : ∀ q ∈ L, nameB q.1 = true) : ∀ (ks : List Tm), (∀ k ∈ ks, ∃ ns, TmOk L ns k) → (txA ks).length ≤ 20 * Tm.sizes ks ∧ (txR ks).length ≤ 20 * Tm.sizes ks
  | [], _ => by rw [txA, txR]; exact ⟨Nat.zero_le _, Nat.zero_le _⟩
  | k :: r, h => by
    obtain ⟨ns, o⟩ := h k List.mem_cons_self
    have a := txL_len hL k o
    obtain ⟨b1, b2⟩ := txs_len hL r fun x hx => h x (List.mem_cons_of_mem _ hx)
    rw [txA, txR, Tm.sizes, List.length_cons, List.length_cons, List.length_append]
    omega
end
theorem sum_len {L : List (Str × Nat)} (hL : ∀ q ∈ L, nameB q.1 = true) : ∀ (ks : List Tm), (∀ k ∈ ks, ∃ ns, TmOk L ns k) → ((ks.map txS).map (·.length)).sum ≤ 20 * Tm.sizes ks
  | [], _ => Nat.zero_le _
  | k :: r, h => by
    obtain ⟨ns, o⟩ := h k List.mem_cons_self
    have a := txL_len hL k o
    have b := sum_len hL r fun x hx => h x (List.mem_cons_of_mem _ hx)
    rw [Tm.sizes]
    show (txS k).length + ((r.map txS).map (·.length)).sum ≤ _
    rw [cl_len, cl_txS]
    omega
theorem nameB_of {L : List (Str × Nat)} (hL : ∀ q ∈ L, nameB q.1 = true) {ns : List Str} {w n : Str} {m : Nat} (h : HeadOk L ns w n m) (hw : w ∉ opsW.map (·.1)) : nameB n = true := by
  cases h with
  | val h => exact h
  | fail h => exact h
  | name h _ => exact h
  | use h => exact hL _ h
  | bind h _ => exact h
  | op h => exact absurd (List.mem_map.mpr ⟨_, h, rfl⟩) hw
end GB
set_option Elab.async false
set_option linter.all false
set_option autoImplicit false
set_option maxRecDepth 100000
set_option maxHeartbeats 4000000
/-! Reading a text sign by sign: a taker that tells where it stops, and the law's walk over rows of what must come. -/
namespace GB
open PySem PySem.Spec L2
inductive Rs (α : Type) where
  | ok (a : α) (r : List Nat)
  | bad (r : List Nat)
def Rs.bind {α β : Type} : Rs α → (α → List Nat → Rs β) → Rs β
  | .ok a r, f => f a r
  | .bad r, _ => .bad r
def Rs.left {α : Type} : Rs α → List Nat
  | .ok _ r => r
  | .bad r => r
theorem Rs.bind_ok {α β : Type} {a : α} {r : List Nat} {f : α → List Nat → Rs β} : (Rs.ok a r).bind f = f a r := rfl
theorem Rs.bind_bad {α β : Type} {r : List Nat} {f : α → List Nat → Rs β} : (Rs.bad r : Rs α).bind f = .bad r := rfl
def ltB (c : Nat) : Bool := decide (97 ≤ c) && decide (c ≤ 122)
theorem ltB_iff {c : Nat} : ltB c = true ↔ ltr c := by unfold ltB ltr; simp
def mkS (l : List Nat) : Str := ⟨l.toArray⟩
theorem cl_mkS (l : List Nat) : cl (mkS l) = l := rfl
def pNm : Nat → List Nat → List Nat × List Nat
  | 0, r => ([], r)
  | _ + 1, [] => ([], [])
  | k + 1, c :: r => if ltB c then (c :: (pNm k r).1, (pNm k r).2) else ([], c :: r)
def takeN (r : List Nat) : Rs Str := if (pNm 8 r).1 = [] then .bad r else .ok (mkS (pNm 8 r).1) (pNm 8 r).2
def lit : List Nat → List Nat → Rs Unit
  | [], r => .ok () r
  | _ :: _, [] => .bad []
  | w :: W, c :: r => if c = w then lit W r else .bad (c :: r)
def isWd (a : List Nat) : Bool := wdsW.any fun w => cl w == a
def begB (a : List Nat) : Bool := wdsW.any fun w => a.isPrefixOf (cl w)
def takeW (a : List Nat) : List Nat → Rs Str
  | [] => if isWd a then .ok (mkS a) [] else .bad []
  | c :: r => if isWd a then .ok (mkS a) (c :: r) else if begB (a ++ [c]) then takeW (a ++ [c]) r else .bad (c :: r)
inductive Bg where
  | leaf (w n : Str)
  | opn (w n : Str) (few most : Nat)
def behd (w : Str) (r : List Nat) : Rs Bg :=
  if w = "fail" then (takeN r).bind fun n r => (lit [41] r).bind fun _ r => .ok (.leaf "fail" n) r
  else if w = "bind" then (takeN r).bind fun n r => (lit [44, 32] r).bind fun _ r => .ok (.opn "bind" n 2 2) r
  else match opsW.lookup w with
    | some m => .ok (.opn w "" m m) r
    | none => .ok (.opn "use" w 0 2) r
def pBg (r : List Nat) : Rs Bg :=
  if r.head? = some 39 then (takeN r.tail).bind fun n r => .ok (.leaf "value" n) r
  else if r.head? = some 46 then (takeW [] r.tail).bind fun n r => (lit [40] r).bind fun _ r => .ok (.opn "use" n 0 2) r
  else (takeN r).bind fun n r => if r.head? = some 40 then behd n r.tail else .ok (.leaf "name" n) r
def pMore (pt : List Nat → Rs Tm) (few most : Nat) : Nat → List Tm → List Nat → Rs (List Tm)
  | 0, ts, r => (lit [41] r).bind fun _ r => .ok ts r
  | j + 1, ts, r => if ts.length < few ∨ (ts.length < most ∧ r.head? = some 44) then
      (lit [44, 32] r).bind fun _ r => (pt r).bind fun t r => pMore pt few most j (ts ++ [t]) r
    else (lit [41] r).bind fun _ r => .ok ts r
def pOne (pt : List Nat → Rs Tm) (few : Nat) (r : List Nat) : Rs (List Tm) :=
  if 0 < few ∨ r.head? ≠ some 41 then (pt r).bind fun t r => .ok [t] r else .ok [] r
def pT : Nat → List Nat → Rs Tm
  | 0, r => .bad r
  | z + 1, r => (pBg r).bind fun b r => match b with
    | .leaf w n => .ok (.mk w n []) r
    | .opn w n few most => (pOne (pT z) few r).bind fun ts r => (pMore (pT z) few most (3 - ts.length) ts r).bind fun ts r => .ok (.mk w n ts) r

/-! ### the law's rows, what comes next first -/
abbrev Row := List (List Nat)
def wdL : List (List Nat × Row) :=
  [(cl "if", [[116], [44], [32], [116], [44], [32], [116], [41]]), (cl "and", [[116], [44], [32], [116], [41]]), (cl "or", [[116], [44], [32], [116], [41]]),
   (cl "not", [[116], [41]]), (cl "then", [[116], [44], [32], [116], [41]]), (cl "try", [[116], [44], [32], [116], [41]]), (cl "last", [[116], [44], [32], [116], [41]]),
   (cl "bind", [[110], [44], [32], [116], [44], [32], [116], [41]]), (cl "fail", [[110], [41]])]
def stT (rest : Row) (c : Nat) : List Row :=
  if c = 39 then [[110] :: rest]
  else if c = 46 then wdL.map fun w => (46 :: w.1.reverse) :: [40] :: [97] :: [41] :: rest
  else if ltB c then [[116, c] :: rest] else []
def stp : Row → Nat → List Row
  | [], _ => []
  | top :: rest, c =>
    if top.length = 1 ∧ top ≠ [116] ∧ top ≠ [110] ∧ top ≠ [97] ∧ top ≠ [109] then (if top = [c] then [rest] else [])
    else if top = [116] then stT rest c
    else if top = [110] then (if ltB c then [[110, c] :: rest] else [])
    else if top.head? = some 46 then (if top.getLast? = some c then (if 2 < top.length then [top.dropLast :: rest] else [rest]) else [])
    else if top = [97] then stp rest c ++ stT ([109] :: rest) c
    else if top = [109] then stp rest c ++ (if c = 44 then [[32] :: [116] :: rest] else [])
    else if ltB c then (if top.length < 9 then [(top ++ [c]) :: rest] else [])
    else if top.head? = some 110 then stp rest c
    else if c ≠ 40 then stp rest c
    else match wdL.lookup top.tail with
      | some row => [row ++ rest]
      | none => [[97] :: [41] :: rest]
def stps (S : List Row) (c : Nat) : List Row := S.foldl (fun later s => later ++ (stp s c).filter (fun x => !decide (x ∈ later))) []
def accR : Row → Bool
  | [] => true
  | [x] => decide (1 < x.length ∧ (x.head? = some 116 ∨ x.head? = some 110))
  | _ => false
/-- what is left where no text goes on, none for a text -/
def plc : List Row → List Nat → Option Nat
  | S, [] => if S.any accR then none else some 0
  | S, c :: r => if stps S c = [] then some (r.length + 1) else plc (stps S c) r
def Nx (rest : Row) : Prop := rest = [] ∨ ∃ x q, rest = x :: q ∧ (x = [41] ∨ x = [44] ∨ (x = [109] ∧ ∃ q', q = [41] :: q'))
theorem stps1 (s : Row) (c : Nat) : stps [s] c = stp s c := by
  show [] ++ (stp s c).filter (fun x => !decide (x ∈ ([] : List Row))) = _
  rw [List.nil_append]
  exact List.filter_eq_self.mpr fun x _ => by simp
theorem plc1 (s : Row) (c : Nat) (r : List Nat) : plc [s] (c :: r) = if stp s c = [] then some (r.length + 1) else plc (stp s c) r := by
  rw [plc, stps1]
theorem plc_nil (s : Row) : plc [s] [] = if accR s then none else some 0 := by
  rw [plc]
  show (if (accR s || false) = true then _ else _) = _
  rw [Bool.or_false]
/-- one step like another one's -/
theorem plc_eq {s s' : Row} {c : Nat} (r : List Nat) (h : stp s c = stp s' c) : plc [s] (c :: r) = plc [s'] (c :: r) := by rw [plc1, plc1, h]
theorem plc_go {s s' : Row} {c : Nat} (r : List Nat) (h : stp s c = [s']) : plc [s] (c :: r) = plc [s'] r := by rw [plc1, h, if_neg (by simp)]
theorem plc_no {s : Row} {c : Nat} (r : List Nat) (h : stp s c = []) : plc [s] (c :: r) = some (r.length + 1) := by rw [plc1, h, if_pos rfl]
theorem plc_end {s : Row} (h : accR s = false) : plc [s] [] = some 0 := by rw [plc_nil, h]; rfl
/-- a sign of its own -/
theorem stp_sign {x c : Nat} {rest : Row} (h1 : x ≠ 116) (h2 : x ≠ 110) (h3 : x ≠ 97) (h4 : x ≠ 109) : stp ([x] :: rest) c = if x = c then [rest] else [] := by
  rw [stp, if_pos ⟨rfl, by simpa using h1, by simpa using h2, by simpa using h3, by simpa using h4⟩]
  by_cases e : x = c
  · rw [if_pos e, if_pos (by rw [e])]
  · rw [if_neg e, if_neg (by simpa using e)]
def Sg (x : Nat) : Prop := x = 40 ∨ x = 41 ∨ x = 44 ∨ x = 32
theorem Sg.ne {x : Nat} (h : Sg x) : x ≠ 116 ∧ x ≠ 110 ∧ x ≠ 97 ∧ x ≠ 109 := by unfold Sg at h; omega
theorem acc_sign {x : Nat} {rest : Row} : accR ([x] :: rest) = false := by
  cases rest with
  | nil => rw [accR]; simp
  | cons a b => rfl
def rowOf (W : List Nat) : Row := W.map fun x => [x]
theorem plc_lit : ∀ (W : List Nat) (rest : Row) (r : List Nat), (∀ x ∈ W, Sg x) → plc [rowOf W ++ rest] r = (match lit W r with
    | .ok _ r' => plc [rest] r'
    | .bad r' => some r'.length)
  | [], rest, r, _ => rfl
  | x :: W, rest, [], _ => plc_end acc_sign
  | x :: W, rest, c :: r, h => by
    have hx := (h x List.mem_cons_self).ne
    have s := stp_sign (rest := rowOf W ++ rest) (c := c) hx.1 hx.2.1 hx.2.2.1 hx.2.2.2
    show plc [[x] :: (rowOf W ++ rest)] (c :: r) = _
    by_cases e : x = c
    · rw [if_pos e] at s
      rw [plc_go r s, lit, if_pos e.symm]
      exact plc_lit W rest r fun y hy => h y (List.mem_cons_of_mem _ hy)
    · rw [if_neg e] at s
      rw [plc_no r s, lit, if_neg (fun z => e z.symm)]
      rfl
theorem ltB_ne {c : Nat} (h : ltB c = true) : c ≠ 39 ∧ c ≠ 40 ∧ c ≠ 41 ∧ c ≠ 44 ∧ c ≠ 46 ∧ c ≠ 32 := by
  have := ltB_iff.mp h
  unfold ltr at this
  omega
theorem stp_m {c : Nat} {rest : Row} : stp ([109] :: rest) c = stp rest c ++ (if c = 44 then [[32] :: [116] :: rest] else []) := by
  rw [stp, if_neg (by simp), if_neg (by decide), if_neg (by decide), if_neg (by decide), if_neg (by decide), if_pos rfl]
theorem stp_a {c : Nat} {rest : Row} : stp ([97] :: rest) c = stp rest c ++ stT ([109] :: rest) c := by
  rw [stp, if_neg (by simp), if_neg (by decide), if_neg (by decide), if_neg (by decide), if_pos rfl]
theorem stp_t {c : Nat} {rest : Row} : stp ([116] :: rest) c = stT rest c := by
  rw [stp, if_neg (by simp), if_pos rfl]
theorem stp_n {c : Nat} {rest : Row} : stp ([110] :: rest) c = if ltB c then [[110, c] :: rest] else [] := by
  rw [stp, if_neg (by simp), if_neg (by decide), if_pos rfl]
/-- no letter goes on behind a name that ended -/
theorem Nx.stuck {rest : Row} {c : Nat} (h : Nx rest) (hc : ltB c = true) : stp rest c = [] := by
  obtain ⟨_, _, n41, n44, _, _⟩ := ltB_ne hc
  rcases h with rfl | ⟨x, q, rfl, rfl | rfl | ⟨rfl, q', rfl⟩⟩
  · rfl
  · rw [stp_sign (by decide) (by decide) (by decide) (by decide), if_neg (fun e => n41 e.symm)]
  · rw [stp_sign (by decide) (by decide) (by decide) (by decide), if_neg (fun e => n44 e.symm)]
  · rw [stp_m, stp_sign (by decide) (by decide) (by decide) (by decide), if_neg (fun e => n41 e.symm), if_neg n44]
    rfl
theorem Nx.acc {rest : Row} (h : Nx rest) (x : List Nat) (hx : 1 < x.length) (h2 : x.head? = some 116 ∨ x.head? = some 110) : accR (x :: rest) = accR rest := by
  rcases h with rfl | ⟨y, q, rfl, h⟩
  · rw [accR, accR]; exact decide_eq_true ⟨hx, h2⟩
  · have e : accR (y :: q) = false := by
      rcases h with rfl | rfl | ⟨rfl, q', rfl⟩
      · exact acc_sign
      · exact acc_sign
      · rfl
    rw [e]
    cases q <;> rfl
/-- a name of which some signs are taken -/
theorem stp_nm {h0 : Nat} {w : List Nat} {c : Nat} {rest : Row} (h : h0 = 116 ∨ h0 = 110) (hw : w ≠ []) : stp ((h0 :: w) :: rest) c = if ltB c then (if (h0 :: w).length < 9 then [((h0 :: w) ++ [c]) :: rest] else [])
    else if h0 = 110 then stp rest c else if c ≠ 40 then stp rest c else match wdL.lookup w with
      | some row => [row ++ rest]
      | none => [[97] :: [41] :: rest] := by
  obtain ⟨a, w', rfl⟩ : ∃ a w', w = a :: w' := by
    cases w with
    | nil => exact absurd rfl hw
    | cons a b => exact ⟨a, b, rfl⟩
  rw [stp, if_neg (by simp), if_neg (by simp), if_neg (by simp), if_neg (by rcases h with rfl | rfl <;> simp), if_neg (by simp), if_neg (by simp)]
  rcases h with rfl | rfl <;> simp
theorem plc_nm : ∀ (j : Nat) (r : List Nat) (w : List Nat) (rest : Row), w ≠ [] → w.length + j = 8 → Nx rest → plc [(110 :: w) :: rest] r = plc [rest] (pNm j r).2
  | j, [], w, rest, hw, hj, hN => by
    have e : (pNm j []).2 = [] := by cases j <;> rfl
    rw [e, plc_nil, plc_nil, hN.acc _ (by cases w with | nil => exact absurd rfl hw | cons a b => simp) (.inr rfl)]
  | 0, c :: r, w, rest, hw, hj, hN => by
    show _ = plc [rest] (c :: r)
    refine plc_eq r ?_
    rw [stp_nm (.inr rfl) hw]
    by_cases hc : ltB c = true
    · rw [if_pos hc, if_neg (by rw [List.length_cons]; omega), hN.stuck hc]
    · rw [if_neg hc, if_pos rfl]
  | j + 1, c :: r, w, rest, hw, hj, hN => by
    by_cases hc : ltB c = true
    · have s := stp_nm (h0 := 110) (w := w) (c := c) (rest := rest) (.inr rfl) hw
      rw [if_pos hc, if_pos (by rw [List.length_cons]; omega)] at s
      rw [plc_go r s, pNm, if_pos hc]
      exact plc_nm j r (w ++ [c]) rest (by simp) (by rw [List.length_append, List.length_singleton]; omega) hN
    · rw [pNm, if_neg hc]
      refine plc_eq r ?_
      rw [stp_nm (.inr rfl) hw, if_neg hc, if_pos rfl]
theorem pNm8 {c : Nat} {r : List Nat} (hc : ltB c = true) : pNm 8 (c :: r) = (c :: (pNm 7 r).1, (pNm 7 r).2) := by rw [pNm, if_pos hc]
theorem takeN_ok {c : Nat} {r : List Nat} (hc : ltB c = true) : takeN (c :: r) = .ok (mkS (c :: (pNm 7 r).1)) (pNm 7 r).2 := by
  unfold takeN
  rw [pNm8 hc, if_neg (by simp)]
theorem takeN_no {c : Nat} {r : List Nat} (hc : ¬ ltB c = true) : takeN (c :: r) = .bad (c :: r) := by
  unfold takeN
  rw [pNm, if_neg hc, if_pos rfl]
theorem takeN_nil : takeN [] = .bad [] := rfl
theorem plc_n (rest : Row) (r : List Nat) (hN : Nx rest) : plc [[110] :: rest] r = match takeN r with
    | .ok _ r' => plc [rest] r'
    | .bad r' => some r'.length := by
  cases r with
  | nil => rw [takeN_nil]; exact plc_end acc_sign
  | cons c r =>
    by_cases hc : ltB c = true
    · rw [takeN_ok hc, plc_go r (by rw [stp_n, if_pos hc])]
      exact plc_nm 7 r [c] rest (by simp) rfl hN
    · rw [takeN_no hc, plc_no r (by rw [stp_n, if_neg hc])]
      rfl
/-- a name at which a term begins -/
theorem plc_tn : ∀ (j : Nat) (r : List Nat) (w : List Nat) (rest : Row), w ≠ [] → w.length + j = 8 → Nx rest → plc [(116 :: w) :: rest] r =
    if (pNm j r).2.head? = some 40 then plc [(match wdL.lookup (w ++ (pNm j r).1) with | some row => row | none => [[97], [41]]) ++ rest] (pNm j r).2.tail else plc [rest] (pNm j r).2
  | j, [], w, rest, hw, hj, hN => by
    have e : (pNm j []).2 = [] := by cases j <;> rfl
    rw [e, if_neg (by simp), plc_nil, plc_nil, hN.acc _ (by cases w with | nil => exact absurd rfl hw | cons a b => simp) (.inl rfl)]
  | 0, c :: r, w, rest, hw, hj, hN => by
    show _ = if (c :: r).head? = some 40 then plc [(match wdL.lookup (w ++ []) with | some row => row | none => [[97], [41]]) ++ rest] r else plc [rest] (c :: r)
    rw [List.append_nil]
    have s := stp_nm (h0 := 116) (w := w) (c := c) (rest := rest) (.inl rfl) hw
    by_cases hc : ltB c = true
    · rw [if_pos hc, if_neg (by rw [List.length_cons]; omega)] at s
      have n40 := (ltB_ne hc).2.1
      rw [if_neg (by simpa using n40)]
      exact plc_eq r (by rw [s, hN.stuck hc])
    · rw [if_neg hc, if_neg (by decide)] at s
      by_cases h40 : c = 40
      · rw [if_neg (by simpa using h40)] at s
        rw [if_pos (by simp [h40])]
        cases hl : wdL.lookup w with
        | some row => rw [hl] at s; exact plc_go r s
        | none => rw [hl] at s; exact plc_go r s
      · rw [if_pos h40] at s
        rw [if_neg (by simpa using h40)]
        exact plc_eq r s
  | j + 1, c :: r, w, rest, hw, hj, hN => by
    have s := stp_nm (h0 := 116) (w := w) (c := c) (rest := rest) (.inl rfl) hw
    by_cases hc : ltB c = true
    · rw [if_pos hc, if_pos (by rw [List.length_cons]; omega)] at s
      rw [plc_go r s, pNm, if_pos hc]
      have := plc_tn j r (w ++ [c]) rest (by simp) (by rw [List.length_append, List.length_singleton]; omega) hN
      rw [List.append_assoc] at this
      exact this
    · rw [if_neg hc, if_neg (by decide)] at s
      rw [pNm, if_neg hc]
      show _ = if (c :: r).head? = some 40 then plc [(match wdL.lookup (w ++ []) with | some row => row | none => [[97], [41]]) ++ rest] r else plc [rest] (c :: r)
      rw [List.append_nil]
      by_cases h40 : c = 40
      · rw [if_neg (by simpa using h40)] at s
        rw [if_pos (by simp [h40])]
        cases hl : wdL.lookup w with
        | some row => rw [hl] at s; exact plc_go r s
        | none => rw [hl] at s; exact plc_go r s
      · rw [if_pos h40] at s
        rw [if_neg (by simpa using h40)]
        exact plc_eq r s
end GB
set_option Elab.async false
set_option linter.all false
set_option autoImplicit false
set_option maxRecDepth 100000
set_option maxHeartbeats 4000000
namespace GB
open PySem PySem.Spec L2
/-! ### the words behind a dot -/
def wdO : List Str := ["if", "and", "or", "not", "then", "try", "last", "bind", "fail"]
theorem wdO_in : ∀ w ∈ wdsW, w ∈ wdO := by decide +kernel
def sfx (a : List Nat) : List (List Nat) := wdO.filterMap fun w => if a.isPrefixOf (cl w) then some ((cl w).drop a.length) else none
def dotR (rest : Row) (s : List Nat) : Row := (46 :: s.reverse) :: [40] :: [97] :: [41] :: rest
theorem dotR_inj {rest : Row} {s s' : List Nat} (h : dotR rest s = dotR rest s') : s = s' := by
  have := (List.cons.inj h).1
  exact List.reverse_inj.mp (List.cons.inj this).2
theorem stp_dot {rest : Row} {x c : Nat} {s : List Nat} : stp (dotR rest (x :: s)) c = if x = c then (if s = [] then [[40] :: [97] :: [41] :: rest] else [dotR rest s]) else [] := by
  unfold dotR
  rw [stp, if_neg (by simp), if_neg (by simp), if_neg (by simp), if_pos (show (46 :: (x :: s).reverse).head? = some 46 from rfl)]
  have e0 : (46 :: (x :: s).reverse) = (46 :: s.reverse) ++ [x] := by rw [List.reverse_cons]; rfl
  have e : (46 :: (x :: s).reverse).getLast? = some x := by rw [e0, List.getLast?_append]; rfl
  rw [e]
  by_cases h : x = c
  · rw [if_pos (by rw [h]), if_pos h]
    by_cases hs : s = []
    · rw [if_pos hs, if_neg (by rw [hs]; simp)]
    · rw [if_neg hs, if_pos (by
        have : 1 ≤ s.length := by cases s with | nil => exact absurd rfl hs | cons a b => simp
        simp; omega)]
      rw [e0, List.dropLast_concat]
  · rw [if_neg (by simpa using h), if_neg h]
theorem stps_app {S : List Row} {c : Nat} (h : (S.flatMap fun s => stp s c).Nodup) : stps S c = S.flatMap fun s => stp s c := by
  have key : ∀ (S : List Row) (acc : List Row), (acc ++ S.flatMap fun s => stp s c).Nodup → S.foldl (fun later s => later ++ (stp s c).filter (fun x => !decide (x ∈ later))) acc = acc ++ S.flatMap fun s => stp s c := by
    intro S
    induction S with
    | nil => intro acc _; simp
    | cons s S ih =>
      intro acc h
      rw [List.flatMap_cons, ← List.append_assoc] at h
      have e : (stp s c).filter (fun x => !decide (x ∈ acc)) = stp s c := List.filter_eq_self.mpr fun x hx => by
        have h1 := (List.nodup_append.mp (List.nodup_append.mp h).1).2.2
        simp only [Bool.not_eq_true', decide_eq_false_iff_not]
        exact fun ha => h1 x ha x hx rfl
      rw [List.foldl_cons, e, ih _ h, List.flatMap_cons, List.append_assoc]
  have := key S [] (by simpa using h)
  simpa [stps] using this
/-- prefixes of words, each but the words themselves -/
def prfs : List (List Nat) := wdsW.flatMap fun w => (List.range (cl w).length).map fun j => (cl w).take j
def nxt (c : Nat) (l : List (List Nat)) : List (List Nat) := l.filterMap fun s => if s.head? = some c then some s.tail else none
theorem sfx_ok : ∀ a ∈ prfs, isWd a = false ∧ (∀ s ∈ sfx a, s ≠ []) ∧ (sfx a).Nodup ∧ (∀ s ∈ sfx a, ∀ c ∈ s.head?, begB (a ++ [c]) = true ∧ (isWd (a ++ [c]) = true ∨ a ++ [c] ∈ prfs)) := by decide +kernel
theorem sfx_nx : ∀ a ∈ prfs, ∀ s ∈ sfx a, ∀ c ∈ s.head?, nxt c (sfx a) = sfx (a ++ [c]) ∧ (isWd (a ++ [c]) = true → sfx (a ++ [c]) = [[]]) := by decide +kernel
theorem begB_sfx {a : List Nat} {c : Nat} (h : begB (a ++ [c]) = true) : ∃ s ∈ sfx a, s.head? = some c := by
  obtain ⟨w, hw, hp⟩ := List.any_eq_true.mp h
  obtain ⟨q, hq⟩ := List.isPrefixOf_iff_prefix.mp hp
  refine ⟨c :: q, List.mem_filterMap.mpr ⟨w, wdO_in w hw, ?_⟩, rfl⟩
  rw [if_pos (List.isPrefixOf_iff_prefix.mpr ⟨c :: q, by rw [← hq]; simp⟩), ← hq]
  simp
theorem flat_dot (rest : Row) (c : Nat) : ∀ (l : List (List Nat)), (∀ s ∈ l, s ≠ []) → (∀ s ∈ nxt c l, s ≠ []) → ((l.map (dotR rest)).flatMap fun s => stp s c) = (nxt c l).map (dotR rest)
  | [], _, _ => rfl
  | s :: l, h, h2 => by
    obtain ⟨x, t, rfl⟩ : ∃ x t, s = x :: t := by
      cases s with
      | nil => exact absurd rfl (h _ List.mem_cons_self)
      | cons a b => exact ⟨a, b, rfl⟩
    have hl := fun y hy => h y (List.mem_cons_of_mem _ hy)
    unfold nxt at h2 ⊢
    rw [List.map_cons, List.flatMap_cons, stp_dot]
    by_cases e : x = c
    · rw [List.filterMap_cons_some (b := t) (by rw [if_pos (by simp [e])]; rfl)] at h2 ⊢
      rw [if_pos e, if_neg (h2 t List.mem_cons_self), List.map_cons]
      rw [show ([dotR rest t] ++ List.flatMap (fun s => stp s c) (List.map (dotR rest) l)) = dotR rest t :: List.flatMap (fun s => stp s c) (List.map (dotR rest) l) from rfl]
      rw [flat_dot rest c l hl fun y hy => h2 y (List.mem_cons_of_mem _ hy)]
      rfl
    · rw [List.filterMap_cons_none (by rw [if_neg (by simpa using e)])] at h2 ⊢
      rw [if_neg e, List.nil_append]
      exact flat_dot rest c l hl h2
theorem flat_one (rest : Row) (c : Nat) : ∀ (l : List (List Nat)), (∀ s ∈ l, s ≠ []) → nxt c l = [[]] → ((l.map (dotR rest)).flatMap fun s => stp s c) = [[40] :: [97] :: [41] :: rest]
  | [], _, h => nomatch h
  | s :: l, h, h2 => by
    obtain ⟨x, t, rfl⟩ : ∃ x t, s = x :: t := by
      cases s with
      | nil => exact absurd rfl (h _ List.mem_cons_self)
      | cons a b => exact ⟨a, b, rfl⟩
    have hl := fun y hy => h y (List.mem_cons_of_mem _ hy)
    unfold nxt at h2
    rw [List.map_cons, List.flatMap_cons, stp_dot]
    by_cases e : x = c
    · rw [List.filterMap_cons_some (b := t) (by rw [if_pos (by simp [e])]; rfl)] at h2
      obtain ⟨h3, h4⟩ := List.cons.inj h2
      have := flat_dot rest c l hl (by unfold nxt; rw [h4]; intro s hs; cases hs)
      unfold nxt at this
      rw [h4] at this
      rw [if_pos e, if_pos h3, this]
      rfl
    · rw [List.filterMap_cons_none (by rw [if_neg (by simpa using e)])] at h2
      rw [if_neg e, List.nil_append]
      exact flat_one rest c l hl h2
theorem nodup_dot (rest : Row) {l : List (List Nat)} (h : l.Nodup) : (l.map (dotR rest)).Nodup := List.Pairwise.map _ (fun a b e z => e (dotR_inj z)) h
theorem plc_dot (rest : Row) : ∀ (r : List Nat) (a : List Nat), a ∈ prfs → plc ((sfx a).map (dotR rest)) r = (match takeW a r with
    | .ok _ r' => plc [[40] :: [97] :: [41] :: rest] r'
    | .bad r' => some r'.length)
  | [], a, ha => by
    obtain ⟨h1, h2, h3, h4⟩ := sfx_ok a ha
    rw [takeW, h1, if_neg (by decide), plc]
    have : ((sfx a).map (dotR rest)).any accR = false := by
      rw [List.any_eq_false]
      intro x hx
      obtain ⟨s, _, rfl⟩ := List.mem_map.mp hx
      show ¬ accR (_ :: _ :: _) = true
      simp [accR]
    rw [this]
    rfl
  | c :: r, a, ha => by
    obtain ⟨h1, h2, h3, h4⟩ := sfx_ok a ha
    rw [takeW, h1, if_neg (by decide), plc]
    by_cases hb : begB (a ++ [c]) = true
    · rw [if_pos hb]
      obtain ⟨s, hs, hc⟩ := begB_sfx hb
      obtain ⟨n1, n2⟩ := sfx_nx a ha s hs c hc
      rcases (h4 s hs c hc).2 with hw | hp
      · have e1 := n2 hw
        have fl := flat_one rest c (sfx a) h2 (n1.trans e1)
        have st := stps_app (S := (sfx a).map (dotR rest)) (c := c) (by rw [fl]; simp)
        rw [st, fl, if_neg (by simp)]
        cases r with
        | nil => rw [takeW, if_pos hw]
        | cons d r => rw [takeW, if_pos hw]
      · obtain ⟨k1, k2, k3, k4⟩ := sfx_ok _ hp
        have fl := flat_dot rest c (sfx a) h2 (by rw [n1]; exact k2)
        rw [n1] at fl
        have st := stps_app (S := (sfx a).map (dotR rest)) (c := c) (by rw [fl]; exact nodup_dot rest k3)
        have ne : (sfx (a ++ [c])).map (dotR rest) ≠ [] := by
          rw [← n1]
          intro e
          have e := List.map_eq_nil_iff.mp e
          have : s.tail ∈ nxt c (sfx a) := List.mem_filterMap.mpr ⟨s, hs, by rw [if_pos hc]⟩
          rw [e] at this
          cases this
        rw [st, fl, if_neg ne]
        exact plc_dot rest r (a ++ [c]) hp
    · rw [if_neg hb]
      have nn : nxt c (sfx a) = [] := by
        unfold nxt
        rw [List.filterMap_eq_nil_iff]
        intro s hs
        by_cases hc : s.head? = some c
        · exact absurd (h4 s hs c hc).1 hb
        · rw [if_neg hc]
      have fl := flat_dot rest c (sfx a) h2 (by rw [nn]; intro s hs; cases hs)
      rw [nn] at fl
      have st := stps_app (S := (sfx a).map (dotR rest)) (c := c) (by rw [fl]; exact List.nodup_nil)
      rw [st, fl, if_pos (show (List.map (dotR rest) []) = [] from rfl)]
      rfl
theorem plc_46 (rest : Row) (r : List Nat) : plc [[116] :: rest] (46 :: r) = (match takeW [] r with
    | .ok _ r' => plc [[40] :: [97] :: [41] :: rest] r'
    | .bad r' => some r'.length) := by
  rw [← plc_dot rest r [] (by decide +kernel), plc1, stp_t]
  have e : stT rest 46 = (sfx []).map (dotR rest) := by
    unfold stT
    rw [if_neg (by decide), if_pos rfl, show sfx [] = wdL.map (·.1) by decide +kernel, List.map_map]
    rfl
  rw [e, if_neg]
  intro z
  have := List.map_eq_nil_iff.mp z
  exact absurd this (by decide +kernel)
/-! ### terms -/
theorem plc_39 (rest : Row) (r : List Nat) (hN : Nx rest) : plc [[116] :: rest] (39 :: r) = (match takeN r with
    | .ok _ r' => plc [rest] r'
    | .bad r' => some r'.length) := by
  exact (plc_go r (by rw [stp_t]; rfl)).trans (plc_n rest r hN)
def rowW (w : Str) : Row := match wdL.lookup (cl w) with | some row => row | none => [[97], [41]]
theorem plc_tname (rest : Row) {r : List Nat} (hN : Nx rest) (h39 : r.head? ≠ some 39) (h46 : r.head? ≠ some 46) : plc [[116] :: rest] r = (match takeN r with
    | .ok n r' => if r'.head? = some 40 then plc [rowW n ++ rest] r'.tail else plc [rest] r'
    | .bad r' => some r'.length) := by
  cases r with
  | nil => rw [takeN_nil]; exact plc_end acc_sign
  | cons c r =>
    have n39 : c ≠ 39 := fun e => h39 (by rw [e]; rfl)
    have n46 : c ≠ 46 := fun e => h46 (by rw [e]; rfl)
    by_cases hc : ltB c = true
    · rw [takeN_ok hc, plc_go r (by rw [stp_t, stT, if_neg n39, if_neg n46, if_pos hc])]
      exact plc_tn 7 r [c] rest (by simp) rfl hN
    · rw [takeN_no hc, plc_no r (by rw [stp_t, stT, if_neg n39, if_neg n46, if_neg hc])]
      rfl
theorem wdL_op : ∀ q ∈ opsW, wdL.lookup (cl q.1) = some ((if q.2 = 3 then [[116], [44], [32], [116], [44], [32], [116], [41]] else if q.2 = 2 then [[116], [44], [32], [116], [41]] else [[116], [41]]) : Row) ∧ (q.2 = 1 ∨ q.2 = 2 ∨ q.2 = 3) := by decide +kernel
theorem opl {w : Str} {m : Nat} (h : opsW.lookup w = some m) : (w, m) ∈ opsW := by
  have : ∀ (l : List (Str × Nat)), l.lookup w = some m → (w, m) ∈ l := by
    intro l
    induction l with
    | nil => intro h; cases h
    | cons q l ih =>
      intro h
      rw [List.lookup_cons] at h
      by_cases e : (w == q.1) = true
      · rw [e] at h
        obtain rfl := Option.some.inj h
        rw [beq_iff_eq.mp e]
        exact List.mem_cons_self
      · rw [Bool.eq_false_iff.mpr e] at h
        exact List.mem_cons_of_mem _ (ih h)
  exact this _ h
theorem wdL_no {w : Str} (h1 : w ≠ "fail") (h2 : w ≠ "bind") (h : opsW.lookup w = none) : wdL.lookup (cl w) = none := by
  have key : ∀ x ∈ wdL, cl w ≠ x.1 := by
    intro x hx e
    have : x.1 = cl "fail" ∨ x.1 = cl "bind" ∨ ∃ q ∈ opsW, x.1 = cl q.1 := (show ∀ x ∈ wdL, x.1 = cl "fail" ∨ x.1 = cl "bind" ∨ ∃ q ∈ opsW, x.1 = cl q.1 by decide +kernel) x hx
    rcases this with z | z | ⟨q, hq, z⟩
    · exact h1 (cl_inj (e.trans z))
    · exact h2 (cl_inj (e.trans z))
    · have hw : w = q.1 := cl_inj (e.trans z)
      rw [hw] at h
      have : ∀ q ∈ opsW, opsW.lookup q.1 ≠ none := by decide +kernel
      exact this q hq h
  have : ∀ (l : List (List Nat × Row)), (∀ x ∈ l, cl w ≠ x.1) → l.lookup (cl w) = none := by
    intro l
    induction l with
    | nil => intro _; rfl
    | cons q l ih =>
      intro h
      rw [List.lookup_cons, show (cl w == q.1) = false from by simpa using h q List.mem_cons_self]
      exact ih fun x hx => h x (List.mem_cons_of_mem _ hx)
  exact this _ key
end GB
set_option Elab.async false
set_option linter.all false
set_option autoImplicit false
set_option maxRecDepth 100000
set_option maxHeartbeats 4000000
namespace GB
open PySem PySem.Spec L2
def Aft {α : Type} (o : Rs α) (k : α → List Nat → Option Nat) : Option Nat := match o with
  | .ok a r => k a r
  | .bad r => some r.length
theorem aft_bind {α β : Type} (o : Rs α) (f : α → List Nat → Rs β) (k : β → List Nat → Option Nat) : Aft (o.bind f) k = Aft o fun a r => Aft (f a r) k := by
  cases o <;> rfl
theorem aft_eq {α : Type} {o : Rs α} {k k' : α → List Nat → Option Nat} (h : ∀ a r, o = .ok a r → k a r = k' a r) : Aft o k = Aft o k' := by
  cases o with
  | ok a r => exact h a r rfl
  | bad r => rfl
/-! ### what is left is an end of the text -/
theorem pNm_suf : ∀ (j : Nat) (r : List Nat), (pNm j r).2 <:+ r
  | 0, r => List.suffix_refl r
  | j + 1, [] => List.suffix_refl _
  | j + 1, c :: r => by
    rw [pNm]
    split
    · exact (pNm_suf j r).trans (List.suffix_cons c r)
    · exact List.suffix_refl _
theorem takeN_suf {r r' : List Nat} {n : Str} (h : takeN r = .ok n r') : r' <:+ r := by
  unfold takeN at h
  split at h
  · cases h
  · cases h; exact pNm_suf 8 r
theorem lit_suf : ∀ {W r r' : List Nat} {u : Unit}, lit W r = .ok u r' → r = W ++ r'
  | [], r, r', u, h => by cases h; rfl
  | w :: W, [], r', u, h => by cases h
  | w :: W, c :: r, r', u, h => by
    rw [lit] at h
    split at h
    · rename_i e
      rw [e, List.cons_append, ← lit_suf h]
    · cases h
theorem takeW_suf : ∀ {r a r' : List Nat} {n : Str}, takeW a r = .ok n r' → r' <:+ r
  | [], a, r', n, h => by
    rw [takeW] at h
    split at h
    · cases h; exact List.suffix_refl _
    · cases h
  | c :: r, a, r', n, h => by
    rw [takeW] at h
    split at h
    · cases h; exact List.suffix_refl _
    · split at h
      · exact (takeW_suf h).trans (List.suffix_cons c r)
      · cases h
theorem bind_ok {α β : Type} {o : Rs α} {f : α → List Nat → Rs β} {b : β} {r : List Nat} (h : o.bind f = .ok b r) : ∃ a r1, o = .ok a r1 ∧ f a r1 = .ok b r := by
  cases o with
  | ok a r1 => exact ⟨a, r1, rfl, h⟩
  | bad r1 => cases h
theorem behd_suf {w : Str} {r r' : List Nat} {b : Bg} (h : behd w r = .ok b r') : r' <:+ r := by
  unfold behd at h
  split at h
  · obtain ⟨n, r1, h1, h⟩ := bind_ok h
    obtain ⟨u, r2, h2, h⟩ := bind_ok h
    cases h
    exact List.IsSuffix.trans ⟨[41], (lit_suf h2).symm⟩ (takeN_suf h1)
  · split at h
    · obtain ⟨n, r1, h1, h⟩ := bind_ok h
      obtain ⟨u, r2, h2, h⟩ := bind_ok h
      cases h
      exact List.IsSuffix.trans ⟨[44, 32], (lit_suf h2).symm⟩ (takeN_suf h1)
    · split at h <;> (cases h; exact List.suffix_refl _)
def cnt (r : List Nat) : Nat := r.countP fun c => c == 40 || c == 44
theorem cnt_suf {r' r : List Nat} (h : r' <:+ r) : cnt r' ≤ cnt r := h.sublist.countP_le
theorem cnt_cons (c : Nat) (r : List Nat) : cnt (c :: r) = cnt r + if c = 40 ∨ c = 44 then 1 else 0 := by
  unfold cnt
  rw [List.countP_cons]
  congr 1
  by_cases h : c = 40 ∨ c = 44
  · rw [if_pos h, if_pos (by rcases h with h | h <;> simp [h])]
  · rw [if_neg h, if_neg (by
      intro z
      rw [Bool.or_eq_true, beq_iff_eq, beq_iff_eq] at z
      exact h z)]
theorem cnt_head {r : List Nat} {c : Nat} (h : r.head? = some c) (hc : c = 40 ∨ c = 44) : cnt r = cnt r.tail + 1 := by
  cases r with
  | nil => cases h
  | cons x r =>
    obtain rfl := Option.some.inj h
    rw [cnt_cons, if_pos hc]
    rfl
theorem tail_suf (r : List Nat) : r.tail <:+ r := List.tail_suffix r
theorem pBg_suf {r r' : List Nat} {b : Bg} (h : pBg r = .ok b r') : cnt r' + (match b with | .leaf _ _ => 0 | .opn _ _ _ _ => 1) ≤ cnt r := by
  unfold pBg at h
  split at h
  · obtain ⟨n, r1, h1, h⟩ := bind_ok h
    cases h
    exact cnt_suf ((takeN_suf h1).trans (tail_suf r))
  · split at h
    · obtain ⟨n, r1, h1, h⟩ := bind_ok h
      obtain ⟨u, r2, h2, h⟩ := bind_ok h
      cases h
      have a := cnt_suf ((takeW_suf h1).trans (tail_suf r))
      rw [lit_suf h2, List.singleton_append, cnt_cons, if_pos (.inl rfl)] at a
      exact a
    · obtain ⟨n, r1, h1, h⟩ := bind_ok h
      have a := cnt_suf (takeN_suf h1)
      split at h
      · rename_i h40
        rw [cnt_head h40 (.inl rfl)] at a
        have := cnt_suf (behd_suf h)
        cases b <;> simp only [] <;> omega
      · cases h
        exact a
/-- the numbers of terms that the package lets -/
theorem behd_shape {w : Str} {r r' : List Nat} {v n : Str} {few most : Nat} (h : behd w r = .ok (.opn v n few most) r') : (v = "use" ∧ few = 0 ∧ most = 2) ∨ (v = "bind" ∧ few = 2 ∧ most = 2) ∨ ((v, few) ∈ opsW ∧ n = "" ∧ most = few) := by
  unfold behd at h
  split at h
  · obtain ⟨n, r1, h1, h⟩ := bind_ok h
    obtain ⟨u, r2, h2, h⟩ := bind_ok h
    cases h
  · split at h
    · obtain ⟨n, r1, h1, h⟩ := bind_ok h
      obtain ⟨u, r2, h2, h⟩ := bind_ok h
      cases h
      exact .inr (.inl ⟨rfl, rfl, rfl⟩)
    · split at h
      · rename_i m hm
        cases h
        exact .inr (.inr ⟨opl hm, rfl, rfl⟩)
      · cases h
        exact .inl ⟨rfl, rfl, rfl⟩
theorem pBg_shape {r r' : List Nat} {v n : Str} {few most : Nat} (h : pBg r = .ok (.opn v n few most) r') : (v = "use" ∧ few = 0 ∧ most = 2) ∨ (v = "bind" ∧ few = 2 ∧ most = 2) ∨ ((v, few) ∈ opsW ∧ n = "" ∧ most = few) := by
  unfold pBg at h
  split at h
  · obtain ⟨n, r1, h1, h⟩ := bind_ok h
    cases h
  · split at h
    · obtain ⟨n, r1, h1, h⟩ := bind_ok h
      obtain ⟨u, r2, h2, h⟩ := bind_ok h
      cases h
      exact .inl ⟨rfl, rfl, rfl⟩
    · obtain ⟨n, r1, h1, h⟩ := bind_ok h
      split at h
      · exact behd_shape h
      · cases h
theorem pMore_suf {pt : List Nat → Rs Tm} (hp : ∀ {r t r'}, pt r = .ok t r' → cnt r' ≤ cnt r) {few most : Nat} : ∀ (j : Nat) {ts ts' : List Tm} {r r' : List Nat}, pMore pt few most j ts r = .ok ts' r' → cnt r' ≤ cnt r
  | 0, ts, ts', r, r', h => by
    rw [pMore] at h
    obtain ⟨u, r1, h1, h⟩ := bind_ok h
    cases h
    exact cnt_suf ⟨[41], (lit_suf h1).symm⟩
  | j + 1, ts, ts', r, r', h => by
    rw [pMore] at h
    split at h
    · obtain ⟨u, r1, h1, h⟩ := bind_ok h
      obtain ⟨t, r2, h2, h⟩ := bind_ok h
      exact Nat.le_trans (pMore_suf hp j h) (Nat.le_trans (hp h2) (cnt_suf ⟨[44, 32], (lit_suf h1).symm⟩))
    · obtain ⟨u, r1, h1, h⟩ := bind_ok h
      cases h
      exact cnt_suf ⟨[41], (lit_suf h1).symm⟩
theorem pOne_suf {pt : List Nat → Rs Tm} (hp : ∀ {r t r'}, pt r = .ok t r' → cnt r' ≤ cnt r) {few : Nat} {ts : List Tm} {r r' : List Nat} (h : pOne pt few r = .ok ts r') : cnt r' ≤ cnt r := by
  unfold pOne at h
  split at h
  · obtain ⟨t, r2, h2, h⟩ := bind_ok h
    cases h
    exact hp h2
  · cases h
    exact Nat.le_refl _
theorem pT_suf : ∀ (z : Nat) {r r' : List Nat} {t : Tm}, pT z r = .ok t r' → cnt r' ≤ cnt r
  | 0, r, r', t, h => by cases h
  | z + 1, r, r', t, h => by
    rw [pT] at h
    obtain ⟨b, r1, h1, h⟩ := bind_ok h
    have a := pBg_suf h1
    cases b with
    | leaf w n => cases h; exact a
    | opn w n few most =>
      obtain ⟨ts, r2, h2, h⟩ := bind_ok h
      obtain ⟨ts', r3, h3, h⟩ := bind_ok h
      cases h
      have b := pOne_suf (pT_suf z) h2
      have c := pMore_suf (pT_suf z) _ h3
      simp only [] at a
      omega
/-! ### the walk and the taker agree -/
def remR : Nat → Row
  | 0 => [[41]]
  | k + 1 => [44] :: [32] :: [116] :: remR k
def argR : Nat → Row
  | 0 => [[97], [41]]
  | k + 1 => [116] :: remR k
theorem nx_rem (k : Nat) (rest : Row) : Nx (remR k ++ rest) := by
  cases k with
  | zero => exact .inr ⟨[41], rest, rfl, .inl rfl⟩
  | succ k => exact .inr ⟨[44], _, rfl, .inr (.inl rfl)⟩
def sgq {x : Nat} (h : Sg x) : Prop := True
theorem sg41 : ∀ x ∈ [41], Sg x := fun x h => by rw [List.mem_singleton.mp h]; exact .inr (.inl rfl)
theorem sg40 : ∀ x ∈ [40], Sg x := fun x h => by rw [List.mem_singleton.mp h]; exact .inl rfl
theorem sg44 : ∀ x ∈ [44, 32], Sg x := fun x h => by
  rcases List.mem_cons.mp h with rfl | h
  · exact .inr (.inr (.inl rfl))
  · rw [List.mem_singleton.mp h]; exact .inr (.inr (.inr rfl))
theorem sg32 : ∀ x ∈ [32], Sg x := fun x h => by rw [List.mem_singleton.mp h]; exact .inr (.inr (.inr rfl))
theorem plc_litA (W : List Nat) (rest : Row) (r : List Nat) (h : ∀ x ∈ W, Sg x) : plc [rowOf W ++ rest] r = Aft (lit W r) fun _ r' => plc [rest] r' := (plc_lit W rest r h).trans (by cases lit W r <;> rfl)
theorem plc_nA (rest : Row) (r : List Nat) (hN : Nx rest) : plc [[110] :: rest] r = Aft (takeN r) fun _ r' => plc [rest] r' := (plc_n rest r hN).trans (by cases takeN r <;> rfl)
def kB (rest : Row) (b : Bg) (r : List Nat) : Option Nat := match b with
  | .leaf _ _ => plc [rest] r
  | .opn _ _ few _ => plc [argR few ++ rest] r
theorem rowW_fail : rowW "fail" = [[110], [41]] := by decide +kernel
theorem rowW_bind : rowW "bind" = [110] :: [44] :: [32] :: argR 2 := by decide +kernel
theorem rowW_op {w : Str} {m : Nat} (h : opsW.lookup w = some m) : rowW w = argR m := by
  obtain ⟨h1, h2⟩ := wdL_op _ (opl h)
  unfold rowW
  rw [h1]
  rcases h2 with e | e | e <;> (simp only [] at e; subst e; rfl)
theorem plc_behd (rest : Row) (hN : Nx rest) (w : Str) (r : List Nat) : plc [rowW w ++ rest] r = Aft (behd w r) (kB rest) := by
  unfold behd
  split
  · rename_i e
    subst e
    rw [rowW_fail, aft_bind]
    show plc [[110] :: ([41] :: rest)] r = _
    rw [plc_nA _ _ (.inr ⟨[41], rest, rfl, .inl rfl⟩)]
    refine aft_eq fun n r1 _ => ?_
    rw [aft_bind]
    exact plc_litA [41] rest r1 sg41
  · split
    · rename_i e
      subst e
      rw [rowW_bind, aft_bind]
      show plc [[110] :: ([44] :: [32] :: (argR 2 ++ rest))] r = _
      rw [plc_nA _ _ (.inr ⟨[44], _, rfl, .inr (.inl rfl)⟩)]
      refine aft_eq fun n r1 _ => ?_
      rw [aft_bind]
      exact plc_litA [44, 32] (argR 2 ++ rest) r1 sg44
    · rename_i h1 h2
      split
      · rename_i m hm
        rw [rowW_op hm]
        rfl
      · rename_i hm
        unfold rowW
        rw [wdL_no h1 h2 hm]
        rfl
theorem head_tail {r : List Nat} {c : Nat} (h : r.head? = some c) : r = c :: r.tail := by
  cases r with
  | nil => cases h
  | cons x r => rw [Option.some.inj h]; rfl
theorem plc_bg (rest : Row) (hN : Nx rest) (r : List Nat) : plc [[116] :: rest] r = Aft (pBg r) (kB rest) := by
  unfold pBg
  split
  · rename_i h
    rw [head_tail h, aft_bind]
    refine (plc_39 rest r.tail hN).trans ?_
    rw [List.tail_cons]
    cases takeN r.tail <;> rfl
  · split
    · rename_i h1 h
      rw [head_tail h, aft_bind, List.tail_cons]
      have e := plc_46 rest r.tail
      have e2 : plc [[116] :: rest] (46 :: r.tail) = Aft (takeW [] r.tail) fun _ r' => plc [[40] :: [97] :: [41] :: rest] r' := e.trans (by cases takeW [] r.tail <;> rfl)
      rw [e2]
      refine aft_eq fun n r1 _ => ?_
      rw [aft_bind]
      exact plc_litA [40] ([97] :: [41] :: rest) r1 sg40
    · rename_i h1 h2
      have e : plc [[116] :: rest] r = Aft (takeN r) fun n r' => if r'.head? = some 40 then plc [rowW n ++ rest] r'.tail else plc [rest] r' := (plc_tname rest hN h1 h2).trans (by cases takeN r <;> rfl)
      rw [e, aft_bind]
      refine aft_eq fun n r1 _ => ?_
      split
      · exact plc_behd rest hN n r1.tail
      · rfl
def Agr (pt : List Nat → Rs Tm) (z : Nat) : Prop := ∀ (rest : Row) (r : List Nat), Nx rest → cnt r < z → plc [[116] :: rest] r = Aft (pt r) fun _ r' => plc [rest] r'
theorem plc_more {pt : List Nat → Rs Tm} {z : Nat} (ih : Agr pt z) (hp : ∀ {r t r'}, pt r = .ok t r' → cnt r' ≤ cnt r) {m : Nat} (rest : Row) : ∀ (k j : Nat) (ts : List Tm) (r : List Nat), ts.length + k = m → k ≤ j → cnt r < z →
    plc [remR k ++ rest] r = Aft (pMore pt m m j ts r) fun _ r' => plc [rest] r'
  | 0, j, ts, r, hm, hj, hc => by
    have e : pMore pt m m j ts r = (lit [41] r).bind fun _ r => .ok ts r := by
      cases j with
      | zero => rfl
      | succ j => rw [pMore, if_neg (by rintro (h | ⟨h, _⟩) <;> omega)]
    rw [e, aft_bind]
    exact plc_litA [41] rest r sg41
  | k + 1, 0, ts, r, hm, hj, hc => by omega
  | k + 1, j + 1, ts, r, hm, hj, hc => by
    rw [pMore, if_pos (.inl (by omega)), aft_bind]
    show plc [[44] :: [32] :: ([116] :: (remR k ++ rest))] r = _
    have e := plc_litA [44, 32] ([116] :: (remR k ++ rest)) r sg44
    refine Eq.trans e (aft_eq fun u r1 h1 => ?_)
    have c1 : cnt r1 ≤ cnt r := cnt_suf ⟨[44, 32], (lit_suf h1).symm⟩
    rw [aft_bind, ih _ _ (nx_rem k rest) (by omega)]
    refine aft_eq fun t r2 h2 => ?_
    have c2 := hp h2
    exact plc_more ih hp rest k j (ts ++ [t]) r2 (by rw [List.length_append, List.length_singleton]; omega) (by omega) (by omega)
theorem plc_use {pt : List Nat → Rs Tm} {z : Nat} (ih : Agr pt z) (hp : ∀ {r t r'}, pt r = .ok t r' → cnt r' ≤ cnt r) (rest : Row) (r : List Nat) (hc : cnt r < z) :
    plc [[97] :: [41] :: rest] r = Aft (pOne pt 0 r) fun ts r => Aft (pMore pt 0 2 (3 - ts.length) ts r) fun _ r' => plc [rest] r' := by
  unfold pOne
  by_cases h41 : r.head? = some 41
  · rw [if_neg (by rintro (h | h); exact absurd h (by decide); exact h h41)]
    rw [head_tail h41]
    show plc [[97] :: [41] :: rest] (41 :: r.tail) = Aft (pMore pt 0 2 (3 - ([] : List Tm).length) [] (41 :: r.tail)) fun _ r' => plc [rest] r'
    rw [show 3 - ([] : List Tm).length = 2 + 1 from rfl]
    rw [pMore, if_neg (by rintro (h | ⟨_, h⟩); exact absurd h (by decide); exact absurd h (by simp))]
    rw [aft_bind]
    exact plc_go r.tail (by rw [stp_a, stp_sign (by decide) (by decide) (by decide) (by decide), if_pos rfl]; rfl)
  · rw [if_pos (.inr h41), aft_bind]
    have e : plc [[97] :: [41] :: rest] r = plc [[116] :: [109] :: [41] :: rest] r := by
      cases r with
      | nil => rw [plc_end acc_sign, plc_end acc_sign]
      | cons c r =>
        refine plc_eq r ?_
        rw [stp_a, stp_t, stp_sign (by decide) (by decide) (by decide) (by decide), if_neg (fun e => h41 (by rw [e]; rfl))]
        rfl
    rw [e, ih _ _ (.inr ⟨[109], _, rfl, .inr (.inr ⟨rfl, _, rfl⟩)⟩) hc]
    refine aft_eq fun t r2 h2 => ?_
    have c2 := hp h2
    show _ = Aft (pMore pt 0 2 2 [t] r2) _
    by_cases h44 : r2.head? = some 44
    · rw [pMore, if_pos (.inr ⟨by simp, h44⟩)]
      rw [head_tail h44]
      rw [plc_go r2.tail (by rw [stp_m, stp_sign (by decide) (by decide) (by decide) (by decide), if_neg (by decide), if_pos rfl]; rfl), aft_bind]
      rw [show lit [44, 32] (44 :: r2.tail) = lit [32] r2.tail from by rw [lit, if_pos rfl]]
      refine Eq.trans (plc_litA [32] ([116] :: [41] :: rest) r2.tail sg32) (aft_eq fun u r3 h3 => ?_)
      have c3 : cnt r3 ≤ cnt r2 := Nat.le_trans (cnt_suf ⟨[32], (lit_suf h3).symm⟩) (cnt_suf (tail_suf r2))
      rw [aft_bind, ih _ _ (.inr ⟨[41], _, rfl, .inl rfl⟩) (by omega)]
      refine aft_eq fun t4 r4 h4 => ?_
      show _ = Aft (pMore pt 0 2 1 [t, t4] r4) _
      rw [pMore, if_neg (by rintro (h | ⟨h, _⟩) <;> exact absurd h (by simp)), aft_bind]
      exact plc_litA [41] rest r4 sg41
    · rw [pMore, if_neg (by rintro (h | ⟨_, h⟩); exact absurd h (by simp); exact h44 h), aft_bind]
      have e : plc [[109] :: [41] :: rest] r2 = plc [[41] :: rest] r2 := by
        cases r2 with
        | nil => rw [plc_end acc_sign, plc_end acc_sign]
        | cons c r =>
          refine plc_eq r ?_
          rw [stp_m, if_neg (fun e => h44 (by rw [e]; rfl)), List.append_nil]
      rw [e]
      exact plc_litA [41] rest r2 sg41
theorem agr : ∀ z : Nat, Agr (pT z) z
  | 0 => fun rest r _ h => absurd h (Nat.not_lt_zero _)
  | z + 1 => fun rest r hN hc => by
    have ih := agr z
    rw [plc_bg rest hN, pT, aft_bind]
    refine aft_eq fun b r1 h1 => ?_
    have c1 := pBg_suf h1
    cases b with
    | leaf w n => rfl
    | opn w n few most =>
      simp only [] at c1
      show plc [argR few ++ rest] r1 = Aft ((pOne (pT z) few r1).bind _) _
      have sh := pBg_shape h1
      have use : few = 0 → most = 2 → plc [argR few ++ rest] r1 = Aft ((pOne (pT z) few r1).bind fun ts r => (pMore (pT z) few most (3 - ts.length) ts r).bind fun ts r => Rs.ok (Tm.mk w n ts) r) fun _ r' => plc [rest] r' := fun e1 e2 => by
        subst e1; subst e2
        rw [aft_bind]
        refine Eq.trans (plc_use ih (pT_suf z) rest r1 (by omega)) (aft_eq fun ts r2 _ => ?_)
        rw [aft_bind]
        rfl
      have row : most = few → 1 ≤ few → few ≤ 3 → plc [argR few ++ rest] r1 = Aft ((pOne (pT z) few r1).bind fun ts r => (pMore (pT z) few most (3 - ts.length) ts r).bind fun ts r => Rs.ok (Tm.mk w n ts) r) fun _ r' => plc [rest] r' := fun e1 e2 e3 => by
        subst e1
        obtain ⟨k, rfl⟩ : ∃ k, most = k + 1 := ⟨most - 1, by omega⟩
        rw [aft_bind, pOne, if_pos (.inl (by omega)), aft_bind]
        show plc [[116] :: (remR k ++ rest)] r1 = _
        rw [ih _ _ (nx_rem k rest) (by omega)]
        refine aft_eq fun t r2 h2 => ?_
        have c2 := pT_suf z h2
        show _ = Aft (Rs.bind _ _) _
        rw [aft_bind]
        exact plc_more ih (pT_suf z) rest k 2 [t] r2 (by simp; omega) (by omega) (by omega)
      rcases sh with ⟨_, e1, e2⟩ | ⟨_, e1, e2⟩ | ⟨e0, _, e2⟩
      · exact use e1 e2
      · exact row (by omega) (by omega) (by omega)
      · have := (wdL_op _ e0).2
        simp only [] at this
        exact row (by omega) (by omega) (by omega)
/-- the place that a taker of the whole text tells -/
def whoP (o : Rs Tm) : Option Nat := match o with
  | .ok _ [] => none
  | .ok _ (c :: r) => some (r.length + 1)
  | .bad r => some r.length
theorem plc_who {z : Nat} {T : List Nat} (h : cnt T < z) : plc [[[116]]] T = whoP (pT z T) := by
  rw [agr z [] T (.inl rfl) h]
  cases pT z T with
  | ok t r =>
    cases r with
    | nil => rfl
    | cons c r => exact plc_no r rfl
  | bad r => rfl
end GB
set_option Elab.async false
set_option linter.all false
set_option maxRecDepth 100000
set_option maxHeartbeats 4000000
/-! x in o, x not in o: o of a class with its own def __contains__ that gives True or False. -/
namespace GB
open PySem PySem.Spec L2 PyProof.Rows
def rInOwn (C : Addr) (sp : Sp) (n : Bool) : R2 := fun x y H Q => ∃ a dx fs, y = .ref a ∧ H a = some (.ins C dx fs) ∧ sp [y, x] H (fun z H' => ∃ b, z = .bl b ∧ Q (.bl (n != b)) H') E0
section
variable {X : Cx} {CX : CXT} {k : Nat} {f C : Addr} {fd : FuncData} {ps : List Str} {sp : Sp}
theorem op_inOwn (hs : PySem.W.findIn X.K (.ref C) "__contains__" = some (some (.ref f))) (hf : PySem.W.isFn X.K (.ref f) = true) (F : FnOk X.prog X.w X.K X.mg X.base CX0 k f fd ps sp) (hr : Room k X.A) (hb : Binds X.K fd ps []) : OpR X (compareOp .In) (rInOwn C sp false) := by
  intro pins s σ H x y v u Q I rx ry h
  obtain ⟨a, dx, fs, rfl, ha, q⟩ := h
  cases (show u = Value.ref a from ry)
  obtain ⟨mA, O, _, _, _, _⟩ := ins_get I.hok ha
  obtain ⟨od, J, _⟩ := O.look
  obtain ⟨m, hF⟩ := I.fr
  refine PySem.W.in_K hF I.ok.mod.kin J hs hf ?_
  refine wpAny_mono (run_fn (us := [.ref a, v]) (vs := [.ref a, x]) F hr hb .nil pass0 I (.cons rfl (.cons rx .nil)) q) (fun w s' z => ?_) fun _ _ x => x
  obtain ⟨z', H', I', rz, b, eb, qz⟩ := z
  subst eb
  cases (show w = Value.bool b from rz)
  exact wpAny_truthy_bool ⟨.bl b, H', I', rfl, by simpa using qz⟩
theorem op_ninOwn (hs : PySem.W.findIn X.K (.ref C) "__contains__" = some (some (.ref f))) (hf : PySem.W.isFn X.K (.ref f) = true) (F : FnOk X.prog X.w X.K X.mg X.base CX0 k f fd ps sp) (hr : Room k X.A) (hb : Binds X.K fd ps []) : OpR X (compareOp .NotIn) (rInOwn C sp true) := by
  intro pins s σ H x y v u Q I rx ry h
  obtain ⟨a, dx, fs, rfl, ha, q⟩ := h
  cases (show u = Value.ref a from ry)
  obtain ⟨mA, O, _, _, _, _⟩ := ins_get I.hok ha
  obtain ⟨od, J, _⟩ := O.look
  obtain ⟨m, hF⟩ := I.fr
  refine PySem.W.notIn_K hF I.ok.mod.kin J hs hf ?_
  refine wpAny_mono (run_fn (us := [.ref a, v]) (vs := [.ref a, x]) F hr hb .nil pass0 I (.cons rfl (.cons rx .nil)) q) (fun w s' z => ?_) fun _ _ x => x
  obtain ⟨z', H', I', rz, b, eb, qz⟩ := z
  subst eb
  cases (show w = Value.bool b from rz)
  exact wpAny_truthy_bool ⟨.bl (!b), H', I', rfl, by simpa using qz⟩
end
end GB
set_option Elab.async false
set_option linter.all false
set_option maxRecDepth 100000
set_option maxHeartbeats 4000000
/-! Readings for nodes that are lists or tuples. -/
namespace GB
open PySem PySem.Spec L2
def nmd : List Str := ["value", "name", "fail"]
section
variable {K : PySem.W.Frag} {H : Hp} {Q : VK} {p : Addr} {xs : List V} {w n : Str} {vs : List V}
theorem ixA (h : SqA K H p xs) {v : V} (i : Nat) (e : xs[i]? = some v) (q : Q v H) : rIx K (.ref p) (.int (i : Int)) H Q := by
  rcases h with h | h
  · exact .inl ⟨p, xs, _, v, rfl, rfl, h, atI_nat e, q⟩
  · exact .inr (.inl ⟨p, xs, _, v, rfl, rfl, h, atI_nat e, q⟩)
/-- xs[k:] of a list or a tuple -/
def rSlAny (K : PySem.W.Frag) : V → Option Int → Option Int → Hp → VK → Prop := fun x lo hi H Q => rSlL K x lo hi H Q ∨ rSlA K x lo hi H Q
theorem sl_any {X : Cx} : SlR X (rSlAny X.K) := by
  intro pins s σ H x v vl vu lo hi sl Q I rx hs pl pu h
  rcases h with h | h
  · exact sl_list pins s σ H x v vl vu lo hi sl Q I rx hs pl pu h
  · exact sl_tupA pins s σ H x v vl vu lo hi sl Q I rx hs pl pu h
theorem slA (h : SqA K H p xs) (k : Nat) (q : ∀ b H', Same H H' → SqA K H' b (xs.drop k) → Q (.ref b) H') : rSlAny K (.ref p) (some (k : Int)) none H Q := by
  rcases h with h | h
  · refine .inl ⟨p, xs, rfl, h, fun a na => ?_⟩
    obtain ⟨H1, s1, h1, e1⟩ := lay (o := .lst (cutV xs (some (k : Int)) none)) na
    rw [e1]
    exact q a H1 s1 (by rw [← cut_from]; exact .inl (SqL.of h1))
  · refine .inr ⟨p, xs, rfl, h, fun hw => ?_, fun _ a na => ?_⟩
    · have h0 := hw.1
      rw [HT.sIx_nat] at h0
      have e : xs.drop k = xs := by
        by_cases hk : k = 0
        · rw [hk, List.drop_zero]
        · have : xs.length = 0 := by omega
          rw [List.eq_nil_of_length_eq_zero this, List.drop_nil]
      exact q p H (Same.refl _) (by rw [e]; exact .inr h)
    · obtain ⟨H1, s1, h1, e1⟩ := lay (o := .tup (cutV xs (some (k : Int)) none)) na
      rw [e1]
      exact q a H1 s1 (by rw [← cut_from]; exact .inr (SqT.of h1))
theorem same_hid0 {H : Hp} : Same H (hid [] H) := fun b o e => hid_to (by simp) e
theorem same_hid_new {H H' : Hp} {L : Addr} (n : H L = none) (s : Same H H') : Same H (hid [L] H') := fun b o e => hid_to (by
  intro m
  rw [List.mem_singleton.mp m, n] at e
  cases e) (s _ _ e)
theorem sqV {H : Hp} {a : Addr} {xs : List V} (h : SqA K H a xs) : ∃ b, SqV K H a xs b := h.elim (fun h => ⟨true, h⟩) (fun h => ⟨false, h⟩)
/-- of new objects, with some places hidden -/
theorem slH {ps : List Addr} (hp : ∀ q ∈ ps, ∃ o, H q = some o) (h : SqA K (hid ps H) p xs) (k : Nat) (q : ∀ b H', Same H H' → SqA K (hid ps H') b (xs.drop k) → Q (.ref b) H') : rSlAny K (.ref p) (some (k : Int)) none H Q := by
  have ni : ∀ {a : Addr}, H a = none → a ∉ ps := fun n m => by
    obtain ⟨o, e⟩ := hp _ m
    rw [n] at e
    cases e
  rcases h with h | h
  · refine .inl ⟨p, xs, rfl, (hid_low ps H).seq h, fun a na => ?_⟩
    obtain ⟨H1, s1, h1, e1⟩ := lay (o := .lst (cutV xs (some (k : Int)) none)) na
    rw [e1]
    exact q a H1 s1 (by rw [← cut_from]; exact .inl (SqL.of (hid_to (ni na) h1)))
  · refine .inr ⟨p, xs, rfl, Same.seqT (hid_low ps H) h, fun hw => ?_, fun _ a na => ?_⟩
    · have h0 := hw.1
      rw [HT.sIx_nat] at h0
      have e : xs.drop k = xs := by
        by_cases hk : k = 0
        · rw [hk, List.drop_zero]
        · have : xs.length = 0 := by omega
          rw [List.eq_nil_of_length_eq_zero this, List.drop_nil]
      exact q p H (Same.refl _) (by rw [e]; exact .inr h)
    · obtain ⟨H1, s1, h1, e1⟩ := lay (o := .tup (cutV xs (some (k : Int)) none)) na
      rw [e1]
      exact q a H1 s1 (by rw [← cut_from]; exact .inr (SqT.of (hid_to (ni na) h1)))
theorem NodeV.kind (h : NodeV K H p w n vs) : (w ∈ nmd ∧ vs = [] ∧ SqA K H p [.str w, .str n]) ∨ (w = "use" ∧ ∃ q, SqA K H p [.str w, .str n, .ref q] ∧ SqA K H q vs) ∨ (w = "bind" ∧ SqA K H p (.str w :: .str n :: vs)) ∨ ((∃ m, (w, m) ∈ opsW) ∧ n = "" ∧ SqA K H p (.str w :: vs)) := by
  cases h with
  | val h => exact .inl ⟨by decide, rfl, h⟩
  | fail h => exact .inl ⟨by decide, rfl, h⟩
  | name h => exact .inl ⟨by decide, rfl, h⟩
  | use h h2 => exact .inr (.inl ⟨rfl, _, h, h2⟩)
  | bind h => exact .inr (.inr (.inl ⟨rfl, h⟩))
  | op ho h => exact .inr (.inr (.inr ⟨⟨_, ho⟩, rfl, h⟩))
theorem ops_no : ∀ q ∈ opsW, q.1 ∉ nmd ∧ q.1 ≠ "use" ∧ q.1 ≠ "bind" := by decide
theorem decS (a b : Str) : decide (V.str a = V.str b) = decide (a = b) := by
  by_cases h : a = b
  · subst h; simp
  · rw [decide_eq_false h, decide_eq_false fun e => h (V.str.inj e)]
theorem decI (a b : Int) : decide (V.int a = V.int b) = decide (a = b) := by
  by_cases h : a = b
  · subst h; simp
  · rw [decide_eq_false h, decide_eq_false fun e => h (V.int.inj e)]
theorem tyS {a : Addr} {xs : List V} (h : SqA K H a xs) : ∃ t, (t = "list" ∨ t = "tuple") ∧ ∀ H', Same H H' → TyX K H' (.ref a) (.type t) := by
  rcases h with h | h
  · rcases h with (h | ⟨o, h⟩) | ⟨o, its, m, h, hc, _⟩
    · exact ⟨_, .inl rfl, fun H' s => .base (.lst (s _ _ h))⟩
    · exact ⟨_, .inl rfl, fun H' s => .base (.frz (s _ _ h))⟩
    · exact ⟨_, .inl rfl, fun H' s => .kList h hc⟩
  · rcases h with (h | ⟨o, h⟩) | ⟨o, its, m, h, hc, _⟩
    · exact ⟨_, .inr rfl, fun H' s => .base (.tup (s _ _ h))⟩
    · exact ⟨_, .inr rfl, fun H' s => .fTuple (s _ _ h)⟩
    · exact ⟨_, .inr rfl, fun H' s => .kTuple h hc⟩
theorem kit_seq {K : PySem.W.Frag} {t : String} (h : t = "list" ∨ t = "tuple") : PySem.W.kitAny K (.type t) [.type "list", .type "tuple"] = some true := by
  rcases h with rfl | rfl
  · exact kitAny_cons (b := true) (kit_ty (by decide +kernel)) (fun h => nomatch h) (fun _ => rfl)
  · exact kitAny_cons (b := false) (kit_ty (by decide +kernel)) (fun _ => kitAny_cons (b := true) (kit_ty (by decide +kernel)) (fun h => nomatch h) (fun _ => rfl)) (fun h => nomatch h)
/-- a node of this head over these terms' data, of tuples throughout -/
def nodeT (w n : Str) (ds : List PyData) : PyData := if w = "use" then .tuple [.str w, .str n, .tuple ds] else if w = "bind" then .tuple (.str w :: .str n :: ds) else if w ∈ opsW.map (·.1) then .tuple (.str w :: ds) else .tuple [.str w, .str n]
theorem d_node (w n : Str) (ks : List Tm) : (Tm.mk w n ks).d = nodeT w n (ks.map Tm.d) := by rw [Tm.d, ds_map]; rfl
end
end GB
set_option Elab.async false
set_option linter.all false
set_option autoImplicit false
set_option maxRecDepth 100000
set_option maxHeartbeats 4000000
namespace GB
open PySem PySem.Spec L2
/-- a head of what a text tells, whatever the ground -/
inductive RawH : Str → Str → Nat → Prop
  | leaf {w n} : w ∈ nmd → nameB n = true → RawH w n 0
  | use {n m} : nameB n = true → m ≤ 2 → RawH "use" n m
  | bind {n} : nameB n = true → RawH "bind" n 2
  | op {w m} : (w, m) ∈ opsW → RawH w "" m
inductive Raw : Tm → Prop
  | mk {w n : Str} {ks : List Tm} : RawH w n ks.length → (∀ k ∈ ks, Raw k) → Raw (.mk w n ks)
theorem pNm_eq : ∀ (j : Nat) (r : List Nat), (pNm j r).1 ++ (pNm j r).2 = r ∧ (∀ c ∈ (pNm j r).1, ltr c) ∧ (pNm j r).1.length ≤ j
  | 0, r => ⟨rfl, (fun c h => nomatch h), Nat.le_refl _⟩
  | j + 1, [] => ⟨rfl, (fun c h => nomatch h), Nat.zero_le _⟩
  | j + 1, c :: r => by
    rw [pNm]
    split
    · rename_i hc
      obtain ⟨h1, h2, h3⟩ := pNm_eq j r
      refine ⟨by rw [List.cons_append, h1], fun d hd => ?_, by rw [List.length_cons]; omega⟩
      rcases List.mem_cons.mp hd with rfl | hd
      · exact ltB_iff.mp hc
      · exact h2 d hd
    · exact ⟨rfl, (fun c h => nomatch h), Nat.zero_le _⟩
theorem nameB_mk {l : List Nat} (h : ∀ c ∈ l, ltr c) (h1 : 1 ≤ l.length) (h8 : l.length ≤ 8) : nameB (mkS l) = true := by
  unfold nameB
  refine Bool.and_eq_true_iff.mpr ⟨decide_eq_true ?_, List.all_eq_true.mpr fun c hc => signB_iff.mpr (h c hc)⟩
  have : (mkS l).length = l.length := rfl
  omega
theorem takeN_eq {r r' : List Nat} {n : Str} (h : takeN r = .ok n r') : r = cl n ++ r' ∧ nameB n = true := by
  unfold takeN at h
  obtain ⟨h1, h2, h3⟩ := pNm_eq 8 r
  split at h
  · cases h
  · rename_i hne
    cases h
    refine ⟨h1.symm, nameB_mk h2 ?_ h3⟩
    cases hp : (pNm 8 r).1 with
    | nil => exact absurd hp hne
    | cons a b => simp
theorem takeW_eq : ∀ {r a r' : List Nat} {n : Str}, takeW a r = .ok n r' → a ++ r = cl n ++ r' ∧ n ∈ wdsW := by
  have isw : ∀ {a : List Nat}, isWd a = true → mkS a ∈ wdsW := fun {a} h => by
    obtain ⟨w, hw, e⟩ := List.any_eq_true.mp h
    rw [show mkS a = w from cl_inj (beq_iff_eq.mp e).symm]
    exact hw
  intro r
  induction r with
  | nil =>
    intro a r' n h
    rw [takeW] at h
    split at h
    · rename_i hw
      cases h
      exact ⟨rfl, isw hw⟩
    · cases h
  | cons c r ih =>
    intro a r' n h
    rw [takeW] at h
    split at h
    · rename_i hw
      cases h
      exact ⟨rfl, isw hw⟩
    · split at h
      · obtain ⟨h1, h2⟩ := ih h
        exact ⟨by rw [← h1, List.append_assoc]; rfl, h2⟩
      · cases h
def BgOk (r r' : List Nat) : Bg → Prop
  | .leaf w n => r = txL (.mk w n []) ++ r' ∧ w ∈ nmd ∧ nameB n = true
  | .opn w n few most => (∀ ks : List Tm, (w = "bind" → ks ≠ []) → txL (.mk w n ks) ++ [] = txL (.mk w n ks)) ∧ ∃ pre, r = pre ++ r' ∧ (∀ ks : List Tm, (w = "bind" → ks ≠ []) → txL (.mk w n ks) = pre ++ (txA ks ++ [41])) ∧ ∀ m, few ≤ m → m ≤ most → RawH w n m
theorem opsW_heads : ∀ q ∈ opsW, q.1 ≠ "value" ∧ q.1 ≠ "name" ∧ q.1 ≠ "fail" ∧ q.1 ≠ "use" ∧ q.1 ≠ "bind" := by decide +kernel
theorem not_wd {w : Str} (h1 : w ≠ "fail") (h2 : w ≠ "bind") (h : opsW.lookup w = none) : w ∉ wdsW := by
  have : ∀ x ∈ wdsW, x = "fail" ∨ x = "bind" ∨ opsW.lookup x ≠ none := by decide +kernel
  intro hw
  rcases this w hw with e | e | e
  · exact h1 e
  · exact h2 e
  · exact e h
theorem behd_eq {w : Str} {r r' : List Nat} {b : Bg} (hw : nameB w = true) (h : behd w r = .ok b r') : BgOk (cl w ++ 40 :: r) r' b := by
  unfold behd at h
  split at h
  · rename_i e
    obtain ⟨n, r1, h1, h⟩ := bind_ok h
    obtain ⟨u, r2, h2, h⟩ := bind_ok h
    cases h
    obtain ⟨e1, nb⟩ := takeN_eq h1
    refine ⟨?_, by decide, nb⟩
    rw [txL, if_neg (by decide), if_neg (by decide), if_pos rfl, e, e1, lit_suf h2]
    simp
  · split at h
    · rename_i e
      obtain ⟨n, r1, h1, h⟩ := bind_ok h
      obtain ⟨u, r2, h2, h⟩ := bind_ok h
      cases h
      obtain ⟨e1, nb⟩ := takeN_eq h1
      refine ⟨fun ks _ => List.append_nil _, cl "bind" ++ 40 :: (cl n ++ [44, 32]), ?_, fun ks hk => ?_, fun m h1 h2 => ?_⟩
      · rw [e, e1, lit_suf h2]
        simp
      · rw [txL, if_neg (by decide), if_neg (by decide), if_neg (by decide), if_neg (by decide), if_pos rfl]
        cases ks with
        | nil => exact absurd rfl (hk rfl)
        | cons k ks => rw [txR, txA]; simp
      · rw [show m = 2 by omega]; exact .bind nb
    · rename_i n1 n2
      split at h
      · rename_i m hm
        cases h
        have ho := opl hm
        obtain ⟨a1, a2, a3, a4, a5⟩ := opsW_heads _ ho
        refine ⟨fun ks _ => List.append_nil _, cl w ++ [40], by simp, fun ks _ => ?_, fun k h1 h2 => ?_⟩
        · rw [txL, if_neg a1, if_neg a2, if_neg a3, if_neg a4, if_neg a5]
          simp
        · rw [show k = m by omega]; exact .op ho
      · rename_i hm
        cases h
        refine ⟨fun ks _ => List.append_nil _, cl w ++ [40], by simp, fun ks _ => ?_, fun k h1 h2 => .use hw h2⟩
        rw [txL, if_neg (by decide), if_neg (by decide), if_neg (by decide), if_pos rfl, if_neg (not_wd n1 n2 hm)]
        simp
theorem pBg_eq {r r' : List Nat} {b : Bg} (h : pBg r = .ok b r') : BgOk r r' b := by
  unfold pBg at h
  split at h
  · rename_i h39
    obtain ⟨n, r1, h1, h⟩ := bind_ok h
    cases h
    obtain ⟨e1, nb⟩ := takeN_eq h1
    refine ⟨?_, by decide, nb⟩
    rw [head_tail h39, e1, txL, if_pos rfl]
    rfl
  · split at h
    · rename_i h46
      obtain ⟨n, r1, h1, h⟩ := bind_ok h
      obtain ⟨u, r2, h2, h⟩ := bind_ok h
      cases h
      obtain ⟨e1, hw⟩ := takeW_eq h1
      rw [List.nil_append] at e1
      refine ⟨fun ks _ => List.append_nil _, 46 :: (cl n ++ [40]), ?_, fun ks _ => ?_, fun k h1 h2 => .use ((show ∀ x ∈ wdsW, nameB x = true by decide +kernel) _ hw) h2⟩
      · rw [head_tail h46, e1, lit_suf h2]
        simp
      · rw [txL, if_neg (by decide), if_neg (by decide), if_neg (by decide), if_pos rfl, if_pos hw]
        simp
    · obtain ⟨n, r1, h1, h⟩ := bind_ok h
      obtain ⟨e1, nb⟩ := takeN_eq h1
      split at h
      · rename_i h40
        rw [e1, head_tail h40]
        exact behd_eq nb h
      · cases h
        refine ⟨?_, by decide, nb⟩
        rw [e1, txL, if_neg (by decide), if_pos rfl]
def PtOk (pt : List Nat → Rs Tm) : Prop := ∀ r t r', pt r = .ok t r' → Raw t ∧ r = txL t ++ r' ∧ t.size + cnt r' ≤ cnt r + 1
theorem sizes_app28 : ∀ (a b : List Tm), Tm.sizes (a ++ b) = Tm.sizes a + Tm.sizes b
  | [], b => by rw [List.nil_append, Tm.sizes]; omega
  | k :: a, b => by rw [List.cons_append, Tm.sizes, Tm.sizes, sizes_app28 a b]; omega
theorem txR_app : ∀ (a b : List Tm), txR (a ++ b) = txR a ++ txR b
  | [], b => by rw [List.nil_append, txR]; rfl
  | k :: a, b => by rw [List.cons_append, txR, txR, txR_app a b]; simp
theorem pMore_eq {pt : List Nat → Rs Tm} (hp : PtOk pt) {few most : Nat} (hfm : few ≤ most) : ∀ (j : Nat) {ts ts' : List Tm} {r r' : List Nat}, ts.length ≤ most → most ≤ ts.length + j → pMore pt few most j ts r = .ok ts' r' →
    ∃ ks, ts' = ts ++ ks ∧ r = txR ks ++ 41 :: r' ∧ (∀ k ∈ ks, Raw k) ∧ Tm.sizes ks + cnt r' ≤ cnt r ∧ few ≤ ts'.length ∧ ts'.length ≤ most := by
  intro j
  have last : ∀ {ts ts' : List Tm} {r r' : List Nat}, ((lit [41] r).bind fun _ r => Rs.ok ts r) = .ok ts' r' → few ≤ ts.length → ts.length ≤ most → ∃ ks, ts' = ts ++ ks ∧ r = txR ks ++ 41 :: r' ∧ (∀ k ∈ ks, Raw k) ∧ Tm.sizes ks + cnt r' ≤ cnt r ∧ few ≤ ts'.length ∧ ts'.length ≤ most := fun {ts ts' r r'} h h1 h2 => by
    obtain ⟨u, r1, h3, h⟩ := bind_ok h
    cases h
    have e := lit_suf h3
    refine ⟨[], (List.append_nil _).symm, by rw [txR, e]; rfl, (fun k h => nomatch h), ?_, h1, h2⟩
    rw [Tm.sizes, e]
    have := cnt_cons 41 r'
    show 0 + cnt r' ≤ cnt (41 :: r')
    omega
  induction j with
  | zero =>
    intro ts ts' r r' h1 h2 h
    rw [pMore] at h
    exact last h (by omega) h1
  | succ j ih =>
    intro ts ts' r r' h1 h2 h
    rw [pMore] at h
    split at h
    · rename_i hc
      obtain ⟨u, r1, h3, h⟩ := bind_ok h
      obtain ⟨t, r2, h4, h⟩ := bind_ok h
      obtain ⟨rw1, e1, c1⟩ := hp _ _ _ h4
      have hl : (ts ++ [t]).length = ts.length + 1 := by simp
      have hlt : ts.length < most := by rcases hc with hc | hc <;> omega
      obtain ⟨ks, e2, e3, k3, c3, l1, l2⟩ := ih (by omega) (by omega) h
      have e := lit_suf h3
      refine ⟨t :: ks, by rw [e2, List.append_assoc]; rfl, ?_, fun k hk => ?_, ?_, l1, l2⟩
      · rw [e, e1, e3, txR]
        simp
      · rcases List.mem_cons.mp hk with rfl | hk
        · exact rw1
        · exact k3 k hk
      · rw [Tm.sizes, e]
        have a1 := cnt_cons 44 (32 :: r1)
        have a2 := cnt_cons 32 r1
        rw [if_pos (.inr rfl)] at a1
        rw [if_neg (by omega)] at a2
        show _ ≤ cnt (44 :: 32 :: r1)
        omega
    · rename_i hc
      exact last h (by omega) h1
theorem pT_ok : ∀ z : Nat, PtOk (pT z)
  | 0 => fun r t r' h => by cases h
  | z + 1 => fun r t r' h => by
    have ih := pT_ok z
    rw [pT] at h
    obtain ⟨b, r1, h1, h⟩ := bind_ok h
    have a := pBg_suf h1
    have e := pBg_eq h1
    cases b with
    | leaf w n =>
      cases h
      obtain ⟨e1, hw, nb⟩ := e
      refine ⟨.mk (.leaf hw nb) (fun k h => nomatch h), e1, ?_⟩
      rw [Tm.size, Tm.sizes]
      simp only [] at a
      omega
    | opn w n few most =>
      simp only [] at a
      obtain ⟨_, pre, e1, e2, hR⟩ := e
      obtain ⟨ts, r2, h2, h⟩ := bind_ok h
      obtain ⟨ts', r3, h3, h⟩ := bind_ok h
      cases h
      have sh : few ≤ most ∧ 1 ≤ most ∧ most ≤ 3 ∧ (w = "bind" → few = 2) := by
        rcases pBg_shape h1 with ⟨e0, e1, e2⟩ | ⟨e0, e1, e2⟩ | ⟨e0, _, e2⟩
        · exact ⟨by omega, by omega, by omega, fun z => by rw [e0] at z; exact absurd z (by decide)⟩
        · exact ⟨by omega, by omega, by omega, fun _ => e1⟩
        · have := (wdL_op _ e0).2
          have nb := (opsW_heads _ e0).2.2.2.2
          simp only [] at this nb
          exact ⟨by omega, by omega, by omega, fun z => absurd z nb⟩
      have key : Raw (.mk w n ts') ∧ r1 = txA ts' ++ 41 :: r' ∧ Tm.sizes ts' + cnt r' ≤ cnt r1 + 1 := by
        unfold pOne at h2
        split at h2
        · obtain ⟨t, r4, h4, h2⟩ := bind_ok h2
          cases h2
          obtain ⟨k1, k2, k3⟩ := ih _ _ _ h4
          obtain ⟨ks, e3, e4, e5, e6, l1, l2⟩ := pMore_eq ih sh.1 _ (by simp; omega) (by simp; omega) h3
          refine ⟨.mk (hR _ l1 l2) fun k hk => ?_, ?_, ?_⟩
          · rw [e3] at hk
            rcases List.mem_append.mp hk with hk | hk
            · rw [List.mem_singleton.mp hk]; exact k1
            · exact e5 k hk
          · rw [k2, e4, e3]
            show _ = txA (t :: ks) ++ _
            rw [txA]
            simp
          · rw [e3, sizes_app28, Tm.sizes, Tm.sizes]
            omega
        · rename_i hc
          cases h2
          have h41 : r1.head? = some 41 := by
            by_cases z : r1.head? = some 41
            · exact z
            · exact absurd (.inr z) hc
          have f0 : few = 0 := by
            by_cases z : few = 0
            · exact z
            · exact absurd (.inl (by omega)) hc
          obtain ⟨ks, e3, e4, e5, e6, l1, l2⟩ := pMore_eq ih sh.1 _ (by simp) (by simp; omega) h3
          have k0 : ks = [] := by
            cases ks with
            | nil => rfl
            | cons k ks =>
              rw [txR] at e4
              rw [e4] at h41
              exact absurd (Option.some.inj h41) (by decide)
          subst k0
          rw [List.append_nil] at e3
          refine ⟨.mk (hR _ l1 l2) fun k hk => ?_, ?_, ?_⟩
          · rw [e3] at hk; cases hk
          · rw [e3, txA]; rw [txR] at e4; exact e4
          · rw [e3]; omega
      obtain ⟨k1, k2, k3⟩ := key
      refine ⟨k1, ?_, by rw [Tm.size]; omega⟩
      rw [e1, k2, e2 ts' fun z => ?_]
      · simp
      · intro e0
        cases k1 with
        | mk hh _ =>
          rw [e0] at hh
          rw [z] at hh
          generalize hw : ("bind" : Str) = v at hh
          generalize hm : ([] : List Tm).length = m at hh
          cases hh with
          | leaf h _ => rw [← hw] at h; exact absurd h (by decide)
          | use _ _ => exact absurd hw (by decide)
          | bind _ => exact absurd hm (by decide)
          | op h => rw [← hw] at h; exact (opsW_heads _ h).2.2.2.2 rfl
/-! ### a ground that lets it -/
mutual
def usesIn : Tm → List (Str × Nat)
  | .mk w n ks => (n, ks.length) :: usesAll ks
def usesAll : List Tm → List (Str × Nat)
  | [] => []
  | k :: r => usesIn k ++ usesAll r
end
mutual
def namesIn : Tm → List Str
  | .mk w n ks => n :: namesAll ks
def namesAll : List Tm → List Str
  | [] => []
  | k :: r => namesIn k ++ namesAll r
end
theorem usesAll_mem : ∀ {ks : List Tm} {k : Tm}, k ∈ ks → ∀ q ∈ usesIn k, q ∈ usesAll ks
  | a :: r, k, h, q, hq => by
    rw [usesAll]
    rcases List.mem_cons.mp h with rfl | h
    · exact List.mem_append_left _ hq
    · exact List.mem_append_right _ (usesAll_mem h q hq)
theorem namesAll_mem : ∀ {ks : List Tm} {k : Tm}, k ∈ ks → ∀ q ∈ namesIn k, q ∈ namesAll ks
  | a :: r, k, h, q, hq => by
    rw [namesAll]
    rcases List.mem_cons.mp h with rfl | h
    · exact List.mem_append_left _ hq
    · exact List.mem_append_right _ (namesAll_mem h q hq)
theorem Raw.ok {t : Tm} (h : Raw t) : ∀ {L : List (Str × Nat)} {ns : List Str}, (∀ q ∈ usesIn t, nameB q.1 = true → q ∈ L) → (∀ n ∈ namesIn t, n ∈ ns) → TmOk L ns t := by
  induction h with
  | @mk w n ks hh hk ih =>
    intro L ns hL hN
    rw [usesIn] at hL
    rw [namesIn] at hN
    refine .mk ?_ fun i k hik => ?_
    · have hu := hL _ List.mem_cons_self
      have hn := hN _ List.mem_cons_self
      generalize ks.length = m at hh hu
      cases hh with
      | leaf hw nb =>
        have : ∀ x ∈ nmd, x = "value" ∨ x = "name" ∨ x = "fail" := by decide
        rcases this w hw with rfl | rfl | rfl
        · exact .val nb
        · exact .name nb hn
        · exact .fail nb
      | use nb _ => exact .use (hu nb)
      | bind nb => exact .bind nb trivial
      | op h => exact .op h
    · have hm := List.mem_of_getElem? hik
      refine ih k hm (fun q hq => hL q (List.mem_cons_of_mem _ (usesAll_mem hm q hq))) fun x hx => ?_
      have := hN x (List.mem_cons_of_mem _ (namesAll_mem hm x hx))
      unfold nsAt
      split
      · exact List.mem_append_left _ this
      · exact this
/-- some ground lets it -/
theorem Raw.some {t : Tm} (h : Raw t) : ∃ L ns, (∀ q ∈ L, nameB q.1 = true) ∧ TmOk L ns t := by
  refine ⟨(usesIn t).filter (fun q => nameB q.1), namesIn t, fun q hq => (List.mem_filter.mp hq).2, h.ok (fun q hq nb => List.mem_filter.mpr ⟨hq, nb⟩) fun n hn => hn⟩
end GB
set_option Elab.async false
set_option linter.all false
set_option autoImplicit false
set_option maxRecDepth 100000
set_option maxHeartbeats 4000000
/-! a text times 0 or 1 -/
namespace GB
open PySem PySem.Spec L2
def rStr01 : R2 := fun x y H Q => ∃ (a : Str) (k : Int), x = .str a ∧ y = .int k ∧ (k = 0 ∨ k = 1) ∧ a.length ≤ sizeLine ∧ Q (.str (if k = 1 then a else Str.empty)) H
theorem op_str01 {X : Cx} : OpR X (binaryOp .Mult) rStr01 := by
  intro pins s σ H x y v u Q I rx ry h
  obtain ⟨a, k, rfl, rfl, hk, hz, q⟩ := h
  obtain ⟨t, rfl⟩ := rx
  obtain ⟨t', rfl⟩ := ry
  rcases hk with rfl | rfl
  · exact P.mul_str_none (by decide) (by decide) ⟨.str Str.empty, H, I.tok _, ⟨_, rfl⟩, q⟩
  · refine P.mul_str (by decide) (fun _ h => by simp at h) (fun _ h => by simp at h) ?_
    rw [if_neg (by decide), if_pos (by simp)]
    exact ⟨.str a, H, I, ⟨_, rfl⟩, q⟩
end GB
set_option Elab.async false
set_option linter.all false
set_option maxRecDepth 100000
set_option maxHeartbeats 4000000
namespace K28
open PySem L2 GB
def topS (i : Nat) : Stmt := PySem.Challenge.pw_freeworldrules_k28_texts_refused.main.body.getD i (.Pass ⟨0, 0, 0, 0⟩)
abbrev sCell : Stmt := topS 38
abbrev sPool : Stmt := topS 39
abbrev sTake : Stmt := topS 40
abbrev sMixed : Stmt := topS 41
abbrev sOne : Stmt := topS 42
section
variable {P : Program} {w : World} {K : PySem.W.Frag} {mg : Str → Option Value} {base : Heap}
theorem plq {H : Hp} {Q : VK} {p : Addr} {a b : Int} (hp : H p = none) (q : ∀ p H', H p = none → Same H H' → PoolIs H' p 0 → Q (.ref p) H') (h1 : 0 ≤ a) (h2 : 0 ≤ b) (h3 : b < 1000000007) : Q (.ref p) (upd H p (.lst (poolV a b 0))) :=
  q p _ hp (fun c o e => by rw [upd_ne (ne_of_none e hp)]; exact e) ⟨a, b, 0, upd_same, h1, h2, h3, Int.le_refl 0, Int.le_refl 0⟩
theorem tkq {H : Hp} {Q : VK} {p : Addr} {m r a b c : Int} {n : Nat} (q : ∀ (r : Nat) H', (r : Int) < m → Bt [p] H H' → PoolIs H' p (n + 1) → Q (.int r) H') (r0 : 0 ≤ r) (r1 : r < m) (h1 : 0 ≤ a) (h2 : 0 ≤ b) (h3 : b < 1000000007) (h4 : 0 ≤ c) (h5 : c ≤ ((n + 1 : Nat) : Int)) :
    Q (.int r) (upd H p (.lst (poolV a b c))) := by
  obtain ⟨j, rfl⟩ : ∃ j : Nat, r = j := ⟨r.toNat, by omega⟩
  exact q j _ r1 (bt_upd List.mem_cons_self) ⟨a, b, c, upd_same, h1, h2, h3, h4, h5⟩
theorem scCell : FnScope ["_law_script", "_law_k"] ["_law_script", "_law_k"] (defScope sCell) := ⟨rfl, rfl, rfl, by decide +kernel, rfl, by decide +kernel, by decide +kernel⟩
theorem ok_cell {f : Addr} {fd : FuncData} (F : Fun K "_law_cell" "_law_cell" sCell f fd) (T : Bl mg) : FnOk P w K mg base CX0 1 f fd ["_law_script", "_law_k"] (GB.spCell K) := by
  refine F.ok scCell (fun vs H Q E h => ?_) (fun cdv A outer s H vs Q E hr h => ?_)
  · obtain ⟨a, ns, k, rfl, _⟩ := h
    rfl
  · obtain ⟨a, ns, k, rfl, hS, q⟩ := h
    refine ⟨_, pss_cons (ps_if (pt_cmpR op_lt (pv 1) (pe_callB call_len_seq (by rfl) T.len PySem.boot_len (pa_cons (pv 0) pa_nil)) (nomark _))
      (pss_one (ps_ret (pe_ix ix_list (pv 0) (pv 1) (fun _ _ => rfl)))) pss_nil) (pss_one (ps_ret pe_int)), ?_⟩
    refine ⟨_, rfl, _, rfl, a, _, rfl, .inl hS, _, _, rfl, rfl, _, rfl, ?_⟩
    by_cases c : (k : Int) < ((ns.map V.int).length : Int)
    · rw [decide_eq_true c]
      refine iteT ?_
      have hk : k < ns.length := by rw [List.length_map] at c; omega
      exact ⟨_, rfl, _, rfl, a, _, _, .int ns[k], rfl, rfl, hS, atI_nat (by simp [hk]), q _⟩
    · rw [decide_eq_false c]
      exact iteF (q 0)
theorem scPool : FnScope ["_law_grain", "_law_folded"] ["_law_grain"] (defScope sPool) := ⟨rfl, rfl, rfl, by decide +kernel, rfl, by decide +kernel, by decide +kernel⟩
theorem ok_pool {f : Addr} {fd : FuncData} (F : Fun K "_law_pool" "_law_pool" sPool f fd) (T : Bl mg) : FnOk P w K mg base CX0 1 f fd ["_law_grain"] spPool := by
  refine F.ok scPool (fun vs H Q E h => ?_) (fun cdv A outer s H vs Q E hr h => ?_)
  · obtain ⟨g, rfl, _⟩ := h
    rfl
  · obtain ⟨g, rfl, q⟩ := h
    refine ⟨_, pss_cons (ps_set (i := 1) scPool.nd rfl (.inl rfl) (pe_op op_mul pe_int (pv 0)))
      (pss_cons (ps_if (pt_cmpR op_lt (pv 0) pe_int (nomark _)) (pss_one (ps_set (i := 1) scPool.nd rfl (.inl rfl) (pe_op op_sub (pe_op op_sub pe_int (pe_op op_mul pe_int (pv 0))) pe_int))) pss_nil)
      (pss_cons (ps_if (pt_cmpR op_ge (pv 1) (pe_op op_pow pe_int pe_int) (nomark _))
        (pss_one (ps_ret (pe_lst (pa_cons (pv 1) (pa_cons (pe_op op_mod (pe_callTy call_int1 (by rfl) T.int (by decide +kernel) (pa_cons (pv 1) pa_nil)) pe_int) (pa_cons pe_int pa_nil)))))) pss_nil)
      (pss_one (ps_ret (pe_lst (pa_cons pe_int (pa_cons (pe_op op_mod (pe_callTy call_int1 (by rfl) T.int (by decide +kernel) (pa_cons (pv 1) pa_nil)) pe_int) (pa_cons pe_int pa_nil)))))))), ?_⟩
    have fin : ∀ f : Int, 0 ≤ f → ∀ p, H p = none → Q (.ref p) (upd H p (.lst [.int f, .int (f % 1000000007), .int 0])) := fun f hf p hp =>
      plq hp q hf (Int.emod_nonneg _ (by decide)) (Int.emod_lt_of_pos _ (by decide))
    have fin0 : ∀ f : Int, ∀ p, H p = none → Q (.ref p) (upd H p (.lst [.int 0, .int (f % 1000000007), .int 0])) := fun f p hp =>
      plq hp q (by decide) (Int.emod_nonneg _ (by decide)) (Int.emod_lt_of_pos _ (by decide))
    refine ⟨_, rfl, _, _, rfl, rfl, .inl ⟨by decide, by decide⟩, ?_⟩
    refine ⟨_, rfl, _, _, rfl, rfl, _, rfl, ?_⟩
    by_cases c0 : g < 0
    · rw [decide_eq_true c0]
      refine iteT ?_
      refine ⟨_, rfl, _, _, rfl, rfl, .inl ⟨by decide, by decide⟩, _, _, rfl, rfl, _, _, rfl, rfl, ?_⟩
      refine ⟨_, rfl, _, _, rfl, rfl, ⟨by decide, by decide, by decide⟩, _, _, rfl, rfl, _, rfl, ?_⟩
      refine ite2 (fun _ => ?_) (fun _ => ?_)
      · exact ⟨_, rfl, _, rfl, .inl ⟨_, rfl, _, _, rfl, rfl, (by show (0 : Int) < 1000000007; decide), (by show 3 ≤ sizeLine; decide), fin _ (by omega)⟩⟩
      · exact ⟨_, rfl, .inl ⟨_, rfl, _, _, rfl, rfl, (by show (0 : Int) < 1000000007; decide), (by show 3 ≤ sizeLine; decide), fin0 _⟩⟩
    · rw [decide_eq_false c0]
      refine iteF ?_
      refine ⟨_, rfl, _, _, rfl, rfl, ⟨by decide, by decide, by decide⟩, _, _, rfl, rfl, _, rfl, ?_⟩
      refine ite2 (fun _ => ?_) (fun _ => ?_)
      · exact ⟨_, rfl, _, rfl, .inl ⟨_, rfl, _, _, rfl, rfl, (by show (0 : Int) < 1000000007; decide), (by show 3 ≤ sizeLine; decide), fin _ (by omega)⟩⟩
      · exact ⟨_, rfl, .inl ⟨_, rfl, _, _, rfl, rfl, (by show (0 : Int) < 1000000007; decide), (by show 3 ≤ sizeLine; decide), fin0 _⟩⟩
theorem scTake : FnScope ["_law_pool_here", "_law_many", "_law_draw", "_law_mixed_here"] ["_law_pool_here", "_law_many"] (defScope sTake) := ⟨rfl, rfl, rfl, by decide +kernel, rfl, by decide +kernel, by decide +kernel⟩
theorem ok_take {f : Addr} {fd : FuncData} (F : Fun K "_law_take" "_law_take" sTake f fd) (T : Bl mg) : FnOk P w K mg base CX0 1 f fd ["_law_pool_here", "_law_many"] spTake := by
  refine F.ok scTake (fun vs H Q E h => ?_) (fun cdv A outer s H vs Q E hr h => ?_)
  · obtain ⟨p, m, n, rfl, _⟩ := h
    rfl
  · obtain ⟨p, m, n, rfl, m0, m1, hn, ⟨a, b, c, hp, a0, b0, b1, c0, c1⟩, q⟩ := h
    refine ⟨_, pss_cons (ps_if (pt_cmpR op_gt (pe_ix ix_list (pv 0) pe_int (fun _ _ => rfl)) pe_int (nomark _))
        (pss_cons (ps_set (i := 2) scTake.nd rfl (.inl rfl) (pe_op op_mod (pe_callTy call_int1 (by rfl) T.int (by decide +kernel) (pa_cons (pe_ix ix_list (pv 0) pe_int (fun _ _ => rfl)) pa_nil)) (pv 1)))
        (pss_cons (ps_asg (pe_op op_fdiv (pe_ix ix_list (pv 0) pe_int (fun _ _ => rfl)) (pv 1)) (pg_sub (pv 0) pe_int set_list))
        (pss_one (ps_ret (pv 2))))) pss_nil)
      (pss_cons (ps_asg (pe_op op_add (pe_ix ix_list (pv 0) pe_int (fun _ _ => rfl)) pe_int) (pg_sub (pv 0) pe_int set_list))
      (pss_cons (ps_set (i := 3) scTake.nd rfl (.inl rfl) (pe_op op_mod (pe_callTy call_int1 (by rfl) T.int (by decide +kernel) (pa_cons
          (pe_op op_pow (pe_op op_add (pe_op op_add (pe_ix ix_list (pv 0) pe_int (fun _ _ => rfl)) (pe_op op_mul pe_int (pe_ix ix_list (pv 0) pe_int (fun _ _ => rfl)))) pe_int) pe_int) pa_nil)) pe_int))
      (pss_one (ps_ret (pe_op op_mod (pe_op op_mod (pe_callTy call_int1 (by rfl) T.int (by decide +kernel) (pa_cons
          (pe_op op_mul (pe_op op_add (pv 3) (pe_ix ix_list (pv 0) pe_int (fun _ _ => rfl))) pe_int) pa_nil)) pe_int) (pv 1)))))), ?_⟩
    have g0 : ∀ {x y z : Int} {H : Hp}, H p = some (.lst (poolV x y z)) → SqL K H p (poolV x y z) := fun h => SqL.of h
    refine ⟨_, rfl, p, _, 0, _, rfl, rfl, g0 hp, atI_nat (j := 0) rfl, _, _, rfl, rfl, _, rfl, ?_⟩
    by_cases ca : 0 < a
    · rw [decide_eq_true ca]
      refine iteT ?_
      refine ⟨_, rfl, p, _, 0, _, rfl, rfl, g0 hp, atI_nat (j := 0) rfl, .inl ⟨_, rfl, _, rfl, _, _, rfl, rfl, m0, ?_⟩⟩
      refine ⟨_, rfl, p, _, 0, _, rfl, rfl, g0 hp, atI_nat (j := 0) rfl, _, rfl, _, _, rfl, rfl, ⟨m0, by omega⟩, ?_⟩
      refine ⟨_, rfl, p, _, 0, 0, rfl, rfl, hp, rfl, _, rfl, ?_⟩
      exact tkq q (Int.emod_nonneg _ (by omega)) (Int.emod_lt_of_pos _ m0) (Int.ediv_nonneg a0 (by omega)) b0 b1 c0 (by omega)
    · rw [decide_eq_false ca]
      refine iteF ?_
      refine ⟨_, rfl, p, _, 2, _, rfl, rfl, g0 hp, atI_nat (j := 2) rfl, _, _, rfl, rfl, ?_⟩
      refine ⟨_, rfl, p, _, 2, 2, rfl, rfl, hp, rfl, ?_⟩
      have h1 : (upd H p (.lst (poolV a b (c + 1)))) p = some (.lst (poolV a b (c + 1))) := upd_same
      refine ⟨_, rfl, p, _, 1, _, rfl, rfl, g0 h1, atI_nat (j := 1) rfl, _, rfl, p, _, 2, _, rfl, rfl, g0 h1, atI_nat (j := 2) rfl, _, _, rfl, rfl, .inl ⟨by decide, by decide⟩, _, _, rfl, rfl, _, _, rfl, rfl, _, _, rfl, rfl, ⟨by decide, by decide, ?_⟩, .inl ⟨_, rfl, _, _, rfl, rfl, (by show (0 : Int) < 2147483647; decide), ?_⟩⟩
      · show (b + 7919 * (c + 1) + 104729).natAbs < 2 ^ 64
        omega
      · refine ⟨_, rfl, _, rfl, p, _, 2, _, rfl, rfl, g0 h1, atI_nat (j := 2) rfl, _, _, rfl, rfl, _, _, rfl, rfl, .inr ⟨by decide, by decide⟩, .inl ⟨_, rfl, _, _, rfl, rfl, (by show (0 : Int) < 2147483629; decide), _, rfl, _, _, rfl, rfl, m0, ?_⟩⟩
        exact tkq q (Int.emod_nonneg _ (by omega)) (Int.emod_lt_of_pos _ m0) a0 b0 b1 (by omega) (by omega)
theorem scMixed : FnScope ["_law_pool_here", "_law_things", "_law_left", "_law_found", "_law_k", "_law_at"] ["_law_pool_here", "_law_things"] (defScope sMixed) := ⟨rfl, rfl, rfl, by decide +kernel, rfl, by decide +kernel, by decide +kernel⟩
theorem ok_mixed {f : Addr} {fd : FuncData} (F : Fun K "_law_mixed" "_law_mixed" sMixed f fd) (T : Bl mg) (TK : Fns P w K mg base "_law_take" 1 ["_law_pool_here", "_law_many"] spTake) : FnOk P w K mg base CX0 2 f fd ["_law_pool_here", "_law_things"] (spMixed K) := by
  refine F.ok scMixed (fun vs H Q E h => ?_) (fun cdv A outer s H vs Q E hr h => ?_)
  · obtain ⟨p, t, xs, n, rfl, _⟩ := h
    rfl
  · obtain ⟨p, t, xs, n, rfl, hS, hx, hn, hP, q⟩ := h
    refine ⟨_, pss_cons (ps_set (i := 2) scMixed.nd rfl (.inl rfl) (pe_callTy call_list_of (by rfl) T.list (by decide +kernel) (pa_cons (pv 1) pa_nil)))
      (pss_cons (ps_set (i := 3) scMixed.nd rfl (.inl rfl) (pe_lst pa_nil))
      (pss_cons (ps_for PassesOwn.never rfl (pi_range1 rfl T.range (pa_cons (pe_callB call_len_seq (by rfl) T.len PySem.boot_len (pa_cons (pv 1) pa_nil)) pa_nil)) (pg_name (i := 4) scMixed.nd rfl (.inl rfl))
        (pss_cons (ps_set (i := 5) scMixed.nd rfl (.inl rfl) (pe_fn TK hr (by decide) rfl (pa_cons (pv 0) (pa_cons (pe_callB call_len_seq (by rfl) T.len PySem.boot_len (pa_cons (pv 2) pa_nil)) pa_nil))))
        (pss_cons (ps_expr (pe_bm PySem.F.plainAttrs_list PySem.F.slot_list_append PySem.F.type_list_append mt_append (pv 3) (pa_cons (pe_ix ix_list (pv 2) (pv 5) (fun _ _ => rfl)) pa_nil)))
        (pss_one (ps_set (i := 2) scMixed.nd rfl (.inl rfl) (pe_op op_cat (pe_slice sl_list (pv 2) po_none (po_some (pv 5))) (pe_slice sl_list (pv 2) (po_some (pe_op op_add (pv 5) pe_int)) po_none)))))))
      (pss_one (ps_ret (pv 3))))), ?_⟩
    have hS0 := (hid_low [p] H).seq hS
    refine ⟨_, rfl, t, xs, rfl, .inl hS0, fun l nl => ?_⟩
    obtain ⟨H1, s1, h1, e1⟩ := lay (o := .lst xs) nl
    rw [e1]
    refine ⟨by show 0 ≤ sizeLine; decide, fun f nf => ?_⟩
    obtain ⟨H2, s2, h2, e2⟩ := lay (o := .lst []) nf
    rw [e2]
    have lf : l ≠ f := ne_of_none h1 nf
    have lp : l ≠ p := hP.ne nl
    have P2 : PoolIs H2 p n := hP.mono (s1.trans s2) (Nat.le_refl _)
    have fp : f ≠ p := (hP.mono s1 (Nat.le_refl _)).ne nf
    have nfH : H f = none := s1.free nf
    refine ⟨_, rfl, t, xs, rfl, .inl ((s1.trans s2).seq hS0), xs.length, rfl, by omega, by omega, for_range (lo := 0) (n := xs.length) (fun k σ H' => ∃ l left fs o4 o5, σ = [some (.ref p), some (.ref t), some (.ref l), some (.ref f), o4, o5] ∧ Bt [p] H H' ∧ H' f = some (.lst fs) ∧
        H' l = some (.lst left) ∧ l ≠ f ∧ l ≠ p ∧ (fs ++ left).Perm xs ∧ left.length + k = xs.length ∧ PoolIs H' p (n + k)) ⟨l, xs, [], none, none, rfl, bt_of (s1.trans s2), h2, s2 _ _ h1, lf, lp, List.Perm.refl _, rfl, P2⟩ ?_ ?_⟩
    · rintro k σ H3 hk ⟨l, left, fs, o4, o5, rfl, b3, hf, hl, lf, lp, hperm, hlen, P3⟩
      refine ⟨_, rfl, _, rfl, l, left, rfl, .inl (SqL.of hl), p, _, n + k, rfl, (by show (0 : Int) < (left.length : Int); omega), (by show (left.length : Int) < 1000000; omega), by omega, P3, fun r H4 hr' b4 P4 => ?_⟩
      have hl4 := bt_at b4 (ni1 lp) hl
      have hf4 := bt_at b4 (ni1 fp) hf
      have hr2 : r < left.length := by have := hr'; omega
      have hv : left[r]? = some left[r] := List.getElem?_eq_getElem hr2
      have hfl : fs.length ≤ 60 := by
        have := hperm.length_eq
        rw [List.length_append] at this
        omega
      refine ⟨_, rfl, .inl ⟨rfl, _, SqL.of hf4⟩, _, rfl, _, rfl, l, left, _, left[r], rfl, rfl, SqL.of hl4, atI_nat hv, f, fs, left[r], rfl, rfl, hf4, (by rw [sizeLine_eq]; omega), ?_⟩
      obtain ⟨H5, b5, h5, e5⟩ : ∃ H5, (∀ b o, b ≠ f → H4 b = some o → H5 b = some o) ∧ H5 f = some (.lst (fs ++ [left[r]])) ∧ upd H4 f (.lst (fs ++ [left[r]])) = H5 := ⟨upd H4 f (.lst (fs ++ [left[r]])), fun b o z e => by rw [upd_ne z]; exact e, upd_same, rfl⟩
      rw [e5]
      have hl5 := b5 _ _ lf hl4
      refine ⟨_, rfl, _, rfl, _, rfl, l, left, rfl, SqL.of hl5, fun c1 n1 => ?_⟩
      obtain ⟨H6, s6, h6, e6⟩ := lay (o := .lst (cutV left none (some (r : Int)))) n1
      rw [e6]
      refine ⟨_, rfl, _, rfl, _, _, rfl, rfl, _, rfl, l, left, rfl, SqL.of (s6 _ _ hl5), fun c2 n2 => ?_⟩
      obtain ⟨H7, s7, h7, e7⟩ := lay (o := .lst (cutV left (some (((r + 1 : Nat) : Int))) none)) n2
      rw [show ((r : Int) + 1) = ((r + 1 : Nat) : Int) from rfl, e7]
      rw [cut_from] at h7
      rw [cut_to _ _ (Nat.le_of_lt hr2)] at h6
      refine ⟨c1, c2, _, _, rfl, rfl, s7 _ _ h6, h7, (by rw [List.length_take, List.length_drop, sizeLine_eq]; omega), fun c3 n3 => ?_⟩
      obtain ⟨H8, s8, h8, e8⟩ := lay (o := .lst (left.take r ++ left.drop (r + 1))) n3
      rw [e8]
      have f5 : H7 f = some _ := s7 _ _ (s6 _ _ h5)
      have s58 : Same H5 H8 := (s6.trans s7).trans s8
      obtain ⟨x, y, z, hp4, pr⟩ := id P4
      have hp5 : H5 p = some (.lst (poolV x y z)) := b5 _ _ fp.symm hp4
      refine ⟨c3, left.take r ++ left.drop (r + 1), fs ++ [left[r]], _, _, rfl, ?_, s8 _ _ f5, h8, (ne_of_none f5 n3).symm, (ne_of_none (s7 _ _ (s6 _ _ hp5)) n3).symm, (perm_out fs hv).trans hperm, ?_, ⟨x, y, z, s58 _ _ hp5, pr⟩⟩
      · intro b o e
        obtain ⟨e', m⟩ := hid_in e
        have hbf : b ≠ f := ne_of_none e' nfH
        exact hid_to m (s58 _ _ (b5 _ _ hbf (bt_at b4 m (bt_at b3 m e'))))
      · rw [List.length_append, List.length_take, List.length_drop]; omega
    · rintro σ H3 ⟨l, left, fs, o4, o5, rfl, b3, hf, hl, lf, lp, hperm, hlen, P3⟩
      have : left = [] := List.eq_nil_of_length_eq_zero (by omega)
      subst this
      rw [List.append_nil] at hperm
      exact ⟨_, rfl, q f fs H3 hperm nfH b3 hf (P3.mono (Same.refl _) (by omega))⟩
theorem scOne : FnScope ["_law_pool_here", "_law_things"] ["_law_pool_here", "_law_things"] (defScope sOne) := ⟨rfl, rfl, rfl, by decide +kernel, rfl, by decide +kernel, by decide +kernel⟩
theorem ok_one {f : Addr} {fd : FuncData} (F : Fun K "_law_one" "_law_one" sOne f fd) (T : Bl mg) (TK : Fns P w K mg base "_law_take" 1 ["_law_pool_here", "_law_many"] spTake) : FnOk P w K mg base CX0 2 f fd ["_law_pool_here", "_law_things"] (spOne K) := by
  refine F.ok scOne (fun vs H Q E h => ?_) (fun cdv A outer s H vs Q E hr h => ?_)
  · obtain ⟨p, t, xs, n, rfl, _⟩ := h
    rfl
  · obtain ⟨p, t, xs, n, rfl, hS, hx, hx2, hn, hP, q⟩ := h
    refine ⟨_, pss_one (ps_ret (pe_ix ix_list (pv 1) (pe_fn TK hr (by decide) rfl (pa_cons (pv 0) (pa_cons (pe_callB call_len_seq (by rfl) T.len PySem.boot_len (pa_cons (pv 1) pa_nil)) pa_nil))) (fun _ _ => rfl))), ?_⟩
    have hS0 := (hid_low [p] H).seq hS
    have l0 : 0 < xs.length := List.length_pos_iff.mpr hx
    refine ⟨_, rfl, _, rfl, _, rfl, t, xs, rfl, .inl hS0, p, _, n, rfl, (by show (0 : Int) < (xs.length : Int); omega), (by show (xs.length : Int) < 1000000; omega), by omega, hP, fun r H4 hr' b4 P4 => ?_⟩
    have hr2 : r < xs.length := by have := hr'; omega
    exact ⟨t, xs, _, xs[r], rfl, rfl, (hid_low [p] H4).seq (b4.seq hS), atI_nat (List.getElem?_eq_getElem hr2), q _ H4 (List.getElem_mem hr2) b4 P4⟩
end
end K28
set_option Elab.async false
set_option linter.all false
set_option maxRecDepth 100000
set_option maxHeartbeats 4000000
/-! A name by the words of texts. -/
namespace GB
open PySem PySem.Spec L2 PyProof.Rows
theorem asc : ∀ c < 128, (Unicode.isAlpha c && !(Unicode.isUpper c || Unicode.isTitle c)) = signB c ∧ (signB c = true → Unicode.isLower c = true) := by decide +kernel
theorem sign_lt {c : Nat} (h : signB c = true) : c < 128 := by
  unfold signB at h
  simp only [Bool.and_eq_true, Bool.not_eq_true', decide_eq_false_iff_not] at h
  have h2 := h.2
  simp only [List.cons_lt_cons_iff] at h2
  omega
theorem nameB_words (s : Str) : nameB s = (decide (1 ≤ s.length ∧ s.length ≤ 8) && (Txt.isascii s && (Txt.isalpha s && Txt.islower s))) := by
  unfold nameB Txt.isascii Txt.isalpha Txt.islower
  by_cases h : 1 ≤ s.length ∧ s.length ≤ 8
  · rw [decide_eq_true h, Bool.true_and, Bool.true_and]
    have hn : decide (s.length > 0) = true := decide_eq_true (by omega)
    rw [hn, Bool.true_and]
    apply Bool.eq_iff_iff.mpr
    simp only [Bool.and_eq_true, Array.all_eq_true', Array.any_eq_true', List.all_eq_true, Bool.not_eq_true', decide_eq_true_eq, Array.mem_toList_iff, Array.any_eq_false', Bool.or_eq_true, not_or]
    constructor
    · intro ha
      refine ⟨fun c hc => sign_lt (ha c hc), fun c hc => ?_, ?_, fun c hc => ?_⟩
      · have := (asc c (sign_lt (ha c hc))).1
        rw [ha c hc] at this
        exact (Bool.and_eq_true_iff.mp this).1
      · have hs : 0 < s.cps.size := h.1
        refine ⟨s.cps[0], Array.getElem_mem hs, ?_⟩
        exact (asc _ (sign_lt (ha _ (Array.getElem_mem hs)))).2 (ha _ (Array.getElem_mem hs))
      · have := (asc c (sign_lt (ha c hc))).1
        rw [ha c hc] at this
        have := (Bool.and_eq_true_iff.mp this).2
        simpa using this
    · rintro ⟨h1, h2, _, h3⟩ c hc
      rw [← (asc c (h1 c hc)).1, h2 c hc]
      have := h3 c hc
      simp [this.1, this.2]
  · rw [decide_eq_false h, Bool.false_and, Bool.false_and]
end GB
set_option Elab.async false
set_option linter.all false
set_option maxRecDepth 100000
set_option maxHeartbeats 8000000
namespace K28
open PySem PySem.Spec L2 GB
abbrev sIsL : Stmt := topS 10
abbrev sIsN : Stmt := topS 11
abbrev sIsNm : Stmt := topS 12
def spIsL (K : PySem.W.Frag) : Sp := fun vs H Q _ => ∃ x t b, vs = [x] ∧ (∀ H', Same H H' → TyX K H' x t) ∧ PySem.W.kitAny K t [.type "list", .type "tuple"] = some b ∧ ∀ H', Same H H' → Q (.bl b) H'
def spIsN (K : PySem.W.Frag) : Sp := fun vs H Q _ => ∃ x t b1 b2, vs = [x] ∧ TyX K H x t ∧ PySem.W.kitOne K t (.type "int") = some b1 ∧ PySem.W.kitOne K t (.type "bool") = some b2 ∧ Q (.bl (b1 && !b2)) H
def spIsNm (K : PySem.W.Frag) : Sp := fun vs H Q _ => ∃ x, vs = [x] ∧ ((∃ s : Str, x = .str s ∧ s.length ≤ sizeLine ∧ ∀ H', Same H H' → Q (.bl (nameB s)) H') ∨ (∃ t, TyX K H x t ∧ PySem.W.kitOne K t (.type "str") = some false ∧ Q (.bl false) H))
section
variable {P : Program} {w : World} {K : PySem.W.Frag} {mg : Str → Option Value} {base : Heap}
theorem scIsL : FnScope ["thing"] ["thing"] (defScope sIsL) := ⟨rfl, rfl, rfl, by decide +kernel, rfl, by decide +kernel, by decide +kernel⟩
theorem scIsN : FnScope ["thing"] ["thing"] (defScope sIsN) := ⟨rfl, rfl, rfl, by decide +kernel, rfl, by decide +kernel, by decide +kernel⟩
theorem scIsNm : FnScope ["thing"] ["thing"] (defScope sIsNm) := ⟨rfl, rfl, rfl, by decide +kernel, rfl, by decide +kernel, by decide +kernel⟩
theorem ok_isL {f : Addr} {fd : FuncData} (F : Fun K "is_list" "is_list" sIsL f fd) (T : Bl mg) : FnOk P w K mg base CX0 1 f fd ["thing"] (spIsL K) := by
  refine F.ok scIsL (fun vs H Q E h => ?_) (fun cdv A outer s H vs Q E hr h => ?_)
  · obtain ⟨x, t, b, rfl, _⟩ := h
    rfl
  · obtain ⟨x, t, b, rfl, ht, hb, q⟩ := h
    refine ⟨_, pss_one (ps_ret (pe_callB call_isiT (by rfl) T.isi (by decide +kernel) (pa_cons (pv 0) (pa_cons (pe_tup (pa_cons (pe_bltn (v := .ty "list") (by rfl) T.list (by decide +kernel) rfl) (pa_cons (pe_bltn (v := .ty "tuple") (by rfl) T.tuple (by decide +kernel) rfl) (pa_nil)))) (pa_nil))))), ?_⟩
    refine ⟨_, rfl, by show 2 ≤ sizeLine; decide, fun p np => ?_⟩
    obtain ⟨H1, s1, h1, e1⟩ := lay (o := .tup [.ty "list", .ty "tuple"]) np
    rw [e1]
    exact ⟨x, p, _, t, _, b, rfl, h1, .cons (.ty "list") (.cons (.ty "tuple") .nil), ht _ s1, hb, q _ s1⟩
theorem ok_isN {f : Addr} {fd : FuncData} (F : Fun K "is_number" "is_number" sIsN f fd) (T : Bl mg) : FnOk P w K mg base CX0 1 f fd ["thing"] (spIsN K) := by
  refine F.ok scIsN (fun vs H Q E h => ?_) (fun cdv A outer s H vs Q E hr h => ?_)
  · obtain ⟨x, t, b1, b2, rfl, _⟩ := h
    rfl
  · obtain ⟨x, t, b1, b2, rfl, ht, h1, h2, q⟩ := h
    refine ⟨_, pss_one (ps_ret (pe_and (pe_callB call_isi (by rfl) T.isi (by decide +kernel) (pa_cons (pv 0) (pa_cons (pe_bltn (v := .ty "int") (by rfl) T.int (by decide +kernel) rfl) (pa_nil)))) (pe_one (pe_not (pe_callB call_isi (by rfl) T.isi (by decide +kernel) (pa_cons (pv 0) (pa_cons (pe_bltn (v := .ty "bool") (by rfl) T.bool (by decide +kernel) rfl) (pa_nil)))))))), ?_⟩
    refine ⟨_, rfl, x, .ty "int", t, .type "int", b1, rfl, .ty "int", ht, h1, b1, rfl, ?_⟩
    cases b1 with
    | true => exact ⟨_, rfl, x, .ty "bool", t, .type "bool", b2, rfl, .ty "bool", ht, h2, b2, rfl, q⟩
    | false => exact q
theorem ok_isNm {f : Addr} {fd : FuncData} (F : Fun K "is_name" "is_name" sIsNm f fd) (T : Bl mg) (M : ∃ u, mg "MOST_SIGNS" = some u ∧ RelV (.int 8) u) : FnOk P w K mg base CX0 1 f fd ["thing"] (spIsNm K) := by
  obtain ⟨uM, gM, rM⟩ := M
  refine F.ok scIsNm (fun vs H Q E h => ?_) (fun cdv A outer s H vs Q E hr h => ?_)
  · obtain ⟨x, rfl, _⟩ := h
    rfl
  · obtain ⟨x, rfl, h⟩ := h
    refine ⟨_, pss_one (ps_ret (pe_and (pe_callB call_isi (by rfl) T.isi (by decide +kernel) (pa_cons (pv 0) (pa_cons (pe_bltn (v := .ty "str") (by rfl) T.str (by decide +kernel) rfl) (pa_nil)))) (pe_and (pe_chain op_le op_le (pe_int) (pe_callB call_len_str (by rfl) T.len PySem.boot_len (pa_cons (pv 0) (pa_nil))) (pe_glob rfl gM rM)) (pe_and (pe_bm0 PySem.F.plainAttrs_str PySem.F.slot_str_isascii PySem.F.type_str_isascii mt_isascii (pv 0)) (pe_and (pe_bm0 PySem.F.plainAttrs_str PySem.F.slot_str_isalpha PySem.F.type_str_isalpha mt_isalpha (pv 0)) (pe_one (pe_bm0 PySem.F.plainAttrs_str PySem.F.slot_str_islower PySem.F.type_str_islower mt_islower (pv 0)))))))), ?_⟩
    rcases h with ⟨z, rfl, hz, q⟩ | ⟨t, ht, hk, q⟩
    · have q := q H (Same.refl _)
      rw [nameB_words] at q
      refine ⟨_, rfl, .str z, .ty "str", .type "str", .type "str", true, rfl, .ty "str", .base (.str z), kit_ty (by decide +kernel), true, rfl, ?_⟩
      refine iteT ?_
      refine ⟨_, rfl, _, rfl, hz, _, _, rfl, rfl, _, rfl, ?_⟩
      by_cases c1 : (1 : Int) ≤ (z.length : Int)
      · rw [decide_eq_true c1]
        refine iteT ?_
        refine ⟨_, _, rfl, rfl, _, rfl, ?_⟩
        by_cases c2 : (z.length : Int) ≤ 8
        · rw [decide_eq_true c2]
          refine iteT ?_
          rw [decide_eq_true ⟨by omega, by omega⟩, Bool.true_and] at q
          refine ⟨_, rfl, rfl, _, rfl, rfl, trivial, _, rfl, ?_⟩
          cases ha : Txt.isascii z with
          | false => rw [ha] at q; exact iteF q
          | true =>
            rw [ha, Bool.true_and] at q
            refine iteT ?_
            refine ⟨_, rfl, rfl, _, rfl, rfl, trivial, _, rfl, ?_⟩
            cases hb : Txt.isalpha z with
            | false => rw [hb] at q; exact iteF q
            | true =>
              rw [hb, Bool.true_and] at q
              refine iteT ?_
              exact ⟨_, rfl, rfl, _, rfl, rfl, trivial, q⟩
        · rw [decide_eq_false c2]
          refine iteF ?_
          rw [decide_eq_false (fun h => c2 (by omega)), Bool.false_and] at q
          exact q
      · rw [decide_eq_false c1]
        refine iteF ?_
        refine ⟨_, rfl, ?_⟩
        rw [decide_eq_false (fun h => c1 (by omega)), Bool.false_and] at q
        exact iteF q
    · refine ⟨_, rfl, x, .ty "str", t, .type "str", false, rfl, .ty "str", ht, hk, false, rfl, ?_⟩
      exact iteF q
end
end K28
set_option Elab.async false
set_option linter.all false
set_option maxRecDepth 100000
set_option maxHeartbeats 8000000
namespace K28
open PySem PySem.Spec L2 GB
/-- the module's NAMED -/
def Nmd (K : PySem.W.Frag) (mg : Str → Option Value) : Prop := ∃ a, mg "NAMED" = some (.ref a) ∧ ∀ H, SqT K H a (sts nmd)
end K28
set_option Elab.async false
set_option linter.all false
set_option maxRecDepth 100000
set_option maxHeartbeats 4000000
/-! Data of tuples, texts and ints alone do not rest on lists. -/
namespace GB
open PySem PySem.Spec L2
mutual
def tupO : PyData → Bool
  | .tuple ds => tupOs ds
  | .str _ => true
  | .int _ => true
  | _ => false
def tupOs : List PyData → Bool
  | [] => true
  | d :: r => tupO d && tupOs r
end
mutual
theorem tupO_d : ∀ t : Tm, tupO t.d = true
  | .mk w n ks => by
    rw [Tm.d]
    have h := tupO_ds ks
    split
    · simp [tupO, tupOs, h]
    · split
      · simp [tupO, tupOs, h]
      · split
        · simp [tupO, tupOs, h]
        · simp [tupO, tupOs]
theorem tupO_ds : ∀ ks : List Tm, tupOs (Tm.ds ks) = true
  | [] => rfl
  | k :: r => by rw [Tm.ds, tupOs, tupO_d k, tupO_ds r]; rfl
end
section
variable {K : PySem.W.Frag} {H : Hp} {ps : List Addr}
theorem sqT_hid (hl : ∀ p ∈ ps, ∃ xs, H p = some (.lst xs)) {a : Addr} {xs : List V} (h : SqT K H a xs) : SqT K (hid ps H) a xs := by
  have ni : ∀ o, H a = some o → (∀ ys, o ≠ .lst ys) → a ∉ ps := fun o e n m => by
    obtain ⟨ys, e2⟩ := hl a m
    rw [e] at e2
    exact n ys (Option.some.inj e2)
  rcases h with (h | ⟨o, h⟩) | h
  · exact .inl (.inl (hid_to (ni _ h (fun ys z => nomatch z)) h))
  · exact .inl (.inr ⟨o, hid_to (ni _ h (fun ys z => nomatch z)) h⟩)
  · exact .inr h
mutual
theorem dp_hid (hl : ∀ p ∈ ps, ∃ xs, H p = some (.lst xs)) : ∀ (d : PyData) (v : V), tupO d = true → Dp K H v d → Dp K (hid ps H) v d
  | .tuple ds, v, t, h => by
    cases h with
    | tup h1 h2 => exact .tup (sqT_hid hl h1) (dps_hid hl ds _ t h2)
  | .str _, v, _, h => by cases h; exact .str _
  | .int _, v, _, h => by cases h; exact .int _
  | .none, v, t, h => by cases t
  | .bool _, v, t, h => by cases t
  | .list _, v, t, h => by cases t
theorem dps_hid (hl : ∀ p ∈ ps, ∃ xs, H p = some (.lst xs)) : ∀ (ds : List PyData) (vs : List V), tupOs ds = true → DpAll K H vs ds → DpAll K (hid ps H) vs ds
  | [], vs, _, h => by cases h; exact .nil
  | d :: r, vs, t, h => by
    cases h with
    | cons h1 h2 =>
      rw [tupOs] at t
      obtain ⟨t1, t2⟩ := Bool.and_eq_true_iff.mp t
      exact .cons (dp_hid hl d _ t1 h1) (dps_hid hl r _ t2 h2)
end
end
theorem len_sizes : ∀ ks : List Tm, ks.length ≤ Tm.sizes ks
  | [] => Nat.le_refl _
  | k :: r => by
    have := len_sizes r
    have := size_pos k
    rw [Tm.sizes, List.length_cons]; omega
theorem catA {K : PySem.W.Frag} {H : Hp} {Q : VK} {a b : Addr} {xs ys : List V} (h1 : SqT K H a xs) (h2 : SqT K H b ys) (hl : xs.length + ys.length ≤ sizeLine) (q : ∀ p H', Same H H' → SqT K H' p (xs ++ ys) → Q (.ref p) H') : rCatA K (.ref a) (.ref b) H Q := by
  refine ⟨a, b, xs, ys, rfl, rfl, h1, h2, hl, fun e => ?_, fun _ e => ?_, fun _ _ p np => ?_⟩
  · subst e
    exact q b H (Same.refl _) h2
  · subst e
    exact q a H (Same.refl _) (by rw [List.append_nil]; exact h1)
  · obtain ⟨H1, s1, h1, e1⟩ := lay (o := .tup (xs ++ ys)) np
    rw [e1]
    exact q p H1 s1 (SqT.of h1)
theorem same_new {H : Hp} {D : Addr} {o : HO} (n : H D = none) : Same H (upd H D o) := fun b u e => by rw [upd_ne (ne_of_none e n)]; exact e
theorem take_at {α : Type} {l : List α} {i : Nat} {x : α} (h : l[i]? = some x) : l.take (i + 1) = l.take i ++ [x] := by
  obtain ⟨hi, rfl⟩ := List.getElem?_eq_some_iff.mp h
  exact List.take_succ_eq_append_getElem hi
end GB
set_option Elab.async false
set_option linter.all false
set_option maxRecDepth 100000
set_option maxHeartbeats 8000000
namespace GB
open PySem PySem.Spec L2
mutual
/-- the paths of all parts, a part ahead of those within it -/
def Tm.paths : Tm → List Nat → List (List Nat)
  | .mk _ _ ks, p => p :: Tm.pathsL ks p 0
def Tm.pathsL : List Tm → List Nat → Nat → List (List Nat)
  | [], _, _ => []
  | k :: r, p, i => k.paths (p ++ [i]) ++ Tm.pathsL r p (i + 1)
end
mutual
theorem paths_len : ∀ (t : Tm) (p : List Nat), (t.paths p).length = t.size
  | .mk _ _ ks, p => by rw [Tm.paths, Tm.size, List.length_cons, pathsL_len ks p 0]
theorem pathsL_len : ∀ (ks : List Tm) (p : List Nat) (i : Nat), (Tm.pathsL ks p i).length = Tm.sizes ks
  | [], _, _ => rfl
  | k :: r, p, i => by rw [Tm.pathsL, Tm.sizes, List.length_append, paths_len k, pathsL_len r]
end
theorem pathsL_app : ∀ (l : List Tm) (k : Tm) (p : List Nat) (i : Nat), Tm.pathsL (l ++ [k]) p i = Tm.pathsL l p i ++ k.paths (p ++ [i + l.length])
  | [], k, p, i => by simp [Tm.pathsL]
  | a :: r, k, p, i => by
    rw [List.cons_append, Tm.pathsL, Tm.pathsL, pathsL_app r k p (i + 1), List.append_assoc, List.length_cons]
    congr 4
    simp only [List.cons.injEq, and_true]
    omega
def pin (p : List Nat) : List V := p.map fun i : Nat => V.int (i : Int)
theorem sizes_app : ∀ a b : List Tm, Tm.sizes (a ++ b) = Tm.sizes a + Tm.sizes b
  | [], b => by rw [List.nil_append, Tm.sizes, Nat.zero_add]
  | k :: r, b => by rw [List.cons_append, Tm.sizes, Tm.sizes, sizes_app r b, Nat.add_assoc]
theorem sizes_take (ks : List Tm) (i : Nat) : Tm.sizes (ks.take i) ≤ Tm.sizes ks := by
  have := sizes_app (ks.take i) (ks.drop i)
  rw [List.take_append_drop] at this
  omega
def pathD (p : List Nat) : PyData := .tuple (p.map fun i : Nat => PyData.int (i : Int))
theorem tupO_path (p : List Nat) : tupO (pathD p) = true := by
  show tupOs (p.map fun i : Nat => PyData.int (i : Int)) = true
  induction p with
  | nil => rfl
  | cons i r ih => rw [List.map_cons, tupOs, ih]; rfl
theorem tupOs_paths (l : List (List Nat)) : tupOs (l.map pathD) = true := by
  induction l with
  | nil => rfl
  | cons p r ih => rw [List.map_cons, tupOs, ih, tupO_path]; rfl
theorem dps_pin {K : PySem.W.Frag} {H : Hp} : ∀ p : List Nat, DpAll K H (pin p) (p.map fun i : Nat => PyData.int (i : Int))
  | [] => .nil
  | i :: r => .cons (.int _) (dps_pin r)
end GB
set_option Elab.async false
set_option linter.all false
set_option maxRecDepth 100000
set_option maxHeartbeats 4000000
namespace GB
open PySem PySem.Spec L2 PyProof.Rows
/-! what is walked is a list or a tuple -/
def iSeqW (K : PySem.W.Frag) (te : TE) : TI := fun σ H R => te σ H fun v H1 => ∃ (a : Addr) (xs : List V) (b : Bool) (ps : List Addr), v = .ref a ∧ SqV K (hid ps H1) a xs b ∧ ∀ (J : It), Walk J xs.length (fun H => SqV K (hid ps H) a xs b) (YAt xs) → R J H1
theorem pi_seqW {X : Cx} {tg l : Expr} {tl : TE} (hl : PE X l tl) : PI X tg l (iSeqW X.K tl) := by
  refine ⟨fun pins s σ H R I h => ?_⟩
  refine thn (hl.run pins s σ H _ I h) fun v s1 ⟨x, H1, I1, r1, q1⟩ => ?_
  obtain ⟨a, xs, kb, ps, e, hh, q⟩ := q1
  subst e
  cases r1
  cases kb with
  | true =>
    have hq := (hid_low ps H1).seq (show SqL X.K (hid ps H1) a xs from hh)
    obtain ⟨its, rv, p, hz⟩ := I1.list hq
    refine wpAny_pyIter_list p.isList ?_
    refine ⟨s1.heap.objs.size, [s1.heap.objs.size], _, _, H1, rfl, I1.kept (t' := s1.toks) fun b o e => Heap.get?_push_of_some _ e, turn_list a _, ⟨_, Heap.get?_push_size _ rfl, rfl, rfl⟩, fun b hb => ?_, q _ (walk_list.mono (fun H' h => (hid_low ps H').seq h) fun _ _ _ _ _ _ y => y)⟩
    have e : b = s1.heap.objs.size := by simpa using hb
    subst e
    exact I1.fpOk (Nat.le_refl _) (I1.hok.fresh (Nat.le_refl _))
  | false =>
    have hq := Same.seqT (hid_low ps H1) (show SqT X.K (hid ps H1) a xs from hh)
    obtain ⟨its, rv, p, hz⟩ := I1.tuple hq
    refine wpAny_pyIter_tuple (show s1.heap.IsTuple a its.toArray from p) ?_
    refine ⟨s1.heap.objs.size, [s1.heap.objs.size], _, _, H1, rfl, I1.kept (t' := s1.toks) fun b o e => Heap.get?_push_of_some _ e, turn_tuple a _, ⟨_, Heap.get?_push_size _ rfl, rfl, rfl⟩, fun b hb => ?_, q _ (walk_tup.mono (fun H' h => Same.seqT (hid_low ps H') h) fun _ _ _ _ _ _ y => y)⟩
    have e : b = s1.heap.objs.size := by simpa using hb
    subst e
    exact I1.fpOk (Nat.le_refl _) (I1.hok.fresh (Nat.le_refl _))
/-! paths -/
def atP : Tm → List V → Option Tm
  | t, [] => some t
  | .mk _ _ ks, .int i :: r => if 0 ≤ i ∧ i < ks.length then (match ks[i.toNat]? with | some k => atP k r | none => none) else none
  | _, _ :: _ => none
theorem atP_app : ∀ (a b : List V) (t : Tm), atP t (a ++ b) = (atP t a).bind fun s => atP s b
  | [], b, t => rfl
  | y :: a, b, .mk w n ks => by
    cases y with
    | int i =>
      rw [List.cons_append]
      simp only [atP]
      split
      · cases ks[i.toNat]? with
        | none => rfl
        | some k => exact atP_app a b k
      · rfl
    | _ => rfl
inductive NumV (K : PySem.W.Frag) (H : Hp) : V → Prop
  | int (i : Int) : NumV K H (.int i)
  | no {y t b1 b2} : (∀ i, y ≠ .int i) → (∀ H', Same H H' → TyX K H' y t) → PySem.W.kitOne K t (.type "int") = some b1 → PySem.W.kitOne K t (.type "bool") = some b2 → (b1 && !b2) = false → NumV K H y
inductive PathX (K : PySem.W.Frag) (H : Hp) : V → Option (List V) → Prop
  | no {x t} : (∀ H', Same H H' → TyX K H' x t) → PySem.W.kitAny K t [.type "list", .type "tuple"] = some false → PathX K H x none
  | seq {p xs} : SqA K H p xs → (∀ y ∈ xs, NumV K H y) → PathX K H (.ref p) (some xs)
def atX (t : Tm) (o : Option (List V)) : Option Tm := o.bind (atP t)
def spInitE (C : Addr) (f : Str) : Sp := fun vs H Q _ => ∃ (a : Addr) (y : V), vs = [.ref a, y] ∧ H a = some (exo a C none) ∧ ∀ d, H d = none → d ≠ a → Q .non (upd (upd H d (exd d [(f, y)])) a (exo a C (some d)))
/-- an error class of the package, n, with one field f -/
structure ErrC (P : Program) (w : World) (K : PySem.W.Frag) (mg : Str → Option Value) (base : Heap) (n f : Str) (C : Addr) : Prop where
  gC : mg n = some (.ref C)
  T : OexC K C
  ini : ∃ (fI : Addr) (fd : FuncData), PySem.W.findIn K (.ref C) "__init__" = some (some (.ref fI)) ∧ PySem.W.typeIn K (.ref fI) = some (.type "function") ∧ FnOk P w K mg base CX0 1 fI fd ["self", f] (spInitE C f) ∧ Binds K fd ["self", f] []
theorem mk_err {C : Addr} {f : Str} {x : V} {H : Hp} {Q : XK} (q : ∀ d H', Same H H' → H' d = some (.xd [(f, x)]) → Q (.ref C) (some d) H') (a : Addr) (na : H a = none) :
    spInitE C f (.ref a :: ([x] ++ [])) (upd H a (exo a C none)) (fun v H2 => v = .non ∧ ∃ (d : Addr) (fs : List (Str × V)), H2 a = some (exo a C (some d)) ∧ H2 d = some (exd d fs) ∧ H d = none ∧ Q (.ref C) (some d) (upd (del H2 a) d (.xd fs))) (fun _ _ _ => False) := by
  refine ⟨a, x, rfl, upd_same, fun d nd ne => ⟨rfl, d, [(f, x)], upd_same, by rw [upd_ne ne]; exact upd_same, ?_, q d _ (fun b o e => ?_) upd_same⟩⟩
  · rw [upd_ne ne] at nd
    exact nd
  · have ba : b ≠ a := ne_of_none e na
    rw [upd_ne ne] at nd
    have bd : b ≠ d := ne_of_none e nd
    rw [upd_ne bd, del_ne ba, upd_ne ba, upd_ne bd, upd_ne ba]
    exact e
theorem NumV.mono {K : PySem.W.Frag} {H H' : Hp} (s : Same H H') {y : V} (h : NumV K H y) : NumV K H' y := by
  cases h with
  | int i => exact .int i
  | no h1 h2 h3 h4 h5 => exact .no h1 (fun H2 s2 => h2 H2 (s.trans s2)) h3 h4 h5
theorem PathX.mono {K : PySem.W.Frag} {H H' : Hp} (s : Same H H') {x : V} {o : Option (List V)} (h : PathX K H x o) : PathX K H' x o := by
  cases h with
  | no h1 h2 => exact .no (fun H2 s2 => h1 H2 (s.trans s2)) h2
  | seq h1 h2 => exact .seq (h1.mono s) fun y hy => (h2 y hy).mono s
end GB
set_option Elab.async false
set_option linter.all false
set_option maxRecDepth 100000
set_option maxHeartbeats 8000000
/-! what is looked up in the part of the heap behind the top, each kind of fact by one function to Bool -/
namespace FX
open PySem PySem.Spec PyProof.Rows L2 He GB
open PySem.W (findIn subIn typeIn keepIn nsIn Frag)
/-- an own error's class object -/
def errObj (K : Frag) (C : Addr) : Bool := match K.lookup C with
  | some ⟨.type "type", _, .cls cd, sl⟩ => (match cd.mro, sl.toList with
    | .ref D :: bm, [_, _, _, _, some (.builtin m), _] => D == C && (m == "ValueError.__new__" && (!cd.hasDel && (cd.hasDict && PySem.HandSPX.refsVE bm)))
    | _, _ => false)
  | _ => false
theorem errObj_ok {K : Frag} {C : Addr} (q : errObj K C = true) : ∃ nm qn N bs bm sn sub ab col dd k0 k1 k2 k3 k5, K.lookup C = some (excClassObj nm qn C N bs bm true sn sub ab col dd k0 k1 k2 k3 k5 "ValueError.__new__") ∧ PySem.HandSPX.refsVE bm = true := by
  unfold errObj at q
  split at q
  · rename_i dd cd sl ho
    split at q
    · rename_i D bm k0 k1 k2 k3 m k5 hm hs
      simp only [Bool.and_eq_true, beq_iff_eq, Bool.not_eq_true'] at q
      obtain ⟨e1, e2, e3, e4, e5⟩ := q
      subst e1 e2
      obtain ⟨nm, bs, mro, ns, qn, hd, sn, sub, ab, col, del⟩ := cd
      dsimp only at hm e3 e4
      subst hm e3 e4
      have hsl : sl = #[k0, k1, k2, k3, some (.builtin "ValueError.__new__"), k5] := by
        obtain ⟨l⟩ := sl
        simp only at hs
        rw [hs]
      subst hsl
      exact ⟨_, _, _, _, _, _, _, _, _, _, _, _, _, _, _, ho, e5⟩
    · cases q
  · cases q
def oexB (K : Frag) (C : Addr) : Bool := errObj K C && (eqO (findIn K (.ref C) "__setattr__") (some (some (.builtin "object.__setattr__"))) && (decide (subIn K (.ref C) (.type "BaseException") = some true) && (decide (typeIn K (.ref C) = some (.type "type")) && keepIn K (.ref C))))
theorem oex_of {K : Frag} {C : Addr} (q : oexB K C = true) : OexC K C := by
  obtain ⟨a1, q⟩ := ba q
  obtain ⟨a2, q⟩ := ba q
  obtain ⟨a3, q⟩ := ba q
  obtain ⟨a4, a5⟩ := ba q
  exact ⟨errObj_ok a1, eqO_ok a2, of_decide_eq_true a3, of_decide_eq_true a4, a5⟩
def blts : List Str := ["len", "int", "list", "tuple", "dict", "range", "sorted", "isinstance", "bool", "str", "all", "any", "enumerate"]
def freeB (K : Frag) (l : List Str) : Bool := l.all fun x => (Fa.free x).ok K
theorem free_of {K : Frag} {h : Heap} {mg : Str → Option Value} (X : K.In h) (G : h.Ns mainGlobals mg) {l : List Str} (q : freeB K l = true) {x : Str} (hx : x ∈ l) : mg x = none := free_ok X G (List.all_eq_true.mp q x hx)
theorem bl_of {K : Frag} {h : Heap} {mg : Str → Option Value} (X : K.In h) (G : h.Ns mainGlobals mg) (q : freeB K blts = true) : Bl mg := by
  have f : ∀ x ∈ blts, mg x = none := fun x hx => free_of X G q hx
  exact ⟨f _ (by simp [blts]), f _ (by simp [blts]), f _ (by simp [blts]), f _ (by simp [blts]), f _ (by simp [blts]), f _ (by simp [blts]), f _ (by simp [blts]), f _ (by simp [blts]), f _ (by simp [blts]), f _ (by simp [blts]), f _ (by simp [blts]), f _ (by simp [blts]), f _ (by simp [blts])⟩
theorem int_of {K : Frag} {h : Heap} {mg : Str → Option Value} (X : K.In h) (G : h.Ns mainGlobals mg) {x : Str} {i : Int} (q : (Fa.int x i).ok K = true) : ∃ u, mg x = some u ∧ RelV (.int i) u := by
  obtain ⟨t, e⟩ := int_ok X G q
  exact ⟨_, e, t, rfl⟩
/-- an own error's class with the field f -/
def xfieldB (K : Frag) (C : Addr) (f : Str) : Bool := oexB K C && (xfB K C && (eqO (findIn K (.ref C) f) (some none) && decide (PySem.W.exmOne K (.ref C) (.ref C) = some true)))
theorem xfield_of {K : Frag} {C : Addr} {f : Str} (q : xfieldB K C f = true) : OexC K C ∧ XfC K C ∧ findIn K (.ref C) f = some none ∧ PySem.W.exmOne K (.ref C) (.ref C) = some true := by
  obtain ⟨a1, q⟩ := ba q
  obtain ⟨a2, q⟩ := ba q
  obtain ⟨a3, a4⟩ := ba q
  exact ⟨oex_of a1, xfB_ok a2, eqO_ok a3, of_decide_eq_true a4⟩
/-- a plain class of the package -/
def clB (K : Frag) (C : Addr) : Bool := PySem.W.plainGet K C Str.empty && (PySem.W.hasDictIn K C && (PySem.W.plainOver K C && eqO (findIn K (.ref C) "__setattr__") (some (some (.builtin "object.__setattr__")))))
theorem cl_of {K : Frag} {C : Addr} (q : clB K C = true) : Cls K C := by
  obtain ⟨c1, q⟩ := ba q
  obtain ⟨c2, q⟩ := ba q
  obtain ⟨c3, c4⟩ := ba q
  exact ⟨c1, c2, c3, eqO_ok c4⟩
def noB (K : Frag) (C : Addr) (l : List Str) : Bool := l.all fun f => eqO (findIn K (.ref C) f) (some none)
theorem no_of {K : Frag} {C : Addr} {l : List Str} (q : noB K C l = true) {f : Str} (hf : f ∈ l) : NoAttr K C f := eqO_ok (List.all_eq_true.mp q f hf)
def mkB (K : Frag) (C f : Addr) : Bool := PySem.W.makesIn K C && (eqO (findIn K (.ref C) "__init__") (some (some (.ref f))) && (PySem.W.isFn K (.ref f) && keepIn K (.ref C)))
theorem mk_of {K : Frag} {C f : Addr} (q : mkB K C f = true) : Mk K C f := by
  obtain ⟨c1, q⟩ := ba q
  obtain ⟨c2, q⟩ := ba q
  obtain ⟨c3, c4⟩ := ba q
  exact ⟨c1, eqO_ok c2, c3, c4⟩
def methB (K : Frag) (C : Addr) (m : Str) (f : Addr) : Bool := eqO (findIn K (.ref C) m) (some (some (.ref f))) && (PySem.W.isFn K (.ref f) && keepIn K (.ref f))
theorem meth_of {K : Frag} {C : Addr} {m : Str} {f : Addr} (q : methB K C m f = true) : Meth K C m f := by
  obtain ⟨c1, q⟩ := ba q
  obtain ⟨c2, c3⟩ := ba q
  exact ⟨eqO_ok c1, c2, c3⟩
/-- a table of the module: its keys' words, their numbers -/
def dctB (K : Frag) (a : Addr) (l : List (Str × Nat)) : Bool := l.all fun q => match nsIn K a q.1 with
  | some (some u) => relB (.int (q.2 : Int)) u
  | _ => false
theorem dct_of {K : Frag} {a : Addr} {l : List (Str × Nat)} (h : dctB K a l = true) {q : Str × Nat} (hq : q ∈ l) : ∃ u, nsIn K a q.1 = some (some u) ∧ RelV (.int (q.2 : Int)) u := by
  have h2 := List.all_eq_true.mp h q hq
  cases e : nsIn K a q.1 with
  | none =>
    rw [e] at h2
    cases h2
  | some r =>
    rw [e] at h2
    cases r with
    | none => cases h2
    | some u => exact ⟨u, rfl, relB_ok h2⟩
/-- three defaults that are objects -/
def dfl3 (K : Frag) (dV : Value) : Option (Addr × Addr × Addr) := match dV with
  | .ref T => (match K.lookup T with
    | some ⟨_, _, .seq its _, _⟩ => (match its.toList with
      | [.ref a, .ref b, .ref c] => some (a, b, c)
      | _ => none)
    | _ => none)
  | _ => none
theorem dfl3_ok {K : Frag} {dV : Value} (h : (dfl3 K dV).isSome = true) : ∃ a b c, DflV K dV [.ref a, .ref b, .ref c] := by
  unfold dfl3 at h
  split at h
  · rename_i T
    split at h
    · rename_i oc od its n sl ho
      split at h
      · rename_i a b c hi
        refine ⟨a, b, c, .inr ⟨List.cons_ne_nil _ _, T, _, its.toList, n, rfl, ho, by simp, ?_⟩⟩
        rw [hi]
        exact .cons rfl (.cons rfl (.cons rfl .nil))
      · cases h
    · cases h
  · cases h
/-- the table of a code object that makes others -/
def ptOf (K : Frag) (c : Addr) : Addr := match K.lookup c with
  | some ⟨_, _, .fields vs, _⟩ => (match (vs[11]? : Option Value) with
    | some (Value.ref P) => P
    | _ => 0)
  | _ => 0
def isS : Value → Bool
  | .str _ _ => true
  | _ => false
def isI : Value → Bool
  | .int _ _ => true
  | _ => false
def isB : Value → Bool
  | .bool _ => true
  | _ => false
def codeB (K : Frag) (c P : Addr) : Bool := match K.lookup c with
  | some ⟨.type t, _, .fields vs, _⟩ => t == "code" && (decide (vs[11]? = some (.ref P)) && (isS (vs.getD 18 .none) && (isI (vs.getD 7 .none) && (isB (vs.getD 9 .none) && (isI (vs.getD 10 .none) && (!(c == P) && (K.lookup P).isNone))))))
  | _ => false
theorem codeB_ok {K : Frag} {h : Heap} (X : K.In h) {c P : Addr} (q : codeB K c P = true) : PySem.W.CodeHd h c P ∧ K.lookup P = none ∧ ∃ (e : Value) (dd : Option Addr) (vs : Array Value) (sl : Array (Option Value)), K.lookup c = some ⟨e, dd, .fields vs, sl⟩ ∧ vs[11]? = some (.ref P) := by
  unfold codeB at q
  split at q
  · rename_i t dd vs sl ho
    obtain ⟨a1, q⟩ := ba q
    obtain ⟨a2, q⟩ := ba q
    obtain ⟨a3, q⟩ := ba q
    obtain ⟨a4, q⟩ := ba q
    obtain ⟨a5, q⟩ := ba q
    obtain ⟨a6, q⟩ := ba q
    obtain ⟨a7, a8⟩ := ba q
    have e1 : t = "code" := beq_iff_eq.mp a1
    subst e1
    have e2 : vs[11]? = some (.ref P) := of_decide_eq_true a2
    have s3 : ∃ x tk, vs.getD 18 .none = .str x tk := by
      cases e : vs.getD 18 .none with
      | str x tk => exact ⟨x, tk, rfl⟩
      | _ => rw [e] at a3; cases a3
    have s4 : ∃ x tk, vs.getD 7 .none = .int x tk := by
      cases e : vs.getD 7 .none with
      | int x tk => exact ⟨x, tk, rfl⟩
      | _ => rw [e] at a4; cases a4
    have s5 : ∃ x, vs.getD 9 .none = .bool x := by
      cases e : vs.getD 9 .none with
      | bool x => exact ⟨x, rfl⟩
      | _ => rw [e] at a5; cases a5
    have s6 : ∃ x tk, vs.getD 10 .none = .int x tk := by
      cases e : vs.getD 10 .none with
      | int x tk => exact ⟨x, tk, rfl⟩
      | _ => rw [e] at a6; cases a6
    obtain ⟨x3, t3, h3⟩ := s3
    obtain ⟨x4, t4, h4⟩ := s4
    obtain ⟨x5, h5⟩ := s5
    obtain ⟨x6, t6, h6⟩ := s6
    have e7 : c ≠ P := fun z => by
      subst z
      rw [show (c == c) = true from beq_self_eq_true c] at a7
      cases a7
    have e8 : K.lookup P = none := Option.isNone_iff_eq_none.mp a8
    refine ⟨⟨_, vs, x3, t3, x4, t4, x5, x6, t6, X _ _ ho, rfl, rfl, e2, ?_, h3, h4, h5, h6, e7⟩, e8, _, _, vs, _, ho, e2⟩
    rw [Array.getD_eq_getD_getElem?, e2]
    rfl
  · cases q
/-- an own error's class whose __init__ keeps its one argument -/
theorem err_of {P : Program} {w : World} {K : Frag} {mg : Str → Option Value} {base : Heap} {n f : Str} {C fI : Addr} {fd : FuncData} (gC : mg n = some (.ref C)) (T : OexC K C) (iC : findIn K (.ref C) "__init__" = some (some (.ref fI))) (tI : typeIn K (.ref fI) = some (.type "function"))
    (F : FnOk P w K mg base CX0 1 fI fd ["self", f] (spInitE C f)) (b : Binds K fd ["self", f] []) : ErrC P w K mg base n f C := ⟨gC, T, fI, fd, iC, tI, F, b⟩
theorem FunD.ok0 {P : Program} {w : World} {K : Frag} {mg : Str → Option Value} {base : Heap} {x qual : Str} {params : Arguments} {body : List Stmt} {scope : Scope} {dvs : List V} {kws : List (Str × V)} {f : Addr} {fd : FuncData} {N ps : List Str} {k : Nat} {sp : Sp}
    (F : FunD K x qual params body scope dvs kws f fd) (S : FnScope N ps scope) (len : ∀ vs H Q E, sp vs H Q E → vs.length = ps.length)
    (hbody : ∀ (cdv : Value) (A : Around) (outer : List Env) (s : Shared) (H : Hp) (vs : List V) (Q : VK) (E : XK), Room k (A.deeper (envOfC qual scope s.heap.objs.size f cdv)) → sp vs H Q E →
      ∃ t, PSs (cxOf CX0 P w K mg base N qual scope f cdv A outer s H E).nox body t ∧ t { nx := fun _ H' => Q .non H', rt := Q } (start N vs) H) : FnOk P w K mg base CX0 (k + 1) f fd ps sp :=
  F.ok S len fun cdv A outer s H vs Q E hr hsp => let ⟨t, h, q⟩ := hbody cdv A outer s H vs Q E hr hsp; ⟨t, h.nox, q⟩
theorem tup_of {K : Frag} {h : Heap} {mg : Str → Option Value} (X : K.In h) (G : h.Ns mainGlobals mg) {x : Str} {vs : List Str} (q1 : (Fa.glo x).ok K = true) (q2 : tupB K x (vs.map Dv.str) = true) : ∃ a, mg x = some (.ref a) ∧ ∀ H, SqT K H a (sts vs) :=
  ⟨ga K x, glo_ok X G q1, fun H => by
    have e := tupB_ok q2 H
    rw [List.map_map] at e
    exact e⟩
end FX
set_option Elab.async false
set_option linter.all false
set_option autoImplicit false
set_option maxRecDepth 100000
set_option maxHeartbeats 8000000
namespace K28
open PySem PySem.Spec L2 GB
abbrev sS (i : Nat) : Stmt := inClass (topS 24) i
def sgF (T : Str) (p : Nat) : List (Str × V) := [("text", .str T), ("place", .int (p : Int))]
theorem sgF_set (T : Str) (p q : Nat) : putF "place" (.int (q : Int)) (sgF T p) = sgF T q := by
  unfold sgF putF
  rw [if_neg (by decide +kernel), putF, if_pos rfl]
theorem sgF_text (T : Str) (p : Nat) : (sgF T p).lookup ("text" : Str) = some (.str T) := rfl
theorem sgF_place (T : Str) (p : Nat) : (sgF T p).lookup ("place" : Str) = some (.int (p : Int)) := by
  unfold sgF
  rw [List.lookup_cons, show ((("place" : Str)) == ("text" : Str)) = false by decide +kernel]
  rfl
structure SgAt (CS : Addr) (H : Hp) (S : Addr) (T : Str) (p : Nat) : Prop where
  ex : ∃ dx, H S = some (.ins CS dx (sgF T p))
structure SgC (K : PySem.W.Frag) (CS : Addr) : Prop where
  cl : Cls K CS
  nt : NoAttr K CS "text"
  np : NoAttr K CS "place"
def sgn : List Nat → Str
  | [] => Str.empty
  | c :: _ => ⟨#[c]⟩
theorem cl_cut (T : Str) (a b : Nat) : cl (cutS T (some (a : Int)) (some (b : Int))) = ((cl T).drop a).take (b - a) := by
  unfold cutS
  rw [cl_mk, HT.sIx_nat, HT.sIx_nat]
  have e : T.length = (cl T).length := cl_len T
  show ((cl T).drop (min a T.length)).take (min b T.length - min a T.length) = _
  rw [e]
  rcases Nat.lt_or_ge (cl T).length a with h | h
  · rw [show min a (cl T).length = (cl T).length by omega, List.drop_of_length_le (Nat.le_refl _), List.drop_of_length_le (show (cl T).length ≤ a by omega), List.take_nil, List.take_nil]
  · rw [show min a (cl T).length = a by omega]
    rcases Nat.lt_or_ge (cl T).length b with h2 | h2
    · rw [show min b (cl T).length = (cl T).length by omega, List.take_of_length_le (by rw [List.length_drop]; omega), List.take_of_length_le (by rw [List.length_drop]; omega)]
    · rw [show min b (cl T).length = b by omega]
theorem cut1 (T : Str) (p : Nat) : cutS T (some (p : Int)) (some ((p : Int) + 1)) = sgn ((cl T).drop p) := by
  refine cl_inj ?_
  have := cl_cut T p (p + 1)
  rw [show ((p + 1 : Nat) : Int) = (p : Int) + 1 from by omega] at this
  rw [this, show p + 1 - p = 1 by omega]
  cases h : (cl T).drop p with
  | nil => rfl
  | cons c r => rfl
/-- what is left of the text -/
structure Lf (T : Str) (p : Nat) (r : List Nat) : Prop where
  dr : (cl T).drop p = r
  le : p ≤ (cl T).length
  ln : (cl T).length ≤ 100000
theorem Lf.next {T : Str} {p : Nat} {c : Nat} {r : List Nat} (h : Lf T p (c :: r)) : Lf T (p + 1) r := by
  have e := congrArg List.length h.dr
  rw [List.length_drop, List.length_cons] at e
  refine ⟨?_, by omega, h.ln⟩
  have : (cl T).drop (p + 1) = ((cl T).drop p).drop 1 := by rw [List.drop_drop]
  rw [this, h.dr]
  rfl
theorem Lf.skip {T : Str} : ∀ {a : List Nat} {p : Nat} {r : List Nat}, Lf T p (a ++ r) → Lf T (p + a.length) r
  | [], p, r, h => h
  | c :: a, p, r, h => by
    have := Lf.skip (a := a) (h.next)
    rw [List.length_cons, show p + (a.length + 1) = p + 1 + a.length by omega]
    exact this
theorem sS_len {T : Str} {p : Nat} {r : List Nat} (h : Lf T p r) : T.length ≤ sizeLine := by
  rw [cl_len, sizeLine_eq]
  have := h.ln
  omega
def spSIni (CS : Addr) : Sp := fun vs H Q _ => ∃ (S dx : Addr) (T : Str), vs = [.ref S, .str T] ∧ H S = some (.ins CS dx []) ∧ ∀ H', Bt [S] H H' → SgAt CS H' S T 0 → Q .non H'
def spSign (CS : Addr) : Sp := fun vs H Q _ => ∃ (S : Addr) (T : Str) (p : Nat) (r : List Nat), vs = [.ref S] ∧ SgAt CS H S T p ∧ Lf T p r ∧ Q (.str (sgn r)) H
/-- how a method ends: with what is left behind it, or with BadText at the place that it cannot go beyond -/
def spTake1 (CS CB : Addr) : Sp := fun vs H Q E => ∃ (S : Addr) (T : Str) (p : Nat) (W : Str) (r : List Nat), vs = [.ref S, .str W] ∧ SgAt CS H S T p ∧ Lf T p r ∧
  (∀ r' p' H', lit (cl W) r = .ok () r' → Bt [S] H H' → SgAt CS H' S T p' → Lf T p' r' → Q .non H') ∧ (∀ r' p' d H', lit (cl W) r = .bad r' → Bt [S] H H' → Lf T p' r' → H' d = some (.xd [("place", .int (p' : Int))]) → E (.ref CB) (some d) H')
def spTakeN (CS CB : Addr) : Sp := fun vs H Q E => ∃ (S : Addr) (T : Str) (p : Nat) (r : List Nat), vs = [.ref S] ∧ SgAt CS H S T p ∧ Lf T p r ∧
  (∀ n r' p' H', takeN r = .ok n r' → Bt [S] H H' → SgAt CS H' S T p' → Lf T p' r' → Q (.str n) H') ∧ (∀ r' p' d H', takeN r = .bad r' → Bt [S] H H' → Lf T p' r' → H' d = some (.xd [("place", .int (p' : Int))]) → E (.ref CB) (some d) H')
section
variable {P : Program} {w : World} {K : PySem.W.Frag} {mg : Str → Option Value} {base : Heap} {CS CB : Addr}
theorem scS0 : FnScope ["self", "text"] ["self", "text"] (defScope (sS 0)) := ⟨rfl, rfl, rfl, by decide +kernel, rfl, by decide +kernel, by decide +kernel⟩
theorem scS1 : FnScope ["self"] ["self"] (defScope (sS 1)) := ⟨rfl, rfl, rfl, by decide +kernel, rfl, by decide +kernel, by decide +kernel⟩
theorem scS2 : FnScope ["self", "wanted", "sign"] ["self", "wanted"] (defScope (sS 2)) := ⟨rfl, rfl, rfl, by decide +kernel, rfl, by decide +kernel, by decide +kernel⟩
theorem scS3 : FnScope ["self", "first"] ["self"] (defScope (sS 3)) := ⟨rfl, rfl, rfl, by decide +kernel, rfl, by decide +kernel, by decide +kernel⟩
theorem SgAt.up {H : Hp} {S : Addr} {T : Str} {p q : Nat} (h : SgAt CS H S T p) : ∃ dx, H S = some (.ins CS dx (sgF T p)) ∧ Bt [S] H (upd H S (.ins CS dx (putF "place" (.int (q : Int)) (sgF T p)))) ∧ SgAt CS (upd H S (.ins CS dx (putF "place" (.int (q : Int)) (sgF T p)))) S T q := by
  obtain ⟨dx, e⟩ := h.ex
  exact ⟨dx, e, bt_upd (by simp), dx, by rw [upd_same, sgF_set]⟩
theorem ok_s0 {f : Addr} {fd : FuncData} (F : Fun K "__init__" "Signs.__init__" (sS 0) f fd) (C : SgC K CS) : FnOk P w K mg base CX0 1 f fd ["self", "text"] (spSIni CS) := by
  refine F.ok scS0 (fun vs H Q E h => ?_) (fun cdv A outer s H vs Q E hr h => ?_)
  · obtain ⟨S, dx, T, rfl, _⟩ := h
    rfl
  · obtain ⟨S, dx, T, rfl, hS, q⟩ := h
    refine ⟨_, pss_cons (ps_fld (pv 0) (pv 1) rfl) (pss_one (ps_fld (pv 0) (pe_int) rfl)), ?_⟩
    refine ⟨_, rfl, _, rfl, S, CS, dx, _, rfl, hS, C.cl, C.nt, by decide, ?_⟩
    obtain ⟨H1, b1, h1, e1⟩ : ∃ H1, Bt [S] H H1 ∧ H1 S = some (.ins CS dx (putF "text" (.str T) [])) ∧ upd H S (.ins CS dx (putF "text" (.str T) [])) = H1 := ⟨_, bt_upd (by simp), upd_same, rfl⟩
    rw [e1]
    refine ⟨_, rfl, S, CS, dx, _, rfl, h1, C.cl, C.np, by show 1 < 1000; decide, ?_⟩
    refine q _ (b1.trans (bt_upd (by simp))) ⟨dx, ?_⟩
    rw [upd_same]
    rfl
theorem ok_s1 {f : Addr} {fd : FuncData} (F : Fun K "sign" "Signs.sign" (sS 1) f fd) (C : SgC K CS) : FnOk P w K mg base CX0 1 f fd ["self"] (spSign CS) := by
  refine F.ok scS1 (fun vs H Q E h => ?_) (fun cdv A outer s H vs Q E hr h => ?_)
  · obtain ⟨S, T, p, r, rfl, _⟩ := h
    rfl
  · obtain ⟨S, T, p, r, rfl, hS, hl, q⟩ := h
    obtain ⟨dx, hS⟩ := hS.ex
    refine ⟨_, pss_one (ps_ret (pe_slice sl_str (pe_fld (pv 0) rfl) (po_some (pe_fld (pv 0) rfl)) (po_some (pe_op op_add (pe_fld (pv 0) rfl) pe_int)))), ?_⟩
    refine ⟨_, rfl, S, CS, dx, _, _, rfl, hS, C.cl, C.nt, sgF_text T p, ?_⟩
    refine ⟨_, rfl, S, CS, dx, _, _, rfl, hS, C.cl, C.np, sgF_place T p, _, rfl, ?_⟩
    refine ⟨_, rfl, S, CS, dx, _, _, rfl, hS, C.cl, C.np, sgF_place T p, _, _, rfl, rfl, _, rfl, T, rfl, sS_len hl, ?_⟩
    rw [cut1, hl.dr]
    exact q
theorem ok_s2 {f : Addr} {fd : FuncData} (F : Fun K "take" "Signs.take" (sS 2) f fd) (C : SgC K CS) (BT : ErrC P w K mg base "BadText" "place" CB) (SG : ∃ g gd, Meth K CS "sign" g ∧ FnOk P w K mg base CX0 1 g gd ["self"] (spSign CS) ∧ Binds K gd ["self"] []) : FnOk P w K mg base (L2.CX P w) 3 f fd ["self", "wanted"] (spTake1 CS CB) := by
  obtain ⟨g1, d1, M1, F1, B1⟩ := SG
  obtain ⟨fI, dI, iI, tI, FI, bI⟩ := BT.ini
  refine F.okX scS2 (fun vs H Q E h => ?_) (fun cdv A outer s H vs Q E hr h => ?_)
  · obtain ⟨S, T, p, W, r, rfl, _⟩ := h
    rfl
  · obtain ⟨S, T, p, W, r, rfl, hS, hl, q, qe⟩ := h
    refine ⟨_, pss_one (ps_for (passes_of rfl) rfl (pi_str (pv 1)) (pg_name (i := 2) scS2.nd rfl (.inl rfl)) (pss_cons (ps_if (pt_cmpR op_ne (pe_meth0 (pv 0) C.cl M1 F1 (hr.mono (by decide)) B1 .nil pass0 rfl) (pv 2) (nomark _)) (pss_one (ps_raise rfl (takes_of rfl rfl rfl rfl) (pmk_oex BT.T iI tI FI (hr.mono (by decide)) bI .nil pass0 rfl BT.gC (pa_cons (pe_fld (pv 0) rfl) (pa_nil))))) (pss_nil)) (pss_one (ps_fldaug (pv 0) (pe_int) iop_add)))), ?_⟩
    refine ⟨_, rfl, W, rfl, ?_⟩
    have ws : W.cps.size = (cl W).length := by unfold cl; rw [Array.length_toList]
    refine for_it walk_str (fun i σ H' => ∃ o2 ri, σ = [some (.ref S), some (.str W), o2] ∧ Bt [S] H H' ∧ SgAt CS H' S T (p + i) ∧ Lf T (p + i) ri ∧ lit ((cl W).drop i) ri = lit (cl W) r) ⟨_, r, rfl, Same.refl _, hS, hl, rfl⟩ (fun _ _ _ _ _ => trivial) ?turn ?done
    case done =>
      rintro σ H' ⟨o2, ri, rfl, B, hS', hl', e⟩
      rw [ws] at hS' hl' e
      rw [List.drop_of_length_le (Nat.le_refl _)] at e
      exact q ri _ H' e.symm B hS' hl'
    rintro i x σ H1 H1' hi ⟨o2, ri, rfl, B, hS1, hl1, e⟩ ⟨rfl, c, hc, rfl⟩
    have hd : (cl W).drop i = c :: (cl W).drop (i + 1) := by
      have h1 : (cl W)[i]? = some c := by unfold cl; rw [Array.getElem?_toList]; exact hc
      obtain ⟨h2, h3⟩ := List.getElem?_eq_some_iff.mp h1
      rw [List.drop_eq_getElem_cons h2, h3]
    rw [hd] at e
    obtain ⟨dx, e1, B2, hS2⟩ := hS1.up (q := p + i + 1)
    refine ⟨_, rfl, S, dx, _, rfl, e1, rfl, S, T, p + i, _, rfl, hS1, hl1, ?_⟩
    refine ⟨_, rfl, rfl, _, rfl, ?_⟩
    have bad : lit (cl W) r = .bad ri → _ := fun hb => mk_err (fun d H' s' h' => qe ri (p + i) d H' hb (B.trans (bt_of s')) hl1 h')
    cases ri with
    | nil =>
      rw [lit] at e
      rw [decS, decide_eq_false (fun z => by have z := congrArg cl z; cases z)]
      refine iteT ?_
      exact ⟨_, rfl, S, CS, dx, _, _, rfl, e1, C.cl, C.np, sgF_place T (p + i), by show 1 ≤ 1000; decide, fun a na => bad e.symm a na⟩
    | cons c' t =>
      rw [lit] at e
      by_cases hcc : c' = c
      · subst hcc
        rw [if_pos rfl] at e
        rw [decS, decide_eq_true (by rfl)]
        refine iteF ?_
        refine ⟨_, rfl, S, CS, dx, _, _, rfl, e1, C.cl, C.np, sgF_place T (p + i), _, _, rfl, rfl, dx, _, e1, by show 2 < 1000; decide, ?_⟩
        exact ⟨_, t, rfl, B.trans B2, hS2, hl1.next, e⟩
      · rw [if_neg hcc] at e
        rw [decS, decide_eq_false (fun z => by have z := congrArg cl z; exact hcc (List.cons.inj z).1)]
        refine iteT ?_
        exact ⟨_, rfl, S, CS, dx, _, _, rfl, e1, C.cl, C.np, sgF_place T (p + i), by show 1 ≤ 1000; decide, fun a na => bad e.symm a na⟩
theorem sgn_ltr {c : Nat} {r : List Nat} : (!decide ((sgn (c :: r)).cps.toList < ("a" : Str).cps.toList)) = decide (97 ≤ c) ∧ (!decide (("z" : Str).cps.toList < (sgn (c :: r)).cps.toList)) = decide (c ≤ 122) := by
  have e1 : ("a" : Str).cps.toList = [97] := by decide +kernel
  have e2 : ("z" : Str).cps.toList = [122] := by decide +kernel
  rw [e1, e2]
  show (!decide ([c] < [97])) = _ ∧ (!decide ([122] < [c])) = _
  have h1 : ([c] < [97]) ↔ c < 97 := by simp [List.cons_lt_cons_iff]
  have h2 : ([122] < [c]) ↔ 122 < c := by simp [List.cons_lt_cons_iff]
  simp only [h1, h2]
  constructor
  · by_cases h : c < 97
    · rw [decide_eq_true h, decide_eq_false (by omega)]; rfl
    · rw [decide_eq_false h, decide_eq_true (by omega)]; rfl
  · by_cases h : 122 < c
    · rw [decide_eq_true h, decide_eq_false (by omega)]; rfl
    · rw [decide_eq_false h, decide_eq_true (by omega)]; rfl
theorem ok_s3 {f : Addr} {fd : FuncData} (F : Fun K "take_name" "Signs.take_name" (sS 3) f fd) (C : SgC K CS) (BT : ErrC P w K mg base "BadText" "place" CB) (M : ∃ u, mg "MOST_SIGNS" = some u ∧ RelV (.int 8) u) (SG : ∃ g gd, Meth K CS "sign" g ∧ FnOk P w K mg base CX0 1 g gd ["self"] (spSign CS) ∧ Binds K gd ["self"] []) : FnOk P w K mg base (L2.CX P w) 3 f fd ["self"] (spTakeN CS CB) := by
  obtain ⟨g1, d1, M1, F1, B1⟩ := SG
  obtain ⟨uM, gM, rM⟩ := M
  obtain ⟨fI, dI, iI, tI, FI, bI⟩ := BT.ini
  refine F.okX scS3 (fun vs H Q E h => ?_) (fun cdv A outer s H vs Q E hr h => ?_)
  · obtain ⟨S, T, p, r, rfl, _⟩ := h
    rfl
  · obtain ⟨S, T, p, r, rfl, hS, hl, q, qe⟩ := h
    have r1 := hr.mono (show 1 ≤ 2 by decide)
    refine ⟨_, pss_cons (ps_set (i := 1) scS3.nd rfl (.inl rfl) (pe_fld (pv 0) rfl)) (pss_cons (ps_while (passes_of rfl) (PW.pt (pw_and (pt_cmpR op_lt (pe_fld (pv 0) rfl) (pe_op op_add (pv 1) (pe_glob rfl gM rM)) (nomark _)) (pw_and1 (pt_chain op_le_str op_le_str pe_str (pe_meth0 (pv 0) C.cl M1 F1 r1 B1 .nil pass0 rfl) pe_str)))) (pss_one (ps_fldaug (pv 0) (pe_int) iop_add))) (pss_cons (ps_if (pt_cmpR op_eq (pe_fld (pv 0) rfl) (pv 1) (nomark _)) (pss_one (ps_raise rfl (takes_of rfl rfl rfl rfl) (pmk_oex BT.T iI tI FI hr bI .nil pass0 rfl BT.gC (pa_cons (pv 1) (pa_nil))))) (pss_nil)) (pss_one (ps_ret (pe_slice sl_str (pe_fld (pv 0) rfl) (po_some (pv 1)) (po_some (pe_fld (pv 0) rfl))))))), ?_⟩
    obtain ⟨dx, e0⟩ := hS.ex
    refine ⟨_, rfl, S, CS, dx, _, _, rfl, e0, C.cl, C.np, sgF_place T p, ?_⟩
    refine ⟨fun m σ H' => ∃ a ri, a.length + m = 8 ∧ r = a ++ ri ∧ pNm 8 r = (a ++ (pNm m ri).1, (pNm m ri).2) ∧ σ = [some (.ref S), some (.int (p : Int))] ∧ Bt [S] H H' ∧ SgAt CS H' S T (p + a.length) ∧ Lf T (p + a.length) ri, ⟨8, [], r, rfl, rfl, rfl, rfl, Same.refl _, hS, hl⟩, ?_⟩
    rintro m σ H1 ⟨a, ri, hj, hr1, hpn, rfl, B, hS1, hl1⟩
    obtain ⟨dx1, e1⟩ := hS1.ex
    refine ⟨_, rfl, S, CS, dx1, _, _, rfl, e1, C.cl, C.np, sgF_place T (p + a.length), _, rfl, _, _, rfl, rfl, _, _, rfl, rfl, _, rfl, ?_⟩
    have ecut : cutS T (some (p : Int)) (some ((p + a.length : Nat) : Int)) = mkS a := by
      refine cl_inj ?_
      rw [cl_cut, hl.dr, show p + a.length - p = a.length by omega, hr1, List.take_left]
      rfl
    -- what stands there ends the name
    have fin : (pNm m ri).1 = [] → (pNm m ri).2 = ri → pNm 8 r = (a, ri) := fun h1 h2 => by rw [hpn, h1, h2, List.append_nil]
    by_cases hm : m = 0
    focus
      subst hm
      have hpn0 := fin rfl rfl
      rw [show (decide (((p + a.length : Nat) : Int) < (p : Int) + 8)) = false from decide_eq_false (by omega)]
      refine iteF ?_
      refine iteF ?_
    rotate_left
    focus
      obtain ⟨m, rfl⟩ : ∃ k, m = k + 1 := ⟨m - 1, by omega⟩
      rw [show (decide (((p + a.length : Nat) : Int) < (p : Int) + 8)) = true from decide_eq_true (by omega)]
      refine iteT ?_
      refine ⟨_, rfl, S, dx1, _, rfl, e1, rfl, S, T, p + a.length, ri, rfl, hS1, hl1, ?_⟩
      rcases ri with _ | ⟨c, t⟩
      focus
        have hpn0 := fin rfl rfl
        refine ⟨_, _, rfl, rfl, _, rfl, ?_⟩
        rw [show (!decide ((sgn []).cps.toList < ("a" : Str).cps.toList)) = false by decide +kernel]
        refine iteF ?_
        refine ⟨_, rfl, ?_⟩
        refine iteF ?_
      rotate_left
      by_cases hc : ltB c = true
      focus
        have lc := ltB_iff.mp hc
        unfold ltr at lc
        refine ⟨_, _, rfl, rfl, _, rfl, ?_⟩
        rw [sgn_ltr.1, decide_eq_true lc.1]
        refine iteT ?_
        refine ⟨_, _, rfl, rfl, _, rfl, ?_⟩
        rw [sgn_ltr.2, decide_eq_true lc.2]
        refine iteT ?_
        obtain ⟨dx2, e2, B2, hS2⟩ := hS1.up (q := p + a.length + 1)
        have la : (a ++ [c]).length = a.length + 1 := by simp
        refine ⟨fun σ' H' => σ' = [some (.ref S), some (.int (p : Int))] ∧ Bt [S] H H' ∧ SgAt CS H' S T (p + (a ++ [c]).length) ∧ Lf T (p + (a ++ [c]).length) t, fun σ' H' h => ⟨m, by omega, a ++ [c], t, by omega, by rw [hr1]; simp, by rw [hpn, pNm, if_pos hc]; simp, h⟩, ?_⟩
        refine ⟨_, rfl, S, CS, dx2, _, _, rfl, e2, C.cl, C.np, sgF_place T (p + a.length), _, _, rfl, rfl, dx2, _, e2, by show 2 < 1000; decide, ?_⟩
        rw [la]
        exact ⟨rfl, B.trans B2, hS2, hl1.next⟩
      have hpn0 := fin (by rw [pNm, if_neg hc]) (by rw [pNm, if_neg hc])
      have nc : ¬ (97 ≤ c ∧ c ≤ 122) := fun h => hc (ltB_iff.mpr h)
      by_cases h97 : 97 ≤ c
      focus
        refine ⟨_, _, rfl, rfl, _, rfl, ?_⟩
        rw [sgn_ltr.1, decide_eq_true h97]
        refine iteT ?_
        refine ⟨_, _, rfl, rfl, _, rfl, ?_⟩
        rw [sgn_ltr.2, decide_eq_false (fun h => nc ⟨h97, h⟩)]
        refine iteF ?_
      rotate_left
      focus
        refine ⟨_, _, rfl, rfl, _, rfl, ?_⟩
        rw [sgn_ltr.1, decide_eq_false h97]
        refine iteF ?_
        refine ⟨_, rfl, ?_⟩
        refine iteF ?_
    all_goals
      refine ⟨_, rfl, S, CS, dx1, _, _, rfl, e1, C.cl, C.np, sgF_place T _, _, rfl, rfl, _, rfl, ?_⟩
      by_cases ha : a = []
      focus
        subst ha
        rw [show (decide (V.int ((p + ([] : List Nat).length : Nat) : Int) = V.int (p : Int))) = true from decide_eq_true rfl]
        refine iteT ?_
        refine ⟨_, rfl, by show 1 ≤ 1000; decide, fun a na => mk_err (fun d H' s' h' => qe r p d H' ?_ (B.trans (bt_of s')) hl h') a na⟩
        unfold takeN
        rw [hpn0, if_pos rfl]
      rw [show (decide (V.int ((p + a.length : Nat) : Int) = V.int (p : Int))) = false from decide_eq_false (fun e => by
        have e := V.int.inj e
        have : a.length ≠ 0 := fun z => ha (List.eq_nil_of_length_eq_zero z)
        omega)]
      refine iteF ?_
      refine ⟨_, rfl, S, CS, dx1, _, _, rfl, e1, C.cl, C.nt, sgF_text T _, ?_⟩
      refine ⟨_, rfl, _, rfl, _, rfl, S, CS, dx1, _, _, rfl, e1, C.cl, C.np, sgF_place T _, _, rfl, T, rfl, sS_len hl, ?_⟩
      rw [ecut]
      refine q (mkS a) _ _ H1 ?_ B hS1 hl1
      unfold takeN
      rw [hpn0, if_neg ha]
end
end K28
set_option Elab.async false
set_option linter.all false
set_option autoImplicit false
set_option maxRecDepth 100000
set_option maxHeartbeats 8000000
namespace K28
open PySem PySem.Spec L2 GB
def twN : List Str := ["self", "first", "begun", "word"]
/-- the module's WORDS -/
def Wds (K : PySem.W.Frag) (mg : Str → Option Value) : Prop := ∃ a, mg "WORDS" = some (.ref a) ∧ ∀ H, SqT K H a (sts wdsW)
theorem starts_pre (x : Str) (b : List Nat) : Txt.startswith x (mkS b) = b.isPrefixOf (cl x) := by
  have e2 : (Builtin.Str.subAt x (mkS b) 0) = ((cl x).take b.length == b) := by
    rw [StrLaws.subAt_eq, List.drop_zero]
    rfl
  unfold Txt.startswith
  rw [e2]
  have e3 : decide (0 + (mkS b).length ≤ x.length) = decide (b.length ≤ (cl x).length) := by
    rw [cl_len x]
    have : (mkS b).length = b.length := rfl
    rw [this, Nat.zero_add]
  rw [e3]
  by_cases h : b.isPrefixOf (cl x) = true
  · rw [h]
    obtain ⟨t, ht⟩ := List.isPrefixOf_iff_prefix.mp h
    rw [decide_eq_true (by rw [← ht, List.length_append]; omega), ← ht, List.take_left, beq_self_eq_true]
    rfl
  · rw [Bool.eq_false_iff.mpr h]
    by_cases hl : b.length ≤ (cl x).length
    · rw [decide_eq_true hl, Bool.true_and]
      refine Bool.eq_false_iff.mpr fun z => h ?_
      exact List.isPrefixOf_iff_prefix.mpr ⟨(cl x).drop b.length, by
        have := beq_iff_eq.mp z
        have e := List.take_append_drop b.length (cl x)
        rw [this] at e
        exact e⟩
    · rw [decide_eq_false hl]; rfl
theorem any_beg (b : List Nat) : ((wdsW.map fun x => Txt.startswith x (mkS b)).any id) = begB b := by
  unfold begB
  rw [List.any_map]
  refine congrArg (fun f => wdsW.any f) (funext fun x => ?_)
  show Txt.startswith x (mkS b) = _
  rw [starts_pre]
theorem isWd_iff (a : List Nat) : decide (mkS a ∈ wdsW) = isWd a := by
  by_cases h : mkS a ∈ wdsW
  · rw [decide_eq_true h]
    exact (show isWd a = true from List.any_eq_true.mpr ⟨mkS a, h, (beq_self_eq_true a : (cl (mkS a) == a) = true)⟩).symm
  · rw [decide_eq_false h]
    refine (Bool.eq_false_iff.mpr fun z => h ?_).symm
    obtain ⟨w, hw, e⟩ := List.any_eq_true.mp z
    rw [show mkS a = w from cl_inj (beq_iff_eq.mp e).symm]
    exact hw
def spTakeW (CS CB : Addr) : Sp := fun vs H Q E => ∃ (S : Addr) (T : Str) (p : Nat) (r : List Nat), vs = [.ref S] ∧ SgAt CS H S T p ∧ Lf T p r ∧
  (∀ n r' p' H', takeW [] r = .ok n r' → Bt [S] H H' → SgAt CS H' S T p' → Lf T p' r' → Q (.str n) H') ∧ (∀ r' p' d H', takeW [] r = .bad r' → Bt [S] H H' → Lf T p' r' → H' d = some (.xd [("place", .int (p' : Int))]) → E (.ref CB) (some d) H')
section
variable {P : Program} {w : World} {K : PySem.W.Frag} {mg : Str → Option Value} {base : Heap} {CS CB : Addr}
theorem scS4 : FnScope twN ["self"] (defScope (sS 4)) := ⟨rfl, rfl, rfl, by decide +kernel, rfl, by decide +kernel, by decide +kernel⟩
theorem ok_s4 {f : Addr} {fd : FuncData} (F : Fun K "take_word" "Signs.take_word" (sS 4) f fd) (T : Bl mg) (C : SgC K CS) (BT : ErrC P w K mg base "BadText" "place" CB) (Wd : Wds K mg) (SG : ∃ g gd, Meth K CS "sign" g ∧ FnOk P w K mg base CX0 1 g gd ["self"] (spSign CS) ∧ Binds K gd ["self"] []) : FnOk P w K mg base (L2.CX P w) 3 f fd ["self"] (spTakeW CS CB) := by
  obtain ⟨g1, d1, M1, F1, B1⟩ := SG
  obtain ⟨aN, gN, hN⟩ := Wd
  obtain ⟨fI, dI, iI, tI, FI, bI⟩ := BT.ini
  refine F.okX scS4 (fun vs H Q E h => ?_) (fun cdv A outer s H vs Q E hr h => ?_)
  · obtain ⟨S, T, p, r, rfl, _⟩ := h
    rfl
  · obtain ⟨S, TT, p, r, rfl, hS, hl, q, qe⟩ := h
    have r1 := hr.mono (show 1 ≤ 2 by decide)
    refine ⟨_, pss_cons (ps_set (i := 1) scS4.nd rfl (.inl rfl) (pe_fld (pv 0) rfl)) (pss_cons (ps_while (passes_of rfl) (pt_cmpR op_notIn_seq (pe_slice sl_str (pe_fld (pv 0) rfl) (po_some (pv 1)) (po_some (pe_fld (pv 0) rfl))) (pe_glob (v := .ref aN) rfl gN rfl) (by rfl))
      (pss_cons (ps_set (i := 2) scS4.nd rfl (.inr rfl) (pe_slice sl_str (pe_fld (pv 0) rfl) (po_some (pv 1)) (po_some (pe_op op_add (pe_fld (pv 0) rfl) pe_int))))
      (pss_cons (ps_if (PW.pt (pw_or (pt_cmpR op_eq (pe_meth0 (pv 0) C.cl M1 F1 r1 B1 .nil pass0 rfl) pe_str (nomark _)) (pw_or1 (pt_not (pt_val (pe_callB (cr_any rfl) (by rfl) T.any (by decide +kernel) (pa_cons (pe_lc (own := [("word", 3)]) (g := gName 3) (tt := tYes) rfl scS4.nd (pi_seqW (pe_glob (v := .ref aN) rfl gN rfl)) (blkOk_by (own := [("word", 3)]) (N := twN) (sc := defScope (sS 4)) (by decide +kernel)) (fun _ _ _ _ _ => pg_name (i := 3) scS4.nd rfl (.inl rfl)) (fun _ _ _ _ _ => pts_nil) (fun _ _ _ _ _ => pe_m1 PySem.F.slot_str_startswith PySem.F.type_str_startswith mt_startswith (pv 3) (pv 2))) pa_nil))))))) (pss_one (ps_raise rfl (takes_of rfl rfl rfl rfl) (pmk_oex BT.T iI tI FI hr bI .nil pass0 rfl BT.gC (pa_cons (pe_fld (pv 0) rfl) (pa_nil))))) pss_nil)
      (pss_one (ps_fldaug (pv 0) (pe_int) iop_add))))) (pss_one (ps_ret (pe_slice sl_str (pe_fld (pv 0) rfl) (po_some (pv 1)) (po_some (pe_fld (pv 0) rfl)))))), ?_⟩
    obtain ⟨dx, e0⟩ := hS.ex
    refine ⟨_, rfl, S, CS, dx, _, _, rfl, e0, C.cl, C.np, sgF_place TT p, ?_⟩
    refine ⟨fun m σ H' => ∃ a ri o2 o3, m = ri.length ∧ r = a ++ ri ∧ takeW [] r = takeW a ri ∧ σ = [some (.ref S), some (.int (p : Int)), o2, o3] ∧ Bt [S] H H' ∧ SgAt CS H' S TT (p + a.length) ∧ Lf TT (p + a.length) ri, ⟨_, [], r, _, _, rfl, rfl, rfl, rfl, Same.refl _, hS, hl⟩, ?_⟩
    rintro m σ H1 ⟨a, ri, o2, o3, rfl, hr1, htw, rfl, B, hS1, hl1⟩
    obtain ⟨dx1, e1⟩ := hS1.ex
    have ecut : ∀ b t, r = b ++ t → cutS TT (some (p : Int)) (some ((p + b.length : Nat) : Int)) = mkS b := fun b t hi => by
      refine cl_inj ?_
      rw [cl_cut, hl.dr, show p + b.length - p = b.length by omega, hi, List.take_left]
      rfl
    refine ⟨_, rfl, S, CS, dx1, _, _, rfl, e1, C.cl, C.nt, sgF_text TT _, ?_⟩
    refine ⟨_, rfl, _, rfl, _, rfl, S, CS, dx1, _, _, rfl, e1, C.cl, C.np, sgF_place TT _, _, rfl, TT, rfl, sS_len hl, ?_⟩
    rw [ecut a ri hr1]
    refine ⟨aN, sts wdsW, rfl, .inr (hN H1), rfl, flat_sts _, _, rfl, ?_⟩
    rw [show (if true = true then !inV (.str (mkS a)) (sts wdsW) else inV (.str (mkS a)) (sts wdsW)) = !isWd a from by rw [if_pos rfl, inV_sts, isWd_iff]]
    by_cases hw : isWd a = true
    · rw [hw]
      refine iteF ?_
      refine ⟨_, rfl, S, CS, dx1, _, _, rfl, e1, C.cl, C.nt, sgF_text TT _, ?_⟩
      refine ⟨_, rfl, _, rfl, _, rfl, S, CS, dx1, _, _, rfl, e1, C.cl, C.np, sgF_place TT _, _, rfl, TT, rfl, sS_len hl, ?_⟩
      rw [ecut a ri hr1]
      refine q _ ri _ H1 ?_ B hS1 hl1
      rw [htw]
      cases ri with
      | nil => rw [takeW, if_pos hw]
      | cons c t => rw [takeW, if_pos hw]
    · rw [Bool.eq_false_iff.mpr hw]
      refine iteT ?_
      refine ⟨fun σ' H' => ∃ c t o2 o3, ri = c :: t ∧ takeW a ri = takeW (a ++ [c]) t ∧ σ' = [some (.ref S), some (.int (p : Int)), o2, o3] ∧ Bt [S] H H' ∧ SgAt CS H' S TT (p + (a ++ [c]).length) ∧ Lf TT (p + (a ++ [c]).length) t, fun σ' H' ⟨c, t, o2, o3, h1, h2, h⟩ => ⟨_, by rw [h1]; exact Nat.lt_succ_self _, a ++ [c], t, o2, o3, rfl, by rw [hr1, h1]; simp, htw.trans h2, h⟩, ?_⟩
      refine ⟨_, rfl, S, CS, dx1, _, _, rfl, e1, C.cl, C.nt, sgF_text TT _, ?_⟩
      refine ⟨_, rfl, _, rfl, _, rfl, S, CS, dx1, _, _, rfl, e1, C.cl, C.np, sgF_place TT _, _, _, rfl, rfl, _, rfl, TT, rfl, sS_len hl, ?_⟩
      refine ⟨_, rfl, S, dx1, _, rfl, e1, rfl, S, TT, p + a.length, ri, rfl, hS1, hl1, rfl, _, rfl, ?_⟩
      cases ri with
      | nil =>
        rw [show (decide (V.str (sgn []) = V.str "")) = true from decide_eq_true rfl]
        refine iteT ?_
        refine iteT ?_
        refine ⟨_, rfl, S, CS, dx1, _, _, rfl, e1, C.cl, C.np, sgF_place TT (p + a.length), by show 1 ≤ 1000; decide, fun a' na => mk_err (fun d H' s' h' => qe [] _ d H' ?_ (B.trans (bt_of s')) hl1 h') a' na⟩
        rw [htw, takeW, if_neg hw]
      | cons c t =>
        have la : (a ++ [c]).length = a.length + 1 := by simp
        have ec := ecut (a ++ [c]) t (by rw [hr1]; simp)
        rw [show ((p + (a ++ [c]).length : Nat) : Int) = ((p + a.length : Nat) : Int) + 1 by rw [la]; omega] at ec
        rw [ec]
        rw [show (decide (V.str (sgn (c :: t)) = V.str "")) = false from decide_eq_false (fun e => by have e := congrArg cl (V.str.inj e); cases e)]
        refine iteF ?_
        have hq : SqV K (hid [] H1) aN (sts wdsW) false := hN _
        refine ⟨aN, sts wdsW, false, [], rfl, hq, fun J WJ D nD => ?_⟩
        refine lc_it WJ (fun i H' => Same H1 H' ∧ H' D = some (.lst (((wdsW.map fun x => Txt.startswith x (mkS (a ++ [c]))).take i).map V.bl))) ⟨same_new nD, upd_same⟩ (fun i H' _ _ => hN _) ?_ ?_
        · rintro i x H2 H2' hi ⟨s2, h2⟩ ⟨rfl, hx⟩
          obtain ⟨sx, hsx, rfl⟩ := sts_at hx
          refine ⟨rfl, ?_⟩
          refine ⟨_, rfl, ⟨_, rfl⟩, _, rfl, _, _, rfl, rfl, ?_⟩
          refine ⟨_, h2, by rw [List.length_map, List.length_take, sizeLine_eq]; show min i _ < 16777216; have : i < 9 := hi; omega, fun b o e => ?_, ?_⟩
          · rw [upd_ne (ne_of_none e nD)]; exact s2 _ _ e
          · rw [upd_same, take_at (l := wdsW.map fun x => Txt.startswith x (mkS (a ++ [c]))) (by rw [List.getElem?_map, hsx]; rfl), List.map_append]
            rfl
        · rintro H3 ⟨s3, h3⟩
          rw [List.take_of_length_le (by rw [List.length_map]; exact Nat.le_refl _)] at h3
          refine ⟨D, _, rfl, SqL.of h3, ?_⟩
          rw [any_beg]
          have e3 := s3 _ _ e1
          have hS3 : SgAt CS H3 S TT (p + a.length) := ⟨_, e3⟩
          by_cases hb : begB (a ++ [c]) = true
          · rw [hb]
            refine ⟨_, rfl, ?_⟩
            refine iteF ?_
            obtain ⟨dx2, e2, B2, hS2⟩ := hS3.up (q := p + a.length + 1)
            refine ⟨_, rfl, S, CS, dx2, _, _, rfl, e2, C.cl, C.np, sgF_place TT (p + a.length), _, _, rfl, rfl, dx2, _, e2, by show 2 < 1000; decide, ?_⟩
            refine ⟨c, t, _, _, rfl, by rw [takeW, if_neg hw, if_pos hb], rfl, (B.trans (bt_of s3)).trans B2, ?_, ?_⟩
            · rw [la]; exact hS2
            · rw [la]; exact hl1.next
          · rw [Bool.eq_false_iff.mpr hb]
            refine ⟨_, rfl, ?_⟩
            refine iteT ?_
            refine ⟨_, rfl, S, CS, dx1, _, _, rfl, e3, C.cl, C.np, sgF_place TT (p + a.length), by show 1 ≤ 1000; decide, fun a' na => mk_err (fun d H' s' h' => qe (c :: t) _ d H' ?_ ((B.trans (bt_of s3)).trans (bt_of s')) hl1 h') a' na⟩
            rw [htw, takeW, if_neg hw, if_neg hb]
end
end K28
set_option Elab.async false
set_option linter.all false
set_option maxRecDepth 100000
set_option maxHeartbeats 4000000
/-! A dict whose keys are tuples of texts and such tuples. -/
namespace GB
open PySem PySem.Spec L2 PyProof.Rows
mutual
inductive NkV (H : Hp) : NestedKey → V → Prop
  | text (x : Str) : NkV H (.text x) (.str x)
  | tup {a : Addr} {xs : List V} {ks : List NestedKey} : H a = some (.tup xs) → NkAll H ks xs → NkV H (.tup ks) (.ref a)
inductive NkAll (H : Hp) : List NestedKey → List V → Prop
  | nil : NkAll H [] []
  | cons {k v ks vs} : NkV H k v → NkAll H ks vs → NkAll H (k :: ks) (v :: vs)
end
section
variable {X : Cx} {pins : List (Addr × Obj)} {σ : L2.St} {H : Hp} {s : Shared}
mutual
theorem NkV.is (I : Inv X pins σ H s) : ∀ (k : NestedKey) (v : V) (u : Value), NkV H k v → RelV v u → NestedIs s.heap k u
  | .text x, _, _, h, r => by
    cases h
    obtain ⟨t, rfl⟩ := r
    exact .text x t
  | .tup ks, _, _, h, r => by
    cases h with
    | @tup a xs _ ha hx =>
      obtain rfl := (show _ = Value.ref a from r)
      obtain ⟨_, its, rv, o, h1, h2, n, h3⟩ := (show ObjOk X.prog X.w H s.heap a (.tup xs) from I.hok a _ ha)
      exact .tup h1 h2 h3 (NkAll.is I ks xs its hx rv)
  | .none, _, _, h, _ => nomatch h
  | .num _, _, _, h, _ => nomatch h
theorem NkAll.is (I : Inv X pins σ H s) : ∀ (ks : List NestedKey) (vs : List V) (us : List Value), NkAll H ks vs → Vals vs us → NestedAll s.heap ks us
  | [], _, _, h, r => by
    cases h
    cases r
    exact .nil
  | k :: ks, _, _, h, r => by
    cases h with
    | cons h1 h2 =>
      cases r with
      | cons r1 r2 => exact .cons (NkV.is I k _ _ h1 r1) (NkAll.is I ks _ _ h2 r2)
end
end
abbrev NX := List (NestedKey × Addr × Value)
/-- the dict at d, its entries -/
def ndO (P : Program) (w : World) (d : Addr) (xs : NX) : HO := .ext fun h => (d == sysModules) = false ∧ ∃ o es ep, h.get? d = some o ∧ o.ExactDict ∧ o.data = .dict es ep ∧ es.toList = xs.map (entryOfKey (nestedKind P w)) ∧ (xs.map (·.1)).Nodup
def NdKeys (H : Hp) (xs : NX) : Prop := ∀ e ∈ xs, NkV H e.1 (.ref e.2.1) ∧ e.1.depth ≤ 8
theorem nd_ok {P : Program} {w : World} {H : Hp} {h : Heap} {d : Addr} {xs : NX} (hd : (d == sysModules) = false) (m : h.DictOfH (nestedKind P w) d xs) : ObjOk P w H h d (ndO P w d xs) := by
  obtain ⟨o, es, ep, h1, h2, h3, h4, _, h5⟩ := m
  exact ⟨⟨hd, o, es, ep, h1, h2, h3, h4, h5⟩, ⟨o, h1⟩, fun a b ⟨q0, o', es', ep', q1, q2⟩ k => ⟨q0, o', es', ep', k _ q1, q2⟩⟩
section
variable {X : Cx} {pins : List (Addr × Obj)} {σ : L2.St} {H : Hp} {s : Shared}
theorem nd_of (I : Inv X pins σ H s) {d : Addr} {xs : NX} (e : H d = some (ndO X.prog X.w d xs)) (k : NdKeys H xs) : (d == sysModules) = false ∧ s.heap.DictOfH (nestedKind X.prog X.w) d xs := by
  obtain ⟨⟨q0, o, es, ep, q1, q2, q3, q4, q5⟩, _⟩ := (show ObjOk X.prog X.w H s.heap d (ndO X.prog X.w d xs) from I.hok d _ e)
  exact ⟨q0, o, es, ep, q1, q2, q3, q4, fun x hx => ⟨NkV.is I _ _ _ (k x hx).1 rfl, (k x hx).2⟩, q5⟩
theorem pe_dnewN {pos : Pos} : PE X (.Dict [] [] pos) (fun _ H Q => ∀ p, H p = none → Q (.ref p) (upd H p (ndO X.prog X.w p []))) := ⟨fun pins s σ H Q I h =>
  wpAny_Dict_empty ⟨.ref s.heap.objs.size, _, I.laid (a := s.heap.objs.size) (o := ndO X.prog X.w s.heap.objs.size []) (t' := s.toks) (fun _ _ q => Heap.get?_push_of_some _ q) (Nat.le_refl _)
    (nd_ok (beq_eq_false_iff_ne.mpr (Ne.symm (Nat.ne_of_lt I.big))) (Heap.DictOfH.new s.heap)), rfl, h _ (I.hok.fresh (Nat.le_refl _))⟩⟩
def rInN (P : Program) (w : World) : R2 := fun x y H Q => ∃ (a d : Addr) (k : NestedKey) (xs : NX), x = .ref a ∧ y = .ref d ∧ H d = some (ndO P w d xs) ∧ NdKeys H xs ∧ NkV H k (.ref a) ∧ k.depth ≤ 8 ∧ Q (.bl (atKey xs k).isSome) H
theorem op_inN (hu : X.A.units + 9 < cLine) : OpR X (compareOp .In) (rInN X.prog X.w) := by
  intro pins s σ H x y v u Q I rx ry h
  obtain ⟨a, d, k, xs, rfl, rfl, hd, hk, ha, h8, q⟩ := h
  cases rx
  cases ry
  obtain ⟨h0, hm⟩ := nd_of I hd hk
  exact wpAny_in_heap (knd := nestedKind X.prog X.w) (k := k) (by show X.A.in1.units + 8 < cLine; rw [Around.in1_units]; omega) ⟨NkV.is I _ _ _ ha rfl, h8⟩ h0 hm ⟨.bl (atKey xs k).isSome, H, I.tok _, rfl, q⟩
def rSetN (P : Program) (w : World) : TSet := fun o i v H Q => ∃ (d a b : Addr) (k : NestedKey) (xs : NX), o = .ref d ∧ i = .ref a ∧ v = .ref b ∧ H d = some (ndO P w d xs) ∧ NdKeys H xs ∧ NkV H k (.ref a) ∧ k.depth ≤ 8 ∧ xs.length ≤ 1000 ∧ Q (upd H d (ndO P w d (storedH xs k a (.ref b))))
theorem set_dictN (hu : X.A.units + 9 < cLine) : PSet X (rSetN X.prog X.w) := by
  intro pins s σ H o i v ov iv u Q I ro ri rv h
  obtain ⟨d, a, b, k, xs, rfl, rfl, rfl, hd, hk, ha, h8, hl, q⟩ := h
  cases ro
  cases ri
  cases rv
  obtain ⟨h0, hm⟩ := nd_of I hd hk
  refine wpAny_setItem_heap (knd := nestedKind X.prog X.w) (k := k) (hsz := by rw [sizeLine_eq]; omega) (by show X.A.in1.units + 8 < cLine; rw [Around.in1_units]; omega) ⟨NkV.is I _ _ _ ha rfl, h8⟩ hm (fun h' hm' hs => ?_)
  obtain ⟨o', es, ep, e1, _⟩ := id hm'
  exact ⟨_, d_write I (by rw [hd]; exact True.intro) hs ⟨o', e1⟩ (nd_ok h0 hm'), q⟩
theorem vals_refs : ∀ bs : List Addr, Vals (bs.map V.ref) (bs.map Value.ref)
  | [] => .nil
  | b :: r => .cons rfl (vals_refs r)
/-- the view of the values of the dict at d -/
def valsO (p d : Addr) : HO := .ext fun h => h.IsValuesView p d
def tValsN (P : Program) (w : World) (td : TE) : TE := fun σ H Q => td σ H fun x H1 => ∃ (d : Addr) (xs : NX), x = .ref d ∧ H1 d = some (ndO P w d xs) ∧ ∀ p, H1 p = none → Q (.ref p) (upd H1 p (valsO p d))
theorem pe_valsN {o : Expr} {td : TE} {apos cpos : Pos} (he : PE X o td) (hbase : attributeBase o "values" X.env (eval o X.env) = eval o X.env := by rfl) (hline : (apos.endLine == cpos.line) = true := by rfl) : PE X (.Call (.Attribute o "values" apos) [] [] cpos) (tValsN X.prog X.w td) := by
  refine ⟨fun pins s σ H Q I h => ?_⟩
  refine wpAny_Call_method (T := "dict") (id := "dict.values") hbase rfl hline F.plainAttrs_dict F.slot_dict_values F.type_dict_values (thn (he.run pins s σ H _ I h) fun u s1 ⟨x, H1, I1, rx, d, xs, ex, hd, q⟩ => ?_)
  subst ex
  obtain rfl : u = Value.ref d := rx
  obtain ⟨⟨h0, ob, es, ep, q1, q2, q3, q4, q5⟩, _⟩ := (show ObjOk X.prog X.w H1 s1.heap d (ndO X.prog X.w d xs) from I1.hok d _ hd)
  have raw : s1.heap.DictRaw d es ep := ⟨ob, q1, q2, q3⟩
  refine ⟨raw.typeIs, ?_, ?_⟩
  · intro a e
    cases e
    exact ⟨ob, q1, q2.2.1⟩
  · show wpAny _ _ (callWith cpos (.builtin "dict.values") [.ref d] [] []) _ X.xe s1
    have hf : H1 s1.heap.objs.size = none := I1.hok.fresh (Nat.le_refl _)
    exact method_meetsIn F.slot_dict_values F.entry_dict_values rfl (PySem.evalArgs_none ⟨rfl, raw.typeIs, F.args_dict_values_1 _, _, meets_dict_values_raw d h0, ⟨_, _, raw⟩, ⟨.ref s1.heap.objs.size, upd H1 s1.heap.objs.size (valsO s1.heap.objs.size d), I1.laid (t' := s1.toks) (fun b u e => Heap.get?_push_of_some _ e) (Nat.le_refl _) ⟨⟨_, Heap.get?_push_size _ rfl, rfl, rfl⟩, ⟨_, Heap.get?_push_size _ rfl⟩, fun h1 h2 ⟨o, ho, r⟩ k => ⟨o, k o ho, r⟩⟩, rfl, q _ hf⟩⟩)
/-- list(d.values()) -/
def rListVN (P : Program) (w : World) : List V → Hp → VK → Prop := fun vs H Q => ∃ (p d : Addr) (xs : NX) (bs : List Addr), vs = [.ref p] ∧ H p = some (valsO p d) ∧ H d = some (ndO P w d xs) ∧ xs.map (fun x => x.2.2) = bs.map Value.ref ∧ bs.length ≤ 1000 ∧ ∀ l, H l = none → Q (.ref l) (upd H l (.lst (bs.map V.ref)))
theorem call_listVN (hc : X.calm = true) : CallR X (.type "list") (rListVN X.prog X.w) := by
  intro pins s σ H vs us Q I r h
  obtain ⟨p, d, xs, bs, rfl, hp, hd, hv, hl, q⟩ := h
  obtain ⟨u, rfl, ru⟩ := r.one
  cases (show u = Value.ref p from ru)
  obtain ⟨⟨h0, ob, es, ep, q1, q2, q3, q4, q5⟩, _⟩ := (show ObjOk X.prog X.w H s.heap d (ndO X.prog X.w d xs) from I.hok d _ hd)
  obtain ⟨hview, _⟩ := (show ObjOk X.prog X.w H s.heap p (valsO p d) from I.hok p _ hp)
  have hes : es.size = bs.length := by
    rw [← Array.length_toList, q4, List.length_map, ← List.length_map (f := fun x : NestedKey × Addr × Value => x.2.2), hv, List.length_map]
  refine PySem.W.kdl_call (KdlSrc.rawValues) (I.ok.hd hc) ⟨hview, ob, q1, q2, q3⟩ (by rw [hes, sizeLine_eq]; omega) fun h' tk acc c hk hL hacc => ?_
  have eacc : acc.toList = bs.map Value.ref := by
    rw [← hv]
    refine List.ext_getElem? fun j => ?_
    rw [List.getElem?_map, Array.getElem?_toList]
    have hx : es[j]? = xs[j]?.map (entryOfKey (nestedKind X.prog X.w)) := by rw [← Array.getElem?_toList, q4, List.getElem?_map]
    cases e : acc[j]? with
    | none =>
      have h1 : es.size ≤ j := by rw [← hacc.1]; exact Array.getElem?_eq_none_iff.mp e
      rw [Array.getElem?_eq_none_iff.mpr h1] at hx
      cases e2 : xs[j]? with
      | none => rfl
      | some y => rw [e2] at hx; cases hx
    | some v =>
      obtain ⟨hi, ev⟩ := hacc.2 j v e
      rw [Array.getElem?_eq_getElem hi] at hx
      cases e2 : xs[j]? with
      | none => rw [e2] at hx; cases hx
      | some y =>
        rw [e2] at hx
        have := Option.some.inj hx
        rw [ev, this]
        rfl
  refine ⟨.ref s.heap.objs.size, upd H s.heap.objs.size (.lst (bs.map V.ref)), I.laid (t' := tk) hk (Nat.le_refl _) ⟨by rw [List.length_map, sizeLine_eq]; omega, bs.map Value.ref, c, ?_, by rw [hL, ← eacc]⟩, rfl, q _ (I.hok.fresh (Nat.le_refl _))⟩
  exact vals_refs bs
end
end GB
set_option Elab.async false
set_option linter.all false
set_option maxRecDepth 100000
set_option maxHeartbeats 4000000
/-! Places in terms: the part there, the names that are bound around it, another term in its place. -/
namespace GB
open PySem PySem.Spec L2
/-- at the path r of t (within the names ns) stands s, within the names ms -/
inductive Pos : Tm → List Str → List Nat → Tm → List Str → Prop
  | here {t ns} : Pos t ns [] t ns
  | there {w n : Str} {ks : List Tm} {i : Nat} {k : Tm} {r : List Nat} {s : Tm} {ns ms : List Str} : ks[i]? = some k → Pos k (nsAt w n i ns) r s ms → Pos (.mk w n ks) ns (i :: r) s ms
def putT : Tm → List Nat → Tm → Tm
  | _, [], o => o
  | .mk w n ks, i :: r, o => match ks[i]? with
    | some k => .mk w n (ks.set i (putT k r o))
    | none => .mk w n ks
theorem putT_at {w n : Str} {ks : List Tm} {i : Nat} {k : Tm} {r : List Nat} {o : Tm} (h : ks[i]? = some k) : putT (.mk w n ks) (i :: r) o = .mk w n (ks.set i (putT k r o)) := by
  rw [putT, h]
section
variable {L : List (Str × Nat)} {t s o : Tm} {ns ms : List Str} {r : List Nat}
theorem Pos.at_ (h : Pos t ns r s ms) : atP t (pin r) = some s := by
  induction h with
  | here => rfl
  | @there w n ks i k r s ns ms hk _ ih =>
    have hi : i < ks.length := (List.getElem?_eq_some_iff.mp hk).1
    show (if 0 ≤ (i : Int) ∧ (i : Int) < ks.length then (match ks[(i : Int).toNat]? with | some k => atP k (pin r) | none => none) else none) = _
    rw [if_pos ⟨by omega, by omega⟩, Int.toNat_natCast, hk]
    exact ih
theorem Pos.ok (h : Pos t ns r s ms) (ht : TmOk L ns t) : TmOk L ms s := by
  induction h with
  | here => exact ht
  | there hk _ ih =>
    cases ht with
    | mk hH hK => exact ih (hK _ _ hk)
theorem Pos.put_ok (h : Pos t ns r s ms) (ht : TmOk L ns t) (ho : TmOk L ms o) : TmOk L ns (putT t r o) := by
  induction h with
  | here => exact ho
  | @there w n ks i k r s ns ms hk _ ih =>
    rw [putT_at hk]
    cases ht with
    | mk hH hK =>
      refine .mk (by rw [List.length_set]; exact hH) fun j c hc => ?_
      rw [List.getElem?_set] at hc
      split at hc
      · rename_i e
        subst e
        split at hc
        · obtain rfl := Option.some.inj hc
          exact ih (hK _ _ hk) ho
        · cases hc
      · exact hK _ _ hc
theorem sizes_set : ∀ {ks : List Tm} {i : Nat} {k c : Tm}, ks[i]? = some k → Tm.sizes (ks.set i c) + k.size = Tm.sizes ks + c.size
  | a :: l, 0, k, c, h => by
    obtain rfl := Option.some.inj h
    rw [List.set_cons_zero, Tm.sizes, Tm.sizes]
    omega
  | a :: l, i + 1, k, c, h => by
    have := sizes_set (ks := l) (i := i) (k := k) (c := c) h
    rw [List.set_cons_succ, Tm.sizes, Tm.sizes]
    omega
theorem Pos.put_size (h : Pos t ns r s ms) : (putT t r o).size + s.size = t.size + o.size := by
  induction h with
  | here => rw [putT]; omega
  | @there w n ks i k r s ns ms hk _ ih =>
    rw [putT_at hk, Tm.size, Tm.size]
    have := sizes_set (c := putT k r o) hk
    omega
theorem Pos.put_pos (h : Pos t ns r s ms) : Pos (putT t r o) ns r o ms := by
  induction h with
  | here => exact .here
  | @there w n ks i k r s ns ms hk _ ih =>
    rw [putT_at hk]
    exact .there (by rw [List.getElem?_set_self (List.getElem?_eq_some_iff.mp hk).1]) ih
theorem Pos.put_back (h : Pos t ns r s ms) : putT (putT t r o) r s = t := by
  induction h with
  | here => rfl
  | @there w n ks i k r s ns ms hk _ ih =>
    obtain ⟨hi, e⟩ := List.getElem?_eq_some_iff.mp hk
    rw [putT_at hk, putT_at (List.getElem?_set_self hi), ih, List.set_set]
    rw [← e, List.set_getElem_self hi]
theorem Pos.le (h : Pos t ns r s ms) : s.size + r.length ≤ t.size := by
  induction h with
  | here => simp
  | @there w n ks i k r s ns ms hk _ ih =>
    have := size_at (w := w) (n := n) hk
    rw [List.length_cons]
    omega
theorem Pos.nsl (h : Pos t ns r s ms) : ms.length ≤ ns.length + r.length := by
  induction h with
  | here => simp
  | @there w n ks i k r s ns ms hk _ ih =>
    have : (nsAt w n i ns).length ≤ ns.length + 1 := by
      unfold nsAt
      split
      · simp
      · omega
    rw [List.length_cons]
    omega
theorem Pos.snoc {w n : Str} {ks : List Tm} {i : Nat} {k : Tm} (h : Pos t ns r (.mk w n ks) ms) (hk : ks[i]? = some k) : Pos t ns (r ++ [i]) k (nsAt w n i ms) := by
  generalize e : Tm.mk w n ks = s at h
  induction h with
  | here => subst e; exact .there hk .here
  | there h1 _ ih => exact .there h1 (ih e)
/-- how a place goes on behind another one -/
theorem Pos.split : ∀ {a b : List Nat} {t s : Tm} {ns ms : List Str}, Pos t ns (a ++ b) s ms → ∃ u us, Pos t ns a u us ∧ Pos u us b s ms
  | [], _, _, _, _, _, h => ⟨_, _, .here, h⟩
  | i :: a, b, _, _, _, _, h => by
    cases h with
    | there h1 h2 =>
      obtain ⟨u, us, p1, p2⟩ := Pos.split h2
      exact ⟨u, us, .there h1 p1, p2⟩
theorem head_bind {n : Str} {m : Nat} (h : HeadOk L ns "bind" n m) : nameB n = true := by
  cases h with
  | bind h _ => exact h
  | op ho => exact absurd rfl ((show ∀ q ∈ opsW, q.1 ≠ "bind" by decide) _ ho)
theorem Pos.nstr (h : Pos t ns r s ms) (ht : TmOk L ns t) (hn : ∀ z ∈ ns, nameB z = true) : ∀ z ∈ ms, nameB z = true := by
  induction h with
  | here => exact hn
  | @there w n ks i k r s ns ms hk _ ih =>
    cases ht with
    | mk hH hK =>
      refine ih (hK _ _ hk) fun z hz => ?_
      unfold nsAt at hz
      split at hz
      · rename_i e
        rcases List.mem_append.mp hz with h | h
        · exact hn z h
        · rw [List.mem_singleton.mp h]
          obtain ⟨rfl, _⟩ := e
          exact head_bind hH
      · exact hn z hz
end
mutual
/-- all places, with the names around: a part ahead of those within it -/
def Tm.places : Tm → List Nat → List Str → List (List Nat × List Str)
  | .mk w n ks, p, ns => (p, ns) :: Tm.placesL w n ks p ns 0
def Tm.placesL : Str → Str → List Tm → List Nat → List Str → Nat → List (List Nat × List Str)
  | _, _, [], _, _, _ => []
  | w, n, k :: r, p, ns, i => k.places (p ++ [i]) (nsAt w n i ns) ++ Tm.placesL w n r p ns (i + 1)
end
mutual
theorem places_len : ∀ (t : Tm) (p : List Nat) (ns : List Str), (t.places p ns).length = t.size
  | .mk w n ks, p, ns => by rw [Tm.places, Tm.size, List.length_cons, placesL_len w n ks p ns 0]
theorem placesL_len : ∀ (w n : Str) (ks : List Tm) (p : List Nat) (ns : List Str) (i : Nat), (Tm.placesL w n ks p ns i).length = Tm.sizes ks
  | _, _, [], _, _, _ => rfl
  | w, n, k :: r, p, ns, i => by rw [Tm.placesL, Tm.sizes, List.length_append, places_len k, placesL_len w n r]
end
theorem placesL_app : ∀ (w n : Str) (l : List Tm) (k : Tm) (p : List Nat) (ns : List Str) (i : Nat), Tm.placesL w n (l ++ [k]) p ns i = Tm.placesL w n l p ns i ++ k.places (p ++ [i + l.length]) (nsAt w n (i + l.length) ns)
  | w, n, [], k, p, ns, i => by simp [Tm.placesL]
  | w, n, a :: r, k, p, ns, i => by
    have e : i + 1 + r.length = i + (r.length + 1) := by omega
    rw [List.cons_append, Tm.placesL, Tm.placesL, placesL_app w n r k p ns (i + 1), List.append_assoc, List.length_cons, e]
mutual
theorem places_pos : ∀ (t : Tm) (p : List Nat) (ns : List Str) (q : List Nat) (ms : List Str), (q, ms) ∈ t.places p ns → ∃ r s, q = p ++ r ∧ Pos t ns r s ms
  | .mk w n ks, p, ns, q, ms, h => by
    rw [Tm.places] at h
    rcases List.mem_cons.mp h with h | h
    · cases h
      exact ⟨[], _, by rw [List.append_nil], .here⟩
    · obtain ⟨j, k, r, s, hk, e, hp⟩ := placesL_pos w n ks p ns 0 q ms h
      rw [Nat.zero_add] at e hp
      exact ⟨j :: r, s, e, .there hk hp⟩
theorem placesL_pos : ∀ (w n : Str) (ks : List Tm) (p : List Nat) (ns : List Str) (i : Nat) (q : List Nat) (ms : List Str), (q, ms) ∈ Tm.placesL w n ks p ns i → ∃ j k r s, ks[j]? = some k ∧ q = p ++ (i + j) :: r ∧ Pos k (nsAt w n (i + j) ns) r s ms
  | _, _, [], _, _, _, _, _, h => by
    rw [Tm.placesL] at h
    cases h
  | w, n, k :: l, p, ns, i, q, ms, h => by
    rw [Tm.placesL] at h
    rcases List.mem_append.mp h with h | h
    · obtain ⟨r, s, e, hp⟩ := places_pos k (p ++ [i]) (nsAt w n i ns) q ms h
      exact ⟨0, k, r, s, rfl, by rw [e]; simp, hp⟩
    · obtain ⟨j, k2, r, s, hk, e, hp⟩ := placesL_pos w n l p ns (i + 1) q ms h
      have e2 : i + 1 + j = i + (j + 1) := by omega
      rw [e2] at e hp
      exact ⟨j + 1, k2, r, s, hk, e, hp⟩
end
end GB
set_option Elab.async false
set_option linter.all false
set_option maxRecDepth 100000
set_option maxHeartbeats 4000000
/-! Objects that are no terms, and where the first part stands that is none. -/
namespace GB
open PySem PySem.Spec L2
/-- one of two readings -/
theorem pe_alt {X : Cx} {e : Expr} {t1 t2 : TE} (h1 : PE X e t1) (h2 : PE X e t2) : PE X e (fun σ H Q => t1 σ H Q ∨ t2 σ H Q) := ⟨fun pins s σ H Q I h => h.elim (h1.run pins s σ H Q I) (h2.run pins s σ H Q I)⟩
/-- no name -/
inductive NotNm (K : PySem.W.Frag) (H : Hp) : V → Prop
  | str {s : Str} : nameB s = false → s.length ≤ sizeLine → NotNm K H (.str s)
  | oth {x t} : (∀ H', Same H H' → TyX K H' x t) → PySem.W.kitOne K t (.type "str") = some false → NotNm K H x
/-- no letter -/
inductive NotL (K : PySem.W.Frag) (H : Hp) (L : List (Str × Nat)) : V → Prop
  | str {s : Str} : s ∉ L.map (·.1) → NotL K H L (.str s)
  | oth {x t} : (∀ H', Same H H' → TyX K H' x t) → PySem.W.kitOne K t (.type "str") = some false → NotL K H L x
theorem NotNm.mono {K : PySem.W.Frag} {H H' : Hp} {x : V} (s : Same H H') (h : NotNm K H x) : NotNm K H' x := by
  cases h with
  | str h1 h2 => exact .str h1 h2
  | oth h1 h2 => exact .oth (fun H2 s2 => h1 H2 (s.trans s2)) h2
theorem NotL.mono {K : PySem.W.Frag} {H H' : Hp} {L : List (Str × Nat)} {x : V} (s : Same H H') (h : NotL K H L x) : NotL K H' L x := by
  cases h with
  | str h1 => exact .str h1
  | oth h1 h2 => exact .oth (fun H2 s2 => h1 H2 (s.trans s2)) h2
/-- a list, or none -/
inductive SeqOr (K : PySem.W.Frag) (H : Hp) : V → Prop
  | no {x t} : (∀ H', Same H H' → TyX K H' x t) → PySem.W.kitAny K t [.type "list", .type "tuple"] = some false → SeqOr K H x
  | seq {p xs} : SqA K H p xs → SeqOr K H (.ref p)
theorem SeqOr.mono {K : PySem.W.Frag} {H H' : Hp} {x : V} (s : Same H H') (h : SeqOr K H x) : SeqOr K H' x := by
  cases h with
  | no h1 h2 => exact .no (fun H2 s2 => h1 H2 (s.trans s2)) h2
  | seq h1 => exact .seq (h1.mono s)
/-- a use that is none -/
inductive UseV (K : PySem.W.Frag) (H : Hp) (L : List (Str × Nat)) (p : Addr) : Prop
  | len {r} : SqA K H p (.str "use" :: r) → r.length ≠ 2 → UseV K H L p
  | name {y e} : SqA K H p [.str "use", y, e] → NotL K H L y → SeqOr K H e → UseV K H L p
  | parts {n m e t} : SqA K H p [.str "use", .str n, e] → (n, m) ∈ L → (∀ H', Same H H' → TyX K H' e t) → PySem.W.kitAny K t [.type "list", .type "tuple"] = some false → UseV K H L p
  | many {n m q us} : SqA K H p [.str "use", .str n, .ref q] → (n, m) ∈ L → SqA K H q us → us.length ≠ m → UseV K H L p
theorem UseV.mono {K : PySem.W.Frag} {H H' : Hp} {L : List (Str × Nat)} {p : Addr} (s : Same H H') (h : UseV K H L p) : UseV K H' L p := by
  cases h with
  | len h1 h2 => exact .len (h1.mono s) h2
  | name h1 h2 h3 => exact .name (h1.mono s) (h2.mono s) (h3.mono s)
  | parts h1 h2 h3 h4 => exact .parts (h1.mono s) h2 (fun H2 s2 => h3 H2 (s.trans s2)) h4
  | many h1 h2 h3 h4 => exact .many (h1.mono s) h2 (h3.mono s) h4
theorem UseV.hd {K : PySem.W.Frag} {H : Hp} {L : List (Str × Nat)} {p : Addr} (h : UseV K H L p) : ∃ r, SqA K H p (.str "use" :: r) := by
  cases h with
  | len h1 _ => exact ⟨_, h1⟩
  | name h1 _ _ => exact ⟨_, h1⟩
  | parts h1 _ _ _ => exact ⟨_, h1⟩
  | many h1 _ _ _ => exact ⟨_, h1⟩
/-- a thing that is no node -/
inductive OddV (K : PySem.W.Frag) (H : Hp) (L : List (Str × Nat)) (ns : List Str) : V → Prop
  | flat {x t} : (∀ H', Same H H' → TyX K H' x t) → PySem.W.kitAny K t [.type "list", .type "tuple"] = some false → OddV K H L ns x
  | empty {p} : SqA K H p [] → OddV K H L ns (.ref p)
  | head {p y r t} : SqA K H p (y :: r) → (∀ H', Same H H' → TyX K H' y t) → PySem.W.kitOne K t (.type "str") = some false → OddV K H L ns (.ref p)
  | use {p} : UseV K H L p → OddV K H L ns (.ref p)
  | bname {p y a b} : SqA K H p [.str "bind", y, a, b] → NotNm K H y → OddV K H L ns (.ref p)
  | nlen {p w r} : w ∈ nmd → SqA K H p (.str w :: r) → r.length ≠ 1 → OddV K H L ns (.ref p)
  | nname {p w y} : w ∈ nmd → SqA K H p [.str w, y] → NotNm K H y → OddV K H L ns (.ref p)
  | free {p n} : SqA K H p [.str "name", .str n] → nameB n = true → n ∉ ns → OddV K H L ns (.ref p)
  | word {p r} : SqA K H p (.str "xor" :: r) → OddV K H L ns (.ref p)
  | olen {p w m r} : (w, m) ∈ opsW → SqA K H p (.str w :: r) → r.length ≠ m → OddV K H L ns (.ref p)
theorem OddV.mono {K : PySem.W.Frag} {H H' : Hp} {L : List (Str × Nat)} {ns : List Str} {x : V} (s : Same H H') (h : OddV K H L ns x) : OddV K H' L ns x := by
  cases h with
  | flat h1 h2 => exact .flat (fun H2 s2 => h1 H2 (s.trans s2)) h2
  | empty h => exact .empty (h.mono s)
  | head h1 h2 h3 => exact .head (h1.mono s) (fun H2 s2 => h2 H2 (s.trans s2)) h3
  | use h => exact .use (h.mono s)
  | bname h1 h2 => exact .bname (h1.mono s) (h2.mono s)
  | nlen h0 h1 h2 => exact .nlen h0 (h1.mono s) h2
  | nname h0 h1 h2 => exact .nname h0 (h1.mono s) (h2.mono s)
  | free h h1 h2 => exact .free (h.mono s) h1 h2
  | word h => exact .word (h.mono s)
  | olen h0 h1 h2 => exact .olen h0 (h1.mono s) h2
/-- words that stand ahead of no terms alone -/
def noW : List Str := ["use", "value", "name", "fail", "bind", "xor"]
/-- an odd thing that begins with a word -/
structure OddW (K : PySem.W.Frag) (H : Hp) (L : List (Str × Nat)) (ns : List Str) (p : Addr) (w : Str) (r : List V) : Prop where
  sq : SqA K H p (.str w :: r)
  ne : r ≠ []
  use : w = "use" → UseV K H L p
  ops : ∀ m, (w, m) ∈ opsW → r.length ≠ m
  nam : w ∈ nmd → r.length ≠ 1 ∨ ∃ y, r = [y] ∧ (NotNm K H y ∨ (w = "name" ∧ ∃ n, y = .str n ∧ nameB n = true ∧ n ∉ ns))
  bind : w = "bind" → ∃ y a b, r = [y, a, b] ∧ NotNm K H y
  known : (∃ m, (w, m) ∈ opsW) ∨ w ∈ noW
theorem OddW.mono {K : PySem.W.Frag} {H H' : Hp} {L : List (Str × Nat)} {ns : List Str} {p : Addr} {w : Str} {r : List V} (s : Same H H') (h : OddW K H L ns p w r) : OddW K H' L ns p w r :=
  ⟨h.sq.mono s, h.ne, fun e => (h.use e).mono s, h.ops, fun m => (h.nam m).imp id fun ⟨y, e, q⟩ => ⟨y, e, q.imp (fun n => n.mono s) id⟩, fun e => let ⟨y, a, b, e1, n⟩ := h.bind e; ⟨y, a, b, e1, n.mono s⟩, h.known⟩
theorem nmW : ∀ x ∈ nmd, x ≠ "use" ∧ x ≠ "bind" ∧ x ∉ opsW.map (·.1) ∧ x ∈ noW := by decide
theorem noOp {w : Str} (h : w ∉ opsW.map (·.1)) (m : Nat) : (w, m) ∉ opsW := fun z => h (List.mem_map.mpr ⟨_, z, rfl⟩)
theorem OddV.cases4 {K : PySem.W.Frag} {H : Hp} {L : List (Str × Nat)} {ns : List Str} {x : V} (h : OddV K H L ns x) :
    (∃ t, (∀ H', Same H H' → TyX K H' x t) ∧ PySem.W.kitAny K t [.type "list", .type "tuple"] = some false) ∨ (∃ p xs, x = .ref p ∧ SqA K H p xs ∧ xs.length < 2) ∨
    (∃ p y r t, x = .ref p ∧ SqA K H p (y :: r) ∧ (∀ H', Same H H' → TyX K H' y t) ∧ PySem.W.kitOne K t (.type "str") = some false) ∨ ∃ p w r, x = .ref p ∧ OddW K H L ns p w r := by
  have sh : ∀ {p : Addr} {y : V} {r : List V}, SqA K H p (y :: r) → (r ≠ [] → ∃ p' w r', V.ref p = .ref p' ∧ OddW K H L ns p' w r') → (∃ t, (∀ H', Same H H' → TyX K H' (.ref p) t) ∧ PySem.W.kitAny K t [.type "list", .type "tuple"] = some false) ∨ (∃ p' xs, V.ref p = .ref p' ∧ SqA K H p' xs ∧ xs.length < 2) ∨
    (∃ p' y r t, V.ref p = .ref p' ∧ SqA K H p' (y :: r) ∧ (∀ H', Same H H' → TyX K H' y t) ∧ PySem.W.kitOne K t (.type "str") = some false) ∨ ∃ p' w r, V.ref p = .ref p' ∧ OddW K H L ns p' w r := fun {p y r} hp hq => by
      by_cases e : r = []
      · subst e
        exact .inr (.inl ⟨_, _, rfl, hp, by simp⟩)
      · exact .inr (.inr (.inr (hq e)))
  cases h with
  | flat h1 h2 => exact .inl ⟨_, h1, h2⟩
  | empty h => exact .inr (.inl ⟨_, _, rfl, h, by simp⟩)
  | head h1 h2 h3 => exact .inr (.inr (.inl ⟨_, _, _, _, rfl, h1, h2, h3⟩))
  | use h =>
    obtain ⟨r, hp⟩ := h.hd
    refine sh hp fun ne => ⟨_, _, _, rfl, hp, ne, fun _ => h, fun m z => absurd z (noOp (by decide) m), fun z => absurd z (by decide), fun z => absurd z (by decide), .inr (by decide)⟩
  | @bname p y a b h1 h2 => exact sh h1 fun ne => ⟨_, _, _, rfl, h1, ne, fun z => absurd z (by decide), fun m z => absurd z (noOp (by decide) m), fun z => absurd z (by decide), fun _ => ⟨y, a, b, rfl, h2⟩, .inr (by decide)⟩
  | nlen h0 h1 h2 => exact sh h1 fun ne => ⟨_, _, _, rfl, h1, ne, fun z => absurd z (nmW _ h0).1, fun m z => absurd z (noOp (nmW _ h0).2.2.1 m), fun _ => .inl h2, fun z => absurd z (nmW _ h0).2.1, .inr (nmW _ h0).2.2.2⟩
  | nname h0 h1 h2 => exact sh h1 fun ne => ⟨_, _, _, rfl, h1, ne, fun z => absurd z (nmW _ h0).1, fun m z => absurd z (noOp (nmW _ h0).2.2.1 m), fun _ => .inr ⟨_, rfl, .inl h2⟩, fun z => absurd z (nmW _ h0).2.1, .inr (nmW _ h0).2.2.2⟩
  | free h1 h2 h3 => exact sh h1 fun ne => ⟨_, _, _, rfl, h1, ne, fun z => absurd z (by decide), fun m z => absurd z (noOp (by decide) m), fun _ => .inr ⟨_, rfl, .inr ⟨rfl, _, rfl, h2, h3⟩⟩, fun z => absurd z (by decide), .inr (by decide)⟩
  | word h1 => exact sh h1 fun ne => ⟨_, _, _, rfl, h1, ne, fun z => absurd z (by decide), fun m z => absurd z (noOp (by decide) m), fun z => absurd z (by decide), fun z => absurd z (by decide), .inr (by decide)⟩
  | @olen p w m r h0 h1 h2 =>
    have n := (show ∀ q ∈ opsW, q.1 ∉ nmd ∧ q.1 ≠ "use" ∧ q.1 ≠ "bind" by decide) _ h0
    have u : ∀ k, (w, k) ∈ opsW → k = m := fun k hk => (show ∀ q ∈ opsW, ∀ q' ∈ opsW, q.1 = q'.1 → q.2 = q'.2 by decide) _ hk _ h0 rfl
    exact sh h1 fun ne => ⟨_, _, _, rfl, h1, ne, fun z => absurd z n.2.1, fun k z => by rw [u k z]; exact h2, fun z => absurd z n.1, fun z => absurd z n.2.2, .inl ⟨m, h0⟩⟩
/-- a thing that is a term of at most so many parts -/
def GoodV (K : PySem.W.Frag) (H : Hp) (L : List (Str × Nat)) (ns : List Str) (z : Nat) (x : V) : Prop := ∃ d t, Dp K H x d ∧ IsTm d t ∧ TmOk L ns t ∧ t.size ≤ z
/-- the first part that is no term stands at this path -/
inductive BadV (K : PySem.W.Frag) (H : Hp) (L : List (Str × Nat)) : Nat → List Str → V → List Nat → Prop
  | odd {z ns x} : OddV K H L ns x → BadV K H L (z + 1) ns x []
  | within {z ns p w n us i y r} : NodeV K H p w n us → HeadOk L ns w n us.length → us[i]? = some y → (∀ j x, j < i → us[j]? = some x → GoodV K H L (nsAt w n j ns) z x) → BadV K H L z (nsAt w n i ns) y r → us.length ≤ 1000 → BadV K H L (z + 1) ns (.ref p) (i :: r)
theorem GoodV.mono {K : PySem.W.Frag} {H H' : Hp} {L : List (Str × Nat)} {ns : List Str} {z : Nat} {x : V} (s : Same H H') (h : GoodV K H L ns z x) : GoodV K H' L ns z x := let ⟨d, t, a, b⟩ := h; ⟨d, t, dp_mono s a, b⟩
theorem BadV.mono {K : PySem.W.Frag} {H H' : Hp} {L : List (Str × Nat)} {z : Nat} {ns : List Str} {x : V} {r : List Nat} (s : Same H H') (h : BadV K H L z ns x r) : BadV K H' L z ns x r := by
  induction h with
  | odd h => exact .odd (h.mono s)
  | within h1 h2 h3 h4 _ h6 ih => exact .within (h1.mono s) h2 h3 (fun j x hj hx => (h4 j x hj hx).mono s) ih h6
end GB
set_option Elab.async false
set_option linter.all false
set_option maxRecDepth 100000
set_option maxHeartbeats 8000000
namespace GB
open PySem PySem.Spec L2
/-- a ground of the package, as far as terms ask -/
structure IsGr (C : Addr) (H : Hp) (G : Addr) (g : GD) : Prop where
  ex : ∃ dx fs aL, H G = some (.ins C dx fs) ∧ fs.lookup ("_letters" : Str) = some (.ref aL) ∧ H aL = some (.dK (lkv g.letters)) ∧ fs.lookup ("parts_of" : Str) = none
theorem IsGr.mono {C : Addr} {H H' : Hp} {G : Addr} {g : GD} (s : Same H H') (h : IsGr C H G g) : IsGr C H' G g := let ⟨dx, fs, aL, h1, h2, h3, h4⟩ := h.ex; ⟨dx, fs, aL, s _ _ h1, h2, s _ _ h3, h4⟩
theorem NodeV.head {K : PySem.W.Frag} {H : Hp} {p : Addr} {w n : Str} {vs : List V} (h : NodeV K H p w n vs) : ∃ rest, SqA K H p (.str w :: rest) := by
  rcases h.kind with ⟨_, _, hs⟩ | ⟨_, _, hs, _⟩ | ⟨_, hs⟩ | ⟨_, _, hs⟩
  · exact ⟨_, hs⟩
  · exact ⟨_, hs⟩
  · exact ⟨_, hs⟩
  · exact ⟨_, hs⟩
section
variable {L : List (Str × Nat)} {ns : List Str} {w n : Str} {m : Nat}
theorem HeadOk.nmd (h : HeadOk L ns w n m) (hw : w ∈ nmd) : nameB n = true ∧ (w = "name" → n ∈ ns) := by
  cases h with
  | val h => exact ⟨h, fun e => absurd e (by decide)⟩
  | fail h => exact ⟨h, fun e => absurd e (by decide)⟩
  | name h hn => exact ⟨h, fun _ => hn⟩
  | use h => exact absurd hw (by decide)
  | bind h _ => exact absurd hw (by decide)
  | op ho => exact absurd hw (ops_no _ ho).1
theorem HeadOk.toUse (h : HeadOk L ns "use" n m) : (n, m) ∈ L := by
  cases h with
  | use h => exact h
  | op ho => exact absurd rfl (ops_no _ ho).2.1
theorem HeadOk.toBind (h : HeadOk L ns "bind" n m) : nameB n = true ∧ m = 2 := by
  cases h with
  | bind h _ => exact ⟨h, rfl⟩
  | op ho => exact absurd rfl (ops_no _ ho).2.2
theorem HeadOk.toOp (h : HeadOk L ns w n m) (ho : ∃ k, (w, k) ∈ opsW) : (w, m) ∈ opsW := by
  obtain ⟨k, ho⟩ := ho
  cases h with
  | val h => exact absurd (show ("value" : Str) ∈ GB.nmd by decide) (ops_no _ ho).1
  | fail h => exact absurd (show ("fail" : Str) ∈ GB.nmd by decide) (ops_no _ ho).1
  | name h hn => exact absurd (show ("name" : Str) ∈ GB.nmd by decide) (ops_no _ ho).1
  | use h => exact absurd rfl (ops_no _ ho).2.1
  | bind h _ => exact absurd rfl (ops_no _ ho).2.2
  | op h => exact h
end
def spHas (K : PySem.W.Frag) (C : Addr) : Sp := fun vs H Q _ => ∃ (G : Addr) (x : V) (g : GD), vs = [.ref G, x] ∧ IsGr C H G g ∧ ((∃ s : Str, x = .str s ∧ (g.letters.map (·.1)).Nodup ∧ Q (.bl (decide (s ∈ g.letters.map (·.1)))) H) ∨ (∃ t, TyX K H x t ∧ PySem.W.kitOne K t (.type "str") = some false ∧ Q (.bl false) H))
def spPrt (C : Addr) : Sp := fun vs H Q _ => ∃ (G : Addr) (x : Str) (g : GD), vs = [.ref G, .str x] ∧ IsGr C H G g ∧ (g.letters.map (·.1)).Nodup ∧ ((∃ k, (x, k) ∈ g.letters ∧ Q (.int (k : Nat)) H) ∨ (x ∉ g.letters.map (·.1) ∧ Q .non H))
structure GrC (P : Program) (w : World) (K : PySem.W.Frag) (mg : Str → Option Value) (base : Heap) (C : Addr) : Prop where
  cl : Cls K C
  prt : ∃ f fd, Meth K C "parts_of" f ∧ FnOk P w K mg base CX0 1 f fd ["self", "letter"] (spPrt C) ∧ Binds K fd ["self", "letter"] []
end GB
namespace K28
open PySem PySem.Spec L2 GB
abbrev sHas : Stmt := inClass (topS 27) 7
abbrev sPrt : Stmt := inClass (topS 27) 5
abbrev sIsU : Stmt := topS 19
def spIsU (K : PySem.W.Frag) (C : Addr) : Sp := fun vs H Q _ => ∃ (G p : Addr) (g : GD), vs = [.ref G, .ref p] ∧ IsGr C H G g ∧ (g.letters.map (·.1)).Nodup ∧
  ((∃ (q : Addr) (n : Str) (us : List V), SqA K H p [.str "use", .str n, .ref q] ∧ SqA K H q us ∧ (n, us.length) ∈ g.letters ∧ ∀ H', Same H H' → Q (.bl true) H') ∨ (UseV K H g.letters p ∧ ∀ H', Same H H' → Q (.bl false) H'))
/-- the module's TERMS_BEHIND -/
def TBh (K : PySem.W.Frag) (w : World) (mg : Str → Option Value) : Prop := ∃ d es n, mg "TERMS_BEHIND" = some (.ref d) ∧ KDict K w d es n ∧ (∀ q ∈ opsW, KDct K w d q.1 (.int (q.2 : Int)) ∧ ∃ u, PySem.W.nsIn K d q.1 = some (some u)) ∧ ∀ x ∈ noW, PySem.W.nsIn K d x = some none
section
variable {P : Program} {w : World} {K : PySem.W.Frag} {mg : Str → Option Value} {base : Heap} {C : Addr}
theorem scHas : FnScope ["self", "letter"] ["self", "letter"] (defScope sHas) := ⟨rfl, rfl, rfl, by decide +kernel, rfl, by decide +kernel, by decide +kernel⟩
theorem scPrt : FnScope ["self", "letter"] ["self", "letter"] (defScope sPrt) := ⟨rfl, rfl, rfl, by decide +kernel, rfl, by decide +kernel, by decide +kernel⟩
theorem scIsU : FnScope ["ground", "thing"] ["ground", "thing"] (defScope sIsU) := ⟨rfl, rfl, rfl, by decide +kernel, rfl, by decide +kernel, by decide +kernel⟩
theorem ok_has {f : Addr} {fd : FuncData} (F : Fun K "__contains__" "Ground.__contains__" sHas f fd) (T : Bl mg) (c : Cls K C) (nL : NoAttr K C "_letters") : FnOk P w K mg base CX0 1 f fd ["self", "letter"] (spHas K C) := by
  refine F.ok scHas (fun vs H Q E h => ?_) (fun cdv A outer s H vs Q E hr h => ?_)
  · obtain ⟨G, x, g, rfl, _⟩ := h
    rfl
  · obtain ⟨G, x, g, rfl, ⟨dx, fs, aL, hG, hl, hL, _⟩, h⟩ := h
    have hu := hu_of hr
    refine ⟨_, pss_one (ps_ret (pe_and (pe_callB call_isi (by rfl) T.isi (by decide +kernel) (pa_cons (pv 1) (pa_cons (pe_bltn (v := .ty "str") (by rfl) T.str (by decide +kernel) rfl) (pa_nil)))) (pe_one (pe_cmp (pc_din hu (pv 1) (pe_fld (pv 0) rfl)) rfl)))), ?_⟩
    rcases h with ⟨z, rfl, nd, q⟩ | ⟨t, ht, hk, q⟩
    · refine ⟨_, rfl, .str z, .ty "str", .type "str", .type "str", true, rfl, .ty "str", .base (.str z), kit_ty (by decide +kernel), true, rfl, ?_⟩
      by_cases m : z ∈ g.letters.map (·.1)
      · obtain ⟨q1, hq1, e1⟩ := List.mem_map.mp m
        rw [decide_eq_true m] at q
        have hv : valV (lkv g.letters) (.inr z : Key) = some (.int (q1.2 : Int)) := valV_lkv nd (by rw [← e1]; exact hq1)
        refine ⟨_, rfl, _, rfl, G, C, dx, fs, _, rfl, hG, c, nL, hl, aL, some (.int (q1.2 : Int)), rfl, (by rw [← hv]; exact DGet.k (k := .inr z) hL), ?_⟩
        exact q
      · rw [decide_eq_false m] at q
        have hv : valV (lkv g.letters) (.inr z : Key) = none := valV_no m
        refine ⟨_, rfl, _, rfl, G, C, dx, fs, _, rfl, hG, c, nL, hl, aL, none, rfl, (by rw [← hv]; exact DGet.k (k := .inr z) hL), ?_⟩
        exact q
    · exact ⟨_, rfl, x, .ty "str", t, .type "str", false, rfl, .ty "str", ht, hk, false, rfl, q⟩
theorem ok_prt {f : Addr} {fd : FuncData} (F : Fun K "parts_of" "Ground.parts_of" sPrt f fd) (c : Cls K C) (nL : NoAttr K C "_letters") : FnOk P w K mg base CX0 1 f fd ["self", "letter"] (spPrt C) := by
  refine F.ok scPrt (fun vs H Q E h => ?_) (fun cdv A outer s H vs Q E hr h => ?_)
  · obtain ⟨G, x, g, rfl, _⟩ := h
    rfl
  · obtain ⟨G, x, g, rfl, ⟨dx, fs, aL, hG, hl, hL, _⟩, nd, h⟩ := h
    have hu := hu_of hr
    refine ⟨_, pss_one (ps_ret (pe_dget1 hu (pe_fld (pv 0) rfl) (pv 1) ⟨rfl, rfl, rfl, rfl⟩)), ?_⟩
    rcases h with ⟨k, hk, q⟩ | ⟨hn, q⟩
    · have hv := valV_lkv nd hk
      exact ⟨_, rfl, G, C, dx, fs, _, rfl, hG, c, nL, hl, aL, rfl, .inl ⟨_, .inl hL⟩, _, rfl, some (.int (k : Int)), (by rw [← hv]; exact DGet.k (k := .inr x) hL), q⟩
    · have hv := valV_no hn
      exact ⟨_, rfl, G, C, dx, fs, _, rfl, hG, c, nL, hl, aL, rfl, .inl ⟨_, .inl hL⟩, _, rfl, none, (by rw [← hv]; exact DGet.k (k := .inr x) hL), q⟩
theorem ok_isU {f : Addr} {fd : FuncData} (F : Fun K "_is_use" "_is_use" sIsU f fd) (T : Bl mg) (GC : GrC P w K mg base C) (IL : Fns P w K mg base "is_list" 1 ["thing"] (spIsL K)) : FnOk P w K mg base CX0 2 f fd ["ground", "thing"] (spIsU K C) := by
  obtain ⟨fP, dP, mP, FP, bP⟩ := GC.prt
  refine F.ok scIsU (fun vs H Q E h => ?_) (fun cdv A outer s H vs Q E hr h => ?_)
  · obtain ⟨G, p, g, rfl, _⟩ := h
    rfl
  · obtain ⟨G, p, g, rfl, hG, nd, h⟩ := h
    refine ⟨_, pss_cons (ps_if (PW.pt (pw_or (pt_cmpR op_ne (pe_callB call_len_seq (by rfl) T.len PySem.boot_len (pa_cons (pv 1) (pa_nil))) (pe_int) (nomark _)) (pw_or (pt_not (pt_val (pe_callB call_isi (by rfl) T.isi (by decide +kernel) (pa_cons (pe_ix ix_seq (pv 1) (pe_int) (fun _ _ => rfl)) (pa_cons (pe_bltn (v := .ty "str") (by rfl) T.str (by decide +kernel) rfl) (pa_nil)))))) (pw_or1 (pt_not (pt_val (pe_fn IL hr (by decide) rfl (pa_cons (pe_ix ix_seq (pv 1) (pe_int) (fun _ _ => rfl)) (pa_nil))))))))) (pss_one (ps_ret (pe_bl))) (pss_nil)) (pss_one (ps_ret (pe_cmpR op_eq (pe_meth (pv 0) GC.cl mP FP (hr.mono (by decide)) bP .nil pass0 (pa_cons (pe_ix ix_seq (pv 1) (pe_int) (fun _ _ => rfl)) (pa_nil))) (pe_callB call_len_seq (by rfl) T.len PySem.boot_len (pa_cons (pe_ix ix_seq (pv 1) (pe_int) (fun _ _ => rfl)) (pa_nil))) (nomark _)))), ?_⟩
    obtain ⟨dx, fs, aL, h1, h2, h3, h4⟩ := hG.ex
    rcases h with ⟨q, n, us, hp, hq, hn, k⟩ | ⟨hU, k⟩
    · refine ⟨_, rfl, p, _, rfl, hp, rfl, _, rfl, ?_⟩
      refine iteF ?_
      refine ⟨_, rfl, ixA hp 1 rfl ⟨.str n, .ty "str", .type "str", .type "str", true, rfl, .ty "str", .base (.str n), kit_ty (by decide +kernel), true, rfl, ?_⟩⟩
      refine iteF ?_
      obtain ⟨t, ht, hty⟩ := tyS hq
      refine ⟨_, rfl, ixA hp 2 rfl ⟨.ref q, _, true, rfl, hty, kit_seq ht, fun H1 s1 => ⟨_, rfl, ?_⟩⟩⟩
      refine iteF ?_
      refine ⟨_, rfl, G, dx, fs, rfl, s1 _ _ h1, h4, _, rfl, ixA (hp.mono s1) 1 rfl ⟨G, n, g, rfl, hG.mono s1, nd, .inl ⟨us.length, hn, ?_⟩⟩⟩
      refine ⟨_, rfl, ixA (hp.mono s1) 2 rfl ⟨q, us, rfl, hq.mono s1, rfl, ?_⟩⟩
      rw [decI, decide_eq_true rfl]
      exact k _ s1
    · cases hU with
      | @len r hp hl =>
        refine ⟨_, rfl, p, _, rfl, hp, rfl, _, rfl, ?_⟩
        rw [decI, decide_eq_false (by rw [List.length_cons]; omega)]
        exact iteT (k _ (Same.refl _))
      | @name y e hp hn he =>
        refine ⟨_, rfl, p, _, rfl, hp, rfl, _, rfl, ?_⟩
        refine iteF ?_
        cases hn with
        | @str n hn =>
          refine ⟨_, rfl, ixA hp 1 rfl ⟨.str n, .ty "str", .type "str", .type "str", true, rfl, .ty "str", .base (.str n), kit_ty (by decide +kernel), true, rfl, ?_⟩⟩
          refine iteF ?_
          cases he with
          | no h5 h6 =>
            refine ⟨_, rfl, ixA hp 2 rfl ⟨_, _, false, rfl, h5, h6, fun H1 s1 => ⟨_, rfl, ?_⟩⟩⟩
            exact iteT (k _ s1)
          | @seq q us hq =>
            obtain ⟨t, ht, hty⟩ := tyS hq
            refine ⟨_, rfl, ixA hp 2 rfl ⟨.ref q, _, true, rfl, hty, kit_seq ht, fun H1 s1 => ⟨_, rfl, ?_⟩⟩⟩
            refine iteF ?_
            refine ⟨_, rfl, G, dx, fs, rfl, s1 _ _ h1, h4, _, rfl, ixA (hp.mono s1) 1 rfl ⟨G, n, g, rfl, hG.mono s1, nd, .inr ⟨hn, ?_⟩⟩⟩
            exact ⟨_, rfl, ixA (hp.mono s1) 2 rfl ⟨q, us, rfl, hq.mono s1, rfl, k _ s1⟩⟩
        | oth h5 h6 =>
          refine ⟨_, rfl, ixA hp 1 rfl ⟨y, .ty "str", _, .type "str", false, rfl, .ty "str", h5 _ (Same.refl _), h6, false, rfl, ?_⟩⟩
          exact iteT (k _ (Same.refl _))
      | @parts n m e t hp hn h5 h6 =>
        refine ⟨_, rfl, p, _, rfl, hp, rfl, _, rfl, ?_⟩
        refine iteF ?_
        refine ⟨_, rfl, ixA hp 1 rfl ⟨.str n, .ty "str", .type "str", .type "str", true, rfl, .ty "str", .base (.str n), kit_ty (by decide +kernel), true, rfl, ?_⟩⟩
        refine iteF ?_
        refine ⟨_, rfl, ixA hp 2 rfl ⟨e, t, false, rfl, h5, h6, fun H1 s1 => ⟨_, rfl, ?_⟩⟩⟩
        exact iteT (k _ s1)
      | @many n m q us hp hn hq hm =>
        refine ⟨_, rfl, p, _, rfl, hp, rfl, _, rfl, ?_⟩
        refine iteF ?_
        refine ⟨_, rfl, ixA hp 1 rfl ⟨.str n, .ty "str", .type "str", .type "str", true, rfl, .ty "str", .base (.str n), kit_ty (by decide +kernel), true, rfl, ?_⟩⟩
        refine iteF ?_
        obtain ⟨t, ht, hty⟩ := tyS hq
        refine ⟨_, rfl, ixA hp 2 rfl ⟨.ref q, _, true, rfl, hty, kit_seq ht, fun H1 s1 => ⟨_, rfl, ?_⟩⟩⟩
        refine iteF ?_
        refine ⟨_, rfl, G, dx, fs, rfl, s1 _ _ h1, h4, _, rfl, ixA (hp.mono s1) 1 rfl ⟨G, n, g, rfl, hG.mono s1, nd, .inl ⟨m, hn, ?_⟩⟩⟩
        refine ⟨_, rfl, ixA (hp.mono s1) 2 rfl ⟨q, us, rfl, hq.mono s1, rfl, ?_⟩⟩
        rw [decI, decide_eq_false (by omega)]
        exact k _ s1
end
end K28
set_option Elab.async false
set_option linter.all false
set_option maxRecDepth 100000
set_option maxHeartbeats 8000000
/-! A list comprehension whose elements' calls may raise. -/
namespace CompX
open PySem PySem.Spec PyProof.Rows L2
/-- behind a block: as the library has it where it ran through; where it raised, what is left to be done by the block's own environment -/
def post (M : Model) (A : Around) (E : Value → Shared → Prop) (use : Option (Value → Sem Unit)) (Q : Value → Shared → Prop) (acc : Value) (be : Env) : Result → Shared → Prop
  | .ok f, t => compPost M A E use Q acc be.locals (.ok f) t
  | .error x, t => ∃ m, t.heap.Ns be.locals m ∧ ∀ hp, Heap.SameBut be.locals t.heap hp → wpAny M A (PySem.passOn "comprehension.variables-let-go" x be : Sem Value) (fun _ _ => False) E { t with heap := hp }
section
variable {M : Model} {A : Around} {E : Value → Shared → Prop} {s : Shared} {env : Env}
theorem comp_free {ex : Expr} {sc : Scope} {pos : Pos} {mk fst : Sem Value} {c1 : Comprehension} {cs : List Comprehension} {clo : List (Str × Addr)} {use : Option (Value → Sem Unit)} {Q : Value → Shared → Prop}
    (h1 : clausesOf ex = c1 :: cs) (h2 : ∀ x, foldedSetIterable c1.iter env x = pure x) (h3 : closureFor sc env = pure clo) (h4 : sc.kind = .function) (h5 : ∀ y ∈ sc.names, y.2 = .local → sc.names.lookup y.1 = some .local)
    (h : wpAny M A fst (fun x t1 => wpAny M A (pyIter x) (fun it t2 => wpAny M A mk (fun acc t3 => wpAny M A (newFunctionEnv sc env.globals clo [] env.qual none .none (some env)) (fun be t4 =>
      codeAny M A (.compStart ex 0 it acc { be with scope := relabel sc env }) (post M A E use Q acc { be with scope := relabel sc env }) t4) E t3) E t2) E t1) E s) :
    wpAny M A (comprehension ex sc env pos mk false fst use) Q E s := by
  unfold comprehension
  rw [h3, h1]
  refine wpAny_bind (wpAny_mono h (fun x t1 g1 => ?_) fun _ _ z => z)
  refine wpAny_bind (wpAny_standAt (wpAny_bind (wpAny_of_eq (h2 x) (wpAny_bind (wpAny_holding (wpAny_mono g1 (fun it t2 g2 => ?_) fun _ _ z => z))))))
  refine wpAny_standIf (wpAny_bind (wpAny_mono g2 (fun acc t3 g3 => ?_) fun _ _ z => z))
  refine wpAny_bind (wpAny_pure (wpAny_bind (wpAny_mono g3 (fun be t4 g4 => ?_) fun _ _ z => z)))
  dsimp only
  have own : ∀ (l : List (Str × NameKind)), (∀ y ∈ l, y ∈ sc.names) → ∀ y ∈ l, y.2 = .local → Env.kindOf { be with scope := relabel sc env } y.1 = some .local := fun l hl y hy e => lookup_relabel_local (h5 y (hl y hy) e)
  have in1 : ∀ y ∈ (sc.names.filter fun y => (y.2 == .local || y.2 == .cell) && y.1 != (".0" : Str)).reverse, y ∈ sc.names := fun y hy => (List.mem_filter.mp (List.mem_reverse.mp hy)).1
  have in2 : ∀ y ∈ (sc.names.filter fun y => (y.2 == .local || y.2 == .cell) && y.1 != (".0" : Str)).reverse.drop 1 ++ (sc.names.filter fun y => (y.2 == .local || y.2 == .cell) && y.1 != (".0" : Str)).reverse.take 1, y ∈ sc.names := fun y hy =>
    (List.mem_append.mp hy).elim (fun z => in1 y (List.mem_of_mem_drop z)) fun z => in1 y (List.mem_of_mem_take z)
  refine wpAny_holding (wpAny_bind (wpAny_attempt (wpAny_holding (wpAny_run (codeAny_mono g4 fun r t5 g5 => ?_)))))
  cases r with
  | ok f =>
    cases use with
    | none =>
      obtain ⟨m, hn, g6⟩ := g5
      exact wpAny_bind (wpAny_holding (wpAny_comp_letGo (cenv := { be with scope := relabel sc env }) h4 _ t5 m (own _ in1) hn fun hp _ _ sb => wpAny_pure (g6 hp sb)))
    | some u =>
      refine wpAny_bind (wpAny_rule (wpAny_bind (wpAny_holding (wpAny_mono g5 (fun _ t6 g6 => ?_) fun _ _ z => z))))
      obtain ⟨m, hn, g7⟩ := g6
      exact wpAny_bind (wpAny_comp_letGo (cenv := { be with scope := relabel sc env }) h4 _ t6 m (own _ in2) hn fun hp _ _ sb => wpAny_pure (g7 hp sb))
  | error x =>
    obtain ⟨m, hn, g6⟩ := g5
    exact wpAny_bind (wpAny_holding (wpAny_comp_letGo (cenv := { be with scope := relabel sc env }) h4 _ t5 m (own _ in1) hn fun hp _ _ sb => wpAny_mono (g6 hp sb) (fun _ _ z => z.elim) fun _ _ z => z))
end
section
variable {X : Cx} {pins : List (Addr × Obj)} {σ : L2.St} {H : Hp} {s s' : Shared} {W : WX}
/-- an exception that this frame noted is in the air: the state without it -/
theorem held (I : Inv X pins σ H s) {a : Addr} {B : Heap} {H' : Hp} {cls : Value} {d : Option Addr} (fl : HandSPX.HeldZ B X.stack a (Zc cls d) X.env.locals s'.heap) (hok : HOk X.prog X.w H' B) (ub : UB (frs X.stack) H H' s.heap B s'.heap) (na : H' a = none)
    (os : s'.os = s.os) (ag : AllBare s'.gens) (w : W cls d σ H') : XE X W (.ref a) s' := by
  obtain ⟨G, gIn, gOut⟩ := restrict s'.heap (fun b => (B.get? b).isSome || decide (b ∈ frs X.stack))
  have st := fl.1
  have fromB : ∀ b o, B.get? b = some o → G.get? b = some o := fun b o e => (gIn b (by simp [e])).trans (st b o e)
  have fromF : ∀ b, b ∈ frs X.stack → G.get? b = s'.heap.get? b := fun b hb => gIn b (by simp [hb])
  have back : ∀ b o, G.get? b = some o → s'.heap.get? b = some o ∧ ((B.get? b).isSome = true ∨ b ∈ frs X.stack) := by
    intro b o e
    by_cases q : ((B.get? b).isSome || decide (b ∈ frs X.stack)) = true
    · rw [gIn b q] at e
      exact ⟨e, by simpa using q⟩
    · rw [gOut b (by simpa using q)] at e
      cases e
  refine ⟨a, B, { s with heap := G, gens := s'.gens, drawn := s'.drawn, toks := s'.toks }, pins, σ, H', cls, d, rfl, ?_, fun b o e nf => ?_, Heap.UpToSlots.of_keeps (fun b o e => (back b o e).1), .inr (.inr fl), na, os, ag, w⟩
  · have slot : ∀ b o, s.heap.get? b = some o → b ∈ frs X.stack → ∃ sl, G.get? b = some { o with slots := sl } := fun b o e hb => by
      obtain ⟨sl, z⟩ := ub.slot b o e hb
      exact ⟨sl, (fromF b hb).trans z⟩
    refine I.call (ch := []) ⟨fun b o e n nf _ => fromB b o (ub.keep b o e n nf), fun b o e n hb _ => slot b o e hb, fun b o e n _ => ub.free b o e n, fun b o e _ => ?_, ub.tups, ub.frzs, ub.tbls⟩ (hok.kept fromB) ag (fun _ z => nomatch z)
    by_cases hb : b ∈ frs X.stack
    · obtain ⟨sl, z⟩ := slot b o e hb
      exact ⟨_, z⟩
    · obtain ⟨o2, z⟩ := ub.there b o e hb
      exact ⟨o2, fromB b o2 z⟩
  · obtain ⟨e2, hB⟩ := back b o e
    rcases hB with hB | hB
    · obtain ⟨o2, z⟩ := Option.isSome_iff_exists.mp hB
      have z2 := st b o2 z
      rw [e2] at z2
      cases z2
      exact z
    · exact absurd hB nf
end
section
variable {X : Cx} {pins pb : List (Addr × Obj)} {σ σb : L2.St} {H1 H3 : Hp} {s1 s3 s' : Shared} {W : WX} {E0 : XK}
/-- what a call in the block let out goes on to the def -/
theorem out {scope : Scope} {fp : List Addr} {ce : Env} {u : Value} {E1 : Value → Shared → Prop} (I3 : Inv X pins σ H3 s3) (hce : ce.locals = s3.heap.objs.size) (hfr : ce.frame = X.env.frame) (f3 : ∀ b ∈ fp, FpOk X pins H3 b) (hs : X.stack = X.env :: X.outer) (hf : X.env.frame = some X.env.locals)
    (tk : Takes X W) (hW : ∀ cls d H', E0 cls d H' → W cls d σ H') (Ib : Inv (X.blk s3 H3 scope ce fp) pb σb H1 s1) (c : CX X.prog X.w X.stack H1 s1 E0 u s') :
    wpAny (model X.prog X.w) X.A (noteFrame u ce) (fun _ t => ∃ m, t.heap.Ns ce.locals m ∧ ∀ hp, Heap.SameBut ce.locals t.heap hp → wpAny (model X.prog X.w) X.A (PySem.passOn "comprehension.variables-let-go" u ce : Sem Value) (fun _ _ => False) X.xe { t with heap := hp }) E1 s' := by
  obtain ⟨a, B, H', cls, d, rfl, fl, hokB, ub, na, os, ag, hE⟩ := c
  have I7 : Inv X pins σ H1 s1 := I3.call' (ch := fp) Ib.os Ib.base Ib.hok Ib.bare fun b hb => ⟨(f3 b hb).2.2.2.1, (f3 b hb).2.1, (f3 b hb).2.2.2.2.1, (f3 b hb).2.2.2.2.2⟩
  obtain ⟨m, hn, _⟩ := Ib.loc
  have hn : s1.heap.Ns ce.locals m := hn
  have nC : H1 ce.locals = none := Ib.free
  have fC : FpOk X pins H1 ce.locals := by
    rw [hce] at nC ⊢
    exact I3.fpOk (Nat.le_refl _) nC
  have nfC : ce.locals ∉ frs X.stack := by
    rw [hs]
    intro hm
    unfold frs at hm
    rw [List.filterMap_cons, hf] at hm
    rcases List.mem_cons.mp hm with z | z
    · exact fC.2.1 z
    · exact fC.2.2.1 z
  obtain ⟨oC, es, ep, hoC, hdC, hk, hm⟩ := hn
  have BC : B.get? ce.locals = some oC := ub.keep _ _ hoC nC nfC
  have nC' : H' ce.locals = none := ub.free _ _ hoC nC
  have hC' : s'.heap.get? ce.locals = some oC := fl.1 _ _ BC
  have ndC : ∀ vs, oC.data ≠ .fields vs := fun vs z => by rw [hdC] at z; cases z
  have hA : X.A.frames = some (X.env :: X.outer) := by rw [I7.ok.frames, hs]
  have fl' : HandSPX.FlyingZ B (X.env :: X.outer) a (Zc cls d) s'.heap := by rw [← hs]; exact fl
  have e1 : noteFrame (.ref a) ce = noteFrame (.ref a) X.env := by
    unfold noteFrame PySem.frameOf
    rw [hfr]
  rw [e1]
  refine HandSPX.looks_onZ Zc.steady hA hf fl' fun h1 hld up1 => ?_
  obtain ⟨sl, h1C⟩ := up1 _ _ hC' ndC
  refine ⟨m, ⟨_, es, ep, h1C, hdC, hk, hm⟩, fun h2 sb => ?_⟩
  obtain ⟨k1, k2, k3, oe, vs, T, oT, ts, he, hz, hd, hv1, hnT, hTe, hT, hdT, hT3⟩ := hld
  have aC : a ≠ ce.locals := fun z => by
    rw [z, h1C] at he
    cases he
    exact ndC _ hd
  have TC : T ≠ ce.locals := fun z => by
    rw [z, h1C] at hT
    cases hT
    exact ndC _ hdT
  have he2 := (sb.2 a aC).trans he
  have hB3 : ∀ b o, (PySem.W.hideAll B [ce.locals]).get? b = some o → b ≠ ce.locals ∧ B.get? b = some o := fun b o e => by
    refine ⟨fun z => ?_, PySem.W.of_hideAll _ e⟩
    rw [z, PySem.W.hideAll_none [ce.locals] (by simp)] at e
    cases e
  have noB3 : ∀ b, B.get? b = none → (PySem.W.hideAll B [ce.locals]).get? b = none := fun b hb => by
    cases q : (PySem.W.hideAll B [ce.locals]).get? b with
    | none => rfl
    | some o => rw [(hB3 b o q).2] at hb; cases hb
  have inB3 : ∀ b o, B.get? b = some o → b ≠ ce.locals → (PySem.W.hideAll B [ce.locals]).get? b = some o := fun b o e n => PySem.W.hideAll_get _ e (by simpa using n)
  have fr2 : h2.FunFrames (PySem.W.hideAll B [ce.locals]) (X.env :: X.outer) := by
    have k4 : ∀ L ∈ frs (X.env :: X.outer), (PySem.W.hideAll B [ce.locals]).get? L = none := fun L hL => noB3 L (k3.mem hL).1
    have gen : ∀ l : List Env, (∀ L ∈ frs l, L ∈ frs X.stack) → h1.FunFrames B l → h2.FunFrames B l := by
      intro l
      induction l with
      | nil => intro _ _; trivial
      | cons en l ih =>
        intro hsub hl
        obtain ⟨x1, ⟨L, o, x2, x3, x4, x5⟩, x6⟩ := hl
        have hL : L ∈ frs (en :: l) := by unfold frs; rw [List.filterMap_cons, x2]; exact List.mem_cons_self
        refine ⟨x1, ⟨L, o, x2, x3, ?_, x5⟩, ih (fun L2 h2 => hsub L2 ?_) x6⟩
        · rw [sb.2 L fun z => nfC (by rw [← z]; exact hsub L hL)]
          exact x4
        · unfold frs at h2 ⊢
          rw [List.filterMap_cons, x2]
          exact List.mem_cons_of_mem _ h2
    exact funFrames_none (gen _ (fun L hL => by rw [hs]; exact hL) k3) k4
  have held2 : HandSPX.HeldZ (PySem.W.hideAll B [ce.locals]) (X.env :: X.outer) a (Zc cls d) X.env.locals h2 :=
    ⟨fun b o e => (sb.2 b (hB3 b o e).1).trans (k1 b o (hB3 b o e).2), noB3 _ k2, fr2, oe, vs, T, oT, ts, he2, hz, hd, hv1, noB3 _ hnT, hTe, (sb.2 T TC).trans hT, hdT, hT3⟩
  unfold PySem.passOn
  refine wpAny_bind (wpAny_field he2 hd hv1 ?_)
  rw [if_neg (show ¬ ((Value.ref T == Value.none) = true) from by simp), hfr, hf]
  refine wpAny_bind (HandSPX.setFlight_onZ held2 fun h3 held3 up3 => ?_)
  refine wpAny_throw (tk _ _ ?_)
  rw [← hs] at held3
  -- the state without the block's names
  have I8 : Inv X pins σ H1 { s1 with heap := PySem.W.hideAll s1.heap [ce.locals] } := I7.turned (t' := s1.toks) (fun b o n e => PySem.W.hideAll_get _ e (by simpa using n)) fC.1 fC.2.1 fC.2.2.2.1 fC.2.2.2.2.1 fC.2.2.2.2.2
  have old : ∀ b o, (PySem.W.hideAll s1.heap [ce.locals]).get? b = some o → b ≠ ce.locals ∧ s1.heap.get? b = some o := fun b o e => by
    refine ⟨fun z => ?_, PySem.W.of_hideAll _ e⟩
    rw [z, PySem.W.hideAll_none [ce.locals] (by simp)] at e
    cases e
  refine held I8 held3 (fun b o q => (hokB b o q).stay (fun b2 u2 hc r => inB3 b2 u2 r fun z => ?_) (fun _ r => r) fun _ _ r => r) ⟨fun b o e n nf => inB3 b o (ub.keep b o (old b o e).2 n nf) (old b o e).1, fun b o e hb => ?_, fun b o e n => ub.free b o (old b o e).2 n, fun b o e nf => ?_, ub.tups, ub.frzs, ub.tbls⟩ na os ag (hW _ _ _ hE)
  · rcases hc with hc | hc
    · rw [← hc, z, nC'] at q
      cases q
    · rw [z, nC'] at hc
      cases hc
  · obtain ⟨sl1, z1⟩ := ub.slot b o (old b o e).2 hb
    have nd : ∀ vs, o.data ≠ .fields vs := by
      obtain ⟨_, o2, e2, hd2⟩ := I7.stack.mem hb
      rw [(old b o e).2] at e2
      cases e2
      exact hd2
    obtain ⟨sl2, z2⟩ := up1 b _ z1 nd
    have z3 := (sb.2 b (old b o e).1).trans z2
    obtain ⟨sl3, z4⟩ := up3 b _ z3 nd
    exact ⟨sl3, z4⟩
  · obtain ⟨o2, z⟩ := ub.there b o (old b o e).2 nf
    exact ⟨o2, inB3 b o2 z (old b o e).1⟩
end
section
variable {X : Cx}
theorem lcX_core {pins : List (Addr × Obj)} {s : Shared} {σ : L2.St} {H : Hp} {Q : VK} {elt tg iter : Expr} {ifs : List Expr} {sc : Scope} {own : List (Str × Nat)} {pos pos2 : Pos} {wi : TI} {g : TG} {tt : TT} {te : TE} {use : Option (Value → Sem Unit)} {Qf : Value → Shared → Prop} {E0 : XK} {W : WX}
    (hc : X.calm = true) (hN : X.N.Nodup) (I : Inv X pins σ H s) (hi : PI X tg iter wi) (ok : BlkOk X.N X.env.scope sc own)
    (hg : ∀ (t : Shared) (J : Hp) (C : Addr) (cl : List (Str × Addr)) (fp : List Addr), PG (X.blk t J sc (compEnvC sc cl C X.env) fp) tg g) (ht : ∀ (t : Shared) (J : Hp) (C : Addr) (cl : List (Str × Addr)) (fp : List Addr), PTs (X.blk t J sc (compEnvC sc cl C X.env) fp) ifs tt)
    (he : ∀ (t : Shared) (J : Hp) (C : Addr) (cl : List (Str × Addr)) (fp : List Addr) (pn : List (Addr × Obj)) (xe : Value → Shared → Prop), Passes (CX X.prog X.w) ((X.blk t J sc (compEnvC sc cl C X.env) fp).tr pn xe) E0 → PE ((X.blk t J sc (compEnvC sc cl C X.env) fp).tr pn xe) elt te)
    (hfs : ∀ x, foldedSetIterable iter X.env x = pure x) (hs : X.stack = X.env :: X.outer) (hf : X.env.frame = some X.env.locals) (tk : Takes X W) (hW : ∀ cls d J, E0 cls d J → W cls d σ J) (h : tLc wi g tt te (own.map (·.2)) σ H Q)
    (done : ∀ D C t m J, Inv X pins σ J t → Q (.ref D) J → t.heap.Ns C m → FpOk X pins J C → compPost (model X.prog X.w) X.A X.xe use Qf (.ref D) C (.ok .next) t) :
    wpAny (model X.prog X.w) X.A (comprehension (.ListComp elt [⟨tg, iter, ifs, 0⟩] sc pos) sc X.env pos2 (newList []) false (eval iter X.env) use) Qf X.xe s := by
  have cap : ∀ y ∈ sc.names, y.2 = .free → ∃ c, X.env.cells.lookup y.1 = some c := fun y hy e => (ok.free y hy e).elim (fun k => I.ok.has _ (.inl k)) fun k => I.ok.has _ (.inr k)
  refine comp_free rfl hfs (closure_ok cap) ok.kind (fun y hy e => by rw [ok.uniq y hy, e]) (thn (hi.run pins s σ H _ I h) fun xv t1 hx => thn hx fun itv t2 h2 => ?_)
  obtain ⟨it, fp, tn, J, H2, e, I2, T, st2, f2, q⟩ := h2
  subst e
  refine wpAny_newObj_type (newEnv_comp ?_) (by show 0 ≤ sizeLine; decide)
  generalize hD : t2.heap.objs.size = D
  have nD : H2 D = none := I2.hok.fresh (Nat.le_of_eq hD)
  obtain ⟨Wv, ⟨m0, w0⟩, turn⟩ := q D nD
  generalize ht3 : ({ t2 with heap := t2.heap.push { cls := .type "list", data := .seq ([] : List Value).toArray } } : Shared) = t3
  have hp3 : t3.heap = t2.heap.push { cls := .type "list", data := .seq ([] : List Value).toArray } := by rw [← ht3]
  have I3 : Inv X pins σ (upd H2 D (.lst [])) t3 := by
    rw [← ht3]
    refine I2.laid (t' := t2.toks) (fun b o e => Heap.get?_push_of_some _ e) (Nat.le_of_eq hD) ⟨Nat.zero_le _, [], 0, .nil, ?_⟩
    rw [← hD]
    exact Heap.get?_push_size _ rfl
  have lt2 : ∀ b ∈ fp, b < t2.heap.objs.size := fun b hb => let ⟨_, e, _⟩ := T.obj _ _ st2 b hb; Heap.lt_size e
  have f3 : ∀ b ∈ fp, FpOk X pins (upd H2 D (.lst [])) b ∧ b < t3.heap.objs.size := fun b hb => by
    refine ⟨⟨?_, (f2 b hb).2⟩, by rw [hp3, Heap.size_push]; exact Nat.lt_succ_of_lt (lt2 b hb)⟩
    rw [upd_ne (by rw [← hD]; exact Nat.ne_of_lt (lt2 b hb))]
    exact (f2 b hb).1
  have st3 : tn 0 t3.heap := T.keep _ _ _ st2 fun b _ o e => by rw [hp3]; exact Heap.get?_push_of_some _ e
  have I4 := block_start I3 ok hN f3
  have pg := hg t3 (upd H2 D (.lst [])) t3.heap.objs.size (cellsFrom (t3.heap.objs.size + 1) sc.names (cloFrom X.env.cells sc.names [])) fp
  have pt := ht t3 (upd H2 D (.lst [])) t3.heap.objs.size (cellsFrom (t3.heap.objs.size + 1) sc.names (cloFrom X.env.cells sc.names [])) fp
  have pe := he t3 (upd H2 D (.lst [])) t3.heap.objs.size (cellsFrom (t3.heap.objs.size + 1) sc.names (cloFrom X.env.cells sc.names [])) fp
  show codeAny _ _ (.compStart (.ListComp elt [⟨tg, iter, ifs, 0⟩] sc pos) 0 (.ref it) (.ref D) (compEnvC sc (cellsFrom (t3.heap.objs.size + 1) sc.names (cloFrom X.env.cells sc.names [])) t3.heap.objs.size X.env))
    (post (model X.prog X.w) X.A X.xe use Qf (.ref D) (compEnvC sc (cellsFrom (t3.heap.objs.size + 1) sc.names (cloFrom X.env.cells sc.names [])) t3.heap.objs.size X.env)) { t3 with heap := pushCells (t3.heap.push { cls := .type "dict", data := .dict #[] }) sc.names }
  have nfp : ∀ b ∈ fp, (upd H2 D (.lst [])) b = none := fun b hb => (f3 b hb).1.1
  generalize hce : compEnvC sc (cellsFrom (t3.heap.objs.size + 1) sc.names (cloFrom X.env.cells sc.names [])) t3.heap.objs.size X.env = ce at I4 pg pt pe ⊢
  have cL : ce.locals = t3.heap.objs.size := by rw [← hce]; rfl
  have cF : ce.frame = X.env.frame := by rw [← hce]; rfl
  generalize hH3 : upd H2 D (.lst []) = H3 at I3 I4 pg pt pe w0 nfp f3
  generalize ht4 : ({ t3 with heap := pushCells (t3.heap.push { cls := .type "dict", data := .dict #[] }) sc.names } : Shared) = t4 at I4 ⊢
  have st4 : tn 0 t4.heap := T.keep _ _ _ st3 fun b _ o e => by rw [← ht4]; exact pushCells_keeps _ _ _ _ (Heap.get?_push_of_some _ e)
  have stat : ∀ {τ : L2.St} {J' : Hp} {t : Shared}, Inv (X.blk t3 H3 sc ce fp) [] τ J' t → (∀ b ∈ fp, J' b = none) → ∀ b ∈ fp, FpOk (X.blk t3 H3 sc ce fp) [] J' b := fun {τ J' t} I' hn b hb =>
    ⟨hn b hb, (I'.ok.exf b hb).1, I'.ok.exfs b hb, .inl hb, fun x c e => (I'.ok.exf b hb).2 x c e, fun p hp => absurd (show p ∈ ([] : List (Addr × Obj)) ++ [] from hp) (by simp)⟩
  have loop : codeAny (model X.prog X.w) X.A (.compLoop (.ListComp elt [⟨tg, iter, ifs, 0⟩] sc pos) 0 (.ref it) (.ref D) ce) (post (model X.prog X.w) X.A X.xe use Qf (.ref D) ce) t4 := by
    refine compLoop_any (fun n t => ∃ i J', Inv (X.blk t3 H3 sc ce fp) [] (wipe σ (own.map (·.2))) J' t ∧ tn i t.heap ∧ (∀ b ∈ fp, J' b = none) ∧ Wv i n J') ?_ m0 ⟨0, H3, I4, st4, nfp, w0⟩
    rintro n t5 ⟨i, H5, I5, st5, n5, w5⟩
    rcases turn i n H5 w5 with ⟨stop, qq⟩ | ⟨go, Nx, hNx, step⟩
    · refine thnF (T.done (X.blk t3 H3 sc ce fp) rfl rfl rfl hc i [] t5 _ H5 (fun _ _ => False) I5 (stat I5 n5) st5 stop) fun r t6 ⟨hr, I6⟩ => ?_
      subst hr
      have I7 : Inv X pins σ H5 t6 := I3.call' (ch := fp) I6.os I6.base I6.hok I6.bare fun b hb => ⟨(f3 b hb).1.2.2.2.1, (f3 b hb).1.2.1, (f3 b hb).1.2.2.2.2.1, (f3 b hb).1.2.2.2.2.2⟩
      have nC : H5 ce.locals = none := I6.free
      obtain ⟨m, hn, _⟩ := I6.loc
      have hn : t6.heap.Ns ce.locals m := hn
      show compPost (model X.prog X.w) X.A X.xe use Qf (.ref D) ce.locals (.ok .next) t6
      refine done D ce.locals t6 m H5 I7 qq hn ?_
      rw [cL] at nC ⊢
      exact I3.fpOk (Nat.le_refl _) nC
    · refine thnF (T.item (X.blk t3 H3 sc ce fp) rfl rfl rfl hc i [] t5 _ H5 (fun _ _ => False) I5 (stat I5 n5) st5 go) fun r t6 ⟨u, hr, h6⟩ => ?_
      subst hr
      refine thnF h6 fun _ t7 ⟨x, H7, I7, r7, y7, st7, n7⟩ => ?_
      have I7p := I7.pinned (stat I7 n7) (T.obj _ _ st7)
      refine thnF (pg.run _ t7 _ H7 x u _ I7p r7 (step x H7 y7)) fun _ t8 ⟨σ8, H8, I8, hw8, q8⟩ => ?_
      refine thnF (pt.run _ t8 σ8 H8 _ I8 q8) fun b t9 ⟨H9, I9, q9⟩ => ?_
      have fin : ∀ {t : Shared} {J' : Hp}, Inv (X.blk t3 H3 sc ce fp) ([] ++ pinsAt fp t7.heap) σ8 J' t → Nx J' → ∃ m, m < n ∧ ∃ i J', Inv (X.blk t3 H3 sc ce fp) [] (wipe σ (own.map (·.2))) J' t ∧ tn i t.heap ∧ (∀ b ∈ fp, J' b = none) ∧ Wv i m J' := fun {t J'} I' nx => by
        obtain ⟨m', hm, w'⟩ := hNx J' nx
        have pin' : ∀ b ∈ fp, ∀ o, t7.heap.get? b = some o → t.heap.get? b = some o ∧ J' b = none := fun b hb o e =>
          let z := I'.pin (b, o) (List.mem_append_right _ (List.mem_append_right _ (mem_pinsAt hb e)))
          ⟨z.1, z.2.1⟩
        have hl : (wipe σ (own.map (·.2))).length = σ8.length := by rw [← hw8, wipe_length]
        refine ⟨m', hm, i + 1, J', (I'.unpinned (pins := [])).weak hl (fun j v e => by rw [← hw8] at e; exact (wipe_some e).1), T.keep _ _ _ st7 fun b hb o e => (pin' b hb o e).1, fun b hb => ?_, w'⟩
        obtain ⟨o, e, _⟩ := T.obj _ _ st7 b hb
        exact (pin' b hb o e).2
      cases b with
      | false =>
        simp only [Bool.false_eq_true, if_false] at q9 ⊢
        exact fin I9 q9
      | true =>
        simp only [if_true] at q9 ⊢
        have pex := pe ((X.blk t3 H3 sc ce fp).pn ++ ([] ++ pinsAt fp t7.heap)) (fun u t => ∃ (pb : List (Addr × Obj)) (σb : L2.St) (J1 : Hp) (t1 : Shared), Inv (X.blk t3 H3 sc ce fp) pb σb J1 t1 ∧ CX X.prog X.w X.stack J1 t1 E0 u t)
          (fun pins2 τ J1 t1 u t I' c => ⟨_, τ, J1, t1, ⟨I9.ok, I'.os, I'.bare, I'.base, I'.loc, I'.cell, I'.free, I'.freeC, (fun p hp => I'.pin p hp), I'.hok, I'.len⟩, c⟩)
        refine wpAny_mono (pex.run [] t9 σ8 H9 _ (I9.toTry _) q9) (fun z t10 ⟨yv, H10, I10, r10, acc, hD10, hz10, nx⟩ => ?_) fun u t ⟨pb, σb, J1, t1, Ib, c⟩ => out I3 cL cF (fun b hb => (f3 b hb).1) hs hf tk hW Ib c
        have I10' : Inv (X.blk t3 H3 sc ce fp) ([] ++ pinsAt fp t7.heap) σ8 H10 t10 := ⟨I9.ok, I10.os, I10.bare, I10.base, I10.loc, I10.cell, I10.free, I10.freeC, (fun p hp => I10.pin p (by rw [List.append_nil]; exact hp)), I10.hok, I10.len⟩
        exact app_ok (X := X.blk t3 H3 sc ce fp) I10' hD10 hz10 r10 fun t11 I11 => fin I11 nx
  exact codeAny_compStart_list loop (T.self X.A 0 _ _ _ st4 loop)
/-- [..] as a value -/
theorem pe_lcX {elt tg iter : Expr} {ifs : List Expr} {sc : Scope} {own : List (Str × Nat)} {pos : Pos} {wi : TI} {g : TG} {tt : TT} {te : TE} {E0 : XK} (hc : X.calm = true) (hN : X.N.Nodup) (hi : PI X tg iter wi) (ok : BlkOk X.N X.env.scope sc own)
    (hg : ∀ (t : Shared) (J : Hp) (C : Addr) (cl : List (Str × Addr)) (fp : List Addr), PG (X.blk t J sc (compEnvC sc cl C X.env) fp) tg g) (ht : ∀ (t : Shared) (J : Hp) (C : Addr) (cl : List (Str × Addr)) (fp : List Addr), PTs (X.blk t J sc (compEnvC sc cl C X.env) fp) ifs tt)
    (he : ∀ (t : Shared) (J : Hp) (C : Addr) (cl : List (Str × Addr)) (fp : List Addr) (pn : List (Addr × Obj)) (xe : Value → Shared → Prop), Passes (CX X.prog X.w) ((X.blk t J sc (compEnvC sc cl C X.env) fp).tr pn xe) E0 → PE ((X.blk t J sc (compEnvC sc cl C X.env) fp).tr pn xe) elt te)
    (hs : X.stack = X.env :: X.outer) (hf : X.env.frame = some X.env.locals) (tk : Takes X fun cls d _ J => E0 cls d J) (hfs : ∀ x, foldedSetIterable iter X.env x = pure x := by intro _; rfl) :
    PE X (.ListComp elt [⟨tg, iter, ifs, 0⟩] sc pos) (tLc wi g tt te (own.map (·.2))) := by
  refine ⟨fun pins s σ H Q I h => ?_⟩
  rw [eval_ListComp]
  refine lcX_core hc hN I hi ok hg ht he hfs hs hf tk (fun _ _ _ z => z) h fun D C t m J I' q hn f => ⟨m, hn, fun h2 sb => ?_⟩
  obtain ⟨f0, f1, f2, f3, f4, f5⟩ := f
  exact ⟨.ref D, J, I'.turned (t' := t.toks) (fun b o hb e => (sb.2 b hb).trans e) f0 f1 f3 f4 f5, rfl, q⟩
/-- name = [..] on one line, the name a local -/
theorem ps_setLcX {i : Nat} {y : Str} {py : Pos} {elt tg iter : Expr} {ifs : List Expr} {sc : Scope} {own : List (Str × Nat)} {pos spos : Pos} {wi : TI} {g : TG} {tt : TT} {te : TE} {E0 : XK} (hc : X.calm = true) (hN : X.N.Nodup) (hy : X.N[i]? = some y) (hyl : X.env.scope.names.lookup y = some .local)
    (hsw : swapsWith (.ListComp elt [⟨tg, iter, ifs, 0⟩] sc pos) (some (.Name y py)) spos.line X.env = pure true) (hi : PI X tg iter wi) (ok : BlkOk X.N X.env.scope sc own)
    (hg : ∀ (t : Shared) (J : Hp) (C : Addr) (cl : List (Str × Addr)) (fp : List Addr), PG (X.blk t J sc (compEnvC sc cl C X.env) fp) tg g) (ht : ∀ (t : Shared) (J : Hp) (C : Addr) (cl : List (Str × Addr)) (fp : List Addr), PTs (X.blk t J sc (compEnvC sc cl C X.env) fp) ifs tt)
    (he : ∀ (t : Shared) (J : Hp) (C : Addr) (cl : List (Str × Addr)) (fp : List Addr) (pn : List (Addr × Obj)) (xe : Value → Shared → Prop), Passes (CX X.prog X.w) ((X.blk t J sc (compEnvC sc cl C X.env) fp).tr pn xe) E0 → PE ((X.blk t J sc (compEnvC sc cl C X.env) fp).tr pn xe) elt te)
    (hs : X.stack = X.env :: X.outer) (hf : X.env.frame = some X.env.locals) (tk : Takes X fun cls d _ J => E0 cls d J) (hfs : ∀ x, foldedSetIterable iter X.env x = pure x := by intro _; rfl) :
    PS X (.Assign [.Name y py] (.ListComp elt [⟨tg, iter, ifs, 0⟩] sc pos) spos) (tAsg (tLc wi g tt te (own.map (·.2))) (gName i)) := by
  refine ⟨fun pins s σ H D I h => ?_⟩
  rw [exec_Assign_Name_used _ _ _ _ hsw]
  refine wpAny_bind (wpAny_standAt (wpAny_bind ?_))
  show wpAny _ X.A (do let _ ← comprehension (.ListComp elt [⟨tg, iter, ifs, 0⟩] sc pos) sc X.env (firstIterPos [⟨tg, iter, ifs, 0⟩] pos) (newList []) false (eval iter X.env) (some (assign (.Name y py) X.env))) _ _ s
  have h : tLc wi g tt te (own.map (·.2)) σ H (fun x H1 => gName i x σ H1 D.nx) := h
  refine wpAny_bind (thn (lcX_core (Qf := fun _ t => SP X pins D .next t) hc hN I hi ok hg ht he hfs hs hf tk (fun _ _ _ z => z) h fun L C t m J I' q hn f => ?_) fun _ t hq => wpAny_pure (wpAny_pure hq))
  show wpAny _ _ (assign (.Name y py) X.env (.ref L)) _ _ _
  refine wpAny_assign_Name (store_ok2 (v := V.ref L) I' hN hy (.inl hyl) rfl (fun t2 I2 ⟨a, sb, ha⟩ => ?_) (.inr hyl))
  obtain ⟨f0, f1, f2, f3, f4, f5⟩ := f
  have nCa : C ≠ a := by
    rcases ha with z | z
    · rw [z]; exact f1
    · exact fun e => f4 y a z e.symm
  refine ⟨m, hn.sameBut sb nCa, fun h3 sb3 => ?_⟩
  exact ⟨_, J, I2.turned (t' := t2.toks) (fun b o hb e => (sb3.2 b hb).trans e) f0 f1 f3 f4 f5, q⟩
end
end CompX
set_option Elab.async false
set_option linter.all false
set_option maxRecDepth 100000
set_option maxHeartbeats 8000000
namespace K28
open PySem PySem.Spec L2 GB
abbrev sChk : Stmt := topS 17
abbrev sPar : Stmt := topS 18
abbrev sChecked : Stmt := topS 16
def chkN : List Str := ["ground", "thing", "names", "path", "word", "bound"]
def parN : List Str := ["ground", "things", "names", "path", "place", "thing"]
/-- a term, or a thing whose first part that is none stands at a path -/
def spChkX (K : PySem.W.Frag) (C CB : Addr) (z : Nat) : Sp := fun vs H Q E => ∃ (G a b : Addr) (x : V) (ns : List Str) (g : GD) (path : List V), vs = [.ref G, x, .ref a, .ref b] ∧ IsGr C H G g ∧ (g.letters.map (·.1)).Nodup ∧ z ≤ 1000 ∧
  SqT K H a (sts ns) ∧ ns.length + z ≤ 1000 ∧ SqT K H b path ∧ path.length + z ≤ 1000 ∧
  ((∃ d t, Dp K H x d ∧ IsTm d t ∧ TmOk g.letters ns t ∧ t.size ≤ z ∧ ∀ u H', Same H H' → Dp K H' u t.d → Q u H') ∨
   (∃ r, BadV K H g.letters z ns x r ∧ ∀ pb d H', Same H H' → SqT K H' pb (path ++ pin r) → H' d = some (.xd [("path", .ref pb)]) → E (.ref CB) (some d) H'))
def spParX (K : PySem.W.Frag) (C CB : Addr) (z : Nat) : Sp := fun vs H Q E => ∃ (G q a b : Addr) (us : List V) (ns : List Str) (g : GD) (path : List V), vs = [.ref G, .ref q, .ref a, .ref b] ∧ IsGr C H G g ∧ (g.letters.map (·.1)).Nodup ∧ z ≤ 999 ∧ SqA K H q us ∧ us.length ≤ 1000 ∧
  SqT K H a (sts ns) ∧ ns.length + z ≤ 999 ∧ SqT K H b path ∧ path.length + z ≤ 999 ∧
  ((∃ (ds : List PyData) (ks : List GB.Tm), DpAll K H us ds ∧ ds.length = ks.length ∧ (∀ (i : Nat) (d : PyData) (k : GB.Tm), ds[i]? = some d → ks[i]? = some k → IsTm d k) ∧ (∀ (i : Nat) (k : GB.Tm), ks[i]? = some k → TmOk g.letters ns k ∧ k.size ≤ z) ∧
      ∀ l ys H', Same H H' → H' l = some (.lst ys) → DpAll K (hid [l] H') ys (ks.map GB.Tm.d) → Q (.ref l) H') ∨
   (∃ (i : Nat) (y : V) (r : List Nat), us[i]? = some y ∧ (∀ j x, j < i → us[j]? = some x → GoodV K H g.letters ns z x) ∧ BadV K H g.letters z ns y r ∧ ∀ pb d H', Same H H' → SqT K H' pb (path ++ pin (i :: r)) → H' d = some (.xd [("path", .ref pb)]) → E (.ref CB) (some d) H'))
theorem nsAt_no {w n : Str} (i : Nat) (ns : List Str) (h : w ≠ "bind") : nsAt w n i ns = ns := by
  unfold nsAt
  rw [if_neg (fun z => h z.1)]
theorem FnOk.quiet {P : Program} {w : World} {K : PySem.W.Frag} {mg : Str → Option Value} {base : Heap} {k : Nat} {f : Addr} {fd : FuncData} {ps : List Str} {sp sp' : Sp} (F : FnOk P w K mg base (L2.CX P w) k f fd ps sp)
    (h : ∀ vs H Q E, sp' vs H Q E → sp vs H Q (fun _ _ _ => False)) : FnOk P w K mg base CX0 k f fd ps sp' :=
  ⟨fun vs H Q E q => F.len vs H Q _ (h _ _ _ _ q), fun A outer s H args us vs Q E hr he hb hv hs => codeAny_mono (F.run A outer s H args us vs Q (fun _ _ _ => False) hr he hb hv (h _ _ _ _ hs)) fun r s' hR => by
    cases r with
    | ok c => cases c <;> exact hR
    | error e => obtain ⟨_, _, _, _, _, _, _, _, _, _, _, _, z⟩ := hR; exact z⟩
section
variable {P : Program} {w : World} {K : PySem.W.Frag} {mg : Str → Option Value} {base : Heap} {C CB : Addr}
theorem scChk : FnScope chkN ["ground", "thing", "names", "path"] (defScope sChk) := ⟨rfl, rfl, rfl, by decide +kernel, rfl, by decide +kernel, by decide +kernel⟩
theorem scPar : FnScope parN ["ground", "things", "names", "path"] (defScope sPar) := ⟨rfl, rfl, rfl, by decide +kernel, rfl, by decide +kernel, by decide +kernel⟩
theorem ok_par {f f2 : Addr} {fd fd2 : FuncData} (F : Fun K "_checked_parts" "_checked_parts" sPar f fd) (T : Bl mg) {z : Nat} (ihC : FnOk P w K mg base (L2.CX P w) (4 + 2 * z) f2 fd2 ["ground", "thing", "names", "path"] (spChkX K C CB z))
    (mgC : mg "checked_within" = some (.ref f2)) (kC : PySem.W.keepIn K (.ref f2) = true) (bC : Binds K fd2 ["ground", "thing", "names", "path"] []) : FnOk P w K mg base (L2.CX P w) (4 + 2 * z + 1) f fd ["ground", "things", "names", "path"] (spParX K C CB z) := by
  refine F.okX scPar (fun vs H Q E h => ?_) (fun cdv A outer s H vs Q E hr h => ?_)
  · obtain ⟨G, q, a, b, us, ns, g, path, rfl, _⟩ := h
    rfl
  · obtain ⟨G, q, a, b, us, ns, g, path, rfl, hG, nd, hz, hq, hul, ha, hna, hb, hnb, h⟩ := h
    refine ⟨_, pss_one (ps_ret (CompX.pe_lcX (own := [("place", 4), ("thing", 5)]) (g := gTup K 2 (gCons (gName 4) (gCons (gName 5) gNil))) (tt := tYes) rfl scPar.nd (pi_enumW rfl T.enum (pa_cons (pv 1) (pa_nil))) (blkOk_by (own := [("place", 4), ("thing", 5)]) (N := parN) (sc := defScope sPar) (by decide +kernel)) (fun _ _ _ _ _ => pg_tup rfl (pgs_cons (pg_name (i := 4) scPar.nd rfl (.inl rfl)) (pgs_cons (pg_name (i := 5) scPar.nd rfl (.inl rfl)) (pgs_nil)))) (fun _ _ _ _ _ => pts_nil) (fun _ _ _ _ _ pn xe hx => pe_call ihC hr rfl mgC kC bC .nil hx (pa_cons (pv 0) (pa_cons (pv 5) (pa_cons (pv 2) (pa_cons (pe_op (r := rCatA K) op_catA (pv 3) (pe_tup (pa_cons (pv 4) (pa_nil)))) (pa_nil)))))) rfl rfl (takes_of rfl rfl rfl rfl))), ?_⟩
    obtain ⟨kb, hc⟩ := sqV (hq.mono same_hid0)
    refine ⟨_, rfl, q, us, kb, [], rfl, hc, fun J WJ D nD => ?_⟩
    rcases h with ⟨ds, ks, hD, hlen, hT, hO, k⟩ | ⟨i0, y, r, hy, hgood, hbad, qe⟩
    · have hul2 : us.length = ks.length := (dps_len hD).trans hlen
      refine lc_it WJ (fun i H' => ∃ acc, Same H H' ∧ H' D = some (.lst acc) ∧ acc.length = i ∧ DpAll K (hid [D] H') acc ((ks.take i).map GB.Tm.d)) ⟨[], same_new nD, upd_same, rfl, .nil⟩ (fun i H' _ ⟨acc, s', _⟩ => hc.mono (hid_same s')) ?_ ?_
      · rintro i x H3 H3' hi ⟨acc, s3, h3, hl3, d3⟩ ⟨Tp, y1, y2, rfl, nT, rfl, e1, e2⟩
        obtain rfl := Option.some.inj e1
        obtain ⟨H4, s4, h4, e4⟩ := lay (o := .tup [.int (i : Nat), y2]) nT
        rw [e4]
        obtain ⟨dk, hdk, Dk⟩ := dps_at hD e2
        have hik : i < ks.length := by rw [← hul2]; exact hi
        have hki : ks[i]? = some ks[i] := List.getElem?_eq_getElem hik
        refine ⟨Tp, _, rfl, SqT.of h4, rfl, _, _, rfl, _, _, rfl, rfl, ?_⟩
        refine ⟨rfl, ?_⟩
        refine ⟨_, rfl, _, rfl, _, rfl, _, rfl, _, rfl, by show 1 ≤ sizeLine; decide, fun pt npt => ?_⟩
        obtain ⟨H6, s6, h6, e6⟩ := lay (o := .tup [.int (i : Nat)]) npt
        rw [e6]
        have S6 : Same H H6 := (s3.trans s4).trans s6
        refine catA (Same.seqT S6 hb) (SqT.of h6) (by rw [sizeLine_eq]; simp; omega) fun pb H7 s7 hpb => ?_
        have S7 := S6.trans s7
        obtain ⟨ok, zk⟩ := hO i _ hki
        refine ⟨G, a, pb, y2, ns, g, _, rfl, hG.mono S7, nd, by omega, Same.seqT S7 ha, by omega, hpb, by simp; omega, .inl ⟨dk, ks[i], dp_mono S7 Dk, hT i dk _ hdk hki, ok, zk, fun u H8 s8 hu => ?_⟩⟩
        have S38 : Same H3 H8 := ((s4.trans s6).trans s7).trans s8
        refine ⟨acc, S38 _ _ h3, by rw [sizeLine_eq]; omega, acc ++ [u], fun c o e => ?_, upd_same, by rw [List.length_append, hl3]; rfl, ?_⟩
        · rw [upd_ne (ne_of_none e nD)]
          exact S38 _ _ (s3 _ _ e)
        · rw [take_at hki, List.map_append]
          refine dps_mono (bt_upd (ps := [D]) (H := H8) (a := D) (by simp)) (dps_app (dps_mono (hid_same S38) d3) (.cons (dp_hid (fun q hq => ?_) _ _ (tupO_d _) hu) .nil))
          rw [List.mem_singleton.mp hq]
          exact ⟨_, S38 _ _ h3⟩
      · rintro H3 ⟨acc, s3, h3, hl3, d3⟩
        rw [List.take_of_length_le (by rw [hul2]; exact Nat.le_refl _)] at d3
        exact k D acc H3 s3 h3 d3
    · refine lc_it WJ (fun i H' => ∃ acc, Same H H' ∧ H' D = some (.lst acc) ∧ acc.length = i ∧ i ≤ i0) ⟨[], same_new nD, upd_same, rfl, Nat.zero_le _⟩ (fun i H' _ ⟨acc, s', _⟩ => hc.mono (hid_same s')) ?_ ?_
      · rintro i x H3 H3' hi ⟨acc, s3, h3, hl3, hi0⟩ ⟨Tp, y1, y2, rfl, nT, rfl, e1, e2⟩
        obtain rfl := Option.some.inj e1
        obtain ⟨H4, s4, h4, e4⟩ := lay (o := .tup [.int (i : Nat), y2]) nT
        rw [e4]
        refine ⟨Tp, _, rfl, SqT.of h4, rfl, _, _, rfl, _, _, rfl, rfl, ?_⟩
        refine ⟨rfl, ?_⟩
        refine ⟨_, rfl, _, rfl, _, rfl, _, rfl, _, rfl, by show 1 ≤ sizeLine; decide, fun pt npt => ?_⟩
        obtain ⟨H6, s6, h6, e6⟩ := lay (o := .tup [.int (i : Nat)]) npt
        rw [e6]
        have S6 : Same H H6 := (s3.trans s4).trans s6
        refine catA (Same.seqT S6 hb) (SqT.of h6) (by rw [sizeLine_eq]; simp; omega) fun pb H7 s7 hpb => ?_
        have S7 := S6.trans s7
        by_cases ci : i = i0
        · subst ci
          have e2 : us[i]? = some y2 := e2
          rw [hy] at e2
          obtain rfl := Option.some.inj e2
          refine ⟨G, a, pb, y, ns, g, _, rfl, hG.mono S7, nd, by omega, Same.seqT S7 ha, by omega, hpb, by simp; omega, .inr ⟨r, hbad.mono S7, fun pb2 d H8 s8 hpb2 hx => qe pb2 d H8 (S7.trans s8) ?_ hx⟩⟩
          rw [List.append_assoc] at hpb2
          exact hpb2
        · have hlt : i < i0 := by omega
          obtain ⟨dk, tk, Dk, Tk, Ok, zk⟩ := hgood i y2 hlt e2
          refine ⟨G, a, pb, y2, ns, g, _, rfl, hG.mono S7, nd, by omega, Same.seqT S7 ha, by omega, hpb, by simp; omega, .inl ⟨dk, tk, dp_mono S7 Dk, Tk, Ok, zk, fun u H8 s8 hu => ?_⟩⟩
          have S38 : Same H3 H8 := ((s4.trans s6).trans s7).trans s8
          refine ⟨acc, S38 _ _ h3, by rw [sizeLine_eq]; omega, acc ++ [u], fun c o e => ?_, upd_same, by rw [List.length_append, hl3]; rfl, hlt⟩
          rw [upd_ne (ne_of_none e nD)]
          exact S38 _ _ (s3 _ _ e)
      · rintro H3 ⟨acc, s3, h3, hl3, hi0⟩
        have := (List.getElem?_eq_some_iff.mp hy).1
        omega
theorem ok_chkX {f f2 : Addr} {fd fd2 : FuncData} (F : Fun K "checked_within" "checked_within" sChk f fd) (F2 : Fun K "_checked_parts" "_checked_parts" sPar f2 fd2) (T : Bl mg) (mgC : mg "checked_within" = some (.ref f)) (kC : PySem.W.keepIn K (.ref f) = true) (bC : Binds K fd ["ground", "thing", "names", "path"] [])
    (mgP : mg "_checked_parts" = some (.ref f2)) (kP : PySem.W.keepIn K (.ref f2) = true) (bP : Binds K fd2 ["ground", "things", "names", "path"] []) (NM : Nmd K mg) (TB : TBh K w mg) (BT : ErrC P w K mg base "BadTerm" "path" CB)
    (IL : Fns P w K mg base "is_list" 1 ["thing"] (spIsL K)) (INm : Fns P w K mg base "is_name" 1 ["thing"] (spIsNm K)) (IU : Fns P w K mg base "_is_use" 2 ["ground", "thing"] (spIsU K C)) :
    ∀ z : Nat, FnOk P w K mg base (L2.CX P w) (4 + 2 * z) f fd ["ground", "thing", "names", "path"] (spChkX K C CB z) := by
  obtain ⟨fI, dI, iI, tI, FI, bI⟩ := BT.ini
  obtain ⟨aN, gN, hN⟩ := NM
  obtain ⟨dT, es, nT, gT, D, hT, hno⟩ := TB
  have len8 : ∀ {z : Str}, nameB z = true → z.length ≤ sizeLine := fun {z} h => by
    unfold nameB at h
    have := (Bool.and_eq_true_iff.mp h).1
    have := of_decide_eq_true this
    rw [sizeLine_eq]; omega
  intro z
  induction z with
  | zero =>
    refine F.okX scChk (fun vs H Q E h => ?_) (fun cdv A outer s H vs Q E hr h => ?_)
    · obtain ⟨G, a, b, x, ns, g, path, rfl, _⟩ := h
      rfl
    · obtain ⟨G, a, b, x, ns, g, path, rfl, _, _, _, _, _, _, _, h⟩ := h
      rcases h with ⟨d, t, _, _, _, hz, _⟩ | ⟨r, hb, _⟩
      · exact absurd hz (by have := size_pos t; omega)
      · cases hb
  | succ z ihC =>
    have ihP := ok_par (f2 := f) (fd2 := fd) F2 T ihC mgC kC bC
    show FnOk P w K mg base (L2.CX P w) (4 + 2 * z + 1 + 1) f fd ["ground", "thing", "names", "path"] (spChkX K C CB (z + 1))
    have l1 : 1 ≤ 4 + 2 * z + 1 := by omega
    have l2 : 2 ≤ 4 + 2 * z + 1 := by omega
    have lC : 4 + 2 * z ≤ 4 + 2 * z + 1 := by omega
    have lP : 4 + 2 * z + 1 ≤ 4 + 2 * z + 1 := by omega
    refine F.okX scChk (fun vs H Q E h => ?_) (fun cdv A outer s H vs Q E hr h => ?_)
    · obtain ⟨G, a, b, x, ns, g, path, rfl, _⟩ := h
      rfl
    · obtain ⟨G, a, b, x, ns, g, path, rfl, hG, nd, hz1, ha, hna, hb, hnb, h⟩ := h
      refine ⟨_, pss_cons (ps_if (PW.pt (pw_or (pt_not (pt_val (pe_fn IL hr l1 rfl (pa_cons (pv 1) (pa_nil))))) (pw_or (pt_cmpR op_lt (pe_callB call_len_seq (by rfl) T.len PySem.boot_len (pa_cons (pv 1) (pa_nil))) (pe_int) (nomark _)) (pw_or1 (pt_not (pt_val (pe_callB call_isi (by rfl) T.isi (by decide +kernel) (pa_cons (pe_ix ix_seq (pv 1) (pe_int) (fun _ _ => rfl)) (pa_cons (pe_bltn (v := .ty "str") (by rfl) T.str (by decide +kernel) rfl) (pa_nil)))))))))) (pss_one (ps_raise rfl (takes_of rfl rfl rfl rfl) (pmk_oex BT.T iI tI FI (hr.mono (show 1 + 1 ≤ 4 + 2 * z + 1 by omega)) bI .nil pass0 rfl BT.gC (pa_cons (pv 3) (pa_nil))))) (pss_nil)) (pss_cons (ps_set (i := 4) scChk.nd rfl (.inl rfl) (pe_ix ix_seq (pv 1) (pe_int) (fun _ _ => rfl))) (pss_cons (ps_if (PW.pt (pw_and (pt_cmpR op_eq (pv 4) (pe_str) (nomark _)) (pw_and1 (pt_val (pe_fn IU hr l2 rfl (pa_cons (pv 0) (pa_cons (pv 1) (pa_nil)))))))) (pss_one (ps_ret (pe_tup (pa_cons (pe_str) (pa_cons (pe_ix ix_seq (pv 1) (pe_int) (fun _ _ => rfl)) (pa_cons (pe_callTy (call_tuple_of) (by rfl) T.tuple (by decide +kernel) (pa_cons (pe_call ihP (hr.mono lP) rfl mgP kP bP .nil (passes_call (takes_of rfl rfl rfl rfl) (fun _ _ _ _ h => h)) (pa_cons (pv 0) (pa_cons (pe_ix ix_seq (pv 1) (pe_int) (fun _ _ => rfl)) (pa_cons (pv 2) (pa_cons (pv 3) (pa_nil)))))) (pa_nil))) (pa_nil))))))) (pss_nil)) (pss_cons (ps_if (PW.pt (pw_and (pt_cmpR (op_in_kd D) (pv 4) (pe_glob (v := .ref dT) rfl gT rfl) (by rfl)) (pw_and1 (pt_cmpR op_eq (pe_callB call_len_seq (by rfl) T.len PySem.boot_len (pa_cons (pv 1) (pa_nil))) (pe_op op_add (pe_int) (pe_ix ix_kdict (pe_glob (v := .ref dT) rfl gT rfl) (pv 4) (fun _ _ => rfl))) (nomark _))))) (pss_one (ps_ret (pe_tup (pa_cons (pv 4) (StX.pa_star (pe_call ihP (hr.mono lP) rfl mgP kP bP .nil (passes_call (takes_of rfl rfl rfl rfl) (fun _ _ _ _ h => h)) (pa_cons (pv 0) (pa_cons (pe_slice sl_any (pv 1) (po_some pe_int) po_none) (pa_cons (pv 2) (pa_cons (pv 3) (pa_nil)))))) pa_nil))))) (pss_nil)) (pss_cons (ps_if (PW.pt (pw_and (pt_cmpR op_in_seq (pv 4) (pe_glob (v := .ref aN) rfl gN rfl) (by rfl)) (pw_and (pt_cmpR op_eq (pe_callB call_len_seq (by rfl) T.len PySem.boot_len (pa_cons (pv 1) (pa_nil))) (pe_int) (nomark _)) (pw_and (pt_val (pe_fn INm hr l1 rfl (pa_cons (pe_ix ix_seq (pv 1) (pe_int) (fun _ _ => rfl)) (pa_nil)))) (pw_and1 (PW.pt (pw_or (pt_cmpR op_ne (pv 4) (pe_str) (nomark _)) (pw_or1 (pt_cmpR op_in_seq (pe_ix ix_seq (pv 1) (pe_int) (fun _ _ => rfl)) (pv 2) (by rfl)))))))))) (pss_one (ps_ret (pe_tup (pa_cons (pv 4) (pa_cons (pe_ix ix_seq (pv 1) (pe_int) (fun _ _ => rfl)) (pa_nil)))))) (pss_nil)) (pss_cons (ps_if (PW.pt (pw_and (pt_cmpR op_eq (pv 4) (pe_str) (nomark _)) (pw_and (pt_cmpR op_eq (pe_callB call_len_seq (by rfl) T.len PySem.boot_len (pa_cons (pv 1) (pa_nil))) (pe_int) (nomark _)) (pw_and1 (pt_val (pe_fn INm hr l1 rfl (pa_cons (pe_ix ix_seq (pv 1) (pe_int) (fun _ _ => rfl)) (pa_nil)))))))) (pss_cons (ps_set (i := 5) scChk.nd rfl (.inl rfl) (pe_call ihC (hr.mono lC) rfl mgC kC bC .nil (passes_call (takes_of rfl rfl rfl rfl) (fun _ _ _ _ h => h)) (pa_cons (pv 0) (pa_cons (pe_ix ix_seq (pv 1) (pe_int) (fun _ _ => rfl)) (pa_cons (pv 2) (pa_cons (pe_op (r := rCatA K) op_catA (pv 3) (pe_tup (pa_cons (pe_int) (pa_nil)))) (pa_nil))))))) (pss_one (ps_ret (pe_tup (pa_cons (pe_str) (pa_cons (pe_ix ix_seq (pv 1) (pe_int) (fun _ _ => rfl)) (pa_cons (pv 5) (pa_cons (pe_call ihC (hr.mono lC) rfl mgC kC bC .nil (passes_call (takes_of rfl rfl rfl rfl) (fun _ _ _ _ h => h)) (pa_cons (pv 0) (pa_cons (pe_ix ix_seq (pv 1) (pe_int) (fun _ _ => rfl)) (pa_cons (pe_tup (StX.pa_star (pv 2) (pa_cons (pe_ix ix_seq (pv 1) (pe_int) (fun _ _ => rfl)) pa_nil))) (pa_cons (pe_op (r := rCatA K) op_catA (pv 3) (pe_tup (pa_cons (pe_int) (pa_nil)))) (pa_nil)))))) (pa_nil))))))))) (pss_nil)) (pss_one (ps_raise rfl (takes_of rfl rfl rfl rfl) (pmk_oex BT.T iI tI FI (hr.mono (show 1 + 1 ≤ 4 + 2 * z + 1 by omega)) bI .nil pass0 rfl BT.gC (pa_cons (pv 3) (pa_nil)))))))))), ?_⟩
      rcases h with ⟨d, t, hd, hT2, hO, hz, q⟩ | ⟨r, hB, qe⟩
      · cases hT2 with
        | @mk d wd n ds ks hN2 hlen hk =>
        cases hO with
        | mk hH hK =>
        obtain ⟨p, us, rfl, hV, hD⟩ := nodeV hd hN2
        have hul : us.length = ks.length := (dps_len hD).trans hlen
        have hks := len_sizes ks
        have hz' := hz
        rw [GB.Tm.size] at hz'
        rw [← hul] at hH
        rcases hV.kind with ⟨hw, rfl, hs⟩ | ⟨rfl, qq, hs, hq⟩ | ⟨rfl, hs⟩ | ⟨⟨m, ho⟩, rfl, hs⟩
        · obtain ⟨t', ht, hty⟩ := tyS hs
          refine ⟨_, rfl, .ref p, _, true, rfl, hty, kit_seq ht, fun H1 s1 => ⟨_, rfl, ?_⟩⟩
          refine iteF ?_
          refine ⟨_, rfl, p, _, rfl, hs.mono s1, _, _, rfl, rfl, _, rfl, ?_⟩
          rw [decide_eq_false (by simp only [List.length_cons, List.length_nil]; omega)]
          refine iteF ?_
          refine ⟨_, rfl, ixA (hs.mono s1) 0 rfl ⟨.str wd, .ty "str", .type "str", .type "str", true, rfl, .ty "str", .base (.str wd), kit_ty (by decide +kernel), true, rfl, ?_⟩⟩
          refine iteF ?_
          refine ⟨_, rfl, ixA (hs.mono s1) 0 rfl ?_⟩
          refine ⟨_, rfl, rfl, _, rfl, ?_⟩
          rw [decS]
          rw [decide_eq_false ((nmW _ hw).1)]
          refine iteF ?_
          refine ⟨_, rfl, wd, none, rfl, rfl, hno _ ((nmW _ hw).2.2.2), false, rfl, ?_⟩
          refine iteF ?_
          refine ⟨_, rfl, aN, sts nmd, rfl, .inr (hN _), rfl, flat_sts _, _, rfl, ?_⟩
          rw [show (if false = true then !inV (.str wd) (sts nmd) else inV (.str wd) (sts nmd)) = true from (inV_sts wd nmd).trans (decide_eq_true (hw))]
          refine iteT ?_

          refine ⟨_, rfl, p, _, rfl, hs.mono s1, rfl, _, rfl, ?_⟩
          refine iteT ?_
          obtain ⟨hn, hin⟩ := hH.nmd hw
          refine ⟨_, rfl, ixA (hs.mono s1) 1 rfl ⟨_, rfl, .inl ⟨n, rfl, len8 hn, fun H2 s2 => ⟨true, by rw [hn], ?_⟩⟩⟩⟩
          refine iteT ?_
          have S := s1.trans s2
          have e0 : nodeT wd n ds = .tuple [.str wd, .str n] := by
            unfold nodeT
            rw [if_neg (nmW _ hw).1, if_neg (nmW _ hw).2.1, if_neg (nmW _ hw).2.2.1]
          have e1 : ds = [] := by cases hD; rfl
          refine ⟨_, rfl, rfl, _, rfl, ?_⟩
          rw [decS]
          by_cases c : wd = "name"
          · rw [decide_eq_true c]
            refine iteF ?_
            refine ⟨_, rfl, ixA (hs.mono S) 1 rfl ⟨_, rfl, a, sts ns, rfl, .inr (Same.seqT S ha), rfl, flat_sts _, _, rfl, ?_⟩⟩
            rw [show (if false = true then !inV (.str n) (sts ns) else inV (.str n) (sts ns)) = true from (inV_sts n ns).trans (decide_eq_true (hin c))]
            refine iteT ?_
            refine ⟨_, rfl, _, rfl, ixA (hs.mono S) 1 rfl ⟨by show 2 ≤ sizeLine; decide, fun pt np5 => ?_⟩⟩
            obtain ⟨H5, s5, h5, e5⟩ := lay (o := .tup [.str wd, .str n]) np5
            rw [e5]
            refine q _ H5 (S.trans s5) ?_
            rw [d_node]
            have ek : ks.map GB.Tm.d = [] := by rw [List.eq_nil_of_length_eq_zero (by rw [← hul]; rfl : ks.length = 0)]; rfl
            rw [ek, ← e1, e0]
            exact .tup (SqT.of h5) (.cons (.str _) (.cons (.str _) .nil))
          · rw [decide_eq_false c]
            refine iteT ?_
            refine ⟨_, rfl, _, rfl, ixA (hs.mono S) 1 rfl ⟨by show 2 ≤ sizeLine; decide, fun pt np5 => ?_⟩⟩
            obtain ⟨H5, s5, h5, e5⟩ := lay (o := .tup [.str wd, .str n]) np5
            rw [e5]
            refine q _ H5 (S.trans s5) ?_
            rw [d_node]
            have ek : ks.map GB.Tm.d = [] := by rw [List.eq_nil_of_length_eq_zero (by rw [← hul]; rfl : ks.length = 0)]; rfl
            rw [ek, ← e1, e0]
            exact .tup (SqT.of h5) (.cons (.str _) (.cons (.str _) .nil))

        · obtain ⟨t', ht, hty⟩ := tyS hs
          have wd : Str := "use"
          refine ⟨_, rfl, .ref p, _, true, rfl, hty, kit_seq ht, fun H1 s1 => ⟨_, rfl, ?_⟩⟩
          refine iteF ?_
          refine ⟨_, rfl, p, _, rfl, hs.mono s1, _, _, rfl, rfl, _, rfl, ?_⟩
          rw [decide_eq_false (by simp only [List.length_cons, List.length_nil]; omega)]
          refine iteF ?_
          refine ⟨_, rfl, ixA (hs.mono s1) 0 rfl ⟨.str "use", .ty "str", .type "str", .type "str", true, rfl, .ty "str", .base (.str "use"), kit_ty (by decide +kernel), true, rfl, ?_⟩⟩
          refine iteF ?_
          refine ⟨_, rfl, ixA (hs.mono s1) 0 rfl ?_⟩
          refine ⟨_, rfl, rfl, _, rfl, ?_⟩
          rw [decS]

          refine iteT ?_
          refine ⟨_, rfl, _, rfl, G, p, g, rfl, hG.mono s1, nd, .inl ⟨qq, n, us, hs.mono s1, hq.mono s1, hH.toUse, fun H2 s2 => ⟨_, rfl, ?_⟩⟩⟩
          refine iteT ?_
          have S := s1.trans s2
          refine ⟨_, rfl, ixA (hs.mono S) 1 rfl ⟨_, rfl, _, rfl, ixA (hs.mono S) 2 rfl ⟨_, rfl, _, rfl, G, qq, a, b, us, ns, g, path, rfl, hG.mono S, nd, by omega, hq.mono S, by omega, Same.seqT S ha, by omega, Same.seqT S hb, by omega, .inl ⟨ds, ks, dps_mono S hD, hlen, hk, fun i k hi => ⟨by have := hK i k hi; rw [nsAt_no i ns (by decide)] at this; exact this, by have := size_at (w := "use") (n := n) hi; omega⟩, fun l ys H6 s6 h6 hy6 => ?_⟩⟩⟩⟩
          refine ⟨l, ys, rfl, .inl ⟨SqL.of h6, fun tb np7 => ?_⟩⟩
          obtain ⟨H7, s7, h7, e7⟩ := lay (o := .tup ys) np7
          rw [e7]
          refine ⟨by show 3 ≤ sizeLine; decide, fun tt np8 => ?_⟩
          obtain ⟨H8, s8, h8, e8⟩ := lay (o := .tup [.str "use", .str n, .ref tb]) np8
          rw [e8]
          refine q _ H8 (((S.trans s6).trans s7).trans s8) ?_
          rw [d_node]
          exact .tup (SqT.of h8) (.cons (.str _) (.cons (.str _) (.cons (.tup (SqT.of (s8 _ _ h7)) (dps_mono ((hid_low _ _).trans (s7.trans s8)) hy6)) .nil)))

        · obtain ⟨t', ht, hty⟩ := tyS hs
          refine ⟨_, rfl, .ref p, _, true, rfl, hty, kit_seq ht, fun H1 s1 => ⟨_, rfl, ?_⟩⟩
          refine iteF ?_
          refine ⟨_, rfl, p, _, rfl, hs.mono s1, _, _, rfl, rfl, _, rfl, ?_⟩
          rw [decide_eq_false (by simp only [List.length_cons, List.length_nil]; omega)]
          refine iteF ?_
          refine ⟨_, rfl, ixA (hs.mono s1) 0 rfl ⟨.str "bind", .ty "str", .type "str", .type "str", true, rfl, .ty "str", .base (.str "bind"), kit_ty (by decide +kernel), true, rfl, ?_⟩⟩
          refine iteF ?_
          refine ⟨_, rfl, ixA (hs.mono s1) 0 rfl ?_⟩
          refine ⟨_, rfl, rfl, _, rfl, ?_⟩
          rw [decS]
          rw [decide_eq_false (by decide)]
          refine iteF ?_
          refine ⟨_, rfl, "bind", none, rfl, rfl, hno _ (by decide), false, rfl, ?_⟩
          refine iteF ?_
          refine ⟨_, rfl, aN, sts nmd, rfl, .inr (hN _), rfl, flat_sts _, _, rfl, ?_⟩
          rw [show (if false = true then !inV (.str "bind") (sts nmd) else inV (.str "bind") (sts nmd)) = false from (inV_sts "bind" nmd).trans (decide_eq_false (by decide))]
          refine iteF ?_

          obtain ⟨hn, h2⟩ := hH.toBind
          obtain ⟨u0, u1, rfl⟩ : ∃ u0 u1, us = [u0, u1] := by
            match us, h2 with
            | [u0, u1], _ => exact ⟨u0, u1, rfl⟩
          obtain ⟨k0, k1, rfl⟩ : ∃ k0 k1, ks = [k0, k1] := by
            match ks, hul with
            | [k0, k1], _ => exact ⟨k0, k1, rfl⟩
          obtain ⟨d0, d1, rfl⟩ : ∃ d0 d1, ds = [d0, d1] := by
            match ds, hlen with
            | [d0, d1], _ => exact ⟨d0, d1, rfl⟩
          have hD0 : Dp K H u0 d0 := by cases hD with | cons h _ => exact h
          have hD1 : Dp K H u1 d1 := by cases hD with | cons _ h => cases h with | cons h _ => exact h
          refine ⟨_, rfl, rfl, _, rfl, ?_⟩
          refine iteT ?_
          refine ⟨_, rfl, p, _, rfl, hs.mono s1, rfl, _, rfl, ?_⟩
          refine iteT ?_
          refine ⟨_, rfl, ixA (hs.mono s1) 1 rfl ⟨_, rfl, .inl ⟨n, rfl, len8 hn, fun H2 s2 => ⟨true, by rw [hn], ?_⟩⟩⟩⟩
          refine iteT ?_
          have S := s1.trans s2
          have z0 := size_at (w := "bind") (n := n) (ks := [k0, k1]) (i := 0) rfl
          have z1 := size_at (w := "bind") (n := n) (ks := [k0, k1]) (i := 1) rfl
          refine ⟨_, rfl, _, rfl, ixA (hs.mono S) 2 rfl ⟨_, rfl, _, rfl, by show 1 ≤ sizeLine; decide, fun pt np3 => ?_⟩⟩
          obtain ⟨H3, s3, h3, e3⟩ := lay (o := .tup [.int 0]) np3
          rw [e3]
          refine catA (Same.seqT (S.trans s3) hb) (SqT.of h3) (by rw [sizeLine_eq]; simp; omega) fun pb0 H4 s4 hpb0 => ?_
          have S4 := (S.trans s3).trans s4
          refine ⟨G, a, pb0, u0, ns, g, _, rfl, hG.mono S4, nd, by omega, Same.seqT S4 ha, by omega, hpb0, by simp; omega, .inl ⟨d0, k0, dp_mono S4 hD0, hk 0 _ _ rfl rfl, hK 0 _ rfl, by omega, fun v0 H5 s5 hv0 => ?_⟩⟩
          have S5 := S4.trans s5
          refine ⟨_, rfl, ixA (hs.mono S5) 1 rfl ⟨_, rfl, _, rfl, _, rfl, ixA (hs.mono S5) 3 rfl ⟨_, rfl, a, sts ns, rfl, .inl (Same.seqT S5 ha), _, rfl, ixA (hs.mono S5) 1 rfl ⟨by rw [sizeLine_eq]; simp [sts]; omega, fun nb np6 => ?_⟩⟩⟩⟩
          obtain ⟨H6, s6, h6, e6⟩ := lay (o := .tup (sts ns ++ [.str n])) np6
          rw [e6]

          refine ⟨_, rfl, by show 1 ≤ sizeLine; decide, fun pt np7 => ?_⟩
          obtain ⟨H7, s7, h7, e7⟩ := lay (o := .tup [.int 1]) np7
          rw [e7]
          refine catA (Same.seqT ((S5.trans s6).trans s7) hb) (SqT.of h7) (by rw [sizeLine_eq]; simp; omega) fun pb1 H8 s8 hpb1 => ?_
          have S8 := ((S5.trans s6).trans s7).trans s8
          refine ⟨G, nb, pb1, u1, nsAt "bind" n 1 ns, g, _, rfl, hG.mono S8, nd, by omega, by rw [show sts (nsAt "bind" n 1 ns) = sts ns ++ [.str n] from by simp [nsAt, sts]]; exact SqT.of (s8 _ _ (s7 _ _ h6)), by simp [nsAt]; omega, hpb1, by simp; omega, .inl ⟨d1, k1, dp_mono S8 hD1, hk 1 _ _ rfl rfl, hK 1 _ rfl, by omega, fun v1 H9 s9 hv1 => ?_⟩⟩
          refine ⟨by show 4 ≤ sizeLine; decide, fun tt np10 => ?_⟩
          obtain ⟨H10, s10, h10, e10⟩ := lay (o := .tup [.str "bind", .str n, v0, v1]) np10
          rw [e10]
          refine q _ H10 ((S8.trans s9).trans s10) ?_
          rw [d_node]
          have SS := (((s6.trans s7).trans s8).trans s9).trans s10
          exact .tup (SqT.of h10) (.cons (.str _) (.cons (.str _) (.cons (dp_mono SS hv0) (.cons (dp_mono s10 hv1) .nil))))

        · obtain ⟨t', ht, hty⟩ := tyS hs
          have hm := hH.toOp ⟨m, ho⟩
          obtain ⟨hk2, u, hu⟩ := hT _ hm
          have n3 := ops_no _ ho
          have h1 : 1 ≤ us.length := by
            have := (show ∀ q ∈ opsW, 1 ≤ q.2 by decide) _ hm
            exact this
          refine ⟨_, rfl, .ref p, _, true, rfl, hty, kit_seq ht, fun H1 s1 => ⟨_, rfl, ?_⟩⟩
          refine iteF ?_
          refine ⟨_, rfl, p, _, rfl, hs.mono s1, _, _, rfl, rfl, _, rfl, ?_⟩
          rw [decide_eq_false (by simp only [List.length_cons, List.length_nil]; omega)]
          refine iteF ?_
          refine ⟨_, rfl, ixA (hs.mono s1) 0 rfl ⟨.str wd, .ty "str", .type "str", .type "str", true, rfl, .ty "str", .base (.str wd), kit_ty (by decide +kernel), true, rfl, ?_⟩⟩
          refine iteF ?_
          refine ⟨_, rfl, ixA (hs.mono s1) 0 rfl ?_⟩
          refine ⟨_, rfl, rfl, _, rfl, ?_⟩
          rw [decS]
          rw [decide_eq_false (n3.2.1)]
          refine iteF ?_

          refine ⟨_, rfl, wd, some u, rfl, rfl, hu, true, rfl, ?_⟩
          refine iteT ?_
          refine ⟨_, rfl, p, _, rfl, hs.mono s1, ⟨_, rfl, dT, wd, _, rfl, rfl, hk2, _, _, rfl, rfl, rfl, _, rfl, ?_⟩⟩
          rw [decI, decide_eq_true (by rw [List.length_cons]; omega)]
          refine iteT ?_
          refine ⟨_, rfl, _, rfl, _, rfl, _, rfl, ?_⟩
          refine slA (hs.mono s1) 1 fun qq H2 s2 hq => ?_
          have hq : SqA K H2 qq us := hq
          have S := s1.trans s2
          refine ⟨_, rfl, _, rfl, G, qq, a, b, us, ns, g, path, rfl, hG.mono S, nd, by omega, hq, by omega, Same.seqT S ha, by omega, Same.seqT S hb, by omega, .inl ⟨ds, ks, dps_mono S hD, hlen, hk, fun i k hi => ⟨by have := hK i k hi; rw [nsAt_no i ns n3.2.2] at this; exact this, by have := size_at (w := wd) (n := "") hi; omega⟩, fun l ys H6 s6 h6 hy6 => ?_⟩⟩
          refine ⟨l, ys, rfl, .inr (SqL.of h6), ?_⟩
          have hyl : ys.length = ks.length := by have := dps_len hy6; rw [List.length_map] at this; exact this
          refine ⟨by rw [sizeLine_eq]; simp; omega, fun tt np8 => ?_⟩
          obtain ⟨H8, s8, h8, e8⟩ := lay (o := .tup (.str wd :: ys)) np8
          rw [List.append_nil, e8]
          refine q _ H8 ((S.trans s6).trans s8) ?_
          have e : nodeT wd "" (ks.map GB.Tm.d) = .tuple (.str wd :: ks.map GB.Tm.d) := by
            unfold nodeT
            rw [if_neg n3.2.1, if_neg n3.2.2, if_pos (List.mem_map.mpr ⟨_, ho, rfl⟩)]
          rw [d_node, e]
          exact .tup (SqT.of h8) (.cons (.str _) (dps_mono ((hid_low _ _).trans s8) hy6))
      · cases hB with
        | odd hOd =>
          rcases hOd.cases4 with ⟨t, hty, hk⟩ | ⟨p, xs, rfl, hs, hl⟩ | ⟨p, y, r, t, rfl, hs, hyt, hk⟩ | ⟨p, wd, r, rfl, O⟩
          · refine ⟨_, rfl, x, _, false, rfl, hty, hk, fun H1 s1 => ⟨_, rfl, ?_⟩⟩
            refine iteT ?_
            exact ⟨_, rfl, by show 1 ≤ 1000; decide, fun e ne => mk_err (fun d H' s' h' => qe b d H' (s1.trans s') (by rw [show pin [] = [] from rfl, List.append_nil]; exact Same.seqT (s1.trans s') hb) h') e ne⟩
          · obtain ⟨t', ht, hty⟩ := tyS hs
            refine ⟨_, rfl, .ref p, _, true, rfl, hty, kit_seq ht, fun H1 s1 => ⟨_, rfl, ?_⟩⟩
            refine iteF ?_
            refine ⟨_, rfl, p, _, rfl, hs.mono s1, _, _, rfl, rfl, _, rfl, ?_⟩
            rw [decide_eq_true (by omega)]
            refine iteT ?_
            exact ⟨_, rfl, by show 1 ≤ 1000; decide, fun e ne => mk_err (fun d H' s' h' => qe b d H' (s1.trans s') (by rw [show pin [] = [] from rfl, List.append_nil]; exact Same.seqT (s1.trans s') hb) h') e ne⟩
          · obtain ⟨t', ht, hty⟩ := tyS hs
            refine ⟨_, rfl, .ref p, _, true, rfl, hty, kit_seq ht, fun H1 s1 => ⟨_, rfl, ?_⟩⟩
            refine iteF ?_
            refine ⟨_, rfl, p, _, rfl, hs.mono s1, _, _, rfl, rfl, _, rfl, ?_⟩
            refine ite2 (fun _ => ?_) (fun _ => ?_)
            · exact ⟨_, rfl, by show 1 ≤ 1000; decide, fun e ne => mk_err (fun d H' s' h' => qe b d H' (s1.trans s') (by rw [show pin [] = [] from rfl, List.append_nil]; exact Same.seqT (s1.trans s') hb) h') e ne⟩
            · refine ⟨_, rfl, ixA (hs.mono s1) 0 rfl ⟨y, .ty "str", t, .type "str", false, rfl, .ty "str", hyt _ s1, hk, false, rfl, ?_⟩⟩
              refine iteT ?_
              exact ⟨_, rfl, by show 1 ≤ 1000; decide, fun e ne => mk_err (fun d H' s' h' => qe b d H' (s1.trans s') (by rw [show pin [] = [] from rfl, List.append_nil]; exact Same.seqT (s1.trans s') hb) h') e ne⟩
          · have hs := O.sq
            obtain ⟨t', ht, hty⟩ := tyS hs
            have r1 : 1 ≤ r.length := List.length_pos_iff.mpr O.ne
            by_cases cU : wd = "use"
            · subst cU
              refine ⟨_, rfl, .ref p, _, true, rfl, hty, kit_seq ht, fun H1 s1 => ⟨_, rfl, ?_⟩⟩
              refine iteF ?_
              refine ⟨_, rfl, p, _, rfl, hs.mono s1, _, _, rfl, rfl, _, rfl, ?_⟩
              rw [decide_eq_false (by simp only [List.length_cons, List.length_nil]; omega)]
              refine iteF ?_
              refine ⟨_, rfl, ixA (hs.mono s1) 0 rfl ⟨.str "use", .ty "str", .type "str", .type "str", true, rfl, .ty "str", .base (.str "use"), kit_ty (by decide +kernel), true, rfl, ?_⟩⟩
              refine iteF ?_
              refine ⟨_, rfl, ixA (hs.mono s1) 0 rfl ?_⟩
              refine ⟨_, rfl, rfl, _, rfl, ?_⟩
              rw [decS]

              refine iteT ?_
              refine ⟨_, rfl, _, rfl, G, p, g, rfl, hG.mono s1, nd, .inr ⟨(O.use rfl).mono s1, fun H2 s2 => ⟨_, rfl, ?_⟩⟩⟩
              refine iteF ?_
              have S := s1.trans s2
              refine ⟨_, rfl, "use", none, rfl, rfl, hno _ (by decide), false, rfl, ?_⟩
              refine iteF ?_
              refine ⟨_, rfl, aN, sts nmd, rfl, .inr (hN _), rfl, flat_sts _, _, rfl, ?_⟩
              rw [show (if false = true then !inV (.str "use") (sts nmd) else inV (.str "use") (sts nmd)) = false from (inV_sts "use" nmd).trans (decide_eq_false (by decide))]
              refine iteF ?_
              refine ⟨_, rfl, rfl, _, rfl, ?_⟩
              rw [decS]
              rw [decide_eq_false (by decide)]
              refine iteF ?_
              exact ⟨_, rfl, by show 1 ≤ 1000; decide, fun e ne => mk_err (fun d H' s' h' => qe b d H' (S.trans s') (by rw [show pin [] = [] from rfl, List.append_nil]; exact Same.seqT (S.trans s') hb) h') e ne⟩

            by_cases cB : wd = "bind"
            · subst cB
              obtain ⟨y, a1, a2, rfl, hn⟩ := O.bind rfl
              refine ⟨_, rfl, .ref p, _, true, rfl, hty, kit_seq ht, fun H1 s1 => ⟨_, rfl, ?_⟩⟩
              refine iteF ?_
              refine ⟨_, rfl, p, _, rfl, hs.mono s1, _, _, rfl, rfl, _, rfl, ?_⟩
              rw [decide_eq_false (by simp only [List.length_cons, List.length_nil]; omega)]
              refine iteF ?_
              refine ⟨_, rfl, ixA (hs.mono s1) 0 rfl ⟨.str "bind", .ty "str", .type "str", .type "str", true, rfl, .ty "str", .base (.str "bind"), kit_ty (by decide +kernel), true, rfl, ?_⟩⟩
              refine iteF ?_
              refine ⟨_, rfl, ixA (hs.mono s1) 0 rfl ?_⟩
              refine ⟨_, rfl, rfl, _, rfl, ?_⟩
              rw [decS]
              rw [decide_eq_false (by decide)]
              refine iteF ?_
              refine ⟨_, rfl, "bind", none, rfl, rfl, hno _ (by decide), false, rfl, ?_⟩
              refine iteF ?_
              refine ⟨_, rfl, aN, sts nmd, rfl, .inr (hN _), rfl, flat_sts _, _, rfl, ?_⟩
              rw [show (if false = true then !inV (.str "bind") (sts nmd) else inV (.str "bind") (sts nmd)) = false from (inV_sts "bind" nmd).trans (decide_eq_false (by decide))]
              refine iteF ?_

              refine ⟨_, rfl, rfl, _, rfl, ?_⟩
              refine iteT ?_
              refine ⟨_, rfl, p, _, rfl, hs.mono s1, rfl, _, rfl, ?_⟩
              refine iteT ?_
              refine ⟨_, rfl, ixA (hs.mono s1) 1 rfl ⟨_, rfl, ?_⟩⟩
              cases hn.mono s1 with
              | @str z hz hl =>
                refine .inl ⟨z, rfl, hl, fun H2 s2 => ⟨false, by rw [hz], ?_⟩⟩
                refine iteF ?_
                have S := s1.trans s2
                exact ⟨_, rfl, by show 1 ≤ 1000; decide, fun e ne => mk_err (fun d H' s' h' => qe b d H' (S.trans s') (by rw [show pin [] = [] from rfl, List.append_nil]; exact Same.seqT (S.trans s') hb) h') e ne⟩
              | oth h5 h6 =>
                refine .inr ⟨_, h5 _ (Same.refl _), h6, ⟨false, rfl, ?_⟩⟩
                refine iteF ?_
                exact ⟨_, rfl, by show 1 ≤ 1000; decide, fun e ne => mk_err (fun d H' s' h' => qe b d H' (s1.trans s') (by rw [show pin [] = [] from rfl, List.append_nil]; exact Same.seqT (s1.trans s') hb) h') e ne⟩

            by_cases cN : wd ∈ nmd
            · rcases O.nam cN with hl | ⟨y, rfl, hn⟩
              · refine ⟨_, rfl, .ref p, _, true, rfl, hty, kit_seq ht, fun H1 s1 => ⟨_, rfl, ?_⟩⟩
                refine iteF ?_
                refine ⟨_, rfl, p, _, rfl, hs.mono s1, _, _, rfl, rfl, _, rfl, ?_⟩
                rw [decide_eq_false (by simp only [List.length_cons, List.length_nil]; omega)]
                refine iteF ?_
                refine ⟨_, rfl, ixA (hs.mono s1) 0 rfl ⟨.str wd, .ty "str", .type "str", .type "str", true, rfl, .ty "str", .base (.str wd), kit_ty (by decide +kernel), true, rfl, ?_⟩⟩
                refine iteF ?_
                refine ⟨_, rfl, ixA (hs.mono s1) 0 rfl ?_⟩
                refine ⟨_, rfl, rfl, _, rfl, ?_⟩
                rw [decS]
                rw [decide_eq_false (cU)]
                refine iteF ?_
                refine ⟨_, rfl, wd, none, rfl, rfl, hno _ ((nmW _ cN).2.2.2), false, rfl, ?_⟩
                refine iteF ?_
                refine ⟨_, rfl, aN, sts nmd, rfl, .inr (hN _), rfl, flat_sts _, _, rfl, ?_⟩
                rw [show (if false = true then !inV (.str wd) (sts nmd) else inV (.str wd) (sts nmd)) = true from (inV_sts wd nmd).trans (decide_eq_true (cN))]
                refine iteT ?_

                refine ⟨_, rfl, p, _, rfl, hs.mono s1, rfl, false, by rw [decI, decide_eq_false (by rw [List.length_cons]; omega)], ?_⟩
                refine iteF ?_
                refine ⟨_, rfl, rfl, _, rfl, ?_⟩
                rw [decS]
                rw [decide_eq_false (cB)]
                refine iteF ?_
                exact ⟨_, rfl, by show 1 ≤ 1000; decide, fun e ne => mk_err (fun d H' s' h' => qe b d H' (s1.trans s') (by rw [show pin [] = [] from rfl, List.append_nil]; exact Same.seqT (s1.trans s') hb) h') e ne⟩
              · refine ⟨_, rfl, .ref p, _, true, rfl, hty, kit_seq ht, fun H1 s1 => ⟨_, rfl, ?_⟩⟩
                refine iteF ?_
                refine ⟨_, rfl, p, _, rfl, hs.mono s1, _, _, rfl, rfl, _, rfl, ?_⟩
                rw [decide_eq_false (by simp only [List.length_cons, List.length_nil]; omega)]
                refine iteF ?_
                refine ⟨_, rfl, ixA (hs.mono s1) 0 rfl ⟨.str wd, .ty "str", .type "str", .type "str", true, rfl, .ty "str", .base (.str wd), kit_ty (by decide +kernel), true, rfl, ?_⟩⟩
                refine iteF ?_
                refine ⟨_, rfl, ixA (hs.mono s1) 0 rfl ?_⟩
                refine ⟨_, rfl, rfl, _, rfl, ?_⟩
                rw [decS]
                rw [decide_eq_false (cU)]
                refine iteF ?_
                refine ⟨_, rfl, wd, none, rfl, rfl, hno _ ((nmW _ cN).2.2.2), false, rfl, ?_⟩
                refine iteF ?_
                refine ⟨_, rfl, aN, sts nmd, rfl, .inr (hN _), rfl, flat_sts _, _, rfl, ?_⟩
                rw [show (if false = true then !inV (.str wd) (sts nmd) else inV (.str wd) (sts nmd)) = true from (inV_sts wd nmd).trans (decide_eq_true (cN))]
                refine iteT ?_

                refine ⟨_, rfl, p, _, rfl, hs.mono s1, rfl, true, rfl, ?_⟩
                refine iteT ?_
                refine ⟨_, rfl, ixA (hs.mono s1) 1 rfl ⟨_, rfl, ?_⟩⟩
                rcases hn with hn | ⟨rfl, n, rfl, hn, hni⟩
                · cases hn.mono s1 with
                  | @str z hz hl =>
                    refine .inl ⟨z, rfl, hl, fun H2 s2 => ⟨false, by rw [hz], ?_⟩⟩
                    refine iteF ?_
                    have S := s1.trans s2
                    refine ⟨_, rfl, rfl, _, rfl, ?_⟩
                    rw [decS]
                    rw [decide_eq_false (cB)]
                    refine iteF ?_
                    exact ⟨_, rfl, by show 1 ≤ 1000; decide, fun e ne => mk_err (fun d H' s' h' => qe b d H' (S.trans s') (by rw [show pin [] = [] from rfl, List.append_nil]; exact Same.seqT (S.trans s') hb) h') e ne⟩
                  | oth h5 h6 =>
                    refine .inr ⟨_, h5 _ (Same.refl _), h6, ⟨false, rfl, ?_⟩⟩
                    refine iteF ?_
                    refine ⟨_, rfl, rfl, _, rfl, ?_⟩
                    rw [decS]
                    rw [decide_eq_false (cB)]
                    refine iteF ?_
                    exact ⟨_, rfl, by show 1 ≤ 1000; decide, fun e ne => mk_err (fun d H' s' h' => qe b d H' (s1.trans s') (by rw [show pin [] = [] from rfl, List.append_nil]; exact Same.seqT (s1.trans s') hb) h') e ne⟩
                · refine .inl ⟨n, rfl, len8 hn, fun H2 s2 => ⟨true, by rw [hn], ?_⟩⟩
                  refine iteT ?_
                  have S := s1.trans s2
                  refine ⟨_, rfl, rfl, _, rfl, ?_⟩
                  rw [decS, decide_eq_true rfl]
                  refine iteF ?_
                  refine ⟨_, rfl, ixA (hs.mono S) 1 rfl ⟨_, rfl, a, sts ns, rfl, .inr (Same.seqT S ha), rfl, flat_sts _, _, rfl, ?_⟩⟩
                  rw [show (if false = true then !inV (.str n) (sts ns) else inV (.str n) (sts ns)) = false from (inV_sts n ns).trans (decide_eq_false hni)]
                  refine iteF ?_
                  refine ⟨_, rfl, rfl, _, rfl, ?_⟩
                  rw [decS]
                  rw [decide_eq_false (by decide)]
                  refine iteF ?_
                  exact ⟨_, rfl, by show 1 ≤ 1000; decide, fun e ne => mk_err (fun d H' s' h' => qe b d H' (S.trans s') (by rw [show pin [] = [] from rfl, List.append_nil]; exact Same.seqT (S.trans s') hb) h') e ne⟩
            rcases O.known with ⟨m, ho⟩ | hk
            · obtain ⟨hk2, u, hu⟩ := hT _ ho
              have hl := O.ops m ho
              refine ⟨_, rfl, .ref p, _, true, rfl, hty, kit_seq ht, fun H1 s1 => ⟨_, rfl, ?_⟩⟩
              refine iteF ?_
              refine ⟨_, rfl, p, _, rfl, hs.mono s1, _, _, rfl, rfl, _, rfl, ?_⟩
              rw [decide_eq_false (by simp only [List.length_cons, List.length_nil]; omega)]
              refine iteF ?_
              refine ⟨_, rfl, ixA (hs.mono s1) 0 rfl ⟨.str wd, .ty "str", .type "str", .type "str", true, rfl, .ty "str", .base (.str wd), kit_ty (by decide +kernel), true, rfl, ?_⟩⟩
              refine iteF ?_
              refine ⟨_, rfl, ixA (hs.mono s1) 0 rfl ?_⟩
              refine ⟨_, rfl, rfl, _, rfl, ?_⟩
              rw [decS]
              rw [decide_eq_false (cU)]
              refine iteF ?_

              refine ⟨_, rfl, wd, some u, rfl, rfl, hu, true, rfl, ?_⟩
              refine iteT ?_
              refine ⟨_, rfl, p, _, rfl, hs.mono s1, ⟨_, rfl, dT, wd, _, rfl, rfl, hk2, _, _, rfl, rfl, rfl, _, rfl, ?_⟩⟩
              rw [decI, decide_eq_false (by rw [List.length_cons]; omega)]
              refine iteF ?_
              refine ⟨_, rfl, aN, sts nmd, rfl, .inr (hN _), rfl, flat_sts _, _, rfl, ?_⟩
              rw [show (if false = true then !inV (.str wd) (sts nmd) else inV (.str wd) (sts nmd)) = false from (inV_sts wd nmd).trans (decide_eq_false (cN))]
              refine iteF ?_
              refine ⟨_, rfl, rfl, _, rfl, ?_⟩
              rw [decS]
              rw [decide_eq_false (cB)]
              refine iteF ?_
              exact ⟨_, rfl, by show 1 ≤ 1000; decide, fun e ne => mk_err (fun d H' s' h' => qe b d H' (s1.trans s') (by rw [show pin [] = [] from rfl, List.append_nil]; exact Same.seqT (s1.trans s') hb) h') e ne⟩

            · refine ⟨_, rfl, .ref p, _, true, rfl, hty, kit_seq ht, fun H1 s1 => ⟨_, rfl, ?_⟩⟩
              refine iteF ?_
              refine ⟨_, rfl, p, _, rfl, hs.mono s1, _, _, rfl, rfl, _, rfl, ?_⟩
              rw [decide_eq_false (by simp only [List.length_cons, List.length_nil]; omega)]
              refine iteF ?_
              refine ⟨_, rfl, ixA (hs.mono s1) 0 rfl ⟨.str wd, .ty "str", .type "str", .type "str", true, rfl, .ty "str", .base (.str wd), kit_ty (by decide +kernel), true, rfl, ?_⟩⟩
              refine iteF ?_
              refine ⟨_, rfl, ixA (hs.mono s1) 0 rfl ?_⟩
              refine ⟨_, rfl, rfl, _, rfl, ?_⟩
              rw [decS]
              rw [decide_eq_false (cU)]
              refine iteF ?_
              refine ⟨_, rfl, wd, none, rfl, rfl, hno _ (hk), false, rfl, ?_⟩
              refine iteF ?_
              refine ⟨_, rfl, aN, sts nmd, rfl, .inr (hN _), rfl, flat_sts _, _, rfl, ?_⟩
              rw [show (if false = true then !inV (.str wd) (sts nmd) else inV (.str wd) (sts nmd)) = false from (inV_sts wd nmd).trans (decide_eq_false (cN))]
              refine iteF ?_
              refine ⟨_, rfl, rfl, _, rfl, ?_⟩
              rw [decS]
              rw [decide_eq_false (cB)]
              refine iteF ?_
              exact ⟨_, rfl, by show 1 ≤ 1000; decide, fun e ne => mk_err (fun d H' s' h' => qe b d H' (s1.trans s') (by rw [show pin [] = [] from rfl, List.append_nil]; exact Same.seqT (s1.trans s') hb) h') e ne⟩
        | @within _ _ p wd n us i0 y r hV hH hy hgood hbad hul =>
          rcases hV.kind with ⟨hw, rfl, hs⟩ | ⟨rfl, qq, hs, hq⟩ | ⟨rfl, hs⟩ | ⟨⟨m, ho⟩, rfl, hs⟩
          · cases hy
          · obtain ⟨t', ht, hty⟩ := tyS hs
            refine ⟨_, rfl, .ref p, _, true, rfl, hty, kit_seq ht, fun H1 s1 => ⟨_, rfl, ?_⟩⟩
            refine iteF ?_
            refine ⟨_, rfl, p, _, rfl, hs.mono s1, _, _, rfl, rfl, _, rfl, ?_⟩
            rw [decide_eq_false (by simp only [List.length_cons, List.length_nil]; omega)]
            refine iteF ?_
            refine ⟨_, rfl, ixA (hs.mono s1) 0 rfl ⟨.str "use", .ty "str", .type "str", .type "str", true, rfl, .ty "str", .base (.str "use"), kit_ty (by decide +kernel), true, rfl, ?_⟩⟩
            refine iteF ?_
            refine ⟨_, rfl, ixA (hs.mono s1) 0 rfl ?_⟩
            refine ⟨_, rfl, rfl, _, rfl, ?_⟩
            rw [decS]

            refine iteT ?_
            refine ⟨_, rfl, _, rfl, G, p, g, rfl, hG.mono s1, nd, .inl ⟨qq, n, us, hs.mono s1, hq.mono s1, hH.toUse, fun H2 s2 => ⟨_, rfl, ?_⟩⟩⟩
            refine iteT ?_
            have S := s1.trans s2
            refine ⟨_, rfl, ixA (hs.mono S) 1 rfl ⟨_, rfl, _, rfl, ixA (hs.mono S) 2 rfl ⟨_, rfl, _, rfl, G, qq, a, b, us, ns, g, path, rfl, hG.mono S, nd, by omega, hq.mono S, hul, Same.seqT S ha, by omega, Same.seqT S hb, by omega, .inr ⟨i0, y, r, hy, fun j x hj hx => (by have := hgood j x hj hx; rw [nsAt_no j ns (by decide)] at this; exact this.mono S), (by have := hbad; rw [nsAt_no i0 ns (by decide)] at this; exact this.mono S), fun pb d H' s' hp hx => qe pb d H' (S.trans s') hp hx⟩⟩⟩⟩

          · obtain ⟨t', ht, hty⟩ := tyS hs
            refine ⟨_, rfl, .ref p, _, true, rfl, hty, kit_seq ht, fun H1 s1 => ⟨_, rfl, ?_⟩⟩
            refine iteF ?_
            refine ⟨_, rfl, p, _, rfl, hs.mono s1, _, _, rfl, rfl, _, rfl, ?_⟩
            rw [decide_eq_false (by simp only [List.length_cons, List.length_nil]; omega)]
            refine iteF ?_
            refine ⟨_, rfl, ixA (hs.mono s1) 0 rfl ⟨.str "bind", .ty "str", .type "str", .type "str", true, rfl, .ty "str", .base (.str "bind"), kit_ty (by decide +kernel), true, rfl, ?_⟩⟩
            refine iteF ?_
            refine ⟨_, rfl, ixA (hs.mono s1) 0 rfl ?_⟩
            refine ⟨_, rfl, rfl, _, rfl, ?_⟩
            rw [decS]
            rw [decide_eq_false (by decide)]
            refine iteF ?_
            refine ⟨_, rfl, "bind", none, rfl, rfl, hno _ (by decide), false, rfl, ?_⟩
            refine iteF ?_
            refine ⟨_, rfl, aN, sts nmd, rfl, .inr (hN _), rfl, flat_sts _, _, rfl, ?_⟩
            rw [show (if false = true then !inV (.str "bind") (sts nmd) else inV (.str "bind") (sts nmd)) = false from (inV_sts "bind" nmd).trans (decide_eq_false (by decide))]
            refine iteF ?_

            obtain ⟨hn, h2⟩ := hH.toBind
            obtain ⟨u0, u1, rfl⟩ : ∃ u0 u1, us = [u0, u1] := by
              match us, h2 with
              | [u0, u1], _ => exact ⟨u0, u1, rfl⟩
            refine ⟨_, rfl, rfl, _, rfl, ?_⟩
            refine iteT ?_
            refine ⟨_, rfl, p, _, rfl, hs.mono s1, rfl, _, rfl, ?_⟩
            refine iteT ?_
            refine ⟨_, rfl, ixA (hs.mono s1) 1 rfl ⟨_, rfl, .inl ⟨n, rfl, len8 hn, fun H2 s2 => ⟨true, by rw [hn], ?_⟩⟩⟩⟩
            refine iteT ?_
            have S := s1.trans s2
            refine ⟨_, rfl, _, rfl, ixA (hs.mono S) 2 rfl ⟨_, rfl, _, rfl, by show 1 ≤ sizeLine; decide, fun pt np3 => ?_⟩⟩
            obtain ⟨H3, s3, h3, e3⟩ := lay (o := .tup [.int 0]) np3
            rw [e3]
            refine catA (Same.seqT (S.trans s3) hb) (SqT.of h3) (by rw [sizeLine_eq]; simp; omega) fun pb0 H4 s4 hpb0 => ?_
            have S4 := (S.trans s3).trans s4
            match i0, hy, hgood, hbad, qe with
            | 0, hy, hgood, hbad, qe =>
              obtain rfl := Option.some.inj hy
              refine ⟨G, a, pb0, u0, ns, g, _, rfl, hG.mono S4, nd, by omega, Same.seqT S4 ha, by omega, hpb0, by simp; omega, .inr ⟨r, hbad.mono S4, fun pb2 d H8 s8 hpb2 hx => qe pb2 d H8 (S4.trans s8) ?_ hx⟩⟩
              rw [List.append_assoc] at hpb2
              exact hpb2
            | 1, hy, hgood, hbad, qe =>
              obtain rfl := Option.some.inj hy
              obtain ⟨d0, k0, D0, T0, O0, z0⟩ := hgood 0 u0 (by omega) rfl
              refine ⟨G, a, pb0, u0, ns, g, _, rfl, hG.mono S4, nd, by omega, Same.seqT S4 ha, by omega, hpb0, by simp; omega, .inl ⟨d0, k0, dp_mono S4 D0, T0, O0, z0, fun v0 H5 s5 hv0 => ?_⟩⟩
              have S5 := S4.trans s5
              refine ⟨_, rfl, ixA (hs.mono S5) 1 rfl ⟨_, rfl, _, rfl, _, rfl, ixA (hs.mono S5) 3 rfl ⟨_, rfl, a, sts ns, rfl, .inl (Same.seqT S5 ha), _, rfl, ixA (hs.mono S5) 1 rfl ⟨by rw [sizeLine_eq]; simp [sts]; omega, fun nb np6 => ?_⟩⟩⟩⟩
              obtain ⟨H6, s6, h6, e6⟩ := lay (o := .tup (sts ns ++ [.str n])) np6
              rw [e6]
              refine ⟨_, rfl, by show 1 ≤ sizeLine; decide, fun pt np7 => ?_⟩
              obtain ⟨H7, s7, h7, e7⟩ := lay (o := .tup [.int 1]) np7
              rw [e7]
              refine catA (Same.seqT ((S5.trans s6).trans s7) hb) (SqT.of h7) (by rw [sizeLine_eq]; simp; omega) fun pb1 H8 s8 hpb1 => ?_
              have S8 := ((S5.trans s6).trans s7).trans s8
              refine ⟨G, nb, pb1, u1, nsAt "bind" n 1 ns, g, _, rfl, hG.mono S8, nd, by omega, by rw [show sts (nsAt "bind" n 1 ns) = sts ns ++ [.str n] from by simp [nsAt, sts]]; exact SqT.of (s8 _ _ (s7 _ _ h6)), by simp [nsAt]; omega, hpb1, by simp; omega, .inr ⟨r, hbad.mono S8, fun pb2 d H9 s9 hpb2 hx => qe pb2 d H9 (S8.trans s9) ?_ hx⟩⟩
              rw [List.append_assoc] at hpb2
              exact hpb2
            | i + 2, hy, _, _, _ => cases hy

          · obtain ⟨t', ht, hty⟩ := tyS hs
            have hm := hH.toOp ⟨m, ho⟩
            obtain ⟨hk2, u, hu⟩ := hT _ hm
            have n3 := ops_no _ ho
            have h1 : 1 ≤ us.length := by
              have := (show ∀ q ∈ opsW, 1 ≤ q.2 by decide) _ hm
              exact this
            refine ⟨_, rfl, .ref p, _, true, rfl, hty, kit_seq ht, fun H1 s1 => ⟨_, rfl, ?_⟩⟩
            refine iteF ?_
            refine ⟨_, rfl, p, _, rfl, hs.mono s1, _, _, rfl, rfl, _, rfl, ?_⟩
            rw [decide_eq_false (by simp only [List.length_cons, List.length_nil]; omega)]
            refine iteF ?_
            refine ⟨_, rfl, ixA (hs.mono s1) 0 rfl ⟨.str wd, .ty "str", .type "str", .type "str", true, rfl, .ty "str", .base (.str wd), kit_ty (by decide +kernel), true, rfl, ?_⟩⟩
            refine iteF ?_
            refine ⟨_, rfl, ixA (hs.mono s1) 0 rfl ?_⟩
            refine ⟨_, rfl, rfl, _, rfl, ?_⟩
            rw [decS]
            rw [decide_eq_false (n3.2.1)]
            refine iteF ?_

            refine ⟨_, rfl, wd, some u, rfl, rfl, hu, true, rfl, ?_⟩
            refine iteT ?_
            refine ⟨_, rfl, p, _, rfl, hs.mono s1, ⟨_, rfl, dT, wd, _, rfl, rfl, hk2, _, _, rfl, rfl, rfl, _, rfl, ?_⟩⟩
            rw [decI, decide_eq_true (by rw [List.length_cons]; omega)]
            refine iteT ?_
            refine ⟨_, rfl, _, rfl, _, rfl, _, rfl, ?_⟩
            refine slA (hs.mono s1) 1 fun qq H2 s2 hq => ?_
            have hq : SqA K H2 qq us := hq
            have S := s1.trans s2
            exact ⟨_, rfl, _, rfl, G, qq, a, b, us, ns, g, path, rfl, hG.mono S, nd, by omega, hq, hul, Same.seqT S ha, by omega, Same.seqT S hb, by omega, .inr ⟨i0, y, r, hy, fun j x hj hx => (by have := hgood j x hj hx; rw [nsAt_no j ns n3.2.2] at this; exact this.mono S), (by have := hbad; rw [nsAt_no i0 ns n3.2.2] at this; exact this.mono S), fun pb d H' s' hp hx => qe pb d H' (S.trans s') hp hx⟩⟩
end
end K28
set_option Elab.async false
set_option linter.all false
set_option autoImplicit false
set_option maxRecDepth 100000
set_option maxHeartbeats 8000000
namespace K28
open PySem PySem.Spec L2 GB
/-- the module's TERMS_BEHIND, and that no other text stands in it -/
def TBl (K : PySem.W.Frag) (w : World) (mg : Str → Option Value) : Prop := ∃ d es n, mg "TERMS_BEHIND" = some (.ref d) ∧ KDict K w d es n ∧ (∀ q ∈ opsW, KDct K w d q.1 (.int (q.2 : Int)) ∧ ∃ u, PySem.W.nsIn K d q.1 = some (some u)) ∧ ∀ x, opsW.lookup x = none → PySem.W.nsIn K d x = some none
def bgV (b : Bg) : List V := match b with
  | .leaf w n => [.str w, .str n]
  | .opn w n _ _ => if w = "use" ∨ w = "bind" then [.str w, .str n] else [.str w]
def bgF (b : Bg) : Int := match b with
  | .leaf _ _ => 0
  | .opn _ _ few _ => (few : Int)
def bgM (b : Bg) : V := match b with
  | .leaf _ _ => .non
  | .opn _ _ _ most => .int (most : Int)
/-- what a method tells that begins a term -/
def BgQ (CS : Addr) (S : Addr) (T : Str) (H : Hp) (b : Bg) (r' : List Nat) (Q : V → Hp → Prop) : Prop := ∀ t a p' H', Bt [S] H H' → SgAt CS H' S T p' → Lf T p' r' → H' t = some (.tup [.ref a, .int (bgF b), bgM b]) → H' a = some (.tup (bgV b)) → Q (.ref t) H'
def spBb (CS CB : Addr) : Sp := fun vs H Q E => ∃ (S : Addr) (T : Str) (p : Nat) (wd : Str) (r : List Nat), vs = [.ref S, .str wd] ∧ SgAt CS H S T p ∧ Lf T p r ∧
  (∀ b r', behd wd r = .ok b r' → BgQ CS S T H b r' Q) ∧ (∀ r' p' d H', behd wd r = .bad r' → Bt [S] H H' → Lf T p' r' → H' d = some (.xd [("place", .int (p' : Int))]) → E (.ref CB) (some d) H')
section
variable {P : Program} {w : World} {K : PySem.W.Frag} {mg : Str → Option Value} {base : Heap} {CS CB : Addr}
theorem scS7 : FnScope ["self", "word", "failure", "name"] ["self", "word"] (defScope (sS 7)) := ⟨rfl, rfl, rfl, by decide +kernel, rfl, by decide +kernel, by decide +kernel⟩
abbrev MethOk (P : Program) (w : World) (K : PySem.W.Frag) (mg : Str → Option Value) (base : Heap) (CS : Addr) (nm : Str) (k : Nat) (ps : List Str) (sp : Sp) : Prop := ∃ g gd, Meth K CS nm g ∧ FnOk P w K mg base CX0 k g gd ps sp ∧ Binds K gd ps []
/-- a method that may raise -/
abbrev MethX (P : Program) (w : World) (K : PySem.W.Frag) (mg : Str → Option Value) (base : Heap) (CS : Addr) (nm : Str) (k : Nat) (ps : List Str) (sp : Sp) : Prop := ∃ g gd, Meth K CS nm g ∧ FnOk P w K mg base (L2.CX P w) k g gd ps sp ∧ Binds K gd ps []
theorem SgAt.mono {S : Addr} {H H' : Hp} {T : Str} {p : Nat} (h : SgAt CS H S T p) (s : Same H H') : SgAt CS H' S T p := let ⟨d, e⟩ := h.ex; ⟨d, s _ _ e⟩
/-- the two tuples that are made -/
theorem bg_lay {S : Addr} {T : Str} {p' : Nat} {H H2 : Hp} {b : Bg} {r' : List Nat} {Q : V → Hp → Prop} (q : BgQ CS S T H b r' Q) (B : Bt [S] H H2) (hS : SgAt CS H2 S T p') (hl : Lf T p' r') {bg : List V} {few : Int} {most : V} (e1 : bgV b = bg) (e2 : bgF b = few) (e3 : bgM b = most) :
    ∀ a, H2 a = none → ∀ t, (upd H2 a (.tup bg)) t = none → Q (.ref t) (upd (upd H2 a (.tup bg)) t (.tup [.ref a, .int few, most])) := fun a na t nt => by
  subst e1; subst e2; subst e3
  obtain ⟨H3, s3, h3, q3⟩ := lay (o := .tup (bgV b)) na
  rw [q3] at nt ⊢
  obtain ⟨H4, s4, h4, q4⟩ := lay (o := .tup [.ref a, .int (bgF b), bgM b]) nt
  rw [q4]
  exact q t a p' H4 (B.trans (bt_of (s3.trans s4))) (hS.mono (s3.trans s4)) hl h4 (s4 _ _ h3)
theorem lit_un {W r r' : List Nat} {u : Unit} (h : lit W r = .ok u r') : lit W r = .ok () r' := h
theorem ok_s7 {f : Addr} {fd : FuncData} (F : Fun K "take_behind_bracket" "Signs.take_behind_bracket" (sS 7) f fd) (C : SgC K CS) (TB : TBl K w mg) (TK : MethX P w K mg base CS "take" 3 ["self", "wanted"] (spTake1 CS CB)) (TN : MethX P w K mg base CS "take_name" 3 ["self"] (spTakeN CS CB)) : FnOk P w K mg base (L2.CX P w) 4 f fd ["self", "word"] (spBb CS CB) := by
  obtain ⟨g2, d2, M2, F2, B2⟩ := TK
  obtain ⟨g3, d3, M3, F3, B3⟩ := TN
  obtain ⟨dT, es, nT, gT, D, hT, hno⟩ := TB
  refine F.okX scS7 (fun vs H Q E h => ?_) (fun cdv A outer s H vs Q E hr h => ?_)
  · obtain ⟨S, T, p, wd, r, rfl, _⟩ := h
    rfl
  · obtain ⟨S, T, p, wd, r, rfl, hS, hl, q, qe⟩ := h
    refine ⟨_, pss_cons (ps_if (pt_cmpR op_eq (pv 1) pe_str (nomark _)) (pss_cons (ps_set (i := 2) scS7.nd rfl (.inl rfl) (pe_meth0 (pv 0) C.cl M3 F3 hr B3 .nil (passes_call (takes_of rfl rfl rfl rfl) (fun _ _ _ _ h => h)) rfl)) (pss_cons (ps_expr (pe_meth (pv 0) C.cl M2 F2 hr B2 .nil (passes_call (takes_of rfl rfl rfl rfl) (fun _ _ _ _ h => h)) (pa_cons pe_str pa_nil) rfl rfl rfl)) (pss_one (ps_ret (pe_tup (pa_cons (pe_tup (pa_cons pe_str (pa_cons (pv 2) pa_nil))) (pa_cons pe_int (pa_cons pe_non pa_nil)))))))) pss_nil)
      (pss_cons (ps_if (pt_cmpR op_eq (pv 1) pe_str (nomark _)) (pss_cons (ps_set (i := 3) scS7.nd rfl (.inl rfl) (pe_meth0 (pv 0) C.cl M3 F3 hr B3 .nil (passes_call (takes_of rfl rfl rfl rfl) (fun _ _ _ _ h => h)) rfl)) (pss_cons (ps_expr (pe_meth (pv 0) C.cl M2 F2 hr B2 .nil (passes_call (takes_of rfl rfl rfl rfl) (fun _ _ _ _ h => h)) (pa_cons pe_str pa_nil) rfl rfl rfl)) (pss_one (ps_ret (pe_tup (pa_cons (pe_tup (pa_cons pe_str (pa_cons (pv 3) pa_nil))) (pa_cons pe_int (pa_cons pe_int pa_nil)))))))) pss_nil)
      (pss_cons (ps_if (pt_cmpR (op_in_kd D) (pv 1) (pe_glob (v := .ref dT) rfl gT rfl) (by rfl)) (pss_one (ps_ret (pe_tup (pa_cons (pe_tup (pa_cons (pv 1) pa_nil)) (pa_cons (pe_ix ix_kdict (pe_glob (v := .ref dT) rfl gT rfl) (pv 1) (fun _ _ => rfl)) (pa_cons (pe_ix ix_kdict (pe_glob (v := .ref dT) rfl gT rfl) (pv 1) (fun _ _ => rfl)) pa_nil)))))) pss_nil)
      (pss_one (ps_ret (pe_tup (pa_cons (pe_tup (pa_cons pe_str (pa_cons (pv 1) pa_nil))) (pa_cons pe_int (pa_cons pe_int pa_nil)))))))), ?_⟩
    obtain ⟨dx, e0⟩ := hS.ex
    by_cases c1 : wd = "fail"
    · subst c1
      refine ⟨_, rfl, rfl, _, rfl, ?_⟩
      refine iteT ?_
      have eb : behd "fail" r = (takeN r).bind fun n r => (lit [41] r).bind fun _ r => .ok (.leaf "fail" n) r := by unfold behd; rw [if_pos rfl]
      refine ⟨_, rfl, S, dx, _, rfl, e0, rfl, S, T, p, r, rfl, hS, hl, fun n r1 p1 H1 h1 b1 hS1 hl1 => ?_, fun r' p' d H' h1 b1 hl' hx => qe r' p' d H' (by rw [eb, h1]; rfl) b1 hl' hx⟩
      obtain ⟨dx1, e1⟩ := hS1.ex
      refine ⟨_, rfl, S, dx1, _, rfl, e1, rfl, S, T, _, ")", r1, rfl, hS1, hl1, fun r2 p2 H2 h2 b2 hS2 hl2 => ?_, fun r' p' d H' h2 b2 hl' hx => qe r' p' d H' (by rw [eb, h1]; show (lit [41] r1).bind _ = _; rw [show lit [41] r1 = .bad r' from h2]; rfl) (b1.trans b2) hl' hx⟩
      have e2 : behd "fail" r = .ok (.leaf "fail" n) r2 := by rw [eb, h1]; show (lit [41] r1).bind _ = _; rw [show lit [41] r1 = .ok () r2 from h2]; rfl
      refine ⟨_, rfl, by show 2 ≤ sizeLine; decide, fun a na => ?_⟩
      refine ⟨by show 3 ≤ sizeLine; decide, fun t nt => ?_⟩
      exact bg_lay (q _ _ e2) (b1.trans b2) hS2 hl2 rfl rfl rfl a na t nt
    by_cases c2 : wd = "bind"
    · subst c2
      refine ⟨_, rfl, rfl, _, rfl, ?_⟩
      refine iteF ?_
      refine ⟨_, rfl, rfl, _, rfl, ?_⟩
      refine iteT ?_
      have eb : behd "bind" r = (takeN r).bind fun n r => (lit [44, 32] r).bind fun _ r => .ok (.opn "bind" n 2 2) r := by unfold behd; rw [if_neg (by decide), if_pos rfl]
      refine ⟨_, rfl, S, dx, _, rfl, e0, rfl, S, T, p, r, rfl, hS, hl, fun n r1 p1 H1 h1 b1 hS1 hl1 => ?_, fun r' p' d H' h1 b1 hl' hx => qe r' p' d H' (by rw [eb, h1]; rfl) b1 hl' hx⟩
      obtain ⟨dx1, e1⟩ := hS1.ex
      refine ⟨_, rfl, S, dx1, _, rfl, e1, rfl, S, T, _, ", ", r1, rfl, hS1, hl1, fun r2 p2 H2 h2 b2 hS2 hl2 => ?_, fun r' p' d H' h2 b2 hl' hx => qe r' p' d H' (by rw [eb, h1]; show (lit [44, 32] r1).bind _ = _; rw [show lit [44, 32] r1 = .bad r' from h2]; rfl) (b1.trans b2) hl' hx⟩
      have e2 : behd "bind" r = .ok (.opn "bind" n 2 2) r2 := by rw [eb, h1]; show (lit [44, 32] r1).bind _ = _; rw [show lit [44, 32] r1 = .ok () r2 from h2]; rfl
      refine ⟨_, rfl, by show 2 ≤ sizeLine; decide, fun a na => ?_⟩
      refine ⟨by show 3 ≤ sizeLine; decide, fun t nt => ?_⟩
      exact bg_lay (q _ _ e2) (b1.trans b2) hS2 hl2 rfl rfl rfl a na t nt
    refine ⟨_, rfl, rfl, _, rfl, ?_⟩
    rw [decS, decide_eq_false c1]
    refine iteF ?_
    refine ⟨_, rfl, rfl, _, rfl, ?_⟩
    rw [decS, decide_eq_false c2]
    refine iteF ?_
    cases ho : opsW.lookup wd with
    | some m =>
      have hm := opl ho
      obtain ⟨hk2, u, hu⟩ := hT _ hm
      have e2 : behd wd r = .ok (.opn wd "" m m) r := by unfold behd; rw [if_neg c1, if_neg c2, ho]
      refine ⟨_, rfl, wd, some u, rfl, rfl, hu, true, rfl, ?_⟩
      refine iteT ?_
      have nu := (opsW_heads _ hm).2.2.2
      refine ⟨_, rfl, by show 1 ≤ sizeLine; decide, fun a na => ?_⟩
      refine ⟨_, rfl, dT, wd, _, rfl, rfl, hk2, _, rfl, dT, wd, _, rfl, rfl, hk2, by show 3 ≤ sizeLine; decide, fun t nt => ?_⟩
      exact bg_lay (q _ _ e2) (Same.refl _) hS hl (if_neg (fun z => z.elim nu.1 nu.2)) rfl rfl a na t nt
    | none =>
      have e2 : behd wd r = .ok (.opn "use" wd 0 2) r := by unfold behd; rw [if_neg c1, if_neg c2, ho]
      refine ⟨_, rfl, wd, none, rfl, rfl, hno _ ho, false, rfl, ?_⟩
      refine iteF ?_
      refine ⟨_, rfl, by show 2 ≤ sizeLine; decide, fun a na => ?_⟩
      refine ⟨by show 3 ≤ sizeLine; decide, fun t nt => ?_⟩
      exact bg_lay (q _ _ e2) (Same.refl _) hS hl rfl rfl rfl a na t nt
end
end K28
set_option Elab.async false
set_option linter.all false
set_option autoImplicit false
set_option maxRecDepth 100000
set_option maxHeartbeats 8000000
namespace K28
open PySem PySem.Spec L2 GB
def spBg (CS CB : Addr) : Sp := fun vs H Q E => ∃ (S : Addr) (T : Str) (p : Nat) (r : List Nat), vs = [.ref S] ∧ SgAt CS H S T p ∧ Lf T p r ∧
  (∀ b r', pBg r = .ok b r' → BgQ CS S T H b r' Q) ∧ (∀ r' p' d H', pBg r = .bad r' → Bt [S] H H' → Lf T p' r' → H' d = some (.xd [("place", .int (p' : Int))]) → E (.ref CB) (some d) H')
theorem BgQ.mono {CS S : Addr} {T : Str} {H H1 : Hp} {b : Bg} {r' : List Nat} {Q : V → Hp → Prop} (h : BgQ CS S T H b r' Q) (s : Bt [S] H H1) : BgQ CS S T H1 b r' Q := fun t a p' H' B => h t a p' H' (s.trans B)
section
variable {P : Program} {w : World} {K : PySem.W.Frag} {mg : Str → Option Value} {base : Heap} {CS CB : Addr}
theorem scS6 : FnScope ["self", "letter", "name"] ["self"] (defScope (sS 6)) := ⟨rfl, rfl, rfl, by decide +kernel, rfl, by decide +kernel, by decide +kernel⟩
theorem sgn_eq (r : List Nat) (d : Nat) : decide (V.str (sgn r) = V.str ⟨#[d]⟩) = decide (r.head? = some d) := by
  cases r with
  | nil => rw [decide_eq_false (fun e => by have e := congrArg cl (V.str.inj e); cases e), decide_eq_false (fun e => by cases e)]
  | cons c r =>
    by_cases h : c = d
    · rw [decide_eq_true (by rw [h]; rfl), decide_eq_true (by rw [h]; rfl)]
    · exact (decide_eq_false (fun e => by have e := congrArg cl (V.str.inj e); exact h (List.cons.inj e).1)).trans (decide_eq_false (fun e => h (Option.some.inj e))).symm
theorem ok_s6 {f : Addr} {fd : FuncData} (F : Fun K "take_begun" "Signs.take_begun" (sS 6) f fd) (C : SgC K CS) (SG : MethOk P w K mg base CS "sign" 1 ["self"] (spSign CS)) (TK : MethX P w K mg base CS "take" 3 ["self", "wanted"] (spTake1 CS CB)) (TN : MethX P w K mg base CS "take_name" 3 ["self"] (spTakeN CS CB)) (TW : MethX P w K mg base CS "take_word" 3 ["self"] (spTakeW CS CB)) (TB : MethX P w K mg base CS "take_behind_bracket" 4 ["self", "word"] (spBb CS CB)) : FnOk P w K mg base (L2.CX P w) 5 f fd ["self"] (spBg CS CB) := by
  obtain ⟨g1, d1, M1, F1, B1⟩ := SG
  obtain ⟨g2, d2, M2, F2, B2⟩ := TK
  obtain ⟨g3, d3, M3, F3, B3⟩ := TN
  obtain ⟨g4, d4, M4, F4, B4⟩ := TW
  obtain ⟨g7, d7, M7, F7, B7⟩ := TB
  refine F.okX scS6 (fun vs H Q E h => ?_) (fun cdv A outer s H vs Q E hr h => ?_)
  · obtain ⟨S, T, p, r, rfl, _⟩ := h
    rfl
  · obtain ⟨S, T, p, r, rfl, hS, hl, q, qe⟩ := h
    have r1 := hr.mono (show 1 ≤ 4 by decide)
    have r2 := hr.mono (show 3 ≤ 4 by decide)
    refine ⟨_, pss_cons (ps_if (pt_cmpR op_eq (pe_meth0 (pv 0) C.cl M1 F1 r1 B1 .nil pass0 rfl) pe_str (nomark _)) (pss_cons (ps_expr (pe_meth (pv 0) C.cl M2 F2 r2 B2 .nil (passes_call (takes_of rfl rfl rfl rfl) (fun _ _ _ _ h => h)) (pa_cons pe_str pa_nil) rfl rfl rfl)) (pss_one (ps_ret (pe_tup (pa_cons (pe_tup (pa_cons pe_str (pa_cons (pe_meth0 (pv 0) C.cl M3 F3 r2 B3 .nil (passes_call (takes_of rfl rfl rfl rfl) (fun _ _ _ _ h => h)) rfl) pa_nil))) (pa_cons pe_int (pa_cons pe_non pa_nil))))))) pss_nil)
      (pss_cons (ps_if (pt_cmpR op_eq (pe_meth0 (pv 0) C.cl M1 F1 r1 B1 .nil pass0 rfl) pe_str (nomark _)) (pss_cons (ps_expr (pe_meth (pv 0) C.cl M2 F2 r2 B2 .nil (passes_call (takes_of rfl rfl rfl rfl) (fun _ _ _ _ h => h)) (pa_cons pe_str pa_nil) rfl rfl rfl)) (pss_cons (ps_set (i := 1) scS6.nd rfl (.inl rfl) (pe_meth0 (pv 0) C.cl M4 F4 r2 B4 .nil (passes_call (takes_of rfl rfl rfl rfl) (fun _ _ _ _ h => h)) rfl)) (pss_cons (ps_expr (pe_meth (pv 0) C.cl M2 F2 r2 B2 .nil (passes_call (takes_of rfl rfl rfl rfl) (fun _ _ _ _ h => h)) (pa_cons pe_str pa_nil) rfl rfl rfl)) (pss_one (ps_ret (pe_tup (pa_cons (pe_tup (pa_cons pe_str (pa_cons (pv 1) pa_nil))) (pa_cons pe_int (pa_cons pe_int pa_nil))))))))) pss_nil)
      (pss_cons (ps_set (i := 2) scS6.nd rfl (.inl rfl) (pe_meth0 (pv 0) C.cl M3 F3 r2 B3 .nil (passes_call (takes_of rfl rfl rfl rfl) (fun _ _ _ _ h => h)) rfl))
      (pss_cons (ps_if (pt_cmpR op_ne (pe_meth0 (pv 0) C.cl M1 F1 r1 B1 .nil pass0 rfl) pe_str (nomark _)) (pss_one (ps_ret (pe_tup (pa_cons (pe_tup (pa_cons pe_str (pa_cons (pv 2) pa_nil))) (pa_cons pe_int (pa_cons pe_non pa_nil)))))) pss_nil)
      (pss_cons (ps_expr (pe_meth (pv 0) C.cl M2 F2 r2 B2 .nil (passes_call (takes_of rfl rfl rfl rfl) (fun _ _ _ _ h => h)) (pa_cons pe_str pa_nil) rfl rfl rfl))
      (pss_one (ps_ret (pe_meth (pv 0) C.cl M7 F7 hr B7 .nil (passes_call (takes_of rfl rfl rfl rfl) (fun _ _ _ _ h => h)) (pa_cons (pv 2) pa_nil) rfl rfl rfl))))))), ?_⟩
    obtain ⟨dx, e0⟩ := hS.ex
    by_cases c1 : r.head? = some 39
    · have ep : pBg r = (takeN r.tail).bind fun n r => .ok (.leaf "value" n) r := by unfold pBg; rw [if_pos c1]
      have el : lit [39] r = .ok () r.tail := by
        have := head_tail c1
        generalize r.tail = t at this ⊢
        rw [this, lit, if_pos rfl]
        rfl
      refine ⟨_, rfl, S, dx, _, rfl, e0, rfl, S, T, p, _, rfl, hS, hl, rfl, _, rfl, ?_⟩
      rw [show (decide (V.str (sgn r) = V.str "'")) = true from (sgn_eq r 39).trans (decide_eq_true c1)]
      refine iteT ?_
      refine ⟨_, rfl, S, dx, _, rfl, e0, rfl, S, T, p, "'", r, rfl, hS, hl, fun r1 p1 H1 h1 b1 hS1 hl1 => ?_, fun r' p' d H' h1 _ _ _ => by rw [show cl "'" = [39] from rfl, el] at h1; cases h1⟩
      have e1 : r1 = r.tail := by rw [show cl "'" = [39] from rfl, el] at h1; cases h1; rfl
      subst e1
      obtain ⟨dx1, e1⟩ := hS1.ex
      refine ⟨_, rfl, S, dx1, _, rfl, e1, rfl, S, T, _, _, rfl, hS1, hl1, fun n r2 p2 H2 h2 b2 hS2 hl2 => ?_, fun r' p' d H' h2 b2 hl' hx => qe r' p' d H' (by rw [ep, h2]; rfl) (b1.trans b2) hl' hx⟩
      have e2 : pBg r = .ok (.leaf "value" n) r2 := by rw [ep, h2]; rfl
      refine ⟨by show 2 ≤ sizeLine; decide, fun a na => ?_⟩
      refine ⟨by show 3 ≤ sizeLine; decide, fun t nt => ?_⟩
      exact bg_lay (q _ _ e2) (b1.trans b2) hS2 hl2 rfl rfl rfl a na t nt
    refine ⟨_, rfl, S, dx, _, rfl, e0, rfl, S, T, p, _, rfl, hS, hl, rfl, _, rfl, ?_⟩
    rw [show (decide (V.str (sgn r) = V.str "'")) = false from (sgn_eq r 39).trans (decide_eq_false c1)]
    refine iteF ?_
    refine ⟨_, rfl, S, dx, _, rfl, e0, rfl, S, T, p, _, rfl, hS, hl, rfl, _, rfl, ?_⟩
    by_cases c2 : r.head? = some 46
    · have ep : pBg r = (takeW [] r.tail).bind fun n r => (lit [40] r).bind fun _ r => .ok (.opn "use" n 0 2) r := by unfold pBg; rw [if_neg c1, if_pos c2]
      have el : lit [46] r = .ok () r.tail := by
        have := head_tail c2
        generalize r.tail = t at this ⊢
        rw [this, lit, if_pos rfl]
        rfl
      rw [show (decide (V.str (sgn r) = V.str ".")) = true from (sgn_eq r 46).trans (decide_eq_true c2)]
      refine iteT ?_
      refine ⟨_, rfl, S, dx, _, rfl, e0, rfl, S, T, p, ".", r, rfl, hS, hl, fun r1 p1 H1 h1 b1 hS1 hl1 => ?_, fun r' p' d H' h1 _ _ _ => by rw [show cl "." = [46] from rfl, el] at h1; cases h1⟩
      have e1 : r1 = r.tail := by rw [show cl "." = [46] from rfl, el] at h1; cases h1; rfl
      subst e1
      obtain ⟨dx1, e1⟩ := hS1.ex
      refine ⟨_, rfl, S, dx1, _, rfl, e1, rfl, S, T, _, _, rfl, hS1, hl1, fun n r2 p2 H2 h2 b2 hS2 hl2 => ?_, fun r' p' d H' h2 b2 hl' hx => qe r' p' d H' (by rw [ep, h2]; rfl) (b1.trans b2) hl' hx⟩
      obtain ⟨dx2, e2⟩ := hS2.ex
      refine ⟨_, rfl, S, dx2, _, rfl, e2, rfl, S, T, _, "(", r2, rfl, hS2, hl2, fun r3 p3 H3 h3 b3 hS3 hl3 => ?_, fun r' p' d H' h3 b3 hl' hx => qe r' p' d H' (by rw [ep, h2]; show (lit [40] r2).bind _ = _; rw [show lit [40] r2 = .bad r' from h3]; rfl) ((b1.trans b2).trans b3) hl' hx⟩
      have e3 : pBg r = .ok (.opn "use" n 0 2) r3 := by rw [ep, h2]; show (lit [40] r2).bind _ = _; rw [show lit [40] r2 = .ok () r3 from h3]; rfl
      refine ⟨_, rfl, by show 2 ≤ sizeLine; decide, fun a na => ?_⟩
      refine ⟨by show 3 ≤ sizeLine; decide, fun t nt => ?_⟩
      exact bg_lay (q _ _ e3) ((b1.trans b2).trans b3) hS3 hl3 rfl rfl rfl a na t nt
    rw [show (decide (V.str (sgn r) = V.str ".")) = false from (sgn_eq r 46).trans (decide_eq_false c2)]
    refine iteF ?_
    have ep : pBg r = (takeN r).bind fun n r => if r.head? = some 40 then behd n r.tail else .ok (.leaf "name" n) r := by unfold pBg; rw [if_neg c1, if_neg c2]
    refine ⟨_, rfl, S, dx, _, rfl, e0, rfl, S, T, _, _, rfl, hS, hl, fun n r2 p2 H2 h2 b2 hS2 hl2 => ?_, fun r' p' d H' h2 b2 hl' hx => qe r' p' d H' (by rw [ep, h2]; rfl) b2 hl' hx⟩
    have ep2 : pBg r = if r2.head? = some 40 then behd n r2.tail else .ok (.leaf "name" n) r2 := by rw [ep, h2]; rfl
    obtain ⟨dx2, e2⟩ := hS2.ex
    refine ⟨_, rfl, S, dx2, _, rfl, e2, rfl, S, T, _, r2, rfl, hS2, hl2, rfl, _, rfl, ?_⟩
    by_cases c4 : r2.head? = some 40
    · rw [if_pos c4] at ep2
      have el : lit [40] r2 = .ok () r2.tail := by
        have := head_tail c4
        generalize r2.tail = t at this ⊢
        rw [this, lit, if_pos rfl]
        rfl
      rw [show (!decide (V.str (sgn r2) = V.str "(")) = false from by rw [show (decide (V.str (sgn r2) = V.str "(")) = true from (sgn_eq r2 40).trans (decide_eq_true c4)]; rfl]
      refine iteF ?_
      refine ⟨_, rfl, S, dx2, _, rfl, e2, rfl, S, T, _, "(", r2, rfl, hS2, hl2, fun r3 p3 H3 h3 b3 hS3 hl3 => ?_, fun r' p' d H' h1 _ _ _ => by rw [show cl "(" = [40] from rfl, el] at h1; cases h1⟩
      have e3 : r3 = r2.tail := by rw [show cl "(" = [40] from rfl, el] at h3; cases h3; rfl
      subst e3
      obtain ⟨dx3, e3⟩ := hS3.ex
      refine ⟨_, rfl, S, dx3, _, rfl, e3, rfl, _, rfl, S, T, _, n, _, rfl, hS3, hl3, fun b r' h => (q b r' (ep2.trans h)).mono (b2.trans b3), fun r' p' d H' h b' hl' hx => qe r' p' d H' (ep2.trans h) ((b2.trans b3).trans b') hl' hx⟩
    · rw [if_neg c4] at ep2
      rw [show (!decide (V.str (sgn r2) = V.str "(")) = true from by rw [show (decide (V.str (sgn r2) = V.str "(")) = false from (sgn_eq r2 40).trans (decide_eq_false c4)]; rfl]
      refine iteT ?_
      refine ⟨_, rfl, by show 2 ≤ sizeLine; decide, fun a na => ?_⟩
      refine ⟨by show 3 ≤ sizeLine; decide, fun t nt => ?_⟩
      exact bg_lay (q _ _ ep2) b2 hS2 hl2 rfl rfl rfl a na t nt
end
end K28
set_option Elab.async false
set_option linter.all false
set_option autoImplicit false
set_option maxRecDepth 100000
set_option maxHeartbeats 8000000
namespace K28
open PySem PySem.Spec L2 GB
theorem leaf_d28 {w n : Str} (hw : w ∈ nmd) : (GB.Tm.mk w n []).d = .tuple [.str w, .str n] := by
  have : ∀ x ∈ nmd, x ≠ "use" ∧ x ≠ "bind" ∧ x ∉ opsW.map (·.1) := by decide
  obtain ⟨e1, e2, e3⟩ := this w hw
  rw [GB.Tm.d, if_neg e1, if_neg e2, if_neg e3]
theorem use_d28 {n : Str} {ks : List GB.Tm} : (GB.Tm.mk "use" n ks).d = .tuple [.str "use", .str n, .tuple (ks.map GB.Tm.d)] := by rw [GB.Tm.d, if_pos rfl, ds_map]
/-- the first things of a begun term, and what it comes to -/
theorem opn_d28 {r r' : List Nat} {w n : Str} {few most : Nat} (h : pBg r = .ok (.opn w n few most) r') (hw : w ≠ "use") : ∃ rr, bgV (.opn w n few most) = .str w :: rr ∧ (rr = [] ∨ rr = [.str n]) ∧ ∀ ks : List GB.Tm, (GB.Tm.mk w n ks).d = .tuple ((.str w :: (if w = "bind" then [.str n] else [])) ++ ks.map GB.Tm.d) ∧ rr = (if w = "bind" then [.str n] else []) := by
  rcases pBg_shape h with ⟨e, _⟩ | ⟨e, _⟩ | ⟨e, _⟩
  · exact absurd e hw
  · subst e
    exact ⟨[.str n], rfl, .inr rfl, fun ks => ⟨by rw [GB.Tm.d, if_neg (by decide), if_pos rfl, if_pos rfl, ds_map]; rfl, by rw [if_pos rfl]⟩⟩
  · have n3 := (opsW_heads _ e).2.2.2.2
    exact ⟨[], if_neg (fun z => z.elim hw n3), .inl rfl, fun ks => ⟨by rw [GB.Tm.d, if_neg hw, if_neg n3, if_pos (List.mem_map.mpr ⟨_, e, rfl⟩), if_neg n3, ds_map]; rfl, by rw [if_neg n3]⟩⟩
def ttN : List Str := ["self", "begun", "fewest", "most", "terms"]
def spTt (K : PySem.W.Frag) (CS CB : Addr) (z : Nat) : Sp := fun vs H Q E => ∃ (S : Addr) (T : Str) (p : Nat) (r : List Nat), vs = [.ref S] ∧ SgAt CS H S T p ∧ Lf T p r ∧ cnt r < z ∧ z ≤ 200 ∧
  (∀ t r' v p' H', pT z r = .ok t r' → Bt [S] H H' → SgAt CS H' S T p' → Lf T p' r' → Dp K (hid [S] H') v t.d → Q v H') ∧ (∀ r' p' d H', pT z r = .bad r' → Bt [S] H H' → Lf T p' r' → H' d = some (.xd [("place", .int (p' : Int))]) → E (.ref CB) (some d) H')
section
variable {P : Program} {w : World} {K : PySem.W.Frag} {mg : Str → Option Value} {base : Heap} {CS CB : Addr}
theorem scS5 : FnScope ttN ["self"] (defScope (sS 5)) := ⟨rfl, rfl, rfl, by decide +kernel, rfl, by decide +kernel, by decide +kernel⟩
theorem ok_s5 {f : Addr} {fd : FuncData} (F : Fun K "take_term" "Signs.take_term" (sS 5) f fd) (T : Bl mg) (C : SgC K CS) (MT : Meth K CS "take_term" f) (bF : Binds K fd ["self"] []) (SG : MethOk P w K mg base CS "sign" 1 ["self"] (spSign CS)) (TK : MethX P w K mg base CS "take" 3 ["self", "wanted"] (spTake1 CS CB)) (BG : MethX P w K mg base CS "take_begun" 5 ["self"] (spBg CS CB)) : ∀ z : Nat, FnOk P w K mg base (L2.CX P w) (6 + z) f fd ["self"] (spTt K CS CB z) := by
  obtain ⟨g1, d1, M1, F1, B1⟩ := SG
  obtain ⟨g2, d2, M2, F2, B2⟩ := TK
  obtain ⟨g6, d6, M6, F6, B6⟩ := BG
  intro z
  induction z with
  | zero =>
    refine F.okX scS5 (fun vs H Q E h => ?_) (fun cdv A outer s H vs Q E hr h => ?_)
    · obtain ⟨S, TT, p, r, rfl, _⟩ := h
      rfl
    · obtain ⟨S, TT, p, r, rfl, _, _, hz, _⟩ := h
      exact absurd hz (Nat.not_lt_zero _)
  | succ z ih =>
    refine F.okX scS5 (fun vs H Q E h => ?_) (fun cdv A outer s H vs Q E hr h => ?_)
    · obtain ⟨S, TT, p, r, rfl, _⟩ := h
      rfl
    · obtain ⟨S, TT, p, r0, rfl, hS, hl, hz, hz2, q, qe⟩ := h
      have r1 := hr.mono (show 1 ≤ Nat.add 6 z by show 1 ≤ 6 + z; omega)
      have r2 := hr.mono (show 3 ≤ Nat.add 6 z by show 3 ≤ 6 + z; omega)
      have r4 := hr.mono (show 5 ≤ Nat.add 6 z by show 5 ≤ 6 + z; omega)
      have rz := hr.mono (show 6 + z ≤ Nat.add 6 z from Nat.le_refl _)
      refine ⟨_, pss_cons (ps_asg (pe_meth0 (pv 0) C.cl M6 F6 r4 B6 .nil (passes_call (takes_of rfl rfl rfl rfl) (fun _ _ _ _ h => h)) rfl) (pg_tup rfl (pgs_cons (pg_name (i := 1) scS5.nd rfl (.inl rfl)) (pgs_cons (pg_name (i := 2) scS5.nd rfl (.inl rfl)) (pgs_cons (pg_name (i := 3) scS5.nd rfl (.inl rfl)) pgs_nil))))) (pss_cons (ps_if (pt_cmpR op_isN (pv 3) (pe_non) (nomark _)) (pss_one (ps_ret (pv 1))) pss_nil) (pss_cons (ps_set (i := 4) scS5.nd rfl (.inl rfl) (pe_lst pa_nil)) (pss_cons (ps_if (PW.pt (pw_or (pt_cmpR op_gt (pv 2) (pe_int) (nomark _)) (pw_or1 (pt_cmpR op_ne (pe_meth0 (pv 0) C.cl M1 F1 r1 B1 .nil pass0 rfl) (pe_str) (nomark _))))) (pss_one (ps_expr (pe_bm PySem.F.plainAttrs_list PySem.F.slot_list_append PySem.F.type_list_append mt_append (pv 4) (pa_cons (pe_meth0 (pv 0) C.cl MT ih rz bF .nil (passes_call (takes_of rfl rfl rfl rfl) (fun _ _ _ _ h => h)) rfl) (pa_nil))))) pss_nil) (pss_cons (ps_while (passes_of rfl) (PW.pt (pw_or (pt_cmpR op_lt (pe_callB call_len_seq (by rfl) T.len PySem.boot_len (pa_cons (pv 4) pa_nil)) (pv 2) (nomark _)) (pw_or1 (PW.pt (pw_and (pt_cmpR op_lt (pe_callB call_len_seq (by rfl) T.len PySem.boot_len (pa_cons (pv 4) pa_nil)) (pv 3) (nomark _)) (pw_and1 (pt_cmpR op_eq (pe_meth0 (pv 0) C.cl M1 F1 r1 B1 .nil pass0 rfl) (pe_str) (nomark _)))))))) (pss_cons (ps_expr (pe_meth (pv 0) C.cl M2 F2 r2 B2 .nil (passes_call (takes_of rfl rfl rfl rfl) (fun _ _ _ _ h => h)) (pa_cons pe_str pa_nil) rfl rfl rfl)) (pss_one (ps_expr (pe_bm PySem.F.plainAttrs_list PySem.F.slot_list_append PySem.F.type_list_append mt_append (pv 4) (pa_cons (pe_meth0 (pv 0) C.cl MT ih rz bF .nil (passes_call (takes_of rfl rfl rfl rfl) (fun _ _ _ _ h => h)) rfl) (pa_nil))))))) (pss_cons (ps_expr (pe_meth (pv 0) C.cl M2 F2 r2 B2 .nil (passes_call (takes_of rfl rfl rfl rfl) (fun _ _ _ _ h => h)) (pa_cons pe_str pa_nil) rfl rfl rfl)) (pss_one (ps_ret (pe_ifExp (pt_cmpR op_eq (pe_ix ix_seq (pv 1) pe_int (fun _ _ => rfl)) (pe_str) (nomark _)) (pe_tup (pa_cons (pe_str) (pa_cons (pe_ix ix_seq (pv 1) pe_int (fun _ _ => rfl)) (pa_cons (pe_callTy (call_tuple_of) (by rfl) T.tuple (by decide +kernel) (pa_cons (pv 4) pa_nil)) (pa_nil))))) (pe_tup (StX.pa_star (pv 1) (StX.pa_star (pv 4) pa_nil))))))))))), ?_⟩
      obtain ⟨dx, e0⟩ := hS.ex
      have ep : pT (z + 1) r0 = (pBg r0).bind fun b r => match b with
        | .leaf w n => .ok (.mk w n []) r
        | .opn w n few most => (pOne (pT z) few r).bind fun ts r => (pMore (pT z) few most (3 - ts.length) ts r).bind fun ts r => .ok (.mk w n ts) r := rfl
      refine ⟨_, rfl, S, dx, _, rfl, e0, rfl, S, TT, p, r0, rfl, hS, hl, fun bg r1 hb1 tt b p1 H1 b1 hS1 hl1 htt hbg => ?_, fun r' p' d H' h1 b1 hl' hx => qe r' p' d H' (by rw [ep, h1]; rfl) b1 hl' hx⟩
      rw [hb1, Rs.bind_ok] at ep
      refine ⟨tt, _, rfl, SqT.of htt, rfl, _, _, rfl, _, _, rfl, _, _, rfl, rfl, ?_⟩
      have bS : b ≠ S := fun e => by
        obtain ⟨d, e2⟩ := hS1.ex
        rw [e, e2] at hbg
        cases hbg
      refine ⟨_, rfl, rfl, _, rfl, ?_⟩
      cases bg with
      | leaf wd n =>
        rw [show (decide (bgM (.leaf wd n) = V.non)) = true from decide_eq_true rfl]
        refine iteT ?_
        refine ⟨_, rfl, q _ r1 _ p1 H1 ep b1 hS1 hl1 ?_⟩
        rw [leaf_d28 (pBg_eq hb1).2.1]
        exact .tup (SqT.of (hid_to (ni1 bS) hbg)) (.cons (.str _) (.cons (.str _) .nil))
      | opn wd n fN mN =>
      rw [show (decide (bgM (.opn wd n fN mN) = V.non)) = false from decide_eq_false (fun e => nomatch e)]
      refine iteF ?_
      have sh : fN ≤ 3 ∧ 1 ≤ mN ∧ mN ≤ 3 := by
        rcases pBg_shape hb1 with ⟨e0, e1, e2⟩ | ⟨e0, e1, e2⟩ | ⟨e0, _, e2⟩
        · omega
        · omega
        · have := (wdL_op _ e0).2
          simp only [] at this
          omega
      have c1 : cnt r1 < z := by
        have := pBg_suf hb1
        simp only [] at this
        omega
      replace ep : pT (z + 1) r0 = (pOne (pT z) fN r1).bind fun ts r => (pMore (pT z) fN mN (3 - ts.length) ts r).bind fun ts r => .ok (.mk wd n ts) r := ep
      refine ⟨by show 0 ≤ sizeLine; decide, fun D nD => ?_⟩
      obtain ⟨H2, s2, hD2, q2⟩ := lay (o := .lst []) nD
      rw [q2]
      have DS : D ≠ S := fun e => by
        obtain ⟨d, e2⟩ := hS1.ex
        rw [e, e2] at nD
        cases nD
      have bD : b ≠ D := fun e => by rw [← e, hbg] at nD; cases nD
      -- what stands behind some terms
      obtain ⟨Inv, hInv⟩ : ∃ Inv : List GB.Tm → List Nat → Nat → Hp → Prop, Inv = fun ts r p' H' => Bt [S] H1 H' ∧ SgAt CS H' S TT p' ∧ (∃ xs, H' D = some (.lst xs) ∧ xs.length = ts.length ∧ DpAll K (hid [S, D] H') xs (ts.map GB.Tm.d)) ∧ Lf TT p' r ∧ H' b = some (.tup (bgV (.opn wd n fN mN))) ∧ cnt r < z ∧ ts.length ≤ 3 ∧ pT (z + 1) r0 = (pMore (pT z) fN mN (3 - ts.length) ts r).bind fun ts r => .ok (.mk wd n ts) r := ⟨_, rfl⟩
      have S12 : Bt [S] H1 H2 := bt_of s2
      obtain ⟨dx2, e2⟩ : ∃ d, H2 S = some (.ins CS d (sgF TT p1)) := let ⟨d, e⟩ := hS1.ex; ⟨d, s2 _ _ e⟩
      have hS2 : SgAt CS H2 S TT p1 := ⟨_, e2⟩
      have hb2 := s2 _ _ hbg
      -- one more term stands in the list
      have more : ∀ {ts : List GB.Tm} {H' : Hp} {xs : List V}, Bt [S] H1 H' → H' D = some (.lst xs) → xs.length = ts.length → ts.length < 3 → DpAll K (hid [S, D] H') xs (ts.map GB.Tm.d) → H' b = some (.tup (bgV (.opn wd n fN mN))) → ∀ v t r2 p'' H'', Bt [S] H' H'' → SgAt CS H'' S TT p'' → Lf TT p'' r2 → Dp K (hid [S] H'') v t.d → cnt r2 < z → pT (z + 1) r0 = ((pMore (pT z) fN mN (3 - (ts ++ [t]).length) (ts ++ [t]) r2).bind fun ts r => .ok (.mk wd n ts) r) → H'' D = some (.lst xs) ∧ xs.length < sizeLine ∧ Inv (ts ++ [t]) r2 p'' (upd H'' D (.lst (xs ++ [v]))) := by
        intro ts H' xs B' hD hx h3 hd hb' v t r2 p'' H'' B'' hS'' hl'' hv hc hp
        refine ⟨bt_at B'' (ni1 DS) hD, by rw [hx, sizeLine_eq]; omega, ?_⟩
        rw [hInv]
        obtain ⟨d'', e''⟩ := hS''.ex
        refine ⟨fun c o e => ?_, ⟨d'', by rw [upd_ne DS.symm]; exact e''⟩, ⟨_, upd_same, by rw [List.length_append, List.length_append, hx]; rfl, ?_⟩, hl'', by rw [upd_ne bD]; exact bt_at B'' (ni1 bS) hb', hc, by rw [List.length_append, List.length_singleton]; omega, hp⟩
        · obtain ⟨e1, m⟩ := hid_in e
          exact hid_to m (by rw [upd_ne (ne_of_none e1 nD)]; exact bt_at B'' m (bt_at B' m e1))
        · have bb : Bt [S, D] H' H'' := bt_weak (by simp) B''
          have bu : Bt [S, D] H'' (upd H'' D (.lst (xs ++ [v]))) := bt_upd (by simp)
          rw [List.map_append]
          refine dps_app (dps_mono (bb.trans bu) hd) (.cons (dp_mono bu ?_) .nil)
          have hDD : (hid [S] H'') D = some (.lst xs) := hid_to (ni1 DS) (bt_at B'' (ni1 DS) hD)
          refine dp_mono (fun c o e => ?_) (dp_hid (ps := [D]) (fun q hq => by rw [List.mem_singleton.mp hq]; exact ⟨_, hDD⟩) _ _ (tupO_d t) hv)
          obtain ⟨e1, m1⟩ := hid_in e
          obtain ⟨e2, m2⟩ := hid_in e1
          exact hid_to (by simp only [List.mem_cons, List.not_mem_nil, or_false] at m1 m2 ⊢; exact fun z => z.elim m2 m1) e2
      -- the first term, if there is one
      refine ⟨_, rfl, _, _, rfl, rfl, _, rfl, ?_⟩
      by_cases hf : fN = 0
      focus
        rw [show decide (bgF (.opn wd n fN mN) > 0) = false from decide_eq_false (by show ¬ ((fN : Int) > 0); omega)]
        refine iteF ?_
        refine ⟨_, rfl, S, dx2, _, rfl, e2, rfl, S, TT, p1, _, rfl, hS2, hl1, rfl, _, rfl, ?_⟩
        by_cases h41 : r1.head? = some 41
        focus
          rw [show (!decide (V.str (sgn r1) = V.str ")")) = false from by rw [show (decide (V.str (sgn r1) = V.str ")")) = true from (sgn_eq r1 41).trans (decide_eq_true h41)]; rfl]
          refine iteF ?_
          have hpo : pOne (pT z) fN r1 = .ok [] r1 := by unfold pOne; rw [if_neg (by rintro (h | h); omega; exact h h41)]
          obtain ⟨ts0, rX, pX, hI⟩ : ∃ ts0 rX pX, Inv ts0 rX pX H2 := ⟨[], r1, p1, by
            rw [hInv]
            exact ⟨S12, hS2, ⟨[], hD2, rfl, .nil⟩, hl1, hb2, c1, by decide, by rw [ep, hpo]; rfl⟩⟩
          generalize H2 = HX at hI ⊢
        rotate_left
        focus
          rw [show (!decide (V.str (sgn r1) = V.str ")")) = true from by rw [show (decide (V.str (sgn r1) = V.str ")")) = false from (sgn_eq r1 41).trans (decide_eq_false h41)]; rfl]
          refine iteT ?_
          have hpo : pOne (pT z) fN r1 = (pT z r1).bind fun t r => .ok [t] r := by unfold pOne; rw [if_pos (.inr h41)]
      rotate_left 2
      focus
        rw [show decide (bgF (.opn wd n fN mN) > 0) = true from decide_eq_true (by show ((fN : Int) > 0); omega)]
        refine iteT ?_
        refine iteT ?_
        have hpo : pOne (pT z) fN r1 = (pT z r1).bind fun t r => .ok [t] r := by unfold pOne; rw [if_pos (.inl (by omega))]
      rotate_right
      rotate_left
      all_goals first
        | (refine ⟨_, rfl, .inl ⟨rfl, _, SqL.of hD2⟩, _, rfl, S, dx2, _, rfl, e2, rfl, S, TT, p1, r1, rfl, hS2, hl1, c1, by omega, fun t r2 v p'' H'' ht B'' hS'' hl'' hv => ?_, fun r' p' d H' h3 b3 hl' hx => qe r' p' d H' (by rw [ep, hpo, h3]; rfl) ((b1.trans S12).trans b3) hl' hx⟩
           obtain ⟨g1', g2', g3'⟩ := more (ts := []) S12 hD2 rfl (by decide) .nil hb2 v t r2 p'' H'' B'' hS'' hl'' hv (by have := pT_suf z ht; omega) (by rw [ep, hpo, ht]; rfl)
           refine ⟨D, _, _, rfl, rfl, g1', g2', ?_⟩
           obtain ⟨ts0, rX, pX, hI⟩ : ∃ ts0 rX pX, Inv ts0 rX pX (upd H'' D (.lst ([] ++ [v]))) := ⟨_, _, _, g3'⟩
           generalize upd H'' D (.lst ([] ++ [v])) = HX at hI ⊢)
        | skip
      all_goals
        refine ⟨fun m σ H' => ∃ ts r p', m = 3 - ts.length ∧ σ = [some (.ref S), some (.ref b), some (.int (fN : Int)), some (.int (mN : Int)), some (.ref D)] ∧ Inv ts r p' H', ⟨_, ts0, rX, pX, rfl, rfl, hI⟩, ?_⟩
        rintro m σ HY ⟨ts, rY, pY, rfl, rfl, hIY⟩
        rw [hInv] at hIY
        obtain ⟨BY, hSY, ⟨xs, hDY, hxl, hdY⟩, hlY, hbY, hcY, h3Y, hpY⟩ := hIY
        obtain ⟨dxY, eY⟩ := hSY.ex
        refine ⟨_, rfl, D, xs, rfl, .inl (SqL.of hDY), _, rfl, _, _, rfl, rfl, _, rfl, ?_⟩
        have stp : ¬ (ts.length < fN ∨ (ts.length < mN ∧ rY.head? = some 44)) → pMore (pT z) fN mN (3 - ts.length) ts rY = (lit [41] rY).bind fun _ r => .ok ts r := fun h => by
          cases h3 : 3 - ts.length with
          | zero => rfl
          | succ j => rw [pMore, if_neg h]
        by_cases hgo : ts.length < fN ∨ (ts.length < mN ∧ rY.head? = some 44)
        focus
          have hlt : ts.length < 3 := by rcases hgo with h | h <;> omega
          have hmo : pMore (pT z) fN mN (3 - ts.length) ts rY = (lit [44, 32] rY).bind fun _ r => (pT z r).bind fun t r => pMore (pT z) fN mN (3 - (ts ++ [t]).length) (ts ++ [t]) r := by
            obtain ⟨j, hj⟩ : ∃ j, 3 - ts.length = j + 1 := ⟨2 - ts.length, by omega⟩
            have hj2 : ∀ t : GB.Tm, 3 - (ts ++ [t]).length = j := fun t => by rw [List.length_append, List.length_singleton]; omega
            simp only [hj2]
            rw [hj, pMore, if_pos hgo]
          by_cases hfl : ts.length < fN
          focus
            rw [show decide ((xs.length : Int) < (fN : Int)) = true from decide_eq_true (by omega)]
            refine iteT ?_
            refine iteT ?_
          rotate_left
          focus
            have h2 := hgo.resolve_left hfl
            rw [show decide ((xs.length : Int) < (fN : Int)) = false from decide_eq_false (by omega)]
            refine iteF ?_
            refine ⟨_, rfl, D, xs, rfl, .inl (SqL.of hDY), _, rfl, _, _, rfl, rfl, _, rfl, ?_⟩
            rw [show decide ((xs.length : Int) < (mN : Int)) = true from decide_eq_true (by omega)]
            refine iteT ?_
            refine ⟨_, rfl, S, dxY, _, rfl, eY, rfl, S, TT, pY, _, rfl, hSY, hlY, rfl, _, rfl, ?_⟩
            rw [show (decide (V.str (sgn rY) = V.str ",")) = true from (sgn_eq rY 44).trans (decide_eq_true h2.2)]
            refine iteT ?_
          all_goals
            refine ⟨fun σ' H' => ∃ t r2 p', σ' = [some (.ref S), some (.ref b), some (.int (fN : Int)), some (.int (mN : Int)), some (.ref D)] ∧ Inv (ts ++ [t]) r2 p' H', fun σ' H' ⟨t, r2, p', h1, h2⟩ => ⟨_, by rw [List.length_append, List.length_singleton]; omega, ts ++ [t], r2, p', rfl, h1, h2⟩, ?_⟩
            refine ⟨_, rfl, S, dxY, _, rfl, eY, rfl, S, TT, pY, ", ", rY, rfl, hSY, hlY, fun rZ pZ HZ hZ BZ hSZ hlZ => ?_, fun r' p' d H' h3 b3 hl' hx => qe r' p' d H' (by rw [hpY, hmo, show lit [44, 32] rY = .bad r' from h3]; rfl) ((b1.trans BY).trans b3) hl' hx⟩
            replace hZ : lit [44, 32] rY = .ok () rZ := hZ
            obtain ⟨dxZ, eZ⟩ := hSZ.ex
            have hcZ : cnt rZ < z := by
              have : cnt rZ ≤ cnt rY := cnt_suf ⟨[44, 32], (lit_suf hZ).symm⟩
              omega
            have hDZ := bt_at BZ (ni1 DS) hDY
            refine ⟨_, rfl, .inl ⟨rfl, _, SqL.of hDZ⟩, _, rfl, S, dxZ, _, rfl, eZ, rfl, S, TT, pZ, rZ, rfl, hSZ, hlZ, hcZ, by omega, fun t r2 v p'' H'' ht B'' hS'' hl'' hv => ?_, fun r' p' d H' h3 b3 hl' hx => qe r' p' d H' (by rw [hpY, hmo, hZ, Rs.bind_ok, h3]; rfl) (((b1.trans BY).trans BZ).trans b3) hl' hx⟩
            have bZ : Bt [S, D] HY HZ := bt_weak (by simp) BZ
            obtain ⟨g1', g2', g3'⟩ := more (BY.trans BZ) hDZ hxl hlt (dps_mono bZ hdY) (bt_at BZ (ni1 bS) hbY) v t r2 p'' H'' B'' hS'' hl'' hv (by have := pT_suf z ht; omega) (by rw [hpY, hmo, hZ, Rs.bind_ok, ht, Rs.bind_ok])
            exact ⟨D, _, _, rfl, rfl, g1', g2', t, r2, p'', rfl, g3'⟩
        have hst := stp hgo
        rw [show decide ((xs.length : Int) < (fN : Int)) = false from decide_eq_false (fun h => hgo (.inl (by omega)))]
        refine iteF ?_
        refine ⟨_, rfl, D, xs, rfl, .inl (SqL.of hDY), _, rfl, _, _, rfl, rfl, _, rfl, ?_⟩
        by_cases hl2 : ts.length < mN
        focus
          rw [show decide ((xs.length : Int) < (mN : Int)) = true from decide_eq_true (by omega)]
          refine iteT ?_
          refine ⟨_, rfl, S, dxY, _, rfl, eY, rfl, S, TT, pY, _, rfl, hSY, hlY, rfl, _, rfl, ?_⟩
          rw [show (decide (V.str (sgn rY) = V.str ",")) = false from (sgn_eq rY 44).trans (decide_eq_false (fun h => hgo (.inr ⟨hl2, h⟩)))]
          refine iteF ?_
        rotate_left
        focus
          rw [show decide ((xs.length : Int) < (mN : Int)) = false from decide_eq_false (by omega)]
          refine iteF ?_
          refine iteF ?_
        all_goals
          refine ⟨_, rfl, S, dxY, _, rfl, eY, rfl, S, TT, pY, ")", rY, rfl, hSY, hlY, fun rE pE HE hE BE hSE hlE => ?_, fun r' p' d H' h3 b3 hl' hx => qe r' p' d H' (by rw [hpY, hst, show lit [41] rY = .bad r' from h3]; rfl) ((b1.trans BY).trans b3) hl' hx⟩
          replace hE : lit [41] rY = .ok () rE := hE
          have hres : pT (z + 1) r0 = .ok (.mk wd n ts) rE := by rw [hpY, hst, hE]; rfl
          have hbE := bt_at BE (ni1 bS) hbY
          have hDE := bt_at BE (ni1 DS) hDY
          obtain ⟨dE, eE⟩ := hSE.ex
          have bE : Bt [S, D] HY HE := bt_weak (by simp) BE
          have hdE := dps_mono bE hdY
          have hbt : SqT K HE b (bgV (.opn wd n fN mN)) := SqT.of hbE
          by_cases hwu : wd = "use"
          · subst hwu
            replace hbt : SqT K HE b [.str "use", .str n] := hbt
            refine ⟨_, rfl, ixA (.inr hbt) 0 rfl ⟨rfl, _, rfl, ?_⟩⟩
            refine iteT ?_
            refine ⟨_, rfl, ixA (.inr hbt) 1 rfl ⟨_, rfl, D, xs, rfl, .inl ⟨SqL.of hDE, fun u nu => ?_⟩⟩⟩
            obtain ⟨HF, sF, hu, qF⟩ := lay (o := .tup xs) nu
            rw [qF]
            refine ⟨by show 3 ≤ sizeLine; decide, fun v nv => ?_⟩
            obtain ⟨HG, sG, hv, qG⟩ := lay (o := .tup [.str "use", .str n, .ref u]) nv
            rw [qG]
            have uS : u ≠ S := fun e => by rw [e, eE] at nu; cases nu
            have vS : v ≠ S := fun e => by rw [e, sF _ _ eE] at nv; cases nv
            have BF : Bt [S] H HG := (((b1.trans BY).trans BE)).trans (bt_of (sF.trans sG))
            refine q _ rE _ pE HG hres BF ⟨⟨dE, (sF.trans sG) _ _ eE⟩⟩ hlE ?_
            rw [use_d28]
            have dE2 : DpAll K (hid [S] HG) xs (ts.map GB.Tm.d) := dps_mono (fun c o e => by
              obtain ⟨e1, m⟩ := hid_in e
              exact hid_to (fun z => m (by rw [List.mem_singleton.mp z]; simp)) ((sF.trans sG) _ _ e1)) hdE
            exact .tup (SqT.of (hid_to (ni1 vS) hv)) (.cons (.str _) (.cons (.str _) (.cons (.tup (SqT.of (hid_to (ni1 uS) (sG _ _ hu))) dE2) .nil)))
          · obtain ⟨rr, hbu, hrl, hdt⟩ := opn_d28 hb1 hwu
            rw [hbu] at hbt
            refine ⟨_, rfl, ixA (.inr hbt) 0 rfl ⟨rfl, _, rfl, ?_⟩⟩
            rw [decS, decide_eq_false hwu]
            refine iteF ?_
            refine ⟨_, rfl, b, _, rfl, .inl hbt, _, rfl, D, xs, rfl, .inr (SqL.of hDE), ?_, fun v nv => ?_⟩
            · rw [sizeLine_eq]
              rcases hrl with e | e <;> rw [e] <;> simp <;> omega
            obtain ⟨HG, sG, hv, qG⟩ := lay (o := .tup ((.str wd :: rr) ++ (xs ++ []))) nv
            rw [qG]
            have vS : v ≠ S := fun e => by rw [e, eE] at nv; cases nv
            have BF : Bt [S] H HG := (((b1.trans BY).trans BE)).trans (bt_of sG)
            refine q _ rE _ pE HG hres BF ⟨⟨dE, sG _ _ eE⟩⟩ hlE ?_
            have dE2 : DpAll K (hid [S] HG) xs (ts.map GB.Tm.d) := dps_mono (fun c o e => by
              obtain ⟨e1, m⟩ := hid_in e
              exact hid_to (fun z => m (by rw [List.mem_singleton.mp z]; simp)) (sG _ _ e1)) hdE
            obtain ⟨htd, hrr⟩ := hdt ts
            rw [htd]
            refine .tup (SqT.of (hid_to (ni1 vS) hv)) (dps_app ?_ (by rw [List.append_nil]; exact dE2))
            rw [hrr]
            split
            · exact .cons (.str _) (.cons (.str _) .nil)
            · exact .cons (.str _) .nil
end
end K28
set_option Elab.async false
set_option linter.all false
set_option maxRecDepth 100000
set_option maxHeartbeats 8000000
namespace K28
open PySem PySem.Spec L2 GB
/-- a ground and a term of it, as data -/
structure Tgt (K : PySem.W.Frag) (C : Addr) (H : Hp) (G : Addr) (v : V) (g : GD) (t : GB.Tm) : Prop where
  gr : IsGr C H G g
  nd : (g.letters.map (·.1)).Nodup
  dp : ∃ d, Dp K H v d ∧ IsTm d t
  ok : TmOk g.letters [] t
  sz : t.size ≤ 40
theorem Tgt.mono {K : PySem.W.Frag} {C : Addr} {H H' : Hp} {G : Addr} {v : V} {g : GD} {t : GB.Tm} (s : Same H H') (h : Tgt K C H G v g t) : Tgt K C H' G v g t := ⟨h.gr.mono s, h.nd, let ⟨d, a, b⟩ := h.dp; ⟨d, dp_mono s a, b⟩, h.ok, h.sz⟩
def spChd (K : PySem.W.Frag) (C : Addr) : Sp := fun vs H Q _ => ∃ (G : Addr) (v : V) (g : GD) (t : GB.Tm), vs = [.ref G, v] ∧ Tgt K C H G v g t ∧ ∀ u H', Same H H' → Dp K H' u t.d → Q u H'
def spChdX (K : PySem.W.Frag) (C CB : Addr) : Sp := fun vs H Q E => ∃ (G : Addr) (x : V) (g : GD), vs = [.ref G, x] ∧ IsGr C H G g ∧ (g.letters.map (·.1)).Nodup ∧
  ((∃ t, Tgt K C H G x g t ∧ ∀ u H', Same H H' → Dp K H' u t.d → Q u H') ∨ (∃ r, BadV K H g.letters 40 [] x r ∧ ∀ pb d H', Same H H' → SqT K H' pb (pin r) → H' d = some (.xd [("path", .ref pb)]) → E (.ref CB) (some d) H'))
section
variable {P : Program} {w : World} {K : PySem.W.Frag} {mg : Str → Option Value} {base : Heap} {C CB : Addr}
theorem scChd : FnScope ["ground", "thing"] ["ground", "thing"] (defScope sChecked) := ⟨rfl, rfl, rfl, by decide +kernel, rfl, by decide +kernel, by decide +kernel⟩

theorem ok_chdX {f : Addr} {fd : FuncData} (F : Fun K "checked" "checked" sChecked f fd) (CK : ∃ g gd, FnOk P w K mg base (L2.CX P w) 84 g gd ["ground", "thing", "names", "path"] (spChkX K C CB 40) ∧ mg "checked_within" = some (.ref g) ∧ PySem.W.keepIn K (.ref g) = true ∧ Binds K gd ["ground", "thing", "names", "path"] []) : FnOk P w K mg base (L2.CX P w) 85 f fd ["ground", "thing"] (spChdX K C CB) := by
  obtain ⟨fC, dC, FC, gC, kC, bC⟩ := CK
  refine F.okX scChd (fun vs H Q E h => ?_) (fun cdv A outer s H vs Q E hr h => ?_)
  · obtain ⟨G, x, g, rfl, _⟩ := h
    rfl
  · obtain ⟨G, x, g, rfl, hG, nd, h⟩ := h
    refine ⟨_, pss_one (ps_ret (pe_call FC hr rfl gC kC bC .nil (passes_call (takes_of rfl rfl rfl rfl) (fun _ _ _ _ h => h)) (pa_cons (pv 0) (pa_cons (pv 1) (pa_cons (pe_tup pa_nil) (pa_cons (pe_tup pa_nil) (pa_nil))))))), ?_⟩
    refine ⟨_, rfl, _, rfl, by show 0 ≤ sizeLine; decide, fun a na => ?_⟩
    obtain ⟨H1, s1, h1, e1⟩ := lay (o := .tup []) na
    rw [e1]
    refine ⟨by show 0 ≤ sizeLine; decide, fun b nb => ?_⟩
    obtain ⟨H2, s2, h2, e2⟩ := lay (o := .tup []) nb
    rw [e2]
    have S2 := s1.trans s2
    refine ⟨G, a, b, x, [], g, [], rfl, hG.mono S2, nd, by decide, SqT.of (s2 _ _ h1), by decide, SqT.of h2, by decide, ?_⟩
    rcases h with ⟨t, M, q⟩ | ⟨r, hb, q⟩
    · have M2 := M.mono S2
      obtain ⟨d, hd, hT⟩ := M2.dp
      exact .inl ⟨d, t, hd, hT, M2.ok, M2.sz, fun u H' s' hu => q u H' (S2.trans s') hu⟩
    · exact .inr ⟨r, hb.mono S2, fun pb d H' s' hp hx => q pb d H' (S2.trans s') hp hx⟩
theorem ok_chd {f : Addr} {fd : FuncData} (F : FnOk P w K mg base (L2.CX P w) 85 f fd ["ground", "thing"] (spChdX K C CB)) : FnOk P w K mg base CX0 85 f fd ["ground", "thing"] (spChd K C) :=
  FnOk.quiet F fun vs H Q E h => by
    obtain ⟨G, v, g, t, rfl, M, q⟩ := h
    exact ⟨G, v, g, rfl, M.gr, M.nd, .inl ⟨t, M, q⟩⟩
end
end K28
set_option Elab.async false
set_option linter.all false
set_option autoImplicit false
set_option maxRecDepth 100000
set_option maxHeartbeats 4000000
namespace GB
open PySem PySem.Spec L2
theorem first_bad28 (P : Nat → Prop) : ∀ n : Nat, (∀ i, i < n → P i) ∨ ∃ i, i < n ∧ ¬ P i ∧ ∀ j, j < i → P j
  | 0 => .inl fun i h => absurd h (Nat.not_lt_zero _)
  | n + 1 => by
    rcases first_bad28 P n with h | ⟨i, h1, h2, h3⟩
    · by_cases hn : P n
      · refine .inl fun i hi => ?_
        rcases Nat.lt_or_ge i n with c | c
        · exact h i c
        · rw [show i = n by omega]; exact hn
      · exact .inr ⟨n, by omega, hn, h⟩
    · exact .inr ⟨i, by omega, h2, h3⟩
/-- what a text tells is a term of the ground, or a part of it is none -/
theorem raw_or {K : PySem.W.Frag} {H : Hp} {L : List (Str × Nat)} {t : Tm} (h : Raw t) : ∀ {ns : List Str} {z : Nat} {v : V}, Dp K H v t.d → t.size ≤ z → z ≤ 1000 → TmOk L ns t ∨ ∃ r, BadV K H L z ns v r := by
  induction h with
  | @mk w n ks hh hk ih =>
    intro ns z v hd hz hz2
    obtain ⟨L', ns', _, o⟩ := (Raw.mk hh hk).some
    cases o with
    | mk hH' hK' =>
    obtain ⟨p, vs, rfl, hV, hvd⟩ := nodeV hd (nodeD_own hH')
    have hvl : vs.length = ks.length := (dps_len hvd).trans (List.length_map _)
    rw [Tm.size] at hz
    obtain ⟨z, rfl⟩ : ∃ y, z = y + 1 := ⟨z - 1, by omega⟩
    have sz : ∀ {i : Nat} {k : Tm}, ks[i]? = some k → k.size ≤ z := fun h => by
      have := sizes_mem (List.mem_of_getElem? h)
      omega
    by_cases hH : HeadOk L ns w n ks.length
    · rcases first_bad28 (fun i => ∀ k, ks[i]? = some k → TmOk L (nsAt w n i ns) k) ks.length with all | ⟨i, hi, hb, hg⟩
      · exact .inl (.mk hH fun i k hik => all i (List.getElem?_eq_some_iff.mp hik).1 k hik)
      · have hki : ks[i]? = some ks[i] := List.getElem?_eq_getElem hi
        have nb : ¬ TmOk L (nsAt w n i ns) ks[i] := fun z => hb fun k e => by
          rw [hki] at e
          exact Option.some.inj e ▸ z
        obtain ⟨y, hy⟩ : ∃ y, vs[i]? = some y := ⟨_, List.getElem?_eq_getElem (by rw [hvl]; exact hi)⟩
        obtain ⟨dk, hdk, Dk⟩ := dps_at hvd hy
        rw [List.getElem?_map, hki] at hdk
        obtain rfl := Option.some.inj hdk
        rcases ih ks[i] (List.getElem_mem hi) (ns := nsAt w n i ns) Dk (sz hki) (by omega) with ok | ⟨r, bad⟩
        · exact absurd ok nb
        · have hls := len_sizes ks
          refine .inr ⟨i :: r, .within hV (by rw [hvl]; exact hH) hy (fun j x hj hx => ?_) bad (by omega)⟩
          obtain ⟨dj, hdj, Dj⟩ := dps_at hvd hx
          have hjk : j < ks.length := by omega
          have hkj : ks[j]? = some ks[j] := List.getElem?_eq_getElem hjk
          rw [List.getElem?_map, hkj] at hdj
          obtain rfl := Option.some.inj hdj
          have okj := hg j hj _ hkj
          exact ⟨_, _, Dj, isTm_own okj, okj, sz hkj⟩
    · refine .inr ⟨[], .odd ?_⟩
      have eL : ∃ m, ks.length = m := ⟨_, rfl⟩
      obtain ⟨m, em⟩ := eL
      rw [em] at hh hH
      cases hh with
      | leaf hw nb =>
        have : ∀ x ∈ nmd, x = "value" ∨ x = "name" ∨ x = "fail" := by decide
        rcases this w hw with rfl | rfl | rfl
        · exact absurd (.val nb) hH
        · have hn : n ∉ ns := fun hn => hH (.name nb hn)
          rcases hV.kind with ⟨_, _, hs⟩ | ⟨h, _⟩ | ⟨h, _⟩ | ⟨⟨k, h⟩, _⟩
          · exact .free hs nb hn
          · exact absurd h (by decide)
          · exact absurd h (by decide)
          · exact absurd rfl (opsW_heads _ h).2.1
        · exact absurd (.fail nb) hH
      | use nb hm =>
        have hn : (n, m) ∉ L := fun h => hH (.use h)
        rcases hV.kind with ⟨h, _⟩ | ⟨_, q, hp, hq⟩ | ⟨h, _⟩ | ⟨⟨k, h⟩, _⟩
        · exact absurd h (by decide)
        · refine .use ?_
          by_cases hl : n ∈ L.map (·.1)
          · obtain ⟨⟨n', m'⟩, h1, h2⟩ := List.mem_map.mp hl
            simp only [] at h2
            subst h2
            exact .many hp h1 hq (by rw [hvl, em]; exact fun e => hn (by rw [e]; exact h1))
          · exact .name hp (.str hl) (.seq hq)
        · exact absurd h (by decide)
        · exact absurd rfl (opsW_heads _ h).2.2.2.1
      | bind nb => exact absurd (.bind nb trivial) hH
      | op ho => exact absurd (.op ho) hH
end GB
set_option Elab.async false
set_option linter.all false
set_option autoImplicit false
set_option maxRecDepth 100000
set_option maxHeartbeats 8000000
namespace K28
open PySem PySem.Spec L2 GB
abbrev sWh : Stmt := topS 23
abbrev sRd : Stmt := topS 22
def spWh (K : PySem.W.Frag) (CX' : Addr) : Sp := fun vs H Q E => ∃ (T : Str), vs = [.str T] ∧ cnt (cl T) < 40 ∧ (cl T).length ≤ 100000 ∧ (∀ t v H', pT 40 (cl T) = .ok t [] → Same H H' → Dp K H' v t.d → Q v H') ∧
  (∀ k (d : Addr) H', whoP (pT 40 (cl T)) = some k → Same H H' → H' d = some (.xd [("place", .int (((cl T).length - k : Nat) : Int))]) → E (.ref CX') (some d) H')
def spRd (K : PySem.W.Frag) (C CX' CB : Addr) : Sp := fun vs H Q E => ∃ (G : Addr) (g : GD) (T : Str), vs = [.ref G, .str T] ∧ IsGr C H G g ∧ (g.letters.map (·.1)).Nodup ∧ cnt (cl T) < 40 ∧ (cl T).length ≤ 100000 ∧
  (∀ t v H', pT 40 (cl T) = .ok t [] → TmOk g.letters [] t → Same H H' → Dp K H' v t.d → Q v H') ∧
  (∀ k (d : Addr) H', whoP (pT 40 (cl T)) = some k → Same H H' → H' d = some (.xd [("place", .int (((cl T).length - k : Nat) : Int))]) → E (.ref CX') (some d) H') ∧
  (∀ r pb (d : Addr) H', whoP (pT 40 (cl T)) = none → Same H H' → SqT K H' pb (pin r) → H' d = some (.xd [("path", .ref pb)]) → E (.ref CB) (some d) H')
section
variable {P : Program} {w : World} {K : PySem.W.Frag} {mg : Str → Option Value} {base : Heap} {C CS CT CB : Addr}
theorem scWh : FnScope ["text", "signs", "term"] ["text"] (defScope sWh) := ⟨rfl, rfl, rfl, by decide +kernel, rfl, by decide +kernel, by decide +kernel⟩
theorem scRd : FnScope ["ground", "text"] ["ground", "text"] (defScope sRd) := ⟨rfl, rfl, rfl, by decide +kernel, rfl, by decide +kernel, by decide +kernel⟩
theorem ok_wh {f fI fT : Addr} {fd fdI fdT : FuncData} (F : Fun K "_whole" "_whole" sWh f fd) (T : Bl mg) (SC : SgC K CS) (BT : ErrC P w K mg base "BadText" "place" CT) (MK : Mk K CS fI) (FI : FnOk P w K mg base CX0 1 fI fdI ["self", "text"] (spSIni CS)) (bI : Binds K fdI ["self", "text"] []) (gC : mg "Signs" = some (.ref CS))
    (MT : Meth K CS "take_term" fT) (FT : FnOk P w K mg base (L2.CX P w) 46 fT fdT ["self"] (spTt K CS CT 40)) (bT : Binds K fdT ["self"] []) : FnOk P w K mg base (L2.CX P w) 48 f fd ["text"] (spWh K CT) := by
  obtain ⟨fE, dE, iE, tE, FE, bE⟩ := BT.ini
  refine F.okX scWh (fun vs H Q E h => ?_) (fun cdv A outer s H vs Q E hr h => ?_)
  · obtain ⟨T, rfl, _⟩ := h
    rfl
  · obtain ⟨TT, rfl, hc, hlen, q, qe⟩ := h
    have r2 := hr.mono (show 2 ≤ 47 by decide)
    have r19 := hr.mono (show 46 ≤ 47 by decide)
    refine ⟨_, pss_cons (ps_if (pt_not (pt_val (pe_callB call_isi (by rfl) T.isi (by decide +kernel) (pa_cons (pv 0) (pa_cons (pe_bltn (v := .ty "str") (by rfl) T.str (by decide +kernel) rfl) pa_nil))))) (pss_one ps_never) pss_nil)
      (pss_cons (ps_set (i := 1) scWh.nd rfl (.inl rfl) (pe_make MK FI r2 rfl gC bI .nil pass0 (pa_cons (pv 0) pa_nil)))
      (pss_cons (ps_set (i := 2) scWh.nd rfl (.inl rfl) (pe_meth0 (pv 1) SC.cl MT FT r19 bT .nil (passes_call (takes_of rfl rfl rfl rfl) (fun _ _ _ _ h => h)) rfl))
      (pss_cons (ps_if (pt_cmpR op_lt (pe_fld (pv 1) rfl) (pe_callB call_len_str (by rfl) T.len PySem.boot_len (pa_cons (pv 0) pa_nil)) (nomark _)) (pss_one (ps_raise rfl (takes_of rfl rfl rfl rfl) (pmk_oex BT.T iE tE FE r2 bE .nil pass0 rfl BT.gC (pa_cons (pe_fld (pv 1) rfl) (pa_nil))))) pss_nil)
      (pss_one (ps_ret (pv 2)))))), ?_⟩
    refine ⟨_, rfl, .str TT, .ty "str", .type "str", .type "str", true, rfl, .ty "str", .base (.str _), kit_ty (by decide +kernel), true, rfl, ?_⟩
    refine iteF ?_
    refine ⟨_, rfl, fun S dx nS ndx ne => ?_⟩
    have s0 : Same H (upd (upd H dx (.own S)) S (.ins CS dx [])) := fun b o e => by
      rw [upd_ne (ne_of_none e nS), upd_ne (ne_of_none e ndx)]
      exact e
    have sx : Same H (hid [S] (upd (upd H dx (.own S)) S (.ins CS dx []))) := same_hid_new nS s0
    refine ⟨S, dx, TT, rfl, upd_same, fun H1 b1 hS1 => ⟨rfl, ?_⟩⟩
    obtain ⟨dx1, e1⟩ := hS1.ex
    have hl : Lf TT 0 (cl TT) := ⟨rfl, Nat.zero_le _, hlen⟩
    have plc : ∀ {p' : Nat} {r : List Nat}, Lf TT p' r → p' = (cl TT).length - r.length := fun {p' r} h => by
      have := congrArg List.length h.dr
      rw [List.length_drop] at this
      have := h.le
      omega
    refine ⟨_, rfl, S, dx1, _, rfl, e1, rfl, S, TT, 0, cl TT, rfl, hS1, hl, hc, by decide, fun t r' v p' H2 ht b2 hS2 hl2 hv => ?_, fun r' p' d H' ht b2 hl2 hx => ?_⟩
    · obtain ⟨dx2, e2⟩ := hS2.ex
      have sF : Same H H2 := ((sx.trans b1).trans b2).trans (hid_low _ _)
      refine ⟨_, rfl, S, CS, dx2, _, _, rfl, e2, SC.cl, SC.np, sgF_place _ p', _, rfl, TT, rfl, sS_len hl, _, _, rfl, rfl, _, rfl, ?_⟩
      have ep := plc hl2
      cases r' with
      | nil =>
        rw [show decide ((p' : Int) < (TT.length : Int)) = false from decide_eq_false (by rw [cl_len]; simp at ep; omega)]
        refine iteF ?_
        exact ⟨_, rfl, q t v H2 ht sF (dp_mono (hid_low _ _) hv)⟩
      | cons c r =>
        have hle := hl2.le
        have hd := congrArg List.length hl2.dr
        rw [List.length_drop, List.length_cons] at hd
        rw [show decide ((p' : Int) < (TT.length : Int)) = true from decide_eq_true (by rw [cl_len]; omega)]
        refine iteT ?_
        refine ⟨_, rfl, S, CS, dx2, _, _, rfl, e2, SC.cl, SC.np, sgF_place _ p', by show 1 ≤ 1000; decide, fun a na => mk_err (fun d H' s' h' => qe (r.length + 1) d H' (by rw [ht]; rfl) (sF.trans s') (by rw [h', ep]; rfl)) a na⟩
    · have sF : Same H H' := ((sx.trans b1).trans b2).trans (hid_low _ _)
      exact qe r'.length d H' (by rw [ht]; rfl) sF (by rw [hx, plc hl2])
theorem ok_rd {f : Addr} {fd : FuncData} (F : Fun K "read" "read" sRd f fd) (WH : ∃ g gd, FnOk P w K mg base (L2.CX P w) 48 g gd ["text"] (spWh K CT) ∧ mg "_whole" = some (.ref g) ∧ PySem.W.keepIn K (.ref g) = true ∧ Binds K gd ["text"] [])
    (CH : ∃ g gd, FnOk P w K mg base (L2.CX P w) 85 g gd ["ground", "thing"] (spChdX K C CB) ∧ mg "checked" = some (.ref g) ∧ PySem.W.keepIn K (.ref g) = true ∧ Binds K gd ["ground", "thing"] []) : FnOk P w K mg base (L2.CX P w) 86 f fd ["ground", "text"] (spRd K C CT CB) := by
  obtain ⟨fW, dW, FW, gW, kW, bW⟩ := WH
  obtain ⟨fC, dC, FC, gC, kC, bC⟩ := CH
  refine F.okX scRd (fun vs H Q E h => ?_) (fun cdv A outer s H vs Q E hr h => ?_)
  · obtain ⟨G, g, T, rfl, _⟩ := h
    rfl
  · obtain ⟨G, g, TT, rfl, gr, nd, hc, hlen, q, qt, qb⟩ := h
    refine ⟨_, pss_one (ps_ret (pe_call FC hr rfl gC kC bC .nil (passes_call (takes_of rfl rfl rfl rfl) (fun _ _ _ _ h => h)) (pa_cons (pv 0) (pa_cons (pe_call FW (hr.mono (by decide)) rfl gW kW bW .nil (passes_call (takes_of rfl rfl rfl rfl) (fun _ _ _ _ h => h)) (pa_cons (pv 1) pa_nil)) pa_nil)))), ?_⟩
    refine ⟨_, rfl, _, rfl, TT, rfl, hc, hlen, fun t v H1 ht s1 hv => ?_, qt⟩
    obtain ⟨hR, _, hsz⟩ := pT_ok 40 _ _ _ ht
    have hsz2 : t.size ≤ 40 := by have := Nat.zero_le (cnt []); omega
    have hw : whoP (pT 40 (cl TT)) = none := by rw [ht]; rfl
    refine ⟨G, v, g, rfl, gr.mono s1, nd, ?_⟩
    rcases raw_or (L := g.letters) hR (ns := []) hv hsz2 (by decide) with ok | ⟨r, bad⟩
    · exact .inl ⟨t, ⟨gr.mono s1, nd, ⟨t.d, hv, isTm_own ok⟩, ok, hsz2⟩, fun u H2 s2 hu => q t u H2 ht ok (s1.trans s2) hu⟩
    · exact .inr ⟨r, bad, fun pb d H2 s2 hp hx => qb r pb d H2 hw (s1.trans s2) hp hx⟩
end
end K28
set_option Elab.async false
set_option linter.all false
set_option maxRecDepth 100000
set_option maxHeartbeats 8000000
/-! try with several clauses «except X as n», one name for all. -/
namespace TryAs
open PySem PySem.Spec PyProof.Rows L2
/-- what the clauses wish, one behind the other -/
def wsh (K : PySem.W.Frag) (i : Nat) (Wo : WX) (D : Ends) : List (Value × (Addr → Value → Option Addr → TS)) → WX
  | [] => Wo
  | p :: r => wAs K p.1 i p.2 (wsh K i Wo D r) D
inductive Hds (X : Cx) (n : Str) : List ExceptHandler → List (Value × (Addr → Value → Option Addr → TS)) → Prop
  | nil : Hds X n [] []
  | cons {x : Str} {c : Value} {ts : Addr → Value → Option Addr → TS} {b1 : Stmt} {su : List Stmt} {p1 p2 : Pos} {hs : List ExceptHandler} {l : List (Value × (Addr → Value → Option Addr → TS))} : Names X x c →
      (∀ (a : Addr) (oe : Obj) (cls : Value) (d : Option Addr) (pn : List (Addr × Obj)), Zc cls d oe → (∃ vs, oe.data = .fields vs) → PSs (X.suite a ((a, oe) :: pn)) (b1 :: su) (ts a cls d)) → Hds X n hs l →
      Hds X n (.ExceptHandler (some (.Name x p1)) (some n) (b1 :: su) p2 :: hs) ((c, ts) :: l)
section
variable {X : Cx} {n : Str} {i : Nat} {body : List Stmt} {g1 : ExceptHandler} {gs : List ExceptHandler} {l : List (Value × (Addr → Value → Option Addr → TS))} {pos : Pos} {tb : WX → TS} {Wo : WX}
theorem ps_try_asM (hs : X.stack = X.env :: X.outer) (hf : X.env.frame = some X.env.locals) (hN : X.N.Nodup) (hi : X.N[i]? = some n) (hln : X.env.kindOf n = some .local) (tk : Takes X Wo)
    (hb : ∀ (W : WX) (pn : List (Addr × Obj)) (xe : Value → Shared → Prop), Takes (X.tr pn xe) W → PassesOwn (model X.prog X.w) X.A X.env xe → PSs (X.tr pn xe) body (tb W)) (hh : Hds X n (g1 :: gs) l) :
    PS X (.Try body (g1 :: gs) [] [] pos) (fun D σ H => tb (wsh X.K i Wo D l) D σ H) := by
  refine ⟨fun pins s σ H D I h => ?_⟩
  have ok := I.ok
  have hA : X.A.frames = some (X.env :: X.outer) := by rw [ok.frames, hs]
  have hloc : Loc X.env.scope n := .inl hln
  refine wpAny_Try_except ?_
  refine wpAny_mono ((hb (wsh X.K i Wo D l) (X.pn ++ pins) (fun e t1 => wpAny (model X.prog X.w) X.A (noteFrame e X.env) (fun _ t2 => wpAny (model X.prog X.w) X.A (setFlight e none) (fun _ t3 =>
    wpAny (model X.prog X.w) X.A (handleBy e X.env (g1 :: gs)) (SP X pins D) X.xe t3) X.xe t2) X.xe t1) (fun u t xx => ?_) PassesOwn.looking).run [] s σ H D (I.toTry _) h) (fun f t1 hsp => ?_) (fun e t1 he => he)
  · obtain ⟨a, B, sI, pins2, σ2, H2, cls, d, rfl, J0, nb, up, sky, na, os, ag, wi⟩ := xx
    have J : Inv X pins σ2 H2 sI := J0.ofTry ok
    rw [hs] at sky
    show wpAny (model X.prog X.w) X.A (noteFrame (.ref a) X.env) _ _ _
    refine Sky.land Zc.steady hA hf sky fun h3 fl3 up3 => ?_
    have J3 : Inv X pins σ2 H2 { t with heap := h3 } := J.landed nb fl3.1 (up.trans up3) os ag
    obtain ⟨o3, v3, e3, z3, d3⟩ := fl3.there
    have nst : a ∉ frs (X.env :: X.outer) := fun hm => by
      obtain ⟨_, o', e', hnf⟩ := fl3.2.2.1.mem hm
      rw [e3] at e'
      cases e'
      exact hnf _ d3
    have nL : a ≠ X.env.locals := fun z => nst (List.mem_filterMap.mpr ⟨X.env, List.mem_cons_self, by rw [hf, z]⟩)
    have nF : a ∉ X.fs := fun hm => by
      obtain ⟨e, he, q⟩ := List.mem_filterMap.mp hm
      exact nst (List.mem_filterMap.mpr ⟨e, List.mem_cons_of_mem _ he, q⟩)
    have S3 := J3.suite e3 d3 na nL nF
    have go : ∀ {gs' : List ExceptHandler} {l' : List (Value × (Addr → Value → Option Addr → TS))}, Hds X n gs' l' → wsh X.K i Wo D l' cls d σ2 H2 → wpAny (model X.prog X.w) X.A (handleBy (.ref a) X.env gs') (SP X pins D) X.xe { t with heap := h3 } := by
      intro gs' l' hk
      induction hk with
      | nil =>
        intro w
        refine wpAny_handleBy_nil ?_
        obtain ⟨k1, k2, k3, o5, v5, T, oT, ts', f1, f2, f3, f4, f5⟩ := id fl3
        unfold PySem.passOn
        refine wpAny_bind (wpAny_field f1 f3 f4 ?_)
        rw [if_neg (show ¬ ((Value.ref T == Value.none) = true) from by simp)]
        have fin : wpAny (model X.prog X.w) X.A (setFlight (.ref a) X.env.frame) (fun _ t4 => wpAny (model X.prog X.w) X.A (throw (.ref a) : Sem Flow) (SP X pins D) X.xe t4) X.xe { t with heap := h3 } := by
          rw [hf]
          refine HandSPX.setFlight_upZ fl3 fun h4 hh4 up4 => wpAny_throw (tk _ _ ?_)
          exact ⟨a, B, sI, pins, σ2, H2, cls, d, rfl, J, nb, (up.trans up3).trans up4, .inr (.inr (by rw [hs]; exact hh4)), na, os, ag, w⟩
        first
          | exact wpAny_bind (wpAny_pure (wpAny_bind fin))
          | exact wpAny_bind fin
      | @cons x c ts b1 su p1 p2 gs2 l2 hc hsu r ih =>
        intro w
        obtain ⟨b, hb1, hyes, hno⟩ := w
        refine wpAny_handleBy_cons (codeAny_handlers_test ?_) (by intro q; cases q)
        have LT : PySem.W.Looks (model X.prog X.w) h3 (typeOf (.ref a)) cls := fun A Q E t0 k q => wpAny_typeOf_ref (k _ _ e3) (by rw [z3.1]; exact q)
        have LM := PySem.W.exm_one (M := model X.prog X.w) (J3.kIn) LT hb1
        have test : ∀ {Q : Value → Shared → Prop} {E : Value → Shared → Prop}, Q c { t with heap := h3 } → wpAny (model X.prog X.w) (X.A.mark (some (.ref a))) (eval (.Name x p1) X.env) Q E { t with heap := h3 } := by
          intro Q E q
          obtain ⟨hg, hdbg, hm | ⟨hm, hv, hnn⟩⟩ := hc
          · exact ld_glob (X := X.suite a ((a, o3) :: (X.pn ++ pins))) S3 hg hm q hdbg
          · exact ld_blt (X := X.suite a ((a, o3) :: (X.pn ++ pins))) S3 hg hm hv q hnn hdbg
        refine test (LM.here ?_)
        cases b with
        | true =>
          refine codeAny_handlers_suite_as ?_
          refine HandSPX.lands_againZ fl3 fun h4 fl4 up4 => ?_
          have J4 : Inv X pins σ2 H2 { t with heap := h4 } := J.landed nb fl4.1 ((up.trans up3).trans up4) os ag
          obtain ⟨o4, v4, e4, z4, d4⟩ := fl4.there
          refine store_ok (X := X.suite a ((a, o4) :: (X.pn ++ pins))) (v := .ref a) (J4.suite e4 d4 na nL nF) hN hi hloc rfl (fun t5 S5 => ?_) (.inr hln)
          refine wpAny_mono ((hsu a o4 cls d (X.pn ++ pins) z4 ⟨_, d4⟩).run [] t5 _ H2 _ S5 (hyes rfl a na)) (fun f t6 hsp => ?_) (fun _ _ z => False.elim z)
          have behind : ∀ {τ : L2.St} {H6 : Hp} {Q : Shared → Prop}, Inv (X.suite a ((a, o4) :: (X.pn ++ pins))) [] τ H6 t6 → (∀ t7, Inv X pins (τ.set i none) H6 t7 → Q t7) →
              wpAny (model X.prog X.w) X.A (do bindName X.env n .none; unbindBehindTheSuite X.env n p2) (fun _ t7 => Q t7) X.xe t6 := fun {τ H6 Q} S6 hq => gone_ok (S6.unsuite ok) hN hi hln hq
          cases f with
          | next => obtain ⟨τ, H6, S6, q6⟩ := hsp; exact behind S6 fun t7 J7 => ⟨_, _, J7, q6⟩
          | brk => obtain ⟨τ, H6, S6, q6⟩ := hsp; exact behind S6 fun t7 J7 => ⟨_, _, J7, q6⟩
          | cont => obtain ⟨τ, H6, S6, q6⟩ := hsp; exact behind S6 fun t7 J7 => ⟨_, _, J7, q6⟩
          | ret u => obtain ⟨v6, τ, H6, S6, r6, q6⟩ := hsp; exact behind S6 fun t7 J7 => ⟨_, _, _, J7, r6, q6⟩
        | false => exact ih (hno rfl)
    exact go hh wi
  · cases f with
    | next => obtain ⟨τ, H6, J6, q⟩ := hsp; exact wpAny_execs_nil ⟨τ, H6, J6.ofTry ok, q⟩
    | brk => obtain ⟨τ, H6, J6, q⟩ := hsp; exact ⟨τ, H6, J6.ofTry ok, q⟩
    | cont => obtain ⟨τ, H6, J6, q⟩ := hsp; exact ⟨τ, H6, J6.ofTry ok, q⟩
    | ret u => obtain ⟨v, τ, H6, J6, r, q⟩ := hsp; exact ⟨v, τ, H6, J6.ofTry ok, r, q⟩
end
end TryAs
set_option Elab.async false
set_option linter.all false
set_option autoImplicit false
set_option maxRecDepth 100000
set_option maxHeartbeats 8000000
namespace K28
open PySem PySem.Spec L2 GB
abbrev sMet : Stmt := topS 52
def spMet (K : PySem.W.Frag) (C : Addr) : Sp := fun vs H Q _ => ∃ (G : Addr) (g : GD) (T : Str), vs = [.ref G, .str T] ∧ IsGr C H G g ∧ (g.letters.map (·.1)).Nodup ∧ cnt (cl T) < 40 ∧ (cl T).length ≤ 100000 ∧
  (∀ t p u H', pT 40 (cl T) = .ok t [] → TmOk g.letters [] t → Same H H' → H' p = some (.tup [.str "told", u]) → Dp K H' u t.d → Q (.ref p) H') ∧
  (∀ k p H', whoP (pT 40 (cl T)) = some k → Same H H' → H' p = some (.tup [.str "text", .int (((cl T).length - k : Nat) : Int)]) → Q (.ref p) H') ∧
  (∀ r pb p H', whoP (pT 40 (cl T)) = none → Same H H' → SqT K H' pb (pin r) → H' p = some (.tup [.str "term", .ref pb]) → Q (.ref p) H')
section
variable {P : Program} {w : World} {K : PySem.W.Frag} {mg : Str → Option Value} {base : Heap} {C CT CB : Addr}
theorem scMet : FnScope ["_law_ground_here", "_law_text_here", "e"] ["_law_ground_here", "_law_text_here"] (defScope sMet) := ⟨rfl, rfl, rfl, by decide +kernel, rfl, by decide +kernel, by decide +kernel⟩
theorem ok_met {f : Addr} {fd : FuncData} (F : Fun K "_law_met" "_law_met" sMet f fd) (RD : ∃ g gd, FnOk P w K mg base (L2.CX P w) 86 g gd ["ground", "text"] (spRd K C CT CB) ∧ mg "read" = some (.ref g) ∧ PySem.W.keepIn K (.ref g) = true ∧ Binds K gd ["ground", "text"] [])
    (gT : mg "BadText" = some (.ref CT)) (XT : XfC K CT) (hnt : PySem.W.findIn K (.ref CT) "place" = some none) (tt : PySem.W.exmOne K (.ref CT) (.ref CT) = some true)
    (gB : mg "BadTerm" = some (.ref CB)) (XB : XfC K CB) (hnb : PySem.W.findIn K (.ref CB) "path" = some none) (tb : PySem.W.exmOne K (.ref CB) (.ref CB) = some true) (tn : PySem.W.exmOne K (.ref CB) (.ref CT) = some false) : FnOk P w K mg base CX0 88 f fd ["_law_ground_here", "_law_text_here"] (spMet K C) := by
  obtain ⟨fC, dC, FC, gC, kC, bC⟩ := RD
  refine F.ok scMet (fun vs H Q E h => ?_) (fun cdv A outer s H vs Q E hr h => ?_)
  · obtain ⟨G, g, T, rfl, _⟩ := h
    rfl
  · obtain ⟨G, g, TT, rfl, hG, nd, hc, hl, q1, q2, q3⟩ := h
    refine ⟨_, pss_one (TryAs.ps_try_asM (i := 2) rfl rfl scMet.nd rfl rfl takes0
      (fun W pn xe tk po => pss_one (ps_ret (pe_tup (pa_cons pe_str (pa_cons (pe_call (E := fun cls d H => ∀ σ : L2.St, σ.length = 3 → W cls d σ H) FC (hr.mono (by decide)) rfl gC kC bC .nil
        (passes_call (W := fun cls d σ' H' => σ'.length = 3 → W cls d σ' H') (fun u s' ⟨a, B, sI, pins, σ, H, cls, d, e, I, nb, up, sky, na, os, ag, w⟩ => tk u s' ⟨a, B, sI, pins, σ, H, cls, d, e, I, nb, up, sky, na, os, ag, w I.len⟩) (fun cls d σ H h => h σ)) (pa_cons (pv 0) (pa_cons (pv 1) pa_nil))) pa_nil)))))
      (.cons (c := .ref CT) ⟨rfl, by decide, .inl gT⟩ (fun a oe cls d pn hz hf => pss_one (ps_ret (pe_tup (pa_cons pe_str (pa_cons (pe_xf XT hnt hz hf (pv 2)) pa_nil)))))
        (.cons (c := .ref CB) ⟨rfl, by decide, .inl gB⟩ (fun a oe cls d pn hz hf => pss_one (ps_ret (pe_tup (pa_cons pe_str (pa_cons (pe_xf XB hnb hz hf (pv 2)) pa_nil))))) .nil))), ?_⟩
    refine ⟨_, rfl, _, rfl, G, g, TT, rfl, hG, nd, hc, hl, fun t u H1 ht ok s1 hu => ?_, fun k d H1 hw s1 hx σ hlen => ?_, fun r pb d H1 hw s1 hp hx σ hlen => ?_⟩
    · refine ⟨by show 2 ≤ sizeLine; decide, fun p np => ?_⟩
      obtain ⟨H2, s2, h2, e2⟩ := lay (o := .tup [.str "told", u]) np
      rw [e2]
      exact q1 t p u H2 ht ok (s1.trans s2) h2 (dp_mono s2 hu)
    · refine ⟨true, tt, fun _ a na => ?_, fun z => nomatch z⟩
      refine ⟨_, by rw [List.getElem?_set_self (by omega)], rfl, rfl, d, _, .int (((cl TT).length - k : Nat) : Int), rfl, hx, by simp [List.lookup], by show 2 ≤ sizeLine; decide, fun p np => ?_⟩
      obtain ⟨H2, s2, h2, e2⟩ := lay (o := .tup [.str "text", .int (((cl TT).length - k : Nat) : Int)]) np
      rw [e2]
      exact q2 k p H2 hw (s1.trans s2) h2
    · refine ⟨false, tn, (fun z => nomatch z), fun _ => ⟨true, tb, fun _ a na => ?_, (fun z => nomatch z)⟩⟩
      refine ⟨_, by rw [List.getElem?_set_self (by omega)], rfl, rfl, d, _, .ref pb, rfl, hx, by simp [List.lookup], by show 2 ≤ sizeLine; decide, fun p np => ?_⟩
      obtain ⟨H2, s2, h2, e2⟩ := lay (o := .tup [.str "term", .ref pb]) np
      rw [e2]
      exact q3 r pb p H2 hw (s1.trans s2) (Same.seqT s2 hp) h2
end
end K28
set_option Elab.async false
set_option linter.all false
set_option autoImplicit false
set_option maxRecDepth 100000
set_option maxHeartbeats 4000000
/-! the rows that the law's walk meets -/
namespace GB
open PySem PySem.Spec L2
def TopOk (top : List Nat) (rest : Row) : Prop :=
  (∃ x, top = [x] ∧ Sg x) ∨ ((top = [116] ∨ top = [110]) ∧ Nx rest) ∨ ((top = [97] ∨ top = [109]) ∧ ∃ q, rest = [41] :: q) ∨
  (∃ h w, top = h :: w ∧ w ≠ [] ∧ w.length ≤ 8 ∧ (h = 116 ∨ h = 110) ∧ Nx rest) ∨ (∃ w, top = 46 :: w ∧ w ≠ [] ∧ w.length ≤ 4)
def Wf : Row → Prop
  | [] => True
  | top :: rest => TopOk top rest ∧ Wf rest
/-- how deep the step asks itself -/
def rk : Row → Nat
  | [] => 0
  | top :: _ => if top = [97] ∨ top = [109] then 1 else if 2 ≤ top.length ∧ top.head? ≠ some 46 then 2 else 0
theorem TopOk.ne {top : List Nat} {rest : Row} (h : TopOk top rest) : top ≠ [] := by
  rcases h with ⟨x, rfl, _⟩ | ⟨rfl | rfl, _⟩ | ⟨rfl | rfl, _⟩ | ⟨h, w, rfl, _⟩ | ⟨w, rfl, _⟩ <;> simp
theorem TopOk.len {top : List Nat} {rest : Row} (h : TopOk top rest) : top.length ≤ 9 := by
  rcases h with ⟨x, rfl, _⟩ | ⟨rfl | rfl, _⟩ | ⟨rfl | rfl, _⟩ | ⟨h, w, rfl, _, hw, _⟩ | ⟨w, rfl, _, hw⟩ <;> simp <;> omega
theorem rk_le (s : Row) : rk s ≤ 2 := by
  cases s with
  | nil => exact Nat.zero_le _
  | cons a b =>
    show (if a = [97] ∨ a = [109] then 1 else if 2 ≤ a.length ∧ a.head? ≠ some 46 then 2 else 0) ≤ 2
    split
    · omega
    · split <;> omega
theorem rk_nx {rest : Row} (h : Nx rest) : rk rest ≤ 1 := by
  rcases h with rfl | ⟨x, q, rfl, rfl | rfl | ⟨rfl, q', rfl⟩⟩
  · exact Nat.zero_le _
  · exact (by decide : (0 : Nat) ≤ 1)
  · exact (by decide : (0 : Nat) ≤ 1)
  · exact (by decide : (1 : Nat) ≤ 1)
theorem wf_nx_t {rest : Row} (h : Nx rest) (w : Wf rest) : Wf ([116] :: rest) := ⟨.inr (.inl ⟨.inl rfl, h⟩), w⟩
theorem wf_sg {x : Nat} {rest : Row} (h : Sg x) (w : Wf rest) : Wf ([x] :: rest) := ⟨.inl ⟨x, rfl, h⟩, w⟩
theorem wf_rem : ∀ (k : Nat) {rest : Row}, Wf rest → Wf (remR k ++ rest)
  | 0, rest, w => wf_sg (.inr (.inl rfl)) w
  | k + 1, rest, w => wf_sg (.inr (.inr (.inl rfl))) (wf_sg (.inr (.inr (.inr rfl))) (wf_nx_t (nx_rem k rest) (wf_rem k w)))
theorem wf_row : ∀ x ∈ wdL, ∀ {rest : Row}, Wf rest → Wf (x.2 ++ rest) := by
  have : ∀ x ∈ wdL, (∃ k, k ≤ 2 ∧ x.2 = argR (k + 1)) ∨ x.2 = [110] :: remR 2 ∨ x.2 = [110] :: remR 0 := by
    intro x hx
    simp only [wdL, List.mem_cons, List.not_mem_nil, or_false] at hx
    rcases hx with rfl | rfl | rfl | rfl | rfl | rfl | rfl | rfl | rfl
    · exact .inl ⟨2, by decide, rfl⟩
    · exact .inl ⟨1, by decide, rfl⟩
    · exact .inl ⟨1, by decide, rfl⟩
    · exact .inl ⟨0, by decide, rfl⟩
    · exact .inl ⟨1, by decide, rfl⟩
    · exact .inl ⟨1, by decide, rfl⟩
    · exact .inl ⟨1, by decide, rfl⟩
    · exact .inr (.inl rfl)
    · exact .inr (.inr rfl)
  intro x hx rest w
  rcases this x hx with ⟨k, _, e⟩ | e | e <;> rw [e]
  · exact wf_nx_t (nx_rem k rest) (wf_rem k w)
  · exact ⟨.inr (.inl ⟨.inr rfl, nx_rem 2 rest⟩), wf_rem 2 w⟩
  · exact ⟨.inr (.inl ⟨.inr rfl, nx_rem 0 rest⟩), wf_rem 0 w⟩
theorem lookup_mem {w : List Nat} {row : Row} : ∀ {l : List (List Nat × Row)}, l.lookup w = some row → (w, row) ∈ l := by
  intro l
  induction l with
  | nil => intro h; cases h
  | cons q l ih =>
    intro h
    rw [List.lookup_cons] at h
    by_cases e : (w == q.1) = true
    · rw [e] at h
      obtain rfl := Option.some.inj h
      rw [beq_iff_eq.mp e]
      exact List.mem_cons_self
    · rw [Bool.eq_false_iff.mpr e] at h
      exact List.mem_cons_of_mem _ (ih h)
/-- the rows that one step leads to -/
inductive Nxt (s : Row) : List Row → Prop
  | no : Nxt s []
  | one {s'} : Wf s' → s'.length ≤ s.length + 8 → Nxt s [s']
  | dot {rest} : Wf rest → Nx rest → rest.length ≤ s.length + 2 → Nxt s ((sfx []).map (dotR rest))
theorem Nxt.up {s s' : Row} {l : List Row} (h : Nxt s l) (e : s.length ≤ s'.length) : Nxt s' l := by
  cases h with
  | no => exact .no
  | one a b => exact .one a (by omega)
  | dot a b c => exact .dot a b (by omega)
theorem sfx0 : (wdL.map (·.1)) = sfx [] := by decide +kernel
theorem stT_dot (rest : Row) : stT rest 46 = (sfx []).map (dotR rest) := by
  unfold stT
  rw [if_neg (by decide), if_pos rfl, ← sfx0, List.map_map]
  rfl
theorem stT_nxt {rest : Row} {c : Nat} (w : Wf rest) (h : Nx rest) (s : Row) (hs : rest.length ≤ s.length + 1) : Nxt s (stT rest c) := by
  by_cases c1 : c = 39
  · subst c1
    exact .one (s' := [110] :: rest) ⟨.inr (.inl ⟨.inr rfl, h⟩), w⟩ (by rw [List.length_cons]; omega)
  · by_cases c2 : c = 46
    · subst c2
      rw [stT_dot]
      exact .dot w h (by omega)
    · unfold stT
      rw [if_neg c1, if_neg c2]
      split
      · exact .one ⟨.inr (.inr (.inr (.inl ⟨116, [c], rfl, by simp, by simp, .inl rfl, h⟩))), w⟩ (by rw [List.length_cons]; omega)
      · exact .no
theorem wf_nx41 {q : Row} : Nx ([41] :: q) := .inr ⟨[41], q, rfl, .inl rfl⟩
theorem row_len : ∀ x ∈ wdL, x.2.length ≤ 8 := by decide +kernel
theorem stp_nxt : ∀ {s : Row} {c : Nat}, Wf s → Nxt s (stp s c)
  | [], c, _ => .no
  | top :: rest, c, ⟨h, w⟩ => by
    have lc : (top :: rest).length = rest.length + 1 := rfl
    rcases h with ⟨x, rfl, hx⟩ | ⟨rfl | rfl, hN⟩ | ⟨rfl | rfl, q, rfl⟩ | ⟨h0, w0, rfl, hw0, hl, h01, hN⟩ | ⟨w0, rfl, hw0, hl⟩
    · have := hx.ne
      rw [stp_sign this.1 this.2.1 this.2.2.1 this.2.2.2]
      split
      · exact .one w (by omega)
      · exact .no
    · rw [stp_t]
      exact stT_nxt w hN _ (by omega)
    · rw [stp_n]
      split
      · exact .one ⟨.inr (.inr (.inr (.inl ⟨110, [c], rfl, by simp, by simp, .inr rfl, hN⟩))), w⟩ (by rw [List.length_cons]; omega)
      · exact .no
    · rw [stp_a, stp_sign (by decide) (by decide) (by decide) (by decide)]
      by_cases c1 : 41 = c
      · rw [if_pos c1, ← c1]
        exact .one (s' := q) w.2 (by simp; omega)
      · rw [if_neg c1, List.nil_append]
        exact stT_nxt (rest := [109] :: [41] :: q) ⟨.inr (.inr (.inl ⟨.inr rfl, q, rfl⟩)), w⟩ (.inr ⟨[109], _, rfl, .inr (.inr ⟨rfl, q, rfl⟩)⟩) _ (by simp)
    · rw [stp_m, stp_sign (by decide) (by decide) (by decide) (by decide)]
      by_cases c1 : 41 = c
      · rw [if_pos c1, ← c1, if_neg (by decide), List.append_nil]
        exact .one w.2 (by simp; omega)
      · rw [if_neg c1, List.nil_append]
        split
        · exact .one (wf_sg (.inr (.inr (.inr rfl))) (wf_nx_t wf_nx41 w)) (by simp)
        · exact .no
    · rw [stp_nm h01 hw0]
      split
      · split
        · exact .one ⟨.inr (.inr (.inr (.inl ⟨h0, w0 ++ [c], by rw [List.cons_append], by simp, by rename_i h9; rw [List.length_cons] at h9; simp; omega, h01, hN⟩))), w⟩ (by simp)
        · exact .no
      · have ih : Nxt ((h0 :: w0) :: rest) (stp rest c) := (stp_nxt w).up (by simp)
        split
        · exact ih
        · split
          · exact ih
          · cases hlk : wdL.lookup w0 with
            | some row =>
              have hm := lookup_mem hlk
              have := row_len _ hm
              exact .one (wf_row _ hm w) (by rw [List.length_append, List.length_cons]; simp only [] at this; omega)
            | none => exact .one (s' := [97] :: [41] :: rest) ⟨.inr (.inr (.inl ⟨.inl rfl, rest, rfl⟩)), wf_sg (.inr (.inl rfl)) w⟩ (by simp)
    · obtain ⟨x, s0, e⟩ : ∃ x s0, w0 = (x :: s0).reverse := by
        cases hr : w0.reverse with
        | nil => exact absurd (by rw [← List.reverse_reverse w0, hr]; rfl) hw0
        | cons a b => exact ⟨a, b, by rw [← hr, List.reverse_reverse]⟩
      have key : ∀ (rest : Row), Wf rest → Nxt ((46 :: (x :: s0).reverse) :: rest) (if x = c then (if s0 = [] then [rest] else [(46 :: s0.reverse) :: rest]) else []) := fun rest w => by
        have hl2 : s0.length ≤ 3 := by rw [e] at hl; simp at hl; omega
        split
        · split
          · exact .one w (by simp; omega)
          · exact .one ⟨.inr (.inr (.inr (.inr ⟨s0.reverse, rfl, by simpa using ‹¬ s0 = []›, by simp; omega⟩))), w⟩ (by simp)
        · exact .no
      subst e
      have e2 : stp ((46 :: (x :: s0).reverse) :: rest) c = (if x = c then (if s0 = [] then [rest] else [(46 :: s0.reverse) :: rest]) else []) := by
        rw [stp, if_neg (by simp), if_neg (by simp), if_neg (by simp), if_pos (show (46 :: (x :: s0).reverse).head? = some 46 from rfl)]
        have e0 : (46 :: (x :: s0).reverse) = (46 :: s0.reverse) ++ [x] := by rw [List.reverse_cons]; rfl
        have e : (46 :: (x :: s0).reverse).getLast? = some x := by rw [e0, List.getLast?_append]; rfl
        rw [e]
        by_cases h : x = c
        · rw [if_pos (by rw [h]), if_pos h]
          by_cases hs : s0 = []
          · rw [if_pos hs, if_neg (by rw [hs]; simp)]
          · rw [if_neg hs, if_pos (by
              have : 1 ≤ s0.length := by cases s0 with | nil => exact absurd rfl hs | cons a b => simp
              simp; omega)]
            rw [e0, List.dropLast_concat]
        · rw [if_neg (by simpa using h), if_neg h]
      rw [e2]
      exact key rest w
/-- the lists of rows that the law's walk holds -/
inductive Rws (N : Nat) : List Row → Prop
  | one {s} : Wf s → s.length ≤ N → Rws N [s]
  | dot {a rest} : a ∈ prfs → Wf rest → Nx rest → rest.length ≤ N → Rws N ((sfx a).map (dotR rest))
theorem dot_wf {rest : Row} (w : Wf rest) {s : List Nat} (h1 : s ≠ []) (h2 : s.length ≤ 4) : Wf (dotR rest s) :=
  ⟨.inr (.inr (.inr (.inr ⟨s.reverse, rfl, by simpa using h1, by simpa using h2⟩))), wf_sg (.inl rfl) ⟨.inr (.inr (.inl ⟨.inl rfl, rest, rfl⟩)), wf_sg (.inr (.inl rfl)) w⟩⟩
theorem sfx_len : ∀ a ∈ prfs, (∀ s ∈ sfx a, s.length ≤ 4) ∧ (sfx a).length ≤ 9 := by decide +kernel
theorem Rws.all {N : Nat} {S : List Row} (h : Rws N S) : (∀ s ∈ S, Wf s ∧ s.length ≤ N + 4) ∧ S.length ≤ 9 := by
  cases h with
  | one w l => exact ⟨fun s hs => by rw [List.mem_singleton.mp hs]; exact ⟨w, by omega⟩, by simp⟩
  | @dot a rest ha w hN l =>
    obtain ⟨h1, h2⟩ := sfx_len a ha
    refine ⟨fun s hs => ?_, by rw [List.length_map]; exact h2⟩
    obtain ⟨x, hx, rfl⟩ := List.mem_map.mp hs
    refine ⟨dot_wf w ((sfx_ok a ha).2.1 x hx) (h1 x hx), ?_⟩
    unfold dotR
    simp
    omega
theorem Rws.step {N : Nat} {S : List Row} (h : Rws N S) (c : Nat) : stps S c = [] ∨ Rws (N + 10) (stps S c) := by
  cases h with
  | @one s w l =>
    rw [stps1]
    have := stp_nxt (c := c) w
    generalize stp s c = L at this
    cases this with
    | no => exact .inl rfl
    | one w' l' => exact .inr (.one w' (by omega))
    | dot w' n' l' => exact .inr (.dot (by decide +kernel) w' n' (by omega))
  | @dot a rest ha w hN l =>
    obtain ⟨h1, h2, h3, h4⟩ := sfx_ok a ha
    by_cases hb : begB (a ++ [c]) = true
    · obtain ⟨s, hs, hc⟩ := begB_sfx hb
      obtain ⟨n1, n2⟩ := sfx_nx a ha s hs c hc
      rcases (h4 s hs c hc).2 with hw | hp
      · have e1 := n2 hw
        have fl := flat_one rest c (sfx a) h2 (n1.trans e1)
        have st := stps_app (S := (sfx a).map (dotR rest)) (c := c) (by rw [fl]; simp)
        rw [st, fl]
        exact .inr (.one (wf_sg (.inl rfl) ⟨.inr (.inr (.inl ⟨.inl rfl, rest, rfl⟩)), wf_sg (.inr (.inl rfl)) w⟩) (by simp; omega))
      · obtain ⟨k1, k2, k3, k4⟩ := sfx_ok _ hp
        have fl := flat_dot rest c (sfx a) h2 (by rw [n1]; exact k2)
        rw [n1] at fl
        have st := stps_app (S := (sfx a).map (dotR rest)) (c := c) (by rw [fl]; exact nodup_dot rest k3)
        rw [st, fl]
        exact .inr (.dot hp w hN (by omega))
    · have nn : nxt c (sfx a) = [] := by
        unfold nxt
        rw [List.filterMap_eq_nil_iff]
        intro s hs
        by_cases hc : s.head? = some c
        · exact absurd (h4 s hs c hc).1 hb
        · rw [if_neg hc]
      have fl := flat_dot rest c (sfx a) h2 (by rw [nn]; intro s hs; cases hs)
      rw [nn] at fl
      have st := stps_app (S := (sfx a).map (dotR rest)) (c := c) (by rw [fl]; exact List.nodup_nil)
      rw [st, fl]
      exact .inl rfl
/-- how many rows one row leads to -/
theorem Nxt.len {s : Row} {l : List Row} (h : Nxt s l) : l.length ≤ 9 := by
  cases h with
  | no => exact Nat.zero_le _
  | one _ _ => simp
  | dot _ _ _ => rw [List.length_map]; exact (sfx_len [] (by decide +kernel)).2
end GB
set_option Elab.async false
set_option linter.all false
set_option autoImplicit false
set_option maxRecDepth 100000
set_option maxHeartbeats 4000000
/-! word[::-1] of a known word, list(text), a tuple times 0 or 1 -/
namespace GB
open PySem PySem.Spec L2 PyProof.Rows
def tRevS (te : TE) : TE := fun σ H Q => te σ H fun x H1 => ∃ z, x = .str z ∧ z ∈ wdO ∧ Q (.str (mkS (cl z).reverse)) H1
theorem rev_words : ∀ z ∈ wdO, (⟨((Builtin.Str.strSliceIndices none none (-1) z.length).filterMap (z.cps[·]?)).toArray⟩ : Str) = mkS (cl z).reverse ∧ z.length ≤ 4 ∧ (cl z).length ≤ 4 := by decide +kernel
section
variable {X : Cx}
theorem pe_revS {e : Expr} {te : TE} {k : Nat} {p1 p2 p3 pos : PySem.Pos} (he : PE X e te) : PE X (.Subscript e (.Slice none none (some (.UnaryOp .USub (.Constant (.int 1) k p1) p2)) p3) pos) (tRevS te) := by
  refine ⟨fun pins s σ H Q I h => ?_⟩
  refine Subscript_ (thn (he.run pins s σ H _ I h) fun v s1 ⟨x, H1, I1, r1, q1⟩ => ?_)
  obtain ⟨z, ex, hz, q⟩ := q1
  subst ex
  obtain ⟨t, rfl⟩ := r1
  have hst : PO X (some (.UnaryOp .USub (.Constant (.int 1) k p1) p2)) (tPart (tUn (rU fun i => .int (-i)) (tC (.int 1)))) := po_some (pe_un un_neg pe_int)
  refine wpAny_Slice (thn (po_none.run pins s1 σ H1 (fun o H2 => o = none ∧ H2 = H1) I1 ⟨rfl, rfl⟩) fun vl s2 ⟨l, H2, I2, pl, el, e2⟩ => ?_)
  subst el e2
  refine thn (po_none.run pins s2 σ H2 (fun o H3 => o = none ∧ H3 = H2) I2 ⟨rfl, rfl⟩) fun vu s3 ⟨u, H3, I3, pu, eu, e3⟩ => ?_
  subst eu e3
  refine thn (hst.run pins s3 σ H3 (fun o H4 => o = some (-1) ∧ H4 = H3) I3 ⟨1, rfl, -1, rfl, rfl, rfl⟩) fun vs s4 ⟨o, H4, I4, ps, eo, e4⟩ => ?_
  subst eo e4
  have I5 : Inv X pins σ H4 { s4 with heap := s4.heap.push { cls := .type "slice", data := .fields #[vl, vu, vs] } } := I4.kept (t' := s4.toks) fun b ob q => Heap.get?_push_of_some _ q
  obtain ⟨l, rfl, hl⟩ := IsPart.raw pl
  obtain ⟨u, rfl, hu⟩ := IsPart.raw pu
  obtain ⟨st, rfl, hs⟩ := IsPart.raw ps
  show wpAny (model X.prog X.w) X.A (subscriptTail e (.Slice none none (some (.UnaryOp .USub (.Constant (.int 1) k p1) p2)) p3) (.str z t) (.ref s4.heap.objs.size)) (EP X pins σ Q) X.xe { s4 with heap := s4.heap.push { cls := .type "slice", data := .fields #[partValue l, partValue u, partValue st] } }
  refine tail_any (ops := [.str z t, .ref s4.heap.objs.size]) (typeIs_str _ _ _) (F.slot_str_getitem.lookup) ?_ (by with_unfolding_all rfl)
  refine wpAny_getItem_str_slice (l := l) (u := u) (st := st) ⟨_, Heap.get?_push_size _ rfl, rfl, rfl⟩ (by rw [hs]; rfl) ?_
  obtain ⟨e1, e2, e3⟩ := rev_words z hz
  show Made.post (sliceMade z t l u st) (EP X pins σ Q) _
  unfold sliceMade slicePicked
  rw [hl, hu, hs]
  show Made.post (if (((-1 : Int) == 1) && _) = true then _ else Made.str ⟨((Builtin.Str.strSliceIndices none none (-1) z.length).filterMap (z.cps[·]?)).toArray⟩) _ _
  rw [if_neg (by simp), e1]
  refine ⟨?_, .str _, H4, I5.tok _, ⟨_, rfl⟩, q⟩
  rw [cl_len, cl_mkS, List.length_reverse, sizeLine_eq]
  omega
/-- list(text) -/
def kLstS (x : V) (H : Hp) (Q : VK) : Prop := ∃ z : Str, x = .str z ∧ (cl z).length ≤ sizeLine ∧ ∀ q, H q = none → Q (.ref q) (upd H q (.lst ((cl z).map fun c => V.str ⟨#[c]⟩)))
theorem rl_listS (hc : X.calm = true) (pins : List (Addr × Obj)) (s : Shared) (σ : L2.St) (H : Hp) (x : V) (v : Value) (Q : VK) (I : Inv X pins σ H s) (r : RelV x v) (h : kLstS x H Q) :
    wpAny (model X.prog X.w) X.A (call (.type "list") [v]) (EP X pins σ Q) X.xe s := by
  obtain ⟨z, rfl, hz, q⟩ := h
  obtain ⟨t, rfl⟩ := r
  have hsz : z.cps.size = (cl z).length := by unfold cl; rw [Array.length_toList]
  refine call_list_str (I.ok.hd hc) z t (fun h' tk acc c' hk e hi => ?_) (by omega)
  refine ⟨.ref s.heap.objs.size, upd H s.heap.objs.size (.lst ((cl z).map fun c => V.str ⟨#[c]⟩)), I.laid hk (Nat.le_refl _) ⟨by rw [List.length_map]; exact hz, acc.toList, c', ?_, by rw [Array.toArray_toList]; exact e⟩, rfl, q _ (I.hok.fresh (Nat.le_refl _))⟩
  refine vals_of_idx _ _ (by rw [List.length_map, ← hsz, Array.length_toList]; exact hi.1) fun j u hj => ?_
  have := hi.2 j u (by rw [← Array.getElem?_toList]; exact hj)
  obtain ⟨c, t', hc, rfl⟩ := this
  refine ⟨.str ⟨#[c]⟩, ?_, ⟨_, rfl⟩⟩
  rw [List.getElem?_map]
  show Option.map _ (z.cps.toList[j]?) = _
  rw [Array.getElem?_toList, hc]
  rfl
theorem pe_listOfS {p pos : PySem.Pos} {a : Expr} {ta : TE} (hc : X.calm = true) (hg : Gl X "list") (hm : X.mg "list" = none) (ha : PE X a ta) (na : starEach [a] X.env = (false, eval a X.env) :: starEach [] X.env := by rfl) :
    PE X (.Call (.Name "list" p) [a] [] pos) (tThenZ ta kLstS) := pe_callTy (call_r1 (rl_listS hc)) hg hm (by decide +kernel) (pa_cons ha pa_nil na) (he := na)
/-- a tuple times 0 or 1 -/
theorem tuple_mul0 (l : Addr) (items : Array Value) (n : Nat) (dd : Option Addr) (sl : Array (Option Value)) (u : Tok) (c1 : items.isEmpty = false) :
    Meets (Builtin.«tuple.__mul__» ⟨[.ref l, .int 0 u], []⟩) (fun _ R s => s.heap.get? l = some { cls := .type "tuple", dict := dd, data := .seq items n, slots := sl } ∧
      R (.ok (.ret (Value.ref s.heap.objs.size))) { s with heap := s.heap.push { cls := Value.type "tuple", data := Data.seq #[] }, toks := s.toks }) :=
  .of_wp fun prog w A R s h => by
    obtain ⟨hp, g, d, tk, os⟩ := s
    obtain ⟨hl, h⟩ := h
    have f1 := AutoSeq1.idx_int
    wp_walk using wpAny_loadPart' hl
    repeat (first
      | (refine wpAny_ite_false (decide_eq_false (by rw [c1]; simp)) ?_; wp_walk using wpAny_loadPart' hl)
      | (refine wpAny_ite_true (decide_eq_true (by rw [c1]; simp)) ?_; wp_walk using wpAny_loadPart' hl))
    exact ⟨_, rfl, h⟩
theorem tuple_mul1 (l : Addr) (items : Array Value) (n : Nat) (dd : Option Addr) (sl : Array (Option Value)) (u : Tok) (c1 : items.isEmpty = false) :
    Meets (Builtin.«tuple.__mul__» ⟨[.ref l, .int 1 u], []⟩) (fun _ R s => s.heap.get? l = some { cls := .type "tuple", dict := dd, data := .seq items n, slots := sl } ∧
      R (.ok (.ret (Value.ref l))) s) :=
  .of_wp fun prog w A R s h => by
    obtain ⟨hp, g, d, tk, os⟩ := s
    obtain ⟨hl, h⟩ := h
    have f1 := AutoSeq1.idx_int
    wp_walk using wpAny_loadPart' hl
    repeat (first
      | (refine wpAny_ite_false (decide_eq_false (by rw [c1]; simp)) ?_; wp_walk using wpAny_loadPart' hl)
      | (refine wpAny_ite_true (decide_eq_true (by rw [c1]; simp)) ?_; wp_walk using wpAny_loadPart' hl))
    exact ⟨_, rfl, h⟩
def rRepT01 (K : PySem.W.Frag) : R2 := fun x y H Q => ∃ l k xs, x = .ref l ∧ y = .int k ∧ SqT K H l xs ∧ xs ≠ [] ∧ (k = 0 ∨ k = 1) ∧ (k = 1 → Q (.ref l) H) ∧ (k = 0 → ∀ p, H p = none → Q (.ref p) (upd H p (.tup [])))
theorem op_repT01 : OpR X (binaryOp .Mult) (rRepT01 X.K) := by
  intro pins s σ H x y v u Q I rx ry h
  obtain ⟨l, k, xs, rfl, rfl, hT, hne, hk, q1, q0⟩ := h
  cases rx
  obtain ⟨t, rfl⟩ := ry
  obtain ⟨its, r, ⟨⟨cls, dd, data, sl⟩, ho, hc, n, hd⟩, hs⟩ := I.tuple hT
  simp only at hc hd
  subst hc hd
  have hle : its.length = xs.length := r.length.symm
  have hn : its ≠ [] := fun e => hne (by
    rw [e] at hle
    exact List.eq_nil_of_length_eq_zero hle.symm)
  have hi : its.toArray.isEmpty = false := by
    cases its with
    | nil => exact absurd rfl hn
    | cons a b => rfl
  rcases hk with rfl | rfl
  · refine wpAny_binaryOp_repeat_ref (T := "tuple") (U := "int") (by decide) ⟨_, ho, rfl⟩ (fun s' => typeIs_int s' 0 t) noFill_tuple_mul F.fills_int_mul F.slot_int_rmul repeat_tuple F.slot_int_index.lookup
      (call_meets F.slot_int_rmul (typeIs_int s 0 t) F.entry_int_rmul (F.args_int_rmul_2 _ _) (int_rmul_tuple 0 t l its.toArray n dd sl)
        ⟨ho, rfl, ⟨_, ho, rfl⟩, call_meets F.slot_tuple_mul ⟨_, ho, rfl⟩ F.entry_tuple_mul (F.args_tuple_mul_2 _ _) (tuple_mul0 l its.toArray n dd sl t hi) ⟨ho, ?_⟩⟩)
    refine ⟨.ref s.heap.objs.size, _, I.laid (t' := s.toks) (o := .tup []) (fun b ob q => Heap.get?_push_of_some _ q) (Nat.le_refl _) ?_, rfl, q0 rfl _ (I.hok.fresh (Nat.le_refl _))⟩
    exact ⟨Nat.zero_le _, [], .nil, IsTup.new _ _⟩
  · exact wpAny_binaryOp_repeat_ref (T := "tuple") (U := "int") (by decide) ⟨_, ho, rfl⟩ (fun s' => typeIs_int s' 1 t) noFill_tuple_mul F.fills_int_mul F.slot_int_rmul repeat_tuple F.slot_int_index.lookup
      (call_meets F.slot_int_rmul (typeIs_int s 1 t) F.entry_int_rmul (F.args_int_rmul_2 _ _) (int_rmul_tuple 1 t l its.toArray n dd sl)
        ⟨ho, rfl, ⟨_, ho, rfl⟩, call_meets F.slot_tuple_mul ⟨_, ho, rfl⟩ F.entry_tuple_mul (F.args_tuple_mul_2 _ _) (tuple_mul1 l its.toArray n dd sl t hi) ⟨ho, ⟨.ref l, H, I, rfl, q1 rfl⟩⟩⟩)
end
end GB
set_option Elab.async false
set_option linter.all false
set_option maxRecDepth 100000
set_option maxHeartbeats 4000000
namespace GB
open PySem PySem.Spec L2
def ks3 : List Str := ["value", "value", "fail"]
def en2 : List Str := ["one", "false"]
/-- a new thing behind a list's end -/
theorem ni3 {a p t e : Addr} (h1 : a ≠ p) (h2 : a ≠ t) (h3 : a ≠ e) : a ∉ [p, t, e] := by
  intro m
  simp only [List.mem_cons, List.not_mem_nil, or_false] at m
  rcases m with rfl | rfl | rfl
  · exact h1 rfl
  · exact h2 rfl
  · exact h3 rfl
theorem bt3 {p t e : Addr} {H H' : Hp} (s : Bt [p] H H') : Bt [p, t, e] H H' := bt_weak (fun q hq => by
  rw [List.mem_singleton.mp hq]; exact List.mem_cons_self) s
/-- if key not in seen: seen.append(key); end = (..); facts.append(..) -/
theorem fact_tail {K : PySem.W.Frag} {p tA eA kT L Dv : Addr} {x : Str} {l vs : List Str} {ts ks : List Addr} {as : List (Str × List Str)} {N : Nat} {s1 s2 s3 s4 s5 s7 s10 s13 s14 : Option V} {H : Hp} {D : Ends}
    (P : PoolIs H p N) (hN : N + 2 ≤ 1000000) (hT : H tA = some (.lst (ts.map V.ref))) (hE : H eA = some (.lst (ks.map V.ref))) (tp : tA ≠ p) (ep : eA ≠ p) (te : tA ≠ eA) (lt : ts.length ≤ 100) (lk : ks.length ≤ 100)
    (hk : H kT = some (.tup [.str x, .ref L])) (hL : H L = some (.lst (sts l))) (Lp : L ∉ [p, tA, eA]) (hD : H Dv = some (.lst (sts vs))) (Dp_ : Dv ∉ [p, tA, eA])
    (hs : DpAll K (hid [p, tA, eA] H) (ks.map V.ref) (as.map kd)) (oks : ∀ a ∈ as, OkS a) (okx : OkS (x, l))
    (same : (x, l) ∈ as → D.nx [some (.ref p), s1, s2, s3, s4, s5, some (.str x), s7, some (.ref tA), some (.ref eA), s10, some (.ref Dv), some (.ref kT), s13, s14] H)
    (more : (x, l) ∉ as → ∀ (H' : Hp) (t : Addr) (kk en : Str) (s13' : Option V), Bt [p, tA, eA] H H' → H' tA = some (.lst ((ts ++ [t]).map V.ref)) → H' eA = some (.lst ((ks ++ [kT]).map V.ref)) → FactAt (hid [p, tA, eA] H') ⟨x, vs, kk, en⟩ t → DpAll K (hid [p, tA, eA] H') ((ks ++ [kT]).map V.ref) ((as ++ [(x, l)]).map kd) →
      (kk = "value" ∨ kk = "fail") → (en = "one" ∨ en = "false") → PoolIs H' p (N + 2) → D.nx [some (.ref p), s1, s2, s3, s4, s5, some (.str x), s7, some (.ref tA), some (.ref eA), s10, some (.ref Dv), some (.ref kT), s13', s14] H') :
    tIfS (tTest (tOp (rNotInD K) (tVar 12) (tVar 9)))
      (tSeq (tDrop (tBM K "list" rAppend (tVar 9) (tCons (tVar 12) tNil)))
        (tSeq (tAsg (tTup (tCons (tCall (spOne K) [] E0 (tCons (tVar 0) (tCons (tLst (tCons (tC (.str "value")) (tCons (tC (.str "value")) (tCons (tC (.str "fail")) tNil)))) tNil)))
            (tCons (tCall (spOne K) [] E0 (tCons (tVar 0) (tCons (tLst (tCons (tC (.str "one")) (tCons (tC (.str "false")) tNil))) tNil))) tNil))) (gName 13))
          (tDrop (tBM K "list" rAppend (tVar 8) (tCons (tTup (tCons (tVar 6) (tCons (tCB (fun xs H Q => ∃ p ys, xs = [.ref p] ∧ ((SqL K H p ys ∧ ∀ l, H l = none → Q (.ref l) (upd H l (.tup ys))) ∨ (SqT K H p ys ∧ Q (.ref p) H))) (tCons (tVar 11) tNil)) (tCons (tVar 13) tNil)))) tNil)))))
      tNext D [some (.ref p), s1, s2, s3, s4, s5, some (.str x), s7, some (.ref tA), some (.ref eA), s10, some (.ref Dv), some (.ref kT), s13, s14] H := by
  have hk' : kT ∉ [p, tA, eA] := by
    obtain ⟨a, b, c, hp, _⟩ := P
    exact ni3 (ne_of hk hp (by intro z; cases z)) (ne_of hk hT (by intro z; cases z)) (ne_of hk hE (by intro z; cases z))
  have dk : Dp K (hid [p, tA, eA] H) (.ref kT) (kd (x, l)) := .tup (SqT.of (hid_to hk' hk)) (.cons (.str x) (.cons (.lst (SqL.of (hid_to Lp hL)) (dp_sts l)) .nil))
  refine ⟨_, rfl, _, rfl, kd (x, l), as.map kd, dp_mono (hid_low _ _) dk, .lst (SqL.of hE) (dps_mono (hid_low _ _) hs), sh_kd okx, sh_kds oks, _, rfl, ?_⟩
  rw [any_kd]
  by_cases c : (x, l) ∈ as
  · rw [decide_eq_true c]
    exact iteF (same c)
  · rw [decide_eq_false c]
    refine iteT ?_
    refine ⟨_, rfl, .inl ⟨rfl, _, SqL.of hE⟩, _, rfl, eA, _, _, rfl, rfl, hE, (by rw [List.length_map, sizeLine_eq]; omega), ?_⟩
    obtain ⟨H1, b1, h1, e1⟩ : ∃ H1, (∀ b o, b ≠ eA → H b = some o → H1 b = some o) ∧ H1 eA = some (.lst ((ks ++ [kT]).map V.ref)) ∧ upd H eA (.lst (ks.map V.ref ++ [.ref kT])) = H1 :=
      ⟨upd H eA (.lst (ks.map V.ref ++ [.ref kT])), fun b o z e => by rw [upd_ne z]; exact e, by rw [upd_same, List.map_append]; rfl, rfl⟩
    rw [e1]
    have B1 : Bt [p, tA, eA] H H1 := by rw [← e1]; exact bt_upd (by simp)
    have P1 : PoolIs H1 p N := by
      obtain ⟨a, b, c, hp, r⟩ := P
      exact ⟨a, b, c, b1 _ _ ep.symm hp, r⟩
    have hT1 := b1 _ _ te hT
    refine ⟨_, rfl, by show 3 ≤ sizeLine; decide, fun v3 n3 => ?_⟩
    obtain ⟨H2, s2', h2, e2⟩ := lay (o := .lst [.str "value", .str "value", .str "fail"]) n3
    rw [e2]
    have P2 := P1.mono s2' (Nat.le_refl _)
    refine ⟨p, v3, sts ks3, N, rfl, SqL.of (hid_to (ni1 (P1.ne n3)) h2), (fun z => nomatch z), by decide, by omega, P2, fun v H3 hv B3 P3 => ?_⟩
    obtain ⟨kk, hkk, rfl⟩ := mem_sts hv
    refine ⟨_, rfl, by show 2 ≤ sizeLine; decide, fun v2 n2 => ?_⟩
    obtain ⟨H4, s4', h4, e4⟩ := lay (o := .lst [.str "one", .str "false"]) n2
    rw [e4]
    have P4 := P3.mono s4' (Nat.le_refl _)
    refine ⟨p, v2, sts en2, N + 1, rfl, SqL.of (hid_to (ni1 (P3.ne n2)) h4), (fun z => nomatch z), by decide, by omega, P4, fun v H5 hv' B5 P5 => ?_⟩
    obtain ⟨en, hen, rfl⟩ := mem_sts hv'
    refine ⟨by show 2 ≤ sizeLine; decide, fun eT neT => ?_⟩
    obtain ⟨H6, s6, h6, e6⟩ := lay (o := .tup [.str kk, .str en]) neT
    rw [e6]
    have B16 : Bt [p] H1 H6 := ((bt_of s2').trans B3).trans (((bt_of s4').trans B5).trans (bt_of s6))
    have hT6 := bt_at B16 (ni1 tp) hT1
    have hE6 := bt_at B16 (ni1 ep) h1
    have B06 : Bt [p, tA, eA] H H6 := B1.trans (bt3 B16)
    have hD6 := bt_at B06 Dp_ hD
    refine ⟨_, rfl, .inl ⟨rfl, _, SqL.of hT6⟩, _, rfl, _, rfl, Dv, _, rfl, .inl ⟨SqL.of hD6, fun vT nvT => ?_⟩⟩
    obtain ⟨H7, s7', h7, e7⟩ := lay (o := .tup (sts vs)) nvT
    rw [e7]
    refine ⟨_, rfl, by show 3 ≤ sizeLine; decide, fun t nt => ?_⟩
    obtain ⟨H8, s8, h8, e8⟩ := lay (o := .tup [.str x, .ref vT, .ref eT]) nt
    rw [e8]
    have hT8 := s8 _ _ (s7' _ _ hT6)
    refine ⟨tA, _, _, rfl, rfl, hT8, (by rw [List.length_map, sizeLine_eq]; omega), ?_⟩
    obtain ⟨H9, b9, h9, e9⟩ : ∃ H9, (∀ b o, b ≠ tA → H8 b = some o → H9 b = some o) ∧ H9 tA = some (.lst ((ts ++ [t]).map V.ref)) ∧ upd H8 tA (.lst (ts.map V.ref ++ [.ref t])) = H9 :=
      ⟨upd H8 tA (.lst (ts.map V.ref ++ [.ref t])), fun b o z e => by rw [upd_ne z]; exact e, by rw [upd_same, List.map_append]; rfl, rfl⟩
    rw [e9]
    have B89 : Bt [p, tA, eA] H8 H9 := by rw [← e9]; exact bt_upd (by simp)
    have B09 : Bt [p, tA, eA] H H9 := B06.trans ((bt_of (s7'.trans s8)).trans B89)
    have P8 := P5.mono ((s6.trans s7').trans s8) (Nat.le_refl _)
    obtain ⟨a, b, c', hp8, pr8⟩ := id P8
    have tup_ni : ∀ {q : Addr} {o : List V}, H8 q = some (.tup o) → q ∉ [p, tA, eA] := fun h => ni3 (ne_of h hp8 (by intro z; cases z)) (ne_of h hT8 (by intro z; cases z)) (ne_of h (s8 _ _ (s7' _ _ hE6)) (by intro z; cases z))
    have up9 : ∀ {q : Addr} {o : List V}, H8 q = some (.tup o) → hid [p, tA, eA] H9 q = some (.tup o) := fun h => B89 _ _ (hid_to (tup_ni h) h)
    refine more c H9 t kk en _ B09 h9 (b9 _ _ te.symm (s8 _ _ (s7' _ _ hE6))) ⟨vT, eT, up9 h8, up9 (s8 _ _ h7), up9 (s8 _ _ (s7' _ _ h6))⟩ ?_ ?_ ?_ ⟨a, b, c', b9 _ _ tp.symm hp8, pr8⟩
    · rw [List.map_append, List.map_append]
      exact dps_app (dps_mono B09 hs) (.cons (dp_mono B09 dk) .nil)
    · simp only [ks3, List.mem_cons, List.not_mem_nil, or_false] at hkk
      rcases hkk with rfl | rfl | rfl
      · exact .inl rfl
      · exact .inl rfl
      · exact .inr rfl
    · simp only [en2, List.mem_cons, List.not_mem_nil, or_false] at hen
      exact hen
end GB
set_option Elab.async false
set_option linter.all false
set_option maxRecDepth 100000
set_option maxHeartbeats 8000000
namespace K28
open PySem PySem.Spec L2 GB
abbrev sGround : Stmt := topS 43
def grN : List Str := ["_law_pool_here", "_law_most", "_law_names", "_law_letters", "_law_fixed", "_law_name", "_law_x", "_law_commuting", "_law_facts", "_law_seen", "_law_k", "_law_values", "_law_key", "_law_end", "_law_j"]
def spGround : Sp := fun vs H Q _ => ∃ (p : Addr) (m : Int) (n : Nat), vs = [.ref p, .int m] ∧ 0 < m ∧ m ≤ 7 ∧ n + 500 ≤ 1000000 ∧ PoolIs H p n ∧
  ∀ g gd H', Bt [p] H H' → IsG (hid [p] H') g gd → gd.Wf → PoolIs H' p (n + 500) → Q (.ref g) H'
def grI (p : Addr) (m : Int) (n : Nat) (H : Hp) (aN dL fA : Addr) (ns : List Str) (i : Nat) (σ : L2.St) (H' : Hp) : Prop := ∃ (ls : List (Str × Nat)) (fx : List Str) (o5 : Option V), σ = [some (.ref p), some (.int m), some (.ref aN), some (.ref dL), some (.ref fA), o5, none, none, none, none, none, none, none, none, none] ∧
        Bt [p] H H' ∧ H' aN = some (.lst (sts ns)) ∧ H' dL = some (.dK (lkv ls)) ∧ H' fA = some (.lst (sts fx)) ∧ ls.map (·.1) = ns.take i ∧ (∀ q ∈ ls, q.2 ≤ 2) ∧ fx.Sublist (ns.take i) ∧ ls.length ≤ fx.length + 3 ∧ PoolIs H' p (n + 61 + 2 * i)
/-- after k turns of the facts' loop -/
def frI (K : PySem.W.Frag) (p : Addr) (m : Int) (aN dL fA cA tA eA : Addr) (o5 : Option V) (ls : List (Str × Nat)) (fx cm : List Str) (H11 : Hp) (n : Nat) (k : Nat) (σ : L2.St) (H' : Hp) : Prop :=
  ∃ (fs : List Fact) (ts ks : List Addr) (o6 o10 o11 o12 o13 : Option V), σ = [some (.ref p), some (.int m), some (.ref aN), some (.ref dL), some (.ref fA), o5, o6, some (.ref cA), some (.ref tA), some (.ref eA), o10, o11, o12, o13, none] ∧
    Bt [p, tA, eA] H11 H' ∧ H' tA = some (.lst (ts.map V.ref)) ∧ H' eA = some (.lst (ks.map V.ref)) ∧ Paired (FactAt (hid [p, tA, eA] H')) fs ts ∧ DpAll K (hid [p, tA, eA] H') (ks.map V.ref) ((fs.map (GD.mk ls fx cm []).asked).map kd) ∧
    fs.length ≤ k ∧ (∀ f ∈ fs, f.Ok ls fx) ∧ (fs.map (GD.mk ls fx cm []).asked).Nodup ∧ ks.length = fs.length ∧ PoolIs H' p (n + 5 * k)
section
variable {P : Program} {w : World} {K : PySem.W.Frag} {mg : Str → Option Value} {base : Heap}
theorem scGround : FnScope grN ["_law_pool_here", "_law_most"] (defScope sGround) := ⟨rfl, rfl, rfl, by decide +kernel, rfl, by decide +kernel, by decide +kernel⟩
theorem ok_ground {f : Addr} {fd : FuncData} (F : Fun K "_law_ground" "_law_ground" sGround f fd) (T : Bl mg) (TK : Fns P w K mg base "_law_take" 1 ["_law_pool_here", "_law_many"] spTake)
    (MX : Fns P w K mg base "_law_mixed" 2 ["_law_pool_here", "_law_things"] (spMixed K)) (ON : Fns P w K mg base "_law_one" 2 ["_law_pool_here", "_law_things"] (spOne K)) : FnOk P w K mg base CX0 3 f fd ["_law_pool_here", "_law_most"] spGround := by
  refine F.ok scGround (fun vs H Q E h => ?_) (fun cdv A outer s H vs Q E hr h => ?_)
  · obtain ⟨p, m, n, rfl, _⟩ := h
    rfl
  · obtain ⟨p, m, n, rfl, m0, m7, hn, hP, q⟩ := h
    have hu65 : (A.deeper (PyProof.Rows.envOfC "_law_ground" (defScope sGround) s.heap.objs.size f cdv)).units + 65 < cLine := by have := hr.un; omega
    refine ⟨_, pss_cons (ps_set (i := 2) scGround.nd rfl (.inl rfl) (pe_slice sl_list (pe_fn MX hr (by decide) rfl (pa_cons (pv 0) (pa_cons (pe_lst (pa_cons (pe_str) (pa_cons (pe_str) (pa_cons (pe_str) (pa_cons (pe_str) (pa_cons (pe_str) (pa_cons (pe_str) (pa_cons (pe_str) (pa_cons (pe_str) (pa_nil)))))))))) (pa_nil)))) po_none (po_some (pe_op op_add (pe_int) (pe_fn TK hr (by decide) rfl (pa_cons (pv 0) (pa_cons (pv 1) (pa_nil)))))))) (pss_cons (ps_asg (pe_tup (pa_cons (pe_dnewK) (pa_cons (pe_lst (pa_nil)) (pa_nil)))) (pg_tup rfl (pgs_cons (pg_name (i := 3) scGround.nd rfl (.inr rfl)) (pgs_cons (pg_name (i := 4) scGround.nd rfl (.inl rfl)) (pgs_nil))))) (pss_cons (ps_for PassesOwn.never rfl (pi_list (pv 2)) (pg_name (i := 5) scGround.nd rfl (.inl rfl)) (pss_cons (ps_dput (hu_of hr) (pv 3) (pv 5) (pe_fn ON hr (by decide) rfl (pa_cons (pv 0) (pa_cons (pe_lst (pa_cons (pe_int) (pa_cons (pe_int) (pa_cons (pe_int) (pa_cons (pe_int) (pa_cons (pe_int) (pa_nil))))))) (pa_nil)))) rfl) (pss_one (ps_if (PW.pt (pw_or (pt_cmpR op_gt (pe_op op_sub (pe_callB call_lenD (by rfl) T.len PySem.boot_len (pa_cons (pv 3) (pa_nil))) (pe_callB call_len_seq (by rfl) T.len PySem.boot_len (pa_cons (pv 4) (pa_nil)))) (pe_int) (nomark _)) (pw_or1 (pt_cmpR op_eq (pe_fn TK hr (by decide) rfl (pa_cons (pv 0) (pa_cons (pe_int) (pa_nil)))) (pe_int) (nomark _))))) (pss_one (ps_expr (pe_bm PySem.F.plainAttrs_list PySem.F.slot_list_append PySem.F.type_list_append mt_append (pv 4) (pa_cons (pv 5) (pa_nil))))) (pss_nil))))) (pss_cons (ps_setLc (i := 7) (own := [("_law_x", 6)]) (g := gName 6) (tt := tAnd (tTest (tOp rEq (tDGet (tVar 3) (tVar 6)) (tC (.int 2)))) (tTest (tOp rEq (tCall spTake [] E0 (tCons (tVar 0) (tCons (tC (.int 2)) tNil))) (tC (.int 0))))) rfl scGround.nd rfl rfl (sw_true rfl rfl rfl (by decide +kernel)) (pi_list (pv 4)) (blkOk_by (own := [("_law_x", 6)]) (N := grN) (sc := defScope sGround) (by decide +kernel)) (fun _ _ _ _ _ => pg_name (i := 6) scGround.nd rfl (.inl rfl)) (fun _ _ _ _ _ => pts_one (PW.pt (pw_and (pt_cmpR op_eq (pe_dget (hu_of hr) (pv 3) (pv 6) (fun _ _ => rfl)) (pe_int) (nomark _)) (pw_and1 (pt_cmpR op_eq (pe_fn TK hr (by decide) rfl (pa_cons (pv 0) (pa_cons (pe_int) (pa_nil)))) (pe_int) (nomark _)))))) (fun _ _ _ _ _ => pv 6)) (pss_cons (ps_par (i := 8) (j := 9) rfl scGround.nd rfl rfl (by decide) rfl rfl (pa_cons (pe_lst (pa_nil)) (pa_cons (pe_lst (pa_nil)) (pa_nil))) (by rfl)) (pss_cons (ps_for PassesOwn.never rfl (pi_range1 rfl T.range (pa_cons (pe_op op_mul (pe_ix ix_list (pe_lst (pa_cons (pe_int) (pa_cons (pe_int) (pa_cons (pe_int) (pa_cons (pe_int) (pa_cons (pe_int) (pa_nil))))))) (pe_fn TK hr (by decide) rfl (pa_cons (pv 0) (pa_cons (pe_int) (pa_nil)))) (fun _ _ => rfl)) (pe_callTy (call_int1) (by rfl) T.int (by decide +kernel) (pa_cons (pe_cmpR (op_neD hr.units) (pv 4) (pe_lst (pa_nil)) (nomark _)) (pa_nil)))) (pa_nil))) (pg_name (i := 10) scGround.nd rfl (.inl rfl)) (pss_cons (ps_set (i := 6) scGround.nd rfl (.inl rfl) (pe_fn ON hr (by decide) rfl (pa_cons (pv 0) (pa_cons (pv 4) (pa_nil))))) (pss_cons (ps_setLc (i := 11) (own := [("_law_j", 14)]) (g := gName 14) (tt := tYes) rfl scGround.nd rfl rfl (sw_true rfl rfl rfl (by decide +kernel)) (pi_range1 rfl T.range (pa_cons (pe_dget (hu_of hr) (pv 3) (pv 6) (fun _ _ => rfl)) (pa_nil))) (blkOk_by (own := [("_law_j", 14)]) (N := grN) (sc := defScope sGround) (by decide +kernel)) (fun _ _ _ _ _ => pg_name (i := 14) scGround.nd rfl (.inl rfl)) (fun _ _ _ _ _ => pts_nil) (fun _ _ _ _ _ => pe_fn ON hr (by decide) rfl (pa_cons (pv 0) (pa_cons (pe_lst (pa_cons (pe_str) (pa_cons (pe_str) (pa_cons (pe_str) (pa_nil))))) (pa_nil))))) (pss_cons (ps_set (i := 12) scGround.nd rfl (.inl rfl) (pe_tup (pa_cons (pv 6) (pa_cons (pe_ifExp (pt_cmpR op_in_seq (pv 6) (pv 7) (by rfl)) (pe_callB (cr_sortedS) (by rfl) T.sorted (by decide +kernel) (pa_cons (pv 11) (pa_nil))) (pv 11)) (pa_nil))))) (pss_one (ps_if (pt_cmpR (op_notInD hu65) (pv 12) (pv 9) (by rfl)) (pss_cons (ps_expr (pe_bm PySem.F.plainAttrs_list PySem.F.slot_list_append PySem.F.type_list_append mt_append (pv 9) (pa_cons (pv 12) (pa_nil)))) (pss_cons (ps_set (i := 13) scGround.nd rfl (.inl rfl) (pe_tup (pa_cons (pe_fn ON hr (by decide) rfl (pa_cons (pv 0) (pa_cons (pe_lst (pa_cons (pe_str) (pa_cons (pe_str) (pa_cons (pe_str) (pa_nil))))) (pa_nil)))) (pa_cons (pe_fn ON hr (by decide) rfl (pa_cons (pv 0) (pa_cons (pe_lst (pa_cons (pe_str) (pa_cons (pe_str) (pa_nil)))) (pa_nil)))) (pa_nil))))) (pss_one (ps_expr (pe_bm PySem.F.plainAttrs_list PySem.F.slot_list_append PySem.F.type_list_append mt_append (pv 8) (pa_cons (pe_tup (pa_cons (pv 6) (pa_cons (pe_callTy (call_tuple_of) (by rfl) T.tuple (by decide +kernel) (pa_cons (pv 11) (pa_nil))) (pa_cons (pv 13) (pa_nil))))) (pa_nil))))))) (pss_nil))))))) (pss_one (ps_ret (pe_callTy (call_dictP rfl) (by rfl) T.dict (by decide +kernel) (pa_cons (pe_lst (pa_cons (pe_tup (pa_cons (pe_str) (pa_cons (pv 3) (pa_nil)))) (pa_cons (pe_tup (pa_cons (pe_str) (pa_cons (pv 4) (pa_nil)))) (pa_cons (pe_tup (pa_cons (pe_str) (pa_cons (pv 7) (pa_nil)))) (pa_cons (pe_tup (pa_cons (pe_str) (pa_cons (pv 8) (pa_nil)))) (pa_nil)))))) (pa_nil)))))))))), ?_⟩
    refine ⟨_, rfl, by show 8 ≤ sizeLine; decide, fun a8 n8 => ?_⟩
    obtain ⟨H1, s1, h1, e1⟩ := lay (o := .lst [.str "x", .str "y", .str "z", .str "plus", .str "if", .str "name", .str "abcdefgh", .str "fail"]) n8
    rw [e1]
    have P1 := hP.mono s1 (Nat.le_refl _)
    have na8 := hP.ne n8
    refine ⟨p, a8, sts nm8, n, rfl, SqL.of (hid_to (ni1 na8) h1), by decide, by omega, P1, fun qa ys H2 hperm nqa b2 hqa P2 => ?_⟩
    refine ⟨_, rfl, _, rfl, p, m, n + 60, rfl, m0, by omega, by omega, P2, fun r H3 hr3 b3 P3 => ?_⟩
    have nqp : qa ≠ p := P1.ne nqa
    refine ⟨_, _, rfl, rfl, _, rfl, qa, ys, rfl, SqL.of (bt_at b3 (ni1 nqp) hqa), fun aN nN => ?_⟩
    obtain ⟨ns8, rfl, hp8⟩ := sts_perm hperm
    obtain ⟨H4, s4, h4, e4⟩ := lay (o := .lst (cutV (sts ns8) none (some (((1 + r : Nat) : Int))))) nN
    rw [show ((1 : Int) + (r : Int)) = ((1 + r : Nat) : Int) from (Int.natCast_add 1 r).symm, e4]
    have l8 : ns8.length = 8 := hp8.length_eq
    have hr4 : 1 + r ≤ 7 := by have := hr3; omega
    obtain ⟨ns, hns⟩ : ∃ ns, ns = ns8.take (1 + r) := ⟨_, rfl⟩
    have h4' : H4 aN = some (.lst (sts ns)) := by
      rw [h4, cut_to _ _ (by unfold sts; rw [List.length_map]; omega), hns]
      unfold sts
      rw [List.map_take]
    have nsl : ns.length = 1 + r := by rw [hns, List.length_take]; omega
    have nsub : ∀ x ∈ ns, x ∈ nmA := fun x hx => nmA_of <| hp8.subset (List.mem_of_mem_take (by rw [← hns]; exact hx))
    have nsnd : ns.Nodup := by
      rw [hns]
      exact (hp8.nodup_iff.mpr (by decide)).sublist (List.take_sublist _ _)
    have P4 := P3.mono s4 (Nat.le_refl _)
    have nNp : aN ≠ p := P3.ne nN
    have B4 : Bt [p] H H4 := ((bt_of s1).trans (b2.trans b3)).trans (bt_of s4)
    clear h4 e4 hqa h1 e1 hperm
    intro dL ndL
    obtain ⟨H5, s5, h5, e5⟩ := lay (o := .dK []) ndL
    rw [e5]
    refine ⟨by show 0 ≤ sizeLine; decide, fun fA nfA => ?_⟩
    obtain ⟨H6, s6, h6, e6⟩ := lay (o := .lst []) nfA
    rw [e6]
    refine ⟨by show 2 ≤ sizeLine; decide, fun tA ntA => ?_⟩
    obtain ⟨H7, s7, h7, e7⟩ := lay (o := .tup [.ref dL, .ref fA]) ntA
    rw [e7]
    refine ⟨tA, [.ref dL, .ref fA], rfl, SqT.of h7, rfl, .ref dL, [.ref fA], rfl, .ref fA, [], rfl, rfl, ?_⟩
    have s47 : Same H4 H7 := (s5.trans s6).trans s7
    have P7 := P4.mono s47 (Nat.le_refl _)
    have ndp : dL ≠ p := P4.ne ndL
    have nfp : fA ≠ p := (P4.mono s5 (Nat.le_refl _)).ne nfA
    have ndf : dL ≠ fA := ne_of_none h5 nfA
    have ndN : aN ≠ dL := ne_of_none h4' ndL
    have nfN : aN ≠ fA := ne_of_none (s5 _ _ h4') nfA
    have B7 : Bt [p] H H7 := B4.trans (bt_of s47)
    have ndLH : H dL = none := by
      cases e : H dL with
      | none => rfl
      | some o => rw [bt_at B4 (ni1 ndp) e] at ndL; cases ndL
    have nfAH : H fA = none := by
      cases e : H fA with
      | none => rfl
      | some o => rw [s5 _ _ (bt_at B4 (ni1 nfp) e)] at nfA; cases nfA
    have hS5 : ∀ {H' : Hp}, PoolIs H' p n → True := fun _ => trivial
    refine ⟨_, rfl, aN, rfl, ⟨_, SqL.of (s47 _ _ h4')⟩, for_list (K := K) (a := aN) (xs := sts ns) (grI p m n H aN dL fA ns)
      ⟨[], [], none, rfl, B7, s47 _ _ h4', s7 _ _ (s6 _ _ h5), s7 _ _ h6, rfl, (fun _ h => nomatch h), List.Sublist.refl _, Nat.zero_le _, P7.mono (Same.refl _) (by omega)⟩ (fun i σ H' _ ⟨_, _, _, _, _, h, _⟩ => SqL.of h) ?_ ?_⟩
    · rintro i x σ H8 hi ⟨ls, fx, o5, rfl, B8, hN8, hL8, hF8, hls, har, hfx, hnf, P8⟩
      obtain ⟨nm, hnm, rfl⟩ := sts_at hi
      have hil' : i < ns.length := (List.getElem?_eq_some_iff.mp hnm).1
      have tk : ns.take (i + 1) = ns.take i ++ [nm] := by rw [List.take_add_one, hnm]; rfl
      have nmn : nm ∉ ls.map (·.1) := by
        rw [hls]
        intro hm
        have nd := nsnd.sublist (List.take_sublist (i + 1) ns)
        rw [tk] at nd
        exact (List.nodup_append.mp nd).2.2 nm hm nm List.mem_cons_self rfl
      have lsl : ls.length = i := by
        have := congrArg List.length hls
        rw [List.length_map, List.length_take] at this
        omega
      refine ⟨_, rfl, by show 5 ≤ sizeLine; decide, fun b5 nb5 => ?_⟩
      obtain ⟨H9, s9, h9, e9⟩ := lay (o := .lst [.int 0, .int 0, .int 0, .int 1, .int 2]) nb5
      rw [e9]
      have P9 := P8.mono s9 (Nat.le_refl _)
      refine ⟨p, b5, [.int 0, .int 0, .int 0, .int 1, .int 2], _, rfl, SqL.of (hid_to (ni1 (P8.ne nb5)) h9), (fun h => nomatch h), (by show 5 ≤ 100000; decide), (by omega), P9, fun v H10 hv b10 P10 => ?_⟩
      obtain ⟨k, hk, rfl⟩ : ∃ k : Nat, k ≤ 2 ∧ v = .int k := by
        simp only [List.mem_cons, List.not_mem_nil, or_false] at hv
        rcases hv with rfl | rfl | rfl | rfl | rfl
        · exact ⟨0, by decide, rfl⟩
        · exact ⟨0, by decide, rfl⟩
        · exact ⟨0, by decide, rfl⟩
        · exact ⟨1, by decide, rfl⟩
        · exact ⟨2, by decide, rfl⟩
      have hL10 := bt_at b10 (ni1 ndp) (s9 _ _ hL8)
      have hF10 := bt_at b10 (ni1 nfp) (s9 _ _ hF8)
      have hN10 := bt_at b10 (ni1 nNp) (s9 _ _ hN8)
      refine ⟨_, rfl, _, rfl, dL, _, rfl, DPut.k (k := .inr nm) hL10 (by unfold lkv; rw [List.length_map, sizeLine_eq]; omega), ?_⟩
      have ep : putK (lkv ls) (.inr nm : Key) (V.int k) = lkv (ls ++ [(nm, k)]) := by
        rw [putK_new _ (valV_no nmn)]
        unfold lkv
        rw [List.map_append]
        rfl
      rw [ep]
      obtain ⟨H11, b11, h11, e11⟩ : ∃ H11, (∀ b o, b ≠ dL → H10 b = some o → H11 b = some o) ∧ H11 dL = some (.dK (lkv (ls ++ [(nm, k)]))) ∧ upd H10 dL (.dK (lkv (ls ++ [(nm, k)]))) = H11 :=
        ⟨upd H10 dL (.dK (lkv (ls ++ [(nm, k)]))), fun b o z e => by rw [upd_ne z]; exact e, upd_same, rfl⟩
      rw [e11]
      have hF11 := b11 _ _ ndf.symm hF10
      have hN11 := b11 _ _ ndN hN10
      have P11 : PoolIs H11 p (n + 61 + 2 * i + 1) := by
        obtain ⟨x, y, z, e, r⟩ := P10
        exact ⟨x, y, z, b11 _ _ ndp.symm e, r⟩
      have B11 : Bt [p] H H11 := fun b o e => by
        obtain ⟨e', nb⟩ := hid_in e
        exact hid_to nb (b11 _ _ (ne_of_none e' ndLH) (bt_at b10 nb (s9 _ _ (bt_at B8 nb e'))))
      have har' : ∀ q ∈ ls ++ [(nm, k)], q.2 ≤ 2 := fun q hq => by
        rcases List.mem_append.mp hq with h | h
        · exact har q h
        · rw [List.mem_singleton.mp h]; exact hk
      have hls' : (ls ++ [(nm, k)]).map (·.1) = ns.take (i + 1) := by rw [tk, List.map_append, hls]; rfl
      have fl : fx.length ≤ i := by
        have := hfx.length_le
        rw [List.length_take] at this
        omega
      refine ⟨_, rfl, dL, _, rfl, h11, _, rfl, fA, _, rfl, .inl (SqL.of hF11), _, _, rfl, rfl, _, _, rfl, rfl, _, rfl, ?_⟩
      have app : ∀ H12, Bt [p] H11 H12 → PoolIs H12 p (n + 61 + 2 * (i + 1)) → ∀ D : Ends, (∀ σ' H', grI p m n H aN dL fA ns (i + 1) σ' H' → D.nx σ' H') → (tDrop (tBM K "list" rAppend (tVar 4) (tCons (tVar 5) tNil))) D [some (.ref p), some (.int m), some (.ref aN), some (.ref dL), some (.ref fA), some (.str nm), none, none, none, none, none, none, none, none, none] H12 := fun H12 b12 P12 D fin => by
        have hF12 := bt_at b12 (ni1 nfp) hF11
        have hL12 := bt_at b12 (ni1 ndp) h11
        have hN12 := bt_at b12 (ni1 nNp) hN11
        refine ⟨_, rfl, .inl ⟨rfl, _, SqL.of hF12⟩, _, rfl, fA, _, _, rfl, rfl, hF12, (by rw [sts_len, sizeLine_eq]; omega), ?_⟩
        obtain ⟨H13, b13, h13, e13⟩ : ∃ H13, (∀ b o, b ≠ fA → H12 b = some o → H13 b = some o) ∧ H13 fA = some (.lst (sts (fx ++ [nm]))) ∧ upd H12 fA (.lst (sts fx ++ [.str nm])) = H13 :=
          ⟨upd H12 fA (.lst (sts fx ++ [.str nm])), fun b o z e => by rw [upd_ne z]; exact e, by rw [upd_same]; unfold sts; rw [List.map_append]; rfl, rfl⟩
        rw [e13]
        obtain ⟨x, y, z, ep12, pr12⟩ := P12
        refine fin _ _ ⟨ls ++ [(nm, k)], fx ++ [nm], _, rfl, fun b o e => ?_, b13 _ _ nfN hN12, b13 _ _ ndf hL12, h13, hls', har', ?_, ?_, ⟨x, y, z, b13 _ _ nfp.symm ep12, pr12⟩⟩
        · obtain ⟨e', nb⟩ := hid_in e
          exact hid_to nb (b13 _ _ (ne_of_none e' nfAH) (bt_at b12 nb (bt_at B11 nb e')))
        · rw [tk]; exact hfx.append (List.Sublist.refl _)
        · rw [List.length_append, List.length_append]; simp only [List.length_singleton]; omega
      have skip : ∀ H12, Bt [p] H11 H12 → PoolIs H12 p (n + 61 + 2 * (i + 1)) → ls.length + 1 ≤ fx.length + 3 → grI p m n H aN dL fA ns (i + 1) [some (.ref p), some (.int m), some (.ref aN), some (.ref dL), some (.ref fA), some (.str nm), none, none, none, none, none, none, none, none, none] H12 := fun H12 b12 P12 hle =>
        ⟨ls ++ [(nm, k)], fx, some (.str nm), rfl, B11.trans b12, bt_at b12 (ni1 nNp) hN11, bt_at b12 (ni1 ndp) h11, bt_at b12 (ni1 nfp) hF11, hls', har', (by rw [tk]; exact hfx.trans (List.sublist_append_left _ _)), (by rw [List.length_append]; exact hle), P12⟩
      by_cases c : (3 : Int) < (((lkv (ls ++ [(nm, k)])).length : Nat) : Int) - (((sts fx).length : Nat) : Int)
      · rw [decide_eq_true c]
        refine iteT (iteT (app H11 (Same.refl _) (P11.mono (Same.refl _) (by omega)) _ fun _ _ h => h))
      · rw [decide_eq_false c]
        refine iteF ⟨_, rfl, p, 3, _, rfl, by decide, by decide, (by omega), P11, fun r H12 hr12 b12 P12 => ⟨rfl, _, rfl, ?_⟩⟩
        have P12' := P12.mono (Same.refl _) (show _ ≤ n + 61 + 2 * (i + 1) by omega)
        by_cases c2 : (V.int (r : Int)) = .int 0
        · rw [decide_eq_true c2]
          exact iteT (app H12 b12 P12' _ fun _ _ h => h)
        · rw [decide_eq_false c2]
          refine iteF (skip H12 b12 P12' ?_)
          unfold lkv at c
          rw [List.length_map, List.length_append, sts_len] at c
          simp only [List.length_singleton] at c
          omega
    · rintro σ H8 ⟨ls, fx, o5, rfl, B8, hN8, hL8, hF8, hls, har, hfx, hnf, P8⟩
      rw [sts_len, List.take_length] at hls hfx
      rw [sts_len] at P8
      have lnd : (ls.map (·.1)).Nodup := by rw [hls]; exact nsnd
      have fin : ∀ x ∈ fx, ∃ k, (x, k) ∈ ls := fun x hx => by
        have := hfx.subset hx
        rw [← hls] at this
        obtain ⟨q, hq, rfl⟩ := List.mem_map.mp this
        exact ⟨q.2, hq⟩
      have lls : ls.length ≤ 7 := by
        have := congrArg List.length hls
        rw [List.length_map] at this
        omega
      have lfx : fx.length ≤ 7 := by have := hfx.length_le; omega
      have P8' : PoolIs H8 p (n + 80) := P8.mono (Same.refl _) (by omega)
      have f8 : ∀ x ∈ fx, x ∈ nmA := fun x hx => nsub x (hfx.subset hx)
      -- commuting
      refine ⟨_, rfl, fA, rfl, ⟨_, SqL.of hF8⟩, fun cA ncA => lc_list (K := K) (a := fA) (xs := sts fx) (fun i H' => ∃ cm : List Str, Bt [p, cA] H8 H' ∧ H' cA = some (.lst (sts cm)) ∧ cm.Sublist (fx.take i) ∧ (∀ x ∈ cm, (x, 2) ∈ ls) ∧ PoolIs H' p (n + 80 + i))
        ⟨[], bt_upd (by simp), upd_same, List.Sublist.refl _, (fun _ h => nomatch h), (by
          obtain ⟨x, y, z, e, r⟩ := P8'
          exact ⟨x, y, z, by rw [upd_ne (ne_of_none e ncA)]; exact e, r⟩)⟩ ?_ ?_ ?_⟩
      · rintro i H9 _ ⟨cm, B9, _⟩
        exact SqL.of (bt_at B9 (by simp [nfp, ne_of_none hF8 ncA]) hF8)
      · rintro i x H9 hi ⟨cm, B9, hC9, hcm, hc2, P9⟩
        obtain ⟨s, hs, rfl⟩ := sts_at hi
        have hsx : s ∈ fx := List.mem_of_getElem? hs
        obtain ⟨k, hk⟩ := fin s hsx
        have tk : fx.take (i + 1) = fx.take i ++ [s] := by rw [List.take_add_one, hs]; rfl
        have cp : cA ≠ p := P8.ne ncA
        have hL9 := bt_at B9 (by simp [ndp, ne_of_none hL8 ncA]) hL8
        have il : i < fx.length := (List.getElem?_eq_some_iff.mp hs).1
        have cml : cm.length ≤ 7 := by
          have := hcm.length_le
          rw [List.length_take] at this
          omega
        have drop : ∀ H', Bt [p] H9 H' → PoolIs H' p (n + 80 + (i + 1)) → ∃ cm : List Str, Bt [p, cA] H8 H' ∧ H' cA = some (.lst (sts cm)) ∧ cm.Sublist (fx.take (i + 1)) ∧ (∀ x ∈ cm, (x, 2) ∈ ls) ∧ PoolIs H' p (n + 80 + (i + 1)) := fun H' b P =>
          ⟨cm, B9.trans (bt_weak (by simp) b), bt_at b (ni1 cp) hC9, (by rw [tk]; exact hcm.trans (List.sublist_append_left _ _)), hc2, P⟩
        refine ⟨rfl, _, rfl, _, rfl, dL, .int k, rfl, (by rw [← valV_lkv lnd hk]; exact DGet.k (k := .inr s) hL9), rfl, _, rfl, ?_⟩
        by_cases c : (V.int (k : Int)) = .int 2
        · rw [decide_eq_true c]
          refine iteT ⟨_, rfl, p, 2, _, rfl, by decide, by decide, (by omega), P9, fun r H10 hr10 b10 P10 => ⟨rfl, _, rfl, ?_⟩⟩
          by_cases c2 : (V.int (r : Int)) = .int 0
          · rw [decide_eq_true c2]
            refine iteT ⟨_, rfl, sts cm, bt_at b10 (ni1 cp) hC9, (by rw [sts_len, sizeLine_eq]; omega), cm ++ [s], ?_, ?_, ?_, ?_, ?_⟩
            · exact B9.trans ((bt_weak (by simp) b10).trans (bt_upd (by simp)))
            · rw [upd_same]; unfold sts; rw [List.map_append]; rfl
            · rw [tk]; exact hcm.append (List.Sublist.refl _)
            · intro x hx
              rcases List.mem_append.mp hx with h | h
              · exact hc2 x h
              · obtain rfl := List.mem_singleton.mp h
                have : k = 2 := by injection c with c; omega
                rw [← this]; exact hk
            · obtain ⟨x, y, z, e, r⟩ := P10
              exact ⟨x, y, z, by rw [upd_ne cp.symm]; exact e, r⟩
          · rw [decide_eq_false c2]
            exact iteF (drop H10 b10 (P10.mono (Same.refl _) (by omega)))
        · rw [decide_eq_false c]
          exact iteF (iteF (drop H9 (Same.refl _) (P9.mono (Same.refl _) (by omega))))
      · rintro H9 ⟨cm, B9, hC9, hcm, hc2, P9⟩
        rw [sts_len, List.take_length] at hcm
        rw [sts_len] at P9
        have cp : cA ≠ p := P8.ne ncA
        have hL9 := bt_at B9 (by simp [ndp, ne_of_none hL8 ncA]) hL8
        have hF9 := bt_at B9 (by simp [nfp, ne_of_none hF8 ncA]) hF8
        have hN9 := bt_at B9 (by simp [nNp, ne_of_none hN8 ncA]) hN8
        have ncAH : H cA = none := by
          cases e : H cA with
          | none => rfl
          | some o => rw [bt_at B8 (ni1 cp) e] at ncA; cases ncA
        have B9' : Bt [p] H H9 := fun b o e => by
          obtain ⟨e', nb⟩ := hid_in e
          exact hid_to nb (bt_at B9 (by
            have := ne_of_none e' ncAH
            simp only [List.mem_cons, List.not_mem_nil, or_false, not_or]
            exact ⟨fun z => nb (by rw [z]; exact List.mem_cons_self), this⟩) (bt_at B8 nb e'))
        refine ⟨by show 0 ≤ sizeLine; decide, fun tA' ntA' => ?_⟩
        obtain ⟨H10, s10, h10, e10⟩ := lay (o := .lst []) ntA'
        rw [e10]
        refine ⟨by show 0 ≤ sizeLine; decide, fun eA neA => ?_⟩
        obtain ⟨H11, s11, h11, e11⟩ := lay (o := .lst []) neA
        rw [e11]
        refine ⟨_, _, rfl, ?_⟩
        have tp : tA' ≠ p := P9.ne ntA'
        have P11 := P9.mono (s10.trans s11) (Nat.le_refl _)
        have ep : eA ≠ p := (P9.mono s10 (Nat.le_refl _)).ne neA
        have te : tA' ≠ eA := ne_of_none h10 neA
        have s911 := s10.trans s11
        have hL11 := s911 _ _ hL9
        have hF11 := s911 _ _ hF9
        have hC11 := s911 _ _ hC9
        have nLt : dL ≠ tA' := ne_of_none hL9 ntA'
        have nFt : fA ≠ tA' := ne_of_none hF9 ntA'
        have nCt : cA ≠ tA' := ne_of_none hC9 ntA'
        have nLe : dL ≠ eA := ne_of_none (s10 _ _ hL9) neA
        have nFe : fA ≠ eA := ne_of_none (s10 _ _ hF9) neA
        have nCe : cA ≠ eA := ne_of_none (s10 _ _ hC9) neA
        have cmx : ∀ x ∈ cm, x ∈ fx := fun x hx => hcm.subset hx
        have cml : cm.length ≤ 7 := by have := hcm.length_le; omega
        refine ⟨by show 5 ≤ sizeLine; decide, fun b5 n5 => ?_⟩
        obtain ⟨H12, s12, h12, e12⟩ := lay (o := .lst [.int 0, .int 1, .int 2, .int 3, .int 6]) n5
        rw [e12]
        have P12 := P11.mono s12 (Nat.le_refl _)
        refine ⟨_, rfl, p, 5, _, rfl, by decide, by decide, by omega, P12, fun r H13 hr13 b13 P13 => ?_⟩
        obtain ⟨c, hc6, hv⟩ : ∃ c : Nat, c ≤ 6 ∧ ([.int 0, .int 1, .int 2, .int 3, .int 6] : List V)[r]? = some (.int c) := by
          have hr5 : r < 5 := by have := hr13; omega
          match r, hr5 with
          | 0, _ => exact ⟨0, by decide, rfl⟩
          | 1, _ => exact ⟨1, by decide, rfl⟩
          | 2, _ => exact ⟨2, by decide, rfl⟩
          | 3, _ => exact ⟨3, by decide, rfl⟩
          | 4, _ => exact ⟨6, by decide, rfl⟩
        refine ⟨b5, _, _, _, rfl, rfl, SqL.of (bt_at b13 (ni1 (P11.ne n5)) h12), atI_nat hv, ?_⟩
        have hF13 := bt_at b13 (ni1 nfp) (s12 _ _ hF11)
        refine ⟨_, rfl, by show 0 ≤ sizeLine; decide, fun zA nzA => ?_⟩
        obtain ⟨H14, s14, h14, e14⟩ := lay (o := .lst []) nzA
        rw [e14]
        refine ⟨.list (pst fx), .list [], .lst (SqL.of (s14 _ _ hF13)) (dp_sts fx), .lst (SqL.of h14) .nil, sh_pst (fun v hv => ok8 v (f8 v hv)), by decide +kernel, .inr ⟨_, rfl, _, _, rfl, rfl, .inl ⟨by omega, by omega⟩, ?_⟩⟩
        rw [ne_nil]
        obtain ⟨N, hN, hN6, hNx⟩ : ∃ N : Nat, (c : Int) * (if decide (fx ≠ []) = true then 1 else 0) = (N : Int) ∧ N ≤ 6 ∧ (0 < N → fx ≠ []) := by
          by_cases h : fx = []
          · exact ⟨0, by rw [decide_eq_false (not_not_intro h)]; simp, by decide, fun z => absurd z (by decide)⟩
          · exact ⟨c, by rw [decide_eq_true h]; simp, hc6, fun _ => h⟩
        have P14 := P13.mono s14 (Nat.le_refl _)
        have B1114 : Bt [p] H11 H14 := (bt_of s12).trans (b13.trans (bt_of s14))
        refine ⟨(N : Int), congrArg (fun z => [V.int z]) hN, by omega, by omega, for_range (lo := 0) (n := N) (frI K p m aN dL fA cA tA' eA o5 ls fx cm H11 (n + 90)) ?_ ?_ ?_⟩
        · refine ⟨[], [], [], none, none, none, none, none, rfl, bt3 B1114, bt_at B1114 (ni1 tp) (s11 _ _ h10), bt_at B1114 (ni1 ep) h11, .nil, .nil, Nat.zero_le _, (fun _ h => nomatch h), List.nodup_nil, rfl, P14.mono (Same.refl _) (by omega)⟩
        · rintro k σ H15 hk ⟨fs, ts, ks, o6, o10, o11, o12, o13, rfl, B15, hT15, hE15, hts, hks, hfl, hfo, hfd, hkl, P15⟩
          have hFx : hid [p, tA', eA] H15 fA = some (.lst (sts fx)) := B15 _ _ (hid_to (ni3 nfp nFt nFe) hF11)
          have hF15 := (hid_in hFx).1
          have hL15 := bt_at B15 (ni3 ndp nLt nLe) hL11
          have hC15 := bt_at B15 (ni3 cp nCt nCe) hC11
          refine ⟨_, rfl, _, rfl, p, fA, sts fx, _, rfl, SqL.of (hid_to (ni1 nfp) hF15), ?_, (by rw [sts_len]; omega), (by omega), P15, fun v H16 hv16 b16 P16 => ?_⟩
          · have := hNx (by omega)
            cases fx with
            | nil => exact absurd rfl this
            | cons y z => exact fun e => nomatch e
          obtain ⟨x, hx, rfl⟩ := mem_sts hv16
          obtain ⟨kx, hkx⟩ := fin x hx
          have kx2 : kx ≤ 2 := har _ hkx
          have hL16 := bt_at b16 (ni1 ndp) hL15
          refine ⟨_, rfl, _, rfl, dL, .int kx, rfl, (by rw [← valV_lkv lnd hkx]; exact DGet.k (k := .inr x) hL16), kx, rfl, by omega, by omega, fun D nD => lc_range (lo := 0) (n := kx) (fun i H' => ∃ vs : List Str, Bt [p, D] H16 H' ∧ H' D = some (.lst (sts vs)) ∧ vs.length = i ∧ (∀ v ∈ vs, v ∈ va3) ∧ PoolIs H' p (n + 90 + 5 * k + 1 + i))
            ⟨[], bt_upd (by simp), upd_same, rfl, (fun _ h => nomatch h), (by
              obtain ⟨x, y, z, e, r⟩ := P16
              exact ⟨x, y, z, by rw [upd_ne (ne_of_none e nD)]; exact e, r⟩)⟩ ?_ ?_⟩
          · rintro i H17 hi ⟨vs, B17, hD17, hvl, hv3, P17⟩
            have Dp1 : D ≠ p := P16.ne nD
            refine ⟨rfl, _, rfl, by show 3 ≤ sizeLine; decide, fun b3 nb3 => ?_⟩
            obtain ⟨H18, s18, h18, e18⟩ := lay (o := .lst [.str "one", .str "two", .str "false"]) nb3
            rw [e18]
            refine ⟨p, b3, sts va3, _, rfl, SqL.of (hid_to (ni1 (P17.ne nb3)) h18), (fun z => nomatch z), by decide, by omega, P17.mono s18 (Nat.le_refl _), fun v H19 hv19 b19 P19 => ?_⟩
            obtain ⟨u, hu, rfl⟩ := mem_sts hv19
            have hD19 := bt_at b19 (ni1 Dp1) (s18 _ _ hD17)
            refine ⟨_, hD19, (by rw [sts_len, sizeLine_eq]; omega), vs ++ [u], ?_, ?_, ?_, ?_, ?_⟩
            · exact B17.trans ((bt_of s18).trans ((bt_weak (by simp) b19).trans (bt_upd (by simp))))
            · rw [upd_same]; unfold sts; rw [List.map_append]; rfl
            · rw [List.length_append, hvl]; rfl
            · intro v hv
              rcases List.mem_append.mp hv with h | h
              · exact hv3 v h
              · rw [List.mem_singleton.mp h]; exact hu
            · obtain ⟨x, y, z, e, r⟩ := P19
              exact ⟨x, y, z, by rw [upd_ne Dp1.symm]; exact e, r⟩
          · rintro H17 ⟨vs, B17, hD17, hvl, hv3, P17⟩
            have Dp1 : D ≠ p := P16.ne nD
            have nDx : ∀ {b : Addr} {o : HO}, H16 b = some o → b ≠ D := fun e => ne_of_none e nD
            have B1617 : ∀ {qs : List Addr}, p ∈ qs → Bt qs H16 H17 := fun {qs} hq b o e => by
              obtain ⟨e', nb⟩ := hid_in e
              refine hid_to nb (bt_at B17 ?_ e')
              intro mm
              simp only [List.mem_cons, List.not_mem_nil, or_false] at mm
              rcases mm with rfl | rfl
              · exact nb hq
              · exact nDx e' rfl
            have B1517 : Bt [p, tA', eA] H15 H17 := (bt3 b16).trans (B1617 (by simp))
            have B1117 := B15.trans B1517
            have hT16 := bt_at b16 (ni1 tp) hT15
            have hE16 := bt_at b16 (ni1 ep) hE15
            have hT17 := bt_at B17 (by simp [tp, nDx hT16]) hT16
            have hE17 := bt_at B17 (by simp [ep, nDx hE16]) hE16
            have hC17 := bt_at B1117 (ni3 cp nCt nCe) hC11
            have Dn3 : D ∉ [p, tA', eA] := ni3 Dp1 (nDx hT16).symm (nDx hE16).symm
            have v2l : vs.length ≤ 2 := by omega
            have okx : PyData.strOk x = true := ok8 x (f8 x hx)
            have lts : ts.length ≤ 100 := by
              have := Paired.length hts
              omega
            have askok : ∀ f, f.Ok ls fx → OkS ((GD.mk ls fx cm []).asked f) := fun f hf => ⟨ok8 _ (f8 _ hf.x), fun v hv => by
              have e : v ∈ f.vals := by
                unfold GD.asked at hv
                dsimp only at hv
                split at hv
                · have hp := sort2_perm f.vals
                  exact hp.subset hv
                · exact hv
              exact ok3 v (hf.vals v e)⟩
            have oks : ∀ a ∈ fs.map (GD.mk ls fx cm []).asked, OkS a := fun a ha => by
              obtain ⟨f, hf, rfl⟩ := List.mem_map.mp ha
              exact askok f (hfo f hf)
            have fOk : ∀ kk en : Str, (kk = "value" ∨ kk = "fail") → (en = "one" ∨ en = "false") → Fact.Ok ls fx ⟨x, vs, kk, en⟩ := fun kk en h1 h2 => ⟨hx, ⟨kx, hkx, hvl⟩, hv3, h1, h2⟩
            have tail : ∀ (H18 : Hp) (kT : Addr) (l : List Str), Same H17 H18 → (GD.mk ls fx cm []).asked ⟨x, vs, "value", "one"⟩ = (x, l) →
                ((x, l) ∈ fs.map (GD.mk ls fx cm []).asked → frI K p m aN dL fA cA tA' eA o5 ls fx cm H11 (n + 90) (k + 1) [some (.ref p), some (.int m), some (.ref aN), some (.ref dL), some (.ref fA), o5, some (.str x), some (.ref cA), some (.ref tA'), some (.ref eA), some (.int (0 + (k : Int))), some (.ref D), some (.ref kT), o13, none] H18) ∧
                ((x, l) ∉ fs.map (GD.mk ls fx cm []).asked → ∀ (H' : Hp) (t : Addr) (kk en : Str) (s13' : Option V), Bt [p, tA', eA] H18 H' → H' tA' = some (.lst ((ts ++ [t]).map V.ref)) → H' eA = some (.lst ((ks ++ [kT]).map V.ref)) → FactAt (hid [p, tA', eA] H') ⟨x, vs, kk, en⟩ t →
                  DpAll K (hid [p, tA', eA] H') ((ks ++ [kT]).map V.ref) ((fs.map (GD.mk ls fx cm []).asked ++ [(x, l)]).map kd) → (kk = "value" ∨ kk = "fail") → (en = "one" ∨ en = "false") → PoolIs H' p (n + 90 + 5 * k + 1 + kx + 2) →
                  frI K p m aN dL fA cA tA' eA o5 ls fx cm H11 (n + 90) (k + 1) [some (.ref p), some (.int m), some (.ref aN), some (.ref dL), some (.ref fA), o5, some (.str x), some (.ref cA), some (.ref tA'), some (.ref eA), some (.int (0 + (k : Int))), some (.ref D), some (.ref kT), s13', none] H') := fun H18 kT l s18 hask => by
              refine ⟨fun _ => ⟨fs, ts, ks, _, _, _, _, _, rfl, B1117.trans (bt_of s18), s18 _ _ hT17, s18 _ _ hE17, Paired.mapP hts fun _ _ r => r.mono (B1517.trans (bt_of s18)), dps_mono (B1517.trans (bt_of s18)) hks, (by omega), hfo, hfd, hkl, P17.mono s18 (by omega)⟩, fun hnew H' t kk en s13' b' hT' hE' hf' hs' h1 h2 P' => ?_⟩
              have eq : (GD.mk ls fx cm []).asked ⟨x, vs, kk, en⟩ = (x, l) := hask
              refine ⟨fs ++ [⟨x, vs, kk, en⟩], ts ++ [t], ks ++ [kT], _, _, _, _, _, rfl, (B1117.trans (bt_of s18)).trans b', hT', hE', ?_, ?_, ?_, ?_, ?_, ?_, P'.mono (Same.refl _) (by omega)⟩
              · exact paired_app (Paired.mapP hts fun _ _ r => r.mono ((B1517.trans (bt_of s18)).trans b')) (.cons hf' .nil)
              · rw [List.map_append (f := (GD.mk ls fx cm []).asked)]
                show DpAll K _ _ ((fs.map (GD.mk ls fx cm []).asked ++ [(GD.mk ls fx cm []).asked ⟨x, vs, kk, en⟩]).map kd)
                rw [eq]
                exact hs'
              · rw [List.length_append]
                show fs.length + 1 ≤ k + 1
                omega
              · intro f hf
                rcases List.mem_append.mp hf with h | h
                · exact hfo f h
                · rw [List.mem_singleton.mp h]; exact fOk kk en h1 h2
              · rw [List.map_append, List.nodup_append]
                refine ⟨hfd, by simp, fun a ha b hb e => ?_⟩
                have hb' : b = (GD.mk ls fx cm []).asked ⟨x, vs, kk, en⟩ := List.mem_singleton.mp hb
                rw [hb', eq] at e
                rw [e] at ha
                exact hnew ha
              · rw [List.length_append, List.length_append, hkl]
                rfl
            refine ⟨_, rfl, _, rfl, _, rfl, cA, sts cm, rfl, .inl (SqL.of hC17), rfl, flat_sts cm, _, rfl, ?_⟩
            rw [if_neg Bool.false_ne_true, inV_sts]
            by_cases hxc : x ∈ cm
            · rw [decide_eq_true hxc]
              refine iteT ⟨_, rfl, D, vs, rfl, SqL.of hD17, by omega, fun ys q2 hperm hsrt nq2 => ?_⟩
              obtain ⟨H18, s18, h18, e18⟩ := lay (o := .lst (ys.map V.str)) nq2
              rw [e18]
              refine ⟨by show 2 ≤ sizeLine; decide, fun kT nkT => ?_⟩
              obtain ⟨H19, s19, h19, e19⟩ := lay (o := .tup [.str x, .ref q2]) nkT
              rw [e19]
              have ey : ys = sort2 vs := sort2_of hperm hsrt v2l hv3
              have s1719 := s18.trans s19
              have hask : (GD.mk ls fx cm []).asked ⟨x, vs, "value", "one"⟩ = (x, ys) := by
                rw [ey]
                show (x, if x ∈ cm then sort2 vs else vs) = (x, sort2 vs)
                rw [if_pos hxc]
              have q2n : q2 ∉ [p, tA', eA] := ni3 (P17.ne nq2) (ne_of_none hT17 nq2).symm (ne_of_none hE17 nq2).symm
              exact fact_tail (P17.mono s1719 (Nat.le_refl _)) (by omega) (s1719 _ _ hT17) (s1719 _ _ hE17) tp ep te lts (by omega) h19 (s19 _ _ h18) q2n (s1719 _ _ hD17) Dn3 (dps_mono (B1517.trans (bt_of s1719)) hks) oks
                ⟨okx, fun v hv => ok3 v (hv3 v (hperm.subset hv))⟩ (tail H19 kT ys s1719 hask).1 (tail H19 kT ys s1719 hask).2
            · rw [decide_eq_false hxc]
              refine iteF ⟨_, rfl, by show 2 ≤ sizeLine; decide, fun kT nkT => ?_⟩
              obtain ⟨H19, s19, h19, e19⟩ := lay (o := .tup [.str x, .ref D]) nkT
              rw [e19]
              have hask : (GD.mk ls fx cm []).asked ⟨x, vs, "value", "one"⟩ = (x, vs) := by
                show (x, if x ∈ cm then sort2 vs else vs) = (x, vs)
                rw [if_neg hxc]
              exact fact_tail (P17.mono s19 (Nat.le_refl _)) (by omega) (s19 _ _ hT17) (s19 _ _ hE17) tp ep te lts (by omega) h19 (s19 _ _ hD17) Dn3 (s19 _ _ hD17) Dn3 (dps_mono (B1517.trans (bt_of s19)) hks) oks
                ⟨okx, fun v hv => ok3 v (hv3 v hv)⟩ (tail H19 kT vs s19 hask).1 (tail H19 kT vs s19 hask).2
        · rintro σ H15 ⟨fs, ts, ks, o6, o10, o11, o12, o13, rfl, B15, hT15, hE15, hts, hks, hfl, hfo, hfd, hkl, P15⟩
          have hFx := bt_at B15 (ni3 nfp nFt nFe) hF11
          have hLx := bt_at B15 (ni3 ndp nLt nLe) hL11
          have hCx := bt_at B15 (ni3 cp nCt nCe) hC11
          have ntH : ∀ {b : Addr} {o : HO}, H b = some o → b ≠ p → b ∉ [p, tA', eA] := fun e np => by
            have e9 := bt_at B9' (ni1 np) e
            exact ni3 np (ne_of_none e9 ntA') (ne_of_none (s10 _ _ e9) neA)
          have B015 : Bt [p] H H15 := fun b o e => by
            obtain ⟨e', nb⟩ := hid_in e
            have np : b ≠ p := fun z => nb (by rw [z]; exact List.mem_cons_self)
            exact hid_to nb (bt_at B15 (ntH e' np) (s911 _ _ (bt_at B9' nb e')))
          refine ⟨_, rfl, by show 2 ≤ sizeLine; decide, fun t1 n1 => ?_⟩
          obtain ⟨G1, g1, k1, e1⟩ := lay (o := .tup [.str "letters", .ref dL]) n1
          rw [e1]
          refine ⟨_, rfl, by show 2 ≤ sizeLine; decide, fun t2 n2 => ?_⟩
          obtain ⟨G2, g2, k2, e2⟩ := lay (o := .tup [.str "fixed", .ref fA]) n2
          rw [e2]
          refine ⟨_, rfl, by show 2 ≤ sizeLine; decide, fun t3 n3 => ?_⟩
          obtain ⟨G3, g3, k3, e3⟩ := lay (o := .tup [.str "commuting", .ref cA]) n3
          rw [e3]
          refine ⟨_, rfl, by show 2 ≤ sizeLine; decide, fun t4 n4 => ?_⟩
          obtain ⟨G4, g4, k4, e4⟩ := lay (o := .tup [.str "facts", .ref tA']) n4
          rw [e4]
          refine ⟨by show 4 ≤ sizeLine; decide, fun tl ntl => ?_⟩
          obtain ⟨G5, g5, k5, e5⟩ := lay (o := .lst [.ref t1, .ref t2, .ref t3, .ref t4]) ntl
          rw [e5]
          refine ⟨tl, [t1, t2, t3, t4], [(.inr "letters", .ref dL), (.inr "fixed", .ref fA), (.inr "commuting", .ref cA), (.inr "facts", .ref tA')], rfl, SqL.of k5,
            .cons (SqT.of (g5 _ _ (g4 _ _ (g3 _ _ (g2 _ _ k1))))) (.cons (SqT.of (g5 _ _ (g4 _ _ (g3 _ _ k2)))) (.cons (SqT.of (g5 _ _ (g4 _ _ k3))) (.cons (SqT.of (g5 _ _ k4)) .nil))), fun g ng => ?_⟩
          obtain ⟨G6, g6, k6, e6⟩ := lay (o := .dK [(.inr "letters", .ref dL), (.inr "fixed", .ref fA), (.inr "commuting", .ref cA), (.inr "facts", .ref tA')]) ng
          have em : mergeK [] [((.inr "letters" : Key), V.ref dL), (.inr "fixed", .ref fA), (.inr "commuting", .ref cA), (.inr "facts", .ref tA')] = [(.inr "letters", .ref dL), (.inr "fixed", .ref fA), (.inr "commuting", .ref cA), (.inr "facts", .ref tA')] := by rfl
          show Q (.ref g) (upd G5 g (.dK (mergeK [] [((.inr "letters" : Key), V.ref dL), (.inr "fixed", .ref fA), (.inr "commuting", .ref cA), (.inr "facts", .ref tA')])))
          rw [em, e6]
          have s156 : Same H15 G6 := ((((g1.trans g2).trans g3).trans g4).trans g5).trans g6
          have gp : g ≠ p := (P15.mono ((((g1.trans g2).trans g3).trans g4).trans g5) (Nat.le_refl _)).ne ng
          refine q g ⟨ls, fx, cm, fs⟩ G6 (B015.trans (bt_of s156)) ⟨dL, fA, cA, tA', hid_to (ni1 gp) k6, hid_to (ni1 ndp) (s156 _ _ hLx), hid_to (ni1 nfp) (s156 _ _ hFx), hid_to (ni1 cp) (s156 _ _ hCx), ts, hid_to (ni1 tp) (s156 _ _ hT15), Paired.mapP hts fun _ _ r => r.mono ((hid_less (by simp)).trans (hid_same s156))⟩ ?_ (P15.mono s156 (by omega))
          refine ⟨?_, lnd, ?_, (show ls.length ≤ 8 by have := congrArg List.length hls; rw [List.length_map] at this; omega), har, ?_, hcm, hc2, (show fs.length ≤ 6 by omega), hfo, hfd⟩
          · intro e
            have : ls.length = 0 := by
              have e' : ls = [] := e
              rw [e']; rfl
            have := congrArg List.length hls
            rw [List.length_map] at this
            omega
          · intro q hq
            refine nsub q.1 ?_
            rw [← hls]
            exact List.mem_map.mpr ⟨q, hq, rfl⟩
          · show fx.Sublist (ls.map (·.1))
            rw [hls]
            exact hfx
    --END
end
end K28
set_option Elab.async false
set_option linter.all false
set_option autoImplicit false
set_option maxRecDepth 100000
set_option maxHeartbeats 8000000
namespace GB
open PySem PySem.Spec L2
theorem merge_lkv : ∀ (b a : List (Str × Nat)), ((a ++ b).map (·.1)).Nodup → mergeK (lkv a) (lkv b) = lkv (a ++ b)
  | [], a, _ => by rw [List.append_nil]; rfl
  | q :: r, a, nd => by
    have nq : q.1 ∉ a.map (·.1) := by
      rw [List.map_append] at nd
      exact fun h => (List.nodup_append.mp nd).2.2 q.1 h q.1 (List.mem_cons_self) rfl
    show mergeK (putK (lkv a) (.inr q.1) (.int q.2)) (lkv r) = _
    have ep : putK (lkv a) (.inr q.1 : Key) (V.int q.2) = lkv (a ++ [q]) := by
      rw [putK_new _ (valV_no nq)]
      unfold lkv
      rw [List.map_append]
      rfl
    rw [ep, merge_lkv r (a ++ [q]) (by rw [List.append_assoc]; exact nd), List.append_assoc]
    rfl
theorem Paired.map_r27 {α β γ : Type} {R : α → γ → Prop} {f : β → γ} : ∀ {l : List α} {m : List β}, Paired (fun x y => R x (f y)) l m → Paired R l (m.map f)
  | _, _, .nil => .nil
  | _, _, .cons h t => .cons h (Paired.map_r27 t)
def nm11 : List Str := ["if", "and", "fail", "bind", "last", "x", "value", "use", "ifs", "an", "abcdefgh"]
end GB
namespace K28
open PySem PySem.Spec L2 GB
abbrev sWg : Stmt := topS 46
def wgN : List Str := ["_law_pool_here", "_law_names", "_law_letters", "_law_k"]
def spWg : Sp := fun vs H Q _ => ∃ (p : Addr) (n : Nat), vs = [.ref p] ∧ n + 500 ≤ 1000000 ∧ PoolIs H p n ∧
  ∀ g gd H', Bt [p] H H' → IsG (hid [p] H') g gd → gd.Wf → PoolIs H' p (n + 500) → Q (.ref g) H'
section
variable {P : Program} {w : World} {K : PySem.W.Frag} {mg : Str → Option Value} {base : Heap}
theorem scWg : FnScope wgN ["_law_pool_here"] (defScope sWg) := ⟨rfl, rfl, rfl, by decide +kernel, rfl, by decide +kernel, by decide +kernel⟩
theorem ok_wg {f : Addr} {fd : FuncData} (F : Fun K "_law_word_ground" "_law_word_ground" sWg f fd) (T : Bl mg) (TK : Fns P w K mg base "_law_take" 1 ["_law_pool_here", "_law_many"] spTake) (MX : Fns P w K mg base "_law_mixed" 2 ["_law_pool_here", "_law_things"] (spMixed K)) : FnOk P w K mg base CX0 3 f fd ["_law_pool_here"] spWg := by
  refine F.ok scWg (fun vs H Q E h => ?_) (fun cdv A outer s H vs Q E hr h => ?_)
  · obtain ⟨p, n, rfl, _⟩ := h
    rfl
  · obtain ⟨p, n, rfl, hn, hP, q⟩ := h
    refine ⟨_, pss_cons (ps_set (i := 1) scWg.nd rfl (.inr rfl) (pe_fn MX hr (by decide) rfl (pa_cons (pv 0) (pa_cons (pe_lst (pa_cons pe_str (pa_cons pe_str (pa_cons pe_str (pa_cons pe_str (pa_cons pe_str (pa_cons pe_str (pa_cons pe_str (pa_cons pe_str (pa_cons pe_str (pa_cons pe_str (pa_cons pe_str pa_nil)))))))))))) pa_nil))))
      (pss_cons (ps_set (i := 2) scWg.nd rfl (.inl rfl) (pe_callTy (call_dictP rfl) (by rfl) T.dict (by decide +kernel) (pa_cons (pe_lc (own := [("_law_k", 3)]) (g := gName 3) (tt := tYes) rfl scWg.nd (pi_range1 rfl T.range (pa_cons (pe_op op_add pe_int (pe_fn TK hr (by decide) rfl (pa_cons (pv 0) (pa_cons pe_int pa_nil)))) pa_nil)) (blkOk_by (own := [("_law_k", 3)]) (N := wgN) (sc := defScope sWg) (by decide +kernel)) (fun _ _ _ _ _ => pg_name (i := 3) scWg.nd rfl (.inl rfl)) (fun _ _ _ _ _ => pts_nil) (fun _ _ _ _ _ => pe_tup (pa_cons (pe_ix (r := rIxL K) ix_list (pv 1) (pv 3) (fun _ _ => rfl)) (pa_cons (pe_fn TK hr (by decide) rfl (pa_cons (pv 0) (pa_cons pe_int pa_nil))) pa_nil)))) pa_nil)))
      (pss_one (ps_ret (pe_callTy (call_dictP rfl) (by rfl) T.dict (by decide +kernel) (pa_cons (pe_lst (pa_cons (pe_tup (pa_cons pe_str (pa_cons (pv 2) pa_nil))) (pa_cons (pe_tup (pa_cons pe_str (pa_cons (pe_lst pa_nil) pa_nil))) (pa_cons (pe_tup (pa_cons pe_str (pa_cons (pe_lst pa_nil) pa_nil))) (pa_cons (pe_tup (pa_cons pe_str (pa_cons (pe_lst pa_nil) pa_nil))) pa_nil))))) pa_nil))))), ?_⟩
    refine ⟨_, rfl, by show 11 ≤ sizeLine; decide, fun a8 n8 => ?_⟩
    obtain ⟨H1, s1, h1, e1⟩ := lay (o := .lst [.str "if", .str "and", .str "fail", .str "bind", .str "last", .str "x", .str "value", .str "use", .str "ifs", .str "an", .str "abcdefgh"]) n8
    rw [e1]
    have P1 := hP.mono s1 (Nat.le_refl _)
    have na8 := hP.ne n8
    refine ⟨p, a8, sts nm11, n, rfl, SqL.of (hid_to (ni1 na8) h1), by decide, by omega, P1, fun qa ys H2 hperm nqa b2 hqa P2 => ?_⟩
    obtain ⟨ns, rfl, hp⟩ := sts_perm hperm
    have nqp : qa ≠ p := P1.ne nqa
    have nsl : ns.length = 11 := hp.length_eq
    have nnd : ns.Nodup := hp.nodup_iff.mpr (by decide)
    have nA : ∀ x ∈ ns, x ∈ nmA := fun x hx => (show ∀ y ∈ nm11, y ∈ nmA by decide) x (hp.subset hx)
    have B02 : Bt [p] H H2 := (bt_of s1).trans b2
    refine ⟨_, rfl, p, 4, n + 60, rfl, by decide, by decide, by omega, P2, fun r H3 hr3 b3 P3 => ?_⟩
    refine ⟨_, _, rfl, rfl, ?_⟩
    have hr4 : r < 4 := by have := hr3; omega
    have ej : (1 : Int) + (r : Int) = ((1 + r : Nat) : Int) := by omega
    refine ⟨_, rfl, by omega, by omega, fun D nD => ?_⟩
    rw [ej]
    have Dp1 : D ≠ p := P3.ne nD
    have hqa3 := bt_at b3 (ni1 nqp) hqa
    have B03 : Bt [p] H H3 := B02.trans b3
    have nDH : ∀ b o, H b = some o → b ≠ p → b ≠ D := fun b o e hb => ne_of_none (bt_at B03 (ni1 hb) e) nD
    have qD : qa ≠ D := ne_of_none hqa3 nD
    refine lc_it (n := 1 + r) walk_range (fun i H' => ∃ (ls : List (Str × Nat)) (ts : List Addr), ls.map (·.1) = ns.take i ∧ (∀ q ∈ ls, q.2 ≤ 2) ∧ H' D = some (.lst (ts.map V.ref)) ∧ Paired (fun t (q : Str × Nat) => SqT K (hid [p, D] H') t [.str q.1, .int (q.2 : Int)]) ts ls ∧ Bt [p] H H' ∧ H' qa = some (.lst (sts ns)) ∧ PoolIs H' p (n + 61 + i)) ⟨[], [], rfl, (fun q h => nomatch h), upd_same, .nil, B03.trans (bt_of (same_new nD)), by rw [upd_ne qD]; exact hqa3, P3.mono (same_new nD) (by omega)⟩ (fun _ _ _ _ => trivial) ?_ ?_
    · rintro i x H4 H4' hi ⟨ls, ts, hls, har, hD, hts, B4, hq4, P4⟩ ⟨rfl, rfl⟩
      refine ⟨rfl, ?_⟩
      have hin : i < ns.length := by omega
      have hni : ns[i]? = some ns[i] := List.getElem?_eq_getElem hin
      refine ⟨_, rfl, _, rfl, qa, _, _, .str ns[i], rfl, rfl, SqL.of hq4, (by rw [Int.zero_add]; exact atI_nat (by unfold sts; rw [List.getElem?_map, hni]; rfl)), _, rfl, p, 3, _, rfl, by decide, by decide, by omega, P4, fun r4 H5 hr5 b5 P5 => ?_⟩
      refine ⟨by show 2 ≤ sizeLine; decide, fun t nt => ?_⟩
      obtain ⟨H6, s6, h6, e6⟩ := lay (o := .tup [.str ns[i], .int (r4 : Int)]) nt
      rw [e6]
      have hD5 := bt_at b5 (ni1 Dp1) hD
      have lts : ts.length = ls.length := Paired.length hts
      have lls : ls.length ≤ i := by
        have := congrArg List.length hls
        rw [List.length_map, List.length_take] at this
        omega
      have tD : t ≠ D := fun e => by rw [e, hD5] at nt; cases nt
      have tp : t ≠ p := P5.ne nt
      refine ⟨_, s6 _ _ hD5, by rw [List.length_map, sizeLine_eq]; omega, ls ++ [(ns[i], r4)], ts ++ [t], ?_, ?_, ?_, ?_, ?_, ?_, ?_⟩
      · rw [List.map_append, hls, take_at hni]; rfl
      · intro q hq
        rcases List.mem_append.mp hq with h | h
        · exact har q h
        · rw [List.mem_singleton.mp h]; have := hr5; show r4 ≤ 2; omega
      · rw [upd_same, List.map_append]; rfl
      · have bb : Bt [p, D] H4' H6 := (bt_weak (by simp) b5).trans (bt_of s6)
        have bu : Bt [p, D] H6 (upd H6 D (.lst (ts.map V.ref ++ [.ref t]))) := bt_upd (by simp)
        refine paired_app (Paired.mapP hts fun _ _ h => Same.seqT (bb.trans bu) h) (.cons ?_ .nil)
        exact Same.seqT bu (SqT.of (hid_to (by simp [tp, tD]) h6))
      · refine fun b o e => ?_
        obtain ⟨e1, m⟩ := hid_in e
        have bD := nDH b o e1 (fun z => m (by rw [z]; simp))
        obtain ⟨e2, _⟩ := hid_in (((B4.trans b5).trans (bt_of s6)) b o e)
        exact hid_to m (by rw [upd_ne bD]; exact e2)
      · rw [upd_ne qD]; exact s6 _ _ (bt_at b5 (ni1 nqp) hq4)
      · obtain ⟨x, y, z, e, pr⟩ := P5.mono s6 (Nat.le_refl _)
        exact ⟨x, y, z, by rw [upd_ne Dp1.symm]; exact e, pr.1, pr.2.1, pr.2.2.1, pr.2.2.2.1, by omega⟩
    · rintro H4 ⟨ls, ts, hls, har, hD, hts, B4, hq4, P4⟩
      have lns : ls.length = 1 + r := by
        have := congrArg List.length hls
        rw [List.length_map, List.length_take] at this
        omega
      have lnd : (ls.map (·.1)).Nodup := by rw [hls]; exact nnd.sublist (List.take_sublist _ _)
      refine ⟨D, ts, lkv ls, rfl, SqL.of hD, GB.Paired.map_r27 (Paired.mapP hts fun _ _ h => Same.seqT (hid_low _ _) h), fun dL ndL => ?_⟩
      have em : mergeK [] (lkv ls) = lkv ls := merge_lkv ls [] (by rw [List.nil_append]; exact lnd)
      rw [em]
      obtain ⟨H5, s5, h5, e5⟩ := lay (o := .dK (lkv ls)) ndL
      rw [e5]
      have P5 := P4.mono s5 (Nat.le_refl _)
      have pdL : dL ≠ p := P4.ne ndL
      refine ⟨_, rfl, by show 2 ≤ sizeLine; decide, fun t1 nt1 => ?_⟩
      obtain ⟨G1, g1, k1, z1⟩ := lay (o := .tup [.str "letters", .ref dL]) nt1
      rw [z1]
      refine ⟨by show 0 ≤ sizeLine; decide, fun fA nfA => ?_⟩
      obtain ⟨G2, g2, k2, z2⟩ := lay (o := .lst []) nfA
      rw [z2]
      refine ⟨by show 2 ≤ sizeLine; decide, fun t2 nt2 => ?_⟩
      obtain ⟨G3, g3, k3, z3⟩ := lay (o := .tup [.str "fixed", .ref fA]) nt2
      rw [z3]
      refine ⟨by show 0 ≤ sizeLine; decide, fun cA ncA => ?_⟩
      obtain ⟨G4, g4, k4, z4⟩ := lay (o := .lst []) ncA
      rw [z4]
      refine ⟨by show 2 ≤ sizeLine; decide, fun t3 nt3 => ?_⟩
      obtain ⟨G5, g5, k5, z5⟩ := lay (o := .tup [.str "commuting", .ref cA]) nt3
      rw [z5]
      refine ⟨by show 0 ≤ sizeLine; decide, fun tA ntA => ?_⟩
      obtain ⟨G6, g6, k6, z6⟩ := lay (o := .lst []) ntA
      rw [z6]
      refine ⟨by show 2 ≤ sizeLine; decide, fun t4 nt4 => ?_⟩
      obtain ⟨G7, g7, k7, z7⟩ := lay (o := .tup [.str "facts", .ref tA]) nt4
      rw [z7]
      refine ⟨by show 4 ≤ sizeLine; decide, fun tl ntl => ?_⟩
      obtain ⟨G8, g8, k8, z8⟩ := lay (o := .lst [.ref t1, .ref t2, .ref t3, .ref t4]) ntl
      rw [z8]
      have u57 : Same G4 G8 := ((g5.trans g6).trans g7).trans g8
      have u28 : Same G2 G8 := (g3.trans g4).trans u57
      refine ⟨tl, [t1, t2, t3, t4], [(.inr "letters", .ref dL), (.inr "fixed", .ref fA), (.inr "commuting", .ref cA), (.inr "facts", .ref tA)], rfl, SqL.of k8,
        .cons (SqT.of (u28 _ _ (g2 _ _ k1))) (.cons (SqT.of ((g4.trans u57) _ _ k3)) (.cons (SqT.of (((g6.trans g7).trans g8) _ _ k5)) (.cons (SqT.of (g8 _ _ k7)) .nil))), fun g ng => ?_⟩
      obtain ⟨G9, g9, k9, z9⟩ := lay (o := .dK [(.inr "letters", .ref dL), (.inr "fixed", .ref fA), (.inr "commuting", .ref cA), (.inr "facts", .ref tA)]) ng
      have em2 : mergeK [] [((.inr "letters" : Key), V.ref dL), (.inr "fixed", .ref fA), (.inr "commuting", .ref cA), (.inr "facts", .ref tA)] = [(.inr "letters", .ref dL), (.inr "fixed", .ref fA), (.inr "commuting", .ref cA), (.inr "facts", .ref tA)] := by rfl
      show Q (.ref g) (upd G8 g (.dK (mergeK [] [((.inr "letters" : Key), V.ref dL), (.inr "fixed", .ref fA), (.inr "commuting", .ref cA), (.inr "facts", .ref tA)])))
      rw [em2, z9]
      have w59 : Same H5 G9 := ((g1.trans g2).trans (u28)).trans g9
      have P9 := P5.mono w59 (Nat.le_refl _)
      have P1' := P5.mono g1 (Nat.le_refl _)
      have P3' := P1'.mono (g2.trans g3) (Nat.le_refl _)
      have P5' := P3'.mono (g4.trans g5) (Nat.le_refl _)
      have P8' := P5'.mono ((g6.trans g7).trans g8) (Nat.le_refl _)
      refine q g ⟨ls, [], [], []⟩ G9 (B4.trans (bt_of (s5.trans w59))) ⟨dL, fA, cA, tA, hid_to (ni1 (P8'.ne ng)) k9, hid_to (ni1 pdL) (w59 _ _ h5), hid_to (ni1 (P1'.ne nfA)) ((u28.trans g9) _ _ k2), hid_to (ni1 (P3'.ne ncA)) ((u57.trans g9) _ _ k4), [], hid_to (ni1 (P5'.ne ntA)) (((g7.trans g8).trans g9) _ _ k6), .nil⟩ ?_ (P9.mono (Same.refl _) (by omega))
      refine ⟨?_, lnd, ?_, ?_, har, List.nil_sublist _, List.nil_sublist _, (fun x h => nomatch h), Nat.zero_le _, (fun f h => nomatch h), .nil⟩
      · intro e
        have e' : ls = [] := e
        rw [e'] at lns
        simp at lns
        omega
      · intro q hq
        refine nA q.1 (List.mem_of_mem_take (i := 1 + r) ?_)
        rw [← hls]
        exact List.mem_map.mpr ⟨q, hq, rfl⟩
      · show ls.length ≤ 8
        omega
end
end K28
set_option Elab.async false
set_option linter.all false
set_option maxRecDepth 100000
set_option maxHeartbeats 8000000
/-! A dict comprehension whose keys are texts, or tuples of texts. -/
namespace DictT
open PySem PySem.Spec PyProof.Rows L2
/-- what its reading asks: the new dict is o0 first -/
def tDcT (o0 : HO) (wi : TI) (g : TG) (tt : TT) (tk tv : TE) (vs : List Nat) : TE := fun σ H Q => wi σ H fun J H1 => ∀ D, H1 D = none → ∃ Wv : Nat → Nat → Hp → Prop, (∃ m, Wv 0 m (upd H1 D o0)) ∧ ∀ i m H, Wv i m H →
  (J.stop i H ∧ Q (.ref D) H) ∨ (J.go i H ∧ ∃ Nx : Hp → Prop, (∀ H', Nx H' → ∃ m', m' < m ∧ Wv (i + 1) m' H') ∧ ∀ x H', J.yld i H x H' → g x (wipe σ vs) H' fun σ2 H2 => wipe σ2 vs = wipe σ vs ∧ tt σ2 H2 fun b H3 =>
    if b = true then tk σ2 H3 fun y H4 => tv σ2 H4 fun z H5 => ∃ H6, DPut H5 D y z H6 ∧ Nx H6 else Nx H3)
section
variable {X : Cx} {pins : List (Addr × Obj)} {σ : L2.St} {H : Hp} {s : Shared}
theorem put_ok {D : Addr} {y v : V} {u r : Value} {H' : Hp} {Q : Unit → Shared → Prop} {E : Value → Shared → Prop} (hu : X.A.units + 1 < cLine) (I : Inv X pins σ H s) (g : DPut H D y v H') (ry : RelV y u) (rv : RelV v r)
    (h : ∀ t, Inv X pins σ H' t → Q () t) : wpAny (model X.prog X.w) X.A (dictSet D u r) Q E s := by
  rcases g with ⟨kvs, k, e, rfl, l, rfl⟩ | ⟨kvs, k, b, e, rfl, eb, l, rfl⟩
  · exact d_dictSet I e l ry rv h
  · obtain rfl : u = Value.ref b := ry
    obtain ⟨z1, z2, xs, rel, dd⟩ := dt_of I.hok e
    have lx := Paired.length rel
    refine wpAny_dictSet_heap (hsz := by rw [← lx]; exact z1) (by show X.A.units < cLine; omega) (key_of I.hok eb) dd fun h' dd' sb => h _ ?_
    obtain ⟨q, es, ep, g1, g2, g3, g4, _, g5⟩ := dd'
    refine d_write I (by rw [e]; trivial) sb ⟨q, g1⟩ ⟨by have := length_putK kvs k v; omega, z2, _, (rel.put k eb rv).keeps fun c ys ec => ?_, q, es, ep, g1, g2, g3, g4, g5⟩
    rw [upd_ne (ne_of ec e (fun z => nomatch z))]
    exact ec
end
section
variable {X : Cx}
/-- {} as the dict that is wanted -/
inductive Fresh : HO → Prop
  | k : Fresh (.dK [])
  | t : Fresh (.dT [])
theorem Fresh.ok {o0 : HO} (f : Fresh o0) {P : Program} {w : World} {H : Hp} (h : Heap) (hb : sysModules < h.objs.size) : ObjOk P w H (h.push { cls := .type "dict", data := .dict #[] }) h.objs.size o0 := by
  cases f with
  | k => exact dk_empty h hb
  | t => exact dt_empty h hb
theorem dcT_core {pins : List (Addr × Obj)} {s : Shared} {σ : L2.St} {H : Hp} {Q : VK} {o0 : HO} {kx vx tg iter : Expr} {ifs : List Expr} {sc : Scope} {own : List (Str × Nat)} {pos pos2 : Pos} {wi : TI} {g : TG} {tt : TT} {tk tv : TE} {use : Option (Value → Sem Unit)} {Qf : Value → Shared → Prop}
    (fr : Fresh o0) (hu : X.A.units + 1 < cLine) (hc : X.calm = true) (hN : X.N.Nodup) (I : Inv X pins σ H s) (hi : PI X tg iter wi) (ok : BlkOk X.N X.env.scope sc own)
    (hg : ∀ (t : Shared) (J : Hp) (C : Addr) (cl : List (Str × Addr)) (fp : List Addr), PG (X.blk t J sc (compEnvC sc cl C X.env) fp) tg g) (ht : ∀ (t : Shared) (J : Hp) (C : Addr) (cl : List (Str × Addr)) (fp : List Addr), PTs (X.blk t J sc (compEnvC sc cl C X.env) fp) ifs tt)
    (hk : ∀ (t : Shared) (J : Hp) (C : Addr) (cl : List (Str × Addr)) (fp : List Addr), PE (X.blk t J sc (compEnvC sc cl C X.env) fp) kx tk) (hv : ∀ (t : Shared) (J : Hp) (C : Addr) (cl : List (Str × Addr)) (fp : List Addr), PE (X.blk t J sc (compEnvC sc cl C X.env) fp) vx tv)
    (hfs : ∀ x, foldedSetIterable iter X.env x = pure x) (h : tDcT o0 wi g tt tk tv (own.map (·.2)) σ H Q)
    (done : ∀ D C t m J, Inv X pins σ J t → Q (.ref D) J → t.heap.Ns C m → FpOk X pins J C → compPost (model X.prog X.w) X.A X.xe use Qf (.ref D) C (.ok .next) t) :
    wpAny (model X.prog X.w) X.A (comprehension (.DictComp kx vx [⟨tg, iter, ifs, 0⟩] sc pos) sc X.env pos2 newDict false (eval iter X.env) use) Qf X.xe s := by
  have cap : ∀ y ∈ sc.names, y.2 = .free → ∃ c, X.env.cells.lookup y.1 = some c := fun y hy e => (ok.free y hy e).elim (fun k => I.ok.has _ (.inl k)) fun k => I.ok.has _ (.inr k)
  refine wpAny_comprehension_free (use := use) rfl hfs (closure_ok cap) ok.kind (fun y hy e => by rw [ok.uniq y hy, e]) (thn (hi.run pins s σ H _ I h) fun xv t1 hx => thn hx fun itv t2 h2 => ?_)
  obtain ⟨it, fp, tn, J, H2, e, I2, T, st2, f2, q⟩ := h2
  subst e
  refine wpAny_newObj_type (newEnv_comp ?_)
  generalize hD : t2.heap.objs.size = D
  have nD : H2 D = none := I2.hok.fresh (Nat.le_of_eq hD)
  obtain ⟨Wv, ⟨m0, w0⟩, turn⟩ := q D nD
  generalize ht3 : ({ t2 with heap := t2.heap.push { cls := .type "dict", data := .dict #[] } } : Shared) = t3
  have hp3 : t3.heap = t2.heap.push { cls := .type "dict", data := .dict #[] } := by rw [← ht3]
  have I3 : Inv X pins σ (upd H2 D o0) t3 := by
    rw [← ht3]
    refine I2.laid (t' := t2.toks) (fun b o e => Heap.get?_push_of_some _ e) (Nat.le_of_eq hD) ?_
    rw [← hD]
    exact fr.ok t2.heap I2.big
  have lt2 : ∀ b ∈ fp, b < t2.heap.objs.size := fun b hb => let ⟨_, e, _⟩ := T.obj _ _ st2 b hb; Heap.lt_size e
  have f3 : ∀ b ∈ fp, FpOk X pins (upd H2 D o0) b ∧ b < t3.heap.objs.size := fun b hb => by
    refine ⟨⟨?_, (f2 b hb).2⟩, by rw [hp3, Heap.size_push]; exact Nat.lt_succ_of_lt (lt2 b hb)⟩
    rw [upd_ne (by rw [← hD]; exact Nat.ne_of_lt (lt2 b hb))]
    exact (f2 b hb).1
  have st3 : tn 0 t3.heap := T.keep _ _ _ st2 fun b _ o e => by rw [hp3]; exact Heap.get?_push_of_some _ e
  have I4 := block_start I3 ok hN f3
  have pg := hg t3 (upd H2 D o0) t3.heap.objs.size (cellsFrom (t3.heap.objs.size + 1) sc.names (cloFrom X.env.cells sc.names [])) fp
  have pt := ht t3 (upd H2 D o0) t3.heap.objs.size (cellsFrom (t3.heap.objs.size + 1) sc.names (cloFrom X.env.cells sc.names [])) fp
  have pk := hk t3 (upd H2 D o0) t3.heap.objs.size (cellsFrom (t3.heap.objs.size + 1) sc.names (cloFrom X.env.cells sc.names [])) fp
  have pe := hv t3 (upd H2 D o0) t3.heap.objs.size (cellsFrom (t3.heap.objs.size + 1) sc.names (cloFrom X.env.cells sc.names [])) fp
  show codeAny _ _ (.compStart (.DictComp kx vx [⟨tg, iter, ifs, 0⟩] sc pos) 0 (.ref it) (.ref D) (compEnvC sc (cellsFrom (t3.heap.objs.size + 1) sc.names (cloFrom X.env.cells sc.names [])) t3.heap.objs.size X.env))
    (compPost (model X.prog X.w) X.A X.xe use Qf (.ref D) t3.heap.objs.size) { t3 with heap := pushCells (t3.heap.push { cls := .type "dict", data := .dict #[] }) sc.names }
  have nfp : ∀ b ∈ fp, (upd H2 D o0) b = none := fun b hb => (f3 b hb).1.1
  generalize hce : compEnvC sc (cellsFrom (t3.heap.objs.size + 1) sc.names (cloFrom X.env.cells sc.names [])) t3.heap.objs.size X.env = ce at I4 pg pt pk pe ⊢
  have cL : ce.locals = t3.heap.objs.size := by rw [← hce]; rfl
  generalize hH3 : upd H2 D o0 = H3 at I3 I4 pg pt pk pe w0 nfp f3
  generalize ht4 : ({ t3 with heap := pushCells (t3.heap.push { cls := .type "dict", data := .dict #[] }) sc.names } : Shared) = t4 at I4 ⊢
  have st4 : tn 0 t4.heap := T.keep _ _ _ st3 fun b _ o e => by rw [← ht4]; exact pushCells_keeps _ _ _ _ (Heap.get?_push_of_some _ e)
  have stat : ∀ {τ : L2.St} {J' : Hp} {t : Shared}, Inv (X.blk t3 H3 sc ce fp) [] τ J' t → (∀ b ∈ fp, J' b = none) → ∀ b ∈ fp, FpOk (X.blk t3 H3 sc ce fp) [] J' b := fun {τ J' t} I' hn b hb =>
    ⟨hn b hb, (I'.ok.exf b hb).1, I'.ok.exfs b hb, .inl hb, fun x c e => (I'.ok.exf b hb).2 x c e, fun p hp => absurd (show p ∈ ([] : List (Addr × Obj)) ++ [] from hp) (by simp)⟩
  have loop : codeAny (model X.prog X.w) X.A (.compLoop (.DictComp kx vx [⟨tg, iter, ifs, 0⟩] sc pos) 0 (.ref it) (.ref D) ce) (compPost (model X.prog X.w) X.A X.xe use Qf (.ref D) t3.heap.objs.size) t4 := by
    refine compLoop_anyD (fun n t => ∃ i J', Inv (X.blk t3 H3 sc ce fp) [] (wipe σ (own.map (·.2))) J' t ∧ tn i t.heap ∧ (∀ b ∈ fp, J' b = none) ∧ Wv i n J') ?_ m0 ⟨0, H3, I4, st4, nfp, w0⟩
    rintro n t5 ⟨i, H5, I5, st5, n5, w5⟩
    rcases turn i n H5 w5 with ⟨stop, qq⟩ | ⟨go, Nx, hNx, step⟩
    · refine thnF (T.done (X.blk t3 H3 sc ce fp) rfl rfl rfl hc i [] t5 _ H5 (fun _ _ => False) I5 (stat I5 n5) st5 stop) fun r t6 ⟨hr, I6⟩ => ?_
      subst hr
      have I7 : Inv X pins σ H5 t6 := I3.call' (ch := fp) I6.os I6.base I6.hok I6.bare fun b hb => ⟨(f3 b hb).1.2.2.2.1, (f3 b hb).1.2.1, (f3 b hb).1.2.2.2.2.1, (f3 b hb).1.2.2.2.2.2⟩
      have nC : H5 ce.locals = none := I6.free
      obtain ⟨m, hn, _⟩ := I6.loc
      have hn : t6.heap.Ns ce.locals m := hn
      rw [cL] at nC hn
      exact done D t3.heap.objs.size t6 m H5 I7 qq hn (I3.fpOk (Nat.le_refl _) nC)
    · refine thnF (T.item (X.blk t3 H3 sc ce fp) rfl rfl rfl hc i [] t5 _ H5 (fun _ _ => False) I5 (stat I5 n5) st5 go) fun r t6 ⟨u, hr, h6⟩ => ?_
      subst hr
      refine thnF h6 fun _ t7 ⟨x, H7, I7, r7, y7, st7, n7⟩ => ?_
      have I7p := I7.pinned (stat I7 n7) (T.obj _ _ st7)
      refine thnF (pg.run _ t7 _ H7 x u _ I7p r7 (step x H7 y7)) fun _ t8 ⟨σ8, H8, I8, hw8, q8⟩ => ?_
      refine thnF (pt.run _ t8 σ8 H8 _ I8 q8) fun b t9 ⟨H9, I9, q9⟩ => ?_
      have fin : ∀ {t : Shared} {J' : Hp}, Inv (X.blk t3 H3 sc ce fp) ([] ++ pinsAt fp t7.heap) σ8 J' t → Nx J' → ∃ m, m < n ∧ ∃ i J', Inv (X.blk t3 H3 sc ce fp) [] (wipe σ (own.map (·.2))) J' t ∧ tn i t.heap ∧ (∀ b ∈ fp, J' b = none) ∧ Wv i m J' := fun {t J'} I' nx => by
        obtain ⟨m', hm, w'⟩ := hNx J' nx
        have pin' : ∀ b ∈ fp, ∀ o, t7.heap.get? b = some o → t.heap.get? b = some o ∧ J' b = none := fun b hb o e =>
          let z := I'.pin (b, o) (List.mem_append_right _ (List.mem_append_right _ (mem_pinsAt hb e)))
          ⟨z.1, z.2.1⟩
        have hl : (wipe σ (own.map (·.2))).length = σ8.length := by rw [← hw8, wipe_length]
        refine ⟨m', hm, i + 1, J', (I'.unpinned (pins := [])).weak hl (fun j v e => by rw [← hw8] at e; exact (wipe_some e).1), T.keep _ _ _ st7 fun b hb o e => (pin' b hb o e).1, fun b hb => ?_, w'⟩
        obtain ⟨o, e, _⟩ := T.obj _ _ st7 b hb
        exact (pin' b hb o e).2
      cases b with
      | false =>
        simp only [Bool.false_eq_true, if_false] at q9 ⊢
        exact fin I9 q9
      | true =>
        simp only [if_true] at q9 ⊢
        refine thnF (pk.run _ t9 σ8 H9 _ I9 q9) fun kv t10 ⟨yk, H10, I10, r10, q10⟩ => ?_
        refine thnF (pe.run _ t10 σ8 H10 _ I10 q10) fun vv t11 ⟨yv, H11, I11, r11, H12, dp, nx⟩ => ?_
        exact put_ok (X := X.blk t3 H3 sc ce fp) hu I11 dp r10 r11 fun t12 I12 => fin I12 nx
  exact codeAny_compStart_dict loop (T.self X.A 0 _ _ _ st4 loop)
/-- {..: ..} as a value -/
theorem pe_dcT {o0 : HO} (fr : Fresh o0) {kx vx tg iter : Expr} {ifs : List Expr} {sc : Scope} {own : List (Str × Nat)} {pos : Pos} {wi : TI} {g : TG} {tt : TT} {tk tv : TE} (hu : X.A.units + 1 < cLine) (hc : X.calm = true) (hN : X.N.Nodup) (hi : PI X tg iter wi) (ok : BlkOk X.N X.env.scope sc own)
    (hg : ∀ (t : Shared) (J : Hp) (C : Addr) (cl : List (Str × Addr)) (fp : List Addr), PG (X.blk t J sc (compEnvC sc cl C X.env) fp) tg g) (ht : ∀ (t : Shared) (J : Hp) (C : Addr) (cl : List (Str × Addr)) (fp : List Addr), PTs (X.blk t J sc (compEnvC sc cl C X.env) fp) ifs tt)
    (hk : ∀ (t : Shared) (J : Hp) (C : Addr) (cl : List (Str × Addr)) (fp : List Addr), PE (X.blk t J sc (compEnvC sc cl C X.env) fp) kx tk) (hv : ∀ (t : Shared) (J : Hp) (C : Addr) (cl : List (Str × Addr)) (fp : List Addr), PE (X.blk t J sc (compEnvC sc cl C X.env) fp) vx tv)
    (hfs : ∀ x, foldedSetIterable iter X.env x = pure x := by intro _; rfl) : PE X (.DictComp kx vx [⟨tg, iter, ifs, 0⟩] sc pos) (tDcT o0 wi g tt tk tv (own.map (·.2))) := by
  refine ⟨fun pins s σ H Q I h => ?_⟩
  rw [arm_eval_DictComp]
  refine dcT_core fr hu hc hN I hi ok hg ht hk hv hfs h fun D C t m J I' q hn f => ⟨m, hn, fun h2 sb => ?_⟩
  obtain ⟨f0, f1, f2, f3, f4, f5⟩ := f
  exact ⟨.ref D, J, I'.turned (t' := t.toks) (fun b o hb e => (sb.2 b hb).trans e) f0 f1 f3 f4 f5, rfl, q⟩
/-- its loop over what a walk gives -/
theorem dc_it {J : It} {n : Nat} {G : Hp → Prop} {Y : Nat → Hp → V → Hp → Prop} (w : Walk J n G Y) {g : TG} {tt : TT} {tk tv : TE} {vs : List Nat} {σ : L2.St} {H1 : Hp} {D : Addr} {o0 : HO} {Qd : Hp → Prop} (Pv : Nat → Hp → Prop) (h0 : Pv 0 (upd H1 D o0)) (hG : ∀ i H, i ≤ n → Pv i H → G H)
    (hs : ∀ i x H H', i < n → Pv i H → Y i H x H' → g x (wipe σ vs) H' fun σ2 H2 => wipe σ2 vs = wipe σ vs ∧ tt σ2 H2 fun b H3 => if b = true then tk σ2 H3 fun y H4 => tv σ2 H4 fun z H5 => ∃ H6, DPut H5 D y z H6 ∧ Pv (i + 1) H6 else Pv (i + 1) H3) (hd : ∀ H, Pv n H → Qd H) :
    ∃ Wv : Nat → Nat → Hp → Prop, (∃ m, Wv 0 m (upd H1 D o0)) ∧ ∀ i m H, Wv i m H → (J.stop i H ∧ Qd H) ∨ (J.go i H ∧ ∃ Nx : Hp → Prop, (∀ H', Nx H' → ∃ m', m' < m ∧ Wv (i + 1) m' H') ∧ ∀ x H', J.yld i H x H' → g x (wipe σ vs) H' fun σ2 H2 =>
      wipe σ2 vs = wipe σ vs ∧ tt σ2 H2 fun b H3 => if b = true then tk σ2 H3 fun y H4 => tv σ2 H4 fun z H5 => ∃ H6, DPut H5 D y z H6 ∧ Nx H6 else Nx H3) := by
  refine ⟨fun i m H => m = n - i ∧ i ≤ n ∧ Pv i H, ⟨n, by simp, Nat.zero_le _, h0⟩, ?_⟩
  rintro i m H ⟨rfl, hi, p⟩
  rcases Nat.lt_or_ge i n with lt | ge
  · exact .inr ⟨w.goes i H lt (hG i H hi p), Pv (i + 1), fun H' p' => ⟨n - (i + 1), by omega, rfl, lt, p'⟩, fun x H' y => hs i x H H' lt p (w.yields i H x H' lt (hG i H hi p) y)⟩
  · obtain rfl : i = n := by omega
    exact .inl ⟨w.stops H (hG i H hi p), hd H p⟩
end
end DictT
set_option Elab.async false
set_option linter.all false
set_option maxRecDepth 100000
set_option maxHeartbeats 4000000
/-! Rules that the layer lacks: sorted of a tuple of texts. -/
namespace GB
open PySem PySem.Spec PyProof.Rows L2
section
variable {prog : Program} {w : World} {A : Around} {E : Value → Shared → Prop} {s : Shared}
theorem sorted_tup {l : Addr} {o : Obj} {items : Array Value} {n : Nat} {ss : List Str} {Q : Value → Shared → Prop} (ho : s.heap.get? l = some o) (hc : o.cls = .type "tuple") (hd : o.data = .seq items n) (hS : StrsAre items.toList ss) (h64 : items.toList.length < 64)
    (h : ∀ (hh : Heap) (a : Addr) (out : Array Value) (ep : Nat) (ss' : List Str), (∀ b u, s.heap.get? b = some u → hh.get? b = some u) → s.heap.get? a = none → hh.get? a = some (seqObj "list" out ep) → StrsAre out.toList ss' → ss'.Perm ss → sortedS ss' = true → Q (.ref a) { s with heap := hh }) :
    wpAny (model prog w) A (call (.builtin "sorted") [.ref l]) Q E s := by
  refine Calls.call_function_entry kind_sorted plain_sorted entry_sorted (args_sorted1 _) ?_
  unfold Builtin.«sorted»
  refine wpAny_bind (m := checkCount "sorted" 1 1 _) (wpAny_pure ?_)
  refine wpAny_bind (wpAny_collect_seq l (.inr rfl) ho hc hd (fun h1 k1 => ?_) (by rw [sizeLine_eq]; have e := Array.length_toList (xs := items); omega))
  refine wpAny_bind (wpAny_newList ?_)
  have hoL : (h1.push (seqObj "list" items.toList.toArray 0)).get? h1.objs.size = some (seqObj "list" items.toList.toArray 0) := Heap.get?_push_size _ rfl
  have lt : s.heap.get? h1.objs.size = none := by
    cases e : s.heap.get? h1.objs.size with
    | none => rfl
    | some u => exact absurd (Heap.lt_size (k1 _ _ e)) (Nat.lt_irrefl _)
  show wpAny _ _ _ _ _ { s with heap := h1.push (seqObj "list" items.toList.toArray 0) }
  refine wpAny_bind (wpAny_holding (wpAny_call_entry slot_list_sort ⟨_, hoL, rfl⟩ entry_list_sort (list_sort_treeK strKind_oneLt hoL hS.keysOf (fun v₁ v₂ rest e => keyKind_strs (by rw [← e]; exact hS)) h64 fun st' a1 a2 => ⟨_, rfl, ?_⟩) (args_list_sort _)))
  obtain ⟨ss', z1, z2, z3⟩ := sorted_out_str hS a1 a2
  obtain ⟨ep, he⟩ := sortedHeap_at (vs := items.toList) (out := (arrOf st').map (·.2)) hoL
  refine wpAny_pure ⟨_, rfl, h _ _ _ ep ss' (fun b u hb => ?_) lt he z1 z2 z3⟩
  have hb1 := k1 b u hb
  have hl := Heap.lt_size hb1
  rw [sortedHeap_old (Nat.ne_of_lt hl) (by rw [size_push']; exact Nat.lt_succ_of_lt hl)]
  exact Heap.get?_push_of_some _ hb1
end
def rSortedTS (K : PySem.W.Frag) : List V → Hp → VK → Prop := fun vs H Q => ∃ (a : Addr) (xs : List Str), vs = [V.ref a] ∧ SqT K H a (sts xs) ∧ xs.length < 64 ∧ ∀ (ys : List Str) (p : Addr), ys.Perm xs → PyProof.Rows.sortedS ys = true → H p = none → Q (.ref p) (upd H p (.lst (sts ys)))
theorem cr_sortedTS {X : Cx} : CallR X (.builtin "sorted") (rSortedTS X.K) := by
  intro pins s σ H vs us Q I r h
  obtain ⟨a, xs, rfl, hs, h64, q⟩ := h
  obtain ⟨its, rv, ⟨o, ho, hc, n, hd⟩, _⟩ := I.tuple hs
  rw [Vals.ref1 r]
  have hlen0 := rv.length
  rw [sts_len] at hlen0
  have e1 : its.toArray.toList = its := rfl
  refine sorted_tup ho hc hd (ss := xs) (by rw [e1]; exact Vals.strs rv) (by rw [e1]; omega) fun hh b out ep ss' kk hb hob z1 z2 z3 => ?_
  have hn : H b = none := I.hok.gone hb
  have hz : (sts ss').length ≤ sizeLine := by rw [sts_len, z2.length_eq]; exact small64 h64
  exact ⟨.ref b, _, I.laidN (o := .lst (sts ss')) (t' := s.toks) kk hb hn ⟨hz, out.toList, ep, vals_of_strs z1, hob⟩, rfl, q ss' b z2 z3 hn⟩
end GB
set_option Elab.async false
set_option linter.all false
set_option autoImplicit false
set_option maxRecDepth 100000
set_option maxHeartbeats 8000000
/-! Rows of texts, and the loops of comprehensions with two walks. -/
namespace GB
open PySem PySem.Spec L2
/-- the row of texts stands at t -/
def RowAt (H : Hp) (row : List Str) (t : Addr) : Prop := H t = some (.tup (sts row))
def RowsAt (H : Hp) (rows : List (List Str)) (ts : List Addr) : Prop := Paired (RowAt H) rows ts
theorem RowsAt.mono {H H' : Hp} {rows : List (List Str)} {ts : List Addr} (s : Same H H') (h : RowsAt H rows ts) : RowsAt H' rows ts := Paired.mapP h fun _ _ r => s _ _ r
theorem RowsAt.app {H : Hp} {r1 r2 : List (List Str)} {t1 t2 : List Addr} (h1 : RowsAt H r1 t1) (h2 : RowsAt H r2 t2) : RowsAt H (r1 ++ r2) (t1 ++ t2) := paired_app h1 h2
theorem RowsAt.len {H : Hp} {rows : List (List Str)} {ts : List Addr} (h : RowsAt H rows ts) : rows.length = ts.length := Paired.length h
section
variable {J J1 : It} {n n1 : Nat} {G G1 : Hp → Prop} {Y Y1 : Nat → Hp → V → Hp → Prop} {g g1 : TG} {tt tt1 : TT} {te : TE} {vs vs1 : List Nat} {σ σ2 : L2.St} {D : Addr}
/-- the outer walk of a comprehension with two -/
theorem lc2_it (w : Walk J n G Y) {wi1 : TI} {H1 : Hp} {Qd : Hp → Prop} (Pv : Nat → Hp → Prop) (h0 : Pv 0 (upd H1 D (.lst []))) (hG : ∀ i H, i ≤ n → Pv i H → G H)
    (hs : ∀ i x H H', i < n → Pv i H → Y i H x H' → g x (wipe σ vs) H' fun σ2 H2 => wipe σ2 vs = wipe σ vs ∧ tt σ2 H2 fun b H3 =>
      if b = true then wi1 σ2 H3 fun J1 H4 => ∃ W1 : Nat → Nat → Hp → Prop, (∃ m, W1 0 m H4) ∧ ∀ j k H, W1 j k H → (J1.stop j H ∧ Pv (i + 1) H) ∨ (J1.go j H ∧ ∃ Nx1 : Hp → Prop, (∀ H', Nx1 H' → ∃ k', k' < k ∧ W1 (j + 1) k' H') ∧ ∀ x H', J1.yld j H x H' → g1 x (wipe σ2 vs1) H' fun σ3 H5 => wipe σ3 vs1 = wipe σ2 vs1 ∧ tt1 σ3 H5 fun b H6 =>
        if b = true then te σ3 H6 fun y H7 => ∃ acc, H7 D = some (.lst acc) ∧ acc.length < sizeLine ∧ Nx1 (upd H7 D (.lst (acc ++ [y]))) else Nx1 H6)
      else Pv (i + 1) H3) (hd : ∀ H, Pv n H → Qd H) :
    ∃ W : Nat → Nat → Hp → Prop, (∃ m, W 0 m (upd H1 D (.lst []))) ∧ ∀ i m H, W i m H →
      (J.stop i H ∧ Qd H) ∨ (J.go i H ∧ ∃ Nx : Hp → Prop, (∀ H', Nx H' → ∃ m', m' < m ∧ W (i + 1) m' H') ∧ ∀ x H', J.yld i H x H' → g x (wipe σ vs) H' fun σ2 H2 => wipe σ2 vs = wipe σ vs ∧ tt σ2 H2 fun b H3 =>
        if b = true then wi1 σ2 H3 fun J1 H4 => ∃ W1 : Nat → Nat → Hp → Prop, (∃ m, W1 0 m H4) ∧ ∀ j k H, W1 j k H →
          (J1.stop j H ∧ Nx H) ∨ (J1.go j H ∧ ∃ Nx1 : Hp → Prop, (∀ H', Nx1 H' → ∃ k', k' < k ∧ W1 (j + 1) k' H') ∧ ∀ x H', J1.yld j H x H' → g1 x (wipe σ2 vs1) H' fun σ3 H5 => wipe σ3 vs1 = wipe σ2 vs1 ∧ tt1 σ3 H5 fun b H6 =>
            if b = true then te σ3 H6 fun y H7 => ∃ acc, H7 D = some (.lst acc) ∧ acc.length < sizeLine ∧ Nx1 (upd H7 D (.lst (acc ++ [y]))) else Nx1 H6)
        else Nx H3) := by
  refine ⟨fun i m H => m = n - i ∧ i ≤ n ∧ Pv i H, ⟨n, by simp, Nat.zero_le _, h0⟩, ?_⟩
  rintro i m H ⟨rfl, hi, p⟩
  rcases Nat.lt_or_ge i n with lt | ge
  · exact .inr ⟨w.goes i H lt (hG i H hi p), Pv (i + 1), fun H' p' => ⟨n - (i + 1), by omega, rfl, lt, p'⟩, fun x H' y => hs i x H H' lt p (w.yields i H x H' lt (hG i H hi p) y)⟩
  · obtain rfl : i = n := by omega
    exact .inl ⟨w.stops H (hG i H hi p), hd H p⟩
/-- the inner one -/
theorem in_it (w : Walk J1 n1 G1 Y1) {H4 : Hp} {Nx : Hp → Prop} (Pw : Nat → Hp → Prop) (h0 : Pw 0 H4) (hG : ∀ i H, i ≤ n1 → Pw i H → G1 H)
    (hs : ∀ j x H H', j < n1 → Pw j H → Y1 j H x H' → g1 x (wipe σ2 vs1) H' fun σ3 H5 => wipe σ3 vs1 = wipe σ2 vs1 ∧ tt1 σ3 H5 fun b H6 => if b = true then te σ3 H6 fun y H7 => ∃ acc, H7 D = some (.lst acc) ∧ acc.length < sizeLine ∧ Pw (j + 1) (upd H7 D (.lst (acc ++ [y]))) else Pw (j + 1) H6)
    (hd : ∀ H, Pw n1 H → Nx H) :
    ∃ W1 : Nat → Nat → Hp → Prop, (∃ m, W1 0 m H4) ∧ ∀ j k H, W1 j k H → (J1.stop j H ∧ Nx H) ∨ (J1.go j H ∧ ∃ Nx1 : Hp → Prop, (∀ H', Nx1 H' → ∃ k', k' < k ∧ W1 (j + 1) k' H') ∧ ∀ x H', J1.yld j H x H' → g1 x (wipe σ2 vs1) H' fun σ3 H5 => wipe σ3 vs1 = wipe σ2 vs1 ∧ tt1 σ3 H5 fun b H6 =>
        if b = true then te σ3 H6 fun y H7 => ∃ acc, H7 D = some (.lst acc) ∧ acc.length < sizeLine ∧ Nx1 (upd H7 D (.lst (acc ++ [y]))) else Nx1 H6) := by
  refine ⟨fun i m H => m = n1 - i ∧ i ≤ n1 ∧ Pw i H, ⟨n1, by simp, Nat.zero_le _, h0⟩, ?_⟩
  rintro i m H ⟨rfl, hi, p⟩
  rcases Nat.lt_or_ge i n1 with lt | ge
  · exact .inr ⟨w.goes i H lt (hG i H hi p), Pw (i + 1), fun H' p' => ⟨n1 - (i + 1), by omega, rfl, lt, p'⟩, fun x H' y => hs i x H H' lt p (w.yields i H x H' lt (hG i H hi p) y)⟩
  · obtain rfl : i = n1 := by omega
    exact .inl ⟨w.stops H (hG i H hi p), hd H p⟩
end
/-- a new list of rows at D, over H -/
structure RowsIn (H H' : Hp) (D : Addr) (rows : List (List Str)) : Prop where
  nw : H D = none
  same : Same H H'
  ex : ∃ ts : List Addr, H' D = some (.lst (ts.map V.ref)) ∧ RowsAt (hid [D] H') rows ts
theorem RowsIn.start {H : Hp} {D : Addr} (n : H D = none) : RowsIn H (upd H D (.lst [])) D [] := ⟨n, same_new n, [], upd_same, .nil⟩
theorem RowsIn.next {H H2 H3 : Hp} {D : Addr} {rows : List (List Str)} (r : RowsIn H H2 D rows) (s : Same H2 H3) : RowsIn H H3 D rows := let ⟨n, s1, ts, h1, h2⟩ := r; ⟨n, s1.trans s, ts, s _ _ h1, h2.mono (hid_same s)⟩
/-- one row more -/
theorem RowsIn.moreB {H H2 H3 : Hp} {D : Addr} {rows : List (List Str)} {row : List Str} (r : RowsIn H H2 D rows) (s : Same H2 H3) (hl : rows.length ≤ 1000) {t : Addr} (nt : H3 t = none) :
    ∃ acc, (upd H3 t (.tup (sts row))) D = some (.lst acc) ∧ acc.length < sizeLine ∧ RowsIn H (upd (upd H3 t (.tup (sts row))) D (.lst (acc ++ [.ref t]))) D (rows ++ [row]) ∧ Bt [D] H2 (upd (upd H3 t (.tup (sts row))) D (.lst (acc ++ [.ref t]))) := by
  obtain ⟨n, s1, ts, h1, h2⟩ := r
  obtain ⟨H4, s4, h4, e4⟩ := lay (o := .tup (sts row)) nt
  rw [e4]
  have h14 := s4 _ _ (s _ _ h1)
  have tD : t ≠ D := ne_of h4 h14 (fun z => nomatch z)
  have B : Bt [D] H4 (upd H4 D (.lst (ts.map V.ref ++ [.ref t]))) := bt_upd (by simp)
  refine ⟨_, h14, ?_, ⟨n, fun c o e => ?_, ts ++ [t], by rw [upd_same, List.map_append]; rfl, ?_⟩, (bt_of (s.trans s4)).trans B⟩
  · rw [List.length_map, sizeLine_eq]
    have := h2.len
    omega
  · rw [upd_ne (ne_of_none e n)]
    exact s4 _ _ (s _ _ (s1 _ _ e))
  · exact RowsAt.app (h2.mono ((hid_same (s.trans s4)).trans B)) (.cons (B _ _ (hid_to (ni1 tD) h4)) .nil)
theorem RowsIn.more {H H2 H3 : Hp} {D : Addr} {rows : List (List Str)} {row : List Str} (r : RowsIn H H2 D rows) (s : Same H2 H3) (hl : rows.length ≤ 1000) {t : Addr} (nt : H3 t = none) :
    ∃ acc, (upd H3 t (.tup (sts row))) D = some (.lst acc) ∧ acc.length < sizeLine ∧ RowsIn H (upd (upd H3 t (.tup (sts row))) D (.lst (acc ++ [.ref t]))) D (rows ++ [row]) :=
  let ⟨acc, a, b, c, _⟩ := r.moreB s hl nt
  ⟨acc, a, b, c⟩
theorem RowsIn.done {H H' : Hp} {D : Addr} {rows : List (List Str)} (r : RowsIn H H' D rows) : ∃ ts : List Addr, H' D = some (.lst (ts.map V.ref)) ∧ RowsAt H' rows ts := let ⟨ts, a, b⟩ := r.ex; ⟨ts, a, b.mono (hid_low _ _)⟩
/-- a comprehension behind its walk -/
def tLcJ (J : It) (g : TG) (tt : TT) (te : TE) (vs : List Nat) : TE := fun σ H1 Q => ∀ D, H1 D = none → ∃ Wv : Nat → Nat → Hp → Prop, (∃ m, Wv 0 m (upd H1 D (.lst []))) ∧ ∀ i m H, Wv i m H →
  (J.stop i H ∧ Q (.ref D) H) ∨ (J.go i H ∧ ∃ Nx : Hp → Prop, (∀ H', Nx H' → ∃ m', m' < m ∧ Wv (i + 1) m' H') ∧ ∀ x H', J.yld i H x H' → g x (wipe σ vs) H' fun σ2 H2 => wipe σ2 vs = wipe σ vs ∧ tt σ2 H2 fun b H3 =>
    if b = true then te σ2 H3 fun y H4 => ∃ acc, H4 D = some (.lst acc) ∧ acc.length < sizeLine ∧ Nx (upd H4 D (.lst (acc ++ [y]))) else Nx H3)
theorem rows1J {K : PySem.W.Frag} {k : Nat} {wd : Str} {σ : L2.St} {H : Hp} {Q : VK} {a : Addr} {xs : List Str} {kb : Bool} {J : It} (WJ : Walk J (sts xs).length (fun H => SqV K (hid [] H) a (sts xs) kb) (YAt (sts xs))) (hk : k < σ.length) (hS : SqV K (hid [] H) a (sts xs) kb) (hl : xs.length ≤ 100)
    (q : ∀ D H', RowsIn H H' D (xs.map fun x => ([wd, x] : List Str)) → Q (.ref D) H') : tLcJ J (gName k) tYes (tTup (tCons (tC (.str wd)) (tCons (tVar k) tNil))) [k] σ H Q := by
  intro D nD
  have hA : SqA K (hid [] H) a (sts xs) := by
    cases kb with
    | true => exact .inl hS
    | false => exact .inr hS
  refine lc_it WJ (fun j H' => RowsIn H H' D ((xs.take j).map fun x => ([wd, x] : List Str))) (RowsIn.start nD) (fun j H' _ r => hS.mono (hid_same r.same)) ?_ ?_
  · rintro j x H2 H3 hj r ⟨rfl, hx⟩
    obtain ⟨sx, hsx, rfl⟩ := sts_at hx
    have hlen : ((xs.take j).map fun x => ([wd, x] : List Str)).length ≤ 1000 := by rw [List.length_map, List.length_take]; omega
    have hw : (wipe σ [k]).length = σ.length := wipe_length _ _
    refine ⟨?_, ?_⟩
    · simp [wipe, List.set_set]
    · refine ⟨V.str sx, by rw [List.getElem?_set_self (by rw [hw]; exact hk)], by show 2 ≤ sizeLine; decide, fun t nt => ?_⟩
      have := r.more (row := [wd, sx]) (Same.refl _) hlen nt
      rw [take_at hsx, List.map_append]
      exact this
  · intro H' r
    rw [List.take_of_length_le (by rw [sts_len]; exact Nat.le_refl _)] at r
    exact q D H' r
/-- [(word, x) for x in xs] -/
theorem rows1 {K : PySem.W.Frag} {i k : Nat} {wd : Str} {σ : L2.St} {H : Hp} {Q : VK} {a : Addr} {xs : List Str} (hi : σ[i]? = some (some (.ref a))) (hk : k < σ.length) (hS : SqL K H a (sts xs)) (hl : xs.length ≤ 100)
    (q : ∀ D H', RowsIn H H' D (xs.map fun x => ([wd, x] : List Str)) → Q (.ref D) H') : tLc (iSeqW K (tVar i)) (gName k) tYes (tTup (tCons (tC (.str wd)) (tCons (tVar k) tNil))) [k] σ H Q :=
  ⟨_, hi, a, sts xs, true, [], rfl, same_hid0.seq hS, fun J WJ => rows1J (kb := true) WJ hk (same_hid0.seq hS) hl q⟩
/-- the same as a statement -/
theorem rows1S {K : PySem.W.Frag} {i k m : Nat} {wd y : Str} {u : TS} {E : Ends} {σ : L2.St} {H : Hp} {a : Addr} {xs : List Str} (hi : σ[i]? = some (some (.ref a))) (hk : k < σ.length) (hS : SqL K H a (sts xs)) (hl : xs.length ≤ 100)
    (q : ∀ D H', RowsIn H H' D (xs.map fun x => ([wd, x] : List Str)) → u E (σ.set m (some (.ref D))) H') : tSeq (tAsg (tLc (iSeqW K (tVar i)) (gName k) tYes (tTup (tCons (tC (.str wd)) (tCons (tVar k) tNil))) ([(y, k)].map (·.2))) (gName m)) u E σ H := by
  unfold tSeq tAsg
  exact rows1 (Q := fun x H1 => gName m x σ H1 (u E)) hi hk hS hl fun D H' r => q D H' r
end GB
set_option Elab.async false
set_option linter.all false
set_option autoImplicit false
set_option maxRecDepth 100000
set_option maxHeartbeats 8000000
namespace K28
open PySem PySem.Spec L2 GB
abbrev sWd : Stmt := topS 48
/-- the words and what comes within their brackets -/
def wdP : List (Str × Str) := [("if", "ttt"), ("and", "tt"), ("or", "tt"), ("not", "t"), ("then", "tt"), ("try", "tt"), ("last", "tt"), ("bind", "ntt"), ("fail", "n")]
def wdK : List (Key × V) := wdP.map fun q => (.inr q.1, .str q.2)
def spWd : Sp := fun vs H Q _ => vs = [] ∧ ∀ a H', Same H H' → H' a = some (.dK wdK) → Q (.ref a) H'
section
variable {P : Program} {w : World} {K : PySem.W.Frag} {mg : Str → Option Value} {base : Heap}
theorem scWd : FnScope ["_law_words_here"] [] (defScope sWd) := ⟨rfl, rfl, rfl, by decide +kernel, rfl, by decide +kernel, by decide +kernel⟩
theorem merge_wd : mergeK [] wdK = wdK := by decide +kernel
theorem layW {a : Addr} {o : HO} {H J : Hp} (s : Same H J) (n : J a = none) : ∃ J', Same H J' ∧ J' a = some o ∧ upd J a o = J' ∧ Same J J' := by
  obtain ⟨J', s', h, e⟩ := lay (o := o) n
  exact ⟨J', s.trans s', h, e, s'⟩
theorem ok_wd {f : Addr} {fd : FuncData} (F : Fun K "_law_words" "_law_words" sWd f fd) (T : Bl mg) : FnOk P w K mg base CX0 1 f fd [] spWd := by
  refine F.ok scWd (fun vs H Q E h => ?_) (fun cdv A outer s H vs Q E hr h => ?_)
  · obtain ⟨rfl, _⟩ := h
    rfl
  · obtain ⟨rfl, q⟩ := h
    refine ⟨_, pss_cons (ps_set (i := 0) scWd.nd rfl (.inl rfl) (pe_lst (pa_cons (pe_tup (pa_cons pe_str (pa_cons pe_str pa_nil))) (pa_cons (pe_tup (pa_cons pe_str (pa_cons pe_str pa_nil))) (pa_cons (pe_tup (pa_cons pe_str (pa_cons pe_str pa_nil))) (pa_cons (pe_tup (pa_cons pe_str (pa_cons pe_str pa_nil))) (pa_cons (pe_tup (pa_cons pe_str (pa_cons pe_str pa_nil))) (pa_cons (pe_tup (pa_cons pe_str (pa_cons pe_str pa_nil))) (pa_cons (pe_tup (pa_cons pe_str (pa_cons pe_str pa_nil))) pa_nil)))))))))
      (pss_one (ps_ret (pe_callTy (call_dictP rfl) (by rfl) T.dict (by decide +kernel) (pa_cons (pe_op op_cat (pv 0) (pe_lst (pa_cons (pe_tup (pa_cons pe_str (pa_cons pe_str pa_nil))) (pa_cons (pe_tup (pa_cons pe_str (pa_cons pe_str pa_nil))) pa_nil)))) pa_nil)))), ?_⟩
    refine ⟨by show 2 ≤ sizeLine; decide, fun t1 n1 => ?_⟩
    obtain ⟨J1, s1, h1, e1⟩ := lay (o := .tup [.str "if", .str "ttt"]) n1
    rw [e1]
    refine ⟨by show 2 ≤ sizeLine; decide, fun t2 n2 => ?_⟩
    obtain ⟨J2, s2, h2, e2⟩ := lay (o := .tup [.str "and", .str "tt"]) n2
    rw [e2]
    refine ⟨by show 2 ≤ sizeLine; decide, fun t3 n3 => ?_⟩
    obtain ⟨J3, s3, h3, e3⟩ := lay (o := .tup [.str "or", .str "tt"]) n3
    rw [e3]
    refine ⟨by show 2 ≤ sizeLine; decide, fun t4 n4 => ?_⟩
    obtain ⟨J4, s4, h4, e4⟩ := lay (o := .tup [.str "not", .str "t"]) n4
    rw [e4]
    refine ⟨by show 2 ≤ sizeLine; decide, fun t5 n5 => ?_⟩
    obtain ⟨J5, s5, h5, e5⟩ := lay (o := .tup [.str "then", .str "tt"]) n5
    rw [e5]
    refine ⟨by show 2 ≤ sizeLine; decide, fun t6 n6 => ?_⟩
    obtain ⟨J6, s6, h6, e6⟩ := lay (o := .tup [.str "try", .str "tt"]) n6
    rw [e6]
    refine ⟨by show 2 ≤ sizeLine; decide, fun t7 n7 => ?_⟩
    obtain ⟨J7, s7, h7, e7⟩ := lay (o := .tup [.str "last", .str "tt"]) n7
    rw [e7]
    refine ⟨by show 7 ≤ sizeLine; decide, fun l nl => ?_⟩
    obtain ⟨J8, s8, h8, e8⟩ := lay (o := .lst [.ref t1, .ref t2, .ref t3, .ref t4, .ref t5, .ref t6, .ref t7]) nl
    rw [e8]
    refine ⟨_, rfl, by show 2 ≤ sizeLine; decide, fun t9 n9 => ?_⟩
    obtain ⟨J9, s9, h9, e9⟩ := lay (o := .tup [.str "bind", .str "ntt"]) n9
    rw [e9]
    refine ⟨by show 2 ≤ sizeLine; decide, fun t10 n10 => ?_⟩
    obtain ⟨J10, s10, h10, e10⟩ := lay (o := .tup [.str "fail", .str "n"]) n10
    rw [e10]
    refine ⟨by show 2 ≤ sizeLine; decide, fun l2 nl2 => ?_⟩
    obtain ⟨J11, s11, h11, e11⟩ := lay (o := .lst [.ref t9, .ref t10]) nl2
    rw [e11]
    refine ⟨l, l2, _, _, rfl, rfl, ((s9.trans s10).trans s11) _ _ h8, h11, by show 9 ≤ sizeLine; decide, fun l3 nl3 => ?_⟩
    obtain ⟨J12, s12, h12, e12⟩ := lay (o := .lst ([.ref t1, .ref t2, .ref t3, .ref t4, .ref t5, .ref t6, .ref t7] ++ [.ref t9, .ref t10])) nl3
    rw [e12]
    have S10 := s11.trans s12
    have S9 := s10.trans S10
    have S8 := s9.trans S9
    have S7 := s8.trans S8
    have S6 := s7.trans S7
    have S5 := s6.trans S6
    have S4 := s5.trans S5
    have S3 := s4.trans S4
    have S2 := s3.trans S3
    have S1 := s2.trans S2
    refine ⟨l3, [t1, t2, t3, t4, t5, t6, t7, t9, t10], wdK, rfl, SqL.of h12, ?_, fun a na => ?_⟩
    · exact .cons (SqT.of (S1 _ _ h1)) (.cons (SqT.of (S2 _ _ h2)) (.cons (SqT.of (S3 _ _ h3)) (.cons (SqT.of (S4 _ _ h4)) (.cons (SqT.of (S5 _ _ h5)) (.cons (SqT.of (S6 _ _ h6)) (.cons (SqT.of (S7 _ _ h7)) (.cons (SqT.of (S9 _ _ h9)) (.cons (SqT.of (S10 _ _ h10)) .nil))))))))
    · rw [merge_wd]
      obtain ⟨J13, s13, h13, e13⟩ := lay (o := .dK wdK) na
      rw [e13]
      exact q a J13 ((s1.trans S1).trans s13) h13
end
end K28
set_option Elab.async false
set_option linter.all false
set_option autoImplicit false
set_option maxRecDepth 100000
set_option maxHeartbeats 8000000
namespace GB
open PySem PySem.Spec L2
/-- a row as a tuple of texts -/
def rv (s : Row) : List V := s.reverse.map fun l => V.str (mkS l)
def rowD (s : Row) : PyData := .tuple (s.reverse.map fun l => PyData.str (mkS l))
theorem dp_strs {K : PySem.W.Frag} {H : Hp} : ∀ l : Row, DpAll K H (l.map fun l => V.str (mkS l)) (l.map fun l => PyData.str (mkS l))
  | [] => .nil
  | a :: r => .cons (.str _) (dp_strs r)
theorem dp_row {K : PySem.W.Frag} {H : Hp} {p : Addr} {s : Row} (h : SqT K H p (rv s)) : Dp K H (.ref p) (rowD s) := .tup h (dp_strs _)
theorem mk_eq (a b : List Nat) : decide (V.str (mkS a) = V.str (mkS b)) = decide (a = b) := by
  by_cases h : a = b
  · rw [h, decide_eq_true rfl, decide_eq_true rfl]
  · rw [decide_eq_false h, decide_eq_false (fun e => h (by have := congrArg cl (V.str.inj e); exact this))]
theorem rv_cons (t : List Nat) (r : Row) : rv (t :: r) = rv r ++ [V.str (mkS t)] := by
  unfold rv
  rw [List.reverse_cons, List.map_append]
  rfl
theorem rv_len (s : Row) : (rv s).length = s.length := by unfold rv; simp
/-- xs[-1:] -/
theorem cut_last {xs : List V} {x : V} : cutV (xs ++ [x]) (some (-1)) none = [x] := by
  unfold cutV
  rw [HT.sIx_none]
  have e : HT.sIx (xs ++ [x]).length 0 (some (-1)) = xs.length := by
    unfold HT.sIx
    simp only []
    rw [if_pos (by decide), List.length_append, List.length_singleton]
    omega
  rw [e, List.drop_left, List.length_append, List.length_singleton, show xs.length + 1 - xs.length = 1 by omega]
  rfl
theorem cut_init {xs : List V} {x : V} : cutV (xs ++ [x]) none (some (-1)) = xs := by
  unfold cutV
  rw [HT.sIx_none]
  have e : HT.sIx (xs ++ [x]).length (xs ++ [x]).length (some (-1)) = xs.length := by
    unfold HT.sIx
    simp only []
    rw [if_pos (by decide), List.length_append, List.length_singleton]
    omega
  rw [e, List.drop_zero, Nat.sub_zero, List.take_left]
theorem slA28 {K : PySem.W.Frag} {H : Hp} {Q : VK} {a : Addr} {xs : List V} {lo hi : Option Int} (h : SqT K H a xs) (q : ∀ p H', Same H H' → SqT K H' p (cutV xs lo hi) → Q (.ref p) H') : rSlA K (.ref a) lo hi H Q := by
  refine ⟨a, xs, rfl, h, fun e => ?_, fun _ p np => ?_⟩
  · refine q a H (Same.refl _) ?_
    have : cutV xs lo hi = xs := by
      unfold cutV
      rw [e.1, e.2, List.drop_zero, Nat.sub_zero, List.take_of_length_le (Nat.le_refl _)]
    rw [this]
    exact h
  · obtain ⟨H1, s1, h1, e1⟩ := lay (o := .tup (cutV xs lo hi)) np
    rw [e1]
    exact q p H1 s1 (SqT.of h1)
theorem atI_last {l : List Nat} {c : Nat} (h : l.getLast? = some c) : atI l (-1) = some c := by
  have hn : l ≠ [] := fun e => by rw [e] at h; cases h
  have hp : 0 < l.length := List.length_pos_iff.mpr hn
  unfold atI
  have e : ixN l.length (-1) = some (l.length - 1) := by
    unfold ixN
    rw [if_neg (by decide), if_pos (by omega)]
    congr 1
    omega
  rw [e]
  show l[l.length - 1]? = _
  rw [← h, List.getLast?_eq_getElem?]
theorem cutS_init (l : List Nat) : cutS (mkS l) none (some (-1)) = mkS l.dropLast := by
  refine cl_inj ?_
  unfold cutS
  rw [cl_mk]
  show ((cl (mkS l)).drop _).take _ = _
  rw [cl_mkS, HT.sIx_none, List.drop_zero, Nat.sub_zero]
  have e : HT.sIx (mkS l).length (mkS l).length (some (-1)) = l.length - 1 := by
    unfold HT.sIx
    simp only []
    rw [if_pos (by decide)]
    have : (mkS l).length = l.length := rfl
    omega
  rw [e, List.dropLast_eq_take]
  rfl
theorem cutS_tail (l : List Nat) : cutS (mkS l) (some 1) none = mkS l.tail := by
  refine cl_inj ?_
  unfold cutS
  rw [cl_mk]
  show ((cl (mkS l)).drop _).take _ = _
  rw [cl_mkS, HT.sIx_none]
  have e : HT.sIx (mkS l).length 0 (some 1) = min 1 l.length := HT.sIx_nat _ 0 1
  have e2 : (mkS l).length = l.length := rfl
  rw [e, e2, cl_mkS]
  cases l with
  | nil => rfl
  | cons a b =>
    rw [show min 1 (a :: b).length = 1 from by simp]
    rw [List.drop_succ_cons, List.drop_zero, List.take_of_length_le (by simp)]
    rfl
/-- the row that the law builds behind a word, as its tuple stands -/
def upR (ps : List Nat) : Nat → Row
  | 0 => [[41]]
  | i + 1 => upR ps i ++ [[ps.getD (ps.length - 1 - i) 0]] ++ (if 0 < ps.length - 1 - i then [[32], [44]] else [])
end GB
namespace K28
open PySem PySem.Spec L2 GB
theorem wd_look (l : List Nat) : wdL.lookup l = (wdP.lookup (mkS l)).map fun ps => (upR (cl ps) (cl ps).length).reverse := by
  by_cases h : mkS l ∈ wdP.map (·.1)
  · obtain ⟨q, hq, e⟩ := List.mem_map.mp h
    have : ∀ q ∈ wdP, wdL.lookup (cl q.1) = (wdP.lookup q.1).map fun ps => (upR (cl ps) (cl ps).length).reverse := by decide +kernel
    have h2 := this q hq
    rw [e] at h2
    exact h2
  · have none1 : ∀ {α : Type} (m : List (Str × α)), mkS l ∉ m.map (·.1) → m.lookup (mkS l) = none := by
      intro α m
      induction m with
      | nil => intro _; rfl
      | cons q m ih =>
        intro hn
        rw [List.map_cons] at hn
        rw [List.lookup_cons, show (mkS l == q.1) = false from beq_eq_false_iff_ne.mpr fun e => hn (by rw [e]; exact List.mem_cons_self)]
        exact ih fun z => hn (List.mem_cons_of_mem _ z)
    rw [none1 wdP h]
    have none2 : ∀ (m : List (List Nat × GB.Row)), l ∉ m.map (·.1) → m.lookup l = none := by
      intro m
      induction m with
      | nil => intro _; rfl
      | cons q m ih =>
        intro hn
        rw [List.map_cons] at hn
        rw [List.lookup_cons, show (l == q.1) = false from beq_eq_false_iff_ne.mpr fun e => hn (by rw [e]; exact List.mem_cons_self)]
        exact ih fun z => hn (List.mem_cons_of_mem _ z)
    refine none2 wdL fun z => h ?_
    have e : wdP.map (fun q => cl q.1) = wdL.map (·.1) := by decide +kernel
    rw [← e] at z
    obtain ⟨q, hq, e2⟩ := List.mem_map.mp z
    exact List.mem_map.mpr ⟨q, hq, cl_inj e2⟩
theorem wd_val (l : List Nat) : valV wdK (.inr (mkS l) : Key) = (wdP.lookup (mkS l)).map V.str := by
  have : ∀ (m : List (Str × Str)), valV (m.map fun q => ((.inr q.1 : Key), V.str q.2)) (.inr (mkS l) : Key) = (m.lookup (mkS l)).map V.str := by
    intro m
    induction m with
    | nil => rfl
    | cons q m ih =>
      rw [List.lookup_cons]
      by_cases e : mkS l = q.1
      · rw [show (mkS l == q.1) = true from beq_iff_eq.mpr e]
        exact valV_pos (p := ((.inr q.1 : Key), V.str q.2)) (by rw [e])
      · rw [show (mkS l == q.1) = false from beq_eq_false_iff_ne.mpr e, ← ih]
        exact valV_neg (p := ((.inr q.1 : Key), V.str q.2)) (fun z => e (Sum.inr.inj z).symm)
  exact this wdP
end K28
set_option Elab.async false
set_option linter.all false
set_option autoImplicit false
set_option maxRecDepth 100000
set_option maxHeartbeats 4000000
namespace GB
open PySem PySem.Spec L2
/-- signs that a text can hold -/
def Sml (s : Row) : Prop := ∀ t ∈ s, ∀ x ∈ t, x < 256
theorem sml_cons {t : List Nat} {s : Row} (h : ∀ x ∈ t, x < 256) (hs : Sml s) : Sml (t :: s) := fun y hy => by
  rcases List.mem_cons.mp hy with rfl | hy
  · exact h
  · exact hs y hy
theorem sml_tl {t : List Nat} {s : Row} (h : Sml (t :: s)) : Sml s := fun y hy => h y (List.mem_cons_of_mem _ hy)
theorem sml_one {x : Nat} (h : x < 256) : ∀ y ∈ [x], y < 256 := fun y hy => by rw [List.mem_singleton.mp hy]; exact h
theorem lt_sml {c : Nat} (h : ltB c = true) : c < 256 := by
  have := ltB_iff.mp h
  unfold ltr at this
  omega
theorem sml_app {a b : Row} (ha : Sml a) (hb : Sml b) : Sml (a ++ b) := fun y hy => (List.mem_append.mp hy).elim (ha y) (hb y)
theorem wd_sml : ∀ x ∈ wdL, (∀ y ∈ x.1, y < 256) ∧ Sml x.2 := by
  have h : ∀ x ∈ wdL, (x.1.all fun y => decide (y < 256)) = true ∧ (x.2.all fun t => t.all fun y => decide (y < 256)) = true := by decide +kernel
  intro x hx
  obtain ⟨h1, h2⟩ := h x hx
  exact ⟨fun y hy => of_decide_eq_true (List.all_eq_true.mp h1 y hy), fun t ht y hy => of_decide_eq_true (List.all_eq_true.mp (List.all_eq_true.mp h2 t ht) y hy)⟩
theorem stT_sml {rest : Row} {c : Nat} (h : Sml rest) : ∀ s' ∈ stT rest c, Sml s' := fun s' hs => by
  unfold stT at hs
  split at hs
  · rw [List.mem_singleton.mp hs]; exact sml_cons (sml_one (by decide)) h
  · split at hs
    · obtain ⟨w, hw, rfl⟩ := List.mem_map.mp hs
      refine sml_cons (fun x hx => ?_) (sml_cons (sml_one (by decide)) (sml_cons (sml_one (by decide)) (sml_cons (sml_one (by decide)) h)))
      rcases List.mem_cons.mp hx with rfl | hx
      · decide
      · exact (wd_sml w hw).1 x (List.mem_reverse.mp hx)
    · split at hs
      · rename_i hc
        rw [List.mem_singleton.mp hs]
        refine sml_cons (fun x hx => ?_) h
        rcases List.mem_cons.mp hx with rfl | hx
        · decide
        · rw [List.mem_singleton.mp hx]; exact lt_sml hc
      · cases hs
theorem stp_sml {c : Nat} : ∀ {s : Row}, Sml s → ∀ s' ∈ stp s c, Sml s'
  | [], _, s', h => by rw [stp] at h; cases h
  | top :: rest, hs, s', h => by
    have hr := sml_tl hs
    have ht : ∀ x ∈ top, x < 256 := hs top List.mem_cons_self
    have ih := stp_sml (c := c) hr
    rw [stp] at h
    split at h
    · split at h
      · rw [List.mem_singleton.mp h]; exact hr
      · cases h
    · split at h
      · exact stT_sml hr s' h
      · split at h
        · split at h
          · rename_i hc
            rw [List.mem_singleton.mp h]
            refine sml_cons (fun x hx => ?_) hr
            rcases List.mem_cons.mp hx with rfl | hx
            · decide
            · rw [List.mem_singleton.mp hx]; exact lt_sml hc
          · cases h
        · split at h
          · split at h
            · split at h
              · rw [List.mem_singleton.mp h]
                exact sml_cons (fun x hx => ht x (List.dropLast_subset _ hx)) hr
              · rw [List.mem_singleton.mp h]; exact hr
            · cases h
          · split at h
            · rcases List.mem_append.mp h with h | h
              · exact ih s' h
              · exact stT_sml (sml_cons (sml_one (by decide)) hr) s' h
            · split at h
              · rcases List.mem_append.mp h with h | h
                · exact ih s' h
                · split at h
                  · rw [List.mem_singleton.mp h]
                    exact sml_cons (sml_one (by decide)) (sml_cons (sml_one (by decide)) hr)
                  · cases h
              · split at h
                · rename_i hc
                  split at h
                  · rw [List.mem_singleton.mp h]
                    refine sml_cons (fun x hx => ?_) hr
                    rcases List.mem_append.mp hx with hx | hx
                    · exact ht x hx
                    · rw [List.mem_singleton.mp hx]; exact lt_sml hc
                  · cases h
                · split at h
                  · exact ih s' h
                  · split at h
                    · exact ih s' h
                    · split at h
                      · rename_i row hrow
                        rw [List.mem_singleton.mp h]
                        exact sml_app (wd_sml _ (lookup_mem hrow)).2 hr
                      · rw [List.mem_singleton.mp h]
                        exact sml_cons (sml_one (by decide)) (sml_cons (sml_one (by decide)) hr)
theorem stps_mem {S : List Row} {c : Nat} {x : Row} (h : x ∈ stps S c) : ∃ s ∈ S, x ∈ stp s c := by
  have key : ∀ (S acc : List Row), x ∈ S.foldl (fun later s => later ++ (stp s c).filter (fun x => !decide (x ∈ later))) acc → x ∈ acc ∨ ∃ s ∈ S, x ∈ stp s c := by
    intro S
    induction S with
    | nil => intro acc h; exact .inl h
    | cons s S ih =>
      intro acc h
      rw [List.foldl_cons] at h
      rcases ih _ h with h | ⟨s', h1, h2⟩
      · rcases List.mem_append.mp h with h | h
        · exact .inl h
        · exact .inr ⟨s, List.mem_cons_self, (List.mem_filter.mp h).1⟩
      · exact .inr ⟨s', List.mem_cons_of_mem _ h1, h2⟩
  rcases key S [] h with h | h
  · cases h
  · exact h
/-- what the law's walk holds at a place -/
structure Hold (N : Nat) (S : List Row) : Prop where
  rw : Rws N S
  sm : ∀ s ∈ S, Sml s
theorem Hold.step {N : Nat} {S : List Row} (h : Hold N S) (c : Nat) : stps S c = [] ∨ Hold (N + 10) (stps S c) := by
  rcases h.rw.step c with e | e
  · exact .inl e
  · refine .inr ⟨e, fun x hx => ?_⟩
    obtain ⟨s, hs, hx⟩ := stps_mem hx
    exact stp_sml (h.sm s hs) x hx
theorem hold0 : Hold 1 [[[116]]] := ⟨.one ⟨.inr (.inl ⟨.inl rfl, .inl rfl⟩), trivial⟩ (by decide), fun s hs => by
  rw [List.mem_singleton.mp hs]
  exact sml_cons (sml_one (by decide)) (fun t h => nomatch h)⟩
end GB
set_option Elab.async false
set_option linter.all false
set_option autoImplicit false
set_option maxRecDepth 100000
set_option maxHeartbeats 4000000
namespace GB
open PySem PySem.Spec L2
theorem rowD_pst (s : Row) : rowD s = .tuple (pst (s.reverse.map mkS)) := by
  unfold rowD pst
  rw [List.map_map]
  rfl
theorem ok_mk28 {t : List Nat} (h : ∀ x ∈ t, x < 256) : PyData.strOk (mkS t) = true := by
  show (mkS t).cps.all (fun x => decide (x < 0x110000)) = true
  rw [Array.all_eq_true']
  intro x hx
  have := h x (by simpa [mkS] using hx)
  exact decide_eq_true (by omega)
theorem sml_ok {s : Row} (h : Sml s) : ∀ v ∈ s.reverse.map mkS, PyData.strOk v = true := fun v hv => by
  obtain ⟨t, ht, rfl⟩ := List.mem_map.mp hv
  exact ok_mk28 (h t (List.mem_reverse.mp ht))
theorem lay_row {s : Row} (h : Sml s) : PyData.canLay0 (rowD s) = true := by
  rw [rowD_pst, PyData.canLay0]
  exact lay_pst (sml_ok h)
theorem dep_row (s : Row) : PyData.depth (rowD s) = 1 := by
  rw [rowD_pst, PyData.depth, dep_pst]
theorem sh_row {s : Row} (h : Sml s) : SeqAt.shaped (rowD s) = true := by
  unfold SeqAt.shaped
  rw [lay_row h, dep_row]
  rfl
theorem lay_rows : ∀ {l : List Row}, (∀ s ∈ l, Sml s) → PyData.canLayAll0 (l.map rowD) = true
  | [], _ => rfl
  | a :: r, h => by
    show (PyData.canLay0 (rowD a) && PyData.canLayAll0 (r.map rowD)) = true
    rw [lay_row (h a List.mem_cons_self), lay_rows fun b hb => h b (List.mem_cons_of_mem _ hb)]
    rfl
theorem dep_rows : ∀ l : List Row, PyData.depthAll (l.map rowD) ≤ 1
  | [] => by decide
  | a :: r => by
    show max (PyData.depth (rowD a)) (PyData.depthAll (r.map rowD)) ≤ 1
    rw [dep_row]
    have := dep_rows r
    omega
theorem sh_rows {l : List Row} (h : ∀ s ∈ l, Sml s) : SeqAt.shaped (.list (l.map rowD)) = true := by
  unfold SeqAt.shaped
  have e : PyData.canLay0 (.list (l.map rowD)) = true := by rw [PyData.canLay0]; exact lay_rows h
  have d : PyData.depth (.list (l.map rowD)) ≤ 64 := by
    rw [PyData.depth]
    have := dep_rows l
    omega
  rw [e, decide_eq_true d]
  rfl
theorem mk_inj {a b : List Nat} (h : mkS a = mkS b) : a = b := congrArg cl h
theorem row_eqv (a b : Row) : PyData.eqv (rowD a) (rowD b) = decide (a = b) := by
  rw [rowD_pst, rowD_pst]
  show PyData.eqvAll _ _ = _
  rw [eqvAll_pst]
  by_cases h : a = b
  · subst h; rw [decide_eq_true rfl, decide_eq_true rfl]
  · rw [decide_eq_false h, decide_eq_false fun e => h ?_]
    have e2 : a.reverse = b.reverse := by
      generalize a.reverse = x at e
      generalize b.reverse = y at e
      induction x generalizing y with
      | nil => cases y with
        | nil => rfl
        | cons c d => cases e
      | cons c d ih => cases y with
        | nil => cases e
        | cons f g =>
          obtain ⟨e1, e2⟩ := List.cons.inj e
          rw [mk_inj e1, ih g e2]
    exact List.reverse_inj.mp e2
theorem any_row (l : List Row) (a : Row) : ((l.map rowD).any fun z => PyData.eqv z (rowD a)) = decide (a ∈ l) := by
  induction l with
  | nil => rfl
  | cons b r ih =>
    rw [List.map_cons, List.any_cons, ih, row_eqv]
    by_cases h : b = a
    · subst h; simp
    · rw [decide_eq_false h, Bool.false_or]
      have : (a ∈ b :: r) = (a ∈ r) := propext ⟨fun m => (List.mem_cons.mp m).resolve_left fun e => h e.symm, List.mem_cons_of_mem _⟩
      simp only [this]
end GB
set_option Elab.async false
set_option linter.all false
set_option autoImplicit false
set_option maxRecDepth 100000
set_option maxHeartbeats 8000000
namespace K28
open PySem PySem.Spec L2 GB
abbrev sSt : Stmt := topS 49
def stN : List Str := ["_law_state", "_law_sign", "_law_top", "_law_rest", "_law_letters", "_law_words_here", "_law_parts_there", "_law_row", "_law_k", "_law_word"]
def spStep (K : PySem.W.Frag) (z : Nat) : Sp := fun vs H Q _ => ∃ (p : Addr) (c : Nat) (s : GB.Row), vs = [.ref p, .str (mkS [c])] ∧ SqT K H p (rv s) ∧ Wf s ∧ Sml s ∧ rk s < z ∧ s.length + z ≤ 100000 ∧
  ∀ l ys H', Same H H' → H' l = some (.lst ys) → DpAll K (hid [l] H') ys ((stp s c).map rowD) → Q (.ref l) H'
theorem sqT_ne {K : PySem.W.Frag} {H H' : Hp} {a p : Addr} {xs : List V} {kvs : List (Key × V)} (h : SqT K H p xs) (hd : H a = some (.dK kvs)) (hl : ∀ b, b ≠ a → H' b = H b) : SqT K H' p xs := by
  rcases h with h | h
  · rcases h with h | ⟨o, h⟩
    · exact .inl (.inl (by rw [hl p (fun e => by rw [e, hd] at h; cases h)]; exact h))
    · exact .inl (.inr ⟨o, by rw [hl p (fun e => by rw [e, hd] at h; cases h)]; exact h⟩)
  · exact .inr h
section
variable {P : Program} {w : World} {K : PySem.W.Frag} {mg : Str → Option Value} {base : Heap}
theorem scSt : FnScope stN ["_law_state", "_law_sign"] (defScope sSt) := ⟨rfl, rfl, rfl, by decide +kernel, rfl, by decide +kernel, by decide +kernel⟩
abbrev abc : List Nat := cl "abcdefghijklmnopqrstuvwxyz"
theorem abc_lt (c : Nat) : decide (c ∈ ("abcdefghijklmnopqrstuvwxyz" : Str).cps.toList) = ltB c := by
  have e : ("abcdefghijklmnopqrstuvwxyz" : Str).cps.toList = List.range' 97 26 := by decide +kernel
  rw [e]
  unfold ltB
  by_cases h : 97 ≤ c ∧ c ≤ 122
  · rw [decide_eq_true (List.mem_range'_1.mpr (by omega)), decide_eq_true h.1, decide_eq_true h.2]
    rfl
  · rw [decide_eq_false (fun z => by have := List.mem_range'_1.mp z; omega)]
    by_cases h1 : 97 ≤ c
    · rw [decide_eq_false (show ¬ c ≤ 122 from fun z => h ⟨h1, z⟩), Bool.and_false]
    · rw [decide_eq_false h1, Bool.false_and]
theorem wd_keys {i : Nat} {k : Key} {v : V} (h : wdK[i]? = some (k, v)) : ∃ x, wdO[i]? = some x ∧ k = .inr x ∧ x ∈ wdO := by
  have e : wdK.map (·.1) = wdO.map (fun x => (.inr x : Key)) := by decide +kernel
  have h1 : (wdK.map (·.1))[i]? = some k := by rw [List.getElem?_map, h]; rfl
  rw [e, List.getElem?_map] at h1
  cases hx : wdO[i]? with
  | none => rw [hx] at h1; cases h1
  | some x =>
    rw [hx] at h1
    exact ⟨x, rfl, (Option.some.inj h1).symm, List.mem_of_getElem? hx⟩
theorem stT_wd (rest : GB.Row) : stT rest 46 = wdO.map fun x => dotR rest (cl x) := by
  unfold stT
  rw [if_neg (by decide), if_pos rfl]
  have e : wdL.map (·.1) = wdO.map cl := by decide +kernel
  have e2 : (wdL.map fun w => (46 :: w.1.reverse) :: [40] :: [97] :: [41] :: rest) = (wdL.map (·.1)).map (dotR rest) := by rw [List.map_map]; rfl
  rw [e2, e, List.map_map]
  rfl
theorem rv_dot (rest : GB.Row) (l : List Nat) : rv (dotR rest l) = rv rest ++ [.str ")", .str "a", .str "(", .str (mkS (46 :: l.reverse))] := by
  unfold dotR
  rw [rv_cons, rv_cons, rv_cons, rv_cons]
  simp only [List.append_assoc]
  rfl
/-- a list of one row, of none -/
theorem ret1 {s s' : GB.Row} {c : Nat} {H H1 : Hp} {b : Addr} {Q : VK} (q : ∀ l ys H', Same H H' → H' l = some (.lst ys) → DpAll K (hid [l] H') ys ((stp s c).map rowD) → Q (.ref l) H') (S1 : Same H H1) (hb : SqT K H1 b (rv s')) (e : stp s c = [s']) : ∀ l, H1 l = none → Q (.ref l) (upd H1 l (.lst [.ref b])) := fun l nl => by
  obtain ⟨H2, s2, h2, e2⟩ := lay (o := .lst [.ref b]) nl
  rw [e2]
  refine q l _ H2 (S1.trans s2) h2 ?_
  rw [e]
  have hb' : SqT K (hid [l] H2) b (rv s') := by
    rcases hb with h | h
    · rcases h with h | ⟨o, h⟩
      · exact .inl (.inl (hid_to (ni1 (fun e => by rw [e, nl] at h; cases h)) (s2 _ _ h)))
      · exact .inl (.inr ⟨o, hid_to (ni1 (fun e => by rw [e, nl] at h; cases h)) (s2 _ _ h)⟩)
    · exact .inr h
  exact .cons (dp_row hb') .nil
theorem ret0 {s : GB.Row} {c : Nat} {H H1 : Hp} {Q : VK} (q : ∀ l ys H', Same H H' → H' l = some (.lst ys) → DpAll K (hid [l] H') ys ((stp s c).map rowD) → Q (.ref l) H') (S1 : Same H H1) (e : stp s c = []) : ∀ l, H1 l = none → Q (.ref l) (upd H1 l (.lst [])) := fun l nl => by
  obtain ⟨H2, s2, h2, e2⟩ := lay (o := .lst []) nl
  rw [e2]
  refine q l _ H2 (S1.trans s2) h2 ?_
  rw [e]
  exact .nil
/-- rest + (one text,) and the list of it -/
theorem ret1c {s rest : GB.Row} {top : List Nat} {c : Nat} {H H1 : Hp} {rB : Addr} {x : V} {Q : VK} (q : ∀ l ys H', Same H H' → H' l = some (.lst ys) → DpAll K (hid [l] H') ys ((stp s c).map rowD) → Q (.ref l) H') (S1 : Same H H1) (hr : SqT K H1 rB (rv rest)) (hl : rest.length ≤ 100000) (hx : x = .str (mkS top)) (e : stp s c = [top :: rest]) :
    1 ≤ sizeLine ∧ ∀ t, H1 t = none → rCatA K (.ref rB) (.ref t) (upd H1 t (.tup [x])) fun y H2 => 1 ≤ sizeLine ∧ ∀ l, H2 l = none → Q (.ref l) (upd H2 l (.lst [y])) := by
  refine ⟨by decide, fun t nt => ?_⟩
  obtain ⟨H2, s2, h2, e2⟩ := lay (o := .tup [x]) nt
  rw [e2]
  refine catA (Same.seqT s2 hr) (SqT.of h2) (by rw [rv_len, sizeLine_eq]; simp; omega) fun p H3 s3 hp => ⟨by decide, ?_⟩
  subst hx
  rw [← rv_cons] at hp
  exact ret1 q ((S1.trans s2).trans s3) hp e
end
end K28
set_option Elab.async false
set_option linter.all false
set_option autoImplicit false
set_option maxRecDepth 100000
set_option maxHeartbeats 16000000
namespace GB
open PySem PySem.Spec L2
theorem slN28 {K : PySem.W.Frag} {σ : L2.St} {H : Hp} {Q : VK} {a : Addr} {xs : List V} {lo : Option Int} (h : SqT K H a xs) (q : ∀ p H', Same H H' → SqT K H' p (cutV xs lo none) → Q (.ref p) H') : tNoPart σ H fun u H3 => rSlA K (.ref a) lo u H3 Q := slA28 h q
theorem stp_cons28 (top : List Nat) (rest : Row) (c : Nat) : stp (top :: rest) c = (if top.length = 1 ∧ top ≠ [116] ∧ top ≠ [110] ∧ top ≠ [97] ∧ top ≠ [109] then (if top = [c] then [rest] else [])
    else if top = [116] then stT rest c
    else if top = [110] then (if ltB c then [[110, c] :: rest] else [])
    else if top.head? = some 46 then (if top.getLast? = some c then (if 2 < top.length then [top.dropLast :: rest] else [rest]) else [])
    else if top = [97] then stp rest c ++ stT ([109] :: rest) c
    else if top = [109] then stp rest c ++ (if c = 44 then [[32] :: [116] :: rest] else [])
    else if ltB c then (if top.length < 9 then [(top ++ [c]) :: rest] else [])
    else if top.head? = some 110 then stp rest c
    else if c ≠ 40 then stp rest c
    else match wdL.lookup top.tail with
      | some row => [row ++ rest]
      | none => [[97] :: [41] :: rest]) := by
  first
    | (rw [stp]; rfl)
    | rw [stp]
theorem sqT_hid2 {K : PySem.W.Frag} {H : Hp} {p : Addr} {xs : List V} {ps : List Addr} (h : SqT K H p xs) (h1 : ∀ a ∈ ps, ∀ o, H a ≠ some (.tup o)) (h2 : ∀ a ∈ ps, ∀ f o, H a ≠ some (.frz f (.tup o))) : SqT K (hid ps H) p xs := by
  rcases h with h | h
  · rcases h with h | ⟨f, h⟩
    · exact .inl (.inl (hid_to (fun m => h1 p m _ h) h))
    · exact .inl (.inr ⟨f, hid_to (fun m => h2 p m _ _ h) h⟩)
  · exact .inr h
theorem dps_fresh28 {K : PySem.W.Frag} {l1 l : Addr} {J1 JX H' : Hp} {ys : List V} {ds : List PyData} (d : DpAll K (hid [l1] J1) ys ds) (s : Same J1 JX) (nl : JX l = none) (s2 : Same JX H') : DpAll K (hid [l] H') ys ds :=
  dps_mono (fun b o e => by
    obtain ⟨e1, _⟩ := hid_in e
    exact hid_to (ni1 (ne_of_none (s _ _ e1) nl)) (s2 _ _ (s _ _ e1))) d
end GB
namespace K28
open PySem PySem.Spec L2 GB
section
variable {P : Program} {w : World} {K : PySem.W.Frag} {mg : Str → Option Value} {base : Heap}
theorem ok_st {f : Addr} {fd : FuncData} (F : Fun K "_law_step" "_law_step" sSt f fd) (T : Bl mg) (mgF : mg "_law_step" = some (.ref f)) (kF : PySem.W.keepIn K (.ref f) = true) (bF : Binds K fd ["_law_state", "_law_sign"] [])
    (WD : Fns P w K mg base "_law_words" 1 [] spWd) : ∀ z : Nat, FnOk P w K mg base CX0 (2 + z) f fd ["_law_state", "_law_sign"] (spStep K z) := by
  obtain ⟨fW, dW, FW, gW, kW, bW⟩ := WD
  intro z
  induction z with
  | zero =>
    refine F.ok scSt (fun vs H Q E h => ?_) (fun cdv A outer s H vs Q E hr h => ?_)
    · obtain ⟨p, c, s, rfl, _⟩ := h
      rfl
    · obtain ⟨p, c, s, rfl, _, _, _, h, _⟩ := h
      exact absurd h (Nat.not_lt_zero _)
  | succ z ih =>
    have ST : Fns P w K mg base "_law_step" (2 + z) ["_law_state", "_law_sign"] (spStep K z) := ⟨f, fd, ih, mgF, kF, bF⟩
    refine F.ok scSt (fun vs H Q E h => ?_) (fun cdv A outer s H vs Q E hr h => ?_)
    · obtain ⟨p, c, s, rfl, _⟩ := h
      rfl
    · obtain ⟨p, c, s, rfl, hp, hwf, hsm, hrk, hln, q⟩ := h
      have r1 := hr.mono (show 1 ≤ Nat.add 2 z by show 1 ≤ 2 + z; omega)
      have lz : 2 + z ≤ Nat.add 2 z := Nat.le_refl _
      have hu := hu_of hr
      refine ⟨_, (pss_cons (ps_asg (pe_tup (pa_cons (pe_slice (r := rSlA K) sl_tupA (pv 0) (po_some (pe_un un_neg pe_int)) po_none) (pa_cons (pe_slice (r := rSlA K) sl_tupA (pv 0) po_none (po_some (pe_un un_neg pe_int))) pa_nil))) (pg_tup rfl (pgs_cons (pg_name (i := 2) scSt.nd rfl (.inl rfl)) (pgs_cons (pg_name (i := 3) scSt.nd rfl (.inr rfl)) pgs_nil))))
        (pss_cons (ps_par (i := 4) (j := 5) rfl scSt.nd rfl rfl (by decide) rfl rfl (pa_cons pe_str (pa_cons (pe_call0 FW r1 rfl gW kW bW .nil pass0) pa_nil)) (by rfl))
        (pss_cons (ps_if (pt_cmpR (op_eqD hr.units) (pv 2) (pe_tup pa_nil) (nomark _)) (pss_one (ps_ret (pe_lst pa_nil))) pss_nil)
        (pss_cons (ps_set (i := 2) scSt.nd rfl (.inl rfl) (pe_ix ix_seq (pv 2) (pe_int) (fun _ _ => rfl)))
        (pss_cons (ps_if (PW.pt (pw_and (pt_cmpR op_eq (pe_callB call_len_str (by rfl) T.len PySem.boot_len (pa_cons (pv 2) pa_nil)) pe_int (nomark _)) (pw_and1 (pt_cmpR op_notIn_seq (pv 2) (pe_tup (pa_cons pe_str (pa_cons pe_str (pa_cons pe_str (pa_cons pe_str pa_nil))))) (by rfl))))) (pss_one (ps_ret (pe_ifExp (pt_cmpR op_eq (pv 1) (pv 2) (nomark _)) (pe_lst (pa_cons (pv 3) pa_nil)) (pe_lst pa_nil)))) pss_nil)
        (pss_cons (ps_if (pt_cmpR op_eq (pv 2) pe_str (nomark _)) (pss_cons (ps_if (pt_cmpR op_eq (pv 1) pe_str (nomark _)) (pss_one (ps_ret (pe_lst (pa_cons (pe_op (r := rCatA K) op_catA (pv 3) (pe_tup (pa_cons pe_str pa_nil))) pa_nil)))) pss_nil)
        (pss_cons (ps_if (pt_cmpR op_eq (pv 1) pe_str (nomark _)) (pss_one (ps_ret (pe_lock (pe_lc (own := [("_law_word", 9)]) (g := gName 9) (tt := tYes) rfl scSt.nd (pi_keys (pv 5)) (blkOk_by (own := [("_law_word", 9)]) (N := stN) (sc := defScope sSt) (by decide +kernel)) (fun _ _ _ _ _ => pg_name (i := 9) scSt.nd rfl (.inl rfl)) (fun _ _ _ _ _ => pts_nil) (fun _ _ _ _ _ => (pe_op (r := rCatA K) op_catA (pv 3) (pe_tup (pa_cons pe_str (pa_cons pe_str (pa_cons pe_str (pa_cons (pe_op op_add_str pe_str (pe_revS (pv 9))) pa_nil))))))))))) pss_nil)
        (pss_one (ps_ret (pe_ifExp (pt_cmpR op_in_sign (pv 1) (pv 4) (by rfl)) (pe_lst (pa_cons (pe_op (r := rCatA K) op_catA (pv 3) (pe_tup (pa_cons (pe_op op_add_str pe_str (pv 1)) pa_nil))) pa_nil)) (pe_lst pa_nil)))))) pss_nil)
        (pss_cons (ps_if (pt_cmpR op_eq (pv 2) pe_str (nomark _)) (pss_one (ps_ret (pe_ifExp (pt_cmpR op_in_sign (pv 1) (pv 4) (by rfl)) (pe_lst (pa_cons (pe_op (r := rCatA K) op_catA (pv 3) (pe_tup (pa_cons (pe_op op_add_str pe_str (pv 1)) pa_nil))) pa_nil)) (pe_lst pa_nil)))) pss_nil)
        (pss_cons (ps_if (pt_cmpR op_eq (pe_ix ix_str (pv 2) pe_int (fun _ _ => rfl)) pe_str (nomark _)) (pss_one (ps_ret (pe_ifExp (pt_cmpR op_eq (pv 1) (pe_ix ix_str (pv 2) (pe_un un_neg pe_int) (fun _ _ => rfl)) (nomark _)) (pe_lst (pa_cons (pe_op (r := rCatA K) op_catA (pv 3) (pe_op (r := rRepT01 K) op_repT01 (pe_tup (pa_cons (pe_slice sl_str (pv 2) po_none (po_some (pe_un un_neg pe_int))) pa_nil)) (pe_callTy (call_int1) (by rfl) T.int (by decide +kernel) (pa_cons (pe_cmpR op_gt (pe_callB call_len_str (by rfl) T.len PySem.boot_len (pa_cons (pv 2) pa_nil)) pe_int (nomark _)) pa_nil)))) pa_nil)) (pe_lst pa_nil)))) pss_nil)
        (pss_cons (ps_if (pt_cmpR op_eq (pv 2) pe_str (nomark _)) (pss_one (ps_ret (pe_op op_cat (pe_fn ST hr lz rfl (pa_cons (pv 3) (pa_cons (pv 1) pa_nil))) (pe_fn ST hr lz rfl (pa_cons (pe_op (r := rCatA K) op_catA (pv 3) (pe_tup (pa_cons pe_str (pa_cons pe_str pa_nil)))) (pa_cons (pv 1) pa_nil)))))) pss_nil)
        (pss_cons (ps_if (pt_cmpR op_eq (pv 2) pe_str (nomark _)) (pss_one (ps_ret (pe_op op_cat (pe_fn ST hr lz rfl (pa_cons (pv 3) (pa_cons (pv 1) pa_nil))) (pe_ifExp (pt_cmpR op_eq (pv 1) pe_str (nomark _)) (pe_lst (pa_cons (pe_op (r := rCatA K) op_catA (pv 3) (pe_tup (pa_cons pe_str (pa_cons pe_str pa_nil)))) pa_nil)) (pe_lst pa_nil))))) pss_nil)
        (pss_cons (ps_if (pt_cmpR op_in_sign (pv 1) (pv 4) (by rfl)) (pss_one (ps_ret (pe_ifExp (pt_cmpR op_lt (pe_callB call_len_str (by rfl) T.len PySem.boot_len (pa_cons (pv 2) pa_nil)) pe_int (nomark _)) (pe_lst (pa_cons (pe_op (r := rCatA K) op_catA (pv 3) (pe_tup (pa_cons (pe_op op_add_str (pv 2) (pv 1)) pa_nil))) pa_nil)) (pe_lst pa_nil)))) pss_nil)
        (pss_cons (ps_if (pt_cmpR op_eq (pe_ix ix_str (pv 2) pe_int (fun _ _ => rfl)) pe_str (nomark _)) (pss_one (ps_ret (pe_fn ST hr lz rfl (pa_cons (pv 3) (pa_cons (pv 1) pa_nil))))) pss_nil)
        (pss_cons (ps_if (pt_cmpR op_ne (pv 1) pe_str (nomark _)) (pss_one (ps_ret (pe_fn ST hr lz rfl (pa_cons (pv 3) (pa_cons (pv 1) pa_nil))))) pss_nil)
        (pss_cons (ps_if (pt_cmp (pc_din hu (pe_slice sl_str (pv 2) (po_some pe_int) po_none) (pv 5))) (pss_cons (ps_set (i := 6) scSt.nd rfl (.inl rfl) (pe_listOfS rfl (by rfl) T.list (pe_dget hu (pv 5) (pe_slice sl_str (pv 2) (po_some pe_int) po_none) (fun _ _ => rfl))))
        (pss_cons (ps_set (i := 7) scSt.nd rfl (.inl rfl) (pe_lst (pa_cons pe_str pa_nil)))
        (pss_cons (ps_for PassesOwn.never rfl (pi_range3 (by rfl) T.range (pa_cons (pe_op op_sub (pe_callB call_len_seq (by rfl) T.len PySem.boot_len (pa_cons (pv 6) pa_nil)) pe_int) (pa_cons (pe_un un_neg pe_int) (pa_cons (pe_un un_neg pe_int) pa_nil)))) (pg_name (i := 8) scSt.nd rfl (.inl rfl)) (pss_one (ps_set (i := 7) scSt.nd rfl (.inl rfl) (pe_op op_cat (pe_op op_cat (pv 7) (pe_lst (pa_cons (pe_ix (r := rIxL K) ix_list (pv 6) (pv 8) (fun _ _ => rfl)) pa_nil))) (pe_op op_rep (pe_lst (pa_cons pe_str (pa_cons pe_str pa_nil))) (pe_callTy (call_int1) (by rfl) T.int (by decide +kernel) (pa_cons (pe_cmpR op_gt (pv 8) pe_int (nomark _)) pa_nil)))))))
        (pss_one (ps_ret (pe_lst (pa_cons (pe_op (r := rCatA K) op_catA (pv 3) (pe_callTy (call_tuple_of) (by rfl) T.tuple (by decide +kernel) (pa_cons (pv 7) pa_nil))) pa_nil))))))) pss_nil)
        (pss_one (ps_ret (pe_lst (pa_cons (pe_op (r := rCatA K) op_catA (pv 3) (pe_tup (pa_cons pe_str (pa_cons pe_str pa_nil)))) pa_nil)))))))))))))))))), ?_⟩
      have eLast : cutV (rv s) (some (-1)) none = (match s with | [] => [] | t :: _ => [V.str (mkS t)]) := by
        cases s with
        | nil => rfl
        | cons t r => rw [rv_cons]; exact cut_last
      have eInit : cutV (rv s) none (some (-1)) = rv s.tail := by
        cases s with
        | nil => rfl
        | cons t r => rw [rv_cons]; exact cut_init
      refine ⟨_, rfl, 1, rfl, -1, rfl, ?_⟩
      refine slN28 hp fun tA H1 s1 htA => ?_
      rw [eLast] at htA
      refine ⟨_, rfl, ?_⟩
      refine ⟨1, rfl, -1, rfl, ?_⟩
      refine slA28 (Same.seqT s1 hp) fun rA H2 s2 hrA => ?_
      rw [eInit] at hrA
      refine ⟨by show 2 ≤ sizeLine; decide, fun tt ntt => ?_⟩
      obtain ⟨H3, s3, h3, e3⟩ := lay (o := .tup [.ref tA, .ref rA]) ntt
      rw [e3]
      refine ⟨tt, _, rfl, SqT.of h3, rfl, _, _, rfl, _, _, rfl, rfl, ?_⟩
      refine ⟨rfl, fun dA H4 s4 hdA => ?_⟩
      refine ⟨_, _, rfl, ?_⟩
      have S34 := s3.trans s4
      have htA4 := Same.seqT (s2.trans S34) htA
      have hrA4 := Same.seqT S34 hrA
      have S4 : Same H H4 := (s1.trans s2).trans S34
      clear htA hrA h3
      refine ⟨_, rfl, by show 0 ≤ sizeLine; decide, fun te nte => ?_⟩
      obtain ⟨H5, s5, h5, e5⟩ := lay (o := .tup []) nte
      rw [e5]
      have hdA5 := s5 _ _ hdA
      have htA5 := Same.seqT s5 htA4
      have hrA5 := Same.seqT s5 hrA4
      have S5 : Same H H5 := S4.trans s5
      clear hdA htA4 hrA4
      cases s with
      | nil =>
        refine ⟨.tuple [], .tuple [], .tup htA5 .nil, .tup (SqT.of h5) .nil, by decide +kernel, by decide +kernel, ?_⟩
        rw [show PyData.eqv (.tuple []) (.tuple []) = true by decide +kernel]
        refine ⟨_, rfl, ?_⟩
        refine iteT ?_
        exact ⟨by show 0 ≤ sizeLine; decide, ret0 q S5 rfl⟩
      | cons top rest =>
      obtain ⟨hto, hwr⟩ := hwf
      have htne := hto.ne
      have htl := hto.len
      have htok := ok_mk28 (hsm top List.mem_cons_self)
      refine ⟨.tuple [.str (mkS top)], .tuple [], .tup htA5 (.cons (.str _) .nil), .tup (SqT.of h5) .nil, ?_, by decide +kernel, ?_⟩
      · have := sh_row (s := [top]) (fun t ht x hx => hsm top List.mem_cons_self x (by rw [List.mem_singleton.mp ht] at hx; exact hx))
        exact this
      rw [show PyData.eqv (.tuple [.str (mkS top)]) (.tuple []) = false from rfl]
      refine ⟨_, rfl, ?_⟩
      refine iteF ?_
      refine ⟨_, rfl, ixA (.inr htA5) 0 rfl ?_⟩
      have lenT : (mkS top).length = top.length := rfl
      have hlr : rest.length ≤ 100000 := by rw [List.length_cons] at hln; omega
      have hlz : rest.length + z ≤ 100000 := by rw [List.length_cons] at hln; omega
      have E0 := stp_cons28 top rest c
      refine ⟨_, rfl, mkS top, rfl, by rw [lenT, sizeLine_eq]; omega, rfl, _, rfl, ?_⟩
      have dlen : decide (V.int ((mkS top).length : Int) = V.int 1) = decide (top.length = 1) := by
        rw [decI]
        exact decide_eq_decide.mpr (by rw [lenT]; omega)
      rw [dlen]
      -- what the four words are not
      have dnot : decide (mkS top ∈ (["t", "n", "a", "m"] : List Str)) = !decide (top ≠ [116] ∧ top ≠ [110] ∧ top ≠ [97] ∧ top ≠ [109]) := by
        by_cases h : top ≠ [116] ∧ top ≠ [110] ∧ top ≠ [97] ∧ top ≠ [109]
        · rw [decide_eq_true h, decide_eq_false]
          · rfl
          · intro z
            simp only [List.mem_cons, List.not_mem_nil, or_false] at z
            rcases z with z | z | z | z
            · exact h.1 (mk_inj z)
            · exact h.2.1 (mk_inj z)
            · exact h.2.2.1 (mk_inj z)
            · exact h.2.2.2 (mk_inj z)
        · rw [decide_eq_false h]
          refine decide_eq_true ?_
          simp only [List.mem_cons, List.not_mem_nil, or_false]
          by_cases h1 : top = [116]
          · exact .inl (by rw [h1]; rfl)
          · by_cases h2 : top = [110]
            · exact .inr (.inl (by rw [h2]; rfl))
            · by_cases h3 : top = [97]
              · exact .inr (.inr (.inl (by rw [h3]; rfl)))
              · by_cases h4 : top = [109]
                · exact .inr (.inr (.inr (by rw [h4]; rfl)))
                · exact absurd ⟨h1, h2, h3, h4⟩ h
      have deq : ∀ l : List Nat, decide (V.str (mkS top) = V.str (mkS l)) = decide (top = l) := mk_eq top
      have dsg : ∀ d : Nat, decide (V.str (mkS [c]) = V.str (mkS [d])) = decide (c = d) := fun d => by
        rw [mk_eq]
        exact decide_eq_decide.mpr (by simp)
      -- a sign of its own, or not
      by_cases c1 : top.length = 1
      focus
        rw [decide_eq_true c1]
        refine iteT ?_
        refine ⟨_, rfl, by show 4 ≤ sizeLine; decide, fun t4 nt4 => ?_⟩
        obtain ⟨H6, s6, h6, e6⟩ := lay (o := .tup [.str "t", .str "n", .str "a", .str "m"]) nt4
        rw [e6]
        refine ⟨t4, sts ["t", "n", "a", "m"], rfl, .inr (SqT.of h6), rfl, flat_sts _, _, rfl, ?_⟩
        rw [show (if true = true then !inV (.str (mkS top)) (sts ["t", "n", "a", "m"]) else inV (.str (mkS top)) (sts ["t", "n", "a", "m"])) = !decide (mkS top ∈ (["t", "n", "a", "m"] : List Str)) from by rw [if_pos rfl, inV_sts], dnot, Bool.not_not]
        have S6 := S5.trans s6
        have hrA6 := Same.seqT s6 hrA5
        have hdA6 := s6 _ _ hdA5
        by_cases c2 : top ≠ [116] ∧ top ≠ [110] ∧ top ≠ [97] ∧ top ≠ [109]
        focus
          rw [decide_eq_true c2]
          refine iteT ?_
          rw [if_pos ⟨c1, c2⟩] at E0
          refine ⟨_, rfl, _, rfl, rfl, _, rfl, ?_⟩
          rw [mk_eq]
          by_cases c3 : top = [c]
          · rw [if_pos c3] at E0
            rw [decide_eq_true c3.symm]
            refine iteT ?_
            exact ⟨_, rfl, by show 1 ≤ sizeLine; decide, ret1 q S6 hrA6 E0⟩
          · rw [if_neg c3] at E0
            rw [decide_eq_false (fun z => c3 z.symm)]
            refine iteF ?_
            exact ⟨by show 0 ≤ sizeLine; decide, ret0 q S6 E0⟩
        rw [decide_eq_false c2]
        refine iteF ?_
        have c12 : ¬ (top.length = 1 ∧ top ≠ [116] ∧ top ≠ [110] ∧ top ≠ [97] ∧ top ≠ [109]) := fun z => c2 z.2
        have SY := S6
        have hrY := hrA6
        have hdY := hdA6
        clear hrA6 hdA6 S6 s6 h6 e6
        generalize H6 = HY at SY hrY hdY ⊢
      rotate_left
      focus
        rw [decide_eq_false c1]
        refine iteF ?_
        refine iteF ?_
        have c12 : ¬ (top.length = 1 ∧ top ≠ [116] ∧ top ≠ [110] ∧ top ≠ [97] ∧ top ≠ [109]) := fun z => c1 z.1
        have SY := S5
        have hrY := hrA5
        have hdY := hdA5
        generalize H5 = HY at SY hrY hdY ⊢
      all_goals
        rw [if_neg c12] at E0
        refine ⟨_, rfl, rfl, _, rfl, ?_⟩
        rw [show (decide (V.str (mkS top) = V.str "t")) = decide (top = [116]) from deq [116]]
        by_cases ct : top = [116]
        focus
          rw [if_pos ct] at E0
          rw [decide_eq_true ct]
          refine iteT ?_
          refine ⟨_, rfl, rfl, _, rfl, ?_⟩
          rw [show (decide (V.str (mkS [c]) = V.str "'")) = decide (c = 39) from dsg 39]
          by_cases c39 : c = 39
          focus
            rw [decide_eq_true c39]
            refine iteT ?_
            exact ⟨_, rfl, ret1c (top := [110]) q SY hrY hlr rfl (by rw [E0, c39]; rfl)⟩
          rw [decide_eq_false c39]
          refine iteF ?_
          refine ⟨_, rfl, rfl, _, rfl, ?_⟩
          rw [show (decide (V.str (mkS [c]) = V.str ".")) = decide (c = 46) from dsg 46]
          by_cases c46 : c = 46
          focus
            rw [decide_eq_true c46]
            refine iteT ?_
            have E46 : stp (top :: rest) c = wdO.map fun x => dotR rest (cl x) := by rw [E0, c46, stT_wd]
            refine ⟨dA, _, hdY, trivial, fun od => ?_⟩
            obtain ⟨Hl, hlL, hlo, el⟩ : ∃ Hl, Hl dA = some (.frz od (.dK wdK)) ∧ (∀ b, b ≠ dA → Hl b = HY b) ∧ upd HY dA (.frz od (.dK wdK)) = Hl := ⟨_, upd_same, fun b hb => upd_ne hb, rfl⟩
            rw [el]
            have hrL := sqT_ne hrY hdY hlo
            refine ⟨_, rfl, dA, od, rfl, .inl ⟨_, hlL, fun D nD => ?_⟩⟩
            have DL : D ≠ dA := fun e => by rw [e, hlL] at nD; cases nD
            refine lc_it walk_keys (fun i H' => Same Hl H' ∧ ∃ ys, H' D = some (.lst ys) ∧ ys.length = i ∧ DpAll K (hid [D, dA] H') ys (((wdO.map fun x => dotR rest (cl x)).take i).map rowD)) ⟨same_new nD, [], upd_same, rfl, .nil⟩ (fun i H' _ ⟨s', _⟩ => s' _ _ hlL) ?_ ?_
            focus
              rintro i x H1' H2' hi ⟨s1', ys, hD, hyl, hdp⟩ ⟨rfl, k, v, hk, rfl⟩
              obtain ⟨w9, hw9, rfl, hw0⟩ := wd_keys hk
              have hwl := (rev_words w9 hw0).2.2
              refine ⟨rfl, ?_⟩
              refine ⟨_, rfl, _, rfl, w9, rfl, hw0, _, _, rfl, rfl, ?_, by show 4 ≤ sizeLine; decide, fun t nt => ?_⟩
              focus
                rw [sizeLine_eq]
                have : (mkS (cl w9).reverse).length = (cl w9).reverse.length := rfl
                rw [this, List.length_reverse]
                show 1 + _ ≤ _
                omega
              obtain ⟨G1, g1, k1, z1⟩ := lay (o := .tup [.str ")", .str "a", .str "(", .str (("." : Str) ++ mkS (cl w9).reverse)]) nt
              rw [z1]
              have sG := s1'.trans g1
              refine catA (Same.seqT sG hrL) (SqT.of k1) (by rw [rv_len, sizeLine_eq]; simp; omega) fun p G2 g2 hp2 => ?_
              have e9 : ("." : Str) ++ mkS (cl w9).reverse = mkS (46 :: (cl w9).reverse) := cl_inj (by rw [cl_app]; rfl)
              rw [e9, ← rv_dot] at hp2
              have hD2 := (g1.trans g2) _ _ hD
              have hL2 := (sG.trans g2) _ _ hlL
              have hi9 : i < 9 := hi
              refine ⟨_, hD2, by rw [hyl, sizeLine_eq]; omega, fun b o e => ?_, _, upd_same, by rw [List.length_append, hyl]; rfl, ?_⟩
              focus
                rw [upd_ne (ne_of_none e nD)]
                exact (sG.trans g2) _ _ e
              rw [take_at (l := wdO.map fun x => dotR rest (cl x)) (by rw [List.getElem?_map, hw9]; rfl), List.map_append]
              have bu : Bt [D, dA] H2' (upd G2 D (.lst (ys ++ [.ref p]))) := (bt_of (g1.trans g2)).trans (bt_upd (by simp))
              refine dps_app (dps_mono bu hdp) (.cons (dp_row ?_) .nil)
              refine Same.seqT (bt_upd (ps := [D, dA]) (H := G2) (a := D) (by simp)) (sqT_hid2 hp2 (fun a ha o => ?_) (fun a ha f o => ?_))
              focus
                rcases List.mem_cons.mp ha with rfl | ha
                · rw [hD2]; exact fun z => nomatch z
                · rw [List.mem_singleton.mp ha, hL2]; exact fun z => nomatch z
              focus
                rcases List.mem_cons.mp ha with rfl | ha
                · rw [hD2]; exact fun z => nomatch z
                · rw [List.mem_singleton.mp ha, hL2]; exact fun z => nomatch z
            rintro H3' ⟨s3', ys, hD3, hyl, hdp⟩
            refine ⟨s3' _ _ hlL, ?_⟩
            rw [List.take_of_length_le (by rw [List.length_map]; decide)] at hdp
            refine q D ys _ (fun b o e => ?_) (by rw [upd_ne DL]; exact hD3) ?_
            focus
              by_cases hb : b = dA
              · subst hb
                rw [upd_same, ← SY _ _ e, hdY]
              · rw [upd_ne hb]
                exact s3' _ _ ((hlo b hb).trans (SY _ _ e))
            rw [E46]
            refine dps_mono (fun b o e => ?_) hdp
            obtain ⟨e1, m1⟩ := hid_in e
            simp only [List.mem_cons, List.not_mem_nil, or_false, not_or] at m1
            exact hid_to (ni1 m1.1) (by rw [upd_ne m1.2]; exact e1)
          rw [decide_eq_false c46]
          refine iteF ?_
          refine ⟨_, rfl, _, rfl, c, _, rfl, rfl, _, rfl, ?_⟩
          rw [abc_lt]
          unfold stT at E0
          rw [if_neg c39, if_neg c46] at E0
          by_cases hc : ltB c = true
          focus
            rw [hc]
            refine iteT ?_
            rw [if_pos hc] at E0
            exact ⟨_, rfl, _, rfl, _, _, rfl, rfl, (by show 1 + 1 ≤ sizeLine; decide), ret1c (top := [116, c]) q SY hrY hlr rfl E0⟩
          rw [Bool.eq_false_iff.mpr hc]
          refine iteF ?_
          rw [if_neg hc] at E0
          exact ⟨by show 0 ≤ sizeLine; decide, ret0 q SY E0⟩
        rw [if_neg ct] at E0
        rw [decide_eq_false ct]
        refine iteF ?_
        refine ⟨_, rfl, rfl, _, rfl, ?_⟩
        rw [show (decide (V.str (mkS top) = V.str "n")) = decide (top = [110]) from deq [110]]
        by_cases cn : top = [110]
        focus
          rw [if_pos cn] at E0
          rw [decide_eq_true cn]
          refine iteT ?_
          refine ⟨_, rfl, _, rfl, c, _, rfl, rfl, _, rfl, ?_⟩
          rw [abc_lt]
          by_cases hc : ltB c = true
          focus
            rw [hc]
            refine iteT ?_
            rw [if_pos hc] at E0
            exact ⟨_, rfl, _, rfl, _, _, rfl, rfl, (by show 1 + 1 ≤ sizeLine; decide), ret1c (top := [110, c]) q SY hrY hlr rfl E0⟩
          rw [Bool.eq_false_iff.mpr hc]
          refine iteF ?_
          rw [if_neg hc] at E0
          exact ⟨by show 0 ≤ sizeLine; decide, ret0 q SY E0⟩
        rw [if_neg cn] at E0
        rw [decide_eq_false cn]
        refine iteF ?_
        obtain ⟨h0, w0, etop⟩ : ∃ h0 w0, top = h0 :: w0 := by
          cases htop : top with
          | nil => exact absurd htop htne
          | cons a b => exact ⟨a, b, rfl⟩
        have hat : atI (mkS top).cps.toList ((0 : Nat) : Int) = some h0 := atI_nat (by rw [etop]; rfl)
        have dh : ∀ d : Nat, decide (V.str (mkS [h0]) = V.str (mkS [d])) = decide (top.head? = some d) := fun d => by
          rw [mk_eq, etop]
          exact decide_eq_decide.mpr (by simp)
        have lenS : (mkS top).length ≤ sizeLine := by rw [lenT, sizeLine_eq]; omega
        refine ⟨_, rfl, mkS top, 0, h0, rfl, rfl, lenS, hat, rfl, _, rfl, ?_⟩
        rw [show (decide (V.str ⟨#[h0]⟩ = V.str ".")) = decide (top.head? = some 46) from dh 46]
        by_cases cd : top.head? = some 46
        focus
          rw [if_pos cd] at E0
          rw [decide_eq_true cd]
          refine iteT ?_
          obtain ⟨cl0, hcl⟩ : ∃ x, top.getLast? = some x := ⟨_, List.getLast?_eq_some_getLast htne⟩
          refine ⟨_, rfl, _, rfl, 1, rfl, mkS top, -1, cl0, rfl, rfl, lenS, atI_last hcl, rfl, _, rfl, ?_⟩
          rw [show (decide (V.str (mkS [c]) = V.str ⟨#[cl0]⟩)) = decide (c = cl0) from dsg cl0]
          rw [hcl] at E0
          by_cases ccl : c = cl0
          focus
            rw [decide_eq_true ccl]
            refine iteT ?_
            rw [if_pos (by rw [ccl])] at E0
            refine ⟨_, rfl, _, rfl, ?_⟩
            refine ⟨1, rfl, -1, rfl, mkS top, rfl, lenS, by show 1 ≤ sizeLine; decide, fun t nt => ?_⟩
            rw [cutS_init]
            obtain ⟨G1, g1, k1, z1⟩ := lay (o := .tup [.str (mkS top.dropLast)]) nt
            rw [z1]
            refine ⟨_, rfl, mkS top, rfl, lenS, _, _, rfl, rfl, .inr ⟨_, rfl, ?_⟩⟩
            have dk : decide ((2 : Int) < ((mkS top).length : Int)) = decide (2 < top.length) := decide_eq_decide.mpr (by rw [lenT]; omega)
            rw [dk]
            by_cases cl2 : 2 < top.length
            focus
              rw [if_pos cl2] at E0
              rw [decide_eq_true cl2]
              refine ⟨t, 1, _, rfl, rfl, SqT.of k1, by simp, .inr rfl, fun _ => ?_, fun z => absurd z (by decide)⟩
              refine catA (Same.seqT g1 hrY) (SqT.of k1) (by rw [rv_len, sizeLine_eq]; simp; omega) fun p G2 g2 hp2 => ⟨by show 1 ≤ sizeLine; decide, ?_⟩
              rw [← rv_cons] at hp2
              exact ret1 q ((SY.trans g1).trans g2) hp2 E0
            rw [if_neg cl2] at E0
            rw [decide_eq_false cl2]
            refine ⟨t, 0, _, rfl, rfl, SqT.of k1, by simp, .inl rfl, fun z => absurd z (by decide), fun _ pz npz => ?_⟩
            obtain ⟨G2, g2, k2, z2⟩ := lay (o := .tup []) npz
            rw [z2]
            refine catA (Same.seqT (g1.trans g2) hrY) (SqT.of k2) (by rw [rv_len, sizeLine_eq]; simp; omega) fun p G3 g3 hp3 => ⟨by show 1 ≤ sizeLine; decide, ?_⟩
            rw [List.append_nil] at hp3
            exact ret1 q (((SY.trans g1).trans g2).trans g3) hp3 E0
          rw [decide_eq_false ccl]
          refine iteF ?_
          rw [if_neg (fun z => ccl (Option.some.inj z).symm)] at E0
          exact ⟨by show 0 ≤ sizeLine; decide, ret0 q SY E0⟩
        rw [if_neg cd] at E0
        rw [decide_eq_false cd]
        refine iteF ?_
        have hsr := sml_tl hsm
        refine ⟨_, rfl, rfl, _, rfl, ?_⟩
        rw [show (decide (V.str (mkS top) = V.str "a")) = decide (top = [97]) from deq [97]]
        by_cases ca : top = [97]
        focus
          rw [if_pos ca] at E0
          rw [decide_eq_true ca]
          refine iteT ?_
          obtain ⟨q0, erest⟩ : ∃ q0, rest = [41] :: q0 := by
            rcases hto with ⟨x, e, hx⟩ | ⟨e | e, _⟩ | ⟨_, h⟩ | ⟨h, w, e, hw, _⟩ | ⟨w, e, _⟩
            · rw [ca] at e
              have := List.cons.inj e
              have hx2 := hx.ne
              omega
            · exact absurd e ct
            · exact absurd e cn
            · exact h
            · rw [ca] at e
              exact absurd (List.cons.inj e).2.symm hw
            · rw [ca] at e
              exact absurd (List.cons.inj e).1 (by decide)
          have hz1 : 1 ≤ z := by
            have : rk (top :: rest) = 1 := by rw [ca]; rfl
            omega
          have rk0 : rk rest < z := by
            have : rk rest = 0 := by rw [erest]; rfl
            omega
          refine ⟨_, rfl, _, rfl, rA, c, rest, rfl, hrY, hwr, hsr, rk0, hlz, fun l1 ys1 J1 g1 k1 d1 => ?_⟩
          refine ⟨_, rfl, by show 2 ≤ sizeLine; decide, fun t nt => ?_⟩
          obtain ⟨J2, g2, k2, z2⟩ := lay (o := .tup [.str "m", .str "t"]) nt
          rw [z2]
          refine catA (Same.seqT (g1.trans g2) hrY) (SqT.of k2) (by rw [rv_len, sizeLine_eq]; simp; omega) fun p J3 g3 hp3 => ?_
          have hp4 : SqT K J3 p (rv ([116] :: [109] :: rest)) := by
            rw [rv_cons, rv_cons, List.append_assoc]
            exact hp3
          have wf4 : Wf ([116] :: [109] :: rest) := wf_nx_t (.inr ⟨[109], rest, rfl, .inr (.inr ⟨rfl, q0, erest⟩)⟩) ⟨.inr (.inr (.inl ⟨.inr rfl, q0, erest⟩)), hwr⟩
          have sm4 : Sml ([116] :: [109] :: rest) := sml_cons (sml_one (by decide)) (sml_cons (sml_one (by decide)) hsr)
          refine ⟨_, rfl, p, c, [116] :: [109] :: rest, rfl, hp4, wf4, sm4, by show 0 < z; omega, by simp only [List.length_cons] at hln ⊢; omega, fun l2 ys2 J4 g4 k4 d4 => ?_⟩
          rw [stp_t] at d4
          have n1 : ys1.length ≤ 9 := by
            rw [dps_len d1, List.length_map]
            exact (stp_nxt hwr).len
          have n2 : ys2.length ≤ 9 := by
            rw [dps_len d4, List.length_map, ← stp_t]
            exact (stp_nxt wf4).len
          have k1' := ((g2.trans g3).trans g4) _ _ k1
          refine ⟨l1, l2, ys1, ys2, rfl, rfl, k1', k4, by rw [sizeLine_eq]; omega, fun l nl => ?_⟩
          obtain ⟨J5, g5, k5, z5⟩ := lay (o := .lst (ys1 ++ ys2)) nl
          rw [z5]
          refine q l _ J5 (SY.trans ((g1.trans ((g2.trans g3).trans g4)).trans g5)) k5 ?_
          rw [E0, List.map_append]
          exact dps_app (dps_fresh28 d1 ((g2.trans g3).trans g4) nl g5) (dps_fresh28 d4 (Same.refl _) nl g5)
        rw [if_neg ca] at E0
        rw [decide_eq_false ca]
        refine iteF ?_
        refine ⟨_, rfl, rfl, _, rfl, ?_⟩
        rw [show (decide (V.str (mkS top) = V.str "m")) = decide (top = [109]) from deq [109]]
        by_cases cm : top = [109]
        focus
          rw [if_pos cm] at E0
          rw [decide_eq_true cm]
          refine iteT ?_
          obtain ⟨q0, erest⟩ : ∃ q0, rest = [41] :: q0 := by
            rcases hto with ⟨x, e, hx⟩ | ⟨e | e, _⟩ | ⟨_, h⟩ | ⟨h, w, e, hw, _⟩ | ⟨w, e, _⟩
            · rw [cm] at e
              have := List.cons.inj e
              have hx2 := hx.ne
              omega
            · exact absurd e ct
            · exact absurd e cn
            · exact h
            · rw [cm] at e
              exact absurd (List.cons.inj e).2.symm hw
            · rw [cm] at e
              exact absurd (List.cons.inj e).1 (by decide)
          have hz1 : 1 ≤ z := by
            have : rk (top :: rest) = 1 := by rw [cm]; rfl
            omega
          have rk0 : rk rest < z := by
            have : rk rest = 0 := by rw [erest]; rfl
            omega
          refine ⟨_, rfl, _, rfl, rA, c, rest, rfl, hrY, hwr, hsr, rk0, hlz, fun l1 ys1 J1 g1 k1 d1 => ?_⟩
          have n1 : ys1.length ≤ 9 := by
            rw [dps_len d1, List.length_map]
            exact (stp_nxt hwr).len
          refine ⟨_, rfl, rfl, _, rfl, ?_⟩
          rw [show (decide (V.str (mkS [c]) = V.str ",")) = decide (c = 44) from dsg 44]
          by_cases c44 : c = 44
          focus
            rw [if_pos c44] at E0
            rw [decide_eq_true c44]
            refine iteT ?_
            refine ⟨_, rfl, by show 2 ≤ sizeLine; decide, fun t nt => ?_⟩
            obtain ⟨J2, g2, k2, z2⟩ := lay (o := .tup [.str "t", .str " "]) nt
            rw [z2]
            refine catA (Same.seqT (g1.trans g2) hrY) (SqT.of k2) (by rw [rv_len, sizeLine_eq]; simp; omega) fun p J3 g3 hp3 => ⟨by show 1 ≤ sizeLine; decide, fun l2 nl2 => ?_⟩
            obtain ⟨J4, g4, k4, z4⟩ := lay (o := .lst [.ref p]) nl2
            rw [z4]
            have hp4 : SqT K J3 p (rv ([32] :: [116] :: rest)) := by
              rw [rv_cons, rv_cons, List.append_assoc]
              exact hp3
            have k1' := ((g2.trans g3).trans g4) _ _ k1
            refine ⟨l1, l2, ys1, _, rfl, rfl, k1', k4, by rw [sizeLine_eq]; simp; omega, fun l nl => ?_⟩
            obtain ⟨J5, g5, k5, z5⟩ := lay (o := .lst (ys1 ++ [.ref p])) nl
            rw [z5]
            refine q l _ J5 (SY.trans ((g1.trans ((g2.trans g3).trans g4)).trans g5)) k5 ?_
            rw [E0, List.map_append]
            refine dps_app (dps_fresh28 d1 ((g2.trans g3).trans g4) nl g5) (.cons (dp_row ?_) .nil)
            have hp5 := Same.seqT (g4.trans g5) hp4
            exact sqT_hid2 hp5 (fun a ha o => by rw [List.mem_singleton.mp ha, k5]; exact fun z => nomatch z) (fun a ha f o => by rw [List.mem_singleton.mp ha, k5]; exact fun z => nomatch z)
          rw [if_neg c44, List.append_nil] at E0
          rw [decide_eq_false c44]
          refine iteF ?_
          refine ⟨by show 0 ≤ sizeLine; decide, fun l2 nl2 => ?_⟩
          obtain ⟨J4, g4, k4, z4⟩ := lay (o := .lst []) nl2
          rw [z4]
          refine ⟨l1, l2, ys1, _, rfl, rfl, g4 _ _ k1, k4, by rw [sizeLine_eq]; simp; omega, fun l nl => ?_⟩
          obtain ⟨J5, g5, k5, z5⟩ := lay (o := .lst (ys1 ++ [])) nl
          rw [z5]
          refine q l _ J5 (SY.trans ((g1.trans g4).trans g5)) k5 ?_
          rw [E0, List.append_nil]
          exact dps_fresh28 d1 g4 nl g5
        rw [if_neg cm] at E0
        rw [decide_eq_false cm]
        refine iteF ?_
        have hNx : Nx rest := by
          rcases hto with ⟨x, e, hx⟩ | ⟨e | e, _⟩ | ⟨e | e, _⟩ | ⟨h, w, e, hw, _, _, hN⟩ | ⟨w, e, _⟩
          · exact absurd ⟨by rw [e]; rfl, by rw [e]; simpa using hx.ne.1, by rw [e]; simpa using hx.ne.2.1, by rw [e]; simpa using hx.ne.2.2.1, by rw [e]; simpa using hx.ne.2.2.2⟩ c12
          · exact absurd e ct
          · exact absurd e cn
          · exact absurd e ca
          · exact absurd e cm
          · exact hN
          · exact absurd (by rw [e]; rfl) cd
        have rkr : rk rest < z := by
          have l2 : 2 ≤ top.length := by
            rcases Nat.lt_or_ge top.length 2 with h | h
            · have h1 : top.length = 1 := by rw [etop, List.length_cons] at h ⊢; omega
              exact absurd ⟨h1, ct, cn, ca, cm⟩ c12
            · exact h
          have : rk (top :: rest) = 2 := by
            show (if top = [97] ∨ top = [109] then 1 else if 2 ≤ top.length ∧ top.head? ≠ some 46 then 2 else 0) = 2
            rw [if_neg (fun h => h.elim ca cm), if_pos ⟨l2, cd⟩]
          have := rk_nx hNx
          omega
        refine ⟨_, rfl, _, rfl, c, _, rfl, rfl, _, rfl, ?_⟩
        rw [abc_lt]
        by_cases hc : ltB c = true
        focus
          rw [if_pos hc] at E0
          rw [hc]
          refine iteT ?_
          refine ⟨_, rfl, mkS top, rfl, lenS, _, _, rfl, rfl, _, rfl, ?_⟩
          rw [show decide (((mkS top).length : Int) < 9) = decide (top.length < 9) from decide_eq_decide.mpr (by rw [lenT]; omega)]
          by_cases c9 : top.length < 9
          focus
            rw [if_pos c9] at E0
            rw [decide_eq_true c9]
            refine iteT ?_
            exact ⟨_, rfl, _, rfl, _, rfl, _, _, rfl, rfl, (by
              have : (mkS [c]).length = 1 := rfl
              rw [lenT, this, sizeLine_eq]; omega), ret1c (top := top ++ [c]) q SY hrY hlr (by rw [show mkS (top ++ [c]) = mkS top ++ mkS [c] from cl_inj (by rw [cl_app]; rfl)]) E0⟩
          rw [if_neg c9] at E0
          rw [decide_eq_false c9]
          refine iteF ?_
          exact ⟨by show 0 ≤ sizeLine; decide, ret0 q SY E0⟩
        rw [if_neg hc] at E0
        rw [Bool.eq_false_iff.mpr hc]
        refine iteF ?_
        refine ⟨_, rfl, mkS top, 0, h0, rfl, rfl, lenS, hat, rfl, _, rfl, ?_⟩
        rw [show (decide (V.str ⟨#[h0]⟩ = V.str "n")) = decide (top.head? = some 110) from dh 110]
        by_cases cnn : top.head? = some 110
        focus
          rw [if_pos cnn] at E0
          rw [decide_eq_true cnn]
          refine iteT ?_
          exact ⟨_, rfl, _, rfl, rA, c, rest, rfl, hrY, hwr, hsr, rkr, hlz, fun l ys J s k d => q l ys J (SY.trans s) k (by rw [E0]; exact d)⟩
        rw [if_neg cnn] at E0
        rw [decide_eq_false cnn]
        refine iteF ?_
        refine ⟨_, rfl, rfl, _, rfl, ?_⟩
        rw [show (decide (V.str (mkS [c]) = V.str "(")) = decide (c = 40) from dsg 40]
        by_cases c40 : c = 40
        rotate_left
        focus
          rw [if_pos c40] at E0
          rw [decide_eq_false c40]
          refine iteT ?_
          exact ⟨_, rfl, _, rfl, rA, c, rest, rfl, hrY, hwr, hsr, rkr, hlz, fun l ys J s k d => q l ys J (SY.trans s) k (by rw [E0]; exact d)⟩
        rw [if_neg (fun z => z c40)] at E0
        rw [decide_eq_true c40]
        refine iteF ?_
        refine ⟨_, rfl, 1, rfl, mkS top, rfl, lenS, ?_⟩
        rw [cutS_tail]
        have hget : DGet HY dA (kV (.inr (mkS top.tail) : Key)) (valV wdK (.inr (mkS top.tail) : Key)) := DGet.k (k := .inr (mkS top.tail)) hdY
        rw [wd_val] at hget
        rw [wd_look] at E0
        refine ⟨_, rfl, dA, _, rfl, hget, _, rfl, ?_⟩
        cases hps : wdP.lookup (mkS top.tail) with
        | none =>
          rw [hps] at E0
          refine iteF ?_
          refine ⟨_, rfl, by show 2 ≤ sizeLine; decide, fun t nt => ?_⟩
          obtain ⟨J2, g2, k2, z2⟩ := lay (o := .tup [.str ")", .str "a"]) nt
          rw [z2]
          refine catA (Same.seqT g2 hrY) (SqT.of k2) (by rw [rv_len, sizeLine_eq]; simp; omega) fun p J3 g3 hp3 => ⟨by show 1 ≤ sizeLine; decide, ?_⟩
          have hp4 : SqT K J3 p (rv ([97] :: [41] :: rest)) := by
            rw [rv_cons, rv_cons, List.append_assoc]
            exact hp3
          exact ret1 q ((SY.trans g2).trans g3) hp4 E0
        | some ps =>
          rw [hps] at E0 hget
          refine iteT ?_
          have hpm : (mkS top.tail, ps) ∈ wdP := by
            have : ∀ (m : List (Str × Str)), m.lookup (mkS top.tail) = some ps → (mkS top.tail, ps) ∈ m := by
              intro m
              induction m with
              | nil => intro h; cases h
              | cons q m ih =>
                intro h
                rw [List.lookup_cons] at h
                by_cases e : (mkS top.tail == q.1) = true
                · rw [e] at h
                  obtain rfl := Option.some.inj h
                  rw [beq_iff_eq.mp e]
                  exact List.mem_cons_self
                · rw [Bool.eq_false_iff.mpr e] at h
                  exact List.mem_cons_of_mem _ (ih h)
            exact this _ hps
          have hpl : 1 ≤ (cl ps).length ∧ (cl ps).length ≤ 3 := (show ∀ q ∈ wdP, 1 ≤ (cl q.2).length ∧ (cl q.2).length ≤ 3 by decide +kernel) _ hpm
          refine ⟨_, rfl, _, rfl, 1, rfl, mkS top, rfl, lenS, ?_⟩
          rw [cutS_tail]
          refine ⟨dA, _, rfl, hget, ps, rfl, by rw [sizeLine_eq]; omega, fun pA npA => ?_⟩
          obtain ⟨J1, g1, k1, z1⟩ := lay (o := .lst ((cl ps).map fun c => V.str ⟨#[c]⟩)) npA
          rw [z1]
          refine ⟨by show 1 ≤ sizeLine; decide, fun rwA nrw => ?_⟩
          obtain ⟨J2, g2, k2, z2⟩ := lay (o := .lst [.str ")"]) nrw
          rw [z2]
          have k1' := g2 _ _ k1
          have S2 := (SY.trans g1).trans g2
          have hr2 := Same.seqT (g1.trans g2) hrY
          have llen : ((cl ps).map fun c => V.str ⟨#[c]⟩).length = (cl ps).length := List.length_map _
          have rg : RgC ((((cl ps).map fun c => V.str ⟨#[c]⟩).length : Int) - 1) (-1) (-1) (cl ps).length := by
            have := RgC.neg (i := (((cl ps).map fun c => V.str ⟨#[c]⟩).length : Int) - 1) (j := -1) (by omega) (by omega) (by decide) (by decide)
            rw [show ((((cl ps).map fun c => V.str ⟨#[c]⟩).length : Int) - 1 - -1).toNat = (cl ps).length by omega] at this
            exact this
          refine ⟨_, rfl, pA, _, rfl, .inl (SqL.of k1'), _, _, rfl, rfl, 1, rfl, 1, rfl, _, _, _, (cl ps).length, rfl, rg, ?_⟩
          rw [llen]
          refine for_it walk_rangeC (fun i σ H' => ∃ (l : Addr) (o8 : Option V), σ = [some (.ref p), some (.str (mkS [c])), some (.str (mkS top)), some (.ref rA), some (.str "abcdefghijklmnopqrstuvwxyz"), some (.ref dA), some (.ref pA), some (.ref l), o8, none] ∧ Same J2 H' ∧ H' l = some (.lst ((upR (cl ps) i).map fun t => V.str (mkS t)))) ⟨rwA, none, rfl, Same.refl _, k2⟩ (fun _ _ _ _ _ => trivial) ?_ ?_
          rotate_left
          focus
            rintro σ H' ⟨l, o8, rfl, sH, hl⟩
            refine ⟨_, rfl, _, rfl, l, _, rfl, .inl ⟨SqL.of hl, fun t nt => ?_⟩⟩
            obtain ⟨G1, g3, k3, z3⟩ := lay (o := .tup ((upR (cl ps) (cl ps).length).map fun t => V.str (mkS t))) nt
            rw [z3]
            have hul : (upR (cl ps) (cl ps).length).length ≤ 100 := (show ∀ q ∈ wdP, (upR (cl q.2) (cl q.2).length).length ≤ 100 by decide +kernel) _ hpm
            refine catA (Same.seqT (sH.trans g3) hr2) (SqT.of k3) (by rw [rv_len, List.length_map]; exact Nat.le_trans (Nat.add_le_add hlr hul) (by decide)) fun p' G2 g4 hp4 => ⟨by show 1 ≤ sizeLine; decide, ?_⟩
            have hp5 : SqT K G2 p' (rv ((upR (cl ps) (cl ps).length).reverse ++ rest)) := by
              unfold rv at hp4 ⊢
              rw [List.reverse_append, List.reverse_reverse, List.map_append]
              exact hp4
            exact ret1 q (((S2.trans sH).trans g3).trans g4) hp5 E0
          rintro i x σ G0 G0' hi ⟨l, o8, rfl, sH, hl⟩ ⟨rfl, rfl⟩
          have hik : (cl ps).length - 1 - i < (cl ps).length := by omega
          have eix : ((cl ps).length : Int) - 1 + (i : Nat) * -1 = (((cl ps).length - 1 - i : Nat) : Int) := by omega
          have hpart := sH _ _ k1'
          have hgd : (cl ps)[(cl ps).length - 1 - i]? = some ((cl ps).getD ((cl ps).length - 1 - i) 0) := by
            rw [List.getElem?_eq_getElem hik]
            congr 1
            simp [List.getD, List.getElem?_eq_getElem hik]
          rw [show (fun i : Nat => V.int (((cl ps).length : Int) - 1 + (i : Int) * -1)) i = V.int (((cl ps).length - 1 - i : Nat) : Int) from congrArg V.int eix]
          refine ⟨_, rfl, _, rfl, _, rfl, pA, _, _, .str ⟨#[(cl ps).getD ((cl ps).length - 1 - i) 0]⟩, rfl, rfl, SqL.of hpart, atI_nat (by rw [List.getElem?_map, hgd]; rfl), by show 1 ≤ sizeLine; decide, fun t nt => ?_⟩
          obtain ⟨G1, g3, k3, z3⟩ := lay (o := .lst [.str ⟨#[(cl ps).getD ((cl ps).length - 1 - i) 0]⟩]) nt
          rw [z3]
          have hul : ∀ j ≤ (cl ps).length, (upR (cl ps) j).length ≤ 100 := (show ∀ q ∈ wdP, ∀ j ≤ (cl q.2).length, (upR (cl q.2) j).length ≤ 100 by decide +kernel) _ hpm
          have hui := hul i (by omega)
          refine ⟨l, t, _, _, rfl, rfl, g3 _ _ hl, k3, by rw [List.length_map, sizeLine_eq]; simp; omega, fun l2 nl2 => ?_⟩
          obtain ⟨G2, g4, k4, z4⟩ := lay (o := .lst (((upR (cl ps) i).map fun t => V.str (mkS t)) ++ [.str ⟨#[(cl ps).getD ((cl ps).length - 1 - i) 0]⟩])) nl2
          rw [z4]
          refine ⟨by show 2 ≤ sizeLine; decide, fun t2 nt2 => ?_⟩
          obtain ⟨G3, g5, k5, z5⟩ := lay (o := .lst [.str " ", .str ","]) nt2
          rw [z5]
          refine ⟨_, rfl, _, _, rfl, rfl, .inr ⟨_, rfl, ?_⟩⟩
          have dpos : decide ((0 : Int) < (((cl ps).length - 1 - i : Nat) : Int)) = decide (0 < (cl ps).length - 1 - i) := decide_eq_decide.mpr (by omega)
          rw [dpos]
          have erep : (List.replicate (if decide (0 < (cl ps).length - 1 - i) = true then (1 : Int) else 0).toNat [V.str " ", .str ","]).flatten = ((if 0 < (cl ps).length - 1 - i then [[32], [44]] else [] : GB.Row).map fun t => V.str (mkS t)) := by
            by_cases h : 0 < (cl ps).length - 1 - i
            · rw [decide_eq_true h, if_pos rfl, if_pos h]; rfl
            · rw [decide_eq_false h, if_neg Bool.false_ne_true, if_neg h]; rfl
          refine ⟨t2, _, _, rfl, rfl, k5, by split <;> decide, by split <;> decide, by (rw [sizeLine_eq]; split <;> decide), fun t3 nt3 => ?_⟩
          rw [erep]
          obtain ⟨G4, g6, k6, z6⟩ := lay (o := .lst ((if 0 < (cl ps).length - 1 - i then [[32], [44]] else [] : GB.Row).map fun t => V.str (mkS t))) nt3
          rw [z6]
          have k4' := (g5.trans g6) _ _ k4
          have hui1 := hul (i + 1) (by omega)
          refine ⟨l2, t3, _, _, rfl, rfl, k4', k6, ?_, fun l4 nl4 => ?_⟩
          focus
            rw [sizeLine_eq]
            split <;> simp <;> omega
          have eup : (((upR (cl ps) i).map fun t => V.str (mkS t)) ++ [.str ⟨#[(cl ps).getD ((cl ps).length - 1 - i) 0]⟩]) ++ ((if 0 < (cl ps).length - 1 - i then [[32], [44]] else [] : GB.Row).map fun t => V.str (mkS t)) = (upR (cl ps) (i + 1)).map fun t => V.str (mkS t) := by
            rw [upR, List.map_append, List.map_append]
            rfl
          rw [eup]
          obtain ⟨G5, g7, k7, z7⟩ := lay (o := .lst ((upR (cl ps) (i + 1)).map fun t => V.str (mkS t))) nl4
          rw [z7]
          exact ⟨l4, _, rfl, (((((sH.trans g3).trans g4).trans g5).trans g6).trans g7), k7⟩
end
end K28
set_option Elab.async false
set_option linter.all false
set_option autoImplicit false
set_option maxRecDepth 100000
set_option maxHeartbeats 16000000
namespace GB
open PySem PySem.Spec L2
def plV (T : Str) : V := match plc [[[116]]] (cl T) with
  | none => .non
  | some k => .int (((cl T).length - k : Nat) : Int)
theorem tupO_row (s : Row) : tupO (rowD s) = true := by
  unfold rowD
  show tupOs _ = true
  generalize s.reverse = l
  induction l with
  | nil => rfl
  | cons a l ih => rw [List.map_cons, tupOs, ih]; rfl
theorem tupOs_rows (l : List Row) : tupOs (l.map rowD) = true := by
  induction l with
  | nil => rfl
  | cons a l ih => rw [List.map_cons, tupOs, ih, tupO_row]; rfl
theorem dp_row_inv {K : PySem.W.Frag} {H : Hp} {v : V} {s : Row} (h : Dp K H v (rowD s)) : ∃ p, v = .ref p ∧ SqT K H p (rv s) := by
  unfold rowD at h
  cases h with
  | @tup p xs _ hs hall =>
    refine ⟨p, rfl, ?_⟩
    have : ∀ (l : Row) (xs : List V), DpAll K H xs (l.map fun l => PyData.str (mkS l)) → xs = l.map fun l => V.str (mkS l) := by
      intro l
      induction l with
      | nil => intro xs h; cases h; rfl
      | cons a l ih =>
        intro xs h
        cases h with
        | cons h1 h2 =>
          cases h1
          rw [ih _ h2]
          rfl
    rw [this _ _ hall] at hs
    exact hs
def rLenQ (K : PySem.W.Frag) : List V → Hp → VK → Prop := fun xs H Q => ∃ p ys, xs = [V.ref p] ∧ (SqL K H p ys ∨ SqT K H p ys) ∧ Q (V.int (ys.length : Int)) H
def foldR (c : Nat) (S acc : List Row) : List Row := S.foldl (fun later s => later ++ (stp s c).filter (fun x => !decide (x ∈ later))) acc
theorem foldR_snoc (c : Nat) (S : List Row) (s : Row) (acc : List Row) : foldR c (S ++ [s]) acc = foldR c S acc ++ (stp s c).filter (fun x => !decide (x ∈ foldR c S acc)) := by
  unfold foldR
  rw [List.foldl_append]
  rfl
end GB
namespace K28
open PySem PySem.Spec L2 GB
abbrev sPl : Stmt := topS 50
def plN : List Str := ["_law_text_here", "_law_states", "_law_at", "_law_later", "_law_state", "_law_ends", "_law_x"]
def spPlace : Sp := fun vs H Q _ => ∃ T : Str, vs = [.str T] ∧ (cl T).length ≤ 1000 ∧ ∀ H', Same H H' → Q (plV T) H'
section
variable {P : Program} {w : World} {K : PySem.W.Frag} {mg : Str → Option Value} {base : Heap}
theorem scPl : FnScope plN ["_law_text_here"] (defScope sPl) := ⟨rfl, rfl, rfl, by decide +kernel, rfl, by decide +kernel, by decide +kernel⟩
theorem ok_pl {f : Addr} {fd : FuncData} (F : Fun K "_law_place" "_law_place" sPl f fd) (T : Bl mg) (ST : Fns P w K mg base "_law_step" 5 ["_law_state", "_law_sign"] (spStep K 3)) : FnOk P w K mg base CX0 6 f fd ["_law_text_here"] spPlace := by
  refine F.ok scPl (fun vs H Q E h => ?_) (fun cdv A outer s H vs Q E hr h => ?_)
  · obtain ⟨TT, rfl, _⟩ := h
    rfl
  · obtain ⟨TT, rfl, hlen, q⟩ := h
    have hu65 : (A.deeper (PyProof.Rows.envOfC "_law_place" (defScope sPl) s.heap.objs.size f cdv)).units + 65 < cLine := by have := hr.un; omega
    have hu64 : (A.deeper (PyProof.Rows.envOfC "_law_place" (defScope sPl) s.heap.objs.size f cdv)).units + 64 < cLine := by have := hr.un; omega
    refine ⟨_, (pss_cons (ps_set (i := 1) scPl.nd rfl (.inl rfl) (pe_lst (pa_cons (pe_tup (pa_cons pe_str pa_nil)) pa_nil)))
        (pss_cons (ps_for PassesOwn.never rfl (pi_range1 rfl T.range (pa_cons (pe_callB call_len_str (by rfl) T.len PySem.boot_len (pa_cons (pv 0) pa_nil)) pa_nil)) (pg_name (i := 2) scPl.nd rfl (.inl rfl)) (pss_cons (ps_set (i := 3) scPl.nd rfl (.inr rfl) (pe_lst pa_nil))
        (pss_cons (ps_for PassesOwn.never rfl (pi_list (pv 1)) (pg_name (i := 4) scPl.nd rfl (.inl rfl)) (pss_one (ps_expr (pe_bm PySem.F.plainAttrs_list PySem.F.slot_list_extend PySem.F.type_list_extend mt_extend (pv 3) (pa_cons (pe_lc (own := [("_law_x", 6)]) (g := gName 6) (tt := tTest (tOp (rNotInD K) (tVar 6) (tVar 3))) rfl scPl.nd (pi_list (pe_fn ST hr (by decide) rfl (pa_cons (pv 4) (pa_cons (pe_ix ix_str (pv 0) (pv 2) (fun _ _ => rfl)) pa_nil)))) (blkOk_by (own := [("_law_x", 6)]) (N := plN) (sc := defScope sPl) (by decide +kernel)) (fun _ _ _ _ _ => pg_name (i := 6) scPl.nd rfl (.inl rfl)) (fun _ _ _ _ _ => pts_one (pt_cmpR (op_notInD hu65) (pv 6) (pv 3) (by rfl))) (fun _ _ _ _ _ => pv 6)) pa_nil)))))
        (pss_cons (ps_if (pt_cmpR (op_eqD hr.units) (pv 3) (pe_lst pa_nil) (nomark _)) (pss_one (ps_ret (pv 2))) pss_nil)
        (pss_one (ps_set (i := 1) scPl.nd rfl (.inl rfl) (pe_callTy (call_list_of) (by rfl) T.list (by decide +kernel) (pa_cons (pv 3) pa_nil))))))))
        (pss_cons (ps_setLc (i := 5) (own := [("_law_state", 4)]) (g := gName 4) rfl scPl.nd rfl rfl (sw_true rfl rfl rfl (by decide +kernel)) (pi_list (pv 1)) (blkOk_by (own := [("_law_state", 4)]) (N := plN) (sc := defScope sPl) (by decide +kernel)) (fun _ _ _ _ _ => pg_name (i := 4) scPl.nd rfl (.inl rfl)) (fun _ _ _ _ _ => pts_one (PW.pt (pw_or (pt_cmpR (r := rEqD K) (op_eqD hu64) (pv 4) (pe_tup pa_nil) (nomark _)) (pw_or1 (PW.pt (pw_and (pt_cmpR op_eq (pe_callB (r := rLenQ K) call_len_seq (by rfl) T.len PySem.boot_len (pa_cons (pv 4) pa_nil)) pe_int (nomark _)) (pw_and (pt_cmpR op_in_sign (pe_ix ix_str (pe_ix (r := rIx K) ix_seq (pv 4) (pe_int) (fun _ _ => rfl)) (pe_int) (fun _ _ => rfl)) pe_str (by rfl)) (pw_and1 (pt_cmpR op_gt (pe_callB call_len_str (by rfl) T.len PySem.boot_len (pa_cons (pe_ix (r := rIx K) ix_seq (pv 4) (pe_int) (fun _ _ => rfl)) pa_nil)) pe_int (nomark _)))))))))) (fun _ _ _ _ _ => pv 4))
        (pss_one (ps_ret (pe_ifExp (pt_cmpR (op_neD hr.units) (pv 5) (pe_lst pa_nil) (nomark _)) pe_non (pe_callB call_len_str (by rfl) T.len PySem.boot_len (pa_cons (pv 0) pa_nil)))))))), ?_⟩
    refine ⟨by show 1 ≤ sizeLine; decide, fun t0 nt0 => ?_⟩
    obtain ⟨J1, s1, h1, e1⟩ := lay (o := .tup [.str "t"]) nt0
    rw [e1]
    refine ⟨by show 1 ≤ sizeLine; decide, fun a0 na0 => ?_⟩
    obtain ⟨J2, s2, h2, e2⟩ := lay (o := .lst [.ref t0]) na0
    rw [e2]
    have eT : TT.length = (cl TT).length := cl_len TT
    have lenS : TT.length ≤ sizeLine := by rw [eT, sizeLine_eq]; omega
    have a0t : t0 ≠ a0 := ne_of_none h1 na0
    refine ⟨_, rfl, TT, rfl, lenS, TT.length, rfl, by omega, by omega, for_range (lo := 0) (n := TT.length) (fun i σ H' => ∃ (stA : Addr) (o2 o3 o4 : Option V) (S : List GB.Row) (ys : List V), σ = [some (.str TT), some (.ref stA), o2, o3, o4, none, none] ∧ Same H H' ∧ H' stA = some (.lst ys) ∧ DpAll K (hid [stA] H') ys (S.map rowD) ∧ Hold (1 + 10 * i) S ∧ plc [[[116]]] (cl TT) = plc S ((cl TT).drop i)) ⟨a0, none, none, none, [[[116]]], [.ref t0], rfl, s1.trans s2, h2, .cons (dp_row (s := [[116]]) (SqT.of (hid_to (ni1 a0t) (s2 _ _ h1)))) .nil, hold0, by rw [List.drop_zero]⟩ ?_ ?_⟩
    focus
      rintro i σ H1 hi ⟨stA, o2, o3, o4, S, ys, rfl, sH, hst, hdp, hh, hpl⟩
      refine ⟨by show 0 ≤ sizeLine; decide, fun laA nla => ?_⟩
      obtain ⟨H2, s3, h3, e3⟩ := lay (o := .lst []) nla
      rw [e3]
      obtain ⟨c, hc⟩ : ∃ c, (cl TT)[i]? = some c := ⟨_, List.getElem?_eq_getElem (by rw [← eT]; exact hi)⟩
      have hdr : (cl TT).drop i = c :: (cl TT).drop (i + 1) := by
        obtain ⟨h2, h3⟩ := List.getElem?_eq_some_iff.mp hc
        rw [List.drop_eq_getElem_cons h2, h3]
      have hat : atI TT.cps.toList (0 + (i : Int)) = some c := by rw [Int.zero_add]; exact atI_nat hc
      have sla : stA ≠ laA := ne_of_none hst nla
      obtain ⟨hall, hS9⟩ := hh.rw.all
      have n1000 : 1 + 10 * i ≤ 10001 := by omega
      have two : ∀ {G : Hp} {zs : List V}, G stA = some (.lst ys) → G laA = some (.lst zs) → ∀ p ∈ [stA, laA], ∃ l, G p = some (.lst l) := fun {G zs} a b p hp => by
        rcases List.mem_cons.mp hp with rfl | hp
        · exact ⟨_, a⟩
        · rw [List.mem_singleton.mp hp]; exact ⟨_, b⟩
      have fl : ∀ m : Nat, (foldR c (S.take m) []).length ≤ 9 * m := fun m => by
        have key : ∀ (l acc : List GB.Row), (∀ s ∈ l, Wf s) → (foldR c l acc).length ≤ acc.length + 9 * l.length := by
          intro l
          induction l with
          | nil => intro acc _; exact Nat.le_add_right _ _
          | cons a l ih =>
            intro acc h
            obtain ⟨F, hF⟩ : ∃ F, F = (stp a c).filter (fun x => !decide (x ∈ acc)) := ⟨_, rfl⟩
            have e : foldR c (a :: l) acc = foldR c l (acc ++ F) := by rw [hF]; rfl
            have h1 := ih (acc ++ F) fun s hs => h s (List.mem_cons_of_mem _ hs)
            have h2 : F.length ≤ (stp a c).length := by rw [hF]; exact List.length_filter_le _ _
            have h3 := (stp_nxt (c := c) (h a List.mem_cons_self)).len
            rw [List.length_append] at h1
            rw [e, List.length_cons]
            omega
        have := key (S.take m) [] fun s hs => (hall s (List.take_subset _ _ hs)).1
        rw [List.length_take] at this
        simp only [List.length_nil] at this
        omega
      refine ⟨_, rfl, stA, rfl, ⟨_, SqL.of (s3 _ _ hst)⟩, ?_⟩
      refine for_it walk_list (fun j σ H' => ∃ (o4' : Option V) (zs : List V), σ = [some (.str TT), some (.ref stA), some (.int (0 + (i : Int))), some (.ref laA), o4', none, none] ∧ Same H1 H' ∧ H' stA = some (.lst ys) ∧ H' laA = some (.lst zs) ∧ DpAll K (hid [stA, laA] H') zs ((foldR c (S.take j) []).map rowD) ∧ DpAll K (hid [stA, laA] H') ys (S.map rowD)) ⟨o4, [], rfl, s3, s3 _ _ hst, h3, .nil, dps_mono (fun b o e => by
        obtain ⟨e1, m⟩ := hid_in e
        exact hid_to (by simp only [List.mem_cons, List.not_mem_nil, or_false] at m ⊢; exact fun z => z.elim m (ne_of_none e1 nla)) (s3 _ _ e1)) hdp⟩ (fun j σ H' _ ⟨_, _, _, _, h, _⟩ => SqL.of h) ?_ ?_
      focus
        rintro j x σ G G' hj ⟨o4', zs, rfl, sG, hstG, hlaG, hz, hy⟩ ⟨rfl, hx⟩
        obtain ⟨d, hd, Dx⟩ := dps_at (dps_mono (hid_low _ _) hy) hx
        rw [List.getElem?_map] at hd
        obtain ⟨sj, hsj, rfl⟩ : ∃ sj, S[j]? = some sj ∧ rowD sj = d := by
          cases hs : S[j]? with
          | none => rw [hs] at hd; cases hd
          | some sj => rw [hs] at hd; exact ⟨sj, rfl, Option.some.inj hd⟩
        obtain ⟨pj, rfl, hpj⟩ := dp_row_inv Dx
        have hm := List.mem_of_getElem? hsj
        obtain ⟨wfj, lnj⟩ := hall sj hm
        have smj := hh.sm sj hm
        obtain ⟨L, hL⟩ : ∃ L, L = foldR c (S.take j) [] := ⟨_, rfl⟩
        rw [← hL] at hz
        have hj9 : j < 9 := by
          have := (List.getElem?_eq_some_iff.mp hsj).1
          omega
        have hLl : L.length ≤ 81 := by have := fl j; rw [hL]; omega
        have hLs : ∀ s ∈ L, Sml s := fun s hs => by
          have key : ∀ (l acc : List GB.Row), (∀ s ∈ l, Sml s) → (∀ s ∈ acc, Sml s) → ∀ s ∈ foldR c l acc, Sml s := by
            intro l
            induction l with
            | nil => intro acc _ h; exact h
            | cons a l ih =>
              intro acc h1 h2
              refine ih _ (fun s hs => h1 s (List.mem_cons_of_mem _ hs)) fun s hs => ?_
              rcases List.mem_append.mp hs with hs | hs
              · exact h2 s hs
              · exact stp_sml (h1 a List.mem_cons_self) s (List.mem_filter.mp hs).1
          rw [hL] at hs
          exact key _ [] (fun s hs => hh.sm s (List.take_subset _ _ hs)) (fun s h => nomatch h) s hs
        refine ⟨_, rfl, .inl ⟨rfl, _, SqL.of hlaG⟩, ?_⟩
        refine ⟨_, rfl, _, rfl, _, rfl, TT, _, c, rfl, rfl, lenS, hat, pj, c, sj, rfl, hpj, wfj, smj, by have := rk_le sj; omega, by omega, fun l1 xs1 G1 g1 k1 d1 => ?_⟩
        refine ⟨l1, rfl, ⟨_, SqL.of k1⟩, fun D nD => ?_⟩
        have x1l : xs1.length = (stp sj c).length := by rw [dps_len d1, List.length_map]
        have n9 := (stp_nxt (c := c) wfj).len
        refine lc_it walk_list (fun k H' => Same G1 H' ∧ ∃ acc, H' D = some (.lst acc) ∧ acc.length ≤ k ∧ DpAll K (hid [D] H') acc ((((stp sj c).take k).filter (fun x => !decide (x ∈ L))).map rowD)) ⟨same_new nD, [], upd_same, Nat.le_refl _, .nil⟩ (fun k H' _ ⟨s', _⟩ => SqL.of (s' _ _ k1)) ?_ ?_
        focus
          rintro k x2 G2 G2' hk ⟨s2', acc, hD, hal, hac⟩ ⟨rfl, hx2⟩
          obtain ⟨d2, hd2, Dx2⟩ := dps_at (dps_mono (hid_low _ _) d1) hx2
          rw [List.getElem?_map] at hd2
          obtain ⟨r, hr2, rfl⟩ : ∃ r, (stp sj c)[k]? = some r ∧ rowD r = d2 := by
            cases hs : (stp sj c)[k]? with
            | none => rw [hs] at hd2; cases hd2
            | some r => rw [hs] at hd2; exact ⟨r, rfl, Option.some.inj hd2⟩
          have Dr : Dp K G2' x2 (rowD r) := dp_mono s2' Dx2
          have smr := stp_sml smj r (List.mem_of_getElem? hr2)
          have SG2 := g1.trans s2'
          have DlL : Dp K G2' (.ref laA) (.list (L.map rowD)) := .lst (SqL.of (SG2 _ _ hlaG)) (dps_mono ((hid_low _ _).trans SG2) hz)
          refine ⟨rfl, ?_⟩
          refine ⟨_, rfl, _, rfl, rowD r, L.map rowD, Dr, DlL, sh_row smr, sh_rows hLs, _, rfl, ?_⟩
          rw [any_row, take_at hr2, List.filter_append, List.map_append]
          by_cases hin : r ∈ L
          · rw [decide_eq_true hin]
            refine ⟨s2', acc, hD, by omega, ?_⟩
            rw [List.filter_cons_of_neg (by simp [hin]), List.filter_nil, List.map_nil, List.append_nil]
            exact hac
          · rw [decide_eq_false hin]
            refine ⟨_, rfl, _, hD, by rw [sizeLine_eq]; omega, fun b o e => ?_, _, upd_same, by rw [List.length_append, List.length_singleton]; omega, ?_⟩
            · rw [upd_ne (ne_of_none e nD)]
              exact s2' _ _ e
            · rw [List.filter_cons_of_pos (by simp [hin]), List.filter_nil]
              have bu : Bt [D] G2' (upd G2' D (.lst (acc ++ [x2]))) := bt_upd (by simp)
              refine dps_app (dps_mono bu hac) (.cons (dp_mono bu (dp_hid (ps := [D]) (fun q hq => by rw [List.mem_singleton.mp hq]; exact ⟨_, hD⟩) _ _ (tupO_row r) Dr)) .nil)
        rintro G3 ⟨s3', acc, hD3, hal, hac⟩
        rw [x1l, List.take_of_length_le (Nat.le_refl _)] at hac
        have SG3 := g1.trans s3'
        have hst3 := SG3 _ _ hstG
        have hla3 := SG3 _ _ hlaG
        have zl : zs.length = L.length := by rw [dps_len hz, List.length_map]
        refine ⟨laA, D, zs, acc, rfl, rfl, hla3, hD3, by rw [sizeLine_eq]; omega, ?_⟩
        have bu : Bt [stA, laA] G3 (upd G3 laA (.lst (zs ++ acc))) := bt_upd (by simp)
        refine ⟨_, zs ++ acc, rfl, fun b o e => ?_, by rw [upd_ne sla]; exact hst3, upd_same, ?_, ?_⟩
        · rw [upd_ne (ne_of_none e nla)]
          exact SG3 _ _ (sG _ _ e)
        · have eL : S.take (j + 1) = S.take j ++ [sj] := take_at hsj
          rw [eL, foldR_snoc, ← hL, List.map_append]
          refine dps_app (dps_mono ((hid_same SG3).trans bu) hz) (dps_mono bu (dps_hid (two hst3 hla3) _ _ (tupOs_rows _) (dps_mono (hid_low _ _) hac)))
        · exact dps_mono ((hid_same SG3).trans bu) hy
      rintro σ G ⟨o4', zs, rfl, sG, hstG, hlaG, hz, hy⟩
      have ysl : ys.length = S.length := by rw [dps_len hdp, List.length_map]
      rw [ysl, List.take_of_length_le (Nat.le_refl _)] at hz
      obtain ⟨L, hL⟩ : ∃ L, L = stps S c := ⟨_, rfl⟩
      replace hz : DpAll K (hid [stA, laA] G) zs (L.map rowD) := by rw [hL]; exact hz
      have hLs : ∀ s ∈ L, Sml s := fun s hs => by
        rw [hL] at hs
        obtain ⟨s', h1, h2⟩ := stps_mem hs
        exact stp_sml (hh.sm s' h1) s h2
      have hpl2 : plc [[[116]]] (cl TT) = if L = [] then some (((cl TT).drop (i + 1)).length + 1) else plc L ((cl TT).drop (i + 1)) := by rw [hpl, hdr, plc, ← hL]
      refine ⟨_, rfl, by show 0 ≤ sizeLine; decide, fun te nte => ?_⟩
      obtain ⟨G4, g4, k4, z4⟩ := lay (o := .lst []) nte
      rw [z4]
      refine ⟨.list (L.map rowD), .list [], .lst (SqL.of (g4 _ _ hlaG)) (dps_mono ((hid_low _ _).trans g4) hz), .lst (SqL.of k4) .nil, sh_rows hLs, by decide +kernel, _, rfl, ?_⟩
      have eE : PyData.eqv (.list (L.map rowD)) (.list []) = decide (L = []) := by
        cases L with
        | nil => rfl
        | cons a b => rfl
      rw [eE]
      by_cases hLe : L = []
      · rw [decide_eq_true hLe]
        refine iteT ?_
        rw [if_pos hLe] at hpl2
        have hv : plV TT = .int (0 + (i : Int)) := by
          unfold plV
          rw [hpl2]
          show V.int _ = _
          congr 1
          rw [List.length_drop]
          omega
        have hq := q G4 (sH.trans (sG.trans g4))
        rw [hv] at hq
        exact ⟨_, rfl, hq⟩
      · rw [decide_eq_false hLe]
        refine iteF ?_
        rw [if_neg hLe] at hpl2
        refine ⟨_, rfl, laA, zs, rfl, .inl (SqL.of (g4 _ _ hlaG)), fun nl nnl => ?_⟩
        obtain ⟨G5, g5, k5, z5⟩ := lay (o := .lst zs) nnl
        rw [z5]
        have hh2 : Hold (1 + 10 * (i + 1)) L := by
          have h1 := (hh.step c).resolve_left (by rw [← hL]; exact hLe)
          rw [hL, show 1 + 10 * (i + 1) = 1 + 10 * i + 10 by omega]
          exact h1
        have zsR : DpAll K G4 zs (L.map rowD) := dps_mono ((hid_low _ _).trans g4) hz
        refine ⟨nl, _, _, _, L, zs, rfl, ((sH.trans sG).trans g4).trans g5, k5, ?_, hh2, hpl2⟩
        exact dps_hid (ps := [nl]) (fun p hp => by rw [List.mem_singleton.mp hp]; exact ⟨_, k5⟩) _ _ (tupOs_rows _) (dps_mono g5 zsR)
    rintro σ H1 ⟨stA, o2, o3, o4, S, ys, rfl, sH, hst, hdp, hh, hpl⟩
    rw [List.drop_of_length_le (by rw [eT]; exact Nat.le_refl _), plc] at hpl
    have hSs := hh.sm
    refine ⟨_, rfl, stA, rfl, ⟨_, SqL.of hst⟩, fun D nD => ?_⟩
    have ysl : ys.length = S.length := by rw [dps_len hdp, List.length_map]
    obtain ⟨hall, hS9⟩ := hh.rw.all
    refine lc_it walk_list (fun k H' => Same H1 H' ∧ ∃ acc, H' D = some (.lst acc) ∧ acc.length ≤ k ∧ DpAll K (hid [D] H') acc (((S.take k).filter accR).map rowD)) ⟨same_new nD, [], upd_same, Nat.le_refl _, .nil⟩ (fun k H' _ ⟨s', _⟩ => SqL.of (s' _ _ hst)) ?_ ?_
    focus
      rintro k x G G' hk ⟨s2', acc, hD, hal, hac⟩ ⟨rfl, hx⟩
      obtain ⟨d, hd, Dx⟩ := dps_at (dps_mono (hid_low _ _) hdp) hx
      rw [List.getElem?_map] at hd
      obtain ⟨sj, hsj, rfl⟩ : ∃ sj, S[k]? = some sj ∧ rowD sj = d := by
        cases hs : S[k]? with
        | none => rw [hs] at hd; cases hd
        | some sj => rw [hs] at hd; exact ⟨sj, rfl, Option.some.inj hd⟩
      have Dx2 := dp_mono s2' Dx
      obtain ⟨pj, rfl, hpj⟩ := dp_row_inv Dx2
      have hm := List.mem_of_getElem? hsj
      have hk9 : k < 9 := by omega
      refine ⟨rfl, ?_⟩
      refine ⟨_, rfl, by show 0 ≤ sizeLine; decide, fun te nte => ?_⟩
      obtain ⟨G4, g4, k4, z4⟩ := lay (o := .tup []) nte
      rw [z4]
      have hpj4 := Same.seqT g4 hpj
      refine ⟨rowD sj, .tuple [], dp_row hpj4, .tup (SqT.of k4) .nil, sh_row (hSs sj hm), by decide +kernel, _, rfl, ?_⟩
      have eE : PyData.eqv (rowD sj) (.tuple []) = decide (sj = []) := row_eqv sj []
      rw [eE]
      by_cases hn : sj = []
      · rw [decide_eq_true hn]
        refine iteT ?_
        have hacc : accR sj = true := by rw [hn]; rfl
        refine ⟨_, rfl, _, (g4 _ _ hD), by rw [sizeLine_eq]; omega, fun b o e => ?_, _, upd_same, by rw [List.length_append, List.length_singleton]; omega, ?_⟩
        · rw [upd_ne (ne_of_none e nD)]
          exact (s2'.trans g4) _ _ e
        · rw [take_at hsj, List.filter_append, List.map_append, List.filter_cons_of_pos hacc, List.filter_nil]
          have bu : Bt [D] G4 (upd G4 D (.lst (acc ++ [.ref pj]))) := bt_upd (by simp)
          refine dps_app (dps_mono ((hid_same g4).trans bu) hac) (.cons (dp_mono bu (dp_hid (ps := [D]) (fun q hq => by rw [List.mem_singleton.mp hq]; exact ⟨_, (g4 _ _ hD)⟩) _ _ (tupO_row sj) (dp_row hpj4))) .nil)
        
      rw [decide_eq_false hn]
      refine iteF ?_
      refine ⟨_, rfl, pj, rv sj, rfl, .inr hpj4, rfl, _, rfl, ?_⟩
      rw [decI, rv_len]
      by_cases h1 : sj.length = 1
      rotate_left
      focus
        rw [decide_eq_false (fun z => h1 (by omega))]
        refine iteF ?_
        have hacc : ¬ accR sj = true := by
          match sj, hn, h1 with
          | [], hn, _ => exact absurd rfl hn
          | [x], _, h1 => exact absurd rfl h1
          | _ :: _ :: _, _, _ => exact Bool.false_ne_true
        refine ⟨s2'.trans g4, acc, g4 _ _ hD, by omega, ?_⟩
        rw [take_at hsj, List.filter_append, List.map_append, List.filter_cons_of_neg hacc, List.filter_nil, List.map_nil, List.append_nil]
        exact dps_mono (hid_same g4) hac
        
      obtain ⟨t, rfl⟩ : ∃ t, sj = [t] := List.length_eq_one_iff.mp h1
      rw [decide_eq_true (by simp)]
      refine iteT ?_
      have htn : t ≠ [] := (hall _ hm).1.1.ne
      have htl := (hall _ hm).1.1.len
      obtain ⟨h0, w0, rfl⟩ : ∃ h0 w0, t = h0 :: w0 := by
        cases t with
        | nil => exact absurd rfl htn
        | cons a b => exact ⟨a, b, rfl⟩
      have lenT : (mkS (h0 :: w0)).length = (h0 :: w0).length := rfl
      have lenTS : (mkS (h0 :: w0)).length ≤ sizeLine := by rw [lenT, sizeLine_eq]; omega
      refine ⟨_, rfl, ixA (.inr hpj4) 0 rfl ⟨mkS (h0 :: w0), 0, h0, rfl, rfl, lenTS, atI_nat (j := 0) rfl, h0, _, rfl, rfl, _, rfl, ?_⟩⟩
      have etn : decide (h0 ∈ ("tn" : Str).cps.toList) = decide (h0 = 116 ∨ h0 = 110) := by
        have : ("tn" : Str).cps.toList = [116, 110] := by decide +kernel
        rw [this]
        exact decide_eq_decide.mpr (by simp)
      rw [etn]
      by_cases h2 : h0 = 116 ∨ h0 = 110
      rotate_left
      focus
        rw [decide_eq_false h2]
        refine iteF ?_
        have hacc : ¬ accR [h0 :: w0] = true := by
          rw [accR]
          simp only [decide_eq_true_eq, List.head?_cons, Option.some.injEq]
          exact fun z => h2 z.2
        refine ⟨s2'.trans g4, acc, g4 _ _ hD, by omega, ?_⟩
        rw [take_at hsj, List.filter_append, List.map_append, List.filter_cons_of_neg hacc, List.filter_nil, List.map_nil, List.append_nil]
        exact dps_mono (hid_same g4) hac
        
      rw [decide_eq_true h2]
      refine iteT ?_
      refine ⟨_, rfl, ixA (.inr hpj4) 0 rfl ⟨mkS (h0 :: w0), rfl, lenTS, _, _, rfl, rfl, _, rfl, ?_⟩⟩
      rw [show decide ((1 : Int) < ((mkS (h0 :: w0)).length : Int)) = decide (1 < (h0 :: w0).length) from decide_eq_decide.mpr (by rw [lenT]; omega)]
      by_cases h3 : 1 < (h0 :: w0).length
      · rw [decide_eq_true h3]
        have hacc : accR [h0 :: w0] = true := by
          rw [accR]
          simp only [decide_eq_true_eq, List.head?_cons, Option.some.injEq]
          exact ⟨h3, h2⟩
        refine ⟨_, rfl, _, (g4 _ _ hD), by rw [sizeLine_eq]; omega, fun b o e => ?_, _, upd_same, by rw [List.length_append, List.length_singleton]; omega, ?_⟩
        · rw [upd_ne (ne_of_none e nD)]
          exact (s2'.trans g4) _ _ e
        · rw [take_at hsj, List.filter_append, List.map_append, List.filter_cons_of_pos hacc, List.filter_nil]
          have bu : Bt [D] G4 (upd G4 D (.lst (acc ++ [.ref pj]))) := bt_upd (by simp)
          refine dps_app (dps_mono ((hid_same g4).trans bu) hac) (.cons (dp_mono bu (dp_hid (ps := [D]) (fun q hq => by rw [List.mem_singleton.mp hq]; exact ⟨_, (g4 _ _ hD)⟩) _ _ (tupO_row [h0 :: w0]) (dp_row hpj4))) .nil)
        
      · rw [decide_eq_false h3]
        have hacc : ¬ accR [h0 :: w0] = true := by
          rw [accR]
          simp only [decide_eq_true_eq, List.head?_cons, Option.some.injEq]
          exact fun z => h3 z.1
        refine ⟨s2'.trans g4, acc, g4 _ _ hD, by omega, ?_⟩
        rw [take_at hsj, List.filter_append, List.map_append, List.filter_cons_of_neg hacc, List.filter_nil, List.map_nil, List.append_nil]
        exact dps_mono (hid_same g4) hac
        
    rintro G ⟨s2', acc, hD, hal, hac⟩
    rw [ysl, List.take_of_length_le (Nat.le_refl _)] at hac
    refine ⟨_, rfl, by show 0 ≤ sizeLine; decide, fun te nte => ?_⟩
    obtain ⟨G4, g4, k4, z4⟩ := lay (o := .lst []) nte
    rw [z4]
    have hfs : ∀ s ∈ S.filter accR, Sml s := fun s hs => hSs s (List.mem_filter.mp hs).1
    refine ⟨.list ((S.filter accR).map rowD), .list [], .lst (SqL.of (g4 _ _ hD)) (dps_mono ((hid_low _ _).trans g4) hac), .lst (SqL.of k4) .nil, sh_rows hfs, by decide +kernel, _, rfl, ?_⟩
    have eE : PyData.eqv (.list ((S.filter accR).map rowD)) (.list []) = !(S.any accR) := by
      have e1 : PyData.eqv (.list ((S.filter accR).map rowD)) (.list []) = decide (S.filter accR = []) := by
        cases S.filter accR with
        | nil => rfl
        | cons a b => rfl
      rw [e1]
      by_cases h : S.any accR = true
      · rw [h]
        refine decide_eq_false fun z => ?_
        obtain ⟨x, hx, ha⟩ := List.any_eq_true.mp h
        have : x ∈ S.filter accR := List.mem_filter.mpr ⟨hx, ha⟩
        rw [z] at this
        cases this
      · rw [Bool.eq_false_iff.mpr h]
        refine decide_eq_true (List.filter_eq_nil_iff.mpr fun x hx ha => h (List.any_eq_true.mpr ⟨x, hx, ha⟩))
    rw [eE, Bool.not_not]
    have hq := q G4 (sH.trans (s2'.trans g4))
    by_cases h : S.any accR = true
    · rw [h]
      refine iteT ?_
      have hv : plV TT = .non := by unfold plV; rw [hpl, if_pos h]
      rw [hv] at hq
      exact hq
    · rw [Bool.eq_false_iff.mpr h]
      refine iteF ?_
      have hv : plV TT = .int (TT.length : Int) := by
        unfold plV
        rw [hpl, if_neg h, eT]
        rfl
      rw [hv] at hq
      exact ⟨_, rfl, TT, rfl, lenS, hq⟩
end
end K28
set_option Elab.async false
set_option linter.all false
set_option autoImplicit false
set_option maxRecDepth 100000
set_option maxHeartbeats 8000000
namespace GB
open PySem PySem.Spec L2
theorem cnt_ltr : ∀ {l : List Nat}, (∀ c ∈ l, ltr c) → cnt l = 0
  | [], _ => rfl
  | c :: l, h => by
    have hc := h c List.mem_cons_self
    unfold ltr at hc
    rw [cnt_cons, cnt_ltr fun x hx => h x (List.mem_cons_of_mem _ hx), if_neg (by omega)]
theorem cnt_app (a b : List Nat) : cnt (a ++ b) = cnt a + cnt b := List.countP_append
theorem cnt_name {n : Str} (h : nameB n = true) : cnt (cl n) = 0 := cnt_ltr (nameB_ltr h).1
mutual
theorem cnt_tx {L : List (Str × Nat)} (hL : ∀ q ∈ L, nameB q.1 = true) : ∀ (t : Tm) {ns : List Str}, TmOk L ns t → cnt (txL t) + 1 ≤ 2 * t.size
  | .mk w n ks, ns, h => by
    have hk : ∀ k ∈ ks, ∃ ns, TmOk L ns k := fun k hk => by
      cases h with
      | mk _ hK =>
        obtain ⟨i, hi⟩ := List.mem_iff_getElem?.mp hk
        exact ⟨_, hK i k hi⟩
    obtain ⟨a1, a2⟩ := cnt_txs hL ks hk
    rw [Tm.size]
    have c40 : ∀ l : List Nat, cnt (40 :: l) = cnt l + 1 := fun l => by rw [cnt_cons, if_pos (.inl rfl)]
    have c41 : cnt [41] = 0 := rfl
    have c39 : ∀ l : List Nat, cnt (39 :: l) = cnt l := fun l => by rw [cnt_cons, if_neg (by omega)]; rfl
    have c46 : ∀ l : List Nat, cnt (46 :: l) = cnt l := fun l => by rw [cnt_cons, if_neg (by omega)]; rfl
    have cf : cnt (cl "fail") = 0 := by decide +kernel
    have cb : cnt (cl "bind") = 0 := by decide +kernel
    cases shp hL h with
    | val e hn tx => rw [tx]; cases e; rw [c39, cnt_name hn, Tm.sizes]; omega
    | name e hn tx => rw [tx]; cases e; rw [cnt_name hn, Tm.sizes]; omega
    | fail e hn c => rw [c.tx]; cases e; rw [cnt_app, c40, cnt_app, cnt_name hn, cf, c41, Tm.sizes]; omega
    | dot e hn hw tx => rw [tx]; cases e; rw [c46, cnt_app, c40, cnt_app, cnt_name hn, c41]; omega
    | use e hn hw c => rw [c.tx]; cases e; rw [cnt_app, c40, cnt_app, cnt_name hn, c41]; omega
    | bind e hn c => rw [c.tx]; cases e; rw [cnt_app, c40, cnt_app, cnt_app, cnt_name hn, cb, c41]; omega
    | op e hm c =>
      have hw : cnt (cl w) = 0 := by cases e; exact (show ∀ q ∈ opsW, cnt (cl q.1) = 0 by decide +kernel) _ hm
      rw [c.tx]; cases e; rw [cnt_app, c40, cnt_app, hw, c41]; omega
theorem cnt_txs {L : List (Str × Nat)} (hL : ∀ q ∈ L, nameB q.1 = true) : ∀ (ks : List Tm), (∀ k ∈ ks, ∃ ns, TmOk L ns k) → cnt (txA ks) ≤ 2 * Tm.sizes ks ∧ cnt (txR ks) ≤ 2 * Tm.sizes ks
  | [], _ => by rw [txA, txR]; exact ⟨Nat.zero_le _, Nat.zero_le _⟩
  | k :: r, h => by
    obtain ⟨ns, o⟩ := h k List.mem_cons_self
    have a := cnt_tx hL k o
    obtain ⟨b1, b2⟩ := cnt_txs hL r fun x hx => h x (List.mem_cons_of_mem _ hx)
    have c44 : ∀ l : List Nat, cnt (44 :: 32 :: l) = cnt l + 1 := fun l => by
      have e1 := cnt_cons 44 (32 :: l)
      have e2 := cnt_cons 32 l
      rw [if_pos (.inr rfl)] at e1
      rw [if_neg (by omega)] at e2
      omega
    rw [txA, txR, Tm.sizes, c44, cnt_app]
    omega
end
theorem cutS_to28 (T : Str) (a : Nat) : cl (cutS T none (some (a : Int))) = (cl T).take a := by
  unfold cutS
  rw [cl_mk, HT.sIx_none, HT.sIx_nat, Nat.sub_zero]
  have e : T.length = (cl T).length := cl_len T
  show ((cl T).drop 0).take _ = _
  rw [List.drop_zero, e]
  rcases Nat.le_total a (cl T).length with h | h
  · rw [Nat.min_eq_left h]
  · rw [Nat.min_eq_right h, List.take_of_length_le (Nat.le_refl _), List.take_of_length_le h]
theorem cutS_from28 (T : Str) (a : Nat) : cl (cutS T (some (a : Int)) none) = (cl T).drop a := by
  unfold cutS
  rw [cl_mk, HT.sIx_none, HT.sIx_nat]
  have e : T.length = (cl T).length := cl_len T
  show ((cl T).drop _).take _ = _
  rw [e]
  rcases Nat.le_total a (cl T).length with h | h
  · rw [Nat.min_eq_left h, List.take_of_length_le (by rw [List.length_drop]; omega)]
  · rw [Nat.min_eq_right h, List.drop_of_length_le (Nat.le_refl _), List.drop_of_length_le h, List.take_nil]
def sgns : List Str := ["", "(", ")", ",", " ", ".", "'", "a", "A", "if", "x()", "1"]
theorem cut_sub (l : List Nat) {a b : Nat} (h : a ≤ b) : (l.take a).length + (l.drop b).length ≤ l.length ∧ cnt (l.take a) + cnt (l.drop b) ≤ cnt l := by
  have e : l = l.take a ++ l.drop a := (List.take_append_drop a l).symm
  have s : l.drop b <:+ l.drop a := by
    rw [show b = a + (b - a) by omega, ← List.drop_drop]
    exact List.drop_suffix _ _
  have c := cnt_suf s
  have d := s.length_le
  have e1 := congrArg List.length e
  have e2 := congrArg cnt e
  rw [List.length_append] at e1
  rw [cnt_app] at e2
  omega
end GB
namespace K28
open PySem PySem.Spec L2 GB
abbrev sSp : Stmt := topS 51
def spN : List Str := ["_law_pool_here", "_law_text_here", "_law_k", "_law_sign", "_law_at"]
def spSpo : Sp := fun vs H Q _ => ∃ (p : Addr) (T : Str) (n : Nat), vs = [.ref p, .str T] ∧ (cl T).length ≤ 900 ∧ n + 20 ≤ 900000 ∧ PoolIs H p n ∧
  ∀ T' H', (cl T').length ≤ (cl T).length + 6 → cnt (cl T') ≤ cnt (cl T) + 2 → Bt [p] H H' → PoolIs H' p (n + 20) → Q (.str T') H'
section
variable {P : Program} {w : World} {K : PySem.W.Frag} {mg : Str → Option Value} {base : Heap}
theorem scSp : FnScope spN ["_law_pool_here", "_law_text_here"] (defScope sSp) := ⟨rfl, rfl, rfl, by decide +kernel, rfl, by decide +kernel, by decide +kernel⟩
theorem ok_sp {f : Addr} {fd : FuncData} (F : Fun K "_law_spoilt" "_law_spoilt" sSp f fd) (T : Bl mg) (TK : Fns P w K mg base "_law_take" 1 ["_law_pool_here", "_law_many"] spTake) (ON : Fns P w K mg base "_law_one" 2 ["_law_pool_here", "_law_things"] (spOne K)) : FnOk P w K mg base CX0 3 f fd ["_law_pool_here", "_law_text_here"] spSpo := by
  refine F.ok scSp (fun vs H Q E h => ?_) (fun cdv A outer s H vs Q E hr h => ?_)
  · obtain ⟨p, T, n, rfl, _⟩ := h
    rfl
  · obtain ⟨p, TT, n, rfl, hlen, hn, hP, q⟩ := h
    refine ⟨_, (pss_cons (ps_for PassesOwn.never rfl (pi_range1 rfl T.range (pa_cons (pe_op op_add pe_int (pe_fn TK hr (by decide) rfl (pa_cons (pv 0) (pa_cons pe_int pa_nil)))) pa_nil)) (pg_name (i := 2) scSp.nd rfl (.inl rfl)) (pss_cons (ps_set (i := 3) scSp.nd rfl (.inl rfl) (pe_fn ON hr (by decide) rfl (pa_cons (pv 0) (pa_cons (pe_lst (pa_cons pe_str (pa_cons pe_str (pa_cons pe_str (pa_cons pe_str (pa_cons pe_str (pa_cons pe_str (pa_cons pe_str (pa_cons pe_str (pa_cons pe_str (pa_cons pe_str (pa_cons pe_str (pa_cons pe_str pa_nil))))))))))))) pa_nil))))
        (pss_cons (ps_set (i := 4) scSp.nd rfl (.inl rfl) (pe_fn TK hr (by decide) rfl (pa_cons (pv 0) (pa_cons (pe_op op_add (pe_callB call_len_str (by rfl) T.len PySem.boot_len (pa_cons (pv 1) pa_nil)) pe_int) pa_nil))))
        (pss_one (ps_set (i := 1) scSp.nd rfl (.inl rfl) (pe_op op_add_str (pe_op op_add_str (pe_slice sl_str (pv 1) po_none (po_some (pv 4))) (pv 3)) (pe_slice sl_str (pv 1) (po_some (pe_op op_add (pv 4) (pe_fn TK hr (by decide) rfl (pa_cons (pv 0) (pa_cons pe_int pa_nil))))) po_none)))))))
        (pss_one (ps_ret (pv 1)))), ?_⟩
    refine ⟨_, rfl, p, 2, n, rfl, by decide, by decide, by omega, hP, fun r0 H1 hr0 B1 P1 => ?_⟩
    have hr0 : r0 < 2 := by have := hr0; omega
    refine ⟨_, _, rfl, rfl, 1 + r0, by show [V.int ((1 : Int) + (r0 : Int))] = _; rw [show (1 : Int) + (r0 : Int) = ((1 + r0 : Nat) : Int) from by omega], by omega, by omega, for_range (lo := 0) (n := 1 + r0) (fun i σ H' => ∃ (T' : Str) (o2 o3 o4 : Option V), σ = [some (.ref p), some (.str T'), o2, o3, o4] ∧ Bt [p] H H' ∧ (∃ m, m ≤ n + 1 + 3 * i ∧ PoolIs H' p m) ∧ (cl T').length ≤ (cl TT).length + 3 * i ∧ cnt (cl T') ≤ cnt (cl TT) + i) ⟨TT, none, none, none, rfl, B1, ⟨_, Nat.le_refl _, P1⟩, Nat.le_refl _, Nat.le_refl _⟩ ?_ ?_⟩
    rotate_left
    focus
      rintro σ H' ⟨T', o2, o3, o4, rfl, B, ⟨m, hm, PM⟩, hl, hc⟩
      exact ⟨_, rfl, q T' H' (by omega) (by omega) B (PM.mono (Same.refl _) (by omega))⟩
    rintro i σ H2 hi ⟨T', o2, o3, o4, rfl, B, ⟨m, hm, PM⟩, hl, hc⟩
    have lT : T'.length = (cl T').length := cl_len T'
    have lS : T'.length ≤ sizeLine := by rw [lT, sizeLine_eq]; omega
    refine ⟨_, rfl, by show 12 ≤ sizeLine; decide, fun a na => ?_⟩
    obtain ⟨H3, s3, h3, e3⟩ := lay (o := .lst (sts sgns)) na
    rw [show (upd H2 a (.lst [.str "", .str "(", .str ")", .str ",", .str " ", .str ".", .str "'", .str "a", .str "A", .str "if", .str "x()", .str "1"])) = H3 from e3]
    have P3 := PM.mono s3 (Nat.le_refl _)
    have nap := PM.ne na
    refine ⟨p, a, sts sgns, m, rfl, SqL.of (hid_to (ni1 nap) h3), by decide, by decide, by omega, P3, fun v H4 hv B4 P4 => ?_⟩
    obtain ⟨sg, hsg, rfl⟩ : ∃ sg, sg ∈ sgns ∧ V.str sg = v := by
      unfold sts at hv
      obtain ⟨x, hx, e⟩ := List.mem_map.mp hv
      exact ⟨x, hx, e⟩
    have sgl : (cl sg).length ≤ 3 ∧ cnt (cl sg) ≤ 1 := (show ∀ x ∈ sgns, (cl x).length ≤ 3 ∧ cnt (cl x) ≤ 1 by decide +kernel) _ hsg
    refine ⟨_, rfl, _, rfl, T', rfl, lS, _, _, rfl, rfl, p, (T'.length : Int) + 1, m + 1, rfl, by omega, by rw [lT]; omega, by omega, P4, fun at' H5 hat B5 P5 => ?_⟩
    refine ⟨_, rfl, ?_⟩
    have l1 := (cut_sub (cl T') (Nat.le_refl at')).1
    have eT1 : (cutS T' none (some (at' : Int))).length = ((cl T').take at').length := by rw [cl_len, cutS_to28]
    have eSg : sg.length = (cl sg).length := cl_len sg
    refine ⟨_, rfl, _, rfl, T', rfl, lS, _, rfl, _, _, rfl, rfl, by rw [eT1, eSg, sizeLine_eq]; omega, ?_⟩
    refine ⟨_, rfl, _, rfl, _, rfl, p, 3, m + 1 + 1, rfl, by decide, by decide, by omega, P5, fun r H6 hr B6 P6 => ?_⟩
    refine ⟨_, _, rfl, rfl, _, rfl, T', rfl, lS, _, _, rfl, rfl, ?_, ?_⟩
    focus
      rw [show (at' : Int) + (r : Int) = ((at' + r : Nat) : Int) from by omega]
      have eT2 : (cutS T' (some ((at' + r : Nat) : Int)) none).length = ((cl T').drop (at' + r)).length := by rw [cl_len, cutS_from28]
      have eAp : (cutS T' none (some (at' : Int)) ++ sg).length = ((cl T').take at').length + (cl sg).length := by rw [cl_len, cl_app, cutS_to28, List.length_append]
      rw [eAp, eT2, sizeLine_eq]
      have := (cut_sub (cl T') (Nat.le_add_right at' r)).1
      omega
    rw [show (at' : Int) + (r : Int) = ((at' + r : Nat) : Int) from by omega]
    have eC : cl (cutS T' none (some (at' : Int)) ++ sg ++ cutS T' (some ((at' + r : Nat) : Int)) none) = (cl T').take at' ++ cl sg ++ (cl T').drop (at' + r) := by rw [cl_app, cl_app, cutS_to28, cutS_from28]
    obtain ⟨l2, c2⟩ := cut_sub (cl T') (Nat.le_add_right at' r)
    refine ⟨_, _, _, _, rfl, (((B.trans (bt_of s3)).trans B4).trans B5).trans B6, ⟨m + 3, by omega, P6⟩, ?_, ?_⟩
    · rw [eC, List.length_append, List.length_append]
      omega
    · rw [eC, cnt_app, cnt_app]
      omega
end
end K28
set_option Elab.async false
set_option linter.all false
set_option maxRecDepth 100000
set_option maxHeartbeats 16000000
namespace K28
open PySem PySem.Spec L2 GB
abbrev sTerm : Stmt := topS 45
def termN : List Str := ["_law_pool_here", "_law_g", "_law_names", "_law_left", "_law_x", "_law_some", "_law_inner", "_law_words_here", "_law_word", "_law_name", "_law_first", "_law_many", "_law_k"]
/-- one of the things of a tuple -/
def spOneT (K : PySem.W.Frag) : Sp := fun vs H Q _ => ∃ (p t : Addr) (xs : List V) (n : Nat), vs = [.ref p, .ref t] ∧ SqT K (hid [p] H) t xs ∧ xs ≠ [] ∧ xs.length ≤ 100000 ∧ n + 1 ≤ 1000000 ∧ PoolIs H p n ∧
  ∀ (v : V) H', v ∈ xs → Bt [p] H H' → PoolIs H' p (n + 1) → Q v H'
def spTerm (K : PySem.W.Frag) (z : Nat) : Sp := fun vs H Q _ => ∃ (p g a l : Addr) (gd : GD) (ns : List Str) (x0 : Nat) (u0 : Int) (n : Nat), vs = [.ref p, .ref g, .ref a, .ref l] ∧ IsG (hid [p, l] H) g gd ∧ gd.Wf ∧ SqT K H a (sts ns) ∧ (∀ m ∈ ns, nameB m = true) ∧ ns.length + z ≤ 100 ∧ p ≠ l ∧
  H l = some (.lst [.int (x0 : Int), .int u0]) ∧ x0 < z ∧ z ≤ 20 ∧ PoolIs H p n ∧ n + 2 * (x0 + 1) ≤ 900000 ∧
  ∀ (v : V) (t : GB.Tm) (x1 : Nat) (u1 : Int) H', Bt [p, l] H H' → H' l = some (.lst [.int (x1 : Int), .int u1]) → t.size + x1 = x0 + 1 → TmOk gd.letters ns t → Dp K H' v t.d → PoolIs H' p (n + 2 * t.size) → Q v H'
section
variable {P : Program} {w : World} {K : PySem.W.Frag} {mg : Str → Option Value} {base : Heap} {C : Addr}
def opsI : List (Str × Nat) := [("if", 3), ("and", 2), ("or", 2), ("not", 1), ("bind", 2), ("try", 2), ("last", 2), ("then", 2), ("then", 2)]
def opsB : List (Str × Nat) := ("bind", 2) :: opsW
theorem opsI_B : ∀ q ∈ opsI, q ∈ opsB := by decide
theorem paired_at {α β : Type} {R : α → β → Prop} : ∀ {l : List α} {m : List β} {j : Nat} {c : α}, Paired R l m → l[j]? = some c → ∃ x, m[j]? = some x ∧ R c x
  | _, _, j, c, .nil, e => by simp at e
  | _, _, 0, c, .cons r _, e => by
    obtain rfl : _ = c := by simpa using e
    exact ⟨_, rfl, r⟩
  | _, _, j + 1, c, .cons _ t, e => paired_at (j := j) t (by simpa using e)
theorem sqT_bt {K : PySem.W.Frag} {ps : List Addr} {H H' : Hp} (hl : ∀ p ∈ ps, ∃ xs, H p = some (.lst xs)) (B : Bt ps H H') {a : Addr} {xs : List V} (h : SqT K H a xs) : SqT K H' a xs := Same.seqT (hid_low ps H') (Same.seqT B (sqT_hid hl h))
theorem leaf_d {w n : Str} (hw : w ∈ nmd) : (GB.Tm.mk w n []).d = .tuple [.str w, .str n] := by
  have : ∀ x ∈ nmd, x ≠ "use" ∧ x ≠ "bind" ∧ x ∉ opsW.map (·.1) := by decide
  obtain ⟨e1, e2, e3⟩ := this w hw
  rw [GB.Tm.d, if_neg e1, if_neg e2, if_neg e3]
theorem paired_map_r {α β γ : Type} {R : α → γ → Prop} {f : β → γ} : ∀ {l : List α} {m : List β}, Paired (fun x y => R x (f y)) l m → Paired R l (m.map f)
  | _, _, .nil => .nil
  | _, _, .cons h t => .cons h (paired_map_r t)
theorem merge_ops : ∀ q ∈ opsB, valV (mergeK [] (opsI.map fun q => ((.inr q.1 : Key), V.int ((q.2 : Nat) : Int)))) (.inr q.1 : Key) = some (.int (q.2 : Int)) := by
  intro q hq
  simp only [opsB, opsW, List.mem_cons, List.not_mem_nil, or_false] at hq
  rcases hq with rfl | rfl | rfl | rfl | rfl | rfl | rfl | rfl <;> rfl
theorem wf_len {g : GD} (w : g.Wf) : g.letters.length ≤ 8 := w.le
theorem ok_oneT {f : Addr} {fd : FuncData} (F : Fun K "_law_one" "_law_one" sOne f fd) (T : Bl mg) (TK : Fns P w K mg base "_law_take" 1 ["_law_pool_here", "_law_many"] spTake) : FnOk P w K mg base CX0 2 f fd ["_law_pool_here", "_law_things"] (spOneT K) := by
  refine F.ok scOne (fun vs H Q E h => ?_) (fun cdv A outer s H vs Q E hr h => ?_)
  · obtain ⟨p, t, xs, n, rfl, _⟩ := h
    rfl
  · obtain ⟨p, t, xs, n, rfl, hS, hx, hx2, hn, hP, q⟩ := h
    refine ⟨_, pss_one (ps_ret (pe_ix ix_tup (pv 1) (pe_fn TK hr (by decide) rfl (pa_cons (pv 0) (pa_cons (pe_callB call_len_seq (by rfl) T.len PySem.boot_len (pa_cons (pv 1) pa_nil)) pa_nil))) (fun _ _ => rfl))), ?_⟩
    have hS0 := Same.seqT (hid_low [p] H) hS
    have l0 : 0 < xs.length := List.length_pos_iff.mpr hx
    refine ⟨_, rfl, _, rfl, _, rfl, t, xs, rfl, .inr hS0, p, _, n, rfl, (by show (0 : Int) < (xs.length : Int); omega), (by show (xs.length : Int) < 1000000; omega), by omega, hP, fun r H4 hr' b4 P4 => ?_⟩
    have hr2 : r < xs.length := by have := hr'; omega
    exact ⟨t, xs, _, xs[r], rfl, rfl, Same.seqT (hid_low [p] H4) (Same.seqT b4 hS), atI_nat (List.getElem?_eq_getElem hr2), q _ H4 (List.getElem_mem hr2) b4 P4⟩
theorem dps_bt {K : PySem.W.Frag} {ps : List Addr} {H H' : Hp} (hl : ∀ p ∈ ps, ∃ xs, H p = some (.lst xs)) (B : Bt ps H H') {vs : List V} {ds : List PyData} (t : tupOs ds = true) (h : DpAll K H vs ds) : DpAll K H' vs ds := dps_mono ((B.trans (hid_low ps H'))) (dps_hid hl ds vs t h)
theorem dp_bt {K : PySem.W.Frag} {ps : List Addr} {H H' : Hp} (hl : ∀ p ∈ ps, ∃ xs, H p = some (.lst xs)) (B : Bt ps H H') {v : V} {d : PyData} (t : tupO d = true) (h : Dp K H v d) : Dp K H' v d := dp_mono ((B.trans (hid_low ps H'))) (dp_hid hl d v t h)
theorem pl_lists {H : Hp} {p l : Addr} {m : Nat} {xs : List V} (P : PoolIs H p m) (h : H l = some (.lst xs)) : ∀ q ∈ [p, l], ∃ ys, H q = some (.lst ys) := fun q hq => by
  simp only [List.mem_cons, List.not_mem_nil, or_false] at hq
  rcases hq with rfl | rfl
  · obtain ⟨x1, y1, w1', hp, _⟩ := P
    exact ⟨_, hp⟩
  · exact ⟨_, h⟩
theorem tupOs_map (ts : List GB.Tm) : tupOs (ts.map GB.Tm.d) = true := by rw [← ds_map]; exact tupO_ds ts
/-- the terms within, one after another -/
theorem kids_ok {z : Nat} {p g a l D : Addr} {gd : GD} {ns : List Str} {σ : L2.St} {H : Hp} {x0 k n : Nat} {u0 : Int} {Qd : Hp → Prop} (hσ : ∀ v, ((wipe σ [12]).set 12 (some v))[0]? = some (some (.ref p)) ∧ ((wipe σ [12]).set 12 (some v))[1]? = some (some (.ref g)) ∧ ((wipe σ [12]).set 12 (some v))[2]? = some (some (.ref a)) ∧ ((wipe σ [12]).set 12 (some v))[3]? = some (some (.ref l)) ∧ wipe ((wipe σ [12]).set 12 (some v)) [12] = wipe σ [12])
    (nD : H D = none) (hG : IsG (hid [p, l] H) g gd) (wf : gd.Wf) (ha : SqT K H a (sts ns)) (hnm : ∀ m ∈ ns, nameB m = true) (hnl : ns.length + z ≤ 100) (pl : p ≠ l) (hl : H l = some (.lst [.int (x0 : Int), .int u0])) (hx : k = 0 ∨ x0 < z) (hz : z ≤ 20) (hk : k ≤ 100) (hP : PoolIs H p n) (hn : n + 2 * (x0 + k) ≤ 900000)
    (done : ∀ (ts : List GB.Tm) (x1 : Nat) (u1 : Int) H' acc, ts.length = k → Bt [p, l] H H' → H' D = some (.lst acc) → DpAll K H' acc (ts.map GB.Tm.d) → H' l = some (.lst [.int (x1 : Int), .int u1]) → GB.Tm.sizes ts + x1 = x0 + k → (∀ (i : Nat) (t : GB.Tm), ts[i]? = some t → TmOk gd.letters ns t) → PoolIs H' p (n + 2 * GB.Tm.sizes ts) → Qd H') :
    ∃ W : Nat → Nat → Hp → Prop, (∃ m, W 0 m (upd H D (.lst []))) ∧ ∀ i m H, W i m H →
      ((Itr 0 k).stop i H ∧ Qd H) ∨ ((Itr 0 k).go i H ∧ ∃ Nx : Hp → Prop, (∀ H', Nx H' → ∃ m', m' < m ∧ W (i + 1) m' H') ∧ ∀ x H', (Itr 0 k).yld i H x H' → gName 12 x (wipe σ [12]) H' fun σ2 H2 => wipe σ2 [12] = wipe σ [12] ∧ tYes σ2 H2 fun b H3 =>
        if b = true then tCall (spTerm K z) [] E0 (tCons (tVar 0) (tCons (tVar 1) (tCons (tVar 2) (tCons (tVar 3) tNil)))) σ2 H3 fun y H4 => ∃ acc, H4 D = some (.lst acc) ∧ acc.length < sizeLine ∧ Nx (upd H4 D (.lst (acc ++ [y]))) else Nx H3) := by
  have Dp' : D ≠ p := hP.ne nD
  have Dl : D ≠ l := fun e => by rw [e, hl] at nD; cases nD
  have Dni : D ∉ [p, l] := by simp [Dp', Dl]
  have PL := pl_lists hP hl
  refine lc_it walk_range (fun i H' => ∃ (ts : List GB.Tm) (x1 : Nat) (u1 : Int) (acc : List V), ts.length = i ∧ Bt [p, l] H H' ∧ H' D = some (.lst acc) ∧ DpAll K H' acc (ts.map GB.Tm.d) ∧ H' l = some (.lst [.int (x1 : Int), .int u1]) ∧ GB.Tm.sizes ts + x1 = x0 + i ∧ (∀ (i : Nat) (t : GB.Tm), ts[i]? = some t → TmOk gd.letters ns t) ∧ PoolIs H' p (n + 2 * GB.Tm.sizes ts))
    ⟨[], x0, u0, [], rfl, bt_of (same_new nD), upd_same, .nil, by rw [upd_ne Dl.symm]; exact hl, by rw [GB.Tm.sizes]; omega, (fun i t h => by simp at h), hP.mono (same_new nD) (by omega)⟩ (fun _ _ _ _ => trivial) ?_ ?_
  · rintro i x H1 H1' hi ⟨ts, x1, u1, acc, hti, B1, hD, hd, hl1, hsz, hok, P1⟩ ⟨rfl, rfl⟩
    obtain ⟨e0, e1, e2, e3, e4⟩ := hσ (.int (0 + (i : Nat)))
    refine ⟨e4, ?_⟩
    have hx' : x0 < z := by
      rcases hx with h | h
      · omega
      · exact h
    have ls := len_sizes ts
    refine ⟨_, e0, _, e1, _, e2, _, e3, p, g, a, l, gd, ns, x1, u1, _, rfl, hG.mono B1, wf, sqT_bt PL B1 ha, hnm, by omega, pl, hl1, by omega, hz, P1, by omega, fun v t x2 u2 H2 B2 hl2 hs2 ok2 d2 P2 => ?_⟩
    have PL1 := pl_lists P1 hl1
    have hD2 := bt_at B2 Dni hD
    have ac2 := dps_bt PL1 B2 (tupOs_map ts) hd
    have lacc : acc.length = i := by rw [dps_len hd, List.length_map, hti]
    refine ⟨acc, hD2, by rw [sizeLine_eq]; omega, ts ++ [t], x2, u2, acc ++ [v], by rw [List.length_append, hti]; rfl, fun b o e => ?_, upd_same, ?_, by rw [upd_ne Dl.symm]; exact hl2, ?_, fun j t' h => ?_, ?_⟩
    · obtain ⟨e', m⟩ := hid_in e
      have bD : b ≠ D := ne_of_none e' nD
      exact hid_to m (by rw [upd_ne bD]; exact bt_at B2 m (bt_at B1 m e'))
    · rw [List.map_append]
      have bD : Bt [D] H2 (upd H2 D (.lst (acc ++ [v]))) := bt_upd (by simp)
      have LD : ∀ q ∈ [D], ∃ ys, H2 q = some (.lst ys) := fun q hq => by rw [List.mem_singleton.mp hq]; exact ⟨_, hD2⟩
      exact dps_app (dps_bt LD bD (tupOs_map ts) ac2) (.cons (dp_bt LD bD (tupO_d t) d2) .nil)
    · rw [sizes_app, GB.Tm.sizes, GB.Tm.sizes]; omega
    · rcases Nat.lt_or_ge j ts.length with hj | hj
      · rw [List.getElem?_append_left hj] at h
        exact hok j t' h
      · rw [List.getElem?_append_right hj] at h
        cases hjj : j - ts.length with
        | zero =>
          rw [hjj] at h
          obtain rfl := Option.some.inj h
          exact ok2
        | succ m => rw [hjj] at h; simp at h
    · have e : n + 2 * GB.Tm.sizes (ts ++ [t]) = n + 2 * GB.Tm.sizes ts + 2 * t.size := by rw [sizes_app, GB.Tm.sizes, GB.Tm.sizes]; omega
      rw [e]
      obtain ⟨x, y, w', hp, r⟩ := P2
      exact ⟨x, y, w', by rw [upd_ne Dp'.symm]; exact hp, r⟩
  · rintro H' ⟨ts, x1, u1, acc, h1, h2, h3, h4, h5, h6, h7, h8⟩
    exact done ts x1 u1 H' acc h1 h2 h3 h4 h5 h6 h7 h8
theorem scTerm : FnScope termN ["_law_pool_here", "_law_g", "_law_names", "_law_left"] (defScope sTerm) := ⟨rfl, rfl, rfl, by decide +kernel, rfl, by decide +kernel, by decide +kernel⟩

theorem ok_term {f : Addr} {fd : FuncData} (F : Fun K "_law_term" "_law_term" sTerm f fd) (T : Bl mg) (mgF : mg "_law_term" = some (.ref f)) (kF : PySem.W.keepIn K (.ref f) = true) (bF : Binds K fd ["_law_pool_here", "_law_g", "_law_names", "_law_left"] [])
    (ON : Fns P w K mg base "_law_one" 2 ["_law_pool_here", "_law_things"] (spOne K)) (OT : Fns P w K mg base "_law_one" 2 ["_law_pool_here", "_law_things"] (spOneT K)) : ∀ z : Nat, FnOk P w K mg base CX0 (2 + z) f fd ["_law_pool_here", "_law_g", "_law_names", "_law_left"] (spTerm K z) := by
  intro z
  induction z with
  | zero =>
    refine F.ok scTerm (fun vs H Q E h => ?_) (fun cdv A outer s H vs Q E hr h => ?_)
    · obtain ⟨p, g, a, l, gd, ns, x0, u0, n, rfl, _⟩ := h
      rfl
    · obtain ⟨p, g, a, l, gd, ns, x0, u0, n, rfl, _, _, _, _, _, _, _, hz, _⟩ := h
      exact absurd hz (by omega)
  | succ z ih =>
    have TM : Fns P w K mg base "_law_term" (2 + z) ["_law_pool_here", "_law_g", "_law_names", "_law_left"] (spTerm K z) := ⟨f, fd, ih, mgF, kF, bF⟩
    refine F.ok scTerm (fun vs H Q E h => ?_) (fun cdv A outer s H vs Q E hr h => ?_)
    · obtain ⟨p, g, a, l, gd, ns, x0, u0, n, rfl, _⟩ := h
      rfl
    · obtain ⟨p, g, a, l, gd, ns, x0, u0, n, rfl, hG, wf, ha, hnm, hnl, pl, hl, hx0, hz20, hP, hn, q⟩ := h
      have l2 : 2 ≤ 2 + z := by omega
      have lz : 2 + z ≤ 2 + z := by omega
      refine ⟨_, pss_cons (ps_lock (ps_setLc (i := 5) (own := [("_law_x", 4)]) (g := gName 4) (tt := tAnd (tTest (tOp (rI0 fun i j => .bl (decide (i ≤ j))) (tDGet (tDGet (tVar 1) (tC (.str "letters"))) (tVar 4)) (tOp (rIxL K) (tVar 3) (tC (.int 0))))) (tTest (tOp (rI0 fun i j => .bl (decide (i > j))) (tOp (rIxL K) (tVar 3) (tC (.int 1))) (tC (.int 0))))) rfl scTerm.nd rfl rfl (sw_true rfl rfl rfl (by decide +kernel)) (pi_keys (pe_dget (hu_of hr) (pv 1) (pe_str) (fun _ _ => rfl))) (blkOk_by (own := [("_law_x", 4)]) (N := termN) (sc := defScope sTerm) (by decide +kernel)) (fun _ _ _ _ _ => pg_name (i := 4) scTerm.nd rfl (.inl rfl)) (fun _ _ _ _ _ => pts_one (PW.pt (pw_and (pt_cmpR op_le (pe_dget (hu_of hr) (pe_dget (hu_of hr) (pv 1) (pe_str) (fun _ _ => rfl)) (pv 4) (fun _ _ => rfl)) (pe_ix ix_list (pv 3) (pe_int) (fun _ _ => rfl)) (nomark _)) (pw_and1 (pt_cmpR op_gt (pe_ix ix_list (pv 3) (pe_int) (fun _ _ => rfl)) (pe_int) (nomark _)))))) (fun _ _ _ _ _ => pv 4))) (pss_cons (ps_set (i := 6) scTerm.nd rfl (.inl rfl) (pe_op op_cat (pe_lst (pa_cons (pe_tup (pa_cons (pe_str) (pa_cons (pe_int) (pa_nil)))) (pa_cons (pe_tup (pa_cons (pe_str) (pa_cons (pe_int) (pa_nil)))) (pa_cons (pe_tup (pa_cons (pe_str) (pa_cons (pe_int) (pa_nil)))) (pa_cons (pe_tup (pa_cons (pe_str) (pa_cons (pe_int) (pa_nil)))) (pa_cons (pe_tup (pa_cons (pe_str) (pa_cons (pe_int) (pa_nil)))) (pa_cons (pe_tup (pa_cons (pe_str) (pa_cons (pe_int) (pa_nil)))) (pa_cons (pe_tup (pa_cons (pe_str) (pa_cons (pe_int) (pa_nil)))) (pa_nil))))))))) (pe_op op_rep (pe_lst (pa_cons (pe_tup (pa_cons (pe_str) (pa_cons (pe_int) (pa_nil)))) (pa_nil))) (pe_int)))) (pss_cons (ps_set (i := 7) scTerm.nd rfl (.inl rfl) (pe_op op_cat (pe_op op_cat (pe_op op_rep (pe_op op_rep (pe_lst (pa_cons (pe_str) (pa_nil))) (pe_int)) (pe_callTy (call_int1) (by rfl) T.int (by decide +kernel) (pa_cons (pe_cmpR (op_neD hr.units) (pv 5) (pe_lst (pa_nil)) (nomark _)) (pa_nil)))) (pe_lst (pa_cons (pe_str) (pa_cons (pe_str) (pa_nil))))) (pe_op op_rep (pe_op op_rep (pe_lst (pa_cons (pe_str) (pa_nil))) (pe_int)) (pe_callTy (call_int1) (by rfl) T.int (by decide +kernel) (pa_cons (pe_cmpR op_gt (pe_callB call_len_seq (by rfl) T.len PySem.boot_len (pa_cons (pv 2) (pa_nil))) (pe_int) (nomark _)) (pa_nil)))))) (pss_cons (ps_set (i := 7) scTerm.nd rfl (.inl rfl) (pe_op op_cat (pv 7) (pe_lc (own := [("_law_word", 8), ("_law_many", 11)]) (g := gTup K 2 (gCons (gName 8) (gCons (gName 11) gNil))) (tt := tTest (tOp (rI0 fun i j => .bl (decide (i ≤ j))) (tVar 11) (tOp (rIxL K) (tVar 3) (tC (.int 0))))) rfl scTerm.nd (pi_list (pv 6)) (blkOk_by (own := [("_law_word", 8), ("_law_many", 11)]) (N := termN) (sc := defScope sTerm) (by decide +kernel)) (fun _ _ _ _ _ => pg_tup rfl (pgs_cons (pg_name (i := 8) scTerm.nd rfl (.inl rfl)) (pgs_cons (pg_name (i := 11) scTerm.nd rfl (.inl rfl)) (pgs_nil)))) (fun _ _ _ _ _ => pts_one (pt_cmpR op_le (pv 11) (pe_ix ix_list (pv 3) (pe_int) (fun _ _ => rfl)) (nomark _))) (fun _ _ _ _ _ => pv 8)))) (pss_cons (ps_set (i := 8) scTerm.nd rfl (.inl rfl) (pe_fn ON hr l2 rfl (pa_cons (pv 0) (pa_cons (pv 7) (pa_nil))))) (pss_cons (ps_if (pt_cmpR op_in_seq (pv 8) (pe_tup (pa_cons (pe_str) (pa_cons (pe_str) (pa_nil)))) (by rfl)) (pss_one (ps_ret (pe_tup (pa_cons (pv 8) (pa_cons (pe_fn ON hr l2 rfl (pa_cons (pv 0) (pa_cons (pe_lst (pa_cons (pe_str) (pa_cons (pe_str) (pa_cons (pe_str) (pa_cons (pe_str) (pa_cons (pe_str) (pa_nil))))))) (pa_nil)))) (pa_nil)))))) (pss_nil)) (pss_cons (ps_if (pt_cmpR op_eq (pv 8) (pe_str) (nomark _)) (pss_one (ps_ret (pe_tup (pa_cons (pv 8) (pa_cons (pe_fn OT hr l2 rfl (pa_cons (pv 0) (pa_cons (pv 2) (pa_nil)))) (pa_nil)))))) (pss_nil)) (pss_cons (ps_if (pt_cmpR op_eq (pv 8) (pe_str) (nomark _)) (pss_cons (ps_set (i := 4) scTerm.nd rfl (.inl rfl) (pe_fn ON hr l2 rfl (pa_cons (pv 0) (pa_cons (pv 5) (pa_nil))))) (pss_cons (ps_asg (pe_tup (pa_cons (pe_op op_sub (pe_ix ix_list (pv 3) (pe_int) (fun _ _ => rfl)) (pe_dget (hu_of hr) (pe_dget (hu_of hr) (pv 1) (pe_str) (fun _ _ => rfl)) (pv 4) (fun _ _ => rfl))) (pa_cons (pe_op op_sub (pe_ix ix_list (pv 3) (pe_int) (fun _ _ => rfl)) (pe_int)) (pa_nil)))) (pg_tup rfl (pgs_cons (pg_sub (pv 3) pe_int set_list) (pgs_cons (pg_sub (pv 3) pe_int set_list) pgs_nil)))) (pss_one (ps_ret (pe_tup (pa_cons (pv 8) (pa_cons (pv 4) (pa_cons (pe_callTy (call_tuple_of) (by rfl) T.tuple (by decide +kernel) (pa_cons (pe_lc (own := [("_law_k", 12)]) (g := gName 12) (tt := tYes) rfl scTerm.nd (pi_range1 rfl T.range (pa_cons (pe_dget (hu_of hr) (pe_dget (hu_of hr) (pv 1) (pe_str) (fun _ _ => rfl)) (pv 4) (fun _ _ => rfl)) (pa_nil))) (blkOk_by (own := [("_law_k", 12)]) (N := termN) (sc := defScope sTerm) (by decide +kernel)) (fun _ _ _ _ _ => pg_name (i := 12) scTerm.nd rfl (.inl rfl)) (fun _ _ _ _ _ => pts_nil) (fun _ _ _ _ _ => pe_fn TM hr lz rfl (pa_cons (pv 0) (pa_cons (pv 1) (pa_cons (pv 2) (pa_cons (pv 3) (pa_nil))))))) (pa_nil))) (pa_nil))))))))) (pss_nil)) (pss_cons (ps_asg (pe_op op_sub (pe_ix ix_list (pv 3) (pe_int) (fun _ _ => rfl)) (pe_dget (hu_of hr) (pe_callTy (call_dictP rfl) (by rfl) T.dict (by decide +kernel) (pa_cons (pv 6) (pa_nil))) (pv 8) (fun _ _ => rfl))) (pg_sub (pv 3) pe_int set_list)) (pss_cons (ps_if (pt_cmpR op_eq (pv 8) (pe_str) (nomark _)) (pss_cons (ps_set (i := 9) scTerm.nd rfl (.inl rfl) (pe_fn ON hr l2 rfl (pa_cons (pv 0) (pa_cons (pe_lst (pa_cons (pe_str) (pa_cons (pe_str) (pa_cons (pe_str) (pa_cons (pe_str) (pa_nil)))))) (pa_nil))))) (pss_cons (ps_set (i := 10) scTerm.nd rfl (.inl rfl) (pe_fn TM hr lz rfl (pa_cons (pv 0) (pa_cons (pv 1) (pa_cons (pv 2) (pa_cons (pv 3) (pa_nil))))))) (pss_one (ps_ret (pe_tup (pa_cons (pv 8) (pa_cons (pv 9) (pa_cons (pv 10) (pa_cons (pe_fn TM hr lz rfl (pa_cons (pv 0) (pa_cons (pv 1) (pa_cons (pe_op op_catA (pv 2) (pe_tup (pa_cons (pv 9) (pa_nil)))) (pa_cons (pv 3) (pa_nil)))))) (pa_nil)))))))))) (pss_nil)) (pss_one (ps_ret (pe_callTy (call_tuple_of) (by rfl) T.tuple (by decide +kernel) (pa_cons (pe_op op_cat (pe_lst (pa_cons (pv 8) (pa_nil))) (pe_lc (own := [("_law_k", 12)]) (g := gName 12) (tt := tYes) rfl scTerm.nd (pi_range1 rfl T.range (pa_cons (pe_dget (hu_of hr) (pe_callTy (call_dictP rfl) (by rfl) T.dict (by decide +kernel) (pa_cons (pv 6) (pa_nil))) (pv 8) (fun _ _ => rfl)) (pa_nil))) (blkOk_by (own := [("_law_k", 12)]) (N := termN) (sc := defScope sTerm) (by decide +kernel)) (fun _ _ _ _ _ => pg_name (i := 12) scTerm.nd rfl (.inl rfl)) (fun _ _ _ _ _ => pts_nil) (fun _ _ _ _ _ => pe_fn TM hr lz rfl (pa_cons (pv 0) (pa_cons (pv 1) (pa_cons (pv 2) (pa_cons (pv 3) (pa_nil)))))))) (pa_nil)))))))))))))), ?_⟩
      obtain ⟨aL, aF, aC, aT, g1, g2, g3, g4, g5⟩ := hG.ex
      have hg := (hid_in g1).1
      have hL := (hid_in g2).1
      have lnd := wf.nd
      have gL : g ≠ aL := ne_of hg hL (by
        intro z
        have z2 := HO.dK.inj z
        revert z2
        cases gd.letters with
        | nil => intro z2; cases z2
        | cons q r =>
          intro z2
          have := congrArg (fun l => l.head?.map Prod.snd) z2
          simp [lkv] at this)
      have lL : l ≠ aL := ne_of hl hL (by intro z; cases z)
      have vL : valV [(.inr "letters", .ref aL), (.inr "fixed", .ref aF), (.inr "commuting", .ref aC), (.inr "facts", .ref aT)] (.inr "letters" : Key) = some (.ref aL) := valV_pos rfl
      refine ⟨aL, _, hL, trivial, fun od => ?_⟩
      obtain ⟨Hl, hlL, hlo, el⟩ : ∃ Hl, Hl aL = some (.frz od (.dK (lkv gd.letters))) ∧ (∀ b, b ≠ aL → Hl b = H b) ∧ upd H aL (.frz od (.dK (lkv gd.letters))) = Hl := ⟨_, upd_same, fun b hb => upd_ne hb, rfl⟩
      rw [el]
      have hgl : Hl g = some _ := (hlo g gL).trans hg
      have hll : Hl l = some _ := (hlo l lL).trans hl
      have DGl : ∀ {H' : Hp}, Same Hl H' → DGet H' g (.str "letters") (some (.ref aL)) := fun s => by
        rw [← vL]
        exact DGet.k (k := .inr "letters") (s _ _ hgl)
      refine ⟨_, rfl, g, .ref aL, rfl, DGl (Same.refl _), aL, od, rfl, .inl ⟨_, hlL, fun D nD => ?_⟩⟩
      refine lc_it walk_keys (fun i H' => ∃ acc : List Str, Same Hl H' ∧ H' D = some (.lst (sts acc)) ∧ acc.length ≤ i ∧ ∀ x ∈ acc, ∃ k, (x, k) ∈ gd.letters ∧ k ≤ x0) ⟨[], same_new nD, upd_same, Nat.le_refl _, fun x h => nomatch h⟩ (fun i H' _ ⟨acc, s', _⟩ => s' _ _ hlL) ?turn ?done
      case turn =>
        rintro i x H1 H1' hi ⟨acc, s1, hD, hal, good⟩ ⟨rfl, k, v, hk, rfl⟩
        obtain ⟨⟨sx, m⟩, hq, eq⟩ : ∃ q, gd.letters[i]? = some q ∧ (Sum.inr q.1, V.int q.2) = (k, v) := by
          unfold lkv at hk
          rw [List.getElem?_map] at hk
          cases e : gd.letters[i]? with
          | none => rw [e] at hk; cases hk
          | some q => rw [e] at hk; exact ⟨q, rfl, Option.some.inj hk⟩
        obtain ⟨rfl, rfl⟩ := Prod.mk.inj eq
        have hmem := List.mem_of_getElem? hq
        have hile : i < gd.letters.length := (List.getElem?_eq_some_iff.mp hq).1
        have DG2 : DGet H1' aL (.str sx) (some (.int (m : Int))) := .inl ⟨lkv gd.letters, .inr sx, .inr ⟨od, s1 _ _ hlL⟩, rfl, (valV_lkv lnd hmem).symm⟩
        have hl1 := s1 _ _ hll
        refine ⟨rfl, ?_⟩
        have l8 := wf_len wf
        refine ⟨_, rfl, g, .ref aL, rfl, DGl s1, _, rfl, aL, .int (m : Int), rfl, DG2, _, rfl, l, _, ((0 : Nat) : Int), _, rfl, rfl, SqL.of hl1, atI_nat (j := 0) rfl, _, _, rfl, rfl, _, rfl, ?_⟩
        by_cases c : (m : Int) ≤ (x0 : Int)
        · rw [decide_eq_true c]
          refine iteT ?_
          refine ⟨_, rfl, l, _, ((1 : Nat) : Int), _, rfl, rfl, SqL.of hl1, atI_nat (j := 1) rfl, _, _, rfl, rfl, _, rfl, ?_⟩
          by_cases c2 : u0 > 0
          · rw [decide_eq_true c2]
            refine ⟨_, rfl, sts acc, hD, by rw [sts_len, sizeLine_eq]; omega, acc ++ [sx], fun b o e => ?_, by rw [upd_same]; unfold sts; rw [List.map_append]; rfl, by rw [List.length_append]; simp; omega, fun y hy => ?_⟩
            · rw [upd_ne (ne_of_none e nD)]; exact s1 _ _ e
            · rcases List.mem_append.mp hy with h | h
              · exact good y h
              · rw [List.mem_singleton.mp h]
                exact ⟨m, hmem, by omega⟩
          · rw [decide_eq_false c2]
            exact ⟨acc, s1, hD, by omega, good⟩
        · rw [decide_eq_false c]
          exact ⟨acc, s1, hD, by omega, good⟩
      rintro H1' ⟨some_, s1', hD1', hsl, hsome⟩
      refine ⟨s1' _ _ hlL, ?_⟩
      have DL : D ≠ aL := fun e => by rw [e, hlL] at nD; cases nD
      have nDH : H D = none := by rw [← hlo D DL]; exact nD
      obtain ⟨H1, s1, hD1, e1⟩ : ∃ H1, Same H H1 ∧ H1 D = some (.lst (sts some_)) ∧ upd H1' aL (.dK (lkv gd.letters)) = H1 := by
        refine ⟨_, fun b o e => ?_, ?_, rfl⟩
        · by_cases hb : b = aL
          · subst hb; rw [upd_same, ← e, hL]
          · rw [upd_ne hb]; exact s1' _ _ ((hlo b hb).trans e)
        · rw [upd_ne DL]; exact hD1'
      rw [e1]
      clear e1 hD1' s1' hlL hlo el hgl hll DGl
      have l8 := wf_len wf
      refine ⟨by show 2 ≤ sizeLine; decide, fun t1 nt1 => ?_⟩
      obtain ⟨Ha1, sa1, ha1, ea1⟩ := lay (o := .tup [.str "if", .int ((3 : Nat) : Int)]) nt1
      rw [show ([V.str "if", V.int 3] : List V) = [.str "if", .int ((3 : Nat) : Int)] from rfl, ea1]
      refine ⟨by show 2 ≤ sizeLine; decide, fun t2 nt2 => ?_⟩
      obtain ⟨Ha2, sa2, ha2, ea2⟩ := lay (o := .tup [.str "and", .int ((2 : Nat) : Int)]) nt2
      rw [show ([V.str "and", V.int 2] : List V) = [.str "and", .int ((2 : Nat) : Int)] from rfl, ea2]
      refine ⟨by show 2 ≤ sizeLine; decide, fun t3 nt3 => ?_⟩
      obtain ⟨Ha3, sa3, ha3, ea3⟩ := lay (o := .tup [.str "or", .int ((2 : Nat) : Int)]) nt3
      rw [show ([V.str "or", V.int 2] : List V) = [.str "or", .int ((2 : Nat) : Int)] from rfl, ea3]
      refine ⟨by show 2 ≤ sizeLine; decide, fun t4 nt4 => ?_⟩
      obtain ⟨Ha4, sa4, ha4, ea4⟩ := lay (o := .tup [.str "not", .int ((1 : Nat) : Int)]) nt4
      rw [show ([V.str "not", V.int 1] : List V) = [.str "not", .int ((1 : Nat) : Int)] from rfl, ea4]
      refine ⟨by show 2 ≤ sizeLine; decide, fun t5 nt5 => ?_⟩
      obtain ⟨Ha5, sa5, ha5, ea5⟩ := lay (o := .tup [.str "bind", .int ((2 : Nat) : Int)]) nt5
      rw [show ([V.str "bind", V.int 2] : List V) = [.str "bind", .int ((2 : Nat) : Int)] from rfl, ea5]
      refine ⟨by show 2 ≤ sizeLine; decide, fun t6 nt6 => ?_⟩
      obtain ⟨Ha6, sa6, ha6, ea6⟩ := lay (o := .tup [.str "try", .int ((2 : Nat) : Int)]) nt6
      rw [show ([V.str "try", V.int 2] : List V) = [.str "try", .int ((2 : Nat) : Int)] from rfl, ea6]
      refine ⟨by show 2 ≤ sizeLine; decide, fun t7 nt7 => ?_⟩
      obtain ⟨Ha7, sa7, ha7, ea7⟩ := lay (o := .tup [.str "last", .int ((2 : Nat) : Int)]) nt7
      rw [show ([V.str "last", V.int 2] : List V) = [.str "last", .int ((2 : Nat) : Int)] from rfl, ea7]
      refine ⟨by show 7 ≤ sizeLine; decide, fun la nla => ?_⟩
      obtain ⟨Hb, sb, hb, eb⟩ := lay (o := .lst [.ref t1, .ref t2, .ref t3, .ref t4, .ref t5, .ref t6, .ref t7]) nla
      rw [eb]
      refine ⟨by show 2 ≤ sizeLine; decide, fun t8 nt8 => ?_⟩
      obtain ⟨Ha8, sa8, ha8, ea8⟩ := lay (o := .tup [.str "then", .int ((2 : Nat) : Int)]) nt8
      rw [show ([V.str "then", V.int 2] : List V) = [.str "then", .int ((2 : Nat) : Int)] from rfl, ea8]
      refine ⟨by show 1 ≤ sizeLine; decide, fun lb nlb => ?_⟩
      obtain ⟨Hc, sc, hc, ec⟩ := lay (o := .lst [.ref t8]) nlb
      rw [ec]
      refine ⟨lb, 2, _, rfl, rfl, hc, by decide, by decide, by show 1 * 2 ≤ sizeLine; decide, fun lc nlc => ?_⟩
      obtain ⟨Hd, sd, hd, ed⟩ := lay (o := .lst [.ref t8, .ref t8]) nlc
      rw [show ((List.replicate (2 : Int).toNat [V.ref t8]).flatten) = [.ref t8, .ref t8] from rfl, ed]
      refine ⟨la, lc, _, _, rfl, rfl, sd _ _ (sc _ _ (sa8 _ _ hb)), hd, by show 7 + 2 ≤ sizeLine; decide, fun I nI => ?_⟩
      obtain ⟨H2, s2, h2, e2⟩ := lay (o := .lst ([t1, t2, t3, t4, t5, t6, t7, t8, t8].map V.ref)) nI
      rw [show ([V.ref t1, .ref t2, .ref t3, .ref t4, .ref t5, .ref t6, .ref t7] ++ [.ref t8, .ref t8]) = [t1, t2, t3, t4, t5, t6, t7, t8, t8].map V.ref from rfl, e2]
      have S12 : Same H1 H2 := (((((((((((sa1.trans sa2).trans sa3).trans sa4).trans sa5).trans sa6).trans sa7).trans sb).trans sa8).trans sc).trans sd).trans s2)
      have hops : Paired (fun t q => H2 t = some (.tup [.str q.1, .int ((q.2 : Nat) : Int)])) [t1, t2, t3, t4, t5, t6, t7, t8, t8] opsI :=
        .cons (((((((((((sa2.trans sa3).trans sa4).trans sa5).trans sa6).trans sa7).trans sb).trans sa8).trans sc).trans sd).trans s2) _ _ ha1) (.cons ((((((((((sa3.trans sa4).trans sa5).trans sa6).trans sa7).trans sb).trans sa8).trans sc).trans sd).trans s2) _ _ ha2) (.cons (((((((((sa4.trans sa5).trans sa6).trans sa7).trans sb).trans sa8).trans sc).trans sd).trans s2) _ _ ha3) (.cons ((((((((sa5.trans sa6).trans sa7).trans sb).trans sa8).trans sc).trans sd).trans s2) _ _ ha4) (.cons (((((((sa6.trans sa7).trans sb).trans sa8).trans sc).trans sd).trans s2) _ _ ha5) (.cons ((((((sa7.trans sb).trans sa8).trans sc).trans sd).trans s2) _ _ ha6) (.cons (((((sb.trans sa8).trans sc).trans sd).trans s2) _ _ ha7) (.cons (((sc.trans sd).trans s2) _ _ ha8) (.cons (((sc.trans sd).trans s2) _ _ ha8) (.nil)))))))))
      generalize hts : [t1, t2, t3, t4, t5, t6, t7, t8, t8] = ts at h2 hops
      clear hts
      clear ha1
      clear ha2
      clear ha3
      clear ha4
      clear ha5
      clear ha6
      clear ha7
      have S2 : Same H H2 := s1.trans S12
      have hD2 := S12 _ _ hD1
      have okn8 : ∀ y ∈ some_, PyData.strOk y = true := fun y hy => by
        obtain ⟨k, hk, _⟩ := hsome y hy
        exact ok8 y (wf.nm _ hk)
      refine ⟨by show 1 ≤ sizeLine; decide, fun b1 nb1 => ?_⟩
      obtain ⟨G1, r1, k1, f1⟩ := lay (o := .lst [.str "use"]) nb1
      rw [f1]
      refine ⟨b1, 4, _, rfl, rfl, k1, by decide, by decide, by show 1 * 4 ≤ sizeLine; decide, fun b2 nb2 => ?_⟩
      obtain ⟨G2, r2, k2, f2⟩ := lay (o := .lst (sts (List.replicate 4 "use"))) nb2
      rw [show ((List.replicate (4 : Int).toNat [V.str "use"]).flatten) = sts (List.replicate 4 "use") from rfl, f2]
      refine ⟨_, rfl, by show 0 ≤ sizeLine; decide, fun b3 nb3 => ?_⟩
      obtain ⟨G3, r3, k3, f3⟩ := lay (o := .lst []) nb3
      rw [f3]
      have R3 : Same H2 G3 := (r1.trans r2).trans r3
      refine ⟨.list (pst some_), .list [], .lst (SqL.of (R3 _ _ hD2)) (dp_sts some_), .lst (SqL.of k3) .nil, sh_pst okn8, by decide +kernel, .inr ⟨_, rfl, ?_⟩⟩
      rw [ne_nil]
      obtain ⟨w1, ew1, hw1, lw1, ki⟩ : ∃ w1 : List Str, (List.replicate (if decide (some_ ≠ []) = true then (1 : Int) else 0).toNat (sts (List.replicate 4 "use"))).flatten = sts w1 ∧ (∀ x ∈ w1, x = "use" ∧ some_ ≠ []) ∧ w1.length ≤ 4 ∧ ((if decide (some_ ≠ []) = true then (1 : Int) else 0) = 0 ∨ (if decide (some_ ≠ []) = true then (1 : Int) else 0) = 1) := by
        by_cases h : some_ = []
        · exact ⟨[], by rw [decide_eq_false (not_not_intro h)]; rfl, (fun x hx => nomatch hx), by decide, .inl (by rw [decide_eq_false (not_not_intro h)]; rfl)⟩
        · exact ⟨List.replicate 4 "use", by rw [decide_eq_true h]; rfl, fun x hx => ⟨(List.mem_replicate.mp hx).2, h⟩, by decide, .inr (by rw [decide_eq_true h]; rfl)⟩
      refine ⟨b2, _, _, rfl, rfl, r3 _ _ k2, by rcases ki with e | e <;> rw [e] <;> decide, by rcases ki with e | e <;> rw [e] <;> decide, by rcases ki with e | e <;> rw [e] <;> decide, fun b4 nb4 => ?_⟩
      obtain ⟨G4, r4, k4, f4⟩ := lay (o := .lst (sts w1)) nb4
      rw [ew1, f4]
      refine ⟨by show 2 ≤ sizeLine; decide, fun b5 nb5 => ?_⟩
      obtain ⟨G5, r5, k5, f5⟩ := lay (o := .lst (sts ["value", "fail"])) nb5
      rw [show ([V.str "value", V.str "fail"] : List V) = sts ["value", "fail"] from rfl, f5]
      refine ⟨b4, b5, _, _, rfl, rfl, r5 _ _ k4, k5, by rw [sts_len, sts_len, sizeLine_eq]; simp; omega, fun b6 nb6 => ?_⟩
      obtain ⟨G6, r6, k6, f6⟩ := lay (o := .lst (sts (w1 ++ (["value", "fail"] : List Str)))) nb6
      rw [show sts w1 ++ sts ["value", "fail"] = sts (w1 ++ (["value", "fail"] : List Str)) from (List.map_append ..).symm, f6]
      refine ⟨by show 1 ≤ sizeLine; decide, fun b7 nb7 => ?_⟩
      obtain ⟨G7, r7, k7, f7⟩ := lay (o := .lst [.str "name"]) nb7
      rw [f7]
      refine ⟨b7, 2, _, rfl, rfl, k7, by decide, by decide, by show 1 * 2 ≤ sizeLine; decide, fun b8 nb8 => ?_⟩
      obtain ⟨G8, r8, k8, f8⟩ := lay (o := .lst (sts (List.replicate 2 "name"))) nb8
      rw [show ((List.replicate (2 : Int).toNat [V.str "name"]).flatten) = sts (List.replicate 2 "name") from rfl, f8]
      have R8 : Same H2 G8 := ((((R3.trans r4).trans r5).trans r6).trans r7).trans r8
      refine ⟨_, rfl, a, _, rfl, .inr (Same.seqT (S2.trans R8) ha), _, _, rfl, rfl, .inr ⟨_, rfl, ?_⟩⟩
      obtain ⟨w2, ew2, hw2, lw2, kj⟩ : ∃ w2 : List Str, (List.replicate (if decide (((sts ns).length : Int) > 0) = true then (1 : Int) else 0).toNat (sts (List.replicate 2 "name"))).flatten = sts w2 ∧ (∀ x ∈ w2, x = "name" ∧ ns ≠ []) ∧ w2.length ≤ 2 ∧ ((if decide (((sts ns).length : Int) > 0) = true then (1 : Int) else 0) = 0 ∨ (if decide (((sts ns).length : Int) > 0) = true then (1 : Int) else 0) = 1) := by
        by_cases h : ns = []
        · subst h
          exact ⟨[], rfl, (fun x hx => nomatch hx), by decide, .inl rfl⟩
        · have h0 : ((sts ns).length : Int) > 0 := by rw [sts_len]; have := List.length_pos_iff.mpr h; omega
          exact ⟨List.replicate 2 "name", by rw [decide_eq_true h0]; rfl, fun x hx => ⟨(List.mem_replicate.mp hx).2, h⟩, by decide, .inr (by rw [decide_eq_true h0]; rfl)⟩
      refine ⟨b8, _, _, rfl, rfl, k8, by rcases kj with e | e <;> rw [e] <;> decide, by rcases kj with e | e <;> rw [e] <;> decide, by rcases kj with e | e <;> rw [e] <;> decide, fun b9 nb9 => ?_⟩
      obtain ⟨G9, r9, k9, f9⟩ := lay (o := .lst (sts w2)) nb9
      rw [ew2, f9]
      refine ⟨b6, b9, _, _, rfl, rfl, r9 _ _ (r8 _ _ (r7 _ _ k6)), k9, by rw [sts_len, sts_len, List.length_append, sizeLine_eq]; simp; omega, fun Wl nWl => ?_⟩
      obtain ⟨H3, r10, h3W, f10⟩ := lay (o := .lst (sts ((w1 ++ (["value", "fail"] : List Str)) ++ w2))) nWl
      rw [show sts (w1 ++ (["value", "fail"] : List Str)) ++ sts w2 = sts ((w1 ++ (["value", "fail"] : List Str)) ++ w2) from (List.map_append ..).symm, f10]
      obtain ⟨wd1, ewd1, hwd1, lwd1, vwd1⟩ : ∃ wd1, (w1 ++ (["value", "fail"] : List Str)) ++ w2 = wd1 ∧ (∀ x ∈ wd1, (x = "use" ∧ some_ ≠ []) ∨ x = "value" ∨ x = "fail" ∨ (x = "name" ∧ ns ≠ [])) ∧ wd1.length ≤ 8 ∧ wd1 ≠ [] := by
        refine ⟨_, rfl, fun x hx => ?_, ?_, ?_⟩
        · rcases List.mem_append.mp hx with hx | hx
          · rcases List.mem_append.mp hx with hx | hx
            · exact .inl (hw1 x hx)
            · simp only [List.mem_cons, List.not_mem_nil, or_false] at hx
              rcases hx with rfl | rfl
              · exact .inr (.inl rfl)
              · exact .inr (.inr (.inl rfl))
          · exact .inr (.inr (.inr (hw2 x hx)))
        · rw [List.length_append, List.length_append]
          show w1.length + 2 + w2.length ≤ 8
          omega
        · intro e
          have := congrArg List.length e
          rw [List.length_append, List.length_append] at this
          simp at this
      rw [ewd1] at h3W
      have S23 : Same H2 H3 := (R8.trans r9).trans r10
      have S3 : Same H H3 := S2.trans S23
      have hD3 := S23 _ _ hD2
      have h3I := S23 _ _ h2
      have hops3 : Paired (fun t q => H3 t = some (.tup [.str q.1, .int ((q.2 : Nat) : Int)])) ts opsI := Paired.mapP hops fun _ _ r => S23 _ _ r
      clear r1 r2 r3 r4 r5 r6 r7 r8 r9 r10 k1 k2 k3 k4 k5 k6 k7 k8 k9 f1 f2 f3 f4 f5 f6 f7 f8 f9 f10 nb1 nb2 nb3 nb4 nb5 nb6 nb7 nb8 nb9 ew1 ew2 hw1 hw2 lw1 lw2 ki kj R3 R8 ewd1
      have hl3 := S3 _ _ hl
      refine ⟨_, rfl, ?_⟩
      refine ⟨_, rfl, I, rfl, ⟨_, SqL.of h3I⟩, fun D2 nD2 => ?_⟩
      refine lc_it walk_list (fun i H' => ∃ acc : List Str, Same H3 H' ∧ H' D2 = some (.lst (sts acc)) ∧ acc.length ≤ i ∧ ∀ x ∈ acc, ∃ m, (x, m) ∈ opsB ∧ m ≤ x0) ⟨[], same_new nD2, upd_same, Nat.le_refl _, fun x h => nomatch h⟩ (fun i H' _ ⟨acc, s', _⟩ => s'.seq (SqL.of h3I)) ?turn4 ?done4
      case turn4 =>
        rintro i x H4 H4' hi ⟨acc, s4, hDa, hal, good⟩ ⟨rfl, hx⟩
        obtain ⟨tq, htq, rfl⟩ : ∃ tq, ts[i]? = some tq ∧ x = V.ref tq := by
          rw [List.getElem?_map] at hx
          cases e : ts[i]? with
          | none => rw [e] at hx; cases hx
          | some y => rw [e] at hx; exact ⟨y, rfl, (Option.some.inj hx).symm⟩
        obtain ⟨qo, hqo, ho⟩ := paired_at hops3 htq
        have hi9 : i < 9 := by
          have := (List.getElem?_eq_some_iff.mp hqo).1
          exact this
        have hl4 := s4 _ _ hl3
        refine ⟨tq, _, rfl, SqT.of (s4 _ _ ho), rfl, _, _, rfl, _, _, rfl, rfl, rfl, ?_⟩
        refine ⟨_, rfl, _, rfl, l, _, ((0 : Nat) : Int), _, rfl, rfl, SqL.of hl4, atI_nat (j := 0) rfl, _, _, rfl, rfl, _, rfl, ?_⟩
        by_cases c : (qo.2 : Int) ≤ (x0 : Int)
        · rw [decide_eq_true c]
          refine ⟨_, rfl, sts acc, hDa, by rw [sts_len, sizeLine_eq]; omega, acc ++ [qo.1], fun b o e => ?_, by rw [upd_same]; unfold sts; rw [List.map_append]; rfl, by rw [List.length_append]; simp; omega, fun y hy => ?_⟩
          · rw [upd_ne (ne_of_none e nD2)]; exact s4 _ _ e
          · rcases List.mem_append.mp hy with h | h
            · exact good y h
            · rw [List.mem_singleton.mp h]
              exact ⟨qo.2, opsI_B _ (List.mem_of_getElem? hqo), by omega⟩
        · rw [decide_eq_false c]
          exact ⟨acc, s4, hDa, by omega, good⟩
      rintro H4 ⟨acc, s4, hDa, hal, good⟩
      have lI : acc.length ≤ 9 := by
        rw [List.length_map, Paired.length hops3] at hal
        exact hal
      refine ⟨Wl, D2, _, _, rfl, rfl, s4 _ _ h3W, hDa, by rw [sts_len, sts_len, sizeLine_eq]; omega, fun W2 nW2 => ?_⟩
      obtain ⟨H5, s5, h5W, e5⟩ := lay (o := .lst (sts (wd1 ++ acc))) nW2
      rw [show sts wd1 ++ sts acc = sts (wd1 ++ acc) from (List.map_append ..).symm, e5]
      have S5 : Same H H5 := (S3.trans s4).trans s5
      have P5 := hP.mono S5 (Nat.le_refl _)
      have W2p : W2 ≠ p := (hP.mono (S3.trans s4) (Nat.le_refl _)).ne nW2
      have wne : wd1 ++ acc ≠ [] := fun e => vwd1 (List.append_eq_nil_iff.mp e).1
      refine ⟨_, rfl, _, rfl, p, W2, sts (wd1 ++ acc), n, rfl, SqL.of (hid_to (ni1 W2p) h5W), fun e => wne (List.map_eq_nil_iff.mp e), by rw [sts_len, List.length_append]; omega, by omega, P5, fun v H6 hv B56 P6 => ?_⟩
      obtain ⟨wd, hwd, rfl⟩ := mem_sts hv
      have hW : (wd = "use" ∧ some_ ≠ []) ∨ wd = "value" ∨ wd = "fail" ∨ (wd = "name" ∧ ns ≠ []) ∨ ∃ m, (wd, m) ∈ opsB ∧ m ≤ x0 := by
        rcases List.mem_append.mp hwd with h | h
        · rcases hwd1 wd h with h | h | h | h
          · exact .inl h
          · exact .inr (.inl h)
          · exact .inr (.inr (.inl h))
          · exact .inr (.inr (.inr (.inl h)))
        · exact .inr (.inr (.inr (.inr (good wd h))))
      have B06 : Bt [p] H H6 := (bt_of S5).trans B56
      have Dp_ : D ≠ p := by
        obtain ⟨x1, y1, w1', hp, _⟩ := hP.mono S3 (Nat.le_refl _)
        intro e
        rw [e, hp] at hD3
        have := HO.lst.inj (Option.some.inj hD3)
        cases hs : some_ with
        | nil => rw [hs] at this; cases this
        | cons y r => rw [hs] at this; cases this
      have hD6 : H6 D = some (.lst (sts some_)) := bt_at B56 (ni1 Dp_) (s5 _ _ (s4 _ _ hD3))
      have hl6 : H6 l = some (.lst [.int (x0 : Int), .int u0]) := bt_at B56 (ni1 pl.symm) (s5 _ _ (s4 _ _ hl3))
      have Ip : I ≠ p := by
        obtain ⟨x1, y1, w1', hp, _⟩ := hP.mono S3 (Nat.le_refl _)
        intro e
        rw [e, hp] at h3I
        have h := HO.lst.inj (Option.some.inj h3I)
        have hl := congrArg List.length h
        rw [List.length_map, Paired.length hops3] at hl
        exact absurd hl (by show ¬ 3 = 9; decide)
      have h6I : H6 I = some (.lst (ts.map V.ref)) := bt_at B56 (ni1 Ip) (s5 _ _ (s4 _ _ h3I))
      have hops6 : Paired (fun t q => H6 t = some (.tup [.str q.1, .int ((q.2 : Nat) : Int)])) ts opsI := Paired.mapP hops3 fun t q r => by
        obtain ⟨x1, y1, w1', hp, _⟩ := hP.mono S3 (Nat.le_refl _)
        exact bt_at B56 (ni1 (ne_of r hp (by intro z; cases z))) (s5 _ _ (s4 _ _ r))
      have hG6 : IsG (hid [p, l] H6) g gd := hG.mono (bt_weak (fun q hq => by rw [List.mem_singleton.mp hq]; simp) B06)
      have ha6 : SqT K H6 a (sts ns) := sqT_bt (fun q hq => by rw [List.mem_singleton.mp hq]; obtain ⟨x1, y1, w1', hp, _⟩ := hP; exact ⟨_, hp⟩) B06 ha
      clear hops hops3 hwd hv good h3W hDa hal h5W e5 s4 s5 hD1 hD2 hD3 h2 h3I hwd1 wne S12 S23
      have B2 : Bt [p, l] H H6 := bt_weak (fun q hq => by rw [List.mem_singleton.mp hq]; simp) B06
      have PLl : ∀ {H' : Hp} {m : Nat}, PoolIs H' p m → H' l = some (.lst [.int (x0 : Int), .int u0]) → ∀ q ∈ [p, l], ∃ xs, H' q = some (.lst xs) := fun P h q hq => by
        simp only [List.mem_cons, List.not_mem_nil, or_false] at hq
        rcases hq with rfl | rfl
        · obtain ⟨x1, y1, w1', hp, _⟩ := P
          exact ⟨_, hp⟩
        · exact ⟨_, h⟩
      refine ⟨_, rfl, by show 2 ≤ sizeLine; decide, fun tv ntv => ?_⟩
      obtain ⟨H7, s7, h7, e7⟩ := lay (o := .tup (sts ["value", "fail"])) ntv
      rw [show ([V.str "value", V.str "fail"] : List V) = sts ["value", "fail"] from rfl, e7]
      refine ⟨tv, sts ["value", "fail"], rfl, .inr (SqT.of h7), rfl, flat_sts _, _, rfl, ?_⟩
      rw [show (if false = true then !inV (.str wd) (sts ["value", "fail"]) else inV (.str wd) (sts ["value", "fail"])) = decide (wd ∈ (["value", "fail"] : List Str)) from inV_sts wd ["value", "fail"]]
      have P7 := P6.mono s7 (Nat.le_refl _)
      have hl7 := s7 _ _ hl6
      have ha7 := Same.seqT s7 ha6
      have B07 : Bt [p, l] H H7 := B2.trans (bt_of s7)
      by_cases c6 : wd ∈ (["value", "fail"] : List Str)
      · rw [decide_eq_true c6]
        refine iteT ?_
        refine ⟨_, rfl, _, rfl, by show 5 ≤ sizeLine; decide, fun b nb => ?_⟩
        obtain ⟨H8, s8, h8, e8⟩ := lay (o := .lst (sts ["one", "two", "false", "true", "x"])) nb
        rw [show ([V.str "one", V.str "two", V.str "false", V.str "true", V.str "x"] : List V) = sts ["one", "two", "false", "true", "x"] from rfl, e8]
        refine ⟨p, b, sts ["one", "two", "false", "true", "x"], n + 1, rfl, SqL.of (hid_to (ni1 (P7.ne nb)) h8), (fun z => nomatch z), by decide, by omega, P7.mono s8 (Nat.le_refl _), fun v H9 hv B9 P9 => ?_⟩
        obtain ⟨nm, hnm', rfl⟩ := mem_sts hv
        refine ⟨by show 2 ≤ sizeLine; decide, fun t nt => ?_⟩
        obtain ⟨H10, s10, h10, e10⟩ := lay (o := .tup [.str wd, .str nm]) nt
        rw [e10]
        have nB : nameB nm = true := (show ∀ x ∈ (["one", "two", "false", "true", "x"] : List Str), nameB x = true by decide +kernel) nm hnm'
        have hin : wd ∈ nmd := (show ∀ x ∈ (["value", "fail"] : List Str), x ∈ nmd by decide) wd c6
        have hd : HeadOk gd.letters ns wd nm 0 := by
          simp only [List.mem_cons, List.not_mem_nil, or_false] at c6
          rcases c6 with rfl | rfl
          · exact .val nB
          · exact .fail nB
        have hl10 : H10 l = some (.lst [.int (x0 : Int), .int u0]) := s10 _ _ (bt_at B9 (ni1 pl.symm) (s8 _ _ hl7))
        exact q (.ref t) (.mk wd nm []) x0 u0 H10 (B07.trans ((bt_of s8).trans ((bt_weak (fun q hq => by rw [List.mem_singleton.mp hq]; simp) B9).trans (bt_of s10)))) hl10 (by rw [GB.Tm.size, GB.Tm.sizes]; omega) (.mk hd fun i k h => by simp at h) (by rw [leaf_d hin]; exact .tup (SqT.of h10) (.cons (.str _) (.cons (.str _) .nil))) (P9.mono s10 (by rw [GB.Tm.size, GB.Tm.sizes]; omega))
      rw [decide_eq_false c6]
      refine iteF ?_
      refine ⟨_, rfl, rfl, _, rfl, ?_⟩
      rw [decS]
      by_cases c7 : wd = "name"
      · rw [decide_eq_true c7]
        refine iteT ?_
        have nse : ns ≠ [] := by
          rcases hW with h | h | h | h | ⟨m, h, _⟩
          · exact absurd (h.1.symm.trans c7) (by decide)
          · exact absurd (h.symm.trans c7) (by decide)
          · exact absurd (h.symm.trans c7) (by decide)
          · exact h.2
          · rw [c7] at h
            exact absurd rfl ((show ∀ q ∈ opsB, q.1 ≠ "name" by decide) _ h)
        have ha7' : SqT K (hid [p] H7) a (sts ns) := sqT_hid (fun q hq => by rw [List.mem_singleton.mp hq]; obtain ⟨x1, y1, w1', hp, _⟩ := P7; exact ⟨_, hp⟩) ha7
        refine ⟨_, rfl, _, rfl, _, rfl, p, a, sts ns, n + 1, rfl, ha7', fun e => nse (List.map_eq_nil_iff.mp e), by rw [sts_len]; omega, by omega, P7, fun v H9 hv B9 P9 => ?_⟩
        obtain ⟨nm, hnm', rfl⟩ := mem_sts hv
        refine ⟨by show 2 ≤ sizeLine; decide, fun t nt => ?_⟩
        obtain ⟨H10, s10, h10, e10⟩ := lay (o := .tup [.str wd, .str nm]) nt
        rw [e10]
        have hin : wd ∈ nmd := by rw [c7]; decide
        have hd : HeadOk gd.letters ns wd nm 0 := by
          rw [c7]
          exact .name (hnm nm hnm') hnm'
        have hl10 : H10 l = some (.lst [.int (x0 : Int), .int u0]) := s10 _ _ (bt_at B9 (ni1 pl.symm) hl7)
        exact q (.ref t) (.mk wd nm []) x0 u0 H10 (B07.trans ((bt_weak (fun q hq => by rw [List.mem_singleton.mp hq]; simp) B9).trans (bt_of s10))) hl10 (by rw [GB.Tm.size, GB.Tm.sizes]; omega) (.mk hd fun i k h => by simp at h) (by rw [leaf_d hin]; exact .tup (SqT.of h10) (.cons (.str _) (.cons (.str _) .nil))) (P9.mono s10 (by rw [GB.Tm.size, GB.Tm.sizes]; omega))
      rw [decide_eq_false c7]
      refine iteF ?_
      refine ⟨_, rfl, rfl, _, rfl, ?_⟩
      rw [decS]
      have hG7 : IsG (hid [p, l] H7) g gd := hG6.mono (hid_same s7)
      have hD7 := s7 _ _ hD6
      have h7I := s7 _ _ h6I
      have hops7 : Paired (fun t q => H7 t = some (.tup [.str q.1, .int ((q.2 : Nat) : Int)])) ts opsI := Paired.mapP hops6 fun _ _ r => s7 _ _ r
      clear hops6 h6I hD6 hG6 ha6 hl6 B06 B56 B2 h7 e7
      have DGg : ∀ {H' : Hp}, IsG (hid [p, l] H') g gd → ∃ aL, DGet H' g (.str "letters") (some (.ref aL)) ∧ H' aL = some (.dK (lkv gd.letters)) := fun hG => by
        obtain ⟨aL, aF, aC, aT, g1, g2, _⟩ := hG.ex
        have e : valV [(.inr "letters", .ref aL), (.inr "fixed", .ref aF), (.inr "commuting", .ref aC), (.inr "facts", .ref aT)] (.inr "letters" : Key) = some (.ref aL) := valV_pos rfl
        exact ⟨aL, by rw [← e]; exact DGet.k (k := .inr "letters") (hid_in g1).1, (hid_in g2).1⟩
      have lsome : some_.length ≤ 8 := by
        have e : (lkv gd.letters).length = gd.letters.length := List.length_map _
        omega
      by_cases c8 : wd = "use"
      · rw [decide_eq_true c8]
        refine iteT ?_
        have sne : some_ ≠ [] := by
          rcases hW with h | h | h | h | ⟨m, h, _⟩
          · exact h.2
          · exact absurd (h.symm.trans c8) (by decide)
          · exact absurd (h.symm.trans c8) (by decide)
          · exact absurd (h.1.symm.trans c8) (by decide)
          · rw [c8] at h
            exact absurd rfl ((show ∀ q ∈ opsB, q.1 ≠ "use" by decide) _ h)
        refine ⟨_, rfl, _, rfl, p, D, sts some_, n + 1, rfl, SqL.of (hid_to (ni1 Dp_) hD7), fun e => sne (List.map_eq_nil_iff.mp e), by rw [sts_len]; omega, by omega, P7, fun v H8 hv B8 P8 => ?_⟩
        obtain ⟨x, hxs, rfl⟩ := mem_sts hv
        obtain ⟨k, hk, hkx⟩ := hsome x hxs
        have hk2 := wf.ar _ hk
        have B8' : Bt [p, l] H7 H8 := bt_weak (fun q hq => by rw [List.mem_singleton.mp hq]; simp) B8
        have hl8 := bt_at B8 (ni1 pl.symm) hl7
        have hG8 := hG7.mono B8'
        obtain ⟨aL8, dg8, hL8⟩ := DGg hG8
        have DG2 : DGet H8 aL8 (.str x) (some (.int (k : Int))) := by rw [← valV_lkv lnd hk]; exact DGet.k (k := .inr x) hL8
        refine ⟨_, rfl, l, _, ((0 : Nat) : Int), _, rfl, rfl, SqL.of hl8, atI_nat (j := 0) rfl, _, rfl, g, .ref aL8, rfl, dg8, _, rfl, aL8, .int (k : Int), rfl, DG2, _, _, rfl, rfl, _, rfl, l, _, ((1 : Nat) : Int), _, rfl, rfl, SqL.of hl8, atI_nat (j := 1) rfl, _, _, rfl, rfl, by show 2 ≤ sizeLine; decide, fun tt ntt => ?_⟩
        obtain ⟨H9, s9, h9, e9⟩ := lay (o := .tup [.int ((x0 : Int) - k), .int (u0 - 1)]) ntt
        rw [e9]
        refine ⟨tt, _, rfl, SqT.of h9, rfl, _, _, rfl, _, rfl, l, _, ((0 : Nat) : Int), 0, rfl, rfl, s9 _ _ hl8, rfl, ?_⟩
        refine ⟨_, _, rfl, _, rfl, l, _, ((1 : Nat) : Int), 1, rfl, rfl, upd_same, rfl, ?_⟩
        refine ⟨rfl, ?_⟩
        obtain ⟨H10, b10, h10, e10⟩ : ∃ H10, (∀ b o, b ≠ l → H9 b = some o → H10 b = some o) ∧ H10 l = some (.lst [.int (((x0 - k : Nat)) : Int), .int (u0 - 1)]) ∧ upd (upd H9 l (.lst ([V.int (x0 : Int), V.int u0].set 0 (V.int ((x0 : Int) - (k : Int)))))) l (.lst (([V.int (x0 : Int), V.int u0].set 0 (V.int ((x0 : Int) - (k : Int)))).set 1 (V.int (u0 - 1)))) = H10 :=
          ⟨_, fun b o z e => by rw [upd_ne z, upd_ne z]; exact e, by rw [upd_same, show (((x0 - k : Nat)) : Int) = (x0 : Int) - k by omega]; rfl, rfl⟩
        rw [e10]
        have B10 : Bt [p, l] H H10 := (B07.trans (B8'.trans (bt_of s9))).trans (by rw [← e10]; exact (bt_upd (by simp)).trans (bt_upd (by simp)))
        have B710 : Bt [p, l] H7 H10 := (B8'.trans (bt_of s9)).trans (by rw [← e10]; exact (bt_upd (by simp)).trans (bt_upd (by simp)))
        have P10 : PoolIs H10 p (n + 1 + 1) := by
          obtain ⟨x1, y1, w1', hp, r⟩ := P8.mono s9 (Nat.le_refl _)
          exact ⟨x1, y1, w1', b10 _ _ pl hp, r⟩
        have PL7 := pl_lists P7 hl7
        have hG10 := hG7.mono B710
        have ha10 := sqT_bt PL7 B710 ha7
        obtain ⟨aL10, dg10, hL10⟩ := DGg hG10
        have DG10 : DGet H10 aL10 (.str x) (some (.int (k : Int))) := by rw [← valV_lkv lnd hk]; exact DGet.k (k := .inr x) hL10
        refine ⟨_, rfl, _, rfl, _, rfl, g, .ref aL10, rfl, dg10, _, rfl, aL10, .int (k : Int), rfl, DG10, k, rfl, by omega, by omega, fun D3 nD3 => ?_⟩
        refine kids_ok (n := n + 2) (fun v => ⟨rfl, rfl, rfl, rfl, rfl⟩) nD3 hG10 wf ha10 hnm (by omega) pl h10 (by omega) (by omega) (by omega) P10 (by omega) fun ts x1 u1 H11 acc hts B11 hD11 hd11 hl11 hs11 ok11 P11 => ?_
        refine ⟨D3, acc, rfl, .inl ⟨SqL.of hD11, fun tk ntk => ?_⟩⟩
        obtain ⟨H12, s12, h12, e12⟩ := lay (o := .tup acc) ntk
        rw [e12]
        refine ⟨by show 3 ≤ sizeLine; decide, fun t nt => ?_⟩
        obtain ⟨H13, s13, h13, e13⟩ := lay (o := .tup [.str wd, .str x, .ref tk]) nt
        rw [e13]
        refine q (.ref t) (.mk wd x ts) x1 u1 H13 ((B10.trans B11).trans (bt_of (s12.trans s13))) (s13 _ _ (s12 _ _ hl11)) (by rw [GB.Tm.size]; omega) (.mk (by rw [c8, hts]; exact .use hk) fun i t' h => ?_) ?_ (P11.mono (s12.trans s13) (by rw [GB.Tm.size]; omega))
        · rw [c8]
          unfold nsAt
          rw [if_neg (fun h => absurd h.1 (by decide))]
          exact ok11 i t' h
        · rw [d_node, c8]
          exact .tup (by rw [← c8]; exact SqT.of h13) (.cons (.str _) (.cons (.str _) (.cons (.tup (SqT.of (s13 _ _ h12)) (dps_mono (s12.trans s13) hd11)) .nil)))
      rw [decide_eq_false c8]
      refine iteF ?_
      obtain ⟨m, hmB, hmx⟩ : ∃ m, (wd, m) ∈ opsB ∧ m ≤ x0 := by
        rcases hW with h | h | h | h | h
        · exact absurd h.1 c8
        · exact absurd (by rw [h]; decide) c6
        · exact absurd (by rw [h]; decide) c6
        · exact absurd h.1 c7
        · exact h
      have dictOf : ∀ {H' : Hp} {Q' : VK}, H' I = some (.lst (ts.map V.ref)) → Paired (fun t q => H' t = some (.tup [.str q.1, .int ((q.2 : Nat) : Int)])) ts opsI → (∀ H2, Same H' H2 → Q' (.int (m : Int)) H2) → ∃ (a : Addr) (ps : List Addr) (kvs : List (Key × V)), [V.ref I] = [.ref a] ∧ SqL K H' a (ps.map V.ref) ∧ Paired (fun p kv => SqT K H' p [kV kv.1, kv.2]) ps kvs ∧ ∀ p', H' p' = none → (fun (x : V) (H2 : Hp) => ∃ v, [some (V.str wd)][0]? = some (some v) ∧ ∃ (a : Addr) (v' : V), x = .ref a ∧ DGet H2 a v (some v') ∧ Q' v' H2) (.ref p') (upd H' p' (.dK (mergeK [] kvs))) := fun {H' Q'} hI ho qq => by
        refine ⟨I, ts, opsI.map fun q => ((.inr q.1 : Key), V.int ((q.2 : Nat) : Int)), rfl, SqL.of hI, ?_, fun p' np => ?_⟩
        · exact paired_map_r (Paired.mapP ho fun _ _ r => SqT.of r)
        · obtain ⟨H2, s2', h2', e2'⟩ := lay (o := .dK (mergeK [] (opsI.map fun q => ((.inr q.1 : Key), V.int ((q.2 : Nat) : Int))))) np
          rw [e2']
          have ev : valV (mergeK [] (opsI.map fun q => ((.inr q.1 : Key), V.int ((q.2 : Nat) : Int)))) (.inr wd : Key) = some (.int (m : Int)) := merge_ops _ hmB
          refine ⟨.str wd, rfl, p', _, rfl, ?_, qq H2 s2'⟩
          rw [← ev]
          exact DGet.k (k := .inr wd) h2'
      refine ⟨_, rfl, l, _, ((0 : Nat) : Int), _, rfl, rfl, SqL.of hl7, atI_nat (j := 0) rfl, ?_⟩
      refine ⟨_, rfl, dictOf (Q' := fun v H2 => rI0 (fun i j => .int (i - j)) (.int (x0 : Int)) v H2 _) h7I hops7 fun H8 s8 => ?_⟩
      refine ⟨_, _, rfl, rfl, ?_⟩
      have hl8 := s8 _ _ hl7
      refine ⟨_, rfl, l, _, ((0 : Nat) : Int), 0, rfl, rfl, hl8, rfl, ?_⟩
      obtain ⟨H9, b9, h9, B89, e9⟩ : ∃ H9, (∀ b o, b ≠ l → H8 b = some o → H9 b = some o) ∧ H9 l = some (.lst [.int (((x0 - m : Nat)) : Int), .int u0]) ∧ Bt [p, l] H8 H9 ∧ upd H8 l (.lst ([V.int (x0 : Int), V.int u0].set 0 (V.int ((x0 : Int) - (m : Int))))) = H9 :=
        ⟨_, fun b o z e => by rw [upd_ne z]; exact e, by rw [upd_same, show (((x0 - m : Nat)) : Int) = (x0 : Int) - m by omega]; rfl, bt_upd (by simp), rfl⟩
      rw [e9]
      have Il : I ≠ l := fun e => by
        rw [e, hl7] at h7I
        have h := congrArg List.length (HO.lst.inj (Option.some.inj h7I))
        rw [List.length_map, Paired.length hops7] at h
        exact absurd h (by show ¬ 2 = 9; decide)
      have h9I := b9 _ _ Il (s8 _ _ h7I)
      have hops9 : Paired (fun t q => H9 t = some (.tup [.str q.1, .int ((q.2 : Nat) : Int)])) ts opsI := Paired.mapP hops7 fun t q r => b9 _ _ (ne_of (s8 _ _ r) hl8 (by intro z; cases z)) (s8 _ _ r)
      have P9 : PoolIs H9 p (n + 1) := by
        obtain ⟨x1, y1, w1', hp, r⟩ := P7.mono s8 (Nat.le_refl _)
        exact ⟨x1, y1, w1', b9 _ _ pl hp, r⟩
      have B79 : Bt [p, l] H7 H9 := (bt_of s8).trans B89
      have PL7 := pl_lists P7 hl7
      have hG9 := hG7.mono B79
      have ha9 := sqT_bt PL7 B79 ha7
      have B09 : Bt [p, l] H H9 := B07.trans B79
      refine ⟨_, rfl, rfl, _, rfl, ?_⟩
      rw [decS]
      by_cases c10 : wd = "bind"
      · rw [decide_eq_true c10]
        refine iteT ?_
        have hm2 : m = 2 := by
          rw [c10] at hmB
          exact (show ∀ q ∈ opsB, q.1 = "bind" → q.2 = 2 by decide) _ hmB rfl
        refine ⟨_, rfl, by show 4 ≤ sizeLine; decide, fun b nb => ?_⟩
        obtain ⟨H10, s10, h10, e10⟩ := lay (o := .lst (sts ["v", "w", "x", "if"])) nb
        rw [show ([V.str "v", V.str "w", V.str "x", V.str "if"] : List V) = sts ["v", "w", "x", "if"] from rfl, e10]
        refine ⟨p, b, sts ["v", "w", "x", "if"], n + 1, rfl, SqL.of (hid_to (ni1 (P9.ne nb)) h10), (fun z => nomatch z), by decide, by omega, P9.mono s10 (Nat.le_refl _), fun v H11 hv B11 P11 => ?_⟩
        obtain ⟨nm, hnm', rfl⟩ := mem_sts hv
        have nB : nameB nm = true := (show ∀ x ∈ (["v", "w", "x", "if"] : List Str), nameB x = true by decide +kernel) nm hnm'
        have hl11 := bt_at B11 (ni1 pl.symm) (s10 _ _ h9)
        have B911 : Bt [p, l] H9 H11 := (bt_of s10).trans (bt_weak (fun q hq => by rw [List.mem_singleton.mp hq]; simp) B11)
        have PL9 := pl_lists P9 h9
        have hG11 := hG9.mono B911
        have ha11 := sqT_bt PL9 B911 ha9
        have PL11 := pl_lists P11 hl11
        refine ⟨_, rfl, _, rfl, _, rfl, _, rfl, p, g, a, l, gd, ns, x0 - m, u0, n + 2, rfl, hG11, wf, ha11, hnm, by omega, pl, hl11, by omega, by omega, P11, by omega, fun v1 t1 x1 u1 H12 B12 hl12 hs1 ok1 d1 P12 => ?_⟩
        have hG12 := hG11.mono B12
        have ha12 := sqT_bt PL11 B12 ha11
        refine ⟨_, rfl, _, rfl, _, rfl, _, rfl, _, rfl, _, rfl, _, rfl, by show 1 ≤ sizeLine; decide, fun tb ntb => ?_⟩
        obtain ⟨H13, s13, h13, e13⟩ := lay (o := .tup [.str nm]) ntb
        rw [e13]
        refine catA (Same.seqT s13 ha12) (SqT.of h13) (by rw [sts_len, sizeLine_eq]; simp; omega) fun nb2 H14 s14 hnb2 => ?_
        have S14 : Same H12 H14 := s13.trans s14
        have hl14 := S14 _ _ hl12
        have P14 := P12.mono S14 (Nat.le_refl _)
        have PL14 := pl_lists P14 hl14
        refine ⟨_, rfl, p, g, nb2, l, gd, ns ++ [nm], x1, u1, _, rfl, hG12.mono (hid_same S14), wf, by unfold sts; rw [List.map_append]; exact hnb2, fun y hy => ?_, by rw [List.length_append]; simp; omega, pl, hl14, by omega, by omega, P14, by omega, fun v2 t2 x2 u2 H15 B15 hl15 hs2 ok2 d2 P15 => ?_⟩
        · rcases List.mem_append.mp hy with h | h
          · exact hnm y h
          · rw [List.mem_singleton.mp h]; exact nB
        · have d1' := dp_bt PL14 B15 (tupO_d t1) (dp_mono S14 d1)
          refine ⟨by show 4 ≤ sizeLine; decide, fun t nt => ?_⟩
          obtain ⟨H16, s16, h16, e16⟩ := lay (o := .tup [.str wd, .str nm, v1, v2]) nt
          rw [e16]
          refine q (.ref t) (.mk wd nm [t1, t2]) x2 u2 H16 ((((B09.trans B911).trans B12).trans ((bt_of S14).trans B15)).trans (bt_of s16)) (s16 _ _ hl15) (by rw [GB.Tm.size, GB.Tm.sizes, GB.Tm.sizes, GB.Tm.sizes]; omega) (.mk (by rw [c10]; exact .bind nB trivial) fun i t' h => ?_) ?_ (P15.mono s16 (by rw [GB.Tm.size, GB.Tm.sizes, GB.Tm.sizes, GB.Tm.sizes]; omega))
          · match i, h with
            | 0, h =>
              obtain rfl := Option.some.inj h
              unfold nsAt
              rw [if_neg (fun h => absurd h.2 (by decide))]
              exact ok1
            | 1, h =>
              obtain rfl := Option.some.inj h
              unfold nsAt
              rw [if_pos ⟨c10, rfl⟩]
              exact ok2
            | i + 2, h => simp at h
          · rw [d_node, c10]
            exact .tup (by rw [← c10]; exact SqT.of h16) (.cons (.str _) (.cons (.str _) (.cons (dp_mono s16 d1') (.cons (dp_mono s16 d2) .nil))))
      rw [decide_eq_false c10]
      refine iteF ?_
      have hmW : (wd, m) ∈ opsW := by
        rcases List.mem_cons.mp hmB with h | h
        · exact absurd (Prod.mk.inj h).1 c10
        · exact h
      obtain ⟨nw1, nw2, nw3⟩ := ops_no _ hmW
      refine ⟨_, rfl, by show 1 ≤ sizeLine; decide, fun Lw nLw => ?_⟩
      obtain ⟨H10, s10, h10, e10⟩ := lay (o := .lst [.str wd]) nLw
      rw [e10]
      have hops10 : Paired (fun t q => H10 t = some (.tup [.str q.1, .int ((q.2 : Nat) : Int)])) ts opsI := Paired.mapP hops9 fun _ _ r => s10 _ _ r
      have hkv : Paired (fun (p : Addr) (kv : Key × V) => SqT K H10 p [kV kv.1, kv.2]) ts (opsI.map fun q => ((.inr q.1 : Key), V.int ((q.2 : Nat) : Int))) := by
        refine paired_map_r ?_
        exact Paired.mapP hops10 fun _ _ r => SqT.of r
      refine ⟨_, rfl, I, ts, _, rfl, SqL.of (s10 _ _ h9I), hkv, fun p' np => ?_⟩
      obtain ⟨H11, s11, h11, e11⟩ := lay (o := .dK (mergeK [] (opsI.map fun q => ((.inr q.1 : Key), V.int ((q.2 : Nat) : Int))))) np
      rw [e11]
      have ev : valV (mergeK [] (opsI.map fun q => ((.inr q.1 : Key), V.int ((q.2 : Nat) : Int)))) (.inr wd : Key) = some (.int (m : Int)) := merge_ops _ hmB
      have m3 : m ≤ 3 := (show ∀ q ∈ opsB, q.2 ≤ 3 by decide) _ hmB
      have m1 : 1 ≤ m := (show ∀ q ∈ opsB, 1 ≤ q.2 by decide) _ hmB
      refine ⟨.str wd, rfl, p', .int (m : Int), rfl, (by rw [← ev]; exact DGet.k (k := .inr wd) h11), m, rfl, by omega, by omega, fun D3 nD3 => ?_⟩
      have S911 : Same H9 H11 := s10.trans s11
      have hl11 := S911 _ _ h9
      have P11 := P9.mono S911 (Nat.le_refl _)
      refine kids_ok (n := n + 1) (fun v => ⟨rfl, rfl, rfl, rfl, rfl⟩) nD3 (hG9.mono (hid_same S911)) wf (Same.seqT S911 ha9) hnm (by omega) pl hl11 (by omega) (by omega) (by omega) P11 (by omega) fun tms x1 u1 H12 acc hts B12 hD12 hd12 hl12 hs12 ok12 P12 => ?_
      have Lwp : Lw ≠ p := P9.ne nLw
      have Lwl : Lw ≠ l := fun e => by rw [e, h9] at nLw; cases nLw
      have hLw := bt_at B12 (by simp [Lwp, Lwl]) (s11 _ _ h10)
      refine ⟨Lw, D3, _, _, rfl, rfl, hLw, hD12, by rw [dps_len hd12, List.length_map, hts, sizeLine_eq]; simp; omega, fun c nc => ?_⟩
      obtain ⟨H13, s13, h13, e13⟩ := lay (o := .lst (.str wd :: acc)) nc
      rw [show ([V.str wd] ++ acc) = .str wd :: acc from rfl, e13]
      refine ⟨c, _, rfl, .inl ⟨SqL.of h13, fun t nt => ?_⟩⟩
      obtain ⟨H14, s14, h14, e14⟩ := lay (o := .tup (.str wd :: acc)) nt
      rw [e14]
      refine q (.ref t) (.mk wd "" tms) x1 u1 H14 (((B09.trans (bt_of S911)).trans B12).trans (bt_of (s13.trans s14))) (s14 _ _ (s13 _ _ hl12)) (by rw [GB.Tm.size]; omega) (.mk (by rw [hts]; exact .op hmW) fun i t' h => ?_) ?_ (P12.mono (s13.trans s14) (by rw [GB.Tm.size]; omega))
      · unfold nsAt
        rw [if_neg (fun h => nw3 h.1)]
        exact ok12 i t' h
      · rw [d_node]
        unfold nodeT
        rw [if_neg nw2, if_neg nw3, if_pos (List.mem_map.mpr ⟨_, hmW, rfl⟩)]
        exact .tup (SqT.of h14) (.cons (.str _) (dps_mono (s13.trans s14) hd12))

end
end K28
set_option Elab.async false
set_option linter.all false
set_option maxRecDepth 100000
set_option maxHeartbeats 8000000
namespace GB
open PySem L2
theorem not_in_take {l : List Str} {i : Nat} {x : Str} (nd : l.Nodup) (h : l[i]? = some x) : x ∉ l.take i := fun m => by
  obtain ⟨hi, e2⟩ := List.getElem?_eq_some_iff.mp h
  have e : l = l.take i ++ x :: l.drop (i + 1) := by rw [← e2, ← List.drop_eq_getElem_cons hi, List.take_append_drop]
  rw [e] at nd
  exact (List.nodup_append.mp nd).2.2 x m x List.mem_cons_self rfl
end GB
namespace K28
open PySem PySem.Spec L2 GB
abbrev sCkL : Stmt := topS 31
abbrev sCkF : Stmt := topS 32
abbrev sCkC : Stmt := topS 33
abbrev sIsF : Stmt := topS 35
abbrev sTE : Stmt := topS 36
def isfN : List Str := ["letters", "fixed", "thing", "letter", "values", "end", "value"]
def spCkL : Sp := fun vs H Q _ => ∃ (a : Addr) (ls : List (Str × Nat)), vs = [.ref a] ∧ H a = some (.dK (lkv ls)) ∧ ls ≠ [] ∧ (∀ q ∈ ls, nameB q.1 = true ∧ q.2 ≤ 2) ∧ ∀ H', Same H H' → Q .non H'
def spCkF : Sp := fun vs H Q _ => ∃ (a b : Addr) (ls : List (Str × Nat)) (fx : List Str), vs = [.ref a, .ref b] ∧ H a = some (.dK (lkv ls)) ∧ (ls.map (·.1)).Nodup ∧ H b = some (.lst (sts fx)) ∧ fx.Sublist (ls.map (·.1)) ∧ ∀ H', Same H H' → Q .non H'
def spCkC : Sp := fun vs H Q _ => ∃ (a b c : Addr) (ls : List (Str × Nat)) (fx cm : List Str), vs = [.ref a, .ref b, .ref c] ∧ H a = some (.dK (lkv ls)) ∧ (ls.map (·.1)).Nodup ∧ H b = some (.lst (sts fx)) ∧ H c = some (.lst (sts cm)) ∧ fx.Nodup ∧ cm.Sublist fx ∧ (∀ x ∈ cm, (x, 2) ∈ ls) ∧ ∀ H', Same H H' → Q .non H'
def spTE : Sp := fun vs H Q _ => ∃ (e : Addr) (k n : Str), vs = [.ref e] ∧ H e = some (.tup [.str k, .str n]) ∧ (k = "value" ∨ k = "fail") ∧ nameB n = true ∧ ∀ H', Same H H' → Q (.bl true) H'
def spIsF : Sp := fun vs H Q _ => ∃ (a b t : Addr) (ls : List (Str × Nat)) (fx : List Str) (f : Fact), vs = [.ref a, .ref b, .ref t] ∧ H a = some (.dK (lkv ls)) ∧ (ls.map (·.1)).Nodup ∧ H b = some (.lst (sts fx)) ∧ FactAt H f t ∧ f.Ok ls fx ∧ (∀ q ∈ ls, q.2 ≤ 2) ∧ ∀ H', Same H H' → Q (.bl true) H'
section
variable {P : Program} {w : World} {K : PySem.W.Frag} {mg : Str → Option Value} {base : Heap}
theorem scCkL : FnScope ["letters", "key", "many"] ["letters"] (defScope sCkL) := ⟨rfl, rfl, rfl, by decide +kernel, rfl, by decide +kernel, by decide +kernel⟩
theorem scCkF : FnScope ["letters", "fixed", "index", "letter"] ["letters", "fixed"] (defScope sCkF) := ⟨rfl, rfl, rfl, by decide +kernel, rfl, by decide +kernel, by decide +kernel⟩
theorem scCkC : FnScope ["letters", "fixed", "commuting", "index", "letter"] ["letters", "fixed", "commuting"] (defScope sCkC) := ⟨rfl, rfl, rfl, by decide +kernel, rfl, by decide +kernel, by decide +kernel⟩
theorem scTE : FnScope ["thing"] ["thing"] (defScope sTE) := ⟨rfl, rfl, rfl, by decide +kernel, rfl, by decide +kernel, by decide +kernel⟩
theorem scIsF : FnScope isfN ["letters", "fixed", "thing"] (defScope sIsF) := ⟨rfl, rfl, rfl, by decide +kernel, rfl, by decide +kernel, by decide +kernel⟩

theorem len8 {z : Str} (h : nameB z = true) : z.length ≤ sizeLine := by
  unfold nameB at h
  have := (Bool.and_eq_true_iff.mp h).1
  have := of_decide_eq_true this
  rw [sizeLine_eq]; omega
theorem ok_ckL {f : Addr} {fd : FuncData} (F : Fun K "_check_letters" "_check_letters" sCkL f fd) (T : Bl mg) (M : ∃ u, mg "MOST_PARTS" = some u ∧ RelV (.int 2) u) (NM : Fns P w K mg base "is_name" 1 ["thing"] (spIsNm K)) (NU : Fns P w K mg base "is_number" 1 ["thing"] (spIsN K)) :
    FnOk P w K mg base CX0 2 f fd ["letters"] spCkL := by
  obtain ⟨uM, gM, rM⟩ := M
  refine F.ok scCkL (fun vs H Q E h => ?_) (fun cdv A outer s H vs Q E hr h => ?_)
  · obtain ⟨a, ls, rfl, _⟩ := h
    rfl
  · obtain ⟨a, ls, rfl, hL, hne, hok, q⟩ := h
    refine ⟨_, pss_cons (ps_if (PW.pt (pw_or (pt_not (pt_val (pe_callB call_isi (by rfl) T.isi (by decide +kernel) (pa_cons (pv 0) (pa_cons (pe_bltn (v := .ty "dict") (by rfl) T.dict (by decide +kernel) rfl) (pa_nil)))))) (pw_or1 (pt_cmpR op_eq (pe_callB call_lenD (by rfl) T.len PySem.boot_len (pa_cons (pv 0) (pa_nil))) (pe_int) (nomark _))))) (pss_one ps_never) (pss_nil)) (pss_one (ps_lock (ps_for PassesOwn.never rfl (pi_items (pv 0)) (pg_tup rfl (pgs_cons (pg_name (i := 1) scCkL.nd rfl (.inl rfl)) (pgs_cons (pg_name (i := 2) scCkL.nd rfl (.inl rfl)) (pgs_nil)))) (pss_one (ps_if (PW.pt (pw_or (pt_not (pt_val (pe_fn NM hr (by decide) rfl (pa_cons (pv 1) (pa_nil))))) (pw_or (pt_not (pt_val (pe_fn NU hr (by decide) rfl (pa_cons (pv 2) (pa_nil))))) (pw_or1 (pt_not (pt_chain op_le op_le pe_int (pv 2) (pe_glob rfl gM rM))))))) (pss_one ps_never) (pss_nil)))))), ?_⟩
    refine ⟨_, rfl, .ref a, .ty "dict", .type "dict", .type "dict", true, rfl, .ty "dict", .base (.dK hL), kit_ty (by decide +kernel), true, rfl, ?_⟩
    refine iteF ?_
    refine ⟨_, rfl, a, _, rfl, hL, rfl, _, rfl, ?_⟩
    have l0 : (lkv ls).length ≠ 0 := by
      have e : (lkv ls).length = ls.length := List.length_map _
      have := List.length_pos_iff.mpr hne
      omega
    rw [decI, decide_eq_false (by omega)]
    refine iteF ?_
    refine ⟨a, _, hL, trivial, fun od => ?_⟩
    obtain ⟨Hl, hlL, hlo, el⟩ : ∃ Hl, Hl a = some (.frz od (.dK (lkv ls))) ∧ (∀ b, b ≠ a → Hl b = H b) ∧ upd H a (.frz od (.dK (lkv ls))) = Hl := ⟨_, upd_same, fun b hb => upd_ne hb, rfl⟩
    rw [el]
    refine ⟨_, rfl, a, od, _, rfl, hlL, ?_⟩
    refine for_it walk_items (fun i σ H' => ∃ o1 o2, σ = [some (.ref a), o1, o2] ∧ Same Hl H') ⟨none, none, rfl, Same.refl _⟩ (fun i σ H' _ ⟨o1, o2, _, s'⟩ => s' _ _ hlL) ?_ ?_
    · rintro i x σ H1 H1' hi ⟨o1, o2, rfl, s1⟩ ⟨Tp, y1, y2, rfl, nT, rfl, e1, e2⟩
      obtain ⟨⟨sx, m⟩, hq, ex1, ex2⟩ : ∃ q, ls[i]? = some q ∧ y1 = .str q.1 ∧ y2 = .int (q.2 : Int) := by
        have e1 : (lkv ls)[i]?.map (fun kv => kV kv.1) = some y1 := e1
        have e2 : (lkv ls)[i]?.map Prod.snd = some y2 := e2
        unfold lkv at e1 e2
        rw [List.getElem?_map] at e1 e2
        cases e : ls[i]? with
        | none => rw [e] at e1; cases e1
        | some q => rw [e] at e1 e2; exact ⟨q, rfl, (Option.some.inj e1).symm, (Option.some.inj e2).symm⟩
      subst ex1 ex2
      obtain ⟨hn, hm⟩ := hok _ (List.mem_of_getElem? hq)
      obtain ⟨H2, s2, h2, e2'⟩ := lay (o := .tup [.str sx, .int (m : Int)]) nT
      rw [e2']
      refine ⟨Tp, _, rfl, SqT.of h2, rfl, _, _, rfl, _, _, rfl, rfl, ?_⟩
      refine ⟨_, rfl, _, rfl, .inl ⟨sx, rfl, len8 hn, fun H3 s3 => ⟨true, by rw [hn], ?_⟩⟩⟩
      refine iteF ?_
      refine ⟨_, rfl, .int (m : Int), .type "int", true, false, rfl, .base (.int _), kit_ty (by decide +kernel), kit_ty (by decide +kernel), true, rfl, ?_⟩
      refine iteF ?_
      refine ⟨_, rfl, _, _, rfl, rfl, _, rfl, ?_⟩
      rw [decide_eq_true (by omega : (0 : Int) ≤ (m : Int))]
      refine iteT ?_
      refine ⟨_, _, rfl, rfl, _, rfl, ?_⟩
      rw [decide_eq_true (by show (m : Int) ≤ 2; have : m ≤ 2 := hm; omega)]
      refine iteF ?_
      exact ⟨_, _, rfl, (s1.trans s2).trans s3⟩
    · rintro σ H1 ⟨o1, o2, rfl, s1⟩
      refine ⟨s1 _ _ hlL, q _ fun b o e => ?_⟩
      by_cases hb : b = a
      · subst hb; rw [upd_same, ← e, hL]
      · rw [upd_ne hb]; exact s1 _ _ ((hlo b hb).trans e)
theorem ok_ckF {f : Addr} {fd : FuncData} (F : Fun K "_check_fixed" "_check_fixed" sCkF f fd) (T : Bl mg) (IL : Fns P w K mg base "is_list" 1 ["thing"] (spIsL K)) : FnOk P w K mg base CX0 2 f fd ["letters", "fixed"] spCkF := by
  refine F.ok scCkF (fun vs H Q E h => ?_) (fun cdv A outer s H vs Q E hr h => ?_)
  · obtain ⟨a, b, ls, fx, rfl, _⟩ := h
    rfl
  · obtain ⟨a, b, ls, fx, rfl, hL, lnd, hF, sub, q⟩ := h
    have hu := hu_of hr
    refine ⟨_, pss_cons (ps_if (pt_not (pt_val (pe_fn IL hr (by decide) rfl (pa_cons (pv 1) (pa_nil))))) (pss_one ps_never) (pss_nil)) (pss_one (ps_for PassesOwn.never rfl (pi_enumW rfl T.enum (pa_cons (pv 1) (pa_nil))) (pg_tup rfl (pgs_cons (pg_name (i := 2) scCkF.nd rfl (.inl rfl)) (pgs_cons (pg_name (i := 3) scCkF.nd rfl (.inl rfl)) (pgs_nil)))) (pss_one (ps_if (PW.pt (pw_or (pt_not (pt_val (pe_callB call_isi (by rfl) T.isi (by decide +kernel) (pa_cons (pv 3) (pa_cons (pe_bltn (v := .ty "str") (by rfl) T.str (by decide +kernel) rfl) (pa_nil)))))) (pw_or (pt_cmp (pc_dnotin hu (pv 3) (pv 0))) (pw_or1 (pt_cmpR op_in_seq (pv 3) (pe_slice sl_list (pv 1) po_none (po_some (pv 2))) (by rfl)))))) (pss_one ps_never) (pss_nil))))), ?_⟩
    obtain ⟨ty, ht, hty⟩ := tyS (K := K) (.inl (SqL.of hF) : SqA K H b (sts fx))
    refine ⟨_, rfl, .ref b, _, true, rfl, hty, kit_seq ht, fun H1 s1 => ⟨_, rfl, ?_⟩⟩
    refine iteF ?_
    refine ⟨_, rfl, b, sts fx, true, [], rfl, SqL.of (hid_to (by simp) (s1 _ _ hF)), fun J WJ => ?_⟩
    refine for_it WJ (fun i σ H' => ∃ o1 o2, σ = [some (.ref a), some (.ref b), o1, o2] ∧ Same H H') ⟨none, none, rfl, s1⟩ (fun i σ H' _ ⟨o1, o2, _, s'⟩ => SqL.of (hid_to (by simp) (s' _ _ hF))) ?_ ?_
    · rintro i x σ H2 H2' hi ⟨o1, o2, rfl, s2⟩ ⟨Tp, y1, y2, rfl, nT, rfl, e1, e2⟩
      obtain rfl := Option.some.inj e1
      obtain ⟨sx, hsx, rfl⟩ := sts_at e2
      obtain ⟨H3, s3, h3, e3⟩ := lay (o := .tup [.int (i : Nat), .str sx]) nT
      rw [e3]
      have S3 := s2.trans s3
      have mfx := List.mem_of_getElem? hsx
      obtain ⟨q1, hq1, eq1⟩ := List.mem_map.mp (sub.subset mfx)
      refine ⟨Tp, _, rfl, SqT.of h3, rfl, _, _, rfl, _, _, rfl, rfl, ?_⟩
      refine ⟨_, rfl, .str sx, .ty "str", .type "str", .type "str", true, rfl, .ty "str", .base (.str sx), kit_ty (by decide +kernel), true, rfl, ?_⟩
      refine iteF ?_
      have hv : valV (lkv ls) (.inr sx : Key) = some (.int (q1.2 : Int)) := valV_lkv lnd (by rw [← eq1]; exact hq1)
      refine ⟨_, rfl, _, rfl, a, some (.int (q1.2 : Int)), rfl, (by rw [← hv]; exact DGet.k (k := .inr sx) (S3 _ _ hL)), _, rfl, ?_⟩
      refine iteF ?_
      refine ⟨_, rfl, _, rfl, _, rfl, _, rfl, b, sts fx, rfl, SqL.of (S3 _ _ hF), fun p np => ?_⟩
      have hil : i < fx.length := (List.getElem?_eq_some_iff.mp hsx).1
      have ec : cutV (sts fx) none (some ((i : Nat) : Int)) = sts (fx.take i) := by rw [cut_to _ _ (by rw [sts_len]; omega)]; unfold sts; rw [List.map_take]
      obtain ⟨H4, s4, h4, e4⟩ := lay (o := .lst (sts (fx.take i))) np
      rw [ec, e4]
      refine ⟨p, sts (fx.take i), rfl, .inl (SqL.of h4), rfl, flat_sts _, _, rfl, ?_⟩
      rw [show (if false = true then !inV (.str sx) (sts (fx.take i)) else inV (.str sx) (sts (fx.take i))) = false from (inV_sts _ _).trans (decide_eq_false (not_in_take (sub.nodup lnd) hsx))]
      refine iteF ?_
      exact ⟨_, _, rfl, S3.trans s4⟩
    · rintro σ H2 ⟨o1, o2, rfl, s2⟩
      exact q _ s2
theorem ok_ckC {f : Addr} {fd : FuncData} (F : Fun K "_check_commuting" "_check_commuting" sCkC f fd) (T : Bl mg) (IL : Fns P w K mg base "is_list" 1 ["thing"] (spIsL K)) : FnOk P w K mg base CX0 2 f fd ["letters", "fixed", "commuting"] spCkC := by
  refine F.ok scCkC (fun vs H Q E h => ?_) (fun cdv A outer s H vs Q E hr h => ?_)
  · obtain ⟨a, b, c, ls, fx, cm, rfl, _⟩ := h
    rfl
  · obtain ⟨a, b, c, ls, fx, cm, rfl, hL, lnd, hF, hC, fnd, sub, c2, q⟩ := h
    have hu := hu_of hr
    refine ⟨_, pss_cons (ps_if (pt_not (pt_val (pe_fn IL hr (by decide) rfl (pa_cons (pv 2) (pa_nil))))) (pss_one ps_never) (pss_nil)) (pss_one (ps_for PassesOwn.never rfl (pi_enumW rfl T.enum (pa_cons (pv 2) (pa_nil))) (pg_tup rfl (pgs_cons (pg_name (i := 3) scCkC.nd rfl (.inl rfl)) (pgs_cons (pg_name (i := 4) scCkC.nd rfl (.inl rfl)) (pgs_nil)))) (pss_one (ps_if (PW.pt (pw_or (pt_cmpR op_notIn_seq (pv 4) (pv 1) (by rfl)) (pw_or (pt_cmpR op_ne (pe_dget hu (pv 0) (pv 4) (fun _ _ => rfl)) (pe_int) (nomark _)) (pw_or1 (pt_cmpR op_in_seq (pv 4) (pe_slice sl_list (pv 2) po_none (po_some (pv 3))) (by rfl)))))) (pss_one ps_never) (pss_nil))))), ?_⟩
    obtain ⟨ty, ht, hty⟩ := tyS (K := K) (.inl (SqL.of hC) : SqA K H c (sts cm))
    refine ⟨_, rfl, .ref c, _, true, rfl, hty, kit_seq ht, fun H1 s1 => ⟨_, rfl, ?_⟩⟩
    refine iteF ?_
    refine ⟨_, rfl, c, sts cm, true, [], rfl, SqL.of (hid_to (by simp) (s1 _ _ hC)), fun J WJ => ?_⟩
    refine for_it WJ (fun i σ H' => ∃ o1 o2, σ = [some (.ref a), some (.ref b), some (.ref c), o1, o2] ∧ Same H H') ⟨none, none, rfl, s1⟩ (fun i σ H' _ ⟨o1, o2, _, s'⟩ => SqL.of (hid_to (by simp) (s' _ _ hC))) ?_ ?_
    · rintro i x σ H2 H2' hi ⟨o1, o2, rfl, s2⟩ ⟨Tp, y1, y2, rfl, nT, rfl, e1, e2⟩
      obtain rfl := Option.some.inj e1
      obtain ⟨sx, hsx, rfl⟩ := sts_at e2
      obtain ⟨H3, s3, h3, e3⟩ := lay (o := .tup [.int (i : Nat), .str sx]) nT
      rw [e3]
      have S3 := s2.trans s3
      have mcm := List.mem_of_getElem? hsx
      refine ⟨Tp, _, rfl, SqT.of h3, rfl, _, _, rfl, _, _, rfl, rfl, ?_⟩
      refine ⟨_, rfl, _, rfl, b, sts fx, rfl, .inl (SqL.of (S3 _ _ hF)), rfl, flat_sts _, _, rfl, ?_⟩
      rw [show (if true = true then !inV (.str sx) (sts fx) else inV (.str sx) (sts fx)) = false from by rw [if_pos rfl, inV_sts, decide_eq_true (sub.subset mcm)]; rfl]
      refine iteF ?_
      have hv : valV (lkv ls) (.inr sx : Key) = some (.int ((2 : Nat) : Int)) := valV_lkv lnd (c2 _ mcm)
      refine ⟨_, rfl, _, rfl, a, .int ((2 : Nat) : Int), rfl, (by rw [← hv]; exact DGet.k (k := .inr sx) (S3 _ _ hL)), rfl, _, rfl, ?_⟩
      refine iteNS rfl ?_
      refine ⟨_, rfl, _, rfl, _, rfl, _, rfl, c, sts cm, rfl, SqL.of (S3 _ _ hC), fun p np => ?_⟩
      have hil : i < cm.length := (List.getElem?_eq_some_iff.mp hsx).1
      have ec : cutV (sts cm) none (some ((i : Nat) : Int)) = sts (cm.take i) := by rw [cut_to _ _ (by rw [sts_len]; omega)]; unfold sts; rw [List.map_take]
      obtain ⟨H4, s4, h4, e4⟩ := lay (o := .lst (sts (cm.take i))) np
      rw [ec, e4]
      refine ⟨p, sts (cm.take i), rfl, .inl (SqL.of h4), rfl, flat_sts _, _, rfl, ?_⟩
      rw [show (if false = true then !inV (.str sx) (sts (cm.take i)) else inV (.str sx) (sts (cm.take i))) = false from (inV_sts _ _).trans (decide_eq_false (not_in_take (sub.nodup fnd) hsx))]
      refine iteF ?_
      exact ⟨_, _, rfl, S3.trans s4⟩
    · rintro σ H2 ⟨o1, o2, rfl, s2⟩
      exact q _ s2
theorem ok_te {f : Addr} {fd : FuncData} (F : Fun K "_is_told_end" "_is_told_end" sTE f fd) (T : Bl mg) (IL : Fns P w K mg base "is_list" 1 ["thing"] (spIsL K)) (NM : Fns P w K mg base "is_name" 1 ["thing"] (spIsNm K)) : FnOk P w K mg base CX0 2 f fd ["thing"] spTE := by
  refine F.ok scTE (fun vs H Q E h => ?_) (fun cdv A outer s H vs Q E hr h => ?_)
  · obtain ⟨e, k, n, rfl, _⟩ := h
    rfl
  · obtain ⟨e, k, n, rfl, he, hk, hn, q⟩ := h
    refine ⟨_, pss_cons (ps_if (PW.pt (pw_or (pt_not (pt_val (pe_fn IL hr (by decide) rfl (pa_cons (pv 0) (pa_nil))))) (pw_or1 (pt_cmpR op_ne (pe_callB call_len_seq (by rfl) T.len PySem.boot_len (pa_cons (pv 0) (pa_nil))) (pe_int) (nomark _))))) (pss_one (ps_ret pe_bl)) (pss_nil)) (pss_one (ps_ret (pe_and (pe_cmpR op_in_seq (pe_ix ix_tup (pv 0) (pe_int) (fun _ _ => rfl)) (pe_tup (pa_cons (pe_str) (pa_cons (pe_str) (pa_nil)))) (by rfl)) (pe_one (pe_fn NM hr (by decide) rfl (pa_cons (pe_ix ix_tup (pv 0) (pe_int) (fun _ _ => rfl)) (pa_nil))))))), ?_⟩
    obtain ⟨ty, ht, hty⟩ := tyS (K := K) (.inr (SqT.of he) : SqA K H e [.str k, .str n])
    refine ⟨_, rfl, .ref e, _, true, rfl, hty, kit_seq ht, fun H1 s1 => ⟨_, rfl, ?_⟩⟩
    refine iteF ?_
    refine ⟨_, rfl, e, _, rfl, .inr (SqT.of (s1 _ _ he)), rfl, _, rfl, ?_⟩
    refine iteF ?_
    refine ⟨_, rfl, e, _, ((0 : Nat) : Int), _, rfl, rfl, SqT.of (s1 _ _ he), atI_nat (j := 0) rfl, by show 2 ≤ sizeLine; decide, fun t nt => ?_⟩
    obtain ⟨H2, s2, h2, e2⟩ := lay (o := .tup (sts ["value", "fail"])) nt
    rw [show ([V.str "value", V.str "fail"] : List V) = sts ["value", "fail"] from rfl, e2]
    refine ⟨t, sts ["value", "fail"], rfl, .inr (SqT.of h2), rfl, flat_sts _, true, ?_, ?_⟩
    · rw [show (if false = true then !inV (.str k) (sts ["value", "fail"]) else inV (.str k) (sts ["value", "fail"])) = true from (inV_sts _ _).trans (decide_eq_true (by rcases hk with rfl | rfl <;> decide))]
    · refine iteT ?_
      refine ⟨_, rfl, e, _, ((1 : Nat) : Int), _, rfl, rfl, SqT.of (s2 _ _ (s1 _ _ he)), atI_nat (j := 1) rfl, _, rfl, .inl ⟨n, rfl, len8 hn, fun H3 s3 => ?_⟩⟩
      rw [hn]
      exact q _ ((s1.trans s2).trans s3)
end
end K28
set_option Elab.async false
set_option linter.all false
set_option maxRecDepth 100000
set_option maxHeartbeats 8000000
namespace GB
open PySem PySem.Spec L2
def txk (l : List Str) : List NestedKey := l.map NestedKey.text
def nkO (a : Str × List Str) : NestedKey := .tup [.text a.1, .tup (txk a.2)]
theorem txk_inj : ∀ {l m : List Str}, txk l = txk m → l = m
  | [], [], _ => rfl
  | [], _ :: _, h => by cases h
  | _ :: _, [], h => by cases h
  | x :: l, y :: m, h => by
    have h1 : NestedKey.text x = .text y ∧ txk l = txk m := List.cons.inj h
    obtain rfl := NestedKey.text.inj h1.1
    rw [txk_inj h1.2]
theorem nkO_inj {a b : Str × List Str} (h : nkO a = nkO b) : a = b := by
  obtain ⟨x, l⟩ := a
  obtain ⟨y, m⟩ := b
  have h1 := List.cons.inj (NestedKey.tup.inj h)
  obtain rfl := NestedKey.text.inj h1.1
  have h2 := (List.cons.inj h1.2).1
  obtain rfl : l = m := txk_inj (NestedKey.tup.inj h2)
  rfl
theorem txk_depth : ∀ l : List Str, NestedKey.depthAll (txk l) = 0
  | [] => by simp [txk, NestedKey.depthAll]
  | x :: l => by
    have := txk_depth l
    unfold txk at this ⊢
    rw [List.map_cons, NestedKey.depthAll, this, NestedKey.depth]
    rfl
theorem nkO_depth (a : Str × List Str) : (nkO a).depth ≤ 8 := by
  unfold nkO
  rw [NestedKey.depth, NestedKey.depthAll, NestedKey.depthAll, NestedKey.depthAll, NestedKey.depth, NestedKey.depth, txk_depth]
  decide
theorem nk_txk {H : Hp} : ∀ l : List Str, NkAll H (txk l) (sts l)
  | [] => .nil
  | x :: l => .cons (.text x) (nk_txk l)
mutual
theorem NkV.mono {H H' : Hp} (s : Same H H') : ∀ (k : NestedKey) (v : V), NkV H k v → NkV H' k v
  | .text _, _, h => by cases h; exact .text _
  | .tup ks, _, h => by
    cases h with
    | tup ha hx => exact .tup (s _ _ ha) (NkAll.mono s ks _ hx)
  | .none, _, h => nomatch h
  | .num _, _, h => nomatch h
theorem NkAll.mono {H H' : Hp} (s : Same H H') : ∀ (ks : List NestedKey) (vs : List V), NkAll H ks vs → NkAll H' ks vs
  | [], _, h => by cases h; exact .nil
  | k :: ks, _, h => by
    cases h with
    | cons h1 h2 => exact .cons (NkV.mono s k _ h1) (NkAll.mono s ks _ h2)
end
theorem NdKeys.mono {H H' : Hp} (s : Same H H') {xs : NX} (h : NdKeys H xs) : NdKeys H' xs := fun e he => ⟨NkV.mono s _ _ (h e he).1, (h e he).2⟩
theorem paired_at' {α β : Type} {R : α → β → Prop} : ∀ {l : List α} {m : List β} {j : Nat} {c : α}, Paired R l m → l[j]? = some c → ∃ x, m[j]? = some x ∧ R c x
  | _, _, j, c, .nil, e => by simp at e
  | _, _, 0, c, .cons r _, e => by
    obtain rfl : _ = c := by simpa using e
    exact ⟨_, rfl, r⟩
  | _, _, j + 1, c, .cons _ t, e => paired_at' (j := j) t (by simpa using e)
theorem atKey_none {xs : NX} {k : NestedKey} (h : k ∉ xs.map (·.1)) : atKey xs k = none := by
  unfold atKey
  rw [Option.map_eq_none_iff, List.find?_eq_none]
  intro x hx e
  exact h (List.mem_map.mpr ⟨x, hx, of_decide_eq_true e⟩)
theorem not_in_take_map {α β : Type} {f : α → β} {l : List α} {i : Nat} {x y : α} (nd : (l.map f).Nodup) (h : l[i]? = some x) (hy : y ∈ l.take i) (e : f y = f x) : False := by
  obtain ⟨hi, e2⟩ := List.getElem?_eq_some_iff.mp h
  have el : l = l.take i ++ x :: l.drop (i + 1) := by rw [← e2, ← List.drop_eq_getElem_cons hi, List.take_append_drop]
  rw [el, List.map_append, List.map_cons] at nd
  exact (List.nodup_append.mp nd).2.2 (f y) (List.mem_map.mpr ⟨y, hy, rfl⟩) (f x) List.mem_cons_self e
/-- tuple(sorted(values) if .. else values) -/
def tAsk : TE := fun σ H Q => ∃ (x : Str) (v c : Addr) (vals cm : List Str), σ[7]? = some (some (.str x)) ∧ σ[2]? = some (some (.ref c)) ∧ σ[8]? = some (some (.ref v)) ∧ H c = some (.lst (sts cm)) ∧ H v = some (.tup (sts vals)) ∧ vals.length ≤ 2 ∧ (∀ x ∈ vals, x ∈ va3) ∧
  ∀ kv H6, Same H H6 → H6 kv = some (.tup (sts (if x ∈ cm then sort2 vals else vals))) → Q (.ref kv) H6
theorem pe_weak {X : Cx} {e : Expr} {t t' : TE} (h : PE X e t) (w : ∀ σ H Q, t' σ H Q → t σ H Q) : PE X e t' := ⟨fun pins s σ H Q I q => h.run pins s σ H Q I (w σ H Q q)⟩
theorem ask_weak {K : PySem.W.Frag} (σ : L2.St) (H : Hp) (Q : VK) (h : tAsk σ H Q) : tCB (fun xs H_1 Q => ∃ p ys, xs = [V.ref p] ∧ ((SqL K H_1 p ys ∧ ∀ l, H_1 l = none → Q (.ref l) (upd H_1 l (.tup ys))) ∨ (SqT K H_1 p ys ∧ Q (.ref p) H_1)))
    (tCons (tIf (tTest (tOp (rIn K false) (tVar 7) (tVar 2))) (tCB (rSortedTS K) (tCons (tVar 8) tNil)) (tVar 8)) tNil) σ H Q := by
  obtain ⟨x, v, c, vals, cm, h7, h2, h8, hc, hv, l2, v3, q⟩ := h
  refine ⟨_, h7, _, h2, c, sts cm, rfl, .inl (SqL.of hc), rfl, flat_sts _, _, rfl, ?_⟩
  rw [show (if false = true then !inV (.str x) (sts cm) else inV (.str x) (sts cm)) = decide (x ∈ cm) from inV_sts _ _]
  by_cases m : x ∈ cm
  · rw [decide_eq_true m]
    refine iteT ?_
    refine ⟨_, h8, v, vals, rfl, SqT.of hv, by omega, fun ys p hperm hsrt np => ?_⟩
    obtain ⟨H1, s1, h1, e1⟩ := lay (o := .lst (sts ys)) np
    rw [e1]
    refine ⟨p, sts ys, rfl, .inl ⟨SqL.of h1, fun l nl => ?_⟩⟩
    obtain ⟨H2, s2, h2, e2⟩ := lay (o := .tup (sts ys)) nl
    rw [e2]
    exact q l H2 (s1.trans s2) (by rw [if_pos m, ← sort2_of hperm hsrt l2 v3]; exact h2)
  · rw [decide_eq_false m]
    refine iteF ?_
    exact ⟨_, h8, v, sts vals, rfl, .inr ⟨SqT.of hv, q v H (Same.refl _) (by rw [if_neg m]; exact hv)⟩⟩
end GB
namespace K28
open PySem PySem.Spec L2 GB
abbrev sFT : Stmt := topS 34
def ftN : List Str := ["letters", "fixed", "commuting", "facts", "told", "index", "thing", "letter", "values", "end", "asked"]
def spFT : Sp := fun vs H Q _ => ∃ (a b c d : Addr) (g : GD), vs = [.ref a, .ref b, .ref c, .ref d] ∧ H a = some (.dK (lkv g.letters)) ∧ H b = some (.lst (sts g.fixed)) ∧ H c = some (.lst (sts g.comm)) ∧ FactsAt H d g.facts ∧ g.Wf ∧
  ∀ l H', H l = none → Same H H' → FactsAt H' l g.facts → Q (.ref l) H'
section
variable {P : Program} {w : World} {K : PySem.W.Frag} {mg : Str → Option Value} {base : Heap}
theorem scFT : FnScope ftN ["letters", "fixed", "commuting", "facts"] (defScope sFT) := ⟨rfl, rfl, rfl, by decide +kernel, rfl, by decide +kernel, by decide +kernel⟩

theorem ok_isF {f : Addr} {fd : FuncData} (F : Fun K "_is_fact" "_is_fact" sIsF f fd) (T : Bl mg) (IL : Fns P w K mg base "is_list" 1 ["thing"] (spIsL K)) (NM : Fns P w K mg base "is_name" 1 ["thing"] (spIsNm K)) (TE : Fns P w K mg base "_is_told_end" 2 ["thing"] spTE) :
    FnOk P w K mg base CX0 3 f fd ["letters", "fixed", "thing"] spIsF := by
  refine F.ok scIsF (fun vs H Q E h => ?_) (fun cdv A outer s H vs Q E hr h => ?_)
  · obtain ⟨a, b, t, ls, fx, fa, rfl, _⟩ := h
    rfl
  · obtain ⟨a, b, t, ls, fx, fa, rfl, hL, lnd, hF, hA, ok, har, q⟩ := h
    have hu := hu_of hr
    refine ⟨_, pss_cons (ps_if (PW.pt (pw_or (pt_not (pt_val (pe_fn IL hr (by decide) rfl (pa_cons (pv 2) (pa_nil))))) (pw_or1 (pt_cmpR op_ne (pe_callB call_len_seq (by rfl) T.len PySem.boot_len (pa_cons (pv 2) (pa_nil))) (pe_int) (nomark _))))) (pss_one (ps_ret pe_bl)) (pss_nil)) (pss_cons (ps_asg (pv 2) (pg_tup rfl (pgs_cons (pg_name (i := 3) scIsF.nd rfl (.inl rfl)) (pgs_cons (pg_name (i := 4) scIsF.nd rfl (.inl rfl)) (pgs_cons (pg_name (i := 5) scIsF.nd rfl (.inl rfl)) (pgs_nil)))))) (pss_cons (ps_if (PW.pt (pw_or (pt_cmpR op_notIn_seq (pv 3) (pv 1) (by rfl)) (pw_or (pt_not (pt_val (pe_fn IL hr (by decide) rfl (pa_cons (pv 4) (pa_nil))))) (pw_or1 (pt_cmpR op_ne (pe_callB call_len_seq (by rfl) T.len PySem.boot_len (pa_cons (pv 4) (pa_nil))) (pe_dget hu (pv 0) (pv 3) (fun _ _ => rfl)) (nomark _)))))) (pss_one (ps_ret pe_bl)) (pss_nil)) (pss_one (ps_ret (pe_and (pe_callB (cr_all rfl) (by rfl) T.all (by decide +kernel) (pa_cons (pe_lc (own := [("value", 6)]) (g := gName 6) (tt := tYes) rfl scIsF.nd (pi_seqW (pv 4)) (blkOk_by (own := [("value", 6)]) (N := isfN) (sc := defScope sIsF) (by decide +kernel)) (fun _ _ _ _ _ => pg_name (i := 6) scIsF.nd rfl (.inl rfl)) (fun _ _ _ _ _ => pts_nil) (fun _ _ _ _ _ => pe_fn NM hr (by decide) rfl (pa_cons (pv 6) (pa_nil)))) (pa_nil))) (pe_one (pe_fn TE hr (by decide) rfl (pa_cons (pv 5) (pa_nil))))))))), ?_⟩
    obtain ⟨v, e, ht, hv, he⟩ := hA.ex
    obtain ⟨k, hk, hvl⟩ := ok.len
    obtain ⟨ty, hty0, hty⟩ := tyS (K := K) (.inr (SqT.of ht) : SqA K H t [.str fa.x, .ref v, .ref e])
    refine ⟨_, rfl, .ref t, _, true, rfl, hty, kit_seq hty0, fun H1 s1 => ⟨_, rfl, ?_⟩⟩
    refine iteF ?_
    refine ⟨_, rfl, t, _, rfl, .inr (SqT.of (s1 _ _ ht)), rfl, _, rfl, ?_⟩
    refine iteF ?_
    refine ⟨_, rfl, t, _, rfl, SqT.of (s1 _ _ ht), rfl, _, _, rfl, _, _, rfl, _, _, rfl, rfl, ?_⟩
    refine ⟨_, rfl, _, rfl, b, sts fx, rfl, .inl (SqL.of (s1 _ _ hF)), rfl, flat_sts _, _, rfl, ?_⟩
    rw [show (if true = true then !inV (.str fa.x) (sts fx) else inV (.str fa.x) (sts fx)) = false from by rw [if_pos rfl, inV_sts, decide_eq_true ok.x]; rfl]
    refine iteF ?_
    obtain ⟨ty2, hty2, hty3⟩ := tyS (K := K) (.inr (SqT.of (s1 _ _ hv)) : SqA K H1 v (sts fa.vals))
    refine ⟨_, rfl, .ref v, _, true, rfl, hty3, kit_seq hty2, fun H2 s2 => ⟨_, rfl, ?_⟩⟩
    refine iteF ?_
    have S2 := s1.trans s2
    have hvv : valV (lkv ls) (.inr fa.x : Key) = some (.int (k : Int)) := valV_lkv lnd hk
    refine ⟨_, rfl, v, sts fa.vals, rfl, .inr (SqT.of (S2 _ _ hv)), _, rfl, _, rfl, a, .int (k : Int), rfl, (by rw [← hvv]; exact DGet.k (k := .inr fa.x) (S2 _ _ hL)), rfl, _, rfl, ?_⟩
    rw [show (!decide (V.int ((sts fa.vals).length : Int) = V.int (k : Int))) = false from by rw [sts_len, hvl, decide_eq_true rfl]; rfl]
    refine iteF ?_
    refine ⟨_, rfl, v, sts fa.vals, false, [], rfl, SqT.of (hid_to (by simp) (S2 _ _ hv)), fun J WJ D nD => ?_⟩
    refine lc_it WJ (fun i H' => Same H2 H' ∧ H' D = some (.lst ((List.replicate i true).map V.bl))) ⟨same_new nD, upd_same⟩ (fun i H' _ ⟨s', _⟩ => SqT.of (hid_to (by simp) (s' _ _ (S2 _ _ hv)))) ?_ ?_
    · rintro i x H3 H3' hi ⟨s3, h3⟩ ⟨rfl, hx⟩
      obtain ⟨sx, hsx, rfl⟩ := sts_at hx
      have nB : nameB sx = true := (show ∀ x ∈ va3, nameB x = true by decide +kernel) _ (ok.vals _ (List.mem_of_getElem? hsx))
      have hil : i < fa.vals.length := (List.getElem?_eq_some_iff.mp hsx).1
      have kl : k ≤ 2 := har _ hk
      refine ⟨rfl, ?_⟩
      refine ⟨_, rfl, _, rfl, .inl ⟨sx, rfl, len8 nB, fun H4 s4 => ?_⟩⟩
      refine ⟨_, s4 _ _ h3, by rw [List.length_map, List.length_replicate, sizeLine_eq]; omega, fun b o e => ?_, ?_⟩
      · rw [upd_ne (ne_of_none e nD)]; exact s4 _ _ (s3 _ _ e)
      · rw [upd_same, nB, List.replicate_succ', List.map_append]; rfl
    · rintro H3 ⟨s3, h3⟩
      refine ⟨D, _, rfl, SqL.of h3, true, ?_, ?_⟩
      · rw [List.all_replicate]; simp
      · refine iteT ?_
        exact ⟨_, rfl, e, fa.kind, fa.en, rfl, (S2.trans s3) _ _ he, ok.kind, by rcases ok.en with h | h <;> rw [h] <;> decide +kernel, fun H4 s4 => q _ ((S2.trans s3).trans s4)⟩
theorem ok_ft {f : Addr} {fd : FuncData} (F : Fun K "_facts_as_told" "_facts_as_told" sFT f fd) (T : Bl mg) (IL : Fns P w K mg base "is_list" 1 ["thing"] (spIsL K)) (ISF : Fns P w K mg base "_is_fact" 3 ["letters", "fixed", "thing"] spIsF) :
    FnOk P w K mg base CX0 4 f fd ["letters", "fixed", "commuting", "facts"] spFT := by
  refine F.ok scFT (fun vs H Q E h => ?_) (fun cdv A outer s H vs Q E hr h => ?_)
  · obtain ⟨a, b, c, d, g, rfl, _⟩ := h
    rfl
  · obtain ⟨a, b, c, d, g, rfl, hL, hF, hC, ⟨ts, hd, hts⟩, wf, q⟩ := h
    have hu9 : (A.deeper (PyProof.Rows.envOfC "_facts_as_told" (defScope sFT) s.heap.objs.size f cdv)).units + 9 < cLine := by have := hr.un; omega
    refine ⟨_, pss_cons (ps_if (pt_not (pt_val (pe_fn IL hr (by decide) rfl (pa_cons (pv 3) (pa_nil))))) (pss_one ps_never) (pss_nil)) (pss_cons (ps_set (i := 4) scFT.nd rfl (.inl rfl) (pe_dnewN)) (pss_cons (ps_for PassesOwn.never rfl (pi_enumW rfl T.enum (pa_cons (pv 3) (pa_nil))) (pg_tup rfl (pgs_cons (pg_name (i := 5) scFT.nd rfl (.inl rfl)) (pgs_cons (pg_name (i := 6) scFT.nd rfl (.inl rfl)) (pgs_nil)))) (pss_cons (ps_if (pt_not (pt_val (pe_fn ISF hr (by decide) rfl (pa_cons (pv 0) (pa_cons (pv 1) (pa_cons (pv 6) (pa_nil))))))) (pss_one ps_never) (pss_nil)) (pss_cons (ps_asg (pv 6) (pg_tup rfl (pgs_cons (pg_name (i := 7) scFT.nd rfl (.inl rfl)) (pgs_cons (pg_name (i := 8) scFT.nd rfl (.inl rfl)) (pgs_cons (pg_name (i := 9) scFT.nd rfl (.inl rfl)) (pgs_nil)))))) (pss_cons (ps_set (i := 10) scFT.nd rfl (.inl rfl) (pe_tup (pa_cons (pv 7) (pa_cons (pe_weak (t' := tAsk) (pe_callTy (call_tuple_of) (by rfl) T.tuple (by decide +kernel) (pa_cons (pe_ifExp (pt_cmpR op_in_seq (pv 7) (pv 2) (by rfl)) (pe_callB (cr_sortedTS) (by rfl) T.sorted (by decide +kernel) (pa_cons (pv 8) (pa_nil))) (pv 8)) (pa_nil))) ask_weak) (pa_nil))))) (pss_cons (ps_if (pt_cmpR (op_inN hu9) (pv 10) (pv 4) (by rfl)) (pss_one ps_never) (pss_nil)) (pss_one (ps_asg (pe_tup (pa_cons (pv 7) (pa_cons (pe_callTy (call_tuple_of) (by rfl) T.tuple (by decide +kernel) (pa_cons (pv 8) (pa_nil))) (pa_cons (pe_callTy (call_tuple_of) (by rfl) T.tuple (by decide +kernel) (pa_cons (pv 9) (pa_nil))) (pa_nil))))) (pg_sub (pv 4) (pv 10) (set_dictN hu9))))))))) (pss_one (ps_ret (pe_callTy ((call_listVN rfl)) (by rfl) T.list (by decide +kernel) (pa_cons (pe_valsN (pv 4)) (pa_nil))))))), ?_⟩
    obtain ⟨ty, hty0, hty⟩ := tyS (K := K) (.inl (SqL.of hd) : SqA K H d (ts.map V.ref))
    refine ⟨_, rfl, .ref d, _, true, rfl, hty, kit_seq hty0, fun H1 s1 => ⟨_, rfl, ?_⟩⟩
    refine iteF ?_
    intro D nD
    obtain ⟨H2, s2, h2, e2⟩ := lay (o := ndO P w D []) nD
    have e2' : upd H1 D (ndO (cxOf CX0 P w K mg base ftN "_facts_as_told" (defScope sFT) f cdv A outer s H E).nox.prog (cxOf CX0 P w K mg base ftN "_facts_as_told" (defScope sFT) f cdv A outer s H E).nox.w D []) = H2 := e2
    rw [e2']
    have nDH : H D = none := s1.free nD
    have S2 : Same H (hid [D] H2) := same_hid_new nDH (s1.trans s2)
    have ltd : ts.length = g.facts.length := (Paired.length hts).symm
    refine ⟨_, rfl, d, ts.map V.ref, true, [D], rfl, SqL.of (S2 _ _ hd), fun J WJ => ?_⟩
    refine for_it WJ (fun i σ H' => ∃ (o5 o6 o7 o8 o9 o10 : Option V) (xs : NX) (bs : List Addr), σ = [some (.ref a), some (.ref b), some (.ref c), some (.ref d), some (.ref D), o5, o6, o7, o8, o9, o10] ∧ Same H (hid [D] H') ∧ H' D = some (ndO P w D xs) ∧ NdKeys (hid [D] H') xs ∧
      xs.map (·.1) = (g.facts.take i).map (fun f => nkO (g.asked f)) ∧ xs.map (fun x => x.2.2) = bs.map Value.ref ∧ Paired (FactAt (hid [D] H')) (g.facts.take i) bs) ⟨none, none, none, none, none, none, [], [], rfl, S2, h2, (fun e he => nomatch he), rfl, rfl, .nil⟩ (fun i σ H' _ ⟨_, _, _, _, _, _, _, _, _, S, _⟩ => SqL.of (S _ _ hd)) ?_ ?_
    · rintro i x σ H3 H3' hi ⟨o5, o6, o7, o8, o9, o10, xs, bs, rfl, S3, h3, k3, e31, e32, p3⟩ ⟨Tp, y1, y2, rfl, nT, rfl, e1, ey⟩
      obtain rfl := Option.some.inj e1
      obtain ⟨t, htt, rfl⟩ : ∃ t, ts[i]? = some t ∧ y2 = V.ref t := by
        have ey : (ts.map V.ref)[i]? = some y2 := ey
        rw [List.getElem?_map] at ey
        cases e : ts[i]? with
        | none => rw [e] at ey; cases ey
        | some y => rw [e] at ey; exact ⟨y, rfl, (Option.some.inj ey).symm⟩
      have hig : i < g.facts.length := by rw [← ltd]; exact (List.getElem?_eq_some_iff.mp htt).1
      have hfi : g.facts[i]? = some g.facts[i] := List.getElem?_eq_getElem hig
      generalize hfa : g.facts[i] = fa at hfi
      have fmem := List.mem_of_getElem? hfi
      obtain ⟨t', ht', hA⟩ : ∃ t', ts[i]? = some t' ∧ FactAt H fa t' := paired_at' hts hfi
      obtain rfl : t' = t := by rw [htt] at ht'; exact (Option.some.inj ht').symm
      have ok := wf.fa _ fmem
      obtain ⟨H4, s4, h4, e4⟩ := lay (o := .tup [.int (i : Nat), .ref t']) nT
      rw [e4]
      have S4 : Same H (hid [D] H4) := S3.trans (hid_same s4)
      have S40 : Same H H4 := S4.trans (hid_low _ _)
      refine ⟨Tp, _, rfl, SqT.of h4, rfl, _, _, rfl, _, _, rfl, rfl, ?_⟩
      refine ⟨_, rfl, _, rfl, _, rfl, a, b, t', g.letters, g.fixed, fa, rfl, S40 _ _ hL, wf.nd, S40 _ _ hF, hA.mono S40, ok, wf.ar, fun H5 s5 => ⟨_, rfl, ?_⟩⟩
      refine iteF ?_
      have S5 : Same H (hid [D] H5) := S4.trans (hid_same s5)
      have S50 : Same H H5 := S5.trans (hid_low _ _)
      obtain ⟨v, e, ht, hv, he⟩ := (hA.mono S5).ex
      have ht0 := (hid_in ht).1
      have hv0 := (hid_in hv).1
      have he0 := (hid_in he).1
      refine ⟨_, rfl, t', _, rfl, SqT.of ht0, rfl, _, _, rfl, _, _, rfl, _, _, rfl, rfl, ?_⟩
      have h5D : H5 D = some (ndO P w D xs) := s5 _ _ (s4 _ _ h3)
      have len2 : fa.vals.length ≤ 2 := by
        obtain ⟨k, hk, e⟩ := ok.len
        have h2 : k ≤ 2 := wf.ar _ hk
        omega
      have hask : g.asked fa = (fa.x, if fa.x ∈ g.comm then sort2 fa.vals else fa.vals) := rfl
      refine ⟨_, rfl, fa.x, v, c, fa.vals, g.comm, rfl, rfl, rfl, S50 _ _ hC, hv0, len2, ok.vals, fun kv H6 s6 hkv => ?_⟩
      refine ⟨by show 2 ≤ sizeLine; decide, fun ka nka => ?_⟩
      obtain ⟨H7, s7, h7, e7⟩ := lay (o := .tup [.str fa.x, .ref kv]) nka
      rw [e7]
      have S57 : Same H5 H7 := s6.trans s7
      have h7D := S57 _ _ h5D
      have nD7 : ∀ {q : Addr} {o : List V}, H7 q = some (.tup o) → hid [D] H7 q = some (.tup o) := fun h => hid_to (ni1 (ne_of h h7D (fun z => nomatch z))) h
      have k7 : NdKeys (hid [D] H7) xs := k3.mono (hid_same ((s4.trans s5).trans S57))
      have nk7 : NkV (hid [D] H7) (nkO (g.asked fa)) (.ref ka) := by
        rw [hask]
        exact .tup (nD7 h7) (.cons (.text _) (.cons (.tup (nD7 (s7 _ _ hkv)) (nk_txk _)) .nil))
      have nokey : nkO (g.asked fa) ∉ xs.map (·.1) := by
        rw [e31]
        intro m
        obtain ⟨fb, hfb, eb⟩ := List.mem_map.mp m
        have eq := nkO_inj eb
        exact not_in_take_map wf.fd hfi hfb eq
      have hnone := atKey_none nokey
      refine ⟨_, rfl, _, rfl, ka, D, nkO (g.asked fa), xs, rfl, rfl, h7D, k7.mono (hid_low _ _), NkV.mono (hid_low _ _) _ _ nk7, nkO_depth _, _, rfl, ?_⟩
      rw [hnone]
      refine iteF ?_
      have hv7 := S57 _ _ hv0
      have he7 := S57 _ _ he0
      refine ⟨_, rfl, _, rfl, v, _, rfl, .inr ⟨SqT.of hv7, _, rfl, e, _, rfl, .inr ⟨SqT.of he7, by show 3 ≤ sizeLine; decide, fun b nb => ?_⟩⟩⟩
      obtain ⟨H8, s8, h8, e8⟩ := lay (o := .tup [.str fa.x, .ref v, .ref e]) nb
      rw [e8]
      have h8D := s8 _ _ h7D
      have lxs : xs.length ≤ 6 := by
        have := congrArg List.length e31
        rw [List.length_map, List.length_map, List.length_take] at this
        have := wf.fl
        omega
      have k8 := k7.mono (hid_same s8)
      have nk8 := NkV.mono (hid_same s8) _ _ nk7
      refine ⟨_, rfl, _, rfl, D, ka, b, nkO (g.asked fa), xs, rfl, rfl, rfl, h8D, k8.mono (hid_low _ _), NkV.mono (hid_low _ _) _ _ nk8, nkO_depth _, by omega, ?_⟩
      rw [storedH_new hnone]
      have B8 : Bt [D] H8 (upd H8 D (ndO P w D (xs ++ [(nkO (g.asked fa), ka, Value.ref b)]))) := bt_upd (by simp)
      have S58 : Same (hid [D] H5) (hid [D] (upd H8 D (ndO P w D (xs ++ [(nkO (g.asked fa), ka, Value.ref b)])))) := (hid_same (S57.trans s8)).trans B8
      have bD : b ∉ [D] := ni1 (ne_of_none h7D nb).symm
      refine ⟨_, _, _, _, _, _, xs ++ [(nkO (g.asked fa), ka, Value.ref b)], bs ++ [b], rfl, S5.trans S58, upd_same, ?_, ?_, ?_, ?_⟩
      · intro en hen
        rcases List.mem_append.mp hen with h | h
        · exact (k8.mono B8) en h
        · rw [List.mem_singleton.mp h]
          exact ⟨NkV.mono B8 _ _ nk8, nkO_depth _⟩
      · rw [take_at hfi, List.map_append, List.map_append, e31]; rfl
      · rw [List.map_append, List.map_append, e32]; rfl
      · rw [take_at hfi]
        exact paired_app (Paired.mapP p3 fun _ _ r => r.mono ((hid_same (s4.trans s5)).trans S58)) (.cons ⟨v, e, B8 _ _ (hid_to bD h8), S58 _ _ hv, S58 _ _ he⟩ .nil)
    · rintro σ H3 ⟨o5, o6, o7, o8, o9, o10, xs, bs, rfl, S3, h3, k3, e31, e32, p3⟩
      have lbs : bs.length = g.facts.length := by rw [← Paired.length p3, List.length_take]; rw [List.length_map, ltd]; omega
      refine ⟨_, rfl, D, xs, rfl, h3, fun vw nvw => ?_⟩
      obtain ⟨H4, s4, h4, e4⟩ := lay (o := valsO vw D) nvw
      rw [e4]
      refine ⟨vw, D, xs, bs, rfl, h4, s4 _ _ h3, e32, by rw [lbs]; have := wf.fl; omega, fun l nl => ?_⟩
      obtain ⟨H5, s5, h5, e5⟩ := lay (o := .lst (bs.map V.ref)) nl
      rw [e5]
      have S5 : Same H H5 := (S3.trans (hid_low _ _)).trans (s4.trans s5)
      rw [List.take_of_length_le (by rw [List.length_map, ltd]; exact Nat.le_refl _)] at p3
      exact q l H5 (((S3.trans (hid_low _ _)).trans s4).free nl) S5 ⟨bs, h5, Paired.mapP p3 fun _ _ r => r.mono ((hid_low _ _).trans (s4.trans s5))⟩
end
end K28
set_option Elab.async false
set_option linter.all false
set_option autoImplicit false
set_option maxRecDepth 100000
set_option maxHeartbeats 8000000
namespace GB
open PySem PySem.Spec L2
def shTo (xs : List Str) : Nat → List (List Str)
  | 0 => []
  | i + 1 => shTo xs i ++ (xs.drop (i + 1)).map fun y => (["shares", xs.getD i "", y] : List Str)
theorem shTo_len (xs : List Str) : ∀ i, (shTo xs i).length ≤ i * xs.length
  | 0 => by simp [shTo]
  | i + 1 => by
    have := shTo_len xs i
    rw [shTo, List.length_append, List.length_map, List.length_drop, Nat.succ_mul]
    omega
def showsOf (a xs : List Str) : List (List Str) := a.flatMap fun x => xs.map fun y => (["shows", x, y] : List Str)
theorem showsOf_len (xs : List Str) : ∀ a : List Str, (showsOf a xs).length = a.length * xs.length
  | [] => by simp [showsOf]
  | x :: r => by
    have := showsOf_len xs r
    unfold showsOf at this ⊢
    rw [List.flatMap_cons, List.length_append, this, List.length_map, List.length_cons, Nat.succ_mul]
    omega
/-- all permissions of these letters, those that move -/
def allPerms (ls mv : List Str) : List (List Str) := (((ls.map fun x => (["fails", x] : List Str)) ++ (ls.map fun x => (["stays", x] : List Str))) ++ (mv.map fun x => (["writes", x] : List Str))) ++ showsOf mv mv ++ shTo mv mv.length
def endS (k : Str) : Str := if k = "fail" then "fails" else "value"
/-- the dict that maps these to True -/
def trueK (l : List Str) : List (Key × V) := l.map fun x => (Sum.inr x, V.bl true)
theorem trueK_in (l : List Str) (x : Str) : valV (trueK l) (.inr x : Key) = if x ∈ l then some (.bl true) else none := by
  induction l with
  | nil => rfl
  | cons y r ih =>
    by_cases h : y = x
    · subst h
      rw [if_pos List.mem_cons_self]
      exact valV_pos rfl
    · show valV ((Sum.inr y, V.bl true) :: trueK r) (.inr x : Key) = _
      rw [valV_neg (fun e => h (Sum.inr.inj e)), ih]
      have : (x ∈ y :: r) = (x ∈ r) := propext ⟨fun m => (List.mem_cons.mp m).resolve_left fun e => h e.symm, List.mem_cons_of_mem _⟩
      simp only [this]
/-- tuple([("value", name) for name in (sorted(names) if .. else names)]) -/
def tVals : TE := fun σ H Q => ∃ (x : Str) (v c : Addr) (vals cm : List Str), σ.length = 8 ∧ σ[3]? = some (some (.str x)) ∧ σ[1]? = some (some (.ref c)) ∧ σ[4]? = some (some (.ref v)) ∧ H c = some (.dK (trueK cm)) ∧ H v = some (.tup (sts vals)) ∧ vals.length ≤ 2 ∧ (∀ x ∈ vals, x ∈ va3) ∧
  ∀ (t : Addr) (ts : List Addr) (H6 : Hp), H t = none → Same H H6 → H6 t = some (.tup (ts.map V.ref)) → RowsAt H6 ((if x ∈ cm then sort2 vals else vals).map fun y => (["value", y] : List Str)) ts → Q (.ref t) H6
theorem vals_weak {K : PySem.W.Frag} (σ : L2.St) (H : Hp) (Q : VK) (h : tVals σ H Q) : tCB (fun xs H_1 Q => ∃ p ys, xs = [V.ref p] ∧ ((SqL K H_1 p ys ∧ ∀ l, H_1 l = none → Q (.ref l) (upd H_1 l (.tup ys))) ∨ (SqT K H_1 p ys ∧ Q (.ref p) H_1)))
    (tCons (tLc (iSeqW K (tIf (tB (tDIn (tVar 3) (tVar 1))) (tCB (rSortedTS K) (tCons (tVar 4) tNil)) (tVar 4))) (gName 7) tYes (tTup (tCons (tC (.str "value")) (tCons (tVar 7) tNil))) [7]) tNil) σ H Q := by
  obtain ⟨x, v, c, vals, cm, hl, h3, h1, h4, hc, hv, l2, v3, q⟩ := h
  have fin : ∀ (L : Addr) (H1 H2 : Hp), Same H H1 → RowsIn H1 H2 L ((if x ∈ cm then sort2 vals else vals).map fun y => (["value", y] : List Str)) → ∃ p ys, ([V.ref L] : List V) = [V.ref p] ∧ ((SqL K H2 p ys ∧ ∀ l, H2 l = none → Q (.ref l) (upd H2 l (.tup ys))) ∨ (SqT K H2 p ys ∧ Q (.ref p) H2)) := fun L H1 H2 s r => by
    obtain ⟨ts, g1, g2⟩ := r.done
    refine ⟨L, _, rfl, .inl ⟨SqL.of g1, fun t nt => ?_⟩⟩
    obtain ⟨H3, s3, g3, e3⟩ := lay (o := .tup (ts.map V.ref)) nt
    rw [e3]
    exact q t ts H3 ((s.trans r.same).free nt) ((s.trans r.same).trans s3) g3 (g2.mono s3)
  refine ⟨_, h3, _, h1, c, _, rfl, DGet.k (k := .inr x) hc, _, rfl, ?_⟩
  rw [trueK_in]
  by_cases m : x ∈ cm
  · rw [if_pos m]
    refine iteT ?_
    refine ⟨_, h4, v, vals, rfl, SqT.of hv, by omega, fun ys p hperm hsrt np => ?_⟩
    obtain ⟨H1, s1, g1, e1⟩ := lay (o := .lst (sts ys)) np
    rw [e1]
    refine ⟨p, sts ys, true, [], rfl, same_hid0.seq (SqL.of g1), fun J WJ => ?_⟩
    refine rows1J (wd := "value") (Q := fun z H2 => ∃ p ys, ([z] : List V) = [V.ref p] ∧ ((SqL K H2 p ys ∧ ∀ l, H2 l = none → Q (.ref l) (upd H2 l (.tup ys))) ∨ (SqT K H2 p ys ∧ Q (.ref p) H2))) (kb := true) WJ (by rw [hl]; decide : 7 < σ.length) (same_hid0.seq (SqL.of g1)) (by have := hperm.length_eq; omega) fun L H2 r => ?_
    refine fin L H1 H2 s1 ?_
    rw [if_pos m, ← sort2_of hperm hsrt l2 v3]
    exact r
  · rw [if_neg m]
    refine iteF ?_
    refine ⟨_, h4, v, sts vals, false, [], rfl, (Same.seqT same_hid0 (SqT.of hv) : SqT K _ v _), fun J WJ => ?_⟩
    refine rows1J (wd := "value") (Q := fun z H2 => ∃ p ys, ([z] : List V) = [V.ref p] ∧ ((SqL K H2 p ys ∧ ∀ l, H2 l = none → Q (.ref l) (upd H2 l (.tup ys))) ∨ (SqT K H2 p ys ∧ Q (.ref p) H2))) (kb := false) WJ (by rw [hl]; decide : 7 < σ.length) (Same.seqT same_hid0 (SqT.of hv) : SqT K _ v _) (by omega) fun L H2 r => ?_
    refine fin L H H2 (Same.refl _) ?_
    rw [if_neg m]
    exact r
def nkV (n : Str) : NestedKey := .tup [.text "value", .text n]
def nkE (a : Str × List Str) : NestedKey := .tup [.text a.1, .tup (a.2.map nkV)]
theorem nkVs_inj : ∀ {l m : List Str}, l.map nkV = m.map nkV → l = m
  | [], [], _ => rfl
  | [], _ :: _, h => by cases h
  | _ :: _, [], h => by cases h
  | x :: l, y :: m, h => by
    have h1 : nkV x = nkV y ∧ l.map nkV = m.map nkV := List.cons.inj h
    have h2 := (List.cons.inj (List.cons.inj (NestedKey.tup.inj h1.1)).2).1
    obtain rfl := NestedKey.text.inj h2
    rw [nkVs_inj h1.2]
theorem nkE_inj {a b : Str × List Str} (h : nkE a = nkE b) : a = b := by
  obtain ⟨x, l⟩ := a
  obtain ⟨y, m⟩ := b
  have h1 := List.cons.inj (NestedKey.tup.inj h)
  obtain rfl := NestedKey.text.inj h1.1
  have h2 := (List.cons.inj h1.2).1
  obtain rfl : l = m := nkVs_inj (NestedKey.tup.inj h2)
  rfl
theorem nkVs_depth : ∀ l : List Str, NestedKey.depthAll (l.map nkV) ≤ 1
  | [] => by simp [NestedKey.depthAll]
  | x :: l => by
    have := nkVs_depth l
    have e : (nkV x).depth = 1 := by simp [nkV, NestedKey.depth, NestedKey.depthAll]
    rw [List.map_cons, NestedKey.depthAll, e]
    omega
theorem nkE_depth (a : Str × List Str) : (nkE a).depth ≤ 8 := by
  have := nkVs_depth a.2
  unfold nkE
  simp only [NestedKey.depth, NestedKey.depthAll]
  omega
/-- a fact's end stands in the dict of ends -/
structure EndAt (H : Hp) (g : GD) (f : Fact) (x : NestedKey × Addr × Value) : Prop where
  key : x.1 = nkE (g.asked f)
  ex : ∃ b e : Addr, x.2.2 = .ref b ∧ H b = some (.tup [.str (endS f.kind), .ref e]) ∧ H e = some (.tup [.str f.kind, .str f.en])
theorem EndAt.mono {H H' : Hp} {g : GD} {f : Fact} {x : NestedKey × Addr × Value} (s : Same H H') (h : EndAt H g f x) : EndAt H' g f x := let ⟨b, e, h1, h2, h3⟩ := h.ex; ⟨h.key, b, e, h1, s _ _ h2, s _ _ h3⟩
theorem paired_mem {α β : Type} {R : α → β → Prop} {y : β} : ∀ {l : List α} {m : List β}, Paired R l m → y ∈ m → ∃ x ∈ l, R x y
  | _, _, .cons r t, h => by
    rcases List.mem_cons.mp h with rfl | h
    · exact ⟨_, List.mem_cons_self, r⟩
    · obtain ⟨x, hx, hr⟩ := paired_mem t h
      exact ⟨x, List.mem_cons_of_mem _ hx, hr⟩
theorem nk_rows {H : Hp} : ∀ {xs : List Str} {ts : List Addr}, RowsAt H (xs.map fun x => (["value", x] : List Str)) ts → NkAll H (xs.map nkV) (ts.map V.ref)
  | [], [], _ => .nil
  | x :: xs, t :: ts, h => by
    cases h with
    | cons a b => exact .cons (.tup a (.cons (.text _) (.cons (.text _) .nil))) (nk_rows b)
  | [], _ :: _, h => by cases h
  | _ :: _, [], h => by cases h
theorem prod_le {a b : Nat} (h : a ≤ 20) (h2 : b ≤ 20) : a * b ≤ 400 := Nat.le_trans (Nat.mul_le_mul h h2) (by decide)
end GB
namespace K28
open PySem PySem.Spec L2 GB
abbrev sPerm : Stmt := topS 30
abbrev sOut : Stmt := topS 29
abbrev sEbv : Stmt := topS 28
def ebvN : List Str := ["facts", "commutes", "ends", "letter", "names", "end", "values", "name"]
def permN : List Str := ["letters", "moving", "fails", "stays", "writes", "shows", "shares", "letter", "one", "other", "place"]
def spPerm : Sp := fun vs H Q _ => ∃ (a b : Addr) (ls mv : List Str), vs = [.ref a, .ref b] ∧ H a = some (.lst (sts ls)) ∧ H b = some (.lst (sts mv)) ∧ ls.length ≤ 20 ∧ mv.length ≤ 20 ∧
  ∀ (D : Addr) (ts : List Addr) (H' : Hp), H D = none → Same H H' → H' D = some (.lst (ts.map V.ref)) → RowsAt H' (allPerms ls mv) ts → Q (.ref D) H'
def spEbv (P : Program) (w : World) : Sp := fun vs H Q _ => ∃ (a c : Addr) (g : GD), vs = [.ref a, .ref c] ∧ FactsAt H a g.facts ∧ H c = some (.dK (trueK g.comm)) ∧ g.Wf ∧
  ∀ (D : Addr) (xs : NX) (H' : Hp), H D = none → Same H H' → H' D = some (ndO P w D xs) → NdKeys (hid [D] H') xs → Paired (EndAt (hid [D] H') g) g.facts xs → Q (.ref D) H'
def spOut : Sp := fun vs H Q _ => ∃ (e : Addr) (k n : Str), vs = [.ref e] ∧ H e = some (.tup [.str k, .str n]) ∧ ∀ (t : Addr) (H' : Hp), H t = none → Same H H' → H' t = some (.tup [.str (endS k), .ref e]) → Q (.ref t) H'
section
variable {P : Program} {w : World} {K : PySem.W.Frag} {mg : Str → Option Value} {base : Heap}
theorem scPerm : FnScope permN ["letters", "moving"] (defScope sPerm) := ⟨rfl, rfl, rfl, by decide +kernel, rfl, by decide +kernel, by decide +kernel⟩
theorem scOut : FnScope ["end"] ["end"] (defScope sOut) := ⟨rfl, rfl, rfl, by decide +kernel, rfl, by decide +kernel, by decide +kernel⟩
theorem ok_out {f : Addr} {fd : FuncData} (F : Fun K "as_outcome" "as_outcome" sOut f fd) : FnOk P w K mg base CX0 1 f fd ["end"] spOut := by
  refine F.ok scOut (fun vs H Q E h => ?_) (fun cdv A outer s H vs Q E hr h => ?_)
  · obtain ⟨e, k, n, rfl, _⟩ := h
    rfl
  · obtain ⟨e, k, n, rfl, he, q⟩ := h
    refine ⟨_, pss_one (ps_ret (pe_tup (pa_cons (pe_ifExp (pt_cmpR op_eq (pe_ix ix_tup (pv 0) (pe_int) (fun _ _ => rfl)) (pe_str) (nomark _)) (pe_str) (pe_str)) (pa_cons (pv 0) (pa_nil))))), ?_⟩
    refine ⟨_, rfl, e, _, ((0 : Nat) : Int), _, rfl, rfl, SqT.of he, atI_nat (j := 0) rfl, rfl, _, rfl, ?_⟩
    rw [decS]
    by_cases c : k = "fail"
    · rw [decide_eq_true c]
      refine iteT ?_
      refine ⟨_, rfl, by show 2 ≤ sizeLine; decide, fun t nt => ?_⟩
      obtain ⟨H1, s1, h1, e1⟩ := lay (o := .tup [.str "fails", .ref e]) nt
      rw [e1]
      exact q t H1 nt s1 (by unfold endS; rw [if_pos c]; exact h1)
    · rw [decide_eq_false c]
      refine iteF ?_
      refine ⟨_, rfl, by show 2 ≤ sizeLine; decide, fun t nt => ?_⟩
      obtain ⟨H1, s1, h1, e1⟩ := lay (o := .tup [.str "value", .ref e]) nt
      rw [e1]
      exact q t H1 nt s1 (by unfold endS; rw [if_neg c]; exact h1)
theorem ok_perm {f : Addr} {fd : FuncData} (F : Fun K "_all_permissions" "_all_permissions" sPerm f fd) (T : Bl mg) : FnOk P w K mg base CX0 1 f fd ["letters", "moving"] spPerm := by
  refine F.ok scPerm (fun vs H Q E h => ?_) (fun cdv A outer s H vs Q E hr h => ?_)
  · obtain ⟨a, b, ls, mv, rfl, _⟩ := h
    rfl
  · obtain ⟨a, b, ls, mv, rfl, ha, hb, hls, hmv, q⟩ := h
    refine ⟨_, pss_cons (ps_setLc (i := 2) (own := [("letter", 7)]) (g := gName 7) (tt := tYes) rfl scPerm.nd rfl rfl (sw_true rfl rfl rfl (by decide +kernel)) (pi_seqW (pv 0)) (blkOk_by (own := [("letter", 7)]) (N := permN) (sc := defScope sPerm) (by decide +kernel)) (fun _ _ _ _ _ => pg_name (i := 7) scPerm.nd rfl (.inl rfl)) (fun _ _ _ _ _ => pts_nil) (fun _ _ _ _ _ => pe_tup (pa_cons (pe_str) (pa_cons (pv 7) (pa_nil))))) (pss_cons (ps_setLc (i := 3) (own := [("letter", 7)]) (g := gName 7) (tt := tYes) rfl scPerm.nd rfl rfl (sw_true rfl rfl rfl (by decide +kernel)) (pi_seqW (pv 0)) (blkOk_by (own := [("letter", 7)]) (N := permN) (sc := defScope sPerm) (by decide +kernel)) (fun _ _ _ _ _ => pg_name (i := 7) scPerm.nd rfl (.inl rfl)) (fun _ _ _ _ _ => pts_nil) (fun _ _ _ _ _ => pe_tup (pa_cons (pe_str) (pa_cons (pv 7) (pa_nil))))) (pss_cons (ps_setLc (i := 4) (own := [("letter", 7)]) (g := gName 7) (tt := tYes) rfl scPerm.nd rfl rfl (sw_true rfl rfl rfl (by decide +kernel)) (pi_seqW (pv 1)) (blkOk_by (own := [("letter", 7)]) (N := permN) (sc := defScope sPerm) (by decide +kernel)) (fun _ _ _ _ _ => pg_name (i := 7) scPerm.nd rfl (.inl rfl)) (fun _ _ _ _ _ => pts_nil) (fun _ _ _ _ _ => pe_tup (pa_cons (pe_str) (pa_cons (pv 7) (pa_nil))))) (pss_cons (ps_setLc2 (i := 5) (own := [("one", 8), ("other", 9)]) (vs1 := [9]) (wi1 := iSeqW K (tVar 1)) (g := gName 8) (g1 := gName 9) (tt := tYes) (tt1 := tYes) rfl scPerm.nd rfl rfl (sw_true rfl rfl rfl (by decide +kernel)) (pi_seqW (pv 1)) (blkOk_by (own := [("one", 8), ("other", 9)]) (N := permN) (sc := defScope sPerm) (by decide +kernel)) (by decide) (fun _ _ _ _ _ => pg_name (i := 8) scPerm.nd rfl (.inl rfl)) (fun _ _ _ _ _ => pts_nil) (fun _ _ _ _ _ => pi_seqW (pv 1)) (fun _ _ _ _ _ => pg_name (i := 9) scPerm.nd rfl (.inl rfl)) (fun _ _ _ _ _ => pts_nil) (fun _ _ _ _ _ => pe_tup (pa_cons (pe_str) (pa_cons (pv 8) (pa_cons (pv 9) (pa_nil)))))) (pss_cons (ps_setLc2 (i := 6) (own := [("place", 10), ("one", 8), ("other", 9)]) (vs1 := [9]) (wi1 := iSeqW K (tSl (rSlL K) (tVar 1) (tPart (tOp (rI0 fun i j => .int (i + j)) (tVar 10) (tC (.int 1)))) tNoPart)) (g := gTup K 2 (gCons (gName 10) (gCons (gName 8) gNil))) (g1 := gName 9) (tt := tYes) (tt1 := tYes) rfl scPerm.nd rfl rfl (sw_true rfl rfl rfl (by decide +kernel)) (pi_enumW rfl T.enum (pa_cons (pv 1) pa_nil)) (blkOk_by (own := [("place", 10), ("one", 8), ("other", 9)]) (N := permN) (sc := defScope sPerm) (by decide +kernel)) (by decide) (fun _ _ _ _ _ => pg_tup rfl (pgs_cons (pg_name (i := 10) scPerm.nd rfl (.inl rfl)) (pgs_cons (pg_name (i := 8) scPerm.nd rfl (.inl rfl)) (pgs_nil)))) (fun _ _ _ _ _ => pts_nil) (fun _ _ _ _ _ => pi_seqW (pe_slice (r := rSlL K) sl_list (pv 1) (po_some (pe_op op_add (pv 10) (pe_int))) po_none)) (fun _ _ _ _ _ => pg_name (i := 9) scPerm.nd rfl (.inl rfl)) (fun _ _ _ _ _ => pts_nil) (fun _ _ _ _ _ => pe_tup (pa_cons (pe_str) (pa_cons (pv 8) (pa_cons (pv 9) (pa_nil)))))) (pss_one (ps_ret (pe_op op_cat (pe_op op_cat (pe_op op_cat (pe_op op_cat (pv 2) (pv 3)) (pv 4)) (pv 5)) (pv 6)))))))), ?_⟩
    refine rows1S rfl (by simp [L2.start, permN]) (SqL.of ha) (by omega) fun D1 H1 r1 => ?_
    have s1 := r1.same
    refine rows1S rfl (by simp [L2.start, permN]) (SqL.of (s1 _ _ ha)) (by omega) fun D2 H2 r2 => ?_
    have s2 := s1.trans r2.same
    refine rows1S rfl (by simp [L2.start, permN]) (SqL.of (s2 _ _ hb)) (by omega) fun D3 H3 r3 => ?_
    have s3 := s2.trans r3.same
    have hb3 := s3 _ _ hb
    refine ⟨_, rfl, b, sts mv, true, [], rfl, same_hid0.seq (SqL.of hb3), fun J WJ D4 nD4 => ?_⟩
    refine lc2_it WJ (fun j H' => RowsIn H3 H' D4 (showsOf (mv.take j) mv)) (RowsIn.start nD4) (fun j H' _ r => (r.same.trans same_hid0).seq (SqL.of hb3)) ?_ ?_
    · rintro i x H5 H5' hi r ⟨rfl, hx⟩
      obtain ⟨sx, hsx, rfl⟩ := sts_at hx
      have hi' : i < mv.length := (List.getElem?_eq_some_iff.mp hsx).1
      refine ⟨rfl, ?_⟩
      refine ⟨_, rfl, b, sts mv, true, [], rfl, same_hid0.seq (SqL.of (r.same _ _ hb3)), fun J1 WJ1 => ?_⟩
      refine in_it WJ1 (fun j H' => RowsIn H3 H' D4 (showsOf (mv.take i) mv ++ (mv.take j).map fun y => (["shows", sx, y] : List Str))) (by rw [List.take_zero, List.map_nil, List.append_nil]; exact r) (fun j H' _ r => (r.same.trans same_hid0).seq (SqL.of hb3)) ?_ ?_
      · rintro j y H6 H6' hj r6 ⟨rfl, hy⟩
        obtain ⟨sy, hsy, rfl⟩ := sts_at hy
        refine ⟨rfl, ?_⟩
        refine ⟨_, rfl, _, rfl, by show 3 ≤ sizeLine; decide, fun t nt => ?_⟩
        rw [take_at hsy, List.map_append, ← List.append_assoc]
        refine r6.more (row := ["shows", sx, sy]) (Same.refl _) ?_ nt
        rw [List.length_append, showsOf_len, List.length_map, List.length_take, List.length_take]
        have := prod_le (show min i mv.length ≤ 20 by omega) hmv
        omega
      · intro H6 r6
        rw [show mv.take (sts mv).length = mv from List.take_of_length_le (by rw [sts_len]; exact Nat.le_refl _)] at r6
        rw [take_at hsx]
        unfold showsOf at r6 ⊢
        rw [List.flatMap_append, List.flatMap_cons, List.flatMap_nil, List.append_nil]
        exact r6
    intro H4 r4
    rw [List.take_of_length_le (by rw [sts_len]; exact Nat.le_refl _)] at r4
    have s4 := s3.trans r4.same
    have hb4 := s4 _ _ hb
    refine ⟨_, rfl, b, sts mv, true, [], rfl, same_hid0.seq (SqL.of hb4), fun J WJ D5 nD5 => ?_⟩
    refine lc2_it WJ (fun j H' => RowsIn H4 H' D5 (shTo mv j)) (RowsIn.start nD5) (fun j H' _ r => (r.same.trans same_hid0).seq (SqL.of hb4)) ?_ ?_
    · rintro i x H5 H5' hi r ⟨Tp, y1, y2, rfl, nT, rfl, e1, e2⟩
      obtain rfl := Option.some.inj e1
      obtain ⟨sx, hsx, rfl⟩ := sts_at e2
      have hi' : i < mv.length := (List.getElem?_eq_some_iff.mp hsx).1
      obtain ⟨H6, s6, h6, e6⟩ := lay (o := .tup [.int (i : Nat), .str sx]) nT
      rw [e6]
      refine ⟨Tp, _, rfl, SqT.of h6, rfl, _, _, rfl, _, _, rfl, rfl, ?_⟩
      refine ⟨rfl, ?_⟩
      refine ⟨_, rfl, _, rfl, _, _, rfl, rfl, _, rfl, b, sts mv, rfl, SqL.of (s6 _ _ (r.same _ _ hb4)), fun c nc => ?_⟩
      rw [show (((i : Nat) : Int) + 1) = ((i + 1 : Nat) : Int) from rfl, cut_from, show (sts mv).drop (i + 1) = sts (mv.drop (i + 1)) from (List.map_drop).symm]
      obtain ⟨H7, s7, h7, e7⟩ := lay (o := .lst (sts (mv.drop (i + 1)))) nc
      rw [e7]
      have r7 : RowsIn H4 H7 D5 (shTo mv i) := r.next (s6.trans s7)
      have cD : c ≠ D5 := fun z => by
        obtain ⟨ts, q1, _⟩ := r.next s6 |>.ex
        rw [← z, nc] at q1
        cases q1
      refine ⟨c, sts (mv.drop (i + 1)), true, [D5], rfl, SqL.of (hid_to (ni1 cD) h7), fun J1 WJ1 => ?_⟩
      have hc7 : hid [D5] H7 c = some (.lst (sts (mv.drop (i + 1)))) := hid_to (ni1 cD) h7
      refine in_it WJ1 (fun j H' => Bt [D5] H7 H' ∧ RowsIn H4 H' D5 (shTo mv i ++ ((mv.drop (i + 1)).take j).map fun y => (["shares", sx, y] : List Str))) ⟨Same.refl _, by rw [List.take_zero, List.map_nil, List.append_nil]; exact r7⟩ (fun j H' _ r => SqL.of (r.1 _ _ hc7)) ?_ ?_
      · rintro j y H8 H8' hj ⟨B8, r8⟩ ⟨rfl, hy⟩
        obtain ⟨sy, hsy, rfl⟩ := sts_at hy
        refine ⟨rfl, ?_⟩
        refine ⟨_, rfl, _, rfl, by show 3 ≤ sizeLine; decide, fun t nt => ?_⟩
        rw [take_at hsy, List.map_append, ← List.append_assoc]
        obtain ⟨acc, a1, a2, a3, a4⟩ := r8.moreB (row := ["shares", sx, sy]) (Same.refl _) (by
          rw [List.length_append, List.length_map, List.length_take, List.length_drop]
          have := shTo_len mv i
          have := prod_le (show i ≤ 20 by omega) hmv
          omega) nt
        exact ⟨acc, a1, a2, B8.trans a4, a3⟩
      · rintro H8 ⟨B8, r8⟩
        rw [show (mv.drop (i + 1)).take (sts (mv.drop (i + 1))).length = mv.drop (i + 1) from List.take_of_length_le (by rw [sts_len]; exact Nat.le_refl _)] at r8
        rw [shTo, show mv.getD i "" = sx from by rw [List.getD_eq_getElem?_getD, hsx]; rfl]
        exact r8
    intro H5 r5
    rw [sts_len] at r5
    have s5 := s4.trans r5.same
    obtain ⟨t1, g1, p1⟩ := r1.done
    obtain ⟨t2, g2, p2⟩ := r2.done
    obtain ⟨t3, g3, p3⟩ := r3.done
    obtain ⟨t4, g4, p4⟩ := r4.done
    obtain ⟨t5, g5, p5⟩ := r5.done
    have s45 := r5.same
    have s35 := r4.same.trans s45
    have s25 := r3.same.trans s35
    have s15 := r2.same.trans s25
    have l1 := p1.len
    have l2 := p2.len
    have l3 := p3.len
    have l4 := p4.len
    have l5 := p5.len
    rw [List.length_map] at l1 l2 l3
    rw [showsOf_len] at l4
    have l5b := shTo_len mv mv.length
    have l45 := prod_le hmv hmv
    refine ⟨_, rfl, _, rfl, D1, D2, _, _, rfl, rfl, s15 _ _ g1, s25 _ _ g2, by rw [List.length_map, List.length_map, sizeLine_eq]; omega, fun u6 n6 => ?_⟩
    obtain ⟨H6, s6, h6, e6⟩ := lay (o := .lst (t1.map V.ref ++ t2.map V.ref)) n6
    rw [e6]
    refine ⟨_, rfl, u6, D3, _, _, rfl, rfl, h6, s6 _ _ (s35 _ _ g3), by rw [List.length_append, List.length_map, List.length_map, List.length_map, sizeLine_eq]; omega, fun u7 n7 => ?_⟩
    obtain ⟨H7, s7, h7, e7⟩ := lay (o := .lst (t1.map V.ref ++ t2.map V.ref ++ t3.map V.ref)) n7
    rw [e7]
    refine ⟨_, rfl, u7, D4, _, _, rfl, rfl, h7, s7 _ _ (s6 _ _ (s45 _ _ g4)), by rw [List.length_append, List.length_append, List.length_map, List.length_map, List.length_map, List.length_map, sizeLine_eq]; omega, fun u8 n8 => ?_⟩
    obtain ⟨H8, s8, h8, e8⟩ := lay (o := .lst (t1.map V.ref ++ t2.map V.ref ++ t3.map V.ref ++ t4.map V.ref)) n8
    rw [e8]
    refine ⟨_, rfl, u8, D5, _, _, rfl, rfl, h8, s8 _ _ (s7 _ _ (s6 _ _ g5)), by rw [List.length_append, List.length_append, List.length_append, List.length_map, List.length_map, List.length_map, List.length_map, List.length_map, sizeLine_eq]; omega, fun u9 n9 => ?_⟩
    obtain ⟨H9, s9, h9, e9⟩ := lay (o := .lst (t1.map V.ref ++ t2.map V.ref ++ t3.map V.ref ++ t4.map V.ref ++ t5.map V.ref)) n9
    rw [e9]
    have s59 := ((s6.trans s7).trans s8).trans s9
    refine q u9 (t1 ++ t2 ++ t3 ++ t4 ++ t5) H9 ((s5.trans ((s6.trans s7).trans s8)).free n9) (s5.trans s59) (by rw [h9]; simp) ?_
    have b1 := p1.mono (s15.trans s59)
    have b2 := p2.mono (s25.trans s59)
    have b3 := p3.mono (s35.trans s59)
    have b4 := p4.mono (s45.trans s59)
    have b5 := p5.mono s59
    exact (((b1.app b2).app b3).app b4).app b5
theorem scEbv : FnScope ebvN ["facts", "commutes"] (defScope sEbv) := ⟨rfl, rfl, rfl, by decide +kernel, rfl, by decide +kernel, by decide +kernel⟩
theorem ok_ebv {f : Addr} {fd : FuncData} (F : Fun K "_ends_by_values" "_ends_by_values" sEbv f fd) (T : Bl mg) (OUT : Fns P w K mg base "as_outcome" 1 ["end"] spOut) : FnOk P w K mg base CX0 2 f fd ["facts", "commutes"] (spEbv P w) := by
  refine F.ok scEbv (fun vs H Q E h => ?_) (fun cdv A outer s H vs Q E hr h => ?_)
  · obtain ⟨a, c, g, rfl, _⟩ := h
    rfl
  · obtain ⟨a, c, g, rfl, ⟨tsF, ha, hF⟩, hc, wf, q⟩ := h
    have hu := hu_of hr
    have hu9 : (A.deeper (PyProof.Rows.envOfC "_ends_by_values" (defScope sEbv) s.heap.objs.size f cdv)).units + 9 < cLine := by have := hr.un; omega
    refine ⟨_, pss_cons (ps_set (i := 2) scEbv.nd rfl (.inl rfl) (pe_dnewN)) (pss_cons (ps_for PassesOwn.never rfl (pi_seqW (pv 0)) (pg_tup rfl (pgs_cons (pg_name (i := 3) scEbv.nd rfl (.inl rfl)) (pgs_cons (pg_name (i := 4) scEbv.nd rfl (.inl rfl)) (pgs_cons (pg_name (i := 5) scEbv.nd rfl (.inl rfl)) (pgs_nil))))) (pss_cons (ps_set (i := 6) scEbv.nd rfl (.inl rfl) (pe_weak (t' := tVals) (pe_callTy (call_tuple_of) (by rfl) T.tuple (by decide +kernel) (pa_cons (pe_lc (own := [("name", 7)]) (g := gName 7) (tt := tYes) rfl scEbv.nd (pi_seqW (pe_ifExp (pt_cmp (pc_din hu (pv 3) (pv 1))) (pe_callB (cr_sortedTS) (by rfl) T.sorted (by decide +kernel) (pa_cons (pv 4) (pa_nil))) (pv 4))) (blkOk_by (own := [("name", 7)]) (N := ebvN) (sc := defScope sEbv) (by decide +kernel)) (fun _ _ _ _ _ => pg_name (i := 7) scEbv.nd rfl (.inl rfl)) (fun _ _ _ _ _ => pts_nil) (fun _ _ _ _ _ => pe_tup (pa_cons (pe_str) (pa_cons (pv 7) (pa_nil))))) (pa_nil))) vals_weak)) (pss_one (ps_asg (pe_fn OUT hr (by decide) rfl (pa_cons (pv 5) pa_nil)) (pg_sub (pv 2) (pe_tup (pa_cons (pv 3) (pa_cons (pv 6) (pa_nil)))) (set_dictN hu9)))))) (pss_one (ps_ret (pv 2)))), ?_⟩
    refine fun D nD => ?_
    obtain ⟨H1, s1, h1, e1⟩ := lay (o := ndO P w D []) nD
    have e1' : upd H D (ndO (cxOf CX0 P w K mg base ebvN "_ends_by_values" (defScope sEbv) f cdv A outer s H E).nox.prog (cxOf CX0 P w K mg base ebvN "_ends_by_values" (defScope sEbv) f cdv A outer s H E).nox.w D []) = H1 := e1
    rw [e1']
    have S1 : Same H (hid [D] H1) := same_hid_new nD s1
    have ltd : tsF.length = g.facts.length := (Paired.length hF).symm
    refine ⟨_, rfl, a, tsF.map V.ref, true, [D], rfl, SqL.of (S1 _ _ ha), fun J WJ => ?_⟩
    refine for_it WJ (fun i σ H' => ∃ (o3 o4 o5 o6 : Option V) (xs : NX), σ = [some (.ref a), some (.ref c), some (.ref D), o3, o4, o5, o6, none] ∧ Same H (hid [D] H') ∧ H' D = some (ndO P w D xs) ∧ NdKeys (hid [D] H') xs ∧ Paired (EndAt (hid [D] H') g) (g.facts.take i) xs)
      ⟨none, none, none, none, [], rfl, S1, h1, (fun e he => nomatch he), .nil⟩ (fun i σ H' _ ⟨_, _, _, _, _, _, S, _⟩ => SqL.of (S _ _ ha)) ?_ ?_
    · rintro i x σ H0 H3 hi ⟨o3, o4, o5, o6, xs, rfl, S3, h3, k3, p3⟩ ⟨rfl, ey⟩
      obtain ⟨t, htt, rfl⟩ : ∃ t, tsF[i]? = some t ∧ x = V.ref t := by
        have ey : (tsF.map V.ref)[i]? = some x := ey
        rw [List.getElem?_map] at ey
        cases e : tsF[i]? with
        | none => rw [e] at ey; cases ey
        | some y => rw [e] at ey; exact ⟨y, rfl, (Option.some.inj ey).symm⟩
      have hig : i < g.facts.length := by rw [← ltd]; exact (List.getElem?_eq_some_iff.mp htt).1
      have hfi : g.facts[i]? = some g.facts[i] := List.getElem?_eq_getElem hig
      generalize hfa : g.facts[i] = fa at hfi
      have fmem := List.mem_of_getElem? hfi
      obtain ⟨t', ht', hA⟩ : ∃ t', tsF[i]? = some t' ∧ FactAt H fa t' := paired_at' hF hfi
      obtain rfl : t' = t := by rw [htt] at ht'; exact (Option.some.inj ht').symm
      have ok := wf.fa _ fmem
      obtain ⟨v, e, ht0, hv0, he0⟩ := hA.ex
      obtain ⟨k, hk, hvl⟩ := ok.len
      have har := wf.ar _ hk
      have S3l : Same H H3 := S3.trans (hid_low _ _)
      refine ⟨t', _, rfl, SqT.of (S3l _ _ ht0), rfl, _, _, rfl, _, _, rfl, _, _, rfl, rfl, ?_⟩
      refine ⟨fa.x, v, c, fa.vals, g.comm, rfl, rfl, rfl, rfl, S3l _ _ hc, S3l _ _ hv0, by rw [hvl]; exact har, ok.vals, fun u tsu H4 nu s4 hu4 hru => ?_⟩
      refine ⟨_, rfl, e, fa.kind, fa.en, rfl, s4 _ _ (S3l _ _ he0), fun b H5 nb s5 hb5 => ?_⟩
      refine ⟨_, rfl, _, rfl, _, rfl, by show 2 ≤ sizeLine; decide, fun ka nka => ?_⟩
      obtain ⟨H6, s6, h6, e6⟩ := lay (o := .tup [.str fa.x, .ref u]) nka
      rw [e6]
      have S46 : Same H3 H6 := (s4.trans s5).trans s6
      have h6D := S46 _ _ h3
      have nD6 : ∀ {q : Addr} {o : List V}, H6 q = some (.tup o) → hid [D] H6 q = some (.tup o) := fun h => hid_to (ni1 (ne_of h h6D (fun z => nomatch z))) h
      have k6 : NdKeys (hid [D] H6) xs := k3.mono (hid_same S46)
      have hru6 : RowsAt (hid [D] H6) ((if fa.x ∈ g.comm then sort2 fa.vals else fa.vals).map fun y => (["value", y] : List Str)) tsu := Paired.mapP (hru.mono (s5.trans s6)) fun _ _ r => nD6 r
      have nk6 : NkV (hid [D] H6) (nkE (g.asked fa)) (.ref ka) := .tup (nD6 h6) (.cons (.text _) (.cons (.tup (nD6 (s6 _ _ (s5 _ _ hu4))) (nk_rows hru6)) .nil))
      have lxs : xs.length ≤ 6 := by
        have := Paired.length p3
        rw [List.length_take] at this
        have := wf.fl
        omega
      have nokey : nkE (g.asked fa) ∉ xs.map (·.1) := by
        intro m
        obtain ⟨en, hen, ee⟩ := List.mem_map.mp m
        obtain ⟨fb, hfb, hE⟩ := paired_mem p3 hen
        have := nkE_inj (hE.key.symm.trans ee)
        exact not_in_take_map wf.fd hfi hfb this
      have hnone := atKey_none nokey
      refine ⟨D, ka, b, nkE (g.asked fa), xs, rfl, rfl, rfl, h6D, k6.mono (hid_low _ _), NkV.mono (hid_low _ _) _ _ nk6, nkE_depth _, by omega, ?_⟩
      rw [storedH_new hnone]
      have B8 : Bt [D] H6 (upd H6 D (ndO P w D (xs ++ [(nkE (g.asked fa), ka, Value.ref b)]))) := bt_upd (by simp)
      have S58 : Same (hid [D] H3) (hid [D] (upd H6 D (ndO P w D (xs ++ [(nkE (g.asked fa), ka, Value.ref b)])))) := (hid_same S46).trans B8
      refine ⟨_, _, _, _, xs ++ [(nkE (g.asked fa), ka, Value.ref b)], rfl, S3.trans S58, upd_same, ?_, ?_⟩
      · intro en hen
        rcases List.mem_append.mp hen with h | h
        · exact (k6.mono B8) en h
        · rw [List.mem_singleton.mp h]
          exact ⟨NkV.mono B8 _ _ nk6, nkE_depth _⟩
      · rw [take_at hfi]
        exact paired_app (Paired.mapP p3 fun _ _ r => r.mono S58) (.cons ⟨rfl, b, e, rfl, B8 _ _ (nD6 (s6 _ _ hb5)), S58 _ _ (S3 _ _ he0)⟩ .nil)
    · rintro σ H3 ⟨o3, o4, o5, o6, xs, rfl, S3, h3, k3, p3⟩
      rw [List.take_of_length_le (by rw [List.length_map, ltd]; exact Nat.le_refl _)] at p3
      exact ⟨_, rfl, q D xs H3 nD (S3.trans (hid_low _ _)) h3 k3 p3⟩
end
end K28
set_option Elab.async false
set_option linter.all false
set_option maxRecDepth 100000
set_option maxHeartbeats 8000000
namespace GB
open PySem PySem.Spec L2
/-- [x for x in letters if x in fixed] -/
def tSel (j : Nat) : TE := fun σ H Q => ∃ (s0 : Option V) (a : Addr) (s2 s3 s4 s5 s6 s7 : Option V) (b : Addr) (ls : List (Str × Nat)) (fx : List Str), σ = [s0, some (.ref a), s2, s3, s4, s5, s6, s7] ∧ ((j = 2 ∧ s2 = some (.ref b)) ∨ (j = 3 ∧ s3 = some (.ref b))) ∧ H a = some (.dK (lkv ls)) ∧ H b = some (.lst (sts fx)) ∧ ls.length ≤ 1000 ∧
  ∀ l H', H l = none → Same H H' → H' l = some (.lst (sts ((ls.map (·.1)).filter fun x => decide (x ∈ fx)))) → Q (.ref l) H'

theorem sel_weak2 {K : PySem.W.Frag} (σ : L2.St) (H : Hp) (Q : VK) (h : tSel 2 σ H Q) : tLockE (tLc (iKeys (tVar 1)) (gName 5) (tTest (tOp (rIn K false) (tVar 5) (tVar 2))) (tVar 5) [5]) σ H Q := by
  obtain ⟨s0, a, s2, s3, s4, s5, s6, s7, b, ls, fx, rfl, hj, hL, hF, hz, q⟩ := h
  obtain rfl : s2 = some (.ref b) := by
    rcases hj with h | h
    · first | exact h.2 | exact absurd h.1 (by decide)
    · first | exact h.2 | exact absurd h.1 (by decide)
  have ab : b ≠ a := ne_of hF hL (by intro z; cases z)
  refine ⟨a, _, hL, trivial, fun od => ?_⟩
  obtain ⟨Hl, hlL, hlo, el⟩ : ∃ Hl, Hl a = some (.frz od (.dK (lkv ls))) ∧ (∀ b, b ≠ a → Hl b = H b) ∧ upd H a (.frz od (.dK (lkv ls))) = Hl := ⟨_, upd_same, fun b hb => upd_ne hb, rfl⟩
  rw [el]
  have hFl := (hlo b ab).trans hF
  refine ⟨_, rfl, a, od, rfl, .inl ⟨_, hlL, fun D nD => ?_⟩⟩
  refine lc_it walk_keys (fun i H' => Same Hl H' ∧ H' D = some (.lst (sts (((ls.map (·.1)).take i).filter fun x => decide (x ∈ fx))))) ⟨same_new nD, upd_same⟩ (fun i H' _ ⟨s', _⟩ => s' _ _ hlL) ?_ ?_
  · rintro i x H1 H1' hi ⟨s1, hD⟩ ⟨rfl, k, v, hk, rfl⟩
    obtain ⟨⟨sx, m⟩, hq, eq⟩ : ∃ q, ls[i]? = some q ∧ (Sum.inr q.1, V.int q.2) = (k, v) := by
      unfold lkv at hk
      rw [List.getElem?_map] at hk
      cases e : ls[i]? with
      | none => rw [e] at hk; cases hk
      | some q => rw [e] at hk; exact ⟨q, rfl, Option.some.inj hk⟩
    obtain ⟨rfl, rfl⟩ := Prod.mk.inj eq
    have hkx : (ls.map (·.1))[i]? = some sx := by rw [List.getElem?_map, hq]; rfl
    have ec := take_at hkx
    refine ⟨rfl, ?_⟩
    refine ⟨_, rfl, _, rfl, b, sts fx, rfl, .inl (SqL.of (s1 _ _ hFl)), rfl, flat_sts _, _, rfl, ?_⟩
    rw [show (if false = true then !inV (kV (Sum.inr sx)) (sts fx) else inV (kV (Sum.inr sx)) (sts fx)) = decide (sx ∈ fx) from inV_sts _ _]
    rw [ec, List.filter_append]
    by_cases c : sx ∈ fx
    · rw [decide_eq_true c]
      refine ⟨_, rfl, _, hD, ?_, fun b o e => ?_, ?_⟩
      · rw [sts_len, sizeLine_eq]
        have h1 := List.length_filter_le (fun x => decide (x ∈ fx)) ((ls.map (·.1)).take i)
        rw [List.length_take, List.length_map] at h1
        omega
      · rw [upd_ne (ne_of_none e nD)]; exact s1 _ _ e
      · rw [upd_same, List.filter_cons_of_pos (by simp [c]), List.filter_nil]
        unfold sts
        rw [List.map_append]
        rfl
    · rw [decide_eq_false c]
      refine ⟨s1, ?_⟩
      rw [List.filter_cons_of_neg (by simp [c]), List.filter_nil, List.append_nil]
      exact hD
  · rintro H1' ⟨s1', hD1'⟩
    refine ⟨s1' _ _ hlL, ?_⟩
    have DL : D ≠ a := fun e => by rw [e, hlL] at nD; cases nD
    have nDH : H D = none := by rw [← hlo D DL]; exact nD
    rw [List.take_of_length_le (by rw [List.length_map]; show ls.length ≤ (lkv ls).length; unfold lkv; rw [List.length_map]; exact Nat.le_refl _)] at hD1'
    refine q D _ nDH (fun b o e => ?_) (by rw [upd_ne DL]; exact hD1')
    by_cases hb : b = a
    · subst hb; rw [upd_same, ← e, hL]
    · rw [upd_ne hb]; exact s1' _ _ ((hlo b hb).trans e)

theorem sel_weak3 {K : PySem.W.Frag} (σ : L2.St) (H : Hp) (Q : VK) (h : tSel 3 σ H Q) : tLockE (tLc (iKeys (tVar 1)) (gName 5) (tTest (tOp (rIn K false) (tVar 5) (tVar 3))) (tVar 5) [5]) σ H Q := by
  obtain ⟨s0, a, s2, s3, s4, s5, s6, s7, b, ls, fx, rfl, hj, hL, hF, hz, q⟩ := h
  obtain rfl : s3 = some (.ref b) := by
    rcases hj with h | h
    · first | exact h.2 | exact absurd h.1 (by decide)
    · first | exact h.2 | exact absurd h.1 (by decide)
  have ab : b ≠ a := ne_of hF hL (by intro z; cases z)
  refine ⟨a, _, hL, trivial, fun od => ?_⟩
  obtain ⟨Hl, hlL, hlo, el⟩ : ∃ Hl, Hl a = some (.frz od (.dK (lkv ls))) ∧ (∀ b, b ≠ a → Hl b = H b) ∧ upd H a (.frz od (.dK (lkv ls))) = Hl := ⟨_, upd_same, fun b hb => upd_ne hb, rfl⟩
  rw [el]
  have hFl := (hlo b ab).trans hF
  refine ⟨_, rfl, a, od, rfl, .inl ⟨_, hlL, fun D nD => ?_⟩⟩
  refine lc_it walk_keys (fun i H' => Same Hl H' ∧ H' D = some (.lst (sts (((ls.map (·.1)).take i).filter fun x => decide (x ∈ fx))))) ⟨same_new nD, upd_same⟩ (fun i H' _ ⟨s', _⟩ => s' _ _ hlL) ?_ ?_
  · rintro i x H1 H1' hi ⟨s1, hD⟩ ⟨rfl, k, v, hk, rfl⟩
    obtain ⟨⟨sx, m⟩, hq, eq⟩ : ∃ q, ls[i]? = some q ∧ (Sum.inr q.1, V.int q.2) = (k, v) := by
      unfold lkv at hk
      rw [List.getElem?_map] at hk
      cases e : ls[i]? with
      | none => rw [e] at hk; cases hk
      | some q => rw [e] at hk; exact ⟨q, rfl, Option.some.inj hk⟩
    obtain ⟨rfl, rfl⟩ := Prod.mk.inj eq
    have hkx : (ls.map (·.1))[i]? = some sx := by rw [List.getElem?_map, hq]; rfl
    have ec := take_at hkx
    refine ⟨rfl, ?_⟩
    refine ⟨_, rfl, _, rfl, b, sts fx, rfl, .inl (SqL.of (s1 _ _ hFl)), rfl, flat_sts _, _, rfl, ?_⟩
    rw [show (if false = true then !inV (kV (Sum.inr sx)) (sts fx) else inV (kV (Sum.inr sx)) (sts fx)) = decide (sx ∈ fx) from inV_sts _ _]
    rw [ec, List.filter_append]
    by_cases c : sx ∈ fx
    · rw [decide_eq_true c]
      refine ⟨_, rfl, _, hD, ?_, fun b o e => ?_, ?_⟩
      · rw [sts_len, sizeLine_eq]
        have h1 := List.length_filter_le (fun x => decide (x ∈ fx)) ((ls.map (·.1)).take i)
        rw [List.length_take, List.length_map] at h1
        omega
      · rw [upd_ne (ne_of_none e nD)]; exact s1 _ _ e
      · rw [upd_same, List.filter_cons_of_pos (by simp [c]), List.filter_nil]
        unfold sts
        rw [List.map_append]
        rfl
    · rw [decide_eq_false c]
      refine ⟨s1, ?_⟩
      rw [List.filter_cons_of_neg (by simp [c]), List.filter_nil, List.append_nil]
      exact hD
  · rintro H1' ⟨s1', hD1'⟩
    refine ⟨s1' _ _ hlL, ?_⟩
    have DL : D ≠ a := fun e => by rw [e, hlL] at nD; cases nD
    have nDH : H D = none := by rw [← hlo D DL]; exact nD
    rw [List.take_of_length_le (by rw [List.length_map]; show ls.length ≤ (lkv ls).length; unfold lkv; rw [List.length_map]; exact Nat.le_refl _)] at hD1'
    refine q D _ nDH (fun b o e => ?_) (by rw [upd_ne DL]; exact hD1')
    by_cases hb : b = a
    · subst hb; rw [upd_same, ← e, hL]
    · rw [upd_ne hb]; exact s1' _ _ ((hlo b hb).trans e)

theorem dcK_it {J : It} {n : Nat} {G : Hp → Prop} {Y : Nat → Hp → V → Hp → Prop} (w : Walk J n G Y) {g : TG} {tt : TT} {tk tv : TE} {vs : List Nat} {σ : L2.St} {H1 : Hp} {D : Addr} {Qd : Hp → Prop} (Pv : Nat → Hp → Prop) (h0 : Pv 0 (upd H1 D (.dK []))) (hG : ∀ i H, i ≤ n → Pv i H → G H)
    (hs : ∀ i x H H', i < n → Pv i H → Y i H x H' → g x (wipe σ vs) H' fun σ2 H2 => wipe σ2 vs = wipe σ vs ∧ tt σ2 H2 fun b H3 => if b = true then tk σ2 H3 fun y H4 => tv σ2 H4 fun z H5 => ∃ kvs k, y = kV k ∧ H5 D = some (.dK kvs) ∧ kvs.length < sizeLine ∧ Pv (i + 1) (upd H5 D (.dK (putK kvs k z))) else Pv (i + 1) H3) (hd : ∀ H, Pv n H → Qd H) :
    ∃ Wv : Nat → Nat → Hp → Prop, (∃ m, Wv 0 m (upd H1 D (.dK []))) ∧ ∀ i m H, Wv i m H → (J.stop i H ∧ Qd H) ∨ (J.go i H ∧ ∃ Nx : Hp → Prop, (∀ H', Nx H' → ∃ m', m' < m ∧ Wv (i + 1) m' H') ∧ ∀ x H', J.yld i H x H' → g x (wipe σ vs) H' fun σ2 H2 =>
      wipe σ2 vs = wipe σ vs ∧ tt σ2 H2 fun b H3 => if b = true then tk σ2 H3 fun y H4 => tv σ2 H4 fun z H5 => ∃ kvs k, y = kV k ∧ H5 D = some (.dK kvs) ∧ kvs.length < sizeLine ∧ Nx (upd H5 D (.dK (putK kvs k z))) else Nx H3) := by
  refine ⟨fun i m H => m = n - i ∧ i ≤ n ∧ Pv i H, ⟨n, by simp, Nat.zero_le _, h0⟩, ?_⟩
  rintro i m H ⟨rfl, hi, p⟩
  rcases Nat.lt_or_ge i n with lt | ge
  · exact .inr ⟨w.goes i H lt (hG i H hi p), Pv (i + 1), fun H' p' => ⟨n - (i + 1), by omega, rfl, lt, p'⟩, fun x H' y => hs i x H H' lt p (w.yields i H x H' lt (hG i H hi p) y)⟩
  · obtain rfl : i = n := by omega
    exact .inl ⟨w.stops H (hG i H hi p), hd H p⟩
theorem FactsAt.hidX {H : Hp} {x l C dx : Addr} {u : List (Str × V)} {fs : List Fact} (hx : H x = some (.ins C dx u)) (h : FactsAt H l fs) : FactsAt (hid [x] H) l fs := by
  obtain ⟨ts, h1, h2⟩ := h
  refine ⟨ts, hid_to (ni1 (ne_of h1 hx (fun z => nomatch z))) h1, Paired.mapP h2 fun f t r => ?_⟩
  obtain ⟨v, e, a1, a2, a3⟩ := r.ex
  exact ⟨v, e, hid_to (ni1 (ne_of a1 hx (fun z => nomatch z))) a1, hid_to (ni1 (ne_of a2 hx (fun z => nomatch z))) a2, hid_to (ni1 (ne_of a3 hx (fun z => nomatch z))) a3⟩
/-- the places of rows, from 0 -/
def plK (rows : List (List Str)) : Nat → List (List Key × V)
  | 0 => []
  | i + 1 => putK (plK rows i) ((rows.getD i []).map Sum.inr) (.int (i : Nat))
theorem plK_len (rows : List (List Str)) : ∀ i, (plK rows i).length ≤ i
  | 0 => Nat.le_refl _
  | i + 1 => by
    have := plK_len rows i
    have := length_putK (plK rows i) ((rows.getD i []).map Sum.inr : List Key) (.int (i : Nat))
    rw [plK]
    omega
theorem sts_kV (row : List Str) : sts row = ((row.map Sum.inr : List Key)).map kV := by
  unfold sts
  rw [List.map_map]
  rfl
theorem true_keys (l : List Str) : (trueK l).map (fun kv => kV kv.1) = sts l := by
  unfold trueK sts
  rw [List.map_map]
  rfl
theorem lkv_keys (l : List (Str × Nat)) : (lkv l).map (fun kv => kV kv.1) = sts (l.map (·.1)) := by
  unfold lkv sts
  rw [List.map_map, List.map_map]
  rfl
theorem allPerms_len {ls mv : List Str} (h1 : ls.length ≤ 20) (h2 : mv.length ≤ 20) : (allPerms ls mv).length ≤ 1000 := by
  unfold allPerms
  have := shTo_len mv mv.length
  have := prod_le h2 h2
  simp only [List.length_append, List.length_map, showsOf_len]
  omega
theorem filter_sub {c l : List Str} (h : c.Sublist l) : l.Nodup → l.filter (fun x => decide (x ∈ c)) = c := by
  induction h with
  | slnil => intro _; rfl
  | @cons c l a h ih =>
    intro nd
    have nd' := List.nodup_cons.mp nd
    rw [List.filter_cons_of_neg (by simp; exact fun m => nd'.1 (h.subset m)), ih nd'.2]
  | @cons_cons c l a h ih =>
    intro nd
    have nd' := List.nodup_cons.mp nd
    rw [List.filter_cons_of_pos (by simp)]
    congr 1
    rw [← ih nd'.2]
    refine List.filter_congr fun x hx => ?_
    have hne : x ≠ a := fun e => nd'.1 (e ▸ hx)
    have hmem : (x ∈ (l.filter fun x => decide (x ∈ c))) ↔ x ∈ c := by rw [ih nd'.2]
    simp [hne, hmem]
/-- {x: True for x in letters if x not in fixed} -/
def tMov : TE := fun σ H Q => ∃ (s0 : Option V) (a : Addr) (s3 s4 s5 s6 s7 : Option V) (b : Addr) (ls : List (Str × Nat)) (fx : List Str), σ = [s0, some (.ref a), some (.ref b), s3, s4, s5, s6, s7] ∧ H a = some (.dK (lkv ls)) ∧ H b = some (.lst (sts fx)) ∧ (ls.map (·.1)).Nodup ∧ ls.length ≤ 1000 ∧
  ∀ l H', H l = none → Same H H' → H' l = some (.dK (trueK ((ls.map (·.1)).filter fun x => !decide (x ∈ fx)))) → Q (.ref l) H'
theorem putTrue {l : List Str} {x : Str} (h : x ∉ l) : putK (trueK l) (.inr x : Key) (.bl true) = trueK (l ++ [x]) := by
  rw [putK_new _ (by rw [trueK_in, if_neg h])]
  unfold trueK
  rw [List.map_append]
  rfl
theorem mov_weak {K : PySem.W.Frag} (σ : L2.St) (H : Hp) (Q : VK) (h : tMov σ H Q) : tLockE (tDc (iKeys (tVar 1)) (gName 5) (tTest (tOp (rIn K true) (tVar 5) (tVar 2))) (tVar 5) (tC (.bl true)) [5]) σ H Q := by
  obtain ⟨s0, a, s3, s4, s5, s6, s7, b, ls, fx, rfl, hL, hF, nd, hz, q⟩ := h
  have ab : b ≠ a := ne_of hF hL (by intro z; cases z)
  refine ⟨a, _, hL, trivial, fun od => ?_⟩
  obtain ⟨Hl, hlL, hlo, el⟩ : ∃ Hl, Hl a = some (.frz od (.dK (lkv ls))) ∧ (∀ b, b ≠ a → Hl b = H b) ∧ upd H a (.frz od (.dK (lkv ls))) = Hl := ⟨_, upd_same, fun b hb => upd_ne hb, rfl⟩
  rw [el]
  have hFl := (hlo b ab).trans hF
  refine ⟨_, rfl, a, od, rfl, .inl ⟨_, hlL, fun D nD => dcK_it walk_keys (fun i H' => Same Hl H' ∧ H' D = some (.dK (trueK (((ls.map (·.1)).take i).filter fun x => !decide (x ∈ fx))))) ⟨same_new nD, upd_same⟩ (fun i H' _ ⟨s', _⟩ => s' _ _ hlL) ?_ ?_⟩⟩
  · rintro i x H1 H1' hi ⟨s1, hD⟩ ⟨rfl, k, v, hk, rfl⟩
    obtain ⟨⟨sx, m⟩, hq, eq⟩ : ∃ q, ls[i]? = some q ∧ (Sum.inr q.1, V.int q.2) = (k, v) := by
      unfold lkv at hk
      rw [List.getElem?_map] at hk
      cases e : ls[i]? with
      | none => rw [e] at hk; cases hk
      | some q => rw [e] at hk; exact ⟨q, rfl, Option.some.inj hk⟩
    obtain ⟨rfl, rfl⟩ := Prod.mk.inj eq
    have hkx : (ls.map (·.1))[i]? = some sx := by rw [List.getElem?_map, hq]; rfl
    have ec := take_at hkx
    refine ⟨rfl, ?_⟩
    refine ⟨_, rfl, _, rfl, b, sts fx, rfl, .inl (SqL.of (s1 _ _ hFl)), rfl, flat_sts _, _, rfl, ?_⟩
    rw [show (if true = true then !inV (kV (Sum.inr sx)) (sts fx) else inV (kV (Sum.inr sx)) (sts fx)) = !decide (sx ∈ fx) from congrArg (!·) (inV_sts _ _)]
    rw [ec, List.filter_append]
    by_cases c : sx ∈ fx
    · rw [decide_eq_true c]
      refine ⟨s1, ?_⟩
      rw [List.filter_cons_of_neg (by simp [c]), List.filter_nil, List.append_nil]
      exact hD
    · rw [decide_eq_false c]
      have hn : sx ∉ ((ls.map (·.1)).take i).filter fun x => !decide (x ∈ fx) := fun z => not_in_take nd hkx (List.mem_filter.mp z).1
      refine ⟨_, rfl, _, .inr sx, rfl, hD, ?_, ?_⟩
      · unfold trueK
        rw [List.length_map, sizeLine_eq]
        have h1 := List.length_filter_le (fun x => !decide (x ∈ fx)) ((ls.map (·.1)).take i)
        rw [List.length_take, List.length_map] at h1
        omega
      · refine ⟨fun b o e => ?_, ?_⟩
        · rw [upd_ne (ne_of_none e nD)]; exact s1 _ _ e
        · rw [upd_same, putTrue hn, List.filter_cons_of_pos (by simp [c]), List.filter_nil]
  · rintro H1' ⟨s1', hD1'⟩
    refine ⟨s1' _ _ hlL, ?_⟩
    have DL : D ≠ a := fun e => by rw [e, hlL] at nD; cases nD
    have nDH : H D = none := by rw [← hlo D DL]; exact nD
    rw [List.take_of_length_le (by rw [List.length_map]; show ls.length ≤ (lkv ls).length; unfold lkv; rw [List.length_map]; exact Nat.le_refl _)] at hD1'
    refine q D _ nDH (fun b o e => ?_) (by rw [upd_ne DL]; exact hD1')
    by_cases hb : b = a
    · subst hb; rw [upd_same, ← e, hL]
    · rw [upd_ne hb]; exact s1' _ _ ((hlo b hb).trans e)
end GB
namespace K28
open PySem PySem.Spec L2 GB
abbrev sGI : Stmt := inClass (topS 27) 0
abbrev sMade : Stmt := topS 44
def giN : List Str := ["self", "letters", "fixed", "commuting", "facts", "letter", "place", "row"]
def spGI (C : Addr) : Sp := fun vs H Q _ => ∃ (x dx a b c d : Addr) (g : GD), vs = [.ref x, .ref a, .ref b, .ref c, .ref d] ∧ H x = some (.ins C dx []) ∧ H a = some (.dK (lkv g.letters)) ∧ H b = some (.lst (sts g.fixed)) ∧ H c = some (.lst (sts g.comm)) ∧ FactsAt (hid [x] H) d g.facts ∧ g.Wf ∧
  ∀ H', Bt [x] H H' → IsGr C H' x g → Q .non H'
/-- the ground of the package -/
def spMade (C : Addr) : Sp := fun vs H Q _ => ∃ (g : Addr) (gd : GD), vs = [.ref g] ∧ IsG H g gd ∧ gd.Wf ∧ ∀ G H', H G = none → Same H H' → IsGr C H' G gd → Q (.ref G) H'
section
variable {P : Program} {w : World} {K : PySem.W.Frag} {mg : Str → Option Value} {base : Heap} {C : Addr}
theorem scGI : FnScope giN ["self", "letters", "fixed", "commuting", "facts"] (defScope sGI) := ⟨rfl, rfl, rfl, by decide +kernel, rfl, by decide +kernel, by decide +kernel⟩
theorem scMade : FnScope ["_law_g"] ["_law_g"] (defScope sMade) := ⟨rfl, rfl, rfl, by decide +kernel, rfl, by decide +kernel, by decide +kernel⟩

theorem ok_gi {f : Addr} {fd : FuncData} {dvs : List V} {kws : List (Str × V)} (F : FunD K "__init__" "Ground.__init__" (defArgs sGI) (defBody sGI) (defScope sGI) dvs kws f fd) (T : Bl mg) (cl : Cls K C) (n1 : NoAttr K C "_facts") (n2 : NoAttr K C "_letters") (n3 : NoAttr K C "_order") (n4 : NoAttr K C "_fixed") (n5 : NoAttr K C "_commuting") (n6 : NoAttr K C "moving") (n7 : NoAttr K C "commutes") (n8 : NoAttr K C "known_ends") (n9 : NoAttr K C "places")
    (CL : Fns P w K mg base "_check_letters" 2 ["letters"] spCkL) (CF : Fns P w K mg base "_check_fixed" 2 ["letters", "fixed"] spCkF) (CC : Fns P w K mg base "_check_commuting" 2 ["letters", "fixed", "commuting"] spCkC)
    (FT : Fns P w K mg base "_facts_as_told" 4 ["letters", "fixed", "commuting", "facts"] spFT) (EB : Fns P w K mg base "_ends_by_values" 2 ["facts", "commutes"] (spEbv P w)) (PM : Fns P w K mg base "_all_permissions" 1 ["letters", "moving"] spPerm) : FnOk P w K mg base CX0 5 f fd ["self", "letters", "fixed", "commuting", "facts"] (spGI C) := by
  refine FX.FunD.ok0 F scGI (fun vs H Q E h => ?_) (fun cdv A outer s H vs Q E hr h => ?_)
  · obtain ⟨x, dx, a, b, c, d, g, rfl, _⟩ := h
    rfl
  · obtain ⟨x, dx, a, b, c, d, g, rfl, hx, hL, hF, hC, hA, wf, q⟩ := h
    refine ⟨_, pss_cons (ps_expr (pe_fn CL hr (by decide) rfl (pa_cons (pv 1) (pa_nil)))) (pss_cons (ps_expr (pe_fn CF hr (by decide) rfl (pa_cons (pv 1) (pa_cons (pv 2) (pa_nil))))) (pss_cons (ps_expr (pe_fn CC hr (by decide) rfl (pa_cons (pv 1) (pa_cons (pv 2) (pa_cons (pv 3) (pa_nil)))))) (pss_cons (ps_fld (pv 0) (pe_fn FT hr (by decide) rfl (pa_cons (pv 1) (pa_cons (pv 2) (pa_cons (pv 3) (pa_cons (pv 4) (pa_nil)))))) rfl) (pss_cons (ps_fld (pv 0) (pe_callTy (call_dictD) (by rfl) T.dict (by decide +kernel) (pa_cons (pv 1) (pa_nil))) rfl) (pss_cons (ps_fld (pv 0) (pe_callTy ((call_listD rfl)) (by rfl) T.list (by decide +kernel) (pa_cons (pv 1) (pa_nil))) rfl) (pss_cons (ps_fld (pv 0) (pe_weak (t' := tSel 2) (pe_lock (pe_lc (own := [("letter", 5)]) (g := gName 5) (tt := tTest (tOp (rIn K false) (tVar 5) (tVar 2))) rfl scGI.nd (pi_keys (pv 1)) (blkOk_by (own := [("letter", 5)]) (N := giN) (sc := defScope sGI) (by decide +kernel)) (fun _ _ _ _ _ => pg_name (i := 5) scGI.nd rfl (.inl rfl)) (fun _ _ _ _ _ => pts_one (pt_cmpR op_in_seq (pv 5) (pv 2) (by rfl))) (fun _ _ _ _ _ => pv 5))) sel_weak2) rfl) (pss_cons (ps_fld (pv 0) (pe_weak (t' := tSel 3) (pe_lock (pe_lc (own := [("letter", 5)]) (g := gName 5) (tt := tTest (tOp (rIn K false) (tVar 5) (tVar 3))) rfl scGI.nd (pi_keys (pv 1)) (blkOk_by (own := [("letter", 5)]) (N := giN) (sc := defScope sGI) (by decide +kernel)) (fun _ _ _ _ _ => pg_name (i := 5) scGI.nd rfl (.inl rfl)) (fun _ _ _ _ _ => pts_one (pt_cmpR op_in_seq (pv 5) (pv 3) (by rfl))) (fun _ _ _ _ _ => pv 5))) sel_weak3) rfl) (pss_cons (ps_fld (pv 0) (pe_weak (t' := tMov) (pe_lock (pe_dc (own := [("letter", 5)]) (g := gName 5) (tt := tTest (tOp (rIn K true) (tVar 5) (tVar 2))) (tk := tVar 5) (tv := tC (.bl true)) rfl scGI.nd (pi_keys (pv 1)) (blkOk_by (own := [("letter", 5)]) (N := giN) (sc := defScope sGI) (by decide +kernel)) (fun _ _ _ _ _ => pg_name (i := 5) scGI.nd rfl (.inl rfl)) (fun _ _ _ _ _ => pts_one (pt_cmpR op_notIn_seq (pv 5) (pv 2) (by rfl))) (fun _ _ _ _ _ => pv 5) (fun _ _ _ _ _ => pe_bl))) mov_weak) rfl) (pss_cons (ps_fld (pv 0) (pe_dc (own := [("letter", 5)]) (g := gName 5) (tt := tYes) (tk := tVar 5) (tv := tC (.bl true)) rfl scGI.nd (pi_seqW (pe_fld (pv 0) rfl)) (blkOk_by (own := [("letter", 5)]) (N := giN) (sc := defScope sGI) (by decide +kernel)) (fun _ _ _ _ _ => pg_name (i := 5) scGI.nd rfl (.inl rfl)) (fun _ _ _ _ _ => pts_nil) (fun _ _ _ _ _ => pv 5) (fun _ _ _ _ _ => pe_bl)) rfl) (pss_cons (ps_fld (pv 0) (pe_fn EB hr (by decide) rfl (pa_cons (pe_fld (pv 0) rfl) (pa_cons (pe_fld (pv 0) rfl) (pa_nil)))) rfl) (pss_one (ps_fld (pv 0) (DictT.pe_dcT (own := [("place", 6), ("row", 7)]) (g := gTup K 2 (gCons (gName 6) (gCons (gName 7) gNil))) (tt := tYes) (tk := tVar 7) (tv := tVar 6) .t (hu_of hr) rfl scGI.nd (pi_enumW rfl T.enum (pa_cons (pe_fn PM hr (by decide) rfl (pa_cons (pe_fld (pv 0) rfl) (pa_cons (pe_callTy (call_listD rfl) (by rfl) T.list (by decide +kernel) (pa_cons (pe_fld (pv 0) rfl) (pa_nil))) (pa_nil)))) pa_nil)) (blkOk_by (own := [("place", 6), ("row", 7)]) (N := giN) (sc := defScope sGI) (by decide +kernel)) (fun _ _ _ _ _ => pg_tup rfl (pgs_cons (pg_name (i := 6) scGI.nd rfl (.inl rfl)) (pgs_cons (pg_name (i := 7) scGI.nd rfl (.inl rfl)) (pgs_nil)))) (fun _ _ _ _ _ => pts_nil) (fun _ _ _ _ _ => pv 7) (fun _ _ _ _ _ => pv 6)) rfl)))))))))))), ?_⟩
    have nm : ∀ x ∈ nmA, nameB x = true := by decide +kernel
    refine ⟨_, rfl, a, g.letters, rfl, hL, wf.ne, fun q hq => ⟨nm _ (wf.nm q hq), wf.ar q hq⟩, fun H1 s1 => ?_⟩
    refine ⟨_, rfl, _, rfl, a, b, g.letters, g.fixed, rfl, s1 _ _ hL, wf.nd, s1 _ _ hF, wf.fx, fun H2 s2 => ?_⟩
    have S2 := s1.trans s2
    refine ⟨_, rfl, _, rfl, _, rfl, a, b, c, g.letters, g.fixed, g.comm, rfl, S2 _ _ hL, wf.nd, S2 _ _ hF, S2 _ _ hC, wf.fx.nodup wf.nd, wf.cm, wf.c2, fun H3 s3 => ?_⟩
    have S3 := S2.trans s3
    refine ⟨_, rfl, _, rfl, _, rfl, _, rfl, a, b, c, d, g, rfl, S3 _ _ hL, S3 _ _ hF, S3 _ _ hC, hA.mono ((hid_low _ _).trans S3), wf, fun l1 H4 nl1 s4 hl1 => ?_⟩
    have S4 := S3.trans s4
    have xa : a ≠ x := ne_of hL hx (fun z => nomatch z)
    have xb : b ≠ x := ne_of hF hx (fun z => nomatch z)
    have xc : c ≠ x := ne_of hC hx (fun z => nomatch z)
    refine ⟨_, rfl, x, C, dx, _, rfl, S4 _ _ hx, cl, n1, by show 0 < 1000; decide, ?_⟩
    obtain ⟨H5, b5, h5, B5, e5⟩ : ∃ H5, (∀ b o, b ≠ x → H4 b = some o → H5 b = some o) ∧ H5 x = some (.ins C dx (putF "_facts" (.ref l1) [])) ∧ Bt [x] H4 H5 ∧ upd H4 x (.ins C dx (putF "_facts" (.ref l1) [])) = H5 := ⟨_, fun b o z e => by rw [upd_ne z]; exact e, upd_same, bt_upd (by simp), rfl⟩
    rw [e5]
    have hL5 := b5 _ _ xa (S4 _ _ hL)
    refine ⟨_, rfl, a, _, rfl, .inl hL5, fun l2 nl2 => ?_⟩
    obtain ⟨H6, s6, h6, e6⟩ := lay (o := .dK (lkv g.letters)) nl2
    rw [e6]
    refine ⟨_, rfl, x, C, dx, _, rfl, s6 _ _ h5, cl, n2, by show 1 < 1000; decide, ?_⟩
    obtain ⟨H7, b7, h7, B7, e7⟩ : ∃ H7, (∀ b o, b ≠ x → H6 b = some o → H7 b = some o) ∧ H7 x = some (.ins C dx (putF "_letters" (.ref l2) (putF "_facts" (.ref l1) []))) ∧ Bt [x] H6 H7 ∧ upd H6 x (.ins C dx (putF "_letters" (.ref l2) (putF "_facts" (.ref l1) []))) = H7 := ⟨_, fun b o z e => by rw [upd_ne z]; exact e, upd_same, bt_upd (by simp), rfl⟩
    rw [e7]
    have x2 : l2 ≠ x := fun e => by rw [e, h5] at nl2; cases nl2
    have hL7 := b7 _ _ xa (s6 _ _ hL5)
    have h7l := b7 _ _ x2 h6
    refine ⟨_, rfl, a, _, rfl, .inl hL7, fun l3 nl3 => ?_⟩
    obtain ⟨H8, s8, h8, e8⟩ := lay (o := .lst ((lkv g.letters).map fun kv => kV kv.1)) nl3
    rw [e8]
    refine ⟨_, rfl, x, C, dx, _, rfl, s8 _ _ h7, cl, n3, by show 2 < 1000; decide, ?_⟩
    obtain ⟨H9, b9, h9, B9, e9⟩ : ∃ H9, (∀ b o, b ≠ x → H8 b = some o → H9 b = some o) ∧ H9 x = some (.ins C dx (putF "_order" (.ref l3) (putF "_letters" (.ref l2) (putF "_facts" (.ref l1) [])))) ∧ Bt [x] H8 H9 ∧ upd H8 x (.ins C dx (putF "_order" (.ref l3) (putF "_letters" (.ref l2) (putF "_facts" (.ref l1) [])))) = H9 := ⟨_, fun b o z e => by rw [upd_ne z]; exact e, upd_same, bt_upd (by simp), rfl⟩
    rw [e9]
    have B49 : Bt [x] H4 H9 := B5.trans ((bt_of s6).trans (B7.trans ((bt_of s8).trans B9)))
    have hL9 := bt_at B49 (ni1 xa) (S4 _ _ hL)
    have hF9 := bt_at B49 (ni1 xb) (S4 _ _ hF)
    have hC9 := bt_at B49 (ni1 xc) (S4 _ _ hC)
    have h9l := b9 _ _ x2 (s8 _ _ h7l)
    have l8 : g.letters.length ≤ 1000 := by
      have := wf.le
      omega
    refine ⟨_, a, _, _, _, _, _, _, b, g.letters, g.fixed, rfl, .inl ⟨rfl, rfl⟩, hL9, hF9, l8, fun l4 H10 nl4 s10 hl4 => ?_⟩
    refine ⟨_, rfl, x, C, dx, _, rfl, s10 _ _ h9, cl, n4, by show 3 < 1000; decide, ?_⟩
    obtain ⟨H11, b11, h11, B11, e11⟩ : ∃ H11, (∀ b o, b ≠ x → H10 b = some o → H11 b = some o) ∧ H11 x = some (.ins C dx (putF "_fixed" (.ref l4) (putF "_order" (.ref l3) (putF "_letters" (.ref l2) (putF "_facts" (.ref l1) []))))) ∧ Bt [x] H10 H11 ∧ upd H10 x (.ins C dx (putF "_fixed" (.ref l4) (putF "_order" (.ref l3) (putF "_letters" (.ref l2) (putF "_facts" (.ref l1) []))))) = H11 := ⟨_, fun b o z e => by rw [upd_ne z]; exact e, upd_same, bt_upd (by simp), rfl⟩
    rw [e11]
    refine ⟨_, a, _, _, _, _, _, _, c, g.letters, g.comm, rfl, .inr ⟨rfl, rfl⟩, b11 _ _ xa (s10 _ _ hL9), b11 _ _ xc (s10 _ _ hC9), l8, fun l5 H12 nl5 s12 hl5 => ?_⟩
    refine ⟨_, rfl, x, C, dx, _, rfl, s12 _ _ h11, cl, n5, by show 4 < 1000; decide, ?_⟩
    obtain ⟨H13, b13, h13, B13, e13⟩ : ∃ H13, (∀ b o, b ≠ x → H12 b = some o → H13 b = some o) ∧ H13 x = some (.ins C dx (putF "_commuting" (.ref l5) (putF "_fixed" (.ref l4) (putF "_order" (.ref l3) (putF "_letters" (.ref l2) (putF "_facts" (.ref l1) [])))))) ∧ Bt [x] H12 H13 ∧ upd H12 x (.ins C dx (putF "_commuting" (.ref l5) (putF "_fixed" (.ref l4) (putF "_order" (.ref l3) (putF "_letters" (.ref l2) (putF "_facts" (.ref l1) [])))))) = H13 := ⟨_, fun b o z e => by rw [upd_ne z]; exact e, upd_same, bt_upd (by simp), rfl⟩
    rw [e13]
    have B913 : Bt [x] H9 H13 := (bt_of s10).trans (B11.trans ((bt_of s12).trans B13))
    have lk5 : (putF "_commuting" (.ref l5) (putF "_fixed" (.ref l4) (putF "_order" (.ref l3) (putF "_letters" (.ref l2) (putF "_facts" (.ref l1) []))))).lookup ("_commuting" : Str) = some (.ref l5) := by rw [lookup_putF, if_pos rfl]
    have hL13 := b13 _ _ xa (s12 _ _ (b11 _ _ xa (s10 _ _ hL9)))
    have hF13 := b13 _ _ xb (s12 _ _ (b11 _ _ xb (s10 _ _ hF9)))
    refine ⟨_, a, _, _, _, _, _, b, g.letters, g.fixed, rfl, hL13, hF13, wf.nd, l8, fun l6 H14 nl6 s14 hl6 => ?_⟩
    refine ⟨_, rfl, x, C, dx, _, rfl, s14 _ _ h13, cl, n6, by show 5 < 1000; decide, ?_⟩
    obtain ⟨H15, b15, h15, B15, e15⟩ : ∃ H15, (∀ b o, b ≠ x → H14 b = some o → H15 b = some o) ∧ H15 x = some (.ins C dx (putF "moving" (.ref l6) (putF "_commuting" (.ref l5) (putF "_fixed" (.ref l4) (putF "_order" (.ref l3) (putF "_letters" (.ref l2) (putF "_facts" (.ref l1) []))))))) ∧ Bt [x] H14 H15 ∧ upd H14 x (.ins C dx (putF "moving" (.ref l6) (putF "_commuting" (.ref l5) (putF "_fixed" (.ref l4) (putF "_order" (.ref l3) (putF "_letters" (.ref l2) (putF "_facts" (.ref l1) []))))))) = H15 := ⟨_, fun b o z e => by rw [upd_ne z]; exact e, upd_same, bt_upd (by simp), rfl⟩
    rw [e15]
    have x5 : l5 ≠ x := fun e => by rw [e, h11] at nl5; cases nl5
    have hl5c : H15 l5 = some (.lst (sts g.comm)) := by
      rw [filter_sub (wf.cm.trans wf.fx) wf.nd] at hl5
      exact b15 _ _ x5 (s14 _ _ (b13 _ _ x5 hl5))
    refine ⟨_, rfl, x, C, dx, _, _, rfl, h15, cl, n5, (by rw [lookup_putF, if_neg (by decide +kernel), lookup_putF, if_pos rfl] : (putF "moving" (.ref l6) (putF "_commuting" (.ref l5) (putF "_fixed" (.ref l4) (putF "_order" (.ref l3) (putF "_letters" (.ref l2) (putF "_facts" (.ref l1) [])))))).lookup ("_commuting" : Str) = some (.ref l5)), l5, sts g.comm, true, [], rfl, SqL.of (hid_to (by simp) hl5c), fun J WJ l7 nl7 => ?_⟩
    refine dcK_it WJ (fun i H' => Same H15 H' ∧ H' l7 = some (.dK (trueK (g.comm.take i)))) ⟨same_new nl7, upd_same⟩ (fun i H' _ s => SqL.of (hid_to (by simp) (s.1 _ _ hl5c))) ?_ ?_
    · rintro i y H1' H2' hi ⟨sc, hD⟩ ⟨rfl, hy⟩
      obtain ⟨sy, hsy, rfl⟩ := sts_at hy
      refine ⟨rfl, ?_⟩
      have hn : sy ∉ g.comm.take i := not_in_take (wf.cm.nodup (wf.fx.nodup wf.nd)) hsy
      refine ⟨_, rfl, _, .inr sy, rfl, hD, ?_, ?_⟩
      · unfold trueK
        rw [List.length_map, List.length_take, sizeLine_eq]
        have := (wf.cm.trans wf.fx).length_le
        rw [List.length_map] at this
        omega
      · refine ⟨fun b o e => ?_, ?_⟩
        · rw [upd_ne (ne_of_none e nl7)]; exact sc _ _ e
        · rw [upd_same, putTrue hn, take_at hsy]
    rintro H16 ⟨s16, hl7⟩
    rw [List.take_of_length_le (by rw [sts_len]; exact Nat.le_refl _)] at hl7
    refine ⟨_, rfl, x, C, dx, _, rfl, s16 _ _ h15, cl, n7, by show 6 < 1000; decide, ?_⟩
    obtain ⟨H17, b17, h17, B17, e17⟩ : ∃ H17, (∀ b o, b ≠ x → H16 b = some o → H17 b = some o) ∧ H17 x = some (.ins C dx (putF "commutes" (.ref l7) (putF "moving" (.ref l6) (putF "_commuting" (.ref l5) (putF "_fixed" (.ref l4) (putF "_order" (.ref l3) (putF "_letters" (.ref l2) (putF "_facts" (.ref l1) [])))))))) ∧ Bt [x] H16 H17 ∧ upd H16 x (.ins C dx (putF "commutes" (.ref l7) (putF "moving" (.ref l6) (putF "_commuting" (.ref l5) (putF "_fixed" (.ref l4) (putF "_order" (.ref l3) (putF "_letters" (.ref l2) (putF "_facts" (.ref l1) [])))))))) = H17 := ⟨_, fun b o z e => by rw [upd_ne z]; exact e, upd_same, bt_upd (by simp), rfl⟩
    rw [e17]
    have x7 : l7 ≠ x := fun e => by rw [e, h15] at nl7; cases nl7
    have x6 : l6 ≠ x := fun e => by rw [e, h13] at nl6; cases nl6
    have x3 : l3 ≠ x := fun e => by rw [e, h7] at nl3; cases nl3
    have B417 : Bt [x] H4 H17 := B49.trans (B913.trans ((bt_of s14).trans (B15.trans ((bt_of s16).trans B17))))
    have hA17 : FactsAt H17 l1 g.facts := ((hl1.hidX (S4 _ _ hx)).mono B417).mono (hid_low _ _)
    have hl6c : H17 l6 = some (.dK (trueK ((g.letters.map (·.1)).filter fun x => !decide (x ∈ g.fixed)))) := b17 _ _ x6 (s16 _ _ (b15 _ _ x6 hl6))
    have hl3c : H17 l3 = some (.lst (sts (g.letters.map (·.1)))) := by
      rw [lkv_keys] at h8
      exact bt_at ((B9.trans B913).trans ((bt_of s14).trans (B15.trans ((bt_of s16).trans B17)))) (ni1 x3) h8
    refine ⟨_, rfl, x, C, dx, _, _, rfl, h17, cl, n1, (by rw [lookup_putF, if_neg (by decide +kernel), lookup_putF, if_neg (by decide +kernel), lookup_putF, if_neg (by decide +kernel), lookup_putF, if_neg (by decide +kernel), lookup_putF, if_neg (by decide +kernel), lookup_putF, if_neg (by decide +kernel), lookup_putF, if_pos rfl] : (putF "commutes" (.ref l7) (putF "moving" (.ref l6) (putF "_commuting" (.ref l5) (putF "_fixed" (.ref l4) (putF "_order" (.ref l3) (putF "_letters" (.ref l2) (putF "_facts" (.ref l1) []))))))).lookup ("_facts" : Str) = some (.ref l1)), _, rfl, x, C, dx, _, _, rfl, h17, cl, n7, (by rw [lookup_putF, if_pos rfl] : (putF "commutes" (.ref l7) (putF "moving" (.ref l6) (putF "_commuting" (.ref l5) (putF "_fixed" (.ref l4) (putF "_order" (.ref l3) (putF "_letters" (.ref l2) (putF "_facts" (.ref l1) []))))))).lookup ("commutes" : Str) = some (.ref l7)), l1, l7, g, rfl, hA17, b17 _ _ x7 hl7, wf, fun l8 xs H18 nl8 s18 h18d k18 p18 => ?_⟩
    refine ⟨_, rfl, x, C, dx, _, rfl, s18 _ _ h17, cl, n8, by show 7 < 1000; decide, ?_⟩
    obtain ⟨H19, b19, h19, B19, e19⟩ : ∃ H19, (∀ b o, b ≠ x → H18 b = some o → H19 b = some o) ∧ H19 x = some (.ins C dx (putF "known_ends" (.ref l8) (putF "commutes" (.ref l7) (putF "moving" (.ref l6) (putF "_commuting" (.ref l5) (putF "_fixed" (.ref l4) (putF "_order" (.ref l3) (putF "_letters" (.ref l2) (putF "_facts" (.ref l1) []))))))))) ∧ Bt [x] H18 H19 ∧ upd H18 x (.ins C dx (putF "known_ends" (.ref l8) (putF "commutes" (.ref l7) (putF "moving" (.ref l6) (putF "_commuting" (.ref l5) (putF "_fixed" (.ref l4) (putF "_order" (.ref l3) (putF "_letters" (.ref l2) (putF "_facts" (.ref l1) []))))))))) = H19 := ⟨_, fun b o z e => by rw [upd_ne z]; exact e, upd_same, bt_upd (by simp), rfl⟩
    rw [e19]
    have lm : (g.letters.map (·.1)).length ≤ 20 := by
      have := wf.le
      rw [List.length_map]
      omega
    have lm2 := List.length_filter_le (fun x => !decide (x ∈ g.fixed)) (g.letters.map (·.1))
    refine ⟨_, rfl, x, C, dx, _, _, rfl, h19, cl, n3, (by rw [lookup_putF, if_neg (by decide +kernel), lookup_putF, if_neg (by decide +kernel), lookup_putF, if_neg (by decide +kernel), lookup_putF, if_neg (by decide +kernel), lookup_putF, if_neg (by decide +kernel), lookup_putF, if_pos rfl] : (putF "known_ends" (.ref l8) (putF "commutes" (.ref l7) (putF "moving" (.ref l6) (putF "_commuting" (.ref l5) (putF "_fixed" (.ref l4) (putF "_order" (.ref l3) (putF "_letters" (.ref l2) (putF "_facts" (.ref l1) [])))))))).lookup ("_order" : Str) = some (.ref l3)), _, rfl, x, C, dx, _, _, rfl, h19, cl, n6, (by rw [lookup_putF, if_neg (by decide +kernel), lookup_putF, if_neg (by decide +kernel), lookup_putF, if_pos rfl] : (putF "known_ends" (.ref l8) (putF "commutes" (.ref l7) (putF "moving" (.ref l6) (putF "_commuting" (.ref l5) (putF "_fixed" (.ref l4) (putF "_order" (.ref l3) (putF "_letters" (.ref l2) (putF "_facts" (.ref l1) [])))))))).lookup ("moving" : Str) = some (.ref l6)), l6, _, rfl, .inl (b19 _ _ x6 (s18 _ _ hl6c)), fun lv nlv => ?_⟩
    rw [true_keys]
    obtain ⟨H20, s20, h20, e20⟩ := lay (o := .lst (sts ((g.letters.map (·.1)).filter fun x => !decide (x ∈ g.fixed)))) nlv
    rw [e20]
    refine ⟨l3, lv, _, _, rfl, s20 _ _ (b19 _ _ x3 (s18 _ _ hl3c)), h20, lm, by omega, fun lp ts H21 nlp s21 hlp rlp => ?_⟩
    have lrow := allPerms_len lm (show ((g.letters.map (·.1)).filter fun x => !decide (x ∈ g.fixed)).length ≤ 20 by omega)
    generalize hrows : allPerms (g.letters.map (·.1)) ((g.letters.map (·.1)).filter fun x => !decide (x ∈ g.fixed)) = rows at rlp lrow
    refine ⟨lp, ts.map V.ref, true, [], rfl, SqL.of (hid_to (by simp) hlp), fun J WJ l9 nl9 => ?_⟩
    refine DictT.dc_it WJ (fun i H' => Same H21 H' ∧ H' l9 = some (.dT (plK rows i))) ⟨same_new nl9, upd_same⟩ (fun i H' _ s => SqL.of (hid_to (by simp) (s.1 _ _ hlp))) ?_ ?_
    · rintro i y H1' H2' hi ⟨sc, hD⟩ ⟨Tp, y1, y2, rfl, nT, rfl, e1, e2⟩
      obtain rfl := Option.some.inj e1
      have e2 : (ts.map V.ref)[i]? = some y2 := e2
      rw [List.getElem?_map] at e2
      obtain ⟨t, htt, rfl⟩ := Option.map_eq_some_iff.mp e2
      have hir : i < rows.length := by rw [rlp.len]; exact (List.getElem?_eq_some_iff.mp htt).1
      obtain ⟨t', ht', hrt⟩ := paired_at' rlp (List.getElem?_eq_getElem hir)
      obtain rfl : t' = t := by rw [htt] at ht'; exact (Option.some.inj ht').symm
      obtain ⟨H3', s3', h3', e3'⟩ := lay (o := .tup [.int (i : Nat), .ref t']) nT
      rw [e3']
      have hrt : H21 t' = some (.tup (sts rows[i])) := hrt
      have hk : H3' t' = some (.tup (((rows[i].map Sum.inr : List Key)).map kV)) := by rw [← sts_kV]; exact s3' _ _ (sc _ _ hrt)
      have hl := plK_len rows i
      have eg : rows.getD i [] = rows[i] := by rw [List.getD_eq_getElem?_getD, List.getElem?_eq_getElem hir]; rfl
      refine ⟨Tp, _, rfl, SqT.of h3', rfl, _, _, rfl, _, _, rfl, rfl, ?_⟩
      refine ⟨rfl, ?_⟩
      refine ⟨_, rfl, _, rfl, _, DPut.t (s3' _ _ hD) hk (by rw [sizeLine_eq]; omega), fun b o e => ?_, ?_⟩
      · rw [upd_ne (ne_of_none e nl9)]; exact s3' _ _ (sc _ _ e)
      · rw [upd_same, plK, eg]
    rintro H22 ⟨s22, hl9⟩
    refine ⟨_, rfl, x, C, dx, _, rfl, s22 _ _ (s21 _ _ (s20 _ _ h19)), cl, n9, by show 8 < 1000; decide, ?_⟩
    obtain ⟨H23, b23, h23, B23, e23⟩ : ∃ H23, (∀ b o, b ≠ x → H22 b = some o → H23 b = some o) ∧ H23 x = some (.ins C dx (putF "places" (.ref l9) (putF "known_ends" (.ref l8) (putF "commutes" (.ref l7) (putF "moving" (.ref l6) (putF "_commuting" (.ref l5) (putF "_fixed" (.ref l4) (putF "_order" (.ref l3) (putF "_letters" (.ref l2) (putF "_facts" (.ref l1) [])))))))))) ∧ Bt [x] H22 H23 ∧ upd H22 x (.ins C dx (putF "places" (.ref l9) (putF "known_ends" (.ref l8) (putF "commutes" (.ref l7) (putF "moving" (.ref l6) (putF "_commuting" (.ref l5) (putF "_fixed" (.ref l4) (putF "_order" (.ref l3) (putF "_letters" (.ref l2) (putF "_facts" (.ref l1) [])))))))))) = H23 := ⟨_, fun b o z e => by rw [upd_ne z]; exact e, upd_same, bt_upd (by simp), rfl⟩
    rw [e23]
    have B1723 : Bt [x] H17 H23 := (bt_of s18).trans (B19.trans ((bt_of ((s20.trans s21).trans s22)).trans B23))
    have h17l := bt_at ((B913.trans ((bt_of s14).trans (B15.trans ((bt_of s16).trans B17)))).trans B1723) (ni1 x2) h9l
    refine q H23 ((bt_of S4).trans (B417.trans B1723)) ⟨dx, _, l2, h23, ?_, h17l, ?_⟩
    · exact (by rw [lookup_putF, if_neg (by decide +kernel), lookup_putF, if_neg (by decide +kernel), lookup_putF, if_neg (by decide +kernel), lookup_putF, if_neg (by decide +kernel), lookup_putF, if_neg (by decide +kernel), lookup_putF, if_neg (by decide +kernel), lookup_putF, if_neg (by decide +kernel), lookup_putF, if_pos rfl] : (putF "places" (.ref l9) (putF "known_ends" (.ref l8) (putF "commutes" (.ref l7) (putF "moving" (.ref l6) (putF "_commuting" (.ref l5) (putF "_fixed" (.ref l4) (putF "_order" (.ref l3) (putF "_letters" (.ref l2) (putF "_facts" (.ref l1) []))))))))).lookup ("_letters" : Str) = some (.ref l2))
    · exact (by rw [lookup_putF, if_neg (by decide +kernel), lookup_putF, if_neg (by decide +kernel), lookup_putF, if_neg (by decide +kernel), lookup_putF, if_neg (by decide +kernel), lookup_putF, if_neg (by decide +kernel), lookup_putF, if_neg (by decide +kernel), lookup_putF, if_neg (by decide +kernel), lookup_putF, if_neg (by decide +kernel), lookup_putF, if_neg (by decide +kernel)]; rfl : (putF "places" (.ref l9) (putF "known_ends" (.ref l8) (putF "commutes" (.ref l7) (putF "moving" (.ref l6) (putF "_commuting" (.ref l5) (putF "_fixed" (.ref l4) (putF "_order" (.ref l3) (putF "_letters" (.ref l2) (putF "_facts" (.ref l1) []))))))))).lookup ("parts_of" : Str) = none)
theorem ok_made {f fI : Addr} {fd fdI : FuncData} (F : Fun K "_law_made" "_law_made" sMade f fd) (MK : Mk K C fI) (FI : FnOk P w K mg base CX0 5 fI fdI ["self", "letters", "fixed", "commuting", "facts"] (spGI C)) (bI : Binds K fdI ["self", "letters", "fixed", "commuting", "facts"] []) (gC : mg "Ground" = some (.ref C)) :
    FnOk P w K mg base CX0 7 f fd ["_law_g"] (spMade C) := by
  refine F.ok scMade (fun vs H Q E h => ?_) (fun cdv A outer s H vs Q E hr h => ?_)
  · obtain ⟨g, gd, rfl, _⟩ := h
    rfl
  · obtain ⟨g, gd, rfl, hG, wf, q⟩ := h
    refine ⟨_, pss_one (ps_ret (pe_make MK FI hr rfl gC bI .nil pass0 (pa_cons (pe_dget (hu_of hr) (pv 0) (pe_str) (fun _ _ => rfl)) (pa_cons (pe_dget (hu_of hr) (pv 0) (pe_str) (fun _ _ => rfl)) (pa_cons (pe_dget (hu_of hr) (pv 0) (pe_str) (fun _ _ => rfl)) (pa_cons (pe_dget (hu_of hr) (pv 0) (pe_str) (fun _ _ => rfl)) (pa_nil))))))), ?_⟩
    obtain ⟨aL, aF, aC, aT, g1, g2, g3, g4, g5⟩ := hG.ex
    have v1 : valV [(.inr "letters", .ref aL), (.inr "fixed", .ref aF), (.inr "commuting", .ref aC), (.inr "facts", .ref aT)] (.inr "letters" : Key) = some (.ref aL) := by rfl
    have v2 : valV [(.inr "letters", .ref aL), (.inr "fixed", .ref aF), (.inr "commuting", .ref aC), (.inr "facts", .ref aT)] (.inr "fixed" : Key) = some (.ref aF) := by rfl
    have v3 : valV [(.inr "letters", .ref aL), (.inr "fixed", .ref aF), (.inr "commuting", .ref aC), (.inr "facts", .ref aT)] (.inr "commuting" : Key) = some (.ref aC) := by rfl
    have v4 : valV [(.inr "letters", .ref aL), (.inr "fixed", .ref aF), (.inr "commuting", .ref aC), (.inr "facts", .ref aT)] (.inr "facts" : Key) = some (.ref aT) := by rfl
    refine ⟨_, rfl, g, .ref aL, rfl, (by rw [← v1]; exact DGet.k (k := .inr "letters") g1), _, rfl, g, .ref aF, rfl, (by rw [← v2]; exact DGet.k (k := .inr "fixed") g1), _, rfl, g, .ref aC, rfl, (by rw [← v3]; exact DGet.k (k := .inr "commuting") g1), _, rfl, g, .ref aT, rfl, (by rw [← v4]; exact DGet.k (k := .inr "facts") g1), fun x dx nx ndx nex => ?_⟩
    have s0 : Same H (upd (upd H dx (.own x)) x (.ins C dx [])) := fun b o e => by
      rw [upd_ne (ne_of_none e nx), upd_ne (ne_of_none e ndx)]
      exact e
    have sx : Same H (hid [x] (upd (upd H dx (.own x)) x (.ins C dx []))) := same_hid_new nx s0
    refine ⟨x, dx, aL, aF, aC, aT, gd, rfl, upd_same, s0 _ _ g2, s0 _ _ g3, s0 _ _ g4, g5.mono sx, wf, fun H' B' gr => ⟨rfl, q x H' nx ((sx.trans B').trans (hid_low _ _)) gr⟩⟩
end
end K28
set_option Elab.async false
set_option linter.all false
set_option autoImplicit false
set_option maxRecDepth 100000
set_option maxHeartbeats 8000000
namespace K28
open PySem PySem.Spec L2 GB
abbrev sLt : Stmt := topS 47
def ltN : List Str := ["_law_term_here", "_law_word", "_law_is_word", "_law_begin", "_law_inner", "_law_part"]
def spLt (K : PySem.W.Frag) (z : Nat) : Sp := fun vs H Q _ => ∃ (v : V) (L : List (Str × Nat)) (ns : List Str) (t : GB.Tm), vs = [v] ∧ Dp K H v t.d ∧ (∀ q ∈ L, nameB q.1 = true) ∧ TmOk L ns t ∧ t.size ≤ z ∧ z ≤ 60 ∧ ∀ H', Same H H' → Q (.str (txS t)) H'
theorem headOp {L : List (Str × Nat)} {ns : List Str} {w n : Str} {m m' : Nat} (h : HeadOk L ns w n m) (ho : (w, m') ∈ opsW) : (w, m) ∈ opsW ∧ n = "" := by
  have : ∀ q ∈ opsW, q.1 ≠ "value" ∧ q.1 ≠ "name" ∧ q.1 ≠ "fail" ∧ q.1 ≠ "use" ∧ q.1 ≠ "bind" := by decide
  have := this _ ho
  cases h with
  | op h => exact ⟨h, rfl⟩
  | val _ => exact absurd rfl this.1
  | name _ _ => exact absurd rfl this.2.1
  | fail _ => exact absurd rfl this.2.2.1
  | use _ => exact absurd rfl this.2.2.2.1
  | bind _ _ => exact absurd rfl this.2.2.2.2
section
variable {P : Program} {w : World} {K : PySem.W.Frag} {mg : Str → Option Value} {base : Heap}
theorem scLt : FnScope ltN ["_law_term_here"] (defScope sLt) := ⟨rfl, rfl, rfl, by decide +kernel, rfl, by decide +kernel, by decide +kernel⟩
theorem lt_lc {z : Nat} {J : It} {σ : L2.St} {H1 : Hp} {D q : Addr} {vs : List V} {kb : Bool} {ks : List GB.Tm} {L : List (Str × Nat)} {Qd : Hp → Prop}
    (hσ : ∀ v, wipe ((wipe σ [5]).set 5 (some v)) [5] = wipe σ [5] ∧ ((wipe σ [5]).set 5 (some v))[5]? = some (some v))
    (nD : H1 D = none) (WJ : Walk J vs.length (fun H => SqV K (hid [] H) q vs kb) (YAt vs)) (hq : SqV K (hid [] H1) q vs kb) (hd : DpAll K H1 vs (ks.map GB.Tm.d)) (hL : ∀ q ∈ L, nameB q.1 = true) (ho : ∀ k ∈ ks, ∃ ns, TmOk L ns k) (hz : GB.Tm.sizes ks ≤ z) (hz2 : z ≤ 60)
    (done : ∀ H', Same H1 H' → H' D = some (.lst (ks.map fun k => V.str (txS k))) → Qd H') :
    ∃ W : Nat → Nat → Hp → Prop, (∃ m, W 0 m (upd H1 D (.lst []))) ∧ ∀ i m H, W i m H →
      (J.stop i H ∧ Qd H) ∨ (J.go i H ∧ ∃ Nx : Hp → Prop, (∀ H', Nx H' → ∃ m', m' < m ∧ W (i + 1) m' H') ∧ ∀ x H', J.yld i H x H' → gName 5 x (wipe σ [5]) H' fun σ2 H2 => wipe σ2 [5] = wipe σ [5] ∧ tYes σ2 H2 fun b H3 =>
        if b = true then tCall (spLt K z) [] E0 (tCons (tVar 5) tNil) σ2 H3 fun y H4 => ∃ acc, H4 D = some (.lst acc) ∧ acc.length < sizeLine ∧ Nx (upd H4 D (.lst (acc ++ [y]))) else Nx H3) := by
  have hvl : vs.length = ks.length := (dps_len hd).trans (List.length_map _)
  have h0 : ∀ {A B : Hp}, Same A B → Same (hid [] A) (hid [] B) := fun s => hid_same s
  refine lc_it WJ (fun i H' => Same H1 H' ∧ H' D = some (.lst ((ks.take i).map fun k => V.str (txS k)))) ⟨same_new nD, upd_same⟩ (fun i H' _ h => hq.mono (h0 h.1)) ?_ ?_
  · rintro i y H2 H2' hi ⟨s2, hD⟩ ⟨rfl, hyi⟩
    obtain ⟨w1, w2⟩ := hσ y
    refine ⟨w1, ?_⟩
    obtain ⟨d, hdi, Dy⟩ := dps_at hd hyi
    rw [List.getElem?_map] at hdi
    have hik : i < ks.length := by omega
    have hki : ks[i]? = some ks[i] := List.getElem?_eq_getElem hik
    rw [hki] at hdi
    obtain rfl := Option.some.inj hdi
    obtain ⟨ns, o⟩ := ho _ (List.getElem_mem hik)
    have hsz := sizes_mem (List.mem_of_getElem? hki)
    have hll := len_sizes ks
    refine ⟨_, w2, y, L, ns, ks[i], rfl, dp_mono s2 Dy, hL, o, by omega, hz2, fun H3 s3 => ?_⟩
    refine ⟨_, s3 _ _ hD, by rw [List.length_map, List.length_take, sizeLine_eq]; omega, fun b o e => ?_, ?_⟩
    · rw [upd_ne (ne_of_none e nD)]; exact s3 _ _ (s2 _ _ e)
    · rw [upd_same, take_at hki, List.map_append]
      rfl
  · rintro H3 ⟨s3, hD⟩
    rw [List.take_of_length_le (by omega)] at hD
    exact done H3 s3 hD
theorem ok_lt {f : Addr} {fd : FuncData} (F : Fun K "_law_text" "_law_text" sLt f fd) (T : Bl mg) (mgF : mg "_law_text" = some (.ref f)) (kF : PySem.W.keepIn K (.ref f) = true) (bF : Binds K fd ["_law_term_here"] []) : ∀ z : Nat, FnOk P w K mg base CX0 (1 + z) f fd ["_law_term_here"] (spLt K z) := by
  intro z
  induction z with
  | zero =>
    refine F.ok scLt (fun vs H Q E h => ?_) (fun cdv A outer s H vs Q E hr h => ?_)
    · obtain ⟨v, L, ns, t, rfl, _⟩ := h
      rfl
    · obtain ⟨v, L, ns, t, rfl, _, _, _, h, _⟩ := h
      exact absurd h (by have := size_pos t; omega)
  | succ z ih =>
    have LT : Fns P w K mg base "_law_text" (1 + z) ["_law_term_here"] (spLt K z) := ⟨f, fd, ih, mgF, kF, bF⟩
    refine F.ok scLt (fun vs H Q E h => ?_) (fun cdv A outer s H vs Q E hr h => ?_)
    · obtain ⟨v, L, ns, t, rfl, _⟩ := h
      rfl
    · obtain ⟨v, L, ns, t, rfl, hd, hL, ho, hz, hz2, q⟩ := h
      have lz : 1 + z ≤ 1 + z := by omega
      refine ⟨_, pss_cons (ps_set (i := 1) scLt.nd rfl (.inl rfl) (pe_ix ix_seq (pv 0) (pe_int) (fun _ _ => rfl))) (pss_cons (ps_if (pt_cmpR op_eq (pv 1) (pe_str) (nomark _)) (pss_one (ps_ret (pe_ix ix_seq (pv 0) (pe_int) (fun _ _ => rfl)))) (pss_nil)) (pss_cons (ps_if (pt_cmpR op_eq (pv 1) (pe_str) (nomark _)) (pss_one (ps_ret (pe_op op_add_str (pe_str) (pe_ix ix_seq (pv 0) (pe_int) (fun _ _ => rfl))))) (pss_nil)) (pss_cons (ps_if (pt_cmpR op_eq (pv 1) (pe_str) (nomark _)) (pss_one (ps_ret (pe_op op_add_str (pe_op op_add_str (pe_str) (pe_ix ix_seq (pv 0) (pe_int) (fun _ _ => rfl))) (pe_str)))) (pss_nil)) (pss_cons (ps_if (pt_cmpR op_eq (pv 1) (pe_str) (nomark _)) (pss_cons (ps_set (i := 2) scLt.nd rfl (.inl rfl) (pe_cmpR op_in_seq (pe_ix ix_seq (pv 0) (pe_int) (fun _ _ => rfl)) (pe_tup (pa_cons (pe_str) (pa_cons (pe_str) (pa_cons (pe_str) (pa_cons (pe_str) (pa_cons (pe_str) (pa_cons (pe_str) (pa_cons (pe_str) (pa_cons (pe_str) (pa_cons (pe_str) (pa_nil))))))))))) (by rfl))) (pss_one (ps_ret (pe_op op_add_str (pe_op op_add_str (pe_op op_add_str (pe_op op_add_str (pe_op op_str01 (pe_str) (pe_callTy (call_int1) (by rfl) T.int (by decide +kernel) (pa_cons (pv 2) (pa_nil)))) (pe_ix ix_seq (pv 0) (pe_int) (fun _ _ => rfl))) (pe_str)) (pe_join pe_str (pe_lc (own := [("_law_part", 5)]) (g := gName 5) (tt := tYes) rfl scLt.nd (pi_seqW (pe_ix ix_seq (pv 0) (pe_int) (fun _ _ => rfl))) (blkOk_by (own := [("_law_part", 5)]) (N := ltN) (sc := defScope sLt) (by decide +kernel)) (fun _ _ _ _ _ => pg_name (i := 5) scLt.nd rfl (.inl rfl)) (fun _ _ _ _ _ => pts_nil) (fun _ _ _ _ _ => pe_fn LT hr lz rfl (pa_cons (pv 5) (pa_nil)))))) (pe_str))))) (pss_nil)) (pss_cons (ps_set (i := 3) scLt.nd rfl (.inl rfl) (pe_op op_add (pe_int) (pe_callTy (call_int1) (by rfl) T.int (by decide +kernel) (pa_cons (pe_cmpR op_eq (pv 1) (pe_str) (nomark _)) (pa_nil))))) (pss_cons (ps_set (i := 4) scLt.nd rfl (.inl rfl) (pe_op op_cat (pe_op op_rep (pe_lst (pa_cons (pe_ix ix_seq (pv 0) (pe_int) (fun _ _ => rfl)) (pa_nil))) (pe_callTy (call_int1) (by rfl) T.int (by decide +kernel) (pa_cons (pe_cmpR op_eq (pv 1) (pe_str) (nomark _)) (pa_nil)))) (pe_lc (own := [("_law_part", 5)]) (g := gName 5) (tt := tYes) rfl scLt.nd (pi_seqW (pe_slice sl_any (pv 0) (po_some (pv 3)) po_none)) (blkOk_by (own := [("_law_part", 5)]) (N := ltN) (sc := defScope sLt) (by decide +kernel)) (fun _ _ _ _ _ => pg_name (i := 5) scLt.nd rfl (.inl rfl)) (fun _ _ _ _ _ => pts_nil) (fun _ _ _ _ _ => pe_fn LT hr lz rfl (pa_cons (pv 5) (pa_nil)))))) (pss_one (ps_ret (pe_op op_add_str (pe_op op_add_str (pe_op op_add_str (pv 1) (pe_str)) (pe_join pe_str (pv 4))) (pe_str)))))))))), ?_⟩
      cases ho with
      | @mk _ wd nm ks hH hK =>
      obtain ⟨p, vs, rfl, hV, hvd⟩ := nodeV hd (nodeD_own hH)
      have hvl : vs.length = ks.length := (dps_len hvd).trans (List.length_map _)
      have hks : ∀ k ∈ ks, ∃ ns, TmOk L ns k := fun k hk => by
        obtain ⟨i, hi⟩ := List.mem_iff_getElem?.mp hk
        exact ⟨_, hK i k hi⟩
      obtain ⟨lA, lR⟩ := txs_len hL ks hks
      rw [GB.Tm.size] at hz
      have fin : ∀ {r : Str} {H1 : Hp}, Same H H1 → cl r = txL (.mk wd nm ks) → Q (.str r) H1 := fun {r H1} s e => by rw [eq_txS e]; exact q H1 s
      have leaf : ∀ {x : Str}, wd = x → x ∈ nmd → vs = [] → SqA K H p [.str wd, .str nm] ∧ ks = [] ∧ nameB nm = true := fun {x} e hx hv => by
        subst hv
        have k0 : ks = [] := List.eq_nil_of_length_eq_zero hvl.symm
        have no : wd ∉ opsW.map (·.1) := by rw [e]; exact (show ∀ y ∈ nmd, y ∉ opsW.map (·.1) by decide) _ hx
        refine ⟨?_, k0, nameB_of hL hH no⟩
        rcases hV.kind with ⟨hw, _, hs⟩ | ⟨h, _⟩ | ⟨h, _⟩ | ⟨⟨m, h⟩, _⟩
        · exact hs
        · exact absurd (e.symm.trans h ▸ hx) (by decide)
        · exact absurd (e.symm.trans h ▸ hx) (by decide)
        · exact absurd (List.mem_map.mpr ⟨_, h, rfl⟩) no
      have l8 : ∀ {x : Str}, nameB x = true → x.length ≤ 8 := fun h => by rw [cl_len]; exact (nameB_ltr h).2.2
      have e0 : cl Str.empty = [] := rfl
      have e0l : (cl Str.empty).length = 0 := rfl
      have e1 : (cl "(").length = 1 := by decide +kernel
      have e2 : (cl ")").length = 1 := by decide +kernel
      have lsum := sum_len hL ks hks
      have lks := len_sizes ks
      have lc : ∀ {x : Str}, nameB x = true → (cl x).length ≤ 8 := fun h => (nameB_ltr h).2.2
      have wdn : (cl nm).length ≤ 8 ∨ (wd ∈ opsW.map (·.1)) := by
        by_cases c : wd ∈ opsW.map (·.1)
        · exact .inr c
        · exact .inl (lc (nameB_of hL hH c))
      rcases hV.kind with ⟨hw, hv0, hs⟩ | ⟨rfl, qq, hs, hq⟩ | ⟨rfl, hs⟩ | ⟨⟨m, hm⟩, rfl, hs⟩
      · have : ∀ x ∈ nmd, x = "value" ∨ x = "name" ∨ x = "fail" := by decide
        rcases this _ hw with rfl | rfl | rfl
        · obtain ⟨_, rfl, nb⟩ := leaf rfl hw hv0
          have := l8 nb
          refine ⟨_, rfl, ixA hs 0 rfl ⟨_, rfl, rfl, _, rfl, ?_⟩⟩
          refine iteF ?_
          refine ⟨_, rfl, rfl, _, rfl, ?_⟩
          refine iteT ?_
          refine ⟨_, rfl, ixA hs 1 rfl ⟨_, _, rfl, rfl, by show 1 + nm.length ≤ sizeLine; rw [sizeLine_eq]; omega, ?_⟩⟩
          exact fin (Same.refl _) (by rw [cl_app, txL, if_pos rfl]; rfl)
        · obtain ⟨_, rfl, nb⟩ := leaf rfl hw hv0
          refine ⟨_, rfl, ixA hs 0 rfl ⟨_, rfl, rfl, _, rfl, ?_⟩⟩
          refine iteT ?_
          refine ⟨_, rfl, ixA hs 1 rfl ?_⟩
          exact fin (Same.refl _) (by rw [txL, if_neg (by decide), if_pos rfl])
        · obtain ⟨_, rfl, nb⟩ := leaf rfl hw hv0
          have := l8 nb
          have lf : ("fail(" : Str).length = 5 := by decide +kernel
          have lp : (")" : Str).length = 1 := by decide +kernel
          refine ⟨_, rfl, ixA hs 0 rfl ⟨_, rfl, rfl, _, rfl, ?_⟩⟩
          refine iteF ?_
          refine ⟨_, rfl, rfl, _, rfl, ?_⟩
          refine iteF ?_
          refine ⟨_, rfl, rfl, _, rfl, ?_⟩
          refine iteT ?_
          refine ⟨_, rfl, ixA hs 1 rfl ⟨_, _, rfl, rfl, by rw [lf, sizeLine_eq]; omega, _, _, rfl, rfl, ?_, ?_⟩⟩
          · rw [cl_len, cl_app, List.length_append, ← cl_len, ← cl_len, lf, lp, sizeLine_eq]
            omega
          · refine fin (Same.refl _) ?_
            rw [cl_app, cl_app, txL, if_neg (by decide), if_neg (by decide), if_pos rfl]
            have e : cl "fail(" = cl "fail" ++ [40] := by decide +kernel
            rw [e, List.append_assoc, List.append_assoc]
            rfl
      · have nb : nameB nm = true := nameB_of hL hH (by decide)
        have ln := lc nb
        refine ⟨_, rfl, ixA hs 0 rfl ⟨_, rfl, rfl, _, rfl, ?_⟩⟩
        refine iteF ?_
        refine ⟨_, rfl, rfl, _, rfl, ?_⟩
        refine iteF ?_
        refine ⟨_, rfl, rfl, _, rfl, ?_⟩
        refine iteF ?_
        refine ⟨_, rfl, rfl, _, rfl, ?_⟩
        refine iteT ?_
        refine ⟨_, rfl, ixA hs 1 rfl ⟨by show 9 ≤ sizeLine; decide, fun tt ntt => ?_⟩⟩
        obtain ⟨H0, s0, h0, q0⟩ := lay (o := .tup [.str "if", .str "and", .str "or", .str "not", .str "then", .str "bind", .str "try", .str "last", .str "fail"]) ntt
        rw [q0]
        have h0' : SqT K H0 tt (sts wdsW) := SqT.of h0
        have hs0 := hs.mono s0
        refine ⟨tt, sts wdsW, rfl, .inr h0', rfl, flat_sts _, ?_⟩
        rw [show (if false = true then !inV (.str nm) (sts wdsW) else inV (.str nm) (sts wdsW)) = decide (nm ∈ wdsW) from inV_sts nm wdsW]
        have ld : ∀ k : Int, (if k = 1 then (("." : Str)) else Str.empty).length ≤ 1 := fun k => by split <;> decide +kernel
        obtain ⟨dt, hdt, cdt⟩ : ∃ dt : Str, dt = (if ((if decide (nm ∈ wdsW) = true then 1 else 0) : Int) = 1 then (("." : Str)) else Str.empty) ∧ cl dt = if nm ∈ wdsW then [46] else [] := by
          refine ⟨_, rfl, ?_⟩
          by_cases c : nm ∈ wdsW
          · rw [decide_eq_true c, if_pos rfl, if_pos rfl, if_pos c]; rfl
          · rw [decide_eq_false c, if_neg (by decide), if_neg c]; rfl
        have ldt : (cl dt).length ≤ 1 := by rw [cdt]; split <;> decide
        refine ⟨_, rfl, .inr ⟨_, rfl, ⟨_, _, rfl, rfl, (by split <;> simp), by decide +kernel, ?_⟩⟩⟩
        rw [← hdt]
        refine ⟨_, rfl, ixA hs0 1 rfl ⟨_, _, rfl, rfl, by rw [cl_len, cl_len, sizeLine_eq]; omega, ?_⟩⟩
        refine ⟨_, _, rfl, rfl, by rw [cl_len, cl_len, cl_app, List.length_append, sizeLine_eq]; omega, ?_⟩
        obtain ⟨kb, hqv⟩ := sqV ((hq.mono s0).mono (fun b o e => hid_to (ps := []) (by simp) e))
        refine ⟨⟨_, rfl⟩, _, rfl, ixA hs0 2 rfl ⟨qq, vs, kb, [], rfl, hqv, fun J WJ D nD => ?_⟩⟩
        refine lt_lc (L := L) (fun _ => ⟨rfl, rfl⟩) nD WJ hqv (dps_mono s0 hvd) hL hks (by omega) (by omega) fun H2 s2 hD => ?_
        have lj : (cl (Txt.join ", " (ks.map txS))).length ≤ 1300 := by rw [cl_join]; omega
        have ty : SqL K H2 D ((ks.map txS).map V.str) := by
          rw [List.map_map]
          exact SqL.of hD
        refine ⟨_, D, ks.map txS, rfl, rfl, .inl ty, ?_, _, _, rfl, rfl, ?_, _, _, rfl, rfl, ?_, ?_⟩
        all_goals try simp only [cl_len, cl_app, List.length_append, sizeLine_eq]
        all_goals try omega
        · have e1 : ((ks.map txS).map fun x => (cl x).length) = (ks.map txS).map (·.length) := by
            congr 1
          rw [e1, List.length_map]
          have : (cl ", ").length = 2 := by decide +kernel
          rw [this]
          omega
        · refine fin (s0.trans s2) ?_
          rw [cl_app, cl_app, cl_app, cl_app, cl_join, cdt]
          conv => rhs; rw [txL, if_neg (by decide), if_neg (by decide), if_neg (by decide), if_pos rfl]
          simp only [List.append_assoc]
          rfl
      · have nb : nameB nm = true := nameB_of hL hH (by decide)
        have ln := lc nb
        refine ⟨_, rfl, ixA hs 0 rfl ⟨_, rfl, rfl, _, rfl, ?_⟩⟩
        refine iteF ?_
        refine ⟨_, rfl, rfl, _, rfl, ?_⟩
        refine iteF ?_
        refine ⟨_, rfl, rfl, _, rfl, ?_⟩
        refine iteF ?_
        refine ⟨_, rfl, rfl, _, rfl, ?_⟩
        refine iteF ?_
        refine ⟨_, rfl, rfl, .inr ⟨_, rfl, _, _, rfl, rfl, ?_⟩⟩
        refine ⟨_, rfl, ixA hs 1 rfl ⟨by show 1 ≤ sizeLine; decide, fun l0 nl0 => ?_⟩⟩
        obtain ⟨H0, s0, h0, q0⟩ := lay (o := .lst [.str nm]) nl0
        rw [q0]
        rw [decS, decide_eq_true rfl, if_pos rfl]
        have ek : (if decide (V.str ("bind" : Str) = V.str "bind") = true then (1 : Int) else 0) = 1 := by rw [decS, decide_eq_true rfl, if_pos rfl]
        refine ⟨_, rfl, rfl, .inr ⟨_, rfl, l0, _, _, rfl, rfl, h0, by rw [ek]; decide, by rw [ek]; decide, by rw [ek]; show 1 * 1 ≤ sizeLine; decide, fun l1 nl1 => ?_⟩⟩
        obtain ⟨H1, s1, h1, q1⟩ := lay (o := .lst [.str nm]) nl1
        rw [ek, show (List.replicate (Int.toNat 1) [V.str nm]).flatten = [V.str nm] from rfl, q1]
        refine ⟨_, rfl, _, rfl, _, rfl, slH (ps := []) (fun q h => nomatch h) (((hs.mono s0).mono s1).mono (fun b o e => hid_to (ps := []) (by simp) e)) 2 fun b H2 s2 hb => ?_⟩
        obtain ⟨kb, hqv⟩ := sqV hb
        refine ⟨b, vs, kb, [], rfl, hqv, fun J WJ D nD => ?_⟩
        refine lt_lc (L := L) (fun _ => ⟨rfl, rfl⟩) nD WJ hqv (dps_mono ((s0.trans s1).trans s2) hvd) hL hks (by omega) (by omega) fun H3 s3 hD => ?_
        have hl1 := s3 _ _ (s2 _ _ h1)
        refine ⟨l1, D, _, _, rfl, rfl, hl1, hD, by rw [List.length_map, sizeLine_eq]; show 1 + ks.length ≤ 16777216; omega, fun l2 nl2 => ?_⟩
        obtain ⟨H4, s4, h4, q4⟩ := lay (o := .lst ([.str nm] ++ ks.map fun k => V.str (txS k))) nl2
        rw [q4]
        have lj : (cl (Txt.join ", " (nm :: ks.map txS))).length ≤ 1300 := by rw [cl_join1, List.length_append]; omega
        have l4 : (cl "bind").length = 4 := by decide +kernel
        have ty : SqL K H4 l2 ((nm :: ks.map txS).map V.str) := by
          rw [List.map_cons, List.map_map]
          exact SqL.of h4
        refine ⟨_, rfl, _, _, rfl, rfl, by decide +kernel, ⟨_, rfl⟩, _, rfl, _, l2, nm :: ks.map txS, rfl, rfl, .inl ty, ?_, _, _, rfl, rfl, ?_, _, _, rfl, rfl, ?_, ?_⟩
        all_goals try simp only [cl_len, cl_app, List.length_append, sizeLine_eq]
        all_goals try omega
        · have e1 : ((nm :: ks.map txS).map fun x => (cl x).length) = (nm :: ks.map txS).map (·.length) := by
            congr 1
          rw [e1, List.length_cons, List.length_map, List.map_cons, List.sum_cons, cl_len]
          have : (cl ", ").length = 2 := by decide +kernel
          rw [this]
          omega
        · refine fin ((((s0.trans s1).trans s2).trans s3).trans s4) ?_
          rw [cl_app, cl_app, cl_app, cl_join1, txL, if_neg (by decide), if_neg (by decide), if_neg (by decide), if_neg (by decide), if_pos rfl]
          simp only [List.append_assoc]
          rfl
      · obtain ⟨n1, n2, n3⟩ := ops_no _ hm
        have n1 : wd ∉ nmd := n1
        have nv : wd ≠ "value" ∧ wd ≠ "name" ∧ wd ≠ "fail" := ⟨fun e => n1 (by rw [e]; decide), fun e => n1 (by rw [e]; decide), fun e => n1 (by rw [e]; decide)⟩
        have lw : (cl wd).length ≤ 5 := (show ∀ q ∈ opsW, (cl q.1).length ≤ 5 by decide +kernel) _ hm
        have hpos : 0 < ks.length := (show ∀ q ∈ opsW, 0 < q.2 by decide) _ (headOp hH hm).1
        obtain ⟨v0, vr, rfl⟩ : ∃ v0 vr, vs = v0 :: vr := by
          cases vs with
          | nil => simp at hvl; omega
          | cons a b => exact ⟨a, b, rfl⟩
        refine ⟨_, rfl, ixA hs 0 rfl ⟨_, rfl, rfl, _, rfl, ?_⟩⟩
        rw [decS, decide_eq_false nv.2.1]
        refine iteF ?_
        refine ⟨_, rfl, rfl, _, rfl, ?_⟩
        rw [decS, decide_eq_false nv.1]
        refine iteF ?_
        refine ⟨_, rfl, rfl, _, rfl, ?_⟩
        rw [decS, decide_eq_false nv.2.2]
        refine iteF ?_
        refine ⟨_, rfl, rfl, _, rfl, ?_⟩
        rw [decS, decide_eq_false n2]
        refine iteF ?_
        refine ⟨_, rfl, rfl, .inr ⟨_, rfl, _, _, rfl, rfl, ?_⟩⟩
        refine ⟨_, rfl, ixA hs 1 rfl ⟨by show 1 ≤ sizeLine; decide, fun l0 nl0 => ?_⟩⟩
        obtain ⟨H0, s0, h0, q0⟩ := lay (o := .lst [v0]) nl0
        rw [q0]
        rw [decS, decide_eq_false n3, if_neg (by decide)]
        have ek : (if decide (V.str wd = V.str "bind") = true then (1 : Int) else 0) = 0 := by rw [decS, decide_eq_false n3, if_neg (by decide)]
        refine ⟨_, rfl, rfl, .inr ⟨_, rfl, l0, _, _, rfl, rfl, h0, by rw [ek]; decide, by rw [ek]; decide, by rw [ek]; show 1 * 0 ≤ sizeLine; decide, fun l1 nl1 => ?_⟩⟩
        obtain ⟨H1, s1, h1, q1⟩ := lay (o := .lst []) nl1
        rw [ek, show (List.replicate (Int.toNat 0) [v0]).flatten = [] from rfl, q1]
        refine ⟨_, rfl, _, rfl, _, rfl, slH (ps := []) (fun q h => nomatch h) (((hs.mono s0).mono s1).mono (fun b o e => hid_to (ps := []) (by simp) e)) 1 fun b H2 s2 hb => ?_⟩
        obtain ⟨kb, hqv⟩ := sqV hb
        refine ⟨b, v0 :: vr, kb, [], rfl, hqv, fun J WJ D nD => ?_⟩
        refine lt_lc (L := L) (fun _ => ⟨rfl, rfl⟩) nD WJ hqv (dps_mono ((s0.trans s1).trans s2) hvd) hL hks (by omega) (by omega) fun H3 s3 hD => ?_
        have hl1 := s3 _ _ (s2 _ _ h1)
        refine ⟨l1, D, _, _, rfl, rfl, hl1, hD, by rw [List.length_map, sizeLine_eq]; show 0 + ks.length ≤ 16777216; omega, fun l2 nl2 => ?_⟩
        obtain ⟨H4, s4, h4, q4⟩ := lay (o := .lst ([] ++ ks.map fun k => V.str (txS k))) nl2
        rw [q4]
        have lj : (cl (Txt.join ", " (ks.map txS))).length ≤ 1300 := by rw [cl_join]; omega
        have ty : SqL K H4 l2 ((ks.map txS).map V.str) := by
          rw [List.map_map]
          exact SqL.of h4
        refine ⟨_, rfl, _, _, rfl, rfl, by rw [cl_len, cl_len, sizeLine_eq]; omega, ⟨_, rfl⟩, _, rfl, _, l2, ks.map txS, rfl, rfl, .inl ty, ?_, _, _, rfl, rfl, ?_, _, _, rfl, rfl, ?_, ?_⟩
        all_goals try simp only [cl_len, cl_app, List.length_append, sizeLine_eq]
        all_goals try omega
        · have e1 : ((ks.map txS).map fun x => (cl x).length) = (ks.map txS).map (·.length) := by
            congr 1
          rw [e1, List.length_map]
          have : (cl ", ").length = 2 := by decide +kernel
          rw [this]
          omega
        · refine fin ((((s0.trans s1).trans s2).trans s3).trans s4) ?_
          rw [cl_app, cl_app, cl_app, cl_join, txL, if_neg nv.1, if_neg nv.2.1, if_neg nv.2.2, if_neg n2, if_neg n3]
          simp only [List.append_assoc]
          rfl
end
end K28
set_option Elab.async false
set_option linter.all false
set_option maxRecDepth 100000
set_option maxHeartbeats 4000000
/-! Two tuples of the very same things. -/
namespace GB
open PySem PySem.Spec L2 PyProof.Rows PySem.SeqAt
def simpV : V → Bool
  | .non => true
  | .bl _ => true
  | .int _ => true
  | .str _ => true
  | .ref _ => true
  | _ => false
theorem simp_eq {A : Around} {s : Shared} {v : V} {u u' : Value} (h : simpV v = true) (r : RelV v u) (r' : RelV v u') : EqAt A s u u' true := by
  cases v with
  | non => cases (show u = Value.none from r); cases (show u' = Value.none from r'); exact .same _
  | bl b => cases (show u = Value.bool b from r); cases (show u' = Value.bool b from r'); exact .same _
  | int i =>
    obtain ⟨t, rfl⟩ := (show ∃ t, u = Value.int i t from r)
    obtain ⟨t', rfl⟩ := (show ∃ t, u' = Value.int i t from r')
    have := EqAt.int_int (A := A) (s := s) i t i t'
    rwa [beq_self_eq_true] at this
  | str x =>
    obtain ⟨t, rfl⟩ := (show ∃ t, u = Value.str x t from r)
    obtain ⟨t', rfl⟩ := (show ∃ t, u' = Value.str x t from r')
    have := EqAt.str_str (A := A) (s := s) x t x t'
    rwa [beq_self_eq_true] at this
  | ref a => cases (show u = Value.ref a from r); cases (show u' = Value.ref a from r'); exact .same _
  | _ => cases h
theorem vals_idx : ∀ {xs : List V} {us : List Value}, Vals xs us → ∀ j (h : j < us.length), ∃ v, xs[j]? = some v ∧ RelV v us[j]
  | _, _, .cons r _, 0, _ => ⟨_, rfl, r⟩
  | _, _, .cons _ t, j + 1, h => vals_idx t j (by simpa using h)
def rNeI : R2 := fun x y H Q => ∃ p q xs, x = .ref p ∧ y = .ref q ∧ H p = some (.tup xs) ∧ H q = some (.tup xs) ∧ (∀ v ∈ xs, simpV v = true) ∧ Q (.bl false) H
theorem op_neI {X : Cx} (hu : X.A.units < cLine) : OpR X (compareOp .NotEq) rNeI := by
  intro pins s σ H x y v u Q I rx ry h
  obtain ⟨p, q, xs, rfl, rfl, hp, hq, hs, k⟩ := h
  cases rx
  cases ry
  obtain ⟨_, its, r1, t1⟩ := (show ObjOk X.prog X.w H s.heap p (.tup xs) from I.hok p _ hp)
  obtain ⟨_, its2, r2, t2⟩ := (show ObjOk X.prog X.w H s.heap q (.tup xs) from I.hok q _ hq)
  have e := RcNeAt.tuples (e := fun _ => true) t1 t2 hu fun j h1 h2 => by
    obtain ⟨v1, e1, q1⟩ := vals_idx r1 j (by simpa using h1)
    obtain ⟨v2, e2, q2⟩ := vals_idx r2 j (by simpa using h2)
    rw [e1] at e2
    obtain rfl := Option.some.inj e2
    exact simp_eq (hs _ (List.mem_of_getElem? e1)) (by simpa using q1) (by simpa using q2)
  have hsz : its.toArray.size = its2.toArray.size := by simp [← r1.length, ← r2.length]
  refine e X.prog X.w X.xe _ ?_
  have eb : (!((List.range (min its.toArray.size its2.toArray.size)).all (fun _ => true) && its.toArray.size == its2.toArray.size)) = false := by
    rw [hsz]; simp
  first
    | (rw [eb]; exact ⟨.bl false, H, I, rfl, k⟩)
    | (show EP X pins σ Q (.bool _) s; rw [eb]; exact ⟨.bl false, H, I, rfl, k⟩)
end GB
set_option Elab.async false
set_option linter.all false
set_option maxRecDepth 100000
set_option maxHeartbeats 4000000
/-! A ground's terms can be laid: their texts are plain, they are not deep. -/
namespace GB
open PySem PySem.Spec L2
theorem name_ok {z : Str} (h : nameB z = true) : PyData.strOk z = true := by
  unfold nameB at h
  have h2 := (Bool.and_eq_true_iff.mp h).2
  unfold PyData.strOk
  rw [Array.all_eq_true]
  intro i hi
  have hm : z.cps[i] ∈ z.cps.toList := Array.getElem_mem_toList hi
  have hs := List.all_eq_true.mp h2 _ hm
  unfold signB at hs
  have h3 := (Bool.and_eq_true_iff.mp hs).2
  have h4 : ¬ ([122] < [z.cps[i]]) := by
    intro hlt
    rw [decide_eq_true hlt] at h3
    cases h3
  have h5 : ¬ (122 < z.cps[i]) := fun hlt => h4 (List.Lex.rel hlt)
  exact decide_eq_true (by omega)
theorem ds_lay : ∀ {ds : List PyData} {m : Nat}, (∀ (i : Nat) d, ds[i]? = some d → PyData.canLay0 d = true ∧ PyData.depth d ≤ m) → PyData.canLayAll0 ds = true ∧ PyData.depthAll ds ≤ m
  | [], m, _ => ⟨rfl, Nat.zero_le _⟩
  | d :: r, m, h => by
    obtain ⟨a1, a2⟩ := h 0 d rfl
    obtain ⟨b1, b2⟩ := ds_lay (ds := r) (m := m) fun i e he => h (i + 1) e he
    refine ⟨?_, ?_⟩
    · show (PyData.canLay0 d && PyData.canLayAll0 r) = true
      rw [a1, b1]; rfl
    · show max (PyData.depth d) (PyData.depthAll r) ≤ m
      omega
theorem tm_lay {L : List (Str × Nat)} (hL : ∀ q ∈ L, PyData.strOk q.1 = true) {ns : List Str} {t : Tm} (h : TmOk L ns t) : PyData.canLay0 t.d = true ∧ PyData.depth t.d ≤ 2 * t.size := by
  induction h with
  | @mk ns w n ks hH hK ih =>
    have hks : PyData.canLayAll0 (ks.map Tm.d) = true ∧ PyData.depthAll (ks.map Tm.d) ≤ 2 * Tm.sizes ks := ds_lay fun i d hd => by
      rw [List.getElem?_map] at hd
      cases e : ks[i]? with
      | none => rw [e] at hd; cases hd
      | some k =>
        rw [e] at hd
        obtain rfl := Option.some.inj hd
        obtain ⟨a1, a2⟩ := ih i k e
        have := sizes_mem (List.mem_of_getElem? e)
        exact ⟨a1, by omega⟩
    obtain ⟨k1, k2⟩ := hks
    have hn : PyData.strOk n = true := by
      clear hK ih k1 k2
      generalize ks.length = m at hH
      cases hH with
      | val h => exact name_ok h
      | fail h => exact name_ok h
      | name h _ => exact name_ok h
      | use h => exact hL _ h
      | bind h _ => exact name_ok h
      | op h => decide +kernel
    have hw : PyData.strOk w = true := by
      clear hK ih k1 k2
      generalize ks.length = m at hH
      cases hH with
      | op h => exact (show ∀ q ∈ opsW, PyData.strOk q.1 = true by decide +kernel) _ h
      | _ => decide +kernel
    rw [d_node, Tm.size]
    unfold nodeT
    have cs : ∀ x : Str, PyData.canLay0 (.str x) = PyData.strOk x := fun x => by rw [PyData.canLay0]
    have ct : ∀ l : List PyData, PyData.canLay0 (.tuple l) = PyData.canLayAll0 l := fun l => by rw [PyData.canLay0]
    have cc : ∀ (d : PyData) (l : List PyData), PyData.canLayAll0 (d :: l) = (PyData.canLay0 d && PyData.canLayAll0 l) := fun d l => rfl
    have cn : PyData.canLayAll0 [] = true := rfl
    have es : ∀ x : Str, PyData.depth (.str x) = 0 := fun x => by rw [PyData.depth]
    have et : ∀ l : List PyData, PyData.depth (.tuple l) = PyData.depthAll l + 1 := fun l => by rw [PyData.depth]
    have ec : ∀ (d : PyData) (l : List PyData), PyData.depthAll (d :: l) = max (PyData.depth d) (PyData.depthAll l) := fun d l => rfl
    have en : PyData.depthAll [] = 0 := rfl
    split
    · simp only [cs, ct, cc, cn, es, et, ec, en, hn, hw, k1, Bool.and_self, true_and]
      omega
    · split
      · simp only [cs, ct, cc, cn, es, et, ec, en, hn, hw, k1, Bool.and_self, true_and]
        omega
      · split
        · simp only [cs, ct, cc, cn, es, et, ec, en, hn, hw, k1, Bool.and_self, true_and]
          omega
        · simp only [cs, ct, cc, cn, es, et, ec, en, hn, hw, Bool.and_self, true_and]
          omega
theorem tm_shaped {L : List (Str × Nat)} (hL : ∀ q ∈ L, PyData.strOk q.1 = true) {ns : List Str} {t : Tm} (h : TmOk L ns t) (hs : t.size ≤ 32) : SeqAt.shaped t.d = true := by
  obtain ⟨h1, h2⟩ := tm_lay hL h
  unfold SeqAt.shaped
  rw [h1, decide_eq_true (by omega)]
  rfl
end GB
set_option Elab.async false
set_option linter.all false
set_option autoImplicit false
set_option maxRecDepth 100000
set_option maxHeartbeats 16000000
namespace K28
open PySem PySem.Spec L2 GB
abbrev sLaw : Stmt := topS 53
def lawN : List Str := ["_law_script", "_law_short", "_law_turn", "_law_pool_here", "_law_g", "_law_ground_here", "_law_texts_there", "_law_text_here", "_law_found", "_law_place_here", "_law_k"]
theorem scLaw : FnScope lawN ["_law_script"] (defScope sLaw) := ⟨rfl, rfl, rfl, by decide +kernel, rfl, by decide +kernel, by decide +kernel⟩
structure LawT (P : Program) (w : World) (K : PySem.W.Frag) (mg : Str → Option Value) (base : Heap) (C : Addr) : Prop where
  T : Bl mg
  CE : Fns P w K mg base "_law_cell" 1 ["_law_script", "_law_k"] (GB.spCell K)
  PL : Fns P w K mg base "_law_pool" 1 ["_law_grain"] spPool
  TK : Fns P w K mg base "_law_take" 1 ["_law_pool_here", "_law_many"] spTake
  GR : Fns P w K mg base "_law_ground" 3 ["_law_pool_here", "_law_most"] spGround
  WG : Fns P w K mg base "_law_word_ground" 3 ["_law_pool_here"] spWg
  MD : Fns P w K mg base "_law_made" 7 ["_law_g"] (spMade C)
  TM : Fns P w K mg base "_law_term" 16 ["_law_pool_here", "_law_g", "_law_names", "_law_left"] (spTerm K 14)
  LT : Fns P w K mg base "_law_text" 41 ["_law_term_here"] (spLt K 40)
  SP : Fns P w K mg base "_law_spoilt" 3 ["_law_pool_here", "_law_text_here"] spSpo
  MT : Fns P w K mg base "_law_met" 88 ["_law_ground_here", "_law_text_here"] (spMet K C)
  PL2 : Fns P w K mg base "_law_place" 6 ["_law_text_here"] spPlace
  CH : Fns P w K mg base "checked" 85 ["ground", "thing"] (spChd K C)
theorem gr_hid28 {C : Addr} {ps : List Addr} {H : Hp} {G : Addr} {g : GD} (hl : ∀ p ∈ ps, ∃ xs, H p = some (.lst xs)) (h : IsGr C H G g) : IsGr C (hid ps H) G g := by
  obtain ⟨dx, fs, aL, h1, h2, h3, h4⟩ := h.ex
  have ni : ∀ {a : Addr} {o : HO}, H a = some o → (∀ ys, o ≠ .lst ys) → a ∉ ps := fun e n m => by
    obtain ⟨ys, e2⟩ := hl _ m
    rw [e] at e2
    exact n ys (Option.some.inj e2)
  exact ⟨dx, fs, aL, hid_to (ni h1 fun ys z => nomatch z) h1, h2, hid_to (ni h3 fun ys z => nomatch z) h3, h4⟩
theorem nmA_name {L : List (Str × Nat)} (h : ∀ q ∈ L, q.1 ∈ nmA) : ∀ q ∈ L, nameB q.1 = true := fun q hq => (show ∀ x ∈ nmA, nameB x = true by decide +kernel) _ (h q hq)
def shorts : List Str := (["", "'", ".", "(", ")", "if", "if(", "fail()", "fail(x)", "x", "x()", "'x'", ".x()", ".if()"] : List Str) ++ (["bind(v, 'x, v)", "x(v, v, v)", "abcdefghi", "abcdefgh(", "if('a, 'b)", "not('a, 'b)"] : List Str)
theorem short_ok : ∀ x ∈ shorts, (cl x).length ≤ 900 ∧ cnt (cl x) ≤ 20 := by decide +kernel
section
variable {P : Program} {w : World} {K : PySem.W.Frag} {mg : Str → Option Value} {base : Heap} {C f a : Addr} {cdv : Value}
theorem ok_law {s : Shared} {H : Hp} {ns : List Int} (Z : LawT P w K mg base C) (hr : Room 90 (callerA.deeper (PyProof.Rows.envOfC "law" (defScope sLaw) s.heap.objs.size f cdv))) (hS : SqL K H a (ns.map V.int)) :
    ∃ t, PSs (cxOf CX0 P w K mg base lawN "law" (defScope sLaw) f cdv callerA [] s H (fun _ _ _ => False)) (defBody sLaw) t ∧ t { nx := fun _ J => (V.non : V) = .bl true, rt := fun v _ => v = .bl true } (L2.start lawN [.ref a]) H := by
    obtain ⟨T, CE, PL, TK, GR, WG, MD, TM, LT, SP, MT, PL2, CH⟩ := Z
    have hu64 : (callerA.deeper (PyProof.Rows.envOfC "law" (defScope sLaw) s.heap.objs.size f cdv)).units + 64 < cLine := by have := hr.un; omega
    refine ⟨_, (show PSs (cxOf CX0 P w K mg base lawN "law" (defScope sLaw) f cdv callerA [] s H (fun _ _ _ => False)).nox (defBody sLaw) _ from (pss_cons (ps_set (i := 1) scLaw.nd rfl (.inl rfl) (pe_lst (pa_cons pe_str (pa_cons pe_str (pa_cons pe_str (pa_cons pe_str (pa_cons pe_str (pa_cons pe_str (pa_cons pe_str (pa_cons pe_str (pa_cons pe_str (pa_cons pe_str (pa_cons pe_str (pa_cons pe_str (pa_cons pe_str (pa_cons pe_str pa_nil))))))))))))))))
        (pss_cons (ps_set (i := 1) scLaw.nd rfl (.inl rfl) (pe_op op_cat (pv 1) (pe_lst (pa_cons pe_str (pa_cons pe_str (pa_cons pe_str (pa_cons pe_str (pa_cons pe_str (pa_cons pe_str pa_nil)))))))))
        (pss_cons (ps_for PassesOwn.never rfl (pi_range1 rfl T.range (pa_cons pe_int pa_nil)) (pg_name (i := 2) scLaw.nd rfl (.inl rfl)) (pss_cons (ps_set (i := 3) scLaw.nd rfl (.inr rfl) (pe_fn PL hr (by decide) rfl (pa_cons (pe_op op_add (pe_fn CE hr (by decide) rfl (pa_cons (pv 0) (pa_cons (pv 2) pa_nil))) (pv 2)) pa_nil)))
        (pss_cons (ps_set (i := 4) scLaw.nd rfl (.inr rfl) (pe_ifExp (pt_cmpR op_eq (pe_fn TK hr (by decide) rfl (pa_cons (pv 3) (pa_cons pe_int pa_nil))) pe_int (nomark _)) (pe_fn WG hr (by decide) rfl (pa_cons (pv 3) pa_nil)) (pe_fn GR hr (by decide) rfl (pa_cons (pv 3) (pa_cons pe_int pa_nil)))))
        (pss_cons (ps_set (i := 5) scLaw.nd rfl (.inl rfl) (pe_fn MD hr (by decide) rfl (pa_cons (pv 4) pa_nil)))
        (pss_cons (ps_setLc (i := 6) (own := [("_law_k", 10)]) (g := gName 10) (tt := tYes) rfl scLaw.nd rfl rfl (sw_true rfl rfl rfl (by decide +kernel)) (pi_range1 rfl T.range (pa_cons pe_int pa_nil)) (blkOk_by (own := [("_law_k", 10)]) (N := lawN) (sc := defScope sLaw) (by decide +kernel)) (fun _ _ _ _ _ => pg_name (i := 10) scLaw.nd rfl (.inl rfl)) (fun _ _ _ _ _ => pts_nil) (fun _ _ _ _ _ => (pe_fn SP hr (by decide) rfl (pa_cons (pv 3) (pa_cons (pe_fn LT hr (by decide) rfl (pa_cons (pe_fn TM hr (by decide) rfl (pa_cons (pv 3) (pa_cons (pv 4) (pa_cons (pe_tup pa_nil) (pa_cons (pe_lst (pa_cons pe_int (pa_cons pe_int pa_nil))) pa_nil))))) pa_nil)) pa_nil)))))
        (pss_one (ps_for PassesOwn.never rfl (pi_list (pe_op op_cat (pv 6) (pv 1))) (pg_name (i := 7) scLaw.nd rfl (.inl rfl)) (pss_cons (ps_par (i := 8) (j := 9) rfl scLaw.nd rfl rfl (by decide) rfl rfl (pa_cons (pe_fn MT hr (by decide) rfl (pa_cons (pv 5) (pa_cons (pv 7) pa_nil))) (pa_cons (pe_fn PL2 hr (by decide) rfl (pa_cons (pv 7) pa_nil)) pa_nil)) (by rfl))
        (pss_cons (ps_if (PW.pt (pw_and (pt_cmpR op_notN (pv 9) pe_non (nomark _)) (pw_and1 (pt_cmpR (op_neD hu64) (pv 8) (pe_tup (pa_cons pe_str (pa_cons (pv 9) pa_nil))) (nomark _))))) (pss_one (ps_ret pe_bl)) pss_nil)
        (pss_cons (ps_if (PW.pt (pw_and (pt_cmpR op_isN (pv 9) pe_non (nomark _)) (pw_and1 (pt_cmpR op_eq (pe_ix ix_seq (pv 8) (pe_int) (fun _ _ => rfl)) pe_str (nomark _))))) (pss_one (ps_ret pe_bl)) pss_nil)
        (pss_cons (ps_if (PW.pt (pw_and (pt_cmpR op_eq (pe_ix ix_seq (pv 8) (pe_int) (fun _ _ => rfl)) pe_str (nomark _)) (pw_and1 (PW.pt (pw_or (pt_cmpR op_notN (pv 9) pe_non (nomark _)) (pw_or1 (pt_cmpR op_ne (pe_fn LT hr (by decide) rfl (pa_cons (pe_ix ix_seq (pv 8) (pe_int) (fun _ _ => rfl)) pa_nil)) (pv 7) (nomark _)))))))) (pss_one (ps_ret pe_bl)) pss_nil)
        (pss_one (ps_if (PW.pt (pw_and (pt_cmpR op_eq (pe_ix ix_seq (pv 8) (pe_int) (fun _ _ => rfl)) pe_str (nomark _)) (pw_and1 (pt_cmpR (op_neD hu64) (pe_fn CH hr (by decide) rfl (pa_cons (pv 5) (pa_cons (pe_ix ix_seq (pv 8) (pe_int) (fun _ _ => rfl)) pa_nil))) (pe_ix ix_seq (pv 8) (pe_int) (fun _ _ => rfl)) (nomark _))))) (pss_one (ps_ret pe_bl)) pss_nil)))))))))))))
        (pss_one (ps_ret pe_bl)))))).nox, ?_⟩
    refine ⟨by show 14 ≤ sizeLine; decide, fun a1 na1 => ?_⟩
    obtain ⟨J1, s1, h1, e1⟩ := lay (o := .lst (sts ["", "'", ".", "(", ")", "if", "if(", "fail()", "fail(x)", "x", "x()", "'x'", ".x()", ".if()"])) na1
    rw [show upd H a1 (.lst [.str "", .str "'", .str ".", .str "(", .str ")", .str "if", .str "if(", .str "fail()", .str "fail(x)", .str "x", .str "x()", .str "'x'", .str ".x()", .str ".if()"]) = J1 from e1]
    refine ⟨_, rfl, by show 6 ≤ sizeLine; decide, fun a2 na2 => ?_⟩
    obtain ⟨J2, s2, h2, e2⟩ := lay (o := .lst (sts ["bind(v, 'x, v)", "x(v, v, v)", "abcdefghi", "abcdefgh(", "if('a, 'b)", "not('a, 'b)"])) na2
    rw [show upd J1 a2 (.lst [.str "bind(v, 'x, v)", .str "x(v, v, v)", .str "abcdefghi", .str "abcdefgh(", .str "if('a, 'b)", .str "not('a, 'b)"]) = J2 from e2]
    refine ⟨a1, a2, _, _, rfl, rfl, s2 _ _ h1, h2, by show 20 ≤ sizeLine; decide, fun a3 na3 => ?_⟩
    obtain ⟨J3, s3, h3, e3⟩ := lay (o := .lst (sts shorts)) na3
    rw [show upd J2 a3 (.lst (sts ["", "'", ".", "(", ")", "if", "if(", "fail()", "fail(x)", "x", "x()", "'x'", ".x()", ".if()"] ++ sts ["bind(v, 'x, v)", "x(v, v, v)", "abcdefghi", "abcdefgh(", "if('a, 'b)", "not('a, 'b)"])) = J3 from e3]
    refine ⟨8, rfl, by decide, by decide, for_range (lo := 0) (n := 8) (fun i σ H' => ∃ o2 o3 o4 o5 o6 o7 o8 o9 o10, σ = [some (.ref a), some (.ref a3), o2, o3, o4, o5, o6, o7, o8, o9, o10] ∧ SqL K H' a (ns.map V.int) ∧ H' a3 = some (.lst (sts shorts))) ⟨none, none, none, none, none, none, none, none, none, rfl, Same.seq ((s1.trans s2).trans s3) hS, h3⟩ ?turn ?done⟩
    case done =>
      rintro σ H' ⟨o2, o3, o4, o5, o6, o7, o8, o9, o10, rfl, _, _⟩
      exact rfl
    rintro i σ H1 hi ⟨o2, o3, o4, o5, o6, o7, o8, o9, o10, rfl, hS1, ha3⟩
    refine ⟨_, rfl, _, rfl, a, ns, i, (by rw [Int.zero_add]; rfl), hS1, fun z0 => ⟨_, rfl, _, _, rfl, rfl, _, rfl, fun p H2 np s2 P2 => ?_⟩⟩
    refine ⟨_, rfl, p, 2, 0, rfl, by decide, by decide, by decide, P2, fun r H2' hr2 B2 P2' => ?_⟩
    refine ⟨rfl, _, rfl, ?_⟩
    rw [decI]
    by_cases c : (r : Int) = 0
    focus
      rw [decide_eq_true c]
      refine iteT ?_
      refine ⟨_, rfl, p, 1, rfl, by decide, P2', fun g gd H3 B3 hG3 wf P3 => ?_⟩
      have P3 : PoolIs H3 p 501 := P3.mono (Same.refl _) (by decide)
    rotate_left
    focus
      rw [decide_eq_false c]
      refine iteF ?_
      refine ⟨_, rfl, p, 5, 1, rfl, by decide, by decide, by decide, P2', fun g gd H3 B3 hG3 wf P3 => ?_⟩
      have P3 : PoolIs H3 p 501 := P3.mono (Same.refl _) (by decide)
    all_goals
      refine ⟨_, rfl, g, gd, rfl, hG3.mono (hid_low _ _), wf, fun G H4 nG s4 gr4 => ?_⟩
      have P4 := P3.mono s4 (Nat.le_refl _)
      have nA := wf.nm
      have nL := nmA_name nA
      have a3p : a3 ≠ p := ne_of_none ha3 np
      have ha34 : H4 a3 = some (.lst (sts shorts)) := s4 _ _ (bt_at B3 (ni1 a3p) (bt_at B2 (ni1 a3p) (s2 _ _ ha3)))
      refine ⟨5, rfl, by decide, by decide, fun D nD => ?_⟩
      have Dp1 : D ≠ p := P4.ne nD
      have Da3 : a3 ≠ D := ne_of_none ha34 nD
      have toD : ∀ b o, hid [p] H4 b = some o → hid [p, D] H4 b = some o := fun b o h => by
        obtain ⟨h1, m⟩ := hid_in h
        exact hid_to (by simp only [List.mem_cons, List.not_mem_nil, or_false] at m ⊢; exact fun z => z.elim m (ne_of_none h1 nD)) h1
      have BG : IsG (hid [p, D] H4) g gd := (hG3.mono (hid_same s4)).mono toD
      have BR : IsGr C (hid [p, D] H4) G gd := (gr_hid28 (fun q hq => by rw [List.mem_singleton.mp hq]; obtain ⟨x, y, z, e, _⟩ := P4; exact ⟨_, e⟩) gr4).mono toD
      have BA : SqL K (hid [p, D] H4) a (ns.map V.int) := Same.seq (fun b o h => by
        have bp : b ≠ p := ne_of_none h np
        exact toD _ _ (hid_to (ni1 bp) (s4 _ _ (bt_at B3 (ni1 bp) (bt_at B2 (ni1 bp) (s2 _ _ h)))))) hS1
      have B3h : (hid [p, D] H4) a3 = some (.lst (sts shorts)) := hid_to (by simp [a3p, Da3]) ha34
      clear hG3 B3 B2 s2 hS1 P2 P2' P3 s4 toD ha3
      refine lc_it (n := 5) walk_range (fun j H' => Bt [p, D] H4 H' ∧ ∃ Ts : List Str, H' D = some (.lst (sts Ts)) ∧ Ts.length = j ∧ (∀ T ∈ Ts, (cl T).length ≤ 900 ∧ cnt (cl T) ≤ 20) ∧ ∃ m, m ≤ 600 + 100 * j ∧ PoolIs H' p m) ⟨bt_of (same_new nD), [], upd_same, rfl, (fun T h => nomatch h), 501, by omega, P4.mono (same_new nD) (Nat.le_refl _)⟩ (fun _ _ _ _ => trivial) ?_ ?_
      focus
        rintro j x J0 J0' hj ⟨B0, Ts, hD0, hTl, hTs, m0, hm0, P0⟩ ⟨rfl, rfl⟩
        refine ⟨rfl, ?_⟩
        refine ⟨_, rfl, _, rfl, _, rfl, by show 0 ≤ sizeLine; decide, fun e ne => ?_⟩
        obtain ⟨K1, k1, h1, q1⟩ := lay (o := .tup []) ne
        rw [q1]
        have P1 := P0.mono k1 (Nat.le_refl _)
        refine ⟨by show 2 ≤ sizeLine; decide, fun l nl => ?_⟩
        obtain ⟨K2, k2, h2, q2⟩ := lay (o := .lst [.int ((6 : Nat) : Int), .int 3]) nl
        rw [show upd K1 l (.lst [.int 6, .int 3]) = K2 from q2]
        have P2 := P1.mono k2 (Nat.le_refl _)
        have lp : l ≠ p := P1.ne nl
        have hD2 := (k1.trans k2) _ _ hD0
        have Dl : D ≠ l := ne_of_none (k1 _ _ hD0) nl
        have hG2 : IsG (hid [p, l] K2) g gd := (BG.mono B0).mono fun b' o' e' => by
          obtain ⟨e1, m1⟩ := hid_in e'
          have bp : b' ≠ p := fun z => m1 (by simp [z])
          have e2 := k1 _ _ e1
          exact hid_to (by simp [bp, ne_of_none e2 nl]) (k2 _ _ e2)
        refine ⟨p, g, e, l, gd, [], 6, 3, m0, rfl, hG2, wf, SqT.of (k2 _ _ h1), (fun m h => nomatch h), by decide, lp.symm, h2, by decide, by decide, P2, by omega, fun v t x1 u1 K4 B4 hl4 hsz hok hdp P4 => ?_⟩
        have tsz : t.size ≤ 7 := by omega
        have hD4 := bt_at B4 (by simp [Dp1, Dl]) hD2
        refine ⟨v, gd.letters, [], t, rfl, hdp, nL, hok, by omega, by decide, fun K5 k5 => ?_⟩
        have tl := txL_len nL t hok
        have tc := cnt_tx nL t hok
        refine ⟨p, txS t, m0 + 2 * t.size, rfl, by rw [cl_txS]; omega, by omega, P4.mono k5 (Nat.le_refl _), fun T' K6 hl6 hc6 B6 P6 => ?_⟩
        rw [cl_txS] at hl6 hc6
        have hD6 := bt_at B6 (ni1 Dp1) (k5 _ _ hD4)
        have B06 : Bt [p, D] J0' K6 := fun b' o' h => by
          obtain ⟨e1, m⟩ := hid_in h
          have bp : b' ≠ p := fun z => m (by simp [z])
          have e2 := k1 _ _ e1
          have e4 := bt_at B4 (by simp [bp, ne_of_none e2 nl]) (k2 _ _ e2)
          exact hid_to m (bt_at B6 (ni1 bp) (k5 _ _ e4))
        refine ⟨_, hD6, by unfold sts; rw [List.length_map, sizeLine_eq]; omega, (B0.trans B06).trans (bt_upd (by simp)), Ts ++ [T'], ?_, by rw [List.length_append, hTl]; rfl, fun T hT => ?_, m0 + 2 * t.size + 20, by omega, ?_⟩
        · rw [upd_same]
          unfold sts
          rw [List.map_append]
          rfl
        · rcases List.mem_append.mp hT with h | h
          · exact hTs T h
          · rw [List.mem_singleton.mp h]
            exact ⟨by omega, by omega⟩
        · obtain ⟨x, y, z, e, pr⟩ := P6
          exact ⟨x, y, z, by rw [upd_ne Dp1.symm]; exact e, pr⟩
      rintro H5 ⟨B5, Ts, hD5, hTl, hTs, m5, hm5, P5⟩
      have gr5 : IsGr C H5 G gd := (BR.mono B5).mono (hid_low _ _)
      have hS5 : SqL K H5 a (ns.map V.int) := Same.seq (B5.trans (hid_low _ _)) BA
      have ha35 : H5 a3 = some (.lst (sts shorts)) := (B5.trans (hid_low _ _)) _ _ B3h
      have okL : ∀ q ∈ gd.letters, PyData.strOk q.1 = true := fun q hq => name_ok (nL q hq)
      clear gr4 BG BR BA B3h B5 ha34 P4
      refine ⟨_, rfl, _, rfl, D, a3, _, _, rfl, rfl, hD5, ha35, by unfold sts; rw [List.length_map, List.length_map, hTl]; show 5 + 20 ≤ sizeLine; decide, fun L nL' => ?_⟩
      obtain ⟨H6, s6, h6, e6⟩ := lay (o := .lst (sts (Ts ++ shorts))) nL'
      rw [show upd H5 L (.lst (sts Ts ++ sts shorts)) = H6 from by rw [← e6]; unfold sts; rw [List.map_append]]
      have hAll : ∀ T ∈ Ts ++ shorts, (cl T).length ≤ 900 ∧ cnt (cl T) ≤ 20 := fun T hT => (List.mem_append.mp hT).elim (hTs T) (short_ok T)
      have gr6 := gr5.mono s6
      refine ⟨L, rfl, ⟨_, SqL.of h6⟩, ?_⟩
      refine for_it walk_list (fun j σ H' => ∃ o7 o8 o9, σ = [some (.ref a), some (.ref a3), some (.int (0 + (i : Int))), some (.ref p), some (.ref g), some (.ref G), some (.ref D), o7, o8, o9, o10] ∧ Same H6 H') ⟨_, _, _, rfl, Same.refl _⟩ (fun j σ H' _ ⟨_, _, _, _, s'⟩ => SqL.of (s' _ _ h6)) ?_ ?_
      rotate_left
      focus
        rintro σ H' ⟨o7, o8, o9, rfl, s'⟩
        exact ⟨_, _, _, _, _, _, _, _, _, rfl, Same.seq (s6.trans s') hS5, (s6.trans s') _ _ ha35⟩
      rintro j x σ H7 H7' hj ⟨o7, o8, o9, rfl, s7⟩ ⟨rfl, hx⟩
      obtain ⟨TT, hTT, rfl⟩ := sts_at hx
      obtain ⟨hlen, hcnt⟩ := hAll TT (List.mem_of_getElem? hTT)
      have gr7 := gr6.mono s7
      have hpw : plc [[[116]]] (cl TT) = whoP (pT 40 (cl TT)) := plc_who (by omega)
      refine ⟨_, rfl, _, rfl, G, gd, TT, rfl, gr7, wf.nd, by omega, by omega, fun t pf u H8 ht hok s8 hpf hu => ?_, fun k pf H8 hw s8 hpf => ?_, fun r' pb pf H8 hw s8 hpb hpf => ?_⟩
      · -- told
        obtain ⟨hR, hTx, hsz⟩ := pT_ok 40 _ _ _ ht
        rw [List.append_nil] at hTx
        have hts : t.size ≤ 21 := by have := Nat.zero_le (cnt []); omega
        have hv : plV TT = .non := by unfold plV; rw [hpw, ht]; rfl
        refine ⟨_, rfl, TT, rfl, by omega, fun H9 s9 => ?_⟩
        rw [hv]
        refine ⟨_, _, rfl, ?_⟩
        have hpf9 := s9 _ _ hpf
        have hu9 := dp_mono s9 hu
        have tc := (tm_lay okL hok).1
        have tsh := tm_shaped okL hok (by omega)
        have nn : (!decide ((V.non : V) = V.non)) = false := by rw [decide_eq_true rfl]; rfl
        have sq9 : ∀ {J : Hp}, Same H9 J → SqA K J pf [.str "told", u] := fun s => .inr (SqT.of (s _ _ hpf9))
        refine ⟨_, rfl, rfl, _, rfl, ?_⟩
        rw [nn]
        refine iteF ?_
        refine iteF ?_
        refine ⟨_, rfl, rfl, _, rfl, ?_⟩
        rw [decide_eq_true (rfl : (V.non : V) = V.non)]
        refine iteT ?_
        refine ⟨_, rfl, ixA (sq9 (Same.refl _)) 0 rfl ⟨rfl, _, rfl, ?_⟩⟩
        rw [decS, decide_eq_false (by decide)]
        refine iteF ?_
        refine ⟨_, rfl, ixA (sq9 (Same.refl _)) 0 rfl ⟨rfl, _, rfl, ?_⟩⟩
        rw [decS, decide_eq_true rfl]
        refine iteT ?_
        refine ⟨_, rfl, rfl, _, rfl, ?_⟩
        rw [nn]
        refine iteF ?_
        refine ⟨_, rfl, ixA (sq9 (Same.refl _)) 1 rfl ⟨u, gd.letters, [], t, rfl, hu9, nL, hok, by omega, by decide, fun H10 s10 => ⟨_, rfl, rfl, _, rfl, ?_⟩⟩⟩
        rw [decS, decide_eq_true (eq_txS hTx).symm]
        refine iteF ?_
        refine ⟨_, rfl, ixA (sq9 s10) 0 rfl ⟨rfl, _, rfl, ?_⟩⟩
        rw [decS, decide_eq_true rfl]
        refine iteT ?_
        have gr10 := gr7.mono ((s8.trans s9).trans s10)
        refine ⟨_, rfl, _, rfl, ixA (sq9 s10) 1 rfl ⟨G, u, gd, t, rfl, ⟨gr10, wf.nd, ⟨t.d, dp_mono s10 hu9, isTm_own hok⟩, hok, by omega⟩, fun u2 H11 s11 hu2 => ?_⟩⟩
        refine ⟨_, rfl, ixA (sq9 (s10.trans s11)) 1 rfl ⟨t.d, t.d, hu2, dp_mono (s10.trans s11) hu9, tsh, tsh, _, rfl, ?_⟩⟩
        rw [SeqAt.eqv_refl _ tc]
        refine iteF ?_
        exact ⟨_, _, _, rfl, s7.trans ((s8.trans s9).trans (s10.trans s11))⟩
      · -- refused: a text
        have hv : plV TT = .int (((cl TT).length - k : Nat) : Int) := by unfold plV; rw [hpw, hw]
        refine ⟨_, rfl, TT, rfl, by omega, fun H9 s9 => ?_⟩
        rw [hv]
        refine ⟨_, _, rfl, ?_⟩
        have hpf9 := s9 _ _ hpf
        have sq9 : ∀ {J : Hp}, Same H9 J → SqA K J pf [.str "text", .int (((cl TT).length - k : Nat) : Int)] := fun s => .inr (SqT.of (s _ _ hpf9))
        have nn : (!decide ((V.int (((cl TT).length - k : Nat) : Int) : V) = V.non)) = true := by rw [decide_eq_false (fun e => nomatch e)]; rfl
        refine ⟨_, rfl, rfl, _, rfl, ?_⟩
        rw [nn]
        refine iteT ?_
        refine ⟨_, rfl, _, rfl, by show 2 ≤ sizeLine; decide, fun e ne => ?_⟩
        obtain ⟨H10, s10, h10, e10⟩ := lay (o := .tup [.str "text", .int (((cl TT).length - k : Nat) : Int)]) ne
        rw [e10]
        have sh2 : SeqAt.shaped (.tuple [.str "text", .int (((cl TT).length - k : Nat) : Int)]) = true := by
          unfold SeqAt.shaped
          have e0 : PyData.strOk "text" = true := by decide +kernel
          simp [PyData.canLay0, PyData.canLayAll0, PyData.depth, PyData.depthAll, e0]
        refine ⟨.tuple [.str "text", .int (((cl TT).length - k : Nat) : Int)], .tuple [.str "text", .int (((cl TT).length - k : Nat) : Int)], .tup (SqT.of (s10 _ _ hpf9)) (.cons (.str _) (.cons (.int _) .nil)), .tup (SqT.of h10) (.cons (.str _) (.cons (.int _) .nil)), sh2, sh2, _, rfl, ?_⟩
        rw [SeqAt.eqv_refl _ (SeqAt.canLay_of_shaped sh2)]
        refine iteF ?_
        refine ⟨_, rfl, rfl, _, rfl, ?_⟩
        rw [decide_eq_false (fun e => nomatch e : ¬ (V.int (((cl TT).length - k : Nat) : Int) : V) = V.non)]
        refine iteF ?_
        refine iteF ?_
        refine ⟨_, rfl, ixA (sq9 s10) 0 rfl ⟨rfl, _, rfl, ?_⟩⟩
        rw [decS, decide_eq_false (by decide)]
        refine iteF ?_
        refine iteF ?_
        refine ⟨_, rfl, ixA (sq9 s10) 0 rfl ⟨rfl, _, rfl, ?_⟩⟩
        rw [decS, decide_eq_false (by decide)]
        refine iteF ?_
        refine iteF ?_
        exact ⟨_, _, _, rfl, s7.trans ((s8.trans s9).trans s10)⟩
      · -- refused: a term
        have hv : plV TT = .non := by unfold plV; rw [hpw, hw]
        refine ⟨_, rfl, TT, rfl, by omega, fun H9 s9 => ?_⟩
        rw [hv]
        refine ⟨_, _, rfl, ?_⟩
        have hpf9 := s9 _ _ hpf
        have nn : (!decide ((V.non : V) = V.non)) = false := by rw [decide_eq_true rfl]; rfl
        have sq9 : SqA K H9 pf [.str "term", .ref pb] := .inr (SqT.of hpf9)
        refine ⟨_, rfl, rfl, _, rfl, ?_⟩
        rw [nn]
        refine iteF ?_
        refine iteF ?_
        refine ⟨_, rfl, rfl, _, rfl, ?_⟩
        rw [decide_eq_true (rfl : (V.non : V) = V.non)]
        refine iteT ?_
        refine ⟨_, rfl, ixA sq9 0 rfl ⟨rfl, _, rfl, ?_⟩⟩
        rw [decS, decide_eq_false (by decide)]
        refine iteF ?_
        refine ⟨_, rfl, ixA sq9 0 rfl ⟨rfl, _, rfl, ?_⟩⟩
        rw [decS, decide_eq_false (by decide)]
        refine iteF ?_
        refine iteF ?_
        refine ⟨_, rfl, ixA sq9 0 rfl ⟨rfl, _, rfl, ?_⟩⟩
        rw [decS, decide_eq_false (by decide)]
        refine iteF ?_
        refine iteF ?_
        exact ⟨_, _, _, rfl, s7.trans (s8.trans s9)⟩
end
end K28
set_option Elab.async false
set_option linter.all false
set_option maxRecDepth 100000
set_option maxHeartbeats 8000000
/-! The end of a law whose own body asks repr: at the outer call it is known that no repr is under way. -/
namespace EndG
open PySem PySem.Spec PyProof.Rows L2 LamX
/-- a call of a def in one surrounding -/
theorem fn_at {CT : CXT} {P : Program} {w : World} {K : PySem.W.Frag} {mg : Str → Option Value} {base : Heap} {k : Nat} {f : Addr} {nm ql : Str} {par : Arguments} {body : List Stmt} {sc : Scope} {dV kV doc pm cdv ct oc : Value} {an od : Option Addr} {osl : Array (Option Value)} {N ps : List Str}
    (lk : K.lookup f = some ⟨oc, od, .func (PySem.W.fnOf nm ql par body sc dV kV doc pm an cdv ct), osl⟩) (hcd : PySem.W.codeIn K cdv ql = true) (S : FnScope N ps sc) {A : Around} {outer : List Env} {s : Shared} {H : Hp} {args : Args} {us : List Value} {vs : List V} {Q : VK} {E : XK}
    (hr : Room (k + 1) A) (e0 : Env0 P w K mg base A outer s H) (hb : BindsTo s (PySem.W.fnOf nm ql par body sc dV kV doc pm an cdv ct) args (ps.zip us)) (r : Vals vs us) (hl : vs.length = ps.length)
    (hbody : ∃ t, PSs (cxOf CT P w K mg base N ql sc f cdv A outer s H E) body t ∧ t { nx := fun _ J => Q .non J, rt := Q } (L2.start N vs) H) :
    codeAny (model P w) A (.call (.ref f) args) (CR CT outer P w H s Q E) s := by
  have kIn : K.In s.heap := e0.mod.kin.keeps fun b o e => (e0.bs b o e).1
  have nolim : s.heap.NoLimit := e0.mod.nolimit.keeps fun b o e => (e0.bs b o e).1
  have kinds : ∀ y ∈ ps.zip us, sc.names.lookup y.1 = some .local ∨ (sc.names.lookup y.1 = some .cell ∧ ((cellsFrom (s.heap.objs.size + 1) sc.names []).lookup y.1).isSome = true) := by
    rintro ⟨n, v⟩ hy
    exact (S.par n (List.of_mem_zip hy).1).elim .inl fun q => .inr ⟨q, PySem.W.cellsFrom_some _ _ _ (.inl q)⟩
  refine codeAny_call_function hr.depth (kIn _ _ lk) rfl S.co S.gen rfl (PySem.W.codeRec_of kIn hcd) (hb _ _ _ _ (wpAny_newFunctionEnv_cells S.kind kinds fun env he t x => ?_))
  subst he
  refine ⟨nolim.keeps x.toInCall.keep, codeAny_func ?_⟩
  obtain ⟨tb, ht, hq⟩ := hbody
  have I : Inv (cxOf CT P w K mg base N ql sc f cdv A outer s H E) [] (L2.start N vs) H t := inv_start S hr.hd e0 hl r x
  refine wpAny_mono (ht.run [] t (L2.start N vs) H _ I hq) (fun fl t2 hs => ?_) fun e t2 hs => hs
  cases fl with
  | ret u => obtain ⟨v, τ, J, I2, rv, q⟩ := hs; exact ⟨v, J, I2.os, I2.bare, I2.base, I2.hok, rv, q⟩
  | next => obtain ⟨τ, J, I2, q⟩ := hs; exact ⟨V.non, J, I2.os, I2.bare, I2.base, I2.hok, rfl, q⟩
  | brk => exact hs.elim fun _ z => z.elim fun _ z => z.2.elim
  | cont => exact hs.elim fun _ z => z.elim fun _ z => z.2.elim
section
variable {P : Program} {w : World} {K : PySem.W.Frag} {mg mb : Str → Option Value} {fa a : Addr} {cs : List (Addr × Addr)} {t0 : Shared} {vs : List Value} {ns : List Int}
/-- the outer call, from what is promised of it alone -/
theorem call_top (KX : K.In t0.heap) (hns : t0.heap.Ns mainGlobals mg) (hb : t0.heap.Ns builtinsNs mb) (hbb : ∀ x : Str, x ≠ "__name__" → mb x = bootBuiltins x) (hlim : t0.heap.NoLimit) (hg : t0.gens = #[])
    (hT : ∀ p ∈ cs, t0.heap.get? p.2 = some { cls := .none, data := .fields #[] }) (nT : ∀ p ∈ cs, K.lookup p.2 = none) (hC : ∀ p ∈ cs, PySem.W.CodeHd t0.heap p.1 p.2)
    (hbm : ∃ (bm : Addr) (ob : Obj), mg "__builtins__" = some (.ref bm) ∧ bm ≠ builtinsNs ∧ t0.heap.get? bm = some ob ∧ ob.cls = .type "module" ∧ ob.dict = some builtinsNs ∧ ob.data = .plain)
    (ha : t0.heap.get? a = some { cls := .type "list", data := .seq vs.toArray }) (hi : IntsAre vs ns) (hl : ns.length ≤ sizeLine)
    (F : ∀ (base : Heap) (H : Hp), K.In base → base.Ns mainGlobals mg → (∀ p ∈ cs, TabB base mg p.1 p.2) → Env0 P w K mg base callerA [] t0 H → (∀ p ∈ cs, H p.2 = some (.tbl #[])) → SqL K H a (ns.map V.int) →
      codeAny (model P w) callerA (.call (.ref fa) ⟨[.ref a], []⟩) (CR CX0 [] P w H t0 (fun v _ => v = .bl true) fun _ _ _ => False) t0) :
    codeAny (model P w) callerA (.call (.ref fa) ⟨[.ref a], []⟩) (fun r t => r = .ok (.ret (.bool true)) ∧ OldK t0.heap t.heap ∧ t.os = t0.os ∧ AllBare t.gens) t0 := by
  have rv := vals_ints hi
  have lenV := hi.length
  have tabAt : ∀ b : Addr, b ∈ cs.map (·.2) → t0.heap.get? b = some { cls := .none, data := .fields #[] } := by
    intro b hb
    obtain ⟨p, hp, rfl⟩ := List.mem_map.mp hb
    exact hT p hp
  have aNo : a ∉ cs.map (·.2) := by
    intro z
    have q := ha.symm.trans (tabAt a z)
    have d : Data.seq vs.toArray _ = Data.fields #[] := congrArg Obj.data (Option.some.inj q)
    cases d
  have inT : ∀ p ∈ cs, p.2 ∈ cs.map (·.2) := fun p hp => List.mem_map.mpr ⟨p, hp, rfl⟩
  have core : ∀ H : Hp, (∀ p ∈ cs, H p.2 = some (.tbl #[])) → (∀ b, H b = none ∨ b ∈ cs.map (·.2) ∨ ∃ o xs, H b = some (.frz o (.lst xs))) → SqL K H a (ns.map V.int) → HOk P w H t0.heap → (∀ b, H b ≠ none → b = a ∨ b ∈ cs.map (·.2)) → (H a ≠ none → K.lookup a = none) →
      codeAny (model P w) callerA (.call (.ref fa) ⟨[.ref a], []⟩) (fun r t => r = .ok (.ret (.bool true)) ∧ OldK t0.heap t.heap ∧ t.os = t0.os ∧ AllBare t.gens) t0 := by
    intro H hH hO hS hok hA hK
    have low : ∀ {b : Addr} {o : Obj}, t0.heap.get? b = some o → H b = none → (hidT t0.heap H).get? b = some o := fun e n => hidT_get e n
    have free : ∀ {b : Addr} {o : Obj}, t0.heap.get? b = some o → (∀ us n, o.data ≠ .seq us n) → o.data ≠ .fields #[] → H b = none := by
      intro b o e h1 h2
      by_cases q : H b = none
      · exact q
      · rcases hA b q with z | z
        · rw [z, ha] at e
          cases e
          exact absurd rfl (h1 _ _)
        · rw [tabAt b z] at e
          cases e
          exact absurd rfl h2
    have lowNs : ∀ {b : Addr} {m : Str → Option Value}, t0.heap.Ns b m → (hidT t0.heap H).Ns b m := by
      rintro b m ⟨o, es, ep, e, d, r⟩
      exact ⟨o, es, ep, low e (free e (fun us n z => by rw [d] at z; cases z) fun z => by rw [d] at z; cases z), d, r⟩
    have hKb : K.In (hidT t0.heap H) := by
      intro b o e
      refine low (KX b o e) ?_
      by_cases q : H b = none
      · exact q
      · rcases hA b q with z | z
        · subst z
          rw [hK q] at e
          cases e
        · obtain ⟨p, hp, rfl⟩ := List.mem_map.mp z
          rw [nT p hp] at e
          cases e
    have hM : L2.Mod K mg (hidT t0.heap H) := ⟨hKb, lowNs hns, ⟨mb, lowNs hb, hbb⟩, let ⟨mc, h1, h2⟩ := hlim; ⟨mc, lowNs h1, h2⟩⟩
    have TB : ∀ p ∈ cs, TabB (hidT t0.heap H) mg p.1 p.2 := by
      intro p hp
      refine ⟨?_, ?_, ?_⟩
      · obtain ⟨o, us, file, tf, flags, tg, inF, text, tt, e1, r1, r2, r3, rest⟩ := hC p hp
        refine ⟨o, us, file, tf, flags, tg, inF, text, tt, low e1 (free e1 (fun us n z => by rw [r2] at z; cases z) fun z => ?_), r1, r2, r3, rest⟩
        rw [r2] at z
        cases z
        simp at r3
      · obtain ⟨bm, ob, b1, b2, b3, b4, b5, b6⟩ := hbm
        refine ⟨bm, ob, b1, b2, fun q => ?_, fun q => ?_, low b3 (free b3 (fun us n z => by rw [b6] at z; cases z) fun z => by rw [b6] at z; cases z), b4, b5, b6⟩
        · obtain ⟨o, es, ep, e, hd, _⟩ := hns
          rw [q, e] at b3
          cases b3
          rw [hd] at b6
          cases b6
        · rw [q, hT p hp] at b3
          cases b3
          cases b6
      · intro z
        obtain ⟨o, es, ep, e, hd, _⟩ := hns
        rw [z, hT p hp] at e
        cases e
        cases hd
    have e0 : Env0 P w K mg (hidT t0.heap H) callerA [] t0 H := ⟨rfl, hM, fun b o e => of_hidT e, Nat.le_of_eq (hidT_size _ _), trivial, fun b hb => absurd (show b ∈ ([] : List Addr) from hb) (by simp), hok, .of_eq hg⟩
    refine codeAny_mono (F _ H hKb (lowNs hns) TB e0 hH hS) fun r t h => ?_
    cases r with
    | error e => exact False.elim h
    | ok fl =>
      cases fl with
      | next => exact False.elim h
      | brk => exact False.elim h
      | cont => exact False.elim h
      | ret u =>
        obtain ⟨v, J, os, bare, un, hok2, rr, q⟩ := h
        have q2 : v = .bl true := q
        subst q2
        obtain rfl : u = Value.bool true := rr
        have stays : ∀ b o, b ∉ cs.map (·.2) → t0.heap.get? b = some o → t.heap.get? b = some o := by
          intro b o nb e
          by_cases hn : H b = none
          · exact un.keep b o e hn (by intro z; exact absurd (show b ∈ ([] : List Addr) from z) (by simp)) (by simp)
          · rcases hO b with z | z | ⟨ob, xs, z⟩
            · exact absurd z hn
            · exact absurd z nb
            · obtain ⟨e1, _⟩ := hok b _ z
              obtain ⟨e2, _⟩ := hok2 b _ (un.frzs b ob _ z)
              rw [e] at e1
              cases e1
              exact e2
        have grow : ∀ p ∈ cs, ∃ more : Array Value, t.heap.get? p.2 = some { cls := .none, data := .fields more } := by
          intro p hp
          obtain ⟨more, z⟩ := un.tbls p.2 #[] (hH p hp)
          exact ⟨_, hok2 p.2 _ z⟩
        refine ⟨rfl, ⟨fun b o e => ?_, fun b o e => ?_⟩, os, bare⟩
        · by_cases hbT : b ∈ cs.map (·.2)
          · obtain ⟨p, hp, rfl⟩ := List.mem_map.mp hbT
            obtain ⟨more, hm⟩ := grow p hp
            rw [hT p hp] at e
            cases e
            exact .inr (.inl ⟨((hC p hp).tab (hT p hp)).isCodeTable, rfl, #[], more, rfl, by rw [Array.empty_append]; exact hm⟩)
          · exact .inl (stays b o hbT e)
        · by_cases hbT : b ∈ cs.map (·.2)
          · obtain ⟨p, hp, rfl⟩ := List.mem_map.mp hbT
            obtain ⟨more, hm⟩ := grow p hp
            exact ⟨_, hm⟩
          · exact ⟨o, stays b o hbT e⟩
  cases hk : K.lookup a with
  | some o =>
    have e := (KX a o hk).symm.trans ha
    cases e
    refine core (fun b => if b ∈ cs.map (·.2) then some (.tbl #[]) else none) (fun p hp => if_pos (inT p hp)) (fun b => ?_) (.inr ⟨_, vs.toArray, _, hk, rfl, rfl, rfl, by rw [List.size_toArray, lenV]; exact hl, by simpa using rv⟩) (fun b u z => ?_) (fun b z => ?_) fun z => absurd (show (if a ∈ cs.map (·.2) then some (HO.tbl #[]) else none) = none from if_neg aNo) z
    · by_cases hbT : b ∈ cs.map (·.2)
      · exact .inr (.inl hbT)
      · exact .inl (if_neg hbT)
    · by_cases hbT : b ∈ cs.map (·.2)
      · cases (if_pos hbT).symm.trans z
        exact tabAt b hbT
      · cases (if_neg hbT).symm.trans z
    · by_cases hbT : b ∈ cs.map (·.2)
      · exact .inr hbT
      · exact absurd (if_neg hbT) z
  | none =>
    refine core (fun b => if b = a then some (.frz { cls := .type "list", data := .seq vs.toArray } (.lst (ns.map V.int))) else if b ∈ cs.map (·.2) then some (.tbl #[]) else none)
      (fun p hp => (if_neg (show ¬ p.2 = a from fun z => aNo (by rw [← z]; exact inT p hp))).trans (if_pos (inT p hp))) (fun b => ?_) (.inl (.inr ⟨{ cls := .type "list", data := .seq vs.toArray }, if_pos rfl⟩)) (fun b u z => ?_) (fun b z => ?_) fun _ => hk
    · by_cases h1 : b = a
      · exact .inr (.inr ⟨_, _, if_pos h1⟩)
      · by_cases hbT : b ∈ cs.map (·.2)
        · exact .inr (.inl hbT)
        · exact .inl ((if_neg h1).trans (if_neg hbT))
    · by_cases h1 : b = a
      · cases (if_pos h1).symm.trans z
        rw [h1]
        exact ⟨ha, by rw [List.length_map]; exact hl, vs, _, rv, ha⟩
      · have z1 := (if_neg h1).symm.trans z
        by_cases hbT : b ∈ cs.map (·.2)
        · cases (if_pos hbT).symm.trans z1
          exact tabAt b hbT
        · cases (if_neg hbT).symm.trans z1
    · by_cases h1 : b = a
      · exact .inl h1
      · by_cases hbT : b ∈ cs.map (·.2)
        · exact .inr hbT
        · exact absurd ((if_neg h1).trans (if_neg hbT)) z
end
/-- what is known of the law at the head's heap h: its body's promise, in the outer call's surrounding -/
def LawG (l : PySem.W.OpenLaw) (w : World) (K : PySem.W.Frag) (k n : Nat) (x : Str) (N : List Str) (mg : Str → Option Value) (fa : Addr) (h : Heap) : Prop :=
  ∃ (cs : List (Addr × Addr)) (nm ql : Str) (par : Arguments) (body : List Stmt) (sc : Scope) (dV kV doc pm cdv ct oc : Value) (an od : Option Addr) (osl : Array (Option Value)), K.lookup fa = some ⟨oc, od, .func (PySem.W.fnOf nm ql par body sc dV kV doc pm an cdv ct), osl⟩ ∧ PySem.W.codeIn K cdv ql = true ∧ FnScope N [x] sc ∧
    (∀ p ∈ cs, h.get? p.2 = some { cls := .none, data := .fields #[] }) ∧ (∀ p ∈ cs, K.lookup p.2 = none) ∧ (∀ p ∈ cs, PySem.W.CodeHd h p.1 p.2) ∧ (∀ (s : Shared) (u : Value), BindsTo s (PySem.W.fnOf nm ql par body sc dV kV doc pm an cdv ct) ⟨[u], []⟩ [(x, u)]) ∧
    ∀ (base : Heap) (t : Shared) (H : Hp) (a : Addr) (ns : List Int), K.In base → base.Ns mainGlobals mg → (∀ p ∈ cs, TabB base mg p.1 p.2) → ns.length ≤ n → (∀ p ∈ cs, H p.2 = some (.tbl #[])) → SqL K H a (ns.map V.int) → Room k (callerA.deeper (envOfC ql sc t.heap.objs.size fa cdv)) →
      ∃ tb, PSs (cxOf CX0 l.prog w K mg base N ql sc fa cdv callerA [] t H fun _ _ _ => False) body tb ∧ tb { nx := fun _ J => (V.non : V) = .bl true, rt := fun v _ => v = .bl true } (L2.start N [.ref a]) H
theorem walk_g {l : PySem.W.OpenLaw} {n k : Nat} {q : Program} {loose : List Str} {XP : (Str → Option Value) → Heap → Prop} {YP : World → Heap → Prop} {d : DefRec} {K : Params → PySem.W.Frag} {x : Str} {N : List Str}
    (hn : l.most = some n) (hn2 : n ≤ sizeLine) (hdf : d.params.defaults = []) (hr : Room (k + 1) callerA) (hrec : ((recsOf q).any fun e => e.name == d.name) = true) (hY : ∀ (w : World) (h : Heap), YP w h → (K w.params).In h)
    (F : ∀ (w : World) (mg : Str → Option Value) (fa : Addr) (h : Heap), (K w.params).In h → h.Ns mainGlobals mg → mg d.name = some (.ref fa) → OwnTab (K w.params) fa h → LawG l w (K w.params) k n x N mg fa h) :
    PySem.W.WalkO q loose XP YP l.row.toRowW d [] (fun f vs => PySem.call f vs) := by
  refine Att.attach_callB hn hdf fun w s₀ s₁ mg mb fa o pm cd doc a vs ns G Y ho hd hcd hmg hobj hints hlen hbits hg => ?_
  have KX := hY w _ Y
  have own : OwnTab (K w.params) fa s₁.heap := by
    intro c P o1 fd1 e dd vs1 sl k1 k2 k3 k4 k5
    obtain ⟨dL, hm, hn1⟩ := List.any_eq_true.mp hrec
    obtain ⟨a', o', fd', c', P', h1, h2, h3, h4, h5, ⟨oc, vc, e1, _, e3, e4⟩, hP⟩ := G.T.tab dL hm
    rw [show dL.name = d.name from beq_iff_eq.mp hn1, hmg] at h1
    cases h1
    cases (KX _ _ k1).symm.trans h2
    cases k2.symm.trans h3
    cases k3.symm.trans h4
    cases (KX _ _ k4).symm.trans e1
    cases e3
    cases k5.symm.trans e4
    exact hP
  obtain ⟨cs, nm, ql, par, body, sc, dV, kV, doc2, pm2, cdv, ct, oc, an, od, osl, lk, hcd2, S, hT, nT, hC, hbd, hF⟩ := F w mg fa _ KX G.T.g hmg own
  refine call_top KX G.T.g G.T.b G.T.builtins G.T.nolimit hg hT nT hC G.T.bmain hobj hints (Nat.le_trans hlen hn2) fun base H KB GB TB e0 hH hS => ?_
  exact fn_at (us := [.ref a]) (vs := [.ref a]) lk hcd2 S hr e0 (hbd _ _) (.cons rfl .nil) rfl (hF base s₁ H a ns KB GB TB hlen hH hS (hr.deeper _))
end EndG
set_option Elab.async false
set_option linter.all false
set_option maxRecDepth 100000
set_option maxHeartbeats 8000000
namespace K28
open PySem PySem.Spec L2 GB LamX
def noDB (K : PySem.W.Frag) (d : Addr) (l : List Str) : Bool := l.all fun x => He.eqO (PySem.W.nsIn K d x) (some none)
def emptyT (K : PySem.W.Frag) (a : Addr) : Bool := match K.lookup a with
  | some o => (match o.cls with
    | .type t => (t == "tuple") && (match o.data with
      | .seq its _ => its.isEmpty
      | _ => false)
    | _ => false)
  | none => false
theorem emptyT_ok {K : PySem.W.Frag} {a : Addr} (h : emptyT K a = true) : ∀ H, SqT K H a [] := by
  unfold emptyT at h
  split at h
  · rename_i o ho
    split at h
    · rename_i t ht
      obtain ⟨h1, h2⟩ := Bool.and_eq_true_iff.mp h
      split at h2
      · rename_i its n hd
        have e := Array.isEmpty_iff.mp h2
        subst e
        exact fun H => .inr ⟨o, #[], n, ho, by rw [ht, beq_iff_eq.mp h1], hd, Nat.zero_le _, .nil⟩
      · cases h2
    · cases h
  · cases h
def dflE (K : PySem.W.Frag) (dV : Value) : Bool := match dV with
  | .ref T => (match K.lookup T with
    | some ⟨_, _, .seq its _, _⟩ => (match its.toList with
      | [.ref a, .ref b, .ref c] => emptyT K a && (emptyT K b && emptyT K c)
      | _ => false)
    | _ => false)
  | _ => false
theorem dflE_ok {K : PySem.W.Frag} {dV : Value} (h : dflE K dV = true) : ∃ a b c, DflV K dV [.ref a, .ref b, .ref c] ∧ (∀ H, SqT K H a []) ∧ (∀ H, SqT K H b []) ∧ ∀ H, SqT K H c [] := by
  unfold dflE at h
  split at h
  · rename_i T
    split at h
    · rename_i oc od its n sl ho
      split at h
      · rename_i a b c hi
        obtain ⟨h1, h2⟩ := Bool.and_eq_true_iff.mp h
        obtain ⟨h3, h4⟩ := Bool.and_eq_true_iff.mp h2
        refine ⟨a, b, c, .inr ⟨List.cons_ne_nil _ _, T, _, its.toList, n, rfl, ho, by simp, ?_⟩, emptyT_ok h1, emptyT_ok h3, emptyT_ok h4⟩
        rw [hi]
        exact .cons rfl (.cons rfl (.cons rfl .nil))
      · cases h
    · cases h
  · cases h
def onlyB (K : PySem.W.Frag) (d : Addr) (keys : List Str) : Bool := match K.lookup d with
  | some ⟨_, _, .dict es _, _⟩ => es.toList.all fun e => match e.key with
    | .str s _ => decide (s ∈ keys)
    | _ => false
  | _ => false
theorem onlyB_ok {K : PySem.W.Frag} {d : Addr} {keys : List Str} (h : onlyB K d keys = true) {x : Str} (hx : x ∉ keys) : PySem.W.nsIn K d x = some none := by
  unfold onlyB at h
  split at h
  · rename_i oc od es n sl hl
    have key : ∀ e ∈ es.toList, e.key.isStr x = false ∧ e.refKey = false := fun e he => by
      have h1 := List.all_eq_true.mp h e he
      unfold DictEntry.refKey
      split at h1
      · rename_i s t hk
        rw [hk]
        refine ⟨?_, rfl⟩
        show (s == x) = false
        exact beq_eq_false_iff_ne.mpr fun z => hx (z ▸ of_decide_eq_true h1)
      · cases h1
    have f1 : es.toList.find? (fun e => e.key.isStr x) = none := List.find?_eq_none.mpr fun e he => by rw [(key e he).1]; exact Bool.false_ne_true
    have f2 : es.toList.any (fun e => e.refKey) = false := List.any_eq_false.mpr fun e he => by rw [(key e he).2]; exact Bool.false_ne_true
    unfold PySem.W.nsIn
    rw [hl]
    simp only [f1, f2]
    rfl
  · cases h
theorem ops_none {x : Str} (h : opsW.lookup x = none) : x ∉ opsW.map (·.1) := fun z => by
  have : ∀ w ∈ opsW.map (·.1), opsW.lookup w ≠ none := by decide +kernel
  exact this x z h
theorem sc_tx : FnScope ["self", "place"] ["self", "place"] (defScope (inClass (topS 7) 0)) := ⟨rfl, rfl, rfl, by decide +kernel, rfl, by decide +kernel, by decide +kernel⟩
theorem sc_bt : FnScope ["self", "path"] ["self", "path"] (defScope (inClass (topS 6) 0)) := ⟨rfl, rfl, rfl, by decide +kernel, rfl, by decide +kernel, by decide +kernel⟩
theorem all_mk {l : PySem.W.OpenLaw} {w : World} {K : PySem.W.Frag} {h : Heap} {mg : Str → Option Value} {fa C CB CT CS a_tb f_isL f_isN f_isNm f_chd f_chk f_par f_isU f_rd f_wh f_ckL f_ckF f_ckC f_ft f_isF f_te f_ebv f_out f_perm f_cell f_pool f_take f_mixed f_one f_ground f_made f_term f_wg f_lt f_wd f_st f_plc f_spo f_met f_s0 f_s1 f_s2 f_s3 f_s4 f_s5 f_s6 f_s7 f_prt f_gi f_bt f_tx f_law : Addr} (X : K.In h) (G : h.Ns mainGlobals mg) (hfa : mg "law" = some (.ref fa)) (own : OwnTab K fa h)
    (aC : PySem.W.nsIn K mainGlobals "Ground" = some (some (.ref C)))
    (d_isL : PySem.W.nsIn K mainGlobals "is_list" = some (some (.ref f_isL)))
    (F_isL : ∃ fd, Fun K "is_list" "is_list" (topS 10) f_isL fd)
    (d_isN : PySem.W.nsIn K mainGlobals "is_number" = some (some (.ref f_isN)))
    (F_isN : ∃ fd, Fun K "is_number" "is_number" (topS 11) f_isN fd)
    (d_isNm : PySem.W.nsIn K mainGlobals "is_name" = some (some (.ref f_isNm)))
    (F_isNm : ∃ fd, Fun K "is_name" "is_name" (topS 12) f_isNm fd)
    (d_chd : PySem.W.nsIn K mainGlobals "checked" = some (some (.ref f_chd)))
    (F_chd : ∃ fd, Fun K "checked" "checked" (topS 16) f_chd fd)
    (d_chk : PySem.W.nsIn K mainGlobals "checked_within" = some (some (.ref f_chk)))
    (F_chk : ∃ fd, Fun K "checked_within" "checked_within" (topS 17) f_chk fd)
    (d_par : PySem.W.nsIn K mainGlobals "_checked_parts" = some (some (.ref f_par)))
    (F_par : ∃ fd, Fun K "_checked_parts" "_checked_parts" (topS 18) f_par fd)
    (d_isU : PySem.W.nsIn K mainGlobals "_is_use" = some (some (.ref f_isU)))
    (F_isU : ∃ fd, Fun K "_is_use" "_is_use" (topS 19) f_isU fd)
    (d_rd : PySem.W.nsIn K mainGlobals "read" = some (some (.ref f_rd)))
    (F_rd : ∃ fd, Fun K "read" "read" (topS 22) f_rd fd)
    (d_wh : PySem.W.nsIn K mainGlobals "_whole" = some (some (.ref f_wh)))
    (F_wh : ∃ fd, Fun K "_whole" "_whole" (topS 23) f_wh fd)
    (d_ckL : PySem.W.nsIn K mainGlobals "_check_letters" = some (some (.ref f_ckL)))
    (F_ckL : ∃ fd, Fun K "_check_letters" "_check_letters" (topS 31) f_ckL fd)
    (d_ckF : PySem.W.nsIn K mainGlobals "_check_fixed" = some (some (.ref f_ckF)))
    (F_ckF : ∃ fd, Fun K "_check_fixed" "_check_fixed" (topS 32) f_ckF fd)
    (d_ckC : PySem.W.nsIn K mainGlobals "_check_commuting" = some (some (.ref f_ckC)))
    (F_ckC : ∃ fd, Fun K "_check_commuting" "_check_commuting" (topS 33) f_ckC fd)
    (d_ft : PySem.W.nsIn K mainGlobals "_facts_as_told" = some (some (.ref f_ft)))
    (F_ft : ∃ fd, Fun K "_facts_as_told" "_facts_as_told" (topS 34) f_ft fd)
    (d_isF : PySem.W.nsIn K mainGlobals "_is_fact" = some (some (.ref f_isF)))
    (F_isF : ∃ fd, Fun K "_is_fact" "_is_fact" (topS 35) f_isF fd)
    (d_te : PySem.W.nsIn K mainGlobals "_is_told_end" = some (some (.ref f_te)))
    (F_te : ∃ fd, Fun K "_is_told_end" "_is_told_end" (topS 36) f_te fd)
    (d_ebv : PySem.W.nsIn K mainGlobals "_ends_by_values" = some (some (.ref f_ebv)))
    (F_ebv : ∃ fd, Fun K "_ends_by_values" "_ends_by_values" (topS 28) f_ebv fd)
    (d_out : PySem.W.nsIn K mainGlobals "as_outcome" = some (some (.ref f_out)))
    (F_out : ∃ fd, Fun K "as_outcome" "as_outcome" (topS 29) f_out fd)
    (d_perm : PySem.W.nsIn K mainGlobals "_all_permissions" = some (some (.ref f_perm)))
    (F_perm : ∃ fd, Fun K "_all_permissions" "_all_permissions" (topS 30) f_perm fd)
    (d_cell : PySem.W.nsIn K mainGlobals "_law_cell" = some (some (.ref f_cell)))
    (F_cell : ∃ fd, Fun K "_law_cell" "_law_cell" (topS 38) f_cell fd)
    (d_pool : PySem.W.nsIn K mainGlobals "_law_pool" = some (some (.ref f_pool)))
    (F_pool : ∃ fd, Fun K "_law_pool" "_law_pool" (topS 39) f_pool fd)
    (d_take : PySem.W.nsIn K mainGlobals "_law_take" = some (some (.ref f_take)))
    (F_take : ∃ fd, Fun K "_law_take" "_law_take" (topS 40) f_take fd)
    (d_mixed : PySem.W.nsIn K mainGlobals "_law_mixed" = some (some (.ref f_mixed)))
    (F_mixed : ∃ fd, Fun K "_law_mixed" "_law_mixed" (topS 41) f_mixed fd)
    (d_one : PySem.W.nsIn K mainGlobals "_law_one" = some (some (.ref f_one)))
    (F_one : ∃ fd, Fun K "_law_one" "_law_one" (topS 42) f_one fd)
    (d_ground : PySem.W.nsIn K mainGlobals "_law_ground" = some (some (.ref f_ground)))
    (F_ground : ∃ fd, Fun K "_law_ground" "_law_ground" (topS 43) f_ground fd)
    (d_made : PySem.W.nsIn K mainGlobals "_law_made" = some (some (.ref f_made)))
    (F_made : ∃ fd, Fun K "_law_made" "_law_made" (topS 44) f_made fd)
    (d_term : PySem.W.nsIn K mainGlobals "_law_term" = some (some (.ref f_term)))
    (F_term : ∃ fd, Fun K "_law_term" "_law_term" (topS 45) f_term fd)
    (d_wg : PySem.W.nsIn K mainGlobals "_law_word_ground" = some (some (.ref f_wg)))
    (F_wg : ∃ fd, Fun K "_law_word_ground" "_law_word_ground" (topS 46) f_wg fd)
    (d_lt : PySem.W.nsIn K mainGlobals "_law_text" = some (some (.ref f_lt)))
    (F_lt : ∃ fd, Fun K "_law_text" "_law_text" (topS 47) f_lt fd)
    (d_wd : PySem.W.nsIn K mainGlobals "_law_words" = some (some (.ref f_wd)))
    (F_wd : ∃ fd, Fun K "_law_words" "_law_words" (topS 48) f_wd fd)
    (d_st : PySem.W.nsIn K mainGlobals "_law_step" = some (some (.ref f_st)))
    (F_st : ∃ fd, Fun K "_law_step" "_law_step" (topS 49) f_st fd)
    (d_plc : PySem.W.nsIn K mainGlobals "_law_place" = some (some (.ref f_plc)))
    (F_plc : ∃ fd, Fun K "_law_place" "_law_place" (topS 50) f_plc fd)
    (d_spo : PySem.W.nsIn K mainGlobals "_law_spoilt" = some (some (.ref f_spo)))
    (F_spo : ∃ fd, Fun K "_law_spoilt" "_law_spoilt" (topS 51) f_spo fd)
    (d_met : PySem.W.nsIn K mainGlobals "_law_met" = some (some (.ref f_met)))
    (F_met : ∃ fd, Fun K "_law_met" "_law_met" (topS 52) f_met fd)
    (i_prt : PySem.W.findIn K (.ref C) "parts_of" = some (some (.ref f_prt)))
    (F_prt : ∃ fd, Fun K "parts_of" "Ground.parts_of" (inClass (topS 27) 5) f_prt fd)
    (aS : PySem.W.nsIn K mainGlobals "Signs" = some (some (.ref CS)))
    (i_s0 : PySem.W.findIn K (.ref CS) "__init__" = some (some (.ref f_s0)))
    (F_s0 : ∃ fd, Fun K "__init__" "Signs.__init__" (inClass (topS 24) 0) f_s0 fd)
    (i_s1 : PySem.W.findIn K (.ref CS) "sign" = some (some (.ref f_s1)))
    (F_s1 : ∃ fd, Fun K "sign" "Signs.sign" (inClass (topS 24) 1) f_s1 fd)
    (x_s1 : FX.methB K CS "sign" f_s1 = true)
    (i_s2 : PySem.W.findIn K (.ref CS) "take" = some (some (.ref f_s2)))
    (F_s2 : ∃ fd, Fun K "take" "Signs.take" (inClass (topS 24) 2) f_s2 fd)
    (x_s2 : FX.methB K CS "take" f_s2 = true)
    (i_s3 : PySem.W.findIn K (.ref CS) "take_name" = some (some (.ref f_s3)))
    (F_s3 : ∃ fd, Fun K "take_name" "Signs.take_name" (inClass (topS 24) 3) f_s3 fd)
    (x_s3 : FX.methB K CS "take_name" f_s3 = true)
    (i_s4 : PySem.W.findIn K (.ref CS) "take_word" = some (some (.ref f_s4)))
    (F_s4 : ∃ fd, Fun K "take_word" "Signs.take_word" (inClass (topS 24) 4) f_s4 fd)
    (x_s4 : FX.methB K CS "take_word" f_s4 = true)
    (i_s5 : PySem.W.findIn K (.ref CS) "take_term" = some (some (.ref f_s5)))
    (F_s5 : ∃ fd, Fun K "take_term" "Signs.take_term" (inClass (topS 24) 5) f_s5 fd)
    (x_s5 : FX.methB K CS "take_term" f_s5 = true)
    (i_s6 : PySem.W.findIn K (.ref CS) "take_begun" = some (some (.ref f_s6)))
    (F_s6 : ∃ fd, Fun K "take_begun" "Signs.take_begun" (inClass (topS 24) 6) f_s6 fd)
    (x_s6 : FX.methB K CS "take_begun" f_s6 = true)
    (i_s7 : PySem.W.findIn K (.ref CS) "take_behind_bracket" = some (some (.ref f_s7)))
    (F_s7 : ∃ fd, Fun K "take_behind_bracket" "Signs.take_behind_bracket" (inClass (topS 24) 7) f_s7 fd)
    (x_s7 : FX.methB K CS "take_behind_bracket" f_s7 = true)
    (x_clS : FX.clB K CS = true)
    (x_noS : FX.noB K CS ["text", "place"] = true)
    (x_mkS : FX.mkB K CS f_s0 = true)
    (x_w1 : (He.Fa.glo "WORDS").ok K = true)
    (x_w2 : He.tupB K "WORDS" (GB.wdsW.map He.Dv.str) = true)
    (i_gi : PySem.W.findIn K (.ref C) "__init__" = some (some (.ref f_gi)))
    (F_gi : ∃ (oc : Value) (od : Option Addr) (dV kV doc pm : Value) (an : Option Addr) (cdv ct : Value) (osl : Array (Option Value)), K.lookup f_gi = some ⟨oc, od, .func (PySem.W.fnOf "__init__" "Ground.__init__" (defArgs (inClass (topS 27) 0)) (defBody (inClass (topS 27) 0)) (defScope (inClass (topS 27) 0)) dV kV doc pm an cdv ct), osl⟩ ∧ PySem.W.codeIn K cdv "Ground.__init__" = true ∧ dflE K dV = true ∧ PySem.W.keepIn K (.ref f_gi) = true)
    (aB : PySem.W.nsIn K mainGlobals "BadTerm" = some (some (.ref CB)))
    (i_bt : PySem.W.findIn K (.ref CB) "__init__" = some (some (.ref f_bt)))
    (t_bt : PySem.W.typeIn K (.ref f_bt) = some (.type "function"))
    (F_bt : ∃ fd, Fun K "__init__" "BadTerm.__init__" (inClass (topS 6) 0) f_bt fd)
    (aT : PySem.W.nsIn K mainGlobals "BadText" = some (some (.ref CT)))
    (i_tx : PySem.W.findIn K (.ref CT) "__init__" = some (some (.ref f_tx)))
    (t_tx : PySem.W.typeIn K (.ref f_tx) = some (.type "function"))
    (F_tx : ∃ fd, Fun K "__init__" "BadText.__init__" (inClass (topS 7) 0) f_tx fd)
    (d_law : PySem.W.nsIn K mainGlobals "law" = some (some (.ref f_law)))
    (F_law : ∃ (oc : Value) (od : Option Addr) (kV doc pm : Value) (an : Option Addr) (cdv ct : Value) (osl : Array (Option Value)), K.lookup f_law = some ⟨oc, od, .func (PySem.W.fnOf "law" "law" (defArgs (topS 53)) (defBody (topS 53)) (defScope (topS 53)) .none kV doc pm an cdv ct), osl⟩ ∧ PySem.W.codeIn K cdv "law" = true ∧ PySem.W.keepIn K (.ref f_law) = true)
    (x_free : FX.freeB K FX.blts = true)
    (x_signs : (He.Fa.int "MOST_SIGNS" 8).ok K = true)
    (x_parts : (He.Fa.int "MOST_PARTS" 2).ok K = true)
    (x_named1 : (He.Fa.glo "NAMED").ok K = true)
    (x_named2 : He.tupB K "NAMED" (GB.nmd.map He.Dv.str) = true)
    (d_tb : PySem.W.nsIn K mainGlobals "TERMS_BEHIND" = some (some (.ref a_tb)))
    (x_tb1 : He.dicW K a_tb = some (He.keysIn w.params (GB.opsW.map (·.1))))
    (x_tb2 : FX.dctB K a_tb GB.opsW = true)
    (x_tb3 : noDB K a_tb GB.noW = true)
    (x_tb4 : onlyB K a_tb (GB.opsW.map (·.1)) = true)
    (x_cl : FX.clB K C = true)
    (x_no : FX.noB K C ["_facts", "_letters", "_order", "_fixed", "_commuting", "moving", "commutes", "known_ends", "places"] = true)
    (x_mk : FX.mkB K C f_gi = true)
    (x_prt : FX.methB K C "parts_of" f_prt = true)
    (x_bt : FX.xfieldB K CB "path" = true)
    (x_tx : FX.xfieldB K CT "place" = true)
    (x_tn : decide (PySem.W.exmOne K (.ref CB) (.ref CT) = some false) = true)
    : EndG.LawG l w K 90 63 "_law_script" lawN mg fa h := by
  have e := hfa.symm.trans (PySem.W.mg_of X G d_law)
  cases e
  have b : Bl mg := FX.bl_of X G x_free
  have NMD : Nmd K mg := FX.tup_of X G x_named1 x_named2
  have TBH : TBh K w mg := by
    obtain ⟨es, n, kd⟩ := He.dicW_ok x_tb1
    refine ⟨a_tb, es, n, PySem.W.mg_of X G d_tb, kd, fun q hq => ?_, fun x hx => He.eqO_ok (List.all_eq_true.mp x_tb3 x hx)⟩
    obtain ⟨u, e1, e2⟩ := FX.dct_of x_tb2 hq
    exact ⟨⟨es, n, u, kd.at_, kd.lit, e1, e2⟩, u, e1⟩
  obtain ⟨oxB, xfB, noB, teB⟩ := FX.xfield_of x_bt
  obtain ⟨oxT, xfT, noT, teT⟩ := FX.xfield_of x_tx
  have cl : Cls K C := FX.cl_of x_cl
  have no : ∀ f ∈ (["_facts", "_letters", "_order", "_fixed", "_commuting", "moving", "commutes", "known_ends", "places"] : List Str), NoAttr K C f := fun f hf => FX.no_of x_no hf
  obtain ⟨ocL, odL, kVL, docL, pmL, anL, cdvL, ctL, oslL, lkL, cL, kL⟩ := F_law
  obtain ⟨ocI, odI, dVI, kVI, docI, pmI, anI, cdvI, ctI, oslI, lkI, cI, dI, kI⟩ := F_gi
  obtain ⟨da, db, dc, dflI, em1, em2, em3⟩ := dflE_ok dI
  have FI : FunD K "__init__" "Ground.__init__" (defArgs sGI) (defBody sGI) (defScope sGI) [.ref da, .ref db, .ref dc] [] f_gi _ := ⟨⟨ocI, odI, dVI, kVI, docI, pmI, anI, cdvI, ctI, oslI, rfl, lkI, cI, dflI, .inl rfl⟩, kI⟩
  obtain ⟨ds, vds, bI⟩ := FI.binds1 (ps := ["self", "letters", "fixed", "commuting", "facts"]) 5 3 (List.cons_ne_nil _ _) rfl (fun T kV doc pm an cdv ct us its hu hi => match us, hu, its, hi with | [_, _, _, _, _], _, [_, _, _], _ => ⟨_, rfl, rfl⟩)
  cases vds
  obtain ⟨ds2, vds2, bI2⟩ := FI.binds1 (ps := ["self", "letters", "fixed", "commuting", "facts"]) 2 0 (List.cons_ne_nil _ _) rfl (fun T kV doc pm an cdv ct us its hu hi => match us, hu, its, hi with | [_, _], _, [_, _, _], _ => ⟨_, rfl, rfl⟩)
  obtain ⟨g_isL, F_isL⟩ := F_isL
  have b_isL := F_isL.binds (ps := ["thing"]) fun _ _ _ _ _ _ us hl => match us, hl with | [_], _ => rfl
  obtain ⟨g_isN, F_isN⟩ := F_isN
  have b_isN := F_isN.binds (ps := ["thing"]) fun _ _ _ _ _ _ us hl => match us, hl with | [_], _ => rfl
  obtain ⟨g_isNm, F_isNm⟩ := F_isNm
  have b_isNm := F_isNm.binds (ps := ["thing"]) fun _ _ _ _ _ _ us hl => match us, hl with | [_], _ => rfl
  obtain ⟨g_chd, F_chd⟩ := F_chd
  have b_chd := F_chd.binds (ps := ["ground", "thing"]) fun _ _ _ _ _ _ us hl => match us, hl with | [_, _], _ => rfl
  obtain ⟨g_chk, F_chk⟩ := F_chk
  have b_chk := F_chk.binds (ps := ["ground", "thing", "names", "path"]) fun _ _ _ _ _ _ us hl => match us, hl with | [_, _, _, _], _ => rfl
  obtain ⟨g_par, F_par⟩ := F_par
  have b_par := F_par.binds (ps := ["ground", "things", "names", "path"]) fun _ _ _ _ _ _ us hl => match us, hl with | [_, _, _, _], _ => rfl
  obtain ⟨g_isU, F_isU⟩ := F_isU
  have b_isU := F_isU.binds (ps := ["ground", "thing"]) fun _ _ _ _ _ _ us hl => match us, hl with | [_, _], _ => rfl
  obtain ⟨g_rd, F_rd⟩ := F_rd
  have b_rd := F_rd.binds (ps := ["ground", "text"]) fun _ _ _ _ _ _ us hl => match us, hl with | [_, _], _ => rfl
  obtain ⟨g_wh, F_wh⟩ := F_wh
  have b_wh := F_wh.binds (ps := ["text"]) fun _ _ _ _ _ _ us hl => match us, hl with | [_], _ => rfl
  obtain ⟨g_ckL, F_ckL⟩ := F_ckL
  have b_ckL := F_ckL.binds (ps := ["letters"]) fun _ _ _ _ _ _ us hl => match us, hl with | [_], _ => rfl
  obtain ⟨g_ckF, F_ckF⟩ := F_ckF
  have b_ckF := F_ckF.binds (ps := ["letters", "fixed"]) fun _ _ _ _ _ _ us hl => match us, hl with | [_, _], _ => rfl
  obtain ⟨g_ckC, F_ckC⟩ := F_ckC
  have b_ckC := F_ckC.binds (ps := ["letters", "fixed", "commuting"]) fun _ _ _ _ _ _ us hl => match us, hl with | [_, _, _], _ => rfl
  obtain ⟨g_ft, F_ft⟩ := F_ft
  have b_ft := F_ft.binds (ps := ["letters", "fixed", "commuting", "facts"]) fun _ _ _ _ _ _ us hl => match us, hl with | [_, _, _, _], _ => rfl
  obtain ⟨g_isF, F_isF⟩ := F_isF
  have b_isF := F_isF.binds (ps := ["letters", "fixed", "thing"]) fun _ _ _ _ _ _ us hl => match us, hl with | [_, _, _], _ => rfl
  obtain ⟨g_te, F_te⟩ := F_te
  have b_te := F_te.binds (ps := ["thing"]) fun _ _ _ _ _ _ us hl => match us, hl with | [_], _ => rfl
  obtain ⟨g_ebv, F_ebv⟩ := F_ebv
  have b_ebv := F_ebv.binds (ps := ["facts", "commutes"]) fun _ _ _ _ _ _ us hl => match us, hl with | [_, _], _ => rfl
  obtain ⟨g_out, F_out⟩ := F_out
  have b_out := F_out.binds (ps := ["end"]) fun _ _ _ _ _ _ us hl => match us, hl with | [_], _ => rfl
  obtain ⟨g_perm, F_perm⟩ := F_perm
  have b_perm := F_perm.binds (ps := ["letters", "moving"]) fun _ _ _ _ _ _ us hl => match us, hl with | [_, _], _ => rfl
  obtain ⟨g_cell, F_cell⟩ := F_cell
  have b_cell := F_cell.binds (ps := ["_law_script", "_law_k"]) fun _ _ _ _ _ _ us hl => match us, hl with | [_, _], _ => rfl
  obtain ⟨g_pool, F_pool⟩ := F_pool
  have b_pool := F_pool.binds (ps := ["_law_grain"]) fun _ _ _ _ _ _ us hl => match us, hl with | [_], _ => rfl
  obtain ⟨g_take, F_take⟩ := F_take
  have b_take := F_take.binds (ps := ["_law_pool_here", "_law_many"]) fun _ _ _ _ _ _ us hl => match us, hl with | [_, _], _ => rfl
  obtain ⟨g_mixed, F_mixed⟩ := F_mixed
  have b_mixed := F_mixed.binds (ps := ["_law_pool_here", "_law_things"]) fun _ _ _ _ _ _ us hl => match us, hl with | [_, _], _ => rfl
  obtain ⟨g_one, F_one⟩ := F_one
  have b_one := F_one.binds (ps := ["_law_pool_here", "_law_things"]) fun _ _ _ _ _ _ us hl => match us, hl with | [_, _], _ => rfl
  obtain ⟨g_ground, F_ground⟩ := F_ground
  have b_ground := F_ground.binds (ps := ["_law_pool_here", "_law_most"]) fun _ _ _ _ _ _ us hl => match us, hl with | [_, _], _ => rfl
  obtain ⟨g_made, F_made⟩ := F_made
  have b_made := F_made.binds (ps := ["_law_g"]) fun _ _ _ _ _ _ us hl => match us, hl with | [_], _ => rfl
  obtain ⟨g_term, F_term⟩ := F_term
  have b_term := F_term.binds (ps := ["_law_pool_here", "_law_g", "_law_names", "_law_left"]) fun _ _ _ _ _ _ us hl => match us, hl with | [_, _, _, _], _ => rfl
  obtain ⟨g_wg, F_wg⟩ := F_wg
  have b_wg := F_wg.binds (ps := ["_law_pool_here"]) fun _ _ _ _ _ _ us hl => match us, hl with | [_], _ => rfl
  obtain ⟨g_lt, F_lt⟩ := F_lt
  have b_lt := F_lt.binds (ps := ["_law_term_here"]) fun _ _ _ _ _ _ us hl => match us, hl with | [_], _ => rfl
  obtain ⟨g_wd, F_wd⟩ := F_wd
  have b_wd := F_wd.binds (ps := []) fun _ _ _ _ _ _ us hl => match us, hl with | [], _ => rfl
  obtain ⟨g_st, F_st⟩ := F_st
  have b_st := F_st.binds (ps := ["_law_state", "_law_sign"]) fun _ _ _ _ _ _ us hl => match us, hl with | [_, _], _ => rfl
  obtain ⟨g_plc, F_plc⟩ := F_plc
  have b_plc := F_plc.binds (ps := ["_law_text_here"]) fun _ _ _ _ _ _ us hl => match us, hl with | [_], _ => rfl
  obtain ⟨g_spo, F_spo⟩ := F_spo
  have b_spo := F_spo.binds (ps := ["_law_pool_here", "_law_text_here"]) fun _ _ _ _ _ _ us hl => match us, hl with | [_, _], _ => rfl
  obtain ⟨g_met, F_met⟩ := F_met
  have b_met := F_met.binds (ps := ["_law_ground_here", "_law_text_here"]) fun _ _ _ _ _ _ us hl => match us, hl with | [_, _], _ => rfl
  obtain ⟨g_prt, F_prt⟩ := F_prt
  have b_prt := F_prt.binds (ps := ["self", "letter"]) fun _ _ _ _ _ _ us hl => match us, hl with | [_, _], _ => rfl
  obtain ⟨g_s0, F_s0⟩ := F_s0
  have b_s0 := F_s0.binds (ps := ["self", "text"]) fun _ _ _ _ _ _ us hl => match us, hl with | [_, _], _ => rfl
  obtain ⟨g_s1, F_s1⟩ := F_s1
  have b_s1 := F_s1.binds (ps := ["self"]) fun _ _ _ _ _ _ us hl => match us, hl with | [_], _ => rfl
  obtain ⟨g_s2, F_s2⟩ := F_s2
  have b_s2 := F_s2.binds (ps := ["self", "wanted"]) fun _ _ _ _ _ _ us hl => match us, hl with | [_, _], _ => rfl
  obtain ⟨g_s3, F_s3⟩ := F_s3
  have b_s3 := F_s3.binds (ps := ["self"]) fun _ _ _ _ _ _ us hl => match us, hl with | [_], _ => rfl
  obtain ⟨g_s4, F_s4⟩ := F_s4
  have b_s4 := F_s4.binds (ps := ["self"]) fun _ _ _ _ _ _ us hl => match us, hl with | [_], _ => rfl
  obtain ⟨g_s5, F_s5⟩ := F_s5
  have b_s5 := F_s5.binds (ps := ["self"]) fun _ _ _ _ _ _ us hl => match us, hl with | [_], _ => rfl
  obtain ⟨g_s6, F_s6⟩ := F_s6
  have b_s6 := F_s6.binds (ps := ["self"]) fun _ _ _ _ _ _ us hl => match us, hl with | [_], _ => rfl
  obtain ⟨g_s7, F_s7⟩ := F_s7
  have b_s7 := F_s7.binds (ps := ["self", "word"]) fun _ _ _ _ _ _ us hl => match us, hl with | [_, _], _ => rfl
  obtain ⟨g_tx, F_tx⟩ := F_tx
  have b_tx := F_tx.binds (ps := ["self", "place"]) fun _ _ _ _ _ _ us hl => match us, hl with | [_, _], _ => rfl
  obtain ⟨g_bt, F_bt⟩ := F_bt
  have b_bt := F_bt.binds (ps := ["self", "path"]) fun _ _ _ _ _ _ us hl => match us, hl with | [_, _], _ => rfl
  refine ⟨[], "law", "law", defArgs sLaw, defBody sLaw, defScope sLaw, .none, kVL, docL, pmL, cdvL, ctL, ocL, anL, odL, oslL, lkL, cL, scLaw, fun p hp => (nomatch hp), fun p hp => (nomatch hp), fun p hp => (nomatch hp), fun s u => .of_eq rfl, fun base t H a ns KB GB0 HT hn hPT hS hr => ?_⟩
  have N_isL : Fns l.prog w K mg base "is_list" 1 ["thing"] (spIsL K) := ⟨f_isL, g_isL, ok_isL F_isL b, PySem.W.mg_of X G d_isL, F_isL.kp, b_isL⟩
  have N_isN : Fns l.prog w K mg base "is_number" 1 ["thing"] (spIsN K) := ⟨f_isN, g_isN, ok_isN F_isN b, PySem.W.mg_of X G d_isN, F_isN.kp, b_isN⟩
  have N_isNm : Fns l.prog w K mg base "is_name" 1 ["thing"] (spIsNm K) := ⟨f_isNm, g_isNm, ok_isNm F_isNm b (FX.int_of X G x_signs), PySem.W.mg_of X G d_isNm, F_isNm.kp, b_isNm⟩
  have GC : GrC l.prog w K mg base C := ⟨cl, ⟨f_prt, g_prt, FX.meth_of x_prt, ok_prt F_prt cl (no _ (by simp)), b_prt⟩⟩
  have N_isU : Fns l.prog w K mg base "_is_use" 2 ["ground", "thing"] (spIsU K C) := ⟨f_isU, g_isU, ok_isU F_isU b GC N_isL, PySem.W.mg_of X G d_isU, F_isU.kp, b_isU⟩
  have BT : ErrC l.prog w K mg base "BadTerm" "path" CB := by
    refine FX.err_of (PySem.W.mg_of X G aB) oxB i_bt t_bt (fI := f_bt) (fd := g_bt) ?_ b_bt
    refine F_bt.ok sc_bt (fun vs H Q E h => ?_) (fun cdv A outer s H vs Q E hr h => ?_)
    · obtain ⟨a, y, rfl, _⟩ := h
      rfl
    · obtain ⟨a, y, rfl, ha, q⟩ := h
      exact ⟨_, pss_one (ps_ost (pv 0) (pv 1)), _, rfl, _, rfl, a, CB, rfl, oxB, noB, .inl ⟨ha, q⟩⟩
  have XT : ErrC l.prog w K mg base "BadText" "place" CT := by
    refine FX.err_of (PySem.W.mg_of X G aT) oxT i_tx t_tx (fI := f_tx) (fd := g_tx) ?_ b_tx
    refine F_tx.ok sc_tx (fun vs H Q E h => ?_) (fun cdv A outer s H vs Q E hr h => ?_)
    · obtain ⟨a, y, rfl, _⟩ := h
      rfl
    · obtain ⟨a, y, rfl, ha, q⟩ := h
      exact ⟨_, pss_one (ps_ost (pv 0) (pv 1)), _, rfl, _, rfl, a, CT, rfl, oxT, noT, .inl ⟨ha, q⟩⟩
  have FCK := ok_chkX (P := l.prog) (w := w) (base := base) F_chk F_par b (PySem.W.mg_of X G d_chk) F_chk.kp b_chk (PySem.W.mg_of X G d_par) F_par.kp b_par NMD TBH BT N_isL N_isNm N_isU 40
  have CKX : ∃ g gd, FnOk l.prog w K mg base (L2.CX l.prog w) 84 g gd ["ground", "thing", "names", "path"] (spChkX K C CB 40) ∧ mg "checked_within" = some (.ref g) ∧ PySem.W.keepIn K (.ref g) = true ∧ Binds K gd ["ground", "thing", "names", "path"] [] :=
    ⟨f_chk, g_chk, FCK, PySem.W.mg_of X G d_chk, F_chk.kp, b_chk⟩
  have FCD := ok_chdX F_chd CKX
  have CHX : ∃ g gd, FnOk l.prog w K mg base (L2.CX l.prog w) 85 g gd ["ground", "thing"] (spChdX K C CB) ∧ mg "checked" = some (.ref g) ∧ PySem.W.keepIn K (.ref g) = true ∧ Binds K gd ["ground", "thing"] [] :=
    ⟨f_chd, g_chd, FCD, PySem.W.mg_of X G d_chd, F_chd.kp, b_chd⟩
  have N_chd : Fns l.prog w K mg base "checked" 85 ["ground", "thing"] (spChd K C) := ⟨f_chd, g_chd, ok_chd FCD, PySem.W.mg_of X G d_chd, F_chd.kp, b_chd⟩
  have N_ckL : Fns l.prog w K mg base "_check_letters" 2 ["letters"] spCkL := ⟨f_ckL, g_ckL, ok_ckL F_ckL b (FX.int_of X G x_parts) N_isNm N_isN, PySem.W.mg_of X G d_ckL, F_ckL.kp, b_ckL⟩
  have N_ckF : Fns l.prog w K mg base "_check_fixed" 2 ["letters", "fixed"] spCkF := ⟨f_ckF, g_ckF, ok_ckF F_ckF b N_isL, PySem.W.mg_of X G d_ckF, F_ckF.kp, b_ckF⟩
  have N_ckC : Fns l.prog w K mg base "_check_commuting" 2 ["letters", "fixed", "commuting"] spCkC := ⟨f_ckC, g_ckC, ok_ckC F_ckC b N_isL, PySem.W.mg_of X G d_ckC, F_ckC.kp, b_ckC⟩
  have N_te : Fns l.prog w K mg base "_is_told_end" 2 ["thing"] spTE := ⟨f_te, g_te, ok_te F_te b N_isL N_isNm, PySem.W.mg_of X G d_te, F_te.kp, b_te⟩
  have N_isF : Fns l.prog w K mg base "_is_fact" 3 ["letters", "fixed", "thing"] spIsF := ⟨f_isF, g_isF, ok_isF F_isF b N_isL N_isNm N_te, PySem.W.mg_of X G d_isF, F_isF.kp, b_isF⟩
  have N_ft : Fns l.prog w K mg base "_facts_as_told" 4 ["letters", "fixed", "commuting", "facts"] spFT := ⟨f_ft, g_ft, ok_ft F_ft b N_isL N_isF, PySem.W.mg_of X G d_ft, F_ft.kp, b_ft⟩
  have N_out : Fns l.prog w K mg base "as_outcome" 1 ["end"] spOut := ⟨f_out, g_out, ok_out F_out, PySem.W.mg_of X G d_out, F_out.kp, b_out⟩
  have N_ebv : Fns l.prog w K mg base "_ends_by_values" 2 ["facts", "commutes"] (spEbv l.prog w) := ⟨f_ebv, g_ebv, ok_ebv F_ebv b N_out, PySem.W.mg_of X G d_ebv, F_ebv.kp, b_ebv⟩
  have N_perm : Fns l.prog w K mg base "_all_permissions" 1 ["letters", "moving"] spPerm := ⟨f_perm, g_perm, ok_perm F_perm b, PySem.W.mg_of X G d_perm, F_perm.kp, b_perm⟩
  have FGI := ok_gi (P := l.prog) (w := w) (mg := mg) (base := base) FI b cl (no _ (by simp)) (no _ (by simp)) (no _ (by simp)) (no _ (by simp)) (no _ (by simp)) (no _ (by simp)) (no _ (by simp)) (no _ (by simp)) (no _ (by simp)) N_ckL N_ckF N_ckC N_ft N_ebv N_perm
  have N_made : Fns l.prog w K mg base "_law_made" 7 ["_law_g"] (spMade C) := ⟨f_made, g_made, ok_made F_made (FX.mk_of x_mk) FGI bI (PySem.W.mg_of X G aC), PySem.W.mg_of X G d_made, F_made.kp, b_made⟩
  have N_cell : Fns l.prog w K mg base "_law_cell" 1 ["_law_script", "_law_k"] (GB.spCell K) := ⟨f_cell, g_cell, ok_cell F_cell b, PySem.W.mg_of X G d_cell, F_cell.kp, b_cell⟩
  have N_pool : Fns l.prog w K mg base "_law_pool" 1 ["_law_grain"] spPool := ⟨f_pool, g_pool, ok_pool F_pool b, PySem.W.mg_of X G d_pool, F_pool.kp, b_pool⟩
  have N_take : Fns l.prog w K mg base "_law_take" 1 ["_law_pool_here", "_law_many"] spTake := ⟨f_take, g_take, ok_take F_take b, PySem.W.mg_of X G d_take, F_take.kp, b_take⟩
  have N_mixed : Fns l.prog w K mg base "_law_mixed" 2 ["_law_pool_here", "_law_things"] (spMixed K) := ⟨f_mixed, g_mixed, ok_mixed F_mixed b N_take, PySem.W.mg_of X G d_mixed, F_mixed.kp, b_mixed⟩
  have N_one : Fns l.prog w K mg base "_law_one" 2 ["_law_pool_here", "_law_things"] (spOne K) := ⟨f_one, g_one, ok_one F_one b N_take, PySem.W.mg_of X G d_one, F_one.kp, b_one⟩
  have N_oneT : Fns l.prog w K mg base "_law_one" 2 ["_law_pool_here", "_law_things"] (spOneT K) := ⟨f_one, g_one, ok_oneT F_one b N_take, PySem.W.mg_of X G d_one, F_one.kp, b_one⟩
  have N_ground : Fns l.prog w K mg base "_law_ground" 3 ["_law_pool_here", "_law_most"] spGround := ⟨f_ground, g_ground, ok_ground F_ground b N_take N_mixed N_one, PySem.W.mg_of X G d_ground, F_ground.kp, b_ground⟩
  have N_term : Fns l.prog w K mg base "_law_term" 16 ["_law_pool_here", "_law_g", "_law_names", "_law_left"] (spTerm K 14) := ⟨f_term, g_term, ok_term F_term b (PySem.W.mg_of X G d_term) F_term.kp b_term N_one N_oneT 14, PySem.W.mg_of X G d_term, F_term.kp, b_term⟩
  have SC : SgC K CS := ⟨FX.cl_of x_clS, FX.no_of x_noS (by simp), FX.no_of x_noS (by simp)⟩
  have WD : Wds K mg := FX.tup_of X G x_w1 x_w2
  have TBL : TBl K w mg := by
    obtain ⟨es, n, kd⟩ := He.dicW_ok x_tb1
    refine ⟨a_tb, es, n, PySem.W.mg_of X G d_tb, kd, fun q hq => ?_, fun x hx => onlyB_ok x_tb4 (ops_none hx)⟩
    obtain ⟨u, e1, e2⟩ := FX.dct_of x_tb2 hq
    exact ⟨⟨es, n, u, kd.at_, kd.lit, e1, e2⟩, u, e1⟩
  have M1 : MethOk l.prog w K mg base CS "sign" 1 ["self"] (spSign CS) := ⟨f_s1, g_s1, FX.meth_of x_s1, ok_s1 F_s1 SC, b_s1⟩
  have M2 : MethX l.prog w K mg base CS "take" 3 ["self", "wanted"] (spTake1 CS CT) := ⟨f_s2, g_s2, FX.meth_of x_s2, ok_s2 F_s2 SC XT M1, b_s2⟩
  have M3 : MethX l.prog w K mg base CS "take_name" 3 ["self"] (spTakeN CS CT) := ⟨f_s3, g_s3, FX.meth_of x_s3, ok_s3 F_s3 SC XT (FX.int_of X G x_signs) M1, b_s3⟩
  have M4 : MethX l.prog w K mg base CS "take_word" 3 ["self"] (spTakeW CS CT) := ⟨f_s4, g_s4, FX.meth_of x_s4, ok_s4 F_s4 b SC XT WD M1, b_s4⟩
  have M7 : MethX l.prog w K mg base CS "take_behind_bracket" 4 ["self", "word"] (spBb CS CT) := ⟨f_s7, g_s7, FX.meth_of x_s7, ok_s7 F_s7 SC TBL M2 M3, b_s7⟩
  have M6 : MethX l.prog w K mg base CS "take_begun" 5 ["self"] (spBg CS CT) := ⟨f_s6, g_s6, FX.meth_of x_s6, ok_s6 F_s6 SC M1 M2 M3 M4 M7, b_s6⟩
  have FWH := ok_wh (P := l.prog) (w := w) (base := base) F_wh b SC XT (FX.mk_of x_mkS) (ok_s0 F_s0 SC) b_s0 (PySem.W.mg_of X G aS) (FX.meth_of x_s5) (ok_s5 F_s5 b SC (FX.meth_of x_s5) b_s5 M1 M2 M6 40) b_s5
  have FRD := ok_rd F_rd ⟨f_wh, g_wh, FWH, PySem.W.mg_of X G d_wh, F_wh.kp, b_wh⟩ CHX
  have N_met : Fns l.prog w K mg base "_law_met" 88 ["_law_ground_here", "_law_text_here"] (spMet K C) := ⟨f_met, g_met, ok_met F_met ⟨f_rd, g_rd, FRD, PySem.W.mg_of X G d_rd, F_rd.kp, b_rd⟩ (PySem.W.mg_of X G aT) xfT noT teT (PySem.W.mg_of X G aB) xfB noB teB (of_decide_eq_true x_tn), PySem.W.mg_of X G d_met, F_met.kp, b_met⟩
  have N_lt : Fns l.prog w K mg base "_law_text" 41 ["_law_term_here"] (spLt K 40) := ⟨f_lt, g_lt, ok_lt F_lt b (PySem.W.mg_of X G d_lt) F_lt.kp b_lt 40, PySem.W.mg_of X G d_lt, F_lt.kp, b_lt⟩
  have N_wg : Fns l.prog w K mg base "_law_word_ground" 3 ["_law_pool_here"] spWg := ⟨f_wg, g_wg, ok_wg F_wg b N_take N_mixed, PySem.W.mg_of X G d_wg, F_wg.kp, b_wg⟩
  have N_wd : Fns l.prog w K mg base "_law_words" 1 [] spWd := ⟨f_wd, g_wd, ok_wd F_wd b, PySem.W.mg_of X G d_wd, F_wd.kp, b_wd⟩
  have N_st : Fns l.prog w K mg base "_law_step" 5 ["_law_state", "_law_sign"] (spStep K 3) := ⟨f_st, g_st, ok_st F_st b (PySem.W.mg_of X G d_st) F_st.kp b_st N_wd 3, PySem.W.mg_of X G d_st, F_st.kp, b_st⟩
  have N_plc : Fns l.prog w K mg base "_law_place" 6 ["_law_text_here"] spPlace := ⟨f_plc, g_plc, ok_pl F_plc b N_st, PySem.W.mg_of X G d_plc, F_plc.kp, b_plc⟩
  have N_spo : Fns l.prog w K mg base "_law_spoilt" 3 ["_law_pool_here", "_law_text_here"] spSpo := ⟨f_spo, g_spo, ok_sp F_spo b N_take N_one, PySem.W.mg_of X G d_spo, F_spo.kp, b_spo⟩
  exact ok_law {
    T := b
    CE := N_cell
    PL := N_pool
    TK := N_take
    GR := N_ground
    WG := N_wg
    MD := N_made
    TM := N_term
    LT := N_lt
    SP := N_spo
    MT := N_met
    PL2 := N_plc
    CH := N_chd } hr hS
theorem walk {l : PySem.W.OpenLaw} {q : Program} {loose : List Str} {XP : (Str → Option Value) → Heap → Prop} {YP : World → Heap → Prop} {d : DefRec} {K : Params → PySem.W.Frag} (hn : l.most = some 63) (hdf : d.params.defaults = []) (hrec : ((PyProof.Rows.recsOf q).any fun e => e.name == d.name) = true)
    (hY : ∀ (w : World) (h : Heap), YP w h → (K w.params).In h)
    (F : ∀ (w : World) (mg : Str → Option Value) (fa : Addr) (h : Heap), (K w.params).In h → h.Ns mainGlobals mg → mg d.name = some (.ref fa) → OwnTab (K w.params) fa h → EndG.LawG l w (K w.params) 90 63 "_law_script" lawN mg fa h) :
    PySem.W.WalkO q loose XP YP l.row.toRowW d [] (fun f vs => PySem.call f vs) :=
  EndG.walk_g (n := 63) (k := 90) (x := "_law_script") hn (by decide) hdf ⟨rfl, by decide, by decide⟩ hrec hY F
end K28
set_option Elab.async false
open PySem PySem.W PyProof.Rows
set_option maxRecDepth 100000 in
set_option maxHeartbeats 0 in
theorem PySem.Challenge.cw_freeworldrules_k28_texts_refused_holds : PySem.Challenge.rw_freeworldrules_k28_texts_refused.Holds := by
  w_on; o_law; k_headLK; (case hw => w_witness2)
  k_fill
  refine K28.walk (l := PySem.Challenge.rw_freeworldrules_k28_texts_refused) rfl rfl (by kernel_rfl) (fun w h Y => PySem.W.kIn_of Y) ?F
  case F =>
    intro w mg fa h KX G hmg own
    refine' K28.all_mk KX G hmg own ?aC ?d_isL ?F_isL ?d_isN ?F_isN ?d_isNm ?F_isNm ?d_chd ?F_chd ?d_chk ?F_chk ?d_par ?F_par ?d_isU ?F_isU ?d_rd ?F_rd ?d_wh ?F_wh ?d_ckL ?F_ckL ?d_ckF ?F_ckF ?d_ckC ?F_ckC ?d_ft ?F_ft ?d_isF ?F_isF ?d_te ?F_te ?d_ebv ?F_ebv ?d_out ?F_out ?d_perm ?F_perm ?d_cell ?F_cell ?d_pool ?F_pool ?d_take ?F_take ?d_mixed ?F_mixed ?d_one ?F_one ?d_ground ?F_ground ?d_made ?F_made ?d_term ?F_term ?d_wg ?F_wg ?d_lt ?F_lt ?d_wd ?F_wd ?d_st ?F_st ?d_plc ?F_plc ?d_spo ?F_spo ?d_met ?F_met ?i_prt ?F_prt ?aS ?i_s0 ?F_s0 ?i_s1 ?F_s1 ?x_s1 ?i_s2 ?F_s2 ?x_s2 ?i_s3 ?F_s3 ?x_s3 ?i_s4 ?F_s4 ?x_s4 ?i_s5 ?F_s5 ?x_s5 ?i_s6 ?F_s6 ?x_s6 ?i_s7 ?F_s7 ?x_s7 ?x_clS ?x_noS ?x_mkS ?x_w1 ?x_w2 ?i_gi ?F_gi ?aB ?i_bt ?t_bt ?F_bt ?aT ?i_tx ?t_tx ?F_tx ?d_law ?F_law ?x_free ?x_signs ?x_parts ?x_named1 ?x_named2 ?d_tb ?x_tb1 ?x_tb2 ?x_tb3 ?x_tb4 ?x_cl ?x_no ?x_mk ?x_prt ?x_bt ?x_tx ?x_tn
    (case aC => k_is)
    (case d_isL => k_is)
    (case F_isL => exact ⟨_, L2.fun_mk (by k_is) (by k_is) (by k_is)⟩)
    (case d_isN => k_is)
    (case F_isN => exact ⟨_, L2.fun_mk (by k_is) (by k_is) (by k_is)⟩)
    (case d_isNm => k_is)
    (case F_isNm => exact ⟨_, L2.fun_mk (by k_is) (by k_is) (by k_is)⟩)
    (case d_chd => k_is)
    (case F_chd => exact ⟨_, L2.fun_mk (by k_is) (by k_is) (by k_is)⟩)
    (case d_chk => k_is)
    (case F_chk => exact ⟨_, L2.fun_mk (by k_is) (by k_is) (by k_is)⟩)
    (case d_par => k_is)
    (case F_par => exact ⟨_, L2.fun_mk (by k_is) (by k_is) (by k_is)⟩)
    (case d_isU => k_is)
    (case F_isU => exact ⟨_, L2.fun_mk (by k_is) (by k_is) (by k_is)⟩)
    (case d_rd => k_is)
    (case F_rd => exact ⟨_, L2.fun_mk (by k_is) (by k_is) (by k_is)⟩)
    (case d_wh => k_is)
    (case F_wh => exact ⟨_, L2.fun_mk (by k_is) (by k_is) (by k_is)⟩)
    (case d_ckL => k_is)
    (case F_ckL => exact ⟨_, L2.fun_mk (by k_is) (by k_is) (by k_is)⟩)
    (case d_ckF => k_is)
    (case F_ckF => exact ⟨_, L2.fun_mk (by k_is) (by k_is) (by k_is)⟩)
    (case d_ckC => k_is)
    (case F_ckC => exact ⟨_, L2.fun_mk (by k_is) (by k_is) (by k_is)⟩)
    (case d_ft => k_is)
    (case F_ft => exact ⟨_, L2.fun_mk (by k_is) (by k_is) (by k_is)⟩)
    (case d_isF => k_is)
    (case F_isF => exact ⟨_, L2.fun_mk (by k_is) (by k_is) (by k_is)⟩)
    (case d_te => k_is)
    (case F_te => exact ⟨_, L2.fun_mk (by k_is) (by k_is) (by k_is)⟩)
    (case d_ebv => k_is)
    (case F_ebv => exact ⟨_, L2.fun_mk (by k_is) (by k_is) (by k_is)⟩)
    (case d_out => k_is)
    (case F_out => exact ⟨_, L2.fun_mk (by k_is) (by k_is) (by k_is)⟩)
    (case d_perm => k_is)
    (case F_perm => exact ⟨_, L2.fun_mk (by k_is) (by k_is) (by k_is)⟩)
    (case d_cell => k_is)
    (case F_cell => exact ⟨_, L2.fun_mk (by k_is) (by k_is) (by k_is)⟩)
    (case d_pool => k_is)
    (case F_pool => exact ⟨_, L2.fun_mk (by k_is) (by k_is) (by k_is)⟩)
    (case d_take => k_is)
    (case F_take => exact ⟨_, L2.fun_mk (by k_is) (by k_is) (by k_is)⟩)
    (case d_mixed => k_is)
    (case F_mixed => exact ⟨_, L2.fun_mk (by k_is) (by k_is) (by k_is)⟩)
    (case d_one => k_is)
    (case F_one => exact ⟨_, L2.fun_mk (by k_is) (by k_is) (by k_is)⟩)
    (case d_ground => k_is)
    (case F_ground => exact ⟨_, L2.fun_mk (by k_is) (by k_is) (by k_is)⟩)
    (case d_made => k_is)
    (case F_made => exact ⟨_, L2.fun_mk (by k_is) (by k_is) (by k_is)⟩)
    (case d_term => k_is)
    (case F_term => exact ⟨_, L2.fun_mk (by k_is) (by k_is) (by k_is)⟩)
    (case d_wg => k_is)
    (case F_wg => exact ⟨_, L2.fun_mk (by k_is) (by k_is) (by k_is)⟩)
    (case d_lt => k_is)
    (case F_lt => exact ⟨_, L2.fun_mk (by k_is) (by k_is) (by k_is)⟩)
    (case d_wd => k_is)
    (case F_wd => exact ⟨_, L2.fun_mk (by k_is) (by k_is) (by k_is)⟩)
    (case d_st => k_is)
    (case F_st => exact ⟨_, L2.fun_mk (by k_is) (by k_is) (by k_is)⟩)
    (case d_plc => k_is)
    (case F_plc => exact ⟨_, L2.fun_mk (by k_is) (by k_is) (by k_is)⟩)
    (case d_spo => k_is)
    (case F_spo => exact ⟨_, L2.fun_mk (by k_is) (by k_is) (by k_is)⟩)
    (case d_met => k_is)
    (case F_met => exact ⟨_, L2.fun_mk (by k_is) (by k_is) (by k_is)⟩)
    (case i_prt => k_is)
    (case F_prt => exact ⟨_, L2.fun_mk (by k_is) (by k_is) (by k_is)⟩)
    (case aS => k_is)
    (case i_s0 => k_is)
    (case F_s0 => exact ⟨_, L2.fun_mk (by k_is) (by k_is) (by k_is)⟩)
    (case i_s1 => k_is)
    (case F_s1 => exact ⟨_, L2.fun_mk (by k_is) (by k_is) (by k_is)⟩)
    (case x_s1 => kernel_rfl)
    (case i_s2 => k_is)
    (case F_s2 => exact ⟨_, L2.fun_mk (by k_is) (by k_is) (by k_is)⟩)
    (case x_s2 => kernel_rfl)
    (case i_s3 => k_is)
    (case F_s3 => exact ⟨_, L2.fun_mk (by k_is) (by k_is) (by k_is)⟩)
    (case x_s3 => kernel_rfl)
    (case i_s4 => k_is)
    (case F_s4 => exact ⟨_, L2.fun_mk (by k_is) (by k_is) (by k_is)⟩)
    (case x_s4 => kernel_rfl)
    (case i_s5 => k_is)
    (case F_s5 => exact ⟨_, L2.fun_mk (by k_is) (by k_is) (by k_is)⟩)
    (case x_s5 => kernel_rfl)
    (case i_s6 => k_is)
    (case F_s6 => exact ⟨_, L2.fun_mk (by k_is) (by k_is) (by k_is)⟩)
    (case x_s6 => kernel_rfl)
    (case i_s7 => k_is)
    (case F_s7 => exact ⟨_, L2.fun_mk (by k_is) (by k_is) (by k_is)⟩)
    (case x_s7 => kernel_rfl)
    (case x_clS => kernel_rfl)
    (case x_noS => kernel_rfl)
    (case x_mkS => kernel_rfl)
    (case x_w1 => kernel_rfl)
    (case x_w2 => kernel_rfl)
    (case i_gi => k_is)
    (case F_gi => exact ⟨_, _, _, _, _, _, _, _, _, _, by k_is, by k_is, by kernel_rfl, by k_is⟩)
    (case aB => k_is)
    (case i_bt => k_is)
    (case t_bt => k_is)
    (case F_bt => exact ⟨_, L2.fun_mk (by k_is) (by k_is) (by k_is)⟩)
    (case aT => k_is)
    (case i_tx => k_is)
    (case t_tx => k_is)
    (case F_tx => exact ⟨_, L2.fun_mk (by k_is) (by k_is) (by k_is)⟩)
    (case d_law => k_is)
    (case F_law => exact ⟨_, _, _, _, _, _, _, _, _, by k_is, by k_is, by k_is⟩)
    (case x_free => kernel_rfl)
    (case x_signs => kernel_rfl)
    (case x_parts => kernel_rfl)
    (case x_named1 => kernel_rfl)
    (case x_named2 => kernel_rfl)
    (case d_tb => k_is)
    (case x_tb1 => kernel_rfl)
    (case x_tb2 => kernel_rfl)
    (case x_tb3 => kernel_rfl)
    (case x_tb4 => kernel_rfl)
    (case x_cl => kernel_rfl)
    (case x_no => kernel_rfl)
    (case x_mk => kernel_rfl)
    (case x_prt => kernel_rfl)
    (case x_bt => kernel_rfl)
    (case x_tx => kernel_rfl)
    (case x_tn => kernel_rfl)
