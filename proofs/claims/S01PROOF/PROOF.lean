import PyProof.Rows.All
import Wide.All
import OpenK.AllK
import Wide.FinOn
import Open.SpecLaws
import KE.OsGo
import HandS.ForSpec
import HandS.Comp
import HandS.Iter
import HandS.Zip
import HandS.Wide
import HandS.SortKw
import HandS.Codes
import HandS.Evl
import HandS.Style
import KE.LtData
import PyProof.MinMaxWalk
import PyProof.Rows.SetFrom
import KE.DataMinKey
import KE.DataCmp
import KE.KDictZip
import PyProof.ListNew
import HandS.Walk
import KE.SortKeyHeap
import HandS.Lambda
import HandS.Nested
import HandS.Conv
import HandS.EndTab
import KE.KDictList
import HandS.Sort
import HandS.WordsDict
import PySem.Challenge.RW_timberbids_s01_answers
set_option Elab.async false
set_option linter.all false
set_option maxRecDepth 100000
set_option maxHeartbeats 8000000
namespace TBM
open Amounts TimberAuction

/-! ### lists -/
theorem mem_subsets : ∀ {xs l : List Nat}, l ∈ subsets xs ↔ List.Sublist l xs
  | [], l => by
    show l ∈ [[]] ↔ _
    rw [List.mem_singleton, List.sublist_nil]
  | x :: xs, l => by
    show l ∈ (subsets xs).map (fun s => x :: s) ++ subsets xs ↔ _
    rw [List.mem_append, List.mem_map, mem_subsets]
    constructor
    · rintro (⟨s, h, rfl⟩ | h)
      · exact (mem_subsets.mp h).cons_cons x
      · exact h.cons x
    · intro h
      cases h with
      | cons _ h => exact .inr h
      | cons_cons _ h => exact .inl ⟨_, mem_subsets.mpr h, rfl⟩

theorem sub_append_one {xs l : List Nat} {k : Nat} : List.Sublist l (xs ++ [k]) ↔ List.Sublist l xs ∨ ∃ l', l = l' ++ [k] ∧ List.Sublist l' xs := by
  constructor
  · intro h
    obtain ⟨l1, l2, rfl, h1, h2⟩ := List.sublist_append_iff.mp h
    cases h2 with
    | cons _ h2 =>
      rw [List.sublist_nil.mp h2, List.append_nil]
      exact .inl h1
    | cons_cons _ h2 =>
      rw [List.sublist_nil.mp h2]
      exact .inr ⟨l1, rfl, h1⟩
  · rintro (h | ⟨l', rfl, h⟩)
    · exact h.trans (List.sublist_append_left _ _)
    · exact List.Sublist.append h (List.Sublist.refl _)

theorem sum_append (a b : List Nat) : sum (a ++ b) = sum a + sum b := by
  unfold sum
  induction a with
  | nil => simp
  | cons x a ih =>
    rw [List.cons_append, List.foldr_cons, List.foldr_cons, ih]
    omega
theorem sum_cons (x : Nat) (a : List Nat) : sum (x :: a) = x + sum a := rfl

/-! ### violation -/
variable (s : Sale)
theorem viol_none {l : List Nat} : s.violation l = none ↔ (∀ n ∈ l, s.isAdmissible (s.bid n) = true) ∧ (∀ lot, lot < s.lots.length → s.bidsWithLot l lot ≤ 1) ∧ ∀ b, b < 16 → s.bidsWithBidder l b ≤ s.limits.getD b 0 := by
  unfold Sale.violation
  constructor
  · intro h
    split at h
    · cases h
    · rename_i h1
      split at h
      · cases h
      · rename_i h2
        rw [Option.map_eq_none_iff] at h
        refine ⟨fun n hn => ?_, fun lot hl => ?_, fun b hb => ?_⟩
        · have := List.find?_eq_none.mp h1 n hn
          simpa using this
        · have := List.find?_eq_none.mp h2 lot (List.mem_range.mpr hl)
          simp only [decide_eq_true_eq] at this
          omega
        · have := List.find?_eq_none.mp h b (List.mem_range.mpr hb)
          simp only [decide_eq_true_eq] at this
          omega
  · rintro ⟨h1, h2, h3⟩
    have e1 : l.find? (fun n => !s.isAdmissible (s.bid n)) = none := List.find?_eq_none.mpr fun n hn => by simp [h1 n hn]
    have e2 : (List.range s.lots.length).find? (fun lot => decide (1 < s.bidsWithLot l lot)) = none := List.find?_eq_none.mpr fun n hn => by
      have := h2 n (List.mem_range.mp hn)
      simp only [decide_eq_true_eq]
      omega
    have e3 : (List.range 16).find? (fun b => decide (s.limits.getD b 0 < s.bidsWithBidder l b)) = none := List.find?_eq_none.mpr fun n hn => by
      have := h3 n (List.mem_range.mp hn)
      simp only [decide_eq_true_eq]
      omega
    rw [e1]
    show (match (List.range s.lots.length).find? (fun lot => decide (1 < s.bidsWithLot l lot)) with
      | some lot => some (2, lot)
      | none => ((List.range 16).find? (fun b => decide (s.limits.getD b 0 < s.bidsWithBidder l b))).map fun b => (3, b)) = none
    rw [e2, e3]
    rfl

theorem lot_append (l m : List Nat) (lot : Nat) : s.bidsWithLot (l ++ m) lot = s.bidsWithLot l lot + s.bidsWithLot m lot := by
  unfold Sale.bidsWithLot
  rw [List.filter_append, List.length_append]
theorem bidder_append (l m : List Nat) (b : Nat) : s.bidsWithBidder (l ++ m) b = s.bidsWithBidder l b + s.bidsWithBidder m b := by
  unfold Sale.bidsWithBidder
  rw [List.filter_append, List.length_append]
theorem total_append (l m : List Nat) : s.totalValue (l ++ m) = s.totalValue l + s.totalValue m := by
  unfold Sale.totalValue
  rw [List.map_append, sum_append]
theorem lot_one (k lot : Nat) : s.bidsWithLot [k] lot = if (s.bid k).lots.contains lot = true then 1 else 0 := by
  unfold Sale.bidsWithLot
  rw [List.filter_cons]
  split <;> rfl
theorem bidder_one (k b : Nat) : s.bidsWithBidder [k] b = if hasBidder (s.bid k) b = true then 1 else 0 := by
  unfold Sale.bidsWithBidder
  rw [List.filter_cons]
  split <;> rfl
theorem total_one (k : Nat) : s.totalValue [k] = s.value (s.bid k) := by
  show s.value (s.bid k) + 0 = _
  rfl
theorem viol_less {l m : List Nat} (h : s.violation (l ++ m) = none) : s.violation l = none := by
  rw [viol_none] at h ⊢
  obtain ⟨h1, h2, h3⟩ := h
  refine ⟨fun n hn => h1 n (List.mem_append_left _ hn), fun lot hl => ?_, fun b hb => ?_⟩
  · have := h2 lot hl
    rw [lot_append] at this
    omega
  · have := h3 b hb
    rw [bidder_append] at this
    omega
theorem viol_nil : s.violation [] = none := by
  rw [viol_none]
  refine ⟨fun n hn => ?_, fun _ _ => Nat.zero_le _, fun _ _ => Nat.zero_le _⟩
  cases hn
/-- one bid more: it is admissible, its lots are free, its bidders have room -/
theorem viol_more {l : List Nat} {k : Nat} (h : s.violation l = none) : s.violation (l ++ [k]) = none ↔
    s.isAdmissible (s.bid k) = true ∧ (∀ lot, lot < s.lots.length → lot ∈ (s.bid k).lots → s.bidsWithLot l lot = 0) ∧ ∀ b, b < 16 → hasBidder (s.bid k) b = true → s.bidsWithBidder l b < s.limits.getD b 0 := by
  rw [viol_none] at h
  rw [viol_none]
  obtain ⟨h1, h2, h3⟩ := h
  constructor
  · rintro ⟨g1, g2, g3⟩
    refine ⟨g1 k (List.mem_append_right _ (List.mem_singleton.mpr rfl)), fun lot hl hm => ?_, fun b hb hm => ?_⟩
    · have := g2 lot hl
      rw [lot_append, lot_one, if_pos (List.contains_iff_mem.mpr hm)] at this
      omega
    · have := g3 b hb
      rw [bidder_append, bidder_one, if_pos hm] at this
      omega
  · rintro ⟨g1, g2, g3⟩
    refine ⟨fun n hn => ?_, fun lot hl => ?_, fun b hb => ?_⟩
    · rcases List.mem_append.mp hn with hn | hn
      · exact h1 n hn
      · rw [List.mem_singleton.mp hn]
        exact g1
    · rw [lot_append, lot_one]
      have := h2 lot hl
      split
      · rename_i hc
        rw [g2 lot hl (List.contains_iff_mem.mp hc)]
        omega
      · omega
    · rw [bidder_append, bidder_one]
      have := h3 b hb
      split
      · rename_i hc
        have := g3 b hb hc
        omega
      · omega

/-! ### all selections, bid by bid -/
def gen : Nat → List (List Nat)
  | 0 => [[]]
  | k + 1 => if s.isAdmissible (s.bid k) = true then gen k ++ ((gen k).filter fun l => (s.violation (l ++ [k])).isNone).map (· ++ [k]) else gen k
theorem mem_gen : ∀ {k : Nat} {l : List Nat}, l ∈ gen s k ↔ List.Sublist l ((List.range k).filter fun n => s.isAdmissible (s.bid n)) ∧ s.violation l = none
  | 0, l => by
    show l ∈ [[]] ↔ _
    rw [List.mem_singleton]
    constructor
    · rintro rfl
      exact ⟨List.Sublist.refl _, viol_nil s⟩
    · rintro ⟨h, _⟩
      exact List.sublist_nil.mp h
  | k + 1, l => by
    rw [List.range_succ, List.filter_append]
    show l ∈ (if s.isAdmissible (s.bid k) = true then gen s k ++ ((gen s k).filter fun l => (s.violation (l ++ [k])).isNone).map (· ++ [k]) else gen s k) ↔ _
    by_cases a : s.isAdmissible (s.bid k) = true
    · rw [if_pos a, List.filter_cons, if_pos a, List.filter_nil, sub_append_one, List.mem_append, mem_gen, List.mem_map]
      constructor
      · rintro (⟨h1, h2⟩ | ⟨m, hm, rfl⟩)
        · exact ⟨.inl h1, h2⟩
        · obtain ⟨q1, q2⟩ := List.mem_filter.mp hm
          exact ⟨.inr ⟨m, rfl, (mem_gen.mp q1).1⟩, Option.isNone_iff_eq_none.mp q2⟩
      · rintro ⟨h1 | ⟨m, rfl, h1⟩, h2⟩
        · exact .inl ⟨h1, h2⟩
        · exact .inr ⟨m, List.mem_filter.mpr ⟨mem_gen.mpr ⟨h1, viol_less s h2⟩, by rw [h2]; rfl⟩, rfl⟩
    · rw [if_neg a, List.filter_cons, if_neg a, List.filter_nil, List.append_nil]
      exact mem_gen
theorem gen_is {l : List Nat} : l ∈ gen s s.bids.length ↔ l ∈ s.selections := by
  rw [mem_gen]
  unfold Sale.selections
  rw [List.mem_filter, mem_subsets, Option.isNone_iff_eq_none]
theorem nil_gen (k : Nat) : [] ∈ gen s k := (mem_gen s).mpr ⟨List.nil_sublist _, viol_nil s⟩

/-! ### the order -/
theorem lex_irr : ∀ a : List Nat, lexicographicallyLess a a = false
  | [] => rfl
  | x :: a => by
    show (decide (x < x) || (x == x && lexicographicallyLess a a)) = false
    rw [lex_irr a]
    simp
theorem lex_trans : ∀ {a b c : List Nat}, lexicographicallyLess a b = true → lexicographicallyLess b c = true → lexicographicallyLess a c = true
  | [], _, _, h, _ => by simp [lexicographicallyLess] at h
  | _ :: _, [], _, h, _ => by simp [lexicographicallyLess] at h
  | _ :: _, _ :: _, [], _, h => by simp [lexicographicallyLess] at h
  | x :: a, y :: b, z :: c, h1, h2 => by
    have ih := @lex_trans a b c
    simp only [lexicographicallyLess, Bool.or_eq_true, Bool.and_eq_true, decide_eq_true_eq, beq_iff_eq] at h1 h2 ⊢
    rcases h1 with h1 | ⟨e1, h1⟩ <;> rcases h2 with h2 | ⟨e2, h2⟩
    · exact .inl (by omega)
    · exact .inl (by omega)
    · exact .inl (by omega)
    · exact .inr ⟨by omega, ih h1 h2⟩
theorem lex_total : ∀ {a b : List Nat}, a.length = b.length → a ≠ b → lexicographicallyLess a b = true ∨ lexicographicallyLess b a = true
  | [], [], _, h => absurd rfl h
  | [], _ :: _, h, _ => by simp at h
  | _ :: _, [], h, _ => by simp at h
  | x :: a, y :: b, h, n => by
    have ih := @lex_total a b (by simpa using h)
    simp only [lexicographicallyLess, Bool.or_eq_true, Bool.and_eq_true, decide_eq_true_eq, beq_iff_eq]
    rcases Nat.lt_trichotomy x y with e | e | e
    · exact .inl (.inl e)
    · subst e
      rcases ih (fun z => n (by rw [z])) with q | q
      · exact .inl (.inr ⟨rfl, q⟩)
      · exact .inr (.inr ⟨rfl, q⟩)
    · exact .inr (.inl e)
theorem better_iff {a b : List Nat} : s.isBetter a b = true ↔ s.totalValue b < s.totalValue a ∨ (s.totalValue a = s.totalValue b ∧ (a.length < b.length ∨ (a.length = b.length ∧ lexicographicallyLess a b = true))) := by
  simp only [Sale.isBetter, Bool.or_eq_true, Bool.and_eq_true, decide_eq_true_eq, beq_iff_eq]
theorem better_irr (a : List Nat) : ¬ s.isBetter a a = true := by
  rw [better_iff, lex_irr]
  rintro (h | ⟨_, h | ⟨_, h⟩⟩)
  · omega
  · omega
  · cases h
theorem better_trans {a b c : List Nat} (h1 : s.isBetter a b = true) (h2 : s.isBetter b c = true) : s.isBetter a c = true := by
  rw [better_iff] at h1 h2 ⊢
  rcases h1 with h1 | ⟨e1, h1⟩ <;> rcases h2 with h2 | ⟨e2, h2⟩
  · exact .inl (by omega)
  · exact .inl (by omega)
  · exact .inl (by omega)
  · refine .inr ⟨by omega, ?_⟩
    rcases h1 with h1 | ⟨f1, h1⟩ <;> rcases h2 with h2 | ⟨f2, h2⟩
    · exact .inl (by omega)
    · exact .inl (by omega)
    · exact .inl (by omega)
    · exact .inr ⟨by omega, lex_trans h1 h2⟩
theorem better_total {a b : List Nat} (h : a ≠ b) : s.isBetter a b = true ∨ s.isBetter b a = true := by
  rw [better_iff, better_iff]
  rcases Nat.lt_trichotomy (s.totalValue a) (s.totalValue b) with e | e | e
  · exact .inr (.inl e)
  · rcases Nat.lt_trichotomy a.length b.length with f | f | f
    · exact .inl (.inr ⟨e, .inl f⟩)
    · rcases lex_total f h with q | q
      · exact .inl (.inr ⟨e, .inr ⟨f, q⟩⟩)
      · exact .inr (.inr ⟨e.symm, .inr ⟨f.symm, q⟩⟩)
    · exact .inr (.inr ⟨e.symm, .inl f⟩)
  · exact .inl (.inl e)

/-- the fold keeps the best -/
theorem fold_best : ∀ (L : List (List Nat)) (b : List Nat), (∀ x, x ∈ b :: L → ¬ s.isBetter x (L.foldl (fun best c => if s.isBetter c best = true then c else best) b) = true) ∧ L.foldl (fun best c => if s.isBetter c best = true then c else best) b ∈ b :: L
  | [], b => ⟨fun x hx => by
      rw [List.mem_singleton.mp hx]
      exact better_irr s b, List.mem_singleton.mpr rfl⟩
  | c :: L, b => by
    rw [List.foldl_cons]
    by_cases h : s.isBetter c b = true
    · rw [if_pos h]
      obtain ⟨i1, i2⟩ := fold_best L c
      refine ⟨fun x hx => ?_, List.mem_cons_of_mem _ i2⟩
      rcases List.mem_cons.mp hx with rfl | hx
      · intro z
        exact i1 c List.mem_cons_self (better_trans s h z)
      · exact i1 x hx
    · rw [if_neg h]
      obtain ⟨i1, i2⟩ := fold_best L b
      refine ⟨fun x hx => ?_, ?_⟩
      · rcases List.mem_cons.mp hx with rfl | hx
        · exact i1 x List.mem_cons_self
        · rcases List.mem_cons.mp hx with rfl | hx
          · intro z
            by_cases e : x = b
            · subst e
              exact i1 x List.mem_cons_self z
            · rcases better_total s e with q | q
              · exact h q
              · exact i1 b List.mem_cons_self (better_trans s q z)
          · exact i1 x (List.mem_cons_of_mem _ hx)
      · rcases List.mem_cons.mp i2 with e | e
        · rw [e]
          exact List.mem_cons_self
        · exact List.mem_cons_of_mem _ (List.mem_cons_of_mem _ e)
theorem nil_sel : [] ∈ s.selections := (gen_is s).mp (nil_gen s _)
theorem best_mem : s.bestSelection ∈ s.selections := by
  rcases List.mem_cons.mp (fold_best s s.selections []).2 with e | e
  · have : s.bestSelection = [] := e
    rw [this]
    exact nil_sel s
  · exact e
theorem best_top {x : List Nat} (h : x ∈ s.selections) : ¬ s.isBetter x s.bestSelection = true := (fold_best s s.selections []).1 x (List.mem_cons_of_mem _ h)
/-- what is best among all is the best selection -/
theorem best_unique {x : List Nat} (h : x ∈ s.selections) (t : ∀ y ∈ s.selections, ¬ s.isBetter y x = true) : x = s.bestSelection := by
  by_cases e : x = s.bestSelection
  · exact e
  · rcases better_total s e with q | q
    · exact absurd q (best_top s h)
    · exact absurd q (t _ (best_mem s))
theorem best_value {x : List Nat} (h : x ∈ s.selections) : s.totalValue x ≤ s.totalValue s.bestSelection := by
  have := best_top s h
  rw [better_iff] at this
  exact Nat.le_of_not_lt fun z => this (.inl z)
theorem best_viol : s.violation s.bestSelection = none := ((mem_gen s).mp ((gen_is s).mpr (best_mem s))).2
theorem best_sub : List.Sublist s.bestSelection ((List.range s.bids.length).filter fun n => s.isAdmissible (s.bid n)) := ((mem_gen s).mp ((gen_is s).mpr (best_mem s))).1
theorem best_lt {n : Nat} (h : n ∈ s.bestSelection) : n < s.bids.length := List.mem_range.mp (List.mem_filter.mp ((best_sub s).subset h)).1
end TBM

namespace TBM
open Amounts TimberAuction
variable (s : Sale)
/-! ### one bid withdrawn -/
theorem wd_len (k : Nat) : (s.withdraw k).bids.length = s.bids.length := by
  show (s.bids.set k _).length = _
  rw [List.length_set]
theorem wd_bid {k n : Nat} (h : n ≠ k) : (s.withdraw k).bid n = s.bid n := by
  show (s.bids.set k _).getD n _ = s.bids.getD n _
  rw [List.getD_eq_getElem?_getD, List.getD_eq_getElem?_getD, List.getElem?_set_ne (Ne.symm h)]
theorem wd_self (k : Nat) : ((s.withdraw k).bid k).withdrawn = true := by
  show ((s.bids.set k { s.bid k with withdrawn := true }).getD k ⟨[], [], [], true⟩).withdrawn = true
  rw [List.getD_eq_getElem?_getD]
  by_cases h : k < s.bids.length
  · rw [List.getElem?_set_self h]
    rfl
  · rw [List.getElem?_eq_none (by rw [List.length_set]; omega)]
    rfl
theorem wd_adm {k n : Nat} : (s.withdraw k).isAdmissible ((s.withdraw k).bid n) = true ↔ s.isAdmissible (s.bid n) = true ∧ n ≠ k := by
  by_cases h : n = k
  · subst h
    have e : (s.withdraw n).isAdmissible ((s.withdraw n).bid n) = false := by
      unfold Sale.isAdmissible
      rw [wd_self]
      rfl
    rw [e]
    simp
  · rw [wd_bid s h]
    exact ⟨fun z => ⟨z, h⟩, fun z => z.1⟩
theorem wd_viol {k : Nat} {l : List Nat} (h : k ∉ l) : (s.withdraw k).violation l = none ↔ s.violation l = none := by
  rw [viol_none, viol_none]
  have e : ∀ n ∈ l, (s.withdraw k).bid n = s.bid n := fun n hn => wd_bid s fun z => h (z ▸ hn)
  have e1 : ∀ lot, (s.withdraw k).bidsWithLot l lot = s.bidsWithLot l lot := fun lot => by
    unfold Sale.bidsWithLot
    rw [List.filter_congr fun n hn => by rw [e n hn]]
  have e2 : ∀ b, (s.withdraw k).bidsWithBidder l b = s.bidsWithBidder l b := fun b => by
    unfold Sale.bidsWithBidder
    rw [List.filter_congr fun n hn => by rw [e n hn]]
  have e3 : (∀ n ∈ l, (s.withdraw k).isAdmissible ((s.withdraw k).bid n) = true) ↔ ∀ n ∈ l, s.isAdmissible (s.bid n) = true :=
    ⟨fun g n hn => ((wd_adm s).mp (g n hn)).1, fun g n hn => (wd_adm s).mpr ⟨g n hn, fun z => h (z ▸ hn)⟩⟩
  rw [e3]
  simp only [e1, e2]
  exact Iff.rfl
theorem wd_total {k : Nat} {l : List Nat} (h : k ∉ l) : (s.withdraw k).totalValue l = s.totalValue l := by
  unfold Sale.totalValue
  congr 1
  refine List.map_congr_left fun n hn => ?_
  have e : n ≠ k := fun z => h (z ▸ hn)
  rw [wd_bid s e]
  rfl
theorem filter_sub {xs l : List Nat} {p : Nat → Bool} : List.Sublist l (xs.filter p) ↔ List.Sublist l xs ∧ ∀ n ∈ l, p n = true := by
  constructor
  · intro h
    exact ⟨h.trans List.filter_sublist, fun n hn => (List.mem_filter.mp (h.subset hn)).2⟩
  · rintro ⟨h, g⟩
    have := h.filter p
    rwa [List.filter_eq_self.mpr g] at this
theorem wd_sel {k : Nat} {l : List Nat} : l ∈ (s.withdraw k).selections ↔ l ∈ s.selections ∧ k ∉ l := by
  rw [← gen_is, ← gen_is, mem_gen, mem_gen, filter_sub, filter_sub, wd_len]
  constructor
  · rintro ⟨⟨h1, h2⟩, h3⟩
    have hk : k ∉ l := fun z => ((wd_adm s).mp (h2 k z)).2 rfl
    exact ⟨⟨⟨h1, fun n hn => ((wd_adm s).mp (h2 n hn)).1⟩, (wd_viol s hk).mp h3⟩, hk⟩
  · rintro ⟨⟨⟨h1, h2⟩, h3⟩, hk⟩
    exact ⟨⟨h1, fun n hn => (wd_adm s).mpr ⟨h2 n hn, fun z => hk (z ▸ hn)⟩⟩, (wd_viol s hk).mpr h3⟩
/-- the values of the selections without k -/
def without (k : Nat) : List Nat := ((gen s s.bids.length).filter fun l => !l.contains k).map s.totalValue
theorem mem_without {k v : Nat} : v ∈ without s k ↔ ∃ l, l ∈ (s.withdraw k).selections ∧ s.totalValue l = v ∧ k ∉ l := by
  unfold without
  rw [List.mem_map]
  constructor
  · rintro ⟨l, h, e⟩
    obtain ⟨h1, h2⟩ := List.mem_filter.mp h
    have hk : k ∉ l := fun z => by
      rw [List.contains_iff_mem.mpr z] at h2
      cases h2
    exact ⟨l, (wd_sel s).mpr ⟨(gen_is s).mp h1, hk⟩, e, hk⟩
  · rintro ⟨l, h, e, hk⟩
    refine ⟨l, List.mem_filter.mpr ⟨(gen_is s).mpr ((wd_sel s).mp h).1, ?_⟩, e⟩
    cases c : l.contains k with
    | false => rfl
    | true => exact absurd (List.contains_iff_mem.mp c) hk
theorem without_is {k v : Nat} (h : v ∈ without s k) (t : ∀ x ∈ without s k, x ≤ v) : (s.withdraw k).totalValue (s.withdraw k).bestSelection = v := by
  obtain ⟨l, h1, h2, h3⟩ := (mem_without s).mp h
  have hb := best_mem (s.withdraw k)
  have hk := ((wd_sel s).mp hb).2
  apply Nat.le_antisymm
  · rw [wd_total s hk]
    exact t _ ((mem_without s).mpr ⟨_, hb, rfl, hk⟩)
  · rw [← h2, ← wd_total s h3]
    exact best_value _ h1
theorem without_ne (k : Nat) : without s k ≠ [] := by
  have : s.totalValue [] ∈ without s k := (mem_without s).mpr ⟨[], nil_sel _, rfl, fun z => nomatch z⟩
  intro e
  rw [e] at this
  cases this
theorem total_ge : ∀ {l : List Nat} {k : Nat}, k ∈ l → s.value (s.bid k) ≤ s.totalValue l
  | x :: l, k, h => by
    show _ ≤ s.value (s.bid x) + s.totalValue l
    rcases List.mem_cons.mp h with rfl | h
    · omega
    · have := total_ge h
      omega
/-- the threshold by the numbers in hand -/
theorem thr_is {k v : Nat} (hk : k ∈ s.bestSelection) (h : v ∈ without s k) (t : ∀ x ∈ without s k, x ≤ v) :
    ((s.threshold k : Nat) : Int) = max (s.reserve (s.bid k) : Int) ((v : Int) - ((s.totalValue s.bestSelection : Int) - (s.value (s.bid k) : Int))) := by
  have e := without_is s h t
  have g := total_ge s hk
  show ((max (s.reserve (s.bid k)) ((s.withdraw k).totalValue (s.withdraw k).bestSelection - (s.totalValue s.bestSelection - s.value (s.bid k))) : Nat) : Int) = _
  rw [e]
  omega
end TBM

namespace TBM
open Amounts TimberAuction
/-! ### volumes of lots -/
theorem getD_range {n g : Nat} {f : Nat → Nat} (h : g < n) : ((List.range n).map f).getD g 0 = f g := by
  rw [List.getD_eq_getElem?_getD, List.getElem?_map, List.getElem?_range h]
  rfl
theorem tot_of (ms : List Lot) : ms.foldr (fun (lot : Lot) (total : List Nat) => addByGrade lot.volumes total) (byGrade []) = (List.range 10).map fun g => sum (ms.map fun l => l.volumes.getD g 0) := by
  induction ms with
  | nil => rfl
  | cons l ms ih =>
    rw [List.foldr_cons, ih]
    unfold addByGrade
    show (List.range 10).map _ = _
    refine List.map_congr_left fun g hg => ?_
    rw [getD_range (List.mem_range.mp hg), List.map_cons, sum_cons]
theorem tot_is (ls : List Lot) (nums : List Nat) : totalVolumes ls nums = (List.range 10).map fun g => sum ((nums.filterMap fun n => ls[n]?).map fun l => l.volumes.getD g 0) := tot_of _
theorem tot_len (ls : List Lot) (nums : List Nat) : (totalVolumes ls nums).length = 10 := by
  rw [tot_is, List.length_map, List.length_range]
theorem grade_len (l : List Nat) : (byGrade l).length = 10 := by
  unfold byGrade gradeCount
  rw [List.length_map, List.length_range]
theorem members_get {ls : List Lot} : ∀ {nums : List Nat}, (∀ n ∈ nums, n < ls.length) → (nums.filterMap fun n => ls[n]?).length = nums.length ∧ ∀ (i n : Nat), nums[i]? = some n → (nums.filterMap fun n => ls[n]?)[i]? = ls[n]?
  | [], _ => ⟨rfl, fun i n h => by simp at h⟩
  | x :: nums, h => by
    obtain ⟨h1, h2⟩ := members_get (nums := nums) fun n hn => h n (List.mem_cons_of_mem _ hn)
    obtain ⟨y, hx⟩ : ∃ y, ls[x]? = some y := ⟨_, List.getElem?_eq_getElem (h x List.mem_cons_self)⟩
    rw [List.filterMap_cons, hx]
    refine ⟨by simp [h1], fun i n hn => ?_⟩
    cases i with
    | zero =>
      simp only [List.getElem?_cons_zero, Option.some.injEq] at hn ⊢
      rw [← hn, hx]
    | succ i =>
      rw [List.getElem?_cons_succ] at hn ⊢
      exact h2 i n hn
theorem value_is (v p : List Nat) : valueOf v p = sum ((List.range 10).map fun g => v.getD g 0 * p.getD g 0) := rfl
end TBM

namespace TBM
open Amounts TimberAuction
/-! ### fractions -/
theorem frac_is {a b : Nat} (hb : 0 < b) : (((a : Nat) : Rat) / ((b : Nat) : Rat)).num = ((a / Nat.gcd a b : Nat) : Int) ∧ (((a : Nat) : Rat) / ((b : Nat) : Rat)).den = b / Nat.gcd a b := by
  have e : ((a : Nat) : Rat) / ((b : Nat) : Rat) = mkRat (a : Int) b := by
    rw [Rat.mkRat_eq_div]
    rfl
  rw [e, Rat.num_mkRat, Rat.den_mkRat, if_neg (by omega), if_neg (by omega), Int.natAbs_natCast, Nat.gcd_comm b a]
  exact ⟨by rw [Int.natCast_ediv], rfl⟩
/-! ### bounds -/
theorem sum_le {m : Nat} : ∀ {l : List Nat}, (∀ x ∈ l, x ≤ m) → sum l ≤ l.length * m
  | [], _ => Nat.zero_le _
  | x :: l, h => by
    rw [sum_cons, List.length_cons, Nat.succ_mul]
    have h1 := h x List.mem_cons_self
    have h2 := sum_le (l := l) fun y hy => h y (List.mem_cons_of_mem _ hy)
    omega
theorem tot_le {ls : List Lot} {nums : List Nat} {m n : Nat} (h : ∀ l ∈ ls, ∀ v ∈ l.volumes, v ≤ m) (hn : nums.length ≤ n) : ∀ v ∈ totalVolumes ls nums, v ≤ n * m := by
  intro v hv
  rw [tot_is] at hv
  obtain ⟨g, _, rfl⟩ := List.mem_map.mp hv
  refine Nat.le_trans (sum_le (m := m) fun x hx => ?_) (Nat.mul_le_mul_right m (Nat.le_trans ?_ hn))
  · obtain ⟨l, hl, rfl⟩ := List.mem_map.mp hx
    obtain ⟨k, _, hk⟩ := List.mem_filterMap.mp hl
    have hm := List.mem_of_getElem? hk
    rw [List.getD_eq_getElem?_getD]
    cases hg : l.volumes[g]? with
    | none => exact Nat.zero_le _
    | some y => exact h l hm y (List.mem_of_getElem? hg)
  · rw [List.length_map]
    exact List.length_filterMap_le _ _
theorem valueOf_le {v p : List Nat} {m n : Nat} (hv : ∀ x ∈ v, x ≤ m) (hp : ∀ x ∈ p, x ≤ n) : valueOf v p ≤ 10 * (m * n) := by
  rw [value_is]
  refine Nat.le_trans (sum_le (m := m * n) fun x hx => ?_) (by rw [List.length_map, List.length_range]; exact Nat.le_refl _)
  obtain ⟨g, _, rfl⟩ := List.mem_map.mp hx
  refine Nat.mul_le_mul ?_ ?_
  · rw [List.getD_eq_getElem?_getD]
    cases hg : v[g]? with
    | none => exact Nat.zero_le _
    | some y => exact hv y (List.mem_of_getElem? hg)
  · rw [List.getD_eq_getElem?_getD]
    cases hg : p[g]? with
    | none => exact Nat.zero_le _
    | some y => exact hp y (List.mem_of_getElem? hg)
theorem grade_same {l : List Nat} (h : l.length = 10) : byGrade l = l := by
  unfold byGrade gradeCount
  refine List.ext_getElem? fun i => ?_
  rw [List.getElem?_map]
  by_cases hi : i < 10
  · rw [List.getElem?_range hi]
    show some (l.getD i 0) = _
    rw [List.getD_eq_getElem?_getD, List.getElem?_eq_getElem (by omega)]
    rfl
  · rw [List.getElem?_eq_none (by rw [List.length_range]; omega), List.getElem?_eq_none (by omega)]
    rfl
end TBM

namespace TBM
open PyWrtbsa
/-! ### calls in a list of numbers -/
theorem whole_id (c : List (List Int)) : whole c = c := by
  unfold whole
  split <;> rfl
theorem calls_is (l : List Int) : PyWrtbsa.calls l = PyFlat.calls shape l.length l := by
  unfold PyWrtbsa.calls
  cases PyFlat.calls shape l.length l with
  | none => rfl
  | some cs =>
    show some (cs.map whole) = some cs
    rw [show cs.map whole = cs.map id from List.map_congr_left fun c _ => whole_id c, List.map_id]
/-- the rows xs stand from pos on, up to pos' -/
def RowsAt (l : List Int) : Nat → List (List Int) → Nat → Prop
  | pos, [], pos' => pos' = pos
  | pos, x :: xs, pos' => ∃ n : Nat, l[pos]? = some (n : Int) ∧ x = (l.drop (pos + 1)).take n ∧ x.length = n ∧ RowsAt l (pos + 1 + n) xs pos'
theorem drop_cons {l : List Int} {pos : Nat} {p : Int} {r : List Int} (h : l.drop pos = p :: r) : l[pos]? = some p ∧ r = l.drop (pos + 1) := by
  have h1 : (l.drop pos)[0]? = some p := by rw [h]; rfl
  rw [List.getElem?_drop, Nat.add_zero] at h1
  refine ⟨h1, ?_⟩
  rw [← List.drop_drop, h]
  rfl
theorem rows_at {l : List Int} : ∀ {k pos : Nat} {xs : List (List Int)} {t : List Int}, PyFlat.rows k (l.drop pos) = some (xs, t) → xs.length = k ∧ ∃ pos', t = l.drop pos' ∧ RowsAt l pos xs pos'
  | 0, pos, xs, t, h => by
    unfold PyFlat.rows at h
    cases h
    exact ⟨rfl, pos, rfl, rfl⟩
  | k + 1, pos, xs, t, h => by
    unfold PyFlat.rows at h
    cases hd : l.drop pos with
    | nil =>
      rw [hd] at h
      cases h
    | cons p r =>
      obtain ⟨h1, h2⟩ := drop_cons hd
      rw [hd] at h
      unfold PyFlat.row at h
      by_cases hc : 0 ≤ p ∧ p.toNat ≤ r.length
      · simp only [if_pos hc] at h
        rw [h2, List.drop_drop] at h
        cases hr : PyFlat.rows k (l.drop (pos + 1 + p.toNat)) with
        | none =>
          rw [hr] at h
          cases h
        | some q =>
          obtain ⟨ys, t'⟩ := q
          rw [hr] at h
          cases h
          obtain ⟨e1, pos', e2, e3⟩ := rows_at hr
          refine ⟨by simp [e1], pos', e2, p.toNat, ?_, rfl, ?_, e3⟩
          · rw [h1, Int.toNat_of_nonneg hc.1]
          · rw [List.length_take, ← h2]
            exact Nat.min_eq_left hc.2
      · simp only [if_neg hc] at h
        cases h
theorem RowsAt.step {l : List Int} : ∀ {xs : List (List Int)} {pos pos' i pi : Nat} {x : List Int}, RowsAt l pos xs pos' → RowsAt l pos (xs.take i) pi → xs[i]? = some x → ∃ n : Nat, l[pi]? = some (n : Int) ∧ x = (l.drop (pi + 1)).take n ∧ x.length = n ∧ RowsAt l pos (xs.take (i + 1)) (pi + 1 + n)
  | [], _, _, _, _, _, _, _, h => by simp at h
  | y :: xs, pos, pos', 0, pi, x, h1, h2, h3 => by
    obtain ⟨n, a, b, b2, c⟩ := h1
    simp only [List.getElem?_cons_zero, Option.some.injEq] at h3
    subst h3
    have e : pi = pos := h2
    subst e
    exact ⟨n, a, b, b2, n, a, b, b2, rfl⟩
  | y :: xs, pos, pos', i + 1, pi, x, h1, h2, h3 => by
    obtain ⟨n, a, b, b2, c⟩ := h1
    obtain ⟨n', a', b', b2', c'⟩ := h2
    rw [a] at a'
    have en : n = n' := by
      have := Option.some.inj a'
      omega
    subst en
    obtain ⟨m, d1, d2, d3, d4⟩ := RowsAt.step c c' (by simpa using h3)
    exact ⟨m, d1, d2, d3, n, a, b, b2, d4⟩
theorem RowsAt.same {l : List Int} : ∀ {xs : List (List Int)} {pos p q : Nat}, RowsAt l pos xs p → RowsAt l pos xs q → p = q
  | [], pos, p, q, h1, h2 => by
    have e1 : p = pos := h1
    have e2 : q = pos := h2
    omega
  | y :: xs, pos, p, q, h1, h2 => by
    obtain ⟨n, a, _, _, c⟩ := h1
    obtain ⟨n', a', _, _, c'⟩ := h2
    rw [a] at a'
    have en : n = n' := by
      have := Option.some.inj a'
      omega
    subst en
    exact c.same c'
/-- the calls cs stand from pos on -/
def Rest (l : List Int) (pos : Nat) (cs : List (List (List Int))) : Prop := ∃ f, PyFlat.calls shape f (l.drop pos) = some cs
theorem Rest.end_ {l : List Int} {pos : Nat} (h : Rest l pos []) : l.length ≤ pos := by
  obtain ⟨f, h⟩ := h
  cases hd : l.drop pos with
  | nil => exact List.drop_eq_nil_iff.mp hd
  | cons p r =>
    rw [hd] at h
    cases f with
    | zero =>
      unfold PyFlat.calls at h
      cases h
    | succ f =>
      unfold PyFlat.calls at h
      split at h
      · cases h
      · split at h <;> cases h
theorem Rest.next {l : List Int} {pos : Nat} {c : List (List Int)} {cs : List (List (List Int))} (h : Rest l pos (c :: cs)) : ∃ (p : Int) (n k : Nat) (xs : List (List Int)) (pos' : Nat), l[pos]? = some p ∧ shape p = some (n, k) ∧ ((l.drop (pos + 1)).take n).length = n ∧ xs.length = k ∧ RowsAt l (pos + 1 + n) xs pos' ∧ c = (p :: (l.drop (pos + 1)).take n) :: xs ∧ Rest l pos' cs := by
  obtain ⟨f, h⟩ := h
  cases hd : l.drop pos with
  | nil =>
    rw [hd] at h
    cases f <;> (unfold PyFlat.calls at h; cases h)
  | cons p r =>
    obtain ⟨h1, h2⟩ := drop_cons hd
    rw [hd] at h
    cases f with
    | zero =>
      unfold PyFlat.calls at h
      cases h
    | succ f =>
      unfold PyFlat.calls at h
      cases hc : PyFlat.call shape (p :: r) with
      | none =>
        rw [hc] at h
        cases h
      | some q =>
        obtain ⟨c', t⟩ := q
        rw [hc] at h
        cases hcs : PyFlat.calls shape f t with
        | none =>
          simp only [hcs] at h
          cases h
        | some cs' =>
          simp only [hcs] at h
          cases h
          unfold PyFlat.call at hc
          cases hs : shape p with
          | none =>
            simp only [hs] at hc
            cases hc
          | some q =>
            obtain ⟨n, k⟩ := q
            simp only [hs] at hc
            by_cases hn : r.length < n
            · rw [if_pos hn] at hc
              cases hc
            · rw [if_neg hn, h2, List.drop_drop] at hc
              cases hr : PyFlat.rows k (l.drop (pos + 1 + n)) with
              | none =>
                rw [hr] at hc
                cases hc
              | some q =>
                obtain ⟨xs, t'⟩ := q
                rw [hr] at hc
                cases hc
                obtain ⟨e1, pos', e2, e3⟩ := rows_at hr
                refine ⟨p, n, k, xs, pos', h1, hs, ?_, e1, e3, rfl, f, ?_⟩
                · rw [List.length_take, ← h2]
                  omega
                · rw [← e2]
                  exact hcs
theorem told_cons (a : List Int) (r : List (List Int)) : PyFlat.told (a :: r) = (a.length : Int) :: a ++ PyFlat.told r := rfl
theorem told_append (a b : List (List Int)) : PyFlat.told (a ++ b) = PyFlat.told a ++ PyFlat.told b := List.flatMap_append
end TBM

namespace TBM
open Amounts TimberAuction
/-! ### amounts as fractions -/
theorem nz {n : Nat} (h : 0 < n) : ((n : Nat) : Rat) ≠ 0 := fun z => by
  have := Rat.natCast_eq_zero_iff.mp z
  omega
theorem rat_is {f : Rat} {n : Nat} (h : f.num = (n : Int)) : f = ((n : Nat) : Rat) / ((f.den : Nat) : Rat) := by
  have e := Rat.mkRat_self f
  rw [h, Rat.mkRat_eq_div, Rat.intCast_natCast] at e
  exact e.symm
theorem est_is {f : Rat} {n v : Nat} (h : f.num = (n : Int)) : ((v : Nat) : Rat) * f / 1000 = ((v * n : Nat) : Rat) / ((1000 * f.den : Nat) : Rat) := by
  have hd := nz f.den_pos
  have e := rat_is h
  rw [Rat.natCast_mul, Rat.natCast_mul]
  have : ((1000 : Nat) : Rat) = 1000 := rfl
  rw [this]
  generalize ((f.den : Nat) : Rat) = d at *
  subst e
  grind
/-- two fractions of whole numbers -/
theorem frac_lt {a b c d : Nat} (hb : 0 < b) (hd : 0 < d) : ((a : Nat) : Rat) / ((b : Nat) : Rat) < ((c : Nat) : Rat) / ((d : Nat) : Rat) ↔ a * d < c * b := by
  have h1 : (0 : Rat) < ((b : Nat) : Rat) := Rat.natCast_pos.mpr hb
  have h2 : (0 : Rat) < ((d : Nat) : Rat) := Rat.natCast_pos.mpr hd
  rw [Rat.div_lt_iff h1, ← Rat.natCast_lt_natCast, Rat.natCast_mul, Rat.natCast_mul]
  have e : ((c : Nat) : Rat) / ((d : Nat) : Rat) * ((b : Nat) : Rat) * ((d : Nat) : Rat) = ((c : Nat) : Rat) * ((b : Nat) : Rat) := by
    have hd' := nz hd
    grind
  constructor
  · intro h
    have := Rat.mul_lt_mul_of_pos_right h h2
    rw [e] at this
    exact this
  · intro h
    refine Rat.lt_of_mul_lt_mul_right (c := ((d : Nat) : Rat)) ?_ (Rat.le_of_lt h2)
    rw [e]
    exact h
theorem frac_eq {a b c d : Nat} (hb : 0 < b) (hd : 0 < d) (h : a * d = c * b) : ((a : Nat) : Rat) / ((b : Nat) : Rat) = ((c : Nat) : Rat) / ((d : Nat) : Rat) := by
  have hb' := nz hb
  have hd' := nz hd
  have e : ((a : Nat) : Rat) * ((d : Nat) : Rat) = ((c : Nat) : Rat) * ((b : Nat) : Rat) := by
    rw [← Rat.natCast_mul, ← Rat.natCast_mul, h]
  grind
/-- to the nearest, a half up -/
theorem round_is {a b : Nat} (hb : 0 < b) : roundNearest (((a : Nat) : Rat) / ((b : Nat) : Rat)) = (((2 * a + b) / (2 * b) : Nat) : Int) := by
  unfold roundNearest
  have hb' := nz hb
  have e : ((a : Nat) : Rat) / ((b : Nat) : Rat) + 1 / 2 = ((2 * a + b : Nat) : Rat) / ((2 * b : Nat) : Rat) := by
    rw [Rat.natCast_add, Rat.natCast_mul, Rat.natCast_mul]
    have : ((2 : Nat) : Rat) = 2 := rfl
    rw [this]
    grind
  rw [e, Rat.floor_def]
  obtain ⟨h1, h2⟩ := frac_is (a := 2 * a + b) (b := 2 * b) (by omega)
  rw [h1, h2]
  have hg : 0 < Nat.gcd (2 * a + b) (2 * b) := Nat.gcd_pos_of_pos_right _ (by omega)
  rw [← Int.natCast_ediv]
  congr 1
  obtain ⟨x, hx⟩ := Nat.gcd_dvd_left (2 * a + b) (2 * b)
  obtain ⟨y, hy⟩ := Nat.gcd_dvd_right (2 * a + b) (2 * b)
  generalize Nat.gcd (2 * a + b) (2 * b) = g at *
  rw [hx, hy, Nat.mul_div_cancel_left _ hg, Nat.mul_div_cancel_left _ hg, Nat.mul_div_mul_left _ _ hg]
theorem round_mono {x y : Rat} (h : x ≤ y) : roundNearest x ≤ roundNearest y := by
  unfold roundNearest
  exact Rat.floor_monotone (Rat.add_le_add_right.mpr h)
theorem round_max {x y : Rat} : roundNearest (maxRat x y) = max (roundNearest x) (roundNearest y) := by
  unfold maxRat
  split
  · rename_i h
    have := round_mono (Rat.le_of_lt h)
    omega
  · rename_i h
    have := round_mono (Rat.not_lt.mp h)
    omega
/-- a sum of fractions over one denominator -/
theorem sum_frac {α : Type} {g : α → Rat} {n : α → Nat} {d : Nat} (hd : 0 < d) : ∀ {l : List α}, (∀ x ∈ l, g x = ((n x : Nat) : Rat) / ((d : Nat) : Rat)) → sumRat (l.map g) = ((sum (l.map n) : Nat) : Rat) / ((d : Nat) : Rat)
  | [], _ => by
    show (0 : Rat) = ((0 : Nat) : Rat) / _
    have : ((0 : Nat) : Rat) = 0 := rfl
    rw [this, Rat.div_def, Rat.zero_mul]
  | x :: l, h => by
    have ih := sum_frac hd (l := l) fun y hy => h y (List.mem_cons_of_mem _ hy)
    show g x + sumRat (l.map g) = ((n x + sum (l.map n) : Nat) : Rat) / _
    rw [ih, h x List.mem_cons_self, Rat.natCast_add]
    have hd' := nz hd
    grind
/-- a delivery's value -/
theorem del_is {f : Rat} {n a x y : Nat} (h : f.num = (n : Int)) (hy : 0 < y) : ((a : Nat) : Rat) * ((x : Nat) : Rat) / ((y : Nat) : Rat) * f / 1000 = ((a * x * n : Nat) : Rat) / ((y * (1000 * f.den) : Nat) : Rat) := by
  have hd := nz f.den_pos
  have hy' := nz hy
  have e := rat_is h
  rw [Rat.natCast_mul, Rat.natCast_mul, Rat.natCast_mul, Rat.natCast_mul]
  have : ((1000 : Nat) : Rat) = 1000 := rfl
  rw [this]
  generalize ((f.den : Nat) : Rat) = d at *
  subst e
  grind
def rnd (a b : Nat) : Nat := (2 * a + b) / (2 * b)
/-- what has been delivered under a contract, in whole numbers -/
def delTop (ixs : List (Nat × Nat)) (ds : List Delivery) (number : Nat) (c : Contract) : Nat :=
  sum ((ds.filter fun (d : Delivery) => d.contract == number).map fun (d : Delivery) => d.volume * c.prices.getD d.grade 0 * indexOn ixs d.day * c.factor.num.toNat)
theorem deliv_is {ixs : List (Nat × Nat)} {ds : List Delivery} {number : Nat} {c : Contract} (h : 0 ≤ c.factor.num) (hi : 0 < indexOn ixs c.day) :
    deliveredValue ixs ds number c = ((delTop ixs ds number c : Nat) : Rat) / ((indexOn ixs c.day * (1000 * c.factor.den) : Nat) : Rat) := by
  unfold deliveredValue delTop
  refine sum_frac (Nat.mul_pos hi (Nat.mul_pos (by decide) c.factor.den_pos)) fun d _ => ?_
  exact del_is (by omega) hi
theorem estim_is {c : Contract} (h : 0 ≤ c.factor.num) : estimate c = ((valueOf c.volumes c.prices * c.factor.num.toNat : Nat) : Rat) / ((1000 * c.factor.den : Nat) : Rat) := est_is (by omega)
theorem adv_is {c : Contract} (h : 0 ≤ c.factor.num) : estimate c * ((c.advance : Nat) : Rat) / 1000 = ((valueOf c.volumes c.prices * c.factor.num.toNat * c.advance : Nat) : Rat) / ((1000 * c.factor.den * 1000 : Nat) : Rat) := by
  rw [estim_is h, Rat.natCast_mul (valueOf c.volumes c.prices * c.factor.num.toNat), Rat.natCast_mul (1000 * c.factor.den)]
  have hd := nz (Nat.mul_pos (by decide : 0 < 1000) c.factor.den_pos)
  have : ((1000 : Nat) : Rat) = 1000 := rfl
  generalize ((1000 * c.factor.den : Nat) : Rat) = d at *
  rw [this]
  grind
/-- what is due under a contract, in whole numbers -/
theorem due_is {ixs : List (Nat × Nat)} {ds : List Delivery} {number : Nat} {c : Contract} (h : 0 ≤ c.factor.num) (hi : 0 < indexOn ixs c.day) :
    amountDue ixs ds number c = if c.closed = true then rnd (delTop ixs ds number c) (indexOn ixs c.day * (1000 * c.factor.den))
      else max (rnd (delTop ixs ds number c) (indexOn ixs c.day * (1000 * c.factor.den))) (rnd (valueOf c.volumes c.prices * c.factor.num.toNat * c.advance) (1000 * c.factor.den * 1000)) := by
  have h1 : 0 < indexOn ixs c.day * (1000 * c.factor.den) := Nat.mul_pos hi (Nat.mul_pos (by decide) c.factor.den_pos)
  have h2 : 0 < 1000 * c.factor.den * 1000 := Nat.mul_pos (Nat.mul_pos (by decide) c.factor.den_pos) (by decide)
  unfold amountDue rnd
  split
  · rw [deliv_is h hi, round_is h1]
    rfl
  · rw [round_max, deliv_is h hi, adv_is h, round_is h1, round_is h2]
    have key : ∀ A B : Nat, (max (A : Int) (B : Int)).toNat = max A B := by
      intro A B
      omega
    exact key _ _
/-- an index that is set, or 1000 -/
theorem index_pos {ixs : List (Nat × Nat)} (h : ∀ e ∈ ixs, 0 < e.2) (day : Nat) : 0 < indexOn ixs day := by
  unfold indexOn
  have key : ∀ (l : List (Nat × Nat)) (o : Option (Nat × Nat)), (∀ e ∈ l, 0 < e.2) → (∀ e, o = some e → 0 < e.2) → ∀ e, l.foldl (fun (latest : Option (Nat × Nat)) (entry : Nat × Nat) => if day < entry.1 then latest else match latest with
      | none => some entry
      | some other => if other.1 < entry.1 then some entry else some other) o = some e → 0 < e.2 := by
    intro l
    induction l with
    | nil => intro o _ ho e he; exact ho e he
    | cons x l ih =>
      intro o hl ho e he
      rw [List.foldl_cons] at he
      refine ih _ (fun y hy => hl y (List.mem_cons_of_mem _ hy)) (fun y hy => ?_) e he
      have hx := hl x List.mem_cons_self
      split at hy
      · exact ho y hy
      · split at hy
        · cases hy
          exact hx
        · rename_i other
          split at hy
          · cases hy
            exact hx
          · exact ho y hy
  cases hf : ixs.foldl (fun (latest : Option (Nat × Nat)) (entry : Nat × Nat) => if day < entry.1 then latest else match latest with
      | none => some entry
      | some other => if other.1 < entry.1 then some entry else some other) none with
  | none => decide
  | some e => exact key ixs none h (fun e h => (by cases h)) e hf
end TBM

namespace TBM
open Amounts TimberAuction
/-! ### the index of a day -/
def idxF (day : Nat) : Option (Nat × Nat) → Nat × Nat → Option (Nat × Nat) := fun latest entry => if day < entry.1 then latest else match latest with
  | none => some entry
  | some other => if other.1 < entry.1 then some entry else some other
theorem idxF_out {day : Nat} {o : Option (Nat × Nat)} {y : Nat × Nat} (h : day < y.1) : idxF day o y = o := if_pos h
theorem idxF_none {day : Nat} {y : Nat × Nat} (h : ¬ day < y.1) : idxF day none y = some y := if_neg h
theorem idxF_new {day : Nat} {y z : Nat × Nat} (h : ¬ day < y.1) (g : z.1 < y.1) : idxF day (some z) y = some y := (if_neg h).trans (if_pos g)
theorem idxF_old {day : Nat} {y z : Nat × Nat} (h : ¬ day < y.1) (g : ¬ z.1 < y.1) : idxF day (some z) y = some z := (if_neg h).trans (if_neg g)
theorem idx_inv (day : Nat) (l : List (Nat × Nat)) : ∀ (o : Option (Nat × Nat)), (∀ e, o = some e → e.1 ≤ day) → ∀ r, l.foldl (idxF day) o = r →
    (r = none → o = none ∧ ∀ e ∈ l, ¬ e.1 ≤ day) ∧ ∀ e, r = some e → e.1 ≤ day ∧ (o = some e ∨ e ∈ l) ∧ (∀ x, o = some x → x.1 ≤ e.1) ∧ ∀ x ∈ l, x.1 ≤ day → x.1 ≤ e.1 := by
  induction l with
  | nil =>
    intro o ho r hr
    have hr : o = r := hr
    subst hr
    refine ⟨fun h => ⟨h, fun e he => by cases he⟩, fun e he => ⟨ho e he, .inl he, fun x hx => ?_, fun x hx => by cases hx⟩⟩
    rw [he] at hx
    cases hx
    exact Nat.le_refl _
  | cons y l ih =>
    intro o ho r hr
    rw [List.foldl_cons] at hr
    by_cases hy : day < y.1
    · rw [idxF_out hy] at hr
      obtain ⟨h1, h2⟩ := ih o ho r hr
      refine ⟨fun h => ⟨(h1 h).1, fun e he => ?_⟩, fun e he => ?_⟩
      · rcases List.mem_cons.mp he with rfl | he
        · omega
        · exact (h1 h).2 e he
      · obtain ⟨a, b, c, d⟩ := h2 e he
        refine ⟨a, b.imp id fun z => List.mem_cons_of_mem _ z, c, fun x hx hd => ?_⟩
        rcases List.mem_cons.mp hx with rfl | hx
        · omega
        · exact d x hx hd
    · cases o with
      | none =>
        rw [idxF_none hy] at hr
        obtain ⟨h1, h2⟩ := ih (some y) (fun e he => by cases he; omega) r hr
        refine ⟨fun h => (by cases (h1 h).1), fun e he => ?_⟩
        obtain ⟨a, b, c, d⟩ := h2 e he
        refine ⟨a, .inr ?_, fun x hx => (by cases hx), fun x hx hd => ?_⟩
        · rcases b with b | b
          · cases b
            exact List.mem_cons_self
          · exact List.mem_cons_of_mem _ b
        · rcases List.mem_cons.mp hx with rfl | hx
          · exact c x rfl
          · exact d x hx hd
      | some z =>
        by_cases hz : z.1 < y.1
        · rw [idxF_new hy hz] at hr
          obtain ⟨h1, h2⟩ := ih (some y) (fun e he => by cases he; omega) r hr
          refine ⟨fun h => (by cases (h1 h).1), fun e he => ?_⟩
          obtain ⟨a, b, c, d⟩ := h2 e he
          have hc := c y rfl
          refine ⟨a, .inr ?_, fun x hx => (by cases hx; omega), fun x hx hd => ?_⟩
          · rcases b with b | b
            · cases b
              exact List.mem_cons_self
            · exact List.mem_cons_of_mem _ b
          · rcases List.mem_cons.mp hx with rfl | hx
            · exact hc
            · exact d x hx hd
        · rw [idxF_old hy hz] at hr
          obtain ⟨h1, h2⟩ := ih (some z) ho r hr
          refine ⟨fun h => (by cases (h1 h).1), fun e he => ?_⟩
          obtain ⟨a, b, c, d⟩ := h2 e he
          have hc := c z rfl
          refine ⟨a, b.imp id fun z => List.mem_cons_of_mem _ z, c, fun x hx hd => ?_⟩
          rcases List.mem_cons.mp hx with rfl | hx
          · omega
          · exact d x hx hd
theorem indexOn_is (ixs : List (Nat × Nat)) (day : Nat) : ((∀ e ∈ ixs, ¬ e.1 ≤ day) ∧ indexOn ixs day = 1000) ∨ ∃ e ∈ ixs, e.1 ≤ day ∧ (∀ x ∈ ixs, x.1 ≤ day → x.1 ≤ e.1) ∧ indexOn ixs day = e.2 := by
  obtain ⟨r, hr⟩ : ∃ r, ixs.foldl (idxF day) none = r := ⟨_, rfl⟩
  obtain ⟨h1, h2⟩ := idx_inv day ixs none (fun e h => by cases h) r hr
  have ei : indexOn ixs day = (r.map fun (entry : Nat × Nat) => entry.2).getD 1000 := by
    rw [← hr]
    rfl
  rw [ei]
  cases r with
  | none => exact .inl ⟨(h1 rfl).2, rfl⟩
  | some e =>
    obtain ⟨a, b, c, d⟩ := h2 e rfl
    rcases b with b | b
    · cases b
    · exact .inr ⟨e, b, a, d, rfl⟩
/-! ### the first ones of a sorted list -/
theorem filter_at {α : Type} {lt : α → α → Bool} (asym : ∀ a b, lt a b = true → lt b a = false) : ∀ {l : List α} {p : Nat} {x : α}, l.Pairwise (fun a b => lt a b = true) → l[p]? = some x → (l.filter fun y => lt y x).length = p
  | [], p, x, _, h => by simp at h
  | y :: l, 0, x, hp, h => by
    have h : y = x := by simpa using h
    subst h
    have irr : lt y y = false := by
      cases z : lt y y with
      | false => rfl
      | true =>
        have := asym y y z
        rw [z] at this
        cases this
    have : l.filter (fun z => lt z y) = [] := by
      rw [List.filter_eq_nil_iff]
      intro z hz
      rw [asym y z ((List.pairwise_cons.mp hp).1 z hz)]
      exact Bool.false_ne_true
    rw [List.filter_cons, irr, if_neg Bool.false_ne_true, this]
    rfl
  | y :: l, p + 1, x, hp, h => by
    have h : l[p]? = some x := by simpa using h
    have ih := filter_at asym (List.pairwise_cons.mp hp).2 h
    have hy : lt y x = true := (List.pairwise_cons.mp hp).1 x (List.mem_of_getElem? h)
    rw [List.filter_cons, hy, if_pos rfl, List.length_cons, ih]
def ltK (key : Nat → Int) (a b : Nat) : Bool := decide (key a < key b) || (decide (key a = key b) && decide (a < b))
theorem ltK_asym (key : Nat → Int) (a b : Nat) (h : ltK key a b = true) : ltK key b a = false := by
  unfold ltK at *
  simp only [Bool.or_eq_true, Bool.and_eq_true, decide_eq_true_eq] at h
  simp only [Bool.or_eq_false_iff, Bool.and_eq_false_iff, decide_eq_false_iff_not]
  omega
theorem sort_pair (key : Nat → Int) (n : Nat) : ((List.range n).mergeSort fun a b => decide (key a ≤ key b)).Pairwise (fun a b => ltK key a b = true) := by
  have tr : ∀ a b c : Nat, decide (key a ≤ key b) = true → decide (key b ≤ key c) = true → decide (key a ≤ key c) = true := fun a b c h1 h2 => by
    simp only [decide_eq_true_eq] at *
    omega
  have to : ∀ a b : Nat, (decide (key a ≤ key b) || decide (key b ≤ key a)) = true := fun a b => by
    simp only [Bool.or_eq_true, decide_eq_true_eq]
    omega
  have hs := List.pairwise_mergeSort (le := fun a b => decide (key a ≤ key b)) tr to (List.range n)
  have hp := List.mergeSort_perm (List.range n) (fun a b => decide (key a ≤ key b))
  have nd : ((List.range n).mergeSort fun a b => decide (key a ≤ key b)).Nodup := hp.nodup_iff.mpr List.nodup_range
  have inj : ∀ (i j : Nat) (hi : i < ((List.range n).mergeSort fun a b => decide (key a ≤ key b)).length) (hj : j < ((List.range n).mergeSort fun a b => decide (key a ≤ key b)).length), ((List.range n).mergeSort fun a b => decide (key a ≤ key b))[i] = ((List.range n).mergeSort fun a b => decide (key a ≤ key b))[j] → i = j := fun i j hi hj h => by
    rcases Nat.lt_trichotomy i j with z | z | z
    · exact absurd h (List.pairwise_iff_getElem.mp nd i j hi hj z)
    · exact z
    · exact absurd h.symm (List.pairwise_iff_getElem.mp nd j i hj hi z)
  rw [List.pairwise_iff_getElem]
  intro i j hi hj hij
  have h1 := List.pairwise_iff_getElem.mp hs i j hi hj hij
  simp only [decide_eq_true_eq] at h1
  generalize hL : ((List.range n).mergeSort fun a b => decide (key a ≤ key b)) = L at *
  unfold ltK
  simp only [Bool.or_eq_true, Bool.and_eq_true, decide_eq_true_eq]
  by_cases hk : key L[i] < key L[j]
  · exact .inl hk
  · refine .inr ⟨by omega, ?_⟩
    rcases Nat.lt_trichotomy L[i] L[j] with z | z | z
    · exact z
    · exact absurd (inj _ _ _ _ z) (by omega)
    · exfalso
      have mi : L[i] ∈ List.range n := hp.mem_iff.mp (List.getElem_mem hi)
      have sub : [L[j], L[i]].Sublist (List.range n) := by
        have : ([L[j], L[i]] : List Nat).Pairwise (· < ·) := by simp [z]
        have m2 : L[j] ∈ List.range n := hp.mem_iff.mp (List.getElem_mem hj)
        have hi' := List.mem_range.mp mi
        have e : List.range n = List.range (L[j] + 1) ++ (List.range (n - (L[j] + 1))).map (L[j] + 1 + ·) := by
          rw [← List.range_add]
          congr 1
          omega
        rw [e, List.range_succ]
        have s1 : [L[j]].Sublist (List.range L[j] ++ [L[j]]) := List.sublist_append_right _ _
        have s2 : [L[i]].Sublist ((List.range (n - (L[j] + 1))).map (L[j] + 1 + ·)) := by
          rw [List.singleton_sublist]
          exact List.mem_map.mpr ⟨L[i] - (L[j] + 1), List.mem_range.mpr (by omega), by omega⟩
        exact List.Sublist.append s1 s2
      have sub2 := List.pair_sublist_mergeSort (le := fun a b => decide (key a ≤ key b)) tr to (by simp only [decide_eq_true_eq]; omega) sub
      rw [hL] at sub2
      -- the smaller one stands ahead in both
      obtain ⟨is, h2, h3⟩ := List.sublist_eq_map_getElem sub2
      have hil : is.length = 2 := by
        have := congrArg List.length h2
        simpa using this.symm
      match is, hil, h2, h3 with
      | [a, b], _, h2, h3 =>
        have hab : a < b := by simpa using h3
        simp only [List.map_cons, List.map_nil, List.cons.injEq, and_true] at h2
        have e1 := inj _ _ _ _ h2.1
        have e2 := inj _ _ _ _ h2.2
        have : (a : Nat) < b := hab
        omega
theorem take_iff (key : Nat → Int) {n i r : Nat} (hi : i < n) : i ∈ ((List.range n).mergeSort fun a b => decide (key a ≤ key b)).take r ↔ ((List.range n).filter fun j => ltK key j i).length < r := by
  have hp := List.mergeSort_perm (List.range n) (fun a b => decide (key a ≤ key b))
  have hw := sort_pair key n
  generalize ((List.range n).mergeSort fun a b => decide (key a ≤ key b)) = L at *
  obtain ⟨p, hpl⟩ := List.mem_iff_getElem?.mp (hp.mem_iff.mpr (List.mem_range.mpr hi))
  have h1 := filter_at (ltK_asym key) hw hpl
  have h2 : ((List.range n).filter fun j => ltK key j i).length = p := by
    rw [← h1]
    exact ((hp.filter _).length_eq).symm
  rw [h2]
  constructor
  · intro h
    obtain ⟨q, hq⟩ := List.mem_iff_getElem?.mp h
    have hql := (List.getElem?_eq_some_iff.mp hq).1
    rw [List.length_take] at hql
    have hq2 : L[q]? = some i := by
      rw [List.getElem?_take_of_lt (by omega)] at hq
      exact hq
    have := filter_at (ltK_asym key) hw hq2
    omega
  · intro h
    refine List.mem_of_getElem? (i := p) ?_
    rw [List.getElem?_take_of_lt h]
    exact hpl
/-! ### the parts of an amount -/
def partAt (due : Nat) (ws : List Nat) (order : List Nat) (i : Nat) : Nat := due * ws.getD i 0 / sum ws + if i ∈ order then 1 else 0
theorem distribute_is (key : Nat → Int) {due : Nat} {ws : List Nat} (hk : ∀ j, j < ws.length → key j = -((due * ws.getD j 0 % sum ws : Nat) : Int)) :
    distribute due ws = (List.range ws.length).map (partAt due ws (((List.range ws.length).mergeSort fun a b => decide (key a ≤ key b)).take (due - sum (ws.map fun w => due * w / sum ws)))) := by
  have hz : ∀ (l : List Nat), l.zipIdx = (List.range l.length).map fun j => (l.getD j 0, j) := fun l => by
    apply List.ext_getElem?
    intro j
    rw [List.getElem?_zipIdx, List.getElem?_map]
    by_cases h : j < l.length
    · rw [List.getElem?_range h, List.getElem?_eq_getElem h]
      simp [List.getD_eq_getElem?_getD, List.getElem?_eq_getElem h]
    · rw [List.getElem?_eq_none (by omega), List.getElem?_eq_none (by simpa using h)]
      rfl
  unfold distribute
  show (ws.zipIdx.map _) = _
  rw [hz ws, List.map_map]
  refine List.map_congr_left fun i hi => ?_
  have hi' := List.mem_range.mp hi
  unfold partAt
  show due * ws.getD i 0 / sum ws + (if _ then 1 else 0) = _
  congr 1
  have e : (((ws.map fun w => due * w % sum ws).zipIdx.filter fun (other : Nat × Nat) => decide (due * ws.getD i 0 % sum ws < other.1) || (other.1 == due * ws.getD i 0 % sum ws && decide (other.2 < i))).length) = ((List.range ws.length).filter fun j => ltK key j i).length := by
    rw [hz, List.length_map, List.filter_map, List.length_map]
    congr 1
    refine List.filter_congr fun j hj => ?_
    have hj' := List.mem_range.mp hj
    have hd : (ws.map fun w => due * w % sum ws).getD j 0 = due * ws.getD j 0 % sum ws := by
      rw [List.getD_eq_getElem?_getD, List.getElem?_map, List.getD_eq_getElem?_getD, List.getElem?_eq_getElem hj']
      rfl
    show (decide (due * ws.getD i 0 % sum ws < (ws.map fun w => due * w % sum ws).getD j 0) || ((ws.map fun w => due * w % sum ws).getD j 0 == due * ws.getD i 0 % sum ws && decide (j < i))) = ltK key j i
    rw [hd]
    unfold ltK
    rw [hk i hi', hk j hj']
    rw [Bool.eq_iff_iff]
    simp only [Bool.or_eq_true, Bool.and_eq_true, decide_eq_true_eq, beq_iff_eq]
    omega
  have t := take_iff key (r := due - sum (ws.map fun w => due * w / sum ws)) hi'
  rw [← e] at t
  by_cases h : i ∈ ((List.range ws.length).mergeSort fun a b => decide (key a ≤ key b)).take (due - sum (ws.map fun w => due * w / sum ws))
  · rw [if_pos h]
    exact if_pos (t.mp h)
  · rw [if_neg h]
    exact if_neg fun z => h (t.mpr z)
end TBM

namespace TBM
open Amounts TimberAuction
theorem near_is {q : Rat} (h : 0 ≤ q.num) : roundNearest q = ((rnd q.num.toNat q.den : Nat) : Int) := by
  have e : q.num = ((q.num.toNat : Nat) : Int) := (Int.toNat_of_nonneg h).symm
  have := round_is (a := q.num.toNat) (b := q.den) q.den_pos
  rw [← rat_is e] at this
  exact this
theorem adv_near {q : Rat} {k : Nat} (h : 0 ≤ q.num) : roundNearest (q * ((k : Nat) : Rat) / 1000) = ((rnd (q.num.toNat * k) (q.den * 1000) : Nat) : Int) := by
  have e : q.num = ((q.num.toNat : Nat) : Int) := (Int.toNat_of_nonneg h).symm
  have hd := nz q.den_pos
  have e2 : q * ((k : Nat) : Rat) / 1000 = ((q.num.toNat * k : Nat) : Rat) / ((q.den * 1000 : Nat) : Rat) := by
    have h1 := rat_is e
    rw [Rat.natCast_mul, Rat.natCast_mul]
    have : ((1000 : Nat) : Rat) = 1000 := rfl
    rw [this]
    generalize ((q.den : Nat) : Rat) = d at *
    generalize ((q.num.toNat : Nat) : Rat) = n at *
    rw [h1]
    grind
  rw [e2]
  exact round_is (Nat.mul_pos q.den_pos (by decide))
theorem frac_b {a b : Nat} (hb : 0 < b) : (((a : Nat) : Rat) / ((b : Nat) : Rat)).num = ((a / Nat.gcd a b : Nat) : Int) ∧ (((a : Nat) : Rat) / ((b : Nat) : Rat)).den = b / Nat.gcd a b := frac_is hb
theorem due_near {ixs : List (Nat × Nat)} {ds : List Delivery} {n : Nat} {c : Contract} (h1 : 0 ≤ (deliveredValue ixs ds n c).num) (h2 : 0 ≤ (estimate c).num) :
    amountDue ixs ds n c = if c.closed = true then rnd (deliveredValue ixs ds n c).num.toNat (deliveredValue ixs ds n c).den
      else max (rnd (deliveredValue ixs ds n c).num.toNat (deliveredValue ixs ds n c).den) (rnd ((estimate c).num.toNat * c.advance) ((estimate c).den * 1000)) := by
  unfold amountDue
  split
  · rw [near_is h1]
    rfl
  · rw [round_max, near_is h1, adv_near h2]
    have key : ∀ A B : Nat, (max (A : Int) (B : Int)).toNat = max A B := by
      intro A B
      omega
    exact key _ _
/-- without the factor -/
def delSum (ixs : List (Nat × Nat)) (c : Contract) (l : List Delivery) : Nat := sum (l.map fun (d : Delivery) => d.volume * c.prices.getD d.grade 0 * indexOn ixs d.day)
theorem delTop_is {ixs : List (Nat × Nat)} {ds : List Delivery} {n : Nat} {c : Contract} : delTop ixs ds n c = delSum ixs c (ds.filter fun (d : Delivery) => d.contract == n) * c.factor.num.toNat := by
  unfold delTop delSum
  generalize ds.filter (fun (d : Delivery) => d.contract == n) = l
  induction l with
  | nil => show 0 = 0 * _; omega
  | cons x l ih =>
    show _ + sum _ = (_ + sum _) * _
    rw [ih, Nat.add_mul]
theorem delSum_snoc {ixs : List (Nat × Nat)} {c : Contract} {l : List Delivery} {d : Delivery} : delSum ixs c (l ++ [d]) = delSum ixs c l + d.volume * c.prices.getD d.grade 0 * indexOn ixs d.day := by
  unfold delSum
  rw [List.map_append, sum_append]
  rfl
theorem delSum_le {ixs : List (Nat × Nat)} {c : Contract} (hp : ∀ g, c.prices.getD g 0 ≤ 1000000) (hi : ∀ d, indexOn ixs d ≤ 10000) : ∀ {l : List Delivery}, (∀ d ∈ l, d.volume ≤ 1000000) → delSum ixs c l ≤ l.length * 10000000000000000
  | [], _ => Nat.zero_le _
  | d :: l, h => by
    have ih := delSum_le hp hi (l := l) fun x hx => h x (List.mem_cons_of_mem _ hx)
    have h1 := h d List.mem_cons_self
    have h2 : d.volume * c.prices.getD d.grade 0 * indexOn ixs d.day ≤ 1000000 * 1000000 * 10000 := Nat.mul_le_mul (Nat.mul_le_mul h1 (hp _)) (hi _)
    show d.volume * c.prices.getD d.grade 0 * indexOn ixs d.day + delSum ixs c l ≤ (l.length + 1) * 10000000000000000
    omega
theorem index_le {ixs : List (Nat × Nat)} (h : ∀ e ∈ ixs, e.2 ≤ 10000) (day : Nat) : indexOn ixs day ≤ 10000 := by
  rcases indexOn_is ixs day with ⟨_, e⟩ | ⟨x, hx, _, _, e⟩
  · rw [e]
    decide
  · rw [e]
    exact h x hx
end TBM

namespace TBM
open Amounts TimberAuction
theorem floors_le {due W : Nat} (hW : 0 < W) : ∀ {ws : List Nat}, sum (ws.map fun w => due * w / W) * W ≤ due * sum ws
  | [] => by show 0 * W ≤ _; omega
  | w :: ws => by
    have ih := floors_le hW (due := due) (ws := ws)
    have h1 := Nat.div_mul_le_self (due * w) W
    show (due * w / W + sum (ws.map fun w => due * w / W)) * W ≤ due * (w + sum ws)
    rw [Nat.add_mul, Nat.mul_add]
    omega
theorem floors {due : Nat} {ws : List Nat} (h : 0 < sum ws) : sum (ws.map fun w => due * w / sum ws) ≤ due :=
  Nat.le_of_mul_le_mul_right (floors_le h) h
theorem del_bd {ixs : List (Nat × Nat)} {ds : List Delivery} {n : Nat} {c : Contract} (h : 0 ≤ c.factor.num) (hi : 0 < indexOn ixs c.day) : 0 ≤ (deliveredValue ixs ds n c).num ∧ (deliveredValue ixs ds n c).den ≤ indexOn ixs c.day * (1000 * c.factor.den) := by
  have hp : 0 < indexOn ixs c.day * (1000 * c.factor.den) := Nat.mul_pos hi (Nat.mul_pos (by decide) c.factor.den_pos)
  obtain ⟨g1, g2⟩ := frac_b (a := delTop ixs ds n c) hp
  rw [deliv_is h hi, g1, g2]
  exact ⟨Int.natCast_nonneg _, Nat.div_le_self _ _⟩
theorem est_bd {c : Contract} (h : 0 ≤ c.factor.num) : 0 ≤ (estimate c).num ∧ (estimate c).den ≤ 1000 * c.factor.den := by
  have hp : 0 < 1000 * c.factor.den := Nat.mul_pos (by decide) c.factor.den_pos
  obtain ⟨g1, g2⟩ := frac_b (a := valueOf c.volumes c.prices * c.factor.num.toNat) hp
  rw [estim_is h, g1, g2]
  exact ⟨Int.natCast_nonneg _, Nat.div_le_self _ _⟩
end TBM

namespace TBM
open Amounts TimberAuction AuctionSpec
/-- the amount of a bidder in a bill -/
def look : List (Nat × Nat) → List Int → Nat → Int
  | x :: bd, a :: am, b => if x.1 = b then a else look bd am b
  | _, _, _ => 0
theorem look_cons {x : Nat × Nat} {bd : List (Nat × Nat)} {a : Int} {am : List Int} {b : Nat} : look (x :: bd) (a :: am) b = if x.1 = b then a else look bd am b := rfl
theorem look_no : ∀ {bd : List (Nat × Nat)} {am : List Int} {b : Nat}, (∀ e ∈ bd, e.1 ≠ b) → look bd am b = 0
  | [], _, _, _ => by simp [look]
  | x :: bd, [], _, _ => by simp [look]
  | x :: bd, a :: am, b, h => by
    unfold look
    rw [if_neg (h x List.mem_cons_self)]
    exact look_no fun e he => h e (List.mem_cons_of_mem _ he)
theorem look_at : ∀ {bd : List (Nat × Nat)} {am : List Int} {k : Nat} {e : Nat × Nat}, (bd.map (·.1)).Nodup → am.length = bd.length → bd[k]? = some e → look bd am e.1 = am.getD k 0
  | [], _, _, _, _, _, h => by simp at h
  | x :: bd, [], _, _, _, hl, _ => by simp at hl
  | x :: bd, a :: am, 0, e, _, _, h => by
    have h : x = e := by simpa using h
    subst h
    unfold look
    rw [if_pos rfl]
    rfl
  | x :: bd, a :: am, k + 1, e, nd, hl, h => by
    obtain ⟨n1, n2⟩ := List.nodup_cons.mp nd
    have h : bd[k]? = some e := by simpa using h
    have ne : ¬ x.1 = e.1 := fun z => n1 (List.mem_map.mpr ⟨e, List.mem_of_getElem? h, z.symm⟩)
    unfold look
    rw [if_neg ne, look_at n2 (Nat.succ.inj hl) h]
    rfl
theorem look_sum {b : Nat} {full : List Int} : ∀ {bd : List (Nat × Nat)} {am : List Int} {k : Nat}, (bd.map (·.1)).Nodup → am.length = bd.length → full.drop k = am → sumInt ((bd.zipIdx k).map fun (entry : (Nat × Nat) × Nat) => if entry.1.1 = b then full.getD entry.2 0 else 0) = look bd am b
  | [], _, _, _, _, _ => by simp [look, sumInt]
  | x :: bd, [], _, _, hl, _ => by simp at hl
  | x :: bd, a :: am, k, nd, hl, hd => by
    obtain ⟨n1, n2⟩ := List.nodup_cons.mp nd
    have hk : full.getD k 0 = a := by
      have : (full.drop k)[0]? = some a := by rw [hd]; rfl
      rw [List.getElem?_drop] at this
      rw [List.getD_eq_getElem?_getD, show k = k + 0 from rfl, this]
      rfl
    have hd2 : full.drop (k + 1) = am := by
      rw [← List.drop_drop, hd]
      rfl
    have ih := look_sum (b := b) (full := full) n2 (Nat.succ.inj hl) hd2
    have e : sumInt (((x :: bd).zipIdx k).map fun (entry : (Nat × Nat) × Nat) => if entry.1.1 = b then full.getD entry.2 0 else 0) = (if x.1 = b then full.getD k 0 else 0) + sumInt ((bd.zipIdx (k + 1)).map fun (entry : (Nat × Nat) × Nat) => if entry.1.1 = b then full.getD entry.2 0 else 0) := rfl
    rw [e, ih, hk, look_cons]
    by_cases z : x.1 = b
    · rw [if_pos z, if_pos z, look_no fun e he q => n1 (List.mem_map.mpr ⟨e, he, q.trans z.symm⟩)]
      omega
    · rw [if_neg z, if_neg z]
      omega
theorem sumInt_is : ∀ l : List Int, sumInt l = l.sum
  | [] => rfl
  | x :: l => by
    show x + sumInt l = _
    rw [sumInt_is l]
    rfl
end TBM

namespace TB
open PySem PySem.Spec PyProof.Rows L2
/-- the i-th statement of the program -/
def topS (i : Nat) : Stmt := PySem.Challenge.pw_timberbids_s01_answers.main.body.getD i (.Pass ⟨0, 0, 0, 0⟩)
/-- a def's scope by one look -/
def fnC (N ps : List Str) (sc : Scope) : Bool := C8.scC N ps sc
theorem fnS {N ps : List Str} {sc : Scope} (h : C8.scC N ps sc = true) : FnScope N ps sc := C8.fnScope_by h
/-- a def of the module, by its name -/
structure DefA (K : PySem.W.Frag) (mg : Str → Option Value) (x : Str) (st : Stmt) : Prop where
  ex : ∃ (f : Addr) (fd : FuncData), Fun K x x st f fd ∧ mg x = some (.ref f)
section
variable {P : Program} {w : World} {K : PySem.W.Frag} {mg : Str → Option Value} {base : Heap}
theorem calOf {x : Str} {st : Stmt} {N ps : List Str} {k : Nat} {sp : Sp} (D : DefA K mg x st) (S : FnScope N ps (defScope st))
    (hbd : ∀ (kV doc pm : Value) (an : Option Addr) (cdv ct : Value) (us : List Value), us.length = ps.length → bindArgs (PySem.W.fnOf x x (defArgs st) (defBody st) (defScope st) .none kV doc pm an cdv ct) ⟨us, []⟩ = pure (ps.zip us))
    (len : ∀ vs H Q E, sp vs H Q E → vs.length = ps.length)
    (hbody : ∀ (f : Addr) (cdv : Value) (A : Around) (outer : List Env) (s : Shared) (H : Hp) (vs : List V) (Q : VK) (E : XK), Room k (A.deeper (envOfC x (defScope st) s.heap.objs.size f cdv)) → sp vs H Q E →
      ∃ t, PSs (cxOf CX0 P w K mg base N x (defScope st) f cdv A outer s H E).nox (defBody st) t ∧ t { nx := fun _ H' => Q .non H', rt := Q } (start N vs) H) : C8.Cal P w K mg base (k + 1) x sp [] := by
  obtain ⟨f, fd, F, hm⟩ := D.ex
  exact ⟨f, fd, ps, [], F.ok S len (fun cdv A outer s H vs Q E hr h => hbody f cdv A outer s H vs Q E hr h), hm, F.kp, F.binds hbd, .nil⟩
end
section
variable {X : Cx}
theorem pe_gi {x : Str} {i : Int} {pos : Pos} (hg : Gl X x) (h : ∃ t, X.mg x = some (.int i t)) (hd : (x == ("__debug__" : Str)) = false := by decide) : PE X (.Name x pos) (tC (.int i)) := by
  obtain ⟨t, h⟩ := h
  exact pe_glob hg h ⟨_, rfl⟩ hd
end
end TB

namespace TB
open PySem PySem.Spec PyProof.Rows L2
/-! ### xs[a::2] -/
def evens {α : Type} : List α → List α
  | [] => []
  | [x] => [x]
  | x :: _ :: r => x :: evens r
theorem evens_pick {α : Type} : ∀ (l : List α) (c : Nat) (f : Nat → Option α), c = (l.length + 1) / 2 → (∀ k, f k = l[2 * k]?) → (List.range c).filterMap f = evens l
  | [], c, f, hc, hf => by
    have : c = 0 := by simpa using hc
    subst this
    rfl
  | [x], c, f, hc, hf => by
    have : c = 1 := by simpa using hc
    subst this
    show List.filterMap f [0] = [x]
    rw [List.filterMap_cons, hf 0]
    rfl
  | x :: y :: r, c, f, hc, hf => by
    obtain ⟨c', rfl⟩ : ∃ c', c = c' + 1 := ⟨(r.length + 1) / 2, by rw [hc]; simp only [List.length_cons]; omega⟩
    rw [List.range_succ_eq_map, List.filterMap_cons, hf 0, List.filterMap_map]
    show x :: _ = x :: evens r
    congr 1
    refine evens_pick r c' _ ?_ fun k => ?_
    · simp only [List.length_cons] at hc
      omega
    · show f (k + 1) = _
      rw [hf, show 2 * (k + 1) = 2 * k + 1 + 1 by omega, List.getElem?_cons_succ, List.getElem?_cons_succ]
theorem evens_map {α β : Type} (f : α → β) : ∀ l : List α, evens (l.map f) = (evens l).map f
  | [] => rfl
  | [_] => rfl
  | x :: y :: r => by
    show f x :: evens (r.map f) = f x :: (evens r).map f
    rw [evens_map f r]
theorem evens_len {α : Type} : ∀ l : List α, (evens l).length = (l.length + 1) / 2
  | [] => by simp [evens]
  | [_] => by simp [evens]
  | x :: y :: r => by
    show (evens r).length + 1 = _
    rw [evens_len r]
    simp only [List.length_cons]
    omega
theorem Vals.evens : ∀ {xs : List V} {us : List Value}, Vals xs us → Vals (evens xs) (TB.evens us)
  | _, _, .nil => .nil
  | _, _, .cons r .nil => .cons r .nil
  | _, _, .cons r (.cons _ t) => .cons r (Vals.evens t)
theorem pick2 (its : List Value) (a : Nat) : slicePick its.toArray (some (a : Int)) none (some 2) = (evens (its.drop a)).toArray := by
  unfold slicePick
  congr 1
  have hb : sliceBounds (some (a : Int)) none (some 2) its.toArray.size = (((min a its.length : Nat) : Int), (its.length : Int), 2) := by
    unfold sliceBounds
    simp only [Option.getD_some, List.size_toArray]
    have h1 : ¬ ((a : Int) < 0) := by omega
    have h2 : (2 : Int) > 0 := by decide
    simp only [h1, h2, if_false, if_true]
    congr 1
    omega
  rw [hb]
  unfold sliceRange
  simp only [show (2 : Int) > 0 by decide, if_true]
  rw [List.filterMap_map]
  refine evens_pick _ _ _ ?_ fun k => ?_
  · rw [List.length_drop]
    split <;> omega
  · show its.toArray[((((min a its.length : Nat) : Int) + 2 * (k : Int)).toNat)]? = _
    rw [List.getElem?_toArray, List.getElem?_drop]
    by_cases h : a ≤ its.length
    · congr 1
      omega
    · rw [List.getElem?_eq_none (by omega), List.getElem?_eq_none (by omega)]
def tSl2 (K : PySem.W.Frag) (a : Int) (te : TE) : TE := fun σ H Q => te σ H fun x H1 => ∃ l xs, x = .ref l ∧ SqL K H1 l xs ∧ ∀ p, H1 p = none → Q (.ref p) (upd H1 p (.lst (evens (xs.drop a.toNat))))
section
variable {X : Cx}
theorem pe_slice2 {e : Expr} {te : TE} {a : Int} {k k2 : Nat} {p1 p2 p3 pos : Pos} (h0 : 0 ≤ a) (he : PE X e te) : PE X (.Subscript e (.Slice (some (.Constant (.int a) k p1)) none (some (.Constant (.int 2) k2 p2)) p3) pos) (tSl2 X.K a te) := by
  refine ⟨fun pins s σ H Q I h => ?_⟩
  refine Subscript_ (thn (he.run pins s σ H _ I h) fun v s1 ⟨x, H1, I1, r1, q1⟩ => ?_)
  obtain ⟨l, xs, ex, hx, q⟩ := q1
  subst ex
  cases r1
  have hlo : PO X (some (.Constant (.int a) k p1)) (tPart (tC (.int a))) := po_some pe_int
  have hst : PO X (some (.Constant (.int 2) k2 p2)) (tPart (tC (.int 2))) := po_some pe_int
  refine wpAny_Slice (thn (hlo.run pins s1 σ H1 (fun o H2 => o = some a ∧ H2 = H1) I1 ⟨a, rfl, rfl, rfl⟩) fun vl s2 ⟨l', H2, I2, pl, el, e2⟩ => ?_)
  subst el e2
  refine thn (po_none.run pins s2 σ H2 (fun o H3 => o = none ∧ H3 = H2) I2 ⟨rfl, rfl⟩) fun vu s3 ⟨u, H3, I3, pu, eu, e3⟩ => ?_
  subst eu e3
  refine thn (hst.run pins s3 σ H3 (fun o H4 => o = some 2 ∧ H4 = H3) I3 ⟨2, rfl, rfl, rfl⟩) fun vs s4 ⟨o, H4, I4, ps, eo, e4⟩ => ?_
  subst eo e4
  have I5 : Inv X pins σ H4 { s4 with heap := s4.heap.push { cls := .type "slice", data := .fields #[vl, vu, vs] } } := I4.kept (t' := s4.toks) fun b ob q => Heap.get?_push_of_some _ q
  obtain ⟨its, r, ht, hz⟩ := I5.list hx
  have hlen := r.length
  show wpAny (model X.prog X.w) X.A (subscriptTail e (.Slice (some (.Constant (.int a) k p1)) none (some (.Constant (.int 2) k2 p2)) p3) (.ref l) (.ref s4.heap.objs.size)) (EP X pins σ Q) X.xe { s4 with heap := s4.heap.push { cls := .type "slice", data := .fields #[vl, vu, vs] } }
  refine tail_any (ops := [.ref l, .ref s4.heap.objs.size]) ht.isList.typeIs (PySem.slot_list_getitem.lookup) ?_ (by with_unfolding_all rfl)
  refine wpAny_getItem_list_slice ht.isList (Heap.IsSliceOf.new _ vl vu vs) pl pu ps (by decide) ?_ (by rw [List.size_toArray]; omega)
  have ea : (a : Int) = ((a.toNat : Nat) : Int) := (Int.toNat_of_nonneg h0).symm
  rw [ea, pick2]
  refine ⟨.ref _, _, I5.laid (t' := s4.toks) (o := .lst (evens (xs.drop a.toNat))) (fun b ob q => Heap.get?_push_of_some _ q) (Nat.le_refl _) ?_, rfl, q _ (I5.hok.fresh (Nat.le_refl _))⟩
  refine ⟨?_, _, 0, Vals.evens (r.drop a.toNat), Heap.get?_push_size _ rfl⟩
  rw [evens_len, List.length_drop]
  omega
/-! ### len(set(xs)), xs ints -/
def distinct (ns : List Int) : Nat := (PyProof.Rows.firstMet (fun i => ns.getD i 0) ns.length).length
def tLenSet (K : PySem.W.Frag) (ta : TE) : TE := fun σ H Q => ta σ H fun x H1 => ∃ (l : Addr) (ns : List Int), x = .ref l ∧ SqL K H1 l (ns.map V.int) ∧ ns.length ≤ 4000 ∧ Q (.int (distinct ns : Nat)) H1
theorem pe_lenSet {a : Expr} {ta : TE} {p p2 q pos : Pos} (hg : Gl X "len") (hm : X.mg "len" = none) (hg2 : Gl X "set") (hm2 : X.mg "set" = none) (ha : PE X a ta) (hc : X.calm = true := by rfl)
    (na : starEach [a] X.env = (false, eval a X.env) :: starEach [] X.env := by rfl) : PE X (.Call (.Name "len" p) [.Call (.Name "set" p2) [a] [] q] [] pos) (tLenSet X.K ta) := by
  refine ⟨fun pins s σ H Q I h => ?_⟩
  refine Call_ (ld_blt I hg hm boot_len ?_)
  refine PyProof.Rows.callWith_builtin1 (PyProof.Rows.args_cons ?_ rfl) rfl rfl
  refine Call_ (ld_blt I hg2 hm2 boot_set ?_)
  refine PyProof.Rows.callWith_type1 (PyProof.Rows.args_cons (thn (ha.run pins s σ H _ I h) fun v s1 ⟨x, H1, I1, r1, q1⟩ => PyProof.Rows.args_nil ?_) na) na rfl
  obtain ⟨l, ns, rfl, hq, hl, q1⟩ := q1
  cases r1
  obtain ⟨its, r, pl, hz⟩ := I1.list hq
  have hlen : its.toArray.size = ns.length := by rw [List.size_toArray, ← r.length, List.length_map]
  refine call_set_list (I1.ok.hd hc) pl.isList (by simpa using RZ.intsAre_vals r) (by rw [hlen]; unfold scanBound; omega) fun h' tk hS hk => ?_
  refine PyProof.Rows.args_nil ?_
  rw [hlen] at hS
  obtain ⟨o, es, ep, t, ho, hex, hd, _, _, _, hf, hn⟩ := hS
  have I2 : Inv X pins σ H1 { s1 with heap := h', toks := tk } := I1.kept fun b o e => hk b o (Heap.lt_size e) e
  have hle := PyProof.Rows.firstMet_length_le (fun i => ns.getD i 0) ns.length
  exact call_len_set ho hex hd hf (by rw [hn] <;> omega) ⟨.int (distinct ns : Nat), H1, I2.tok _, ⟨_, by rw [hn] <;> rfl⟩, q1⟩
end
end TB

namespace TBM
open PySem PySem.W PySem.SeqAt PyProof.Rows TimberAuction
/-! ### the keys of min -/
def nD (n : Nat) : PyData := .int (n : Int)
def keyD (s : Sale) (l : List Nat) : PyData := .tuple [.int (-(s.totalValue l : Int)), .int (l.length : Int), .list (l.map nD)]
theorem alike_nums : ∀ a b : List Nat, alikeAll (a.map nD) (b.map nD) = true
  | [], [] => by simp [alikeAll]
  | [], _ :: _ => by simp [alikeAll]
  | _ :: _, [] => by simp [alikeAll]
  | x :: a, y :: b => by
    have ih := alike_nums a b
    simp only [List.map_cons, alikeAll, ih, nD, alike, Bool.and_self]
theorem eqv_int (x y : Int) : PyData.eqv (.int x) (.int y) = (x == y) := by
  simp [PyData.eqv]
theorem lex_nums : ∀ a b : List Nat, a.length = b.length → PyProof.Rows.lexLt itemOrd (keyToksAll (a.map nD)) (keyToksAll (b.map nD)) = lexicographicallyLess a b
  | [], [], _ => by
    show PyProof.Rows.lexLt itemOrd (keyToksAll []) (keyToksAll []) = false
    exact PyProof.Rows.lex_irrefl _
  | [], _ :: _, h => by simp at h
  | _ :: _, [], h => by simp at h
  | x :: a, y :: b, h => by
    have ih := lex_nums a b (by simpa using h)
    have al : alike (nD x) (nD y) = true := by simp [nD, alike]
    rw [List.map_cons, List.map_cons]
    show _ = (decide (x < y) || (x == y && lexicographicallyLess a b))
    by_cases e : x = y
    · subst e
      rw [dataLt_all_yes al (by simp [nD, eqv_int]), ih]
      simp
    · have ne : PyData.eqv (nD x) (nD y) = false := by
        rw [nD, nD, eqv_int]
        simp
        omega
      rw [dataLt_all_no al ne, nD, nD, dataLt_int]
      have : (x == y) = false := by simpa using e
      rw [this]
      simp
theorem keyD_alike (s : Sale) (a b : List Nat) : alike (keyD s a) (keyD s b) = true := by
  have := alike_nums a b
  simp [keyD, alike, alikeAll, this]
theorem keyD_lt (s : Sale) (a b : List Nat) : dataLt (keyD s a) (keyD s b) = s.isBetter a b := by
  unfold keyD
  rw [dataLt_tuple]
  have al1 : alike (.int (-(s.totalValue a : Int))) (.int (-(s.totalValue b : Int))) = true := by simp [alike]
  have al2 : alike (.int (a.length : Int)) (.int (b.length : Int)) = true := by simp [alike]
  have al3 : alike (.list (a.map nD)) (.list (b.map nD)) = true := by
    have := alike_nums a b
    simp [alike, this]
  unfold Sale.isBetter
  by_cases e1 : s.totalValue a = s.totalValue b
  · rw [dataLt_all_yes al1 (by rw [eqv_int, e1]; simp)]
    by_cases e2 : a.length = b.length
    · rw [dataLt_all_yes al2 (by rw [eqv_int, e2]; simp), e1, e2]
      by_cases e3 : PyData.eqv (.list (a.map nD)) (.list (b.map nD)) = true
      · rw [dataLt_all_yes al3 e3, PyProof.Rows.lex_irrefl]
        have h := (toks_eqv _ _ al3).1 e3
        have : lexicographicallyLess a b = false := by
          rw [← lex_nums a b e2]
          have h2 : dataLt (.list (a.map nD)) (.list (b.map nD)) = false := by
            unfold dataLt
            rw [h]
            exact PyProof.Rows.lex_irrefl _
          rw [dataLt_list] at h2
          exact h2
        rw [this]
        simp
      · have e3' : PyData.eqv (.list (a.map nD)) (.list (b.map nD)) = false := by simpa using e3
        rw [dataLt_all_no al3 e3', dataLt_list, lex_nums a b e2]
        simp
    · rw [dataLt_all_no al2 (by rw [eqv_int]; simp; omega), dataLt_int, e1]
      have : (a.length == b.length) = false := by simpa using e2
      rw [this]
      simp
  · rw [dataLt_all_no al1 (by rw [eqv_int]; simp; omega), dataLt_int]
    have : (s.totalValue a == s.totalValue b) = false := by simpa using e1
    rw [this]
    simp
theorem depthAll_nums : ∀ l : List Nat, PyData.depthAll (l.map nD) = 0
  | [] => by simp [PyData.depthAll]
  | x :: l => by
    have ih := depthAll_nums l
    simp [PyData.depthAll, nD, PyData.depth] at ih ⊢
    exact ih
theorem keyD_depth (s : Sale) (l : List Nat) : (keyD s l).depth ≤ 8 := by
  simp [keyD, PyData.depth, PyData.depthAll, depthAll_nums]
/-- the first of the least is the best of a list -/
theorem argBest_lt (bt : Nat → Nat → Bool) : ∀ n, argBest bt n ≤ n
  | 0 => Nat.le_refl _
  | n + 1 => by
    unfold argBest
    split
    · exact Nat.le_refl _
    · exact Nat.le_succ_of_le (argBest_lt bt n)
theorem argBest_top (s : Sale) (L : List (List Nat)) (bt : Nat → Nat → Bool) (hb : ∀ i j, bt i j = s.isBetter (L.getD i []) (L.getD j [])) : ∀ n j, j ≤ n → ¬ s.isBetter (L.getD j []) (L.getD (argBest bt n) []) = true
  | 0, j, h => by
    have : j = 0 := by omega
    subst this
    exact better_irr s _
  | n + 1, j, h => by
    have ih := argBest_top s L bt hb n
    unfold argBest
    by_cases c : bt (n + 1) (argBest bt n) = true
    · rw [if_pos c]
      rw [hb] at c
      by_cases e : j = n + 1
      · subst e
        exact better_irr s _
      · intro z
        exact ih j (by omega) (better_trans s z c)
    · rw [if_neg c]
      rw [hb] at c
      by_cases e : j = n + 1
      · subst e
        exact c
      · exact ih j (by omega)
end TBM

namespace TBM
open AuctionSpec TimberAuction
/-! ### doublings -/
theorem dups_le : ∀ (n : Nat) (l : List Nat), l.length ≤ n → l.eraseDups.length ≤ l.length ∧ (l.eraseDups.length = l.length ↔ l.Nodup)
  | _, [], _ => ⟨Nat.le_refl _, by simp⟩
  | 0, _ :: _, h => by simp at h
  | n + 1, a :: l, h => by
    have hl : l.length ≤ n := by simpa using h
    have hf := List.length_filter_le (fun b => !b == a) l
    obtain ⟨i1, i2⟩ := dups_le n (l.filter fun b => !b == a) (by omega)
    rw [List.eraseDups_cons]
    simp only [List.length_cons]
    refine ⟨by omega, ?_⟩
    rw [List.nodup_cons]
    constructor
    · intro e
      have e1 : (l.filter fun b => !b == a).length = l.length := by omega
      have e2 : (l.filter fun b => !b == a) = l := List.length_filter_eq_length_iff.mp e1 |> fun h => List.filter_eq_self.mpr h
      refine ⟨fun hm => ?_, ?_⟩
      · have := List.filter_eq_self.mp e2 a hm
        simp at this
      · have := i2.mp (by omega)
        rwa [e2] at this
    · rintro ⟨h1, h2⟩
      have e2 : (l.filter fun b => !b == a) = l := List.filter_eq_self.mpr fun b hb => by
        simp
        intro z
        exact h1 (z ▸ hb)
      rw [e2] at i2 ⊢
      have := i2.mpr h2
      omega
theorem hasDup_iff (l : List Nat) : hasDuplicates l = true ↔ ¬ l.Nodup := by
  unfold hasDuplicates
  obtain ⟨h1, h2⟩ := dups_le l.length l (Nat.le_refl _)
  rw [decide_eq_true_eq, ← h2]
  omega
theorem step_len : ∀ (l acc : List Int), (l.foldl PyProof.Rows.step_dedup acc).length ≤ acc.length + l.length ∧ ((l.foldl PyProof.Rows.step_dedup acc).length = acc.length + l.length ↔ (∀ x ∈ l, x ∉ acc) ∧ l.Nodup)
  | [], acc => ⟨Nat.le_refl _, by simp⟩
  | v :: l, acc => by
    have hs : PyProof.Rows.step_dedup acc v = if (acc.any (· == v)) = true then acc else acc ++ [v] := rfl
    rw [List.foldl_cons, hs]
    by_cases c : (acc.any (· == v)) = true
    · rw [if_pos c]
      obtain ⟨i1, i2⟩ := step_len l acc
      have hm : v ∈ acc := by
        obtain ⟨y, hy, e⟩ := List.any_eq_true.mp c
        rwa [← beq_iff_eq.mp e]
      simp only [List.length_cons]
      refine ⟨by omega, ?_⟩
      constructor
      · intro e
        omega
      · rintro ⟨h, _⟩
        exact absurd hm (h v List.mem_cons_self)
    · rw [if_neg c]
      obtain ⟨i1, i2⟩ := step_len l (acc ++ [v])
      have hm : v ∉ acc := fun z => c (List.any_eq_true.mpr ⟨v, z, by simp⟩)
      simp only [List.length_append, List.length_cons, List.length_nil] at i1 i2 ⊢
      refine ⟨by omega, ?_⟩
      have : (List.foldl PyProof.Rows.step_dedup (acc ++ [v]) l).length = acc.length + (l.length + 1) ↔ (List.foldl PyProof.Rows.step_dedup (acc ++ [v]) l).length = acc.length + 1 + l.length := by omega
      show (List.foldl PyProof.Rows.step_dedup (acc ++ [v]) l).length = acc.length + (l.length + 1) ↔ _
      rw [this]
      have i2' : (List.foldl PyProof.Rows.step_dedup (acc ++ [v]) l).length = acc.length + 1 + l.length ↔ (∀ x ∈ l, x ∉ acc ++ [v]) ∧ l.Nodup := by
        have := i2
        simpa [Nat.add_assoc] using this
      rw [i2', List.nodup_cons]
      constructor
      · rintro ⟨h1, h2⟩
        refine ⟨fun x hx => ?_, fun z => h1 v z (by simp), h2⟩
        rcases List.mem_cons.mp hx with rfl | hx
        · exact hm
        · exact fun z => h1 x hx (List.mem_append_left _ z)
      · rintro ⟨h1, h2, h3⟩
        refine ⟨fun x hx z => ?_, h3⟩
        rcases List.mem_append.mp z with z | z
        · exact h1 x (List.mem_cons_of_mem _ hx) z
        · rw [List.mem_singleton.mp z] at hx
          exact h2 hx
theorem range_getD : ∀ l : List Int, (List.range l.length).map (fun i => l.getD i 0) = l := by
  intro l
  apply List.ext_getElem
  · simp
  · intro i h1 h2
    simp [h2]
theorem distinct_lt (l : List Nat) : decide (TB.distinct (l.map fun (n : Nat) => (n : Int)) < l.length) = hasDuplicates l := by
  unfold TB.distinct PyProof.Rows.firstMet
  rw [range_getD]
  obtain ⟨h1, h2⟩ := step_len (l.map fun (n : Nat) => (n : Int)) []
  simp only [List.length_nil, Nat.zero_add, List.length_map] at h1 h2
  rw [Bool.eq_iff_iff, decide_eq_true_eq, hasDup_iff]
  have hn : (l.map fun (n : Nat) => (n : Int)).Nodup ↔ l.Nodup := by
    unfold List.Nodup
    rw [List.pairwise_map]
    constructor
    · exact fun h => h.imp fun hab z => hab (by rw [z])
    · exact fun h => h.imp fun hab z => hab (by omega)
  have h3 : (∀ x ∈ l.map fun (n : Nat) => (n : Int), x ∉ ([] : List Int)) := fun x _ z => by cases z
  rw [← hn]
  constructor
  · intro hlt hnd
    have := h2.mpr ⟨h3, hnd⟩
    omega
  · intro hnd
    refine Nat.lt_of_le_of_ne h1 fun e => hnd (h2.mp e).2
/-! ### pairs -/
theorem evens_pairs : ∀ (l : List Nat), l.length % 2 = 0 → TB.evens l = (pairsOf l).map (·.1) ∧ TB.evens (l.drop 1) = (pairsOf l).map (·.2)
  | [], _ => ⟨rfl, rfl⟩
  | [_], h => by simp at h
  | x :: y :: r, h => by
    obtain ⟨h1, h2⟩ := evens_pairs r (by simp at h; omega)
    refine ⟨?_, ?_⟩
    · show x :: TB.evens r = x :: (pairsOf r).map (·.1)
      rw [h1]
    · show TB.evens (y :: r) = y :: (pairsOf r).map (·.2)
      rw [← h2]
      cases r with
      | nil => rfl
      | cons z r => rfl
theorem pairs_len : ∀ l : List Nat, (pairsOf l).length = l.length / 2
  | [] => rfl
  | [_] => by simp [pairsOf]
  | x :: y :: r => by
    show (pairsOf r).length + 1 = _
    rw [pairs_len r]
    simp only [List.length_cons]
    omega
theorem byGrade_is {l : List Nat} (h : l.length ≤ 10) : l ++ List.replicate (10 - l.length) 0 = byGrade l := by
  apply List.ext_getElem?
  intro i
  unfold byGrade gradeCount
  rw [List.getElem?_map]
  by_cases hi : i < 10
  · rw [List.getElem?_range hi]
    show _ = some (l.getD i 0)
    rw [List.getD_eq_getElem?_getD]
    by_cases hl : i < l.length
    · rw [List.getElem?_append_left hl, List.getElem?_eq_getElem hl]
      rfl
    · rw [List.getElem?_append_right (by omega), List.getElem?_eq_none (l := l) (by omega), List.getElem?_replicate, if_pos (by omega)]
      rfl
  · rw [List.getElem?_eq_none (by simp; omega), List.getElem?_eq_none (by simp; omega)]
    rfl
theorem byGrade_len (l : List Nat) : (byGrade l).length = 10 := by simp [byGrade, gradeCount]
theorem max_of : ∀ {l : List Nat}, l ≠ [] → ∃ m ∈ l, ∀ x ∈ l, x ≤ m
  | [x], _ => ⟨x, by simp, by simp⟩
  | x :: y :: r, _ => by
    obtain ⟨m, h1, h2⟩ := max_of (l := y :: r) (by simp)
    by_cases c : m ≤ x
    · refine ⟨x, by simp, fun z hz => ?_⟩
      rcases List.mem_cons.mp hz with rfl | hz
      · exact Nat.le_refl _
      · have := h2 z hz
        omega
    · refine ⟨m, List.mem_cons_of_mem _ h1, fun z hz => ?_⟩
      rcases List.mem_cons.mp hz with rfl | hz
      · omega
      · exact h2 z hz
theorem min_of : ∀ {l : List Nat}, l ≠ [] → ∃ m ∈ l, ∀ x ∈ l, m ≤ x
  | [x], _ => ⟨x, by simp, by simp⟩
  | x :: y :: r, _ => by
    obtain ⟨m, h1, h2⟩ := min_of (l := y :: r) (by simp)
    by_cases c : x ≤ m
    · refine ⟨x, by simp, fun z hz => ?_⟩
      rcases List.mem_cons.mp hz with rfl | hz
      · exact Nat.le_refl _
      · have := h2 z hz
        omega
    · refine ⟨m, List.mem_cons_of_mem _ h1, fun z hz => ?_⟩
      rcases List.mem_cons.mp hz with rfl | hz
      · omega
      · exact h2 z hz
end TBM

namespace TB
open PySem PySem.Spec PyProof.Rows L2
theorem lk_here {k : Str} {v : V} {r : List (Str × V)} : List.lookup k ((k, v) :: r) = some v := by
  have e : (k == k) = true := beq_self_eq_true k
  simp only [List.lookup, e]
theorem lk_past {k g : Str} {v : V} {r : List (Str × V)} (h : (k == g) = false) : List.lookup k ((g, v) :: r) = List.lookup k r := by
  simp only [List.lookup, h]
theorem put_here {f : Str} {v x : V} {r : List (Str × V)} : putF f v ((f, x) :: r) = (f, v) :: r := if_pos rfl
theorem put_past {f g : Str} {v x : V} {r : List (Str × V)} (h : ¬ g = f) : putF f v ((g, x) :: r) = (g, x) :: putF f v r := if_neg h
/-- a class that may be made by its name -/
structure ClsA (K : PySem.W.Frag) (mg : Str → Option Value) (x : Str) (C : Addr) (qual : Str) (st : Stmt) : Prop where
  ex : ∃ (f : Addr) (fd : FuncData), Mk K C f ∧ Fun K "__init__" qual st f fd ∧ mg x = some (.ref C)
structure MethA (K : PySem.W.Frag) (C : Addr) (m qual : Str) (st : Stmt) : Prop where
  ex : ∃ (f : Addr) (fd : FuncData), Meth K C m f ∧ Fun K m qual st f fd
/-- a def of the module whose code object's address is known -/
structure DefC (K : PySem.W.Frag) (mg : Str → Option Value) (x : Str) (st : Stmt) (c : Addr) : Prop where
  ex : ∃ (f : Addr) (oc : Value) (od : Option Addr) (kV doc pm : Value) (an : Option Addr) (ct : Value) (osl : Array (Option Value)),
    K.lookup f = some ⟨oc, od, .func (PySem.W.fnOf x x (defArgs st) (defBody st) (defScope st) .none kV doc pm an (.ref c) ct), osl⟩ ∧ PySem.W.codeIn K (.ref c) x = true ∧ PySem.W.keepIn K (.ref f) = true ∧ mg x = some (.ref f)
def TupC (K : PySem.W.Frag) (a : Addr) (ns : List Int) : Prop := ∀ H, SqT K H a (ns.map V.int)
def TupC2 (K : PySem.W.Frag) (a : Addr) (l : List (List Int)) : Prop := ∃ as : List Addr, (∀ H, SqT K H a (as.map V.ref)) ∧ as.length = l.length ∧ ∀ (i : Nat) (a' : Addr) (ns : List Int), as[i]? = some a' → l[i]? = some ns → TupC K a' ns
section
variable {P : Program} {w : World} {K : PySem.W.Frag} {mg : Str → Option Value} {base : Heap}
theorem calOfC {x : Str} {st : Stmt} {N ps : List Str} {k : Nat} {sp : Sp} {c : Addr} (D : DefC K mg x st c) (S : FnScope N ps (defScope st))
    (hbd : ∀ (kV doc pm : Value) (an : Option Addr) (cdv ct : Value) (us : List Value), us.length = ps.length → bindArgs (PySem.W.fnOf x x (defArgs st) (defBody st) (defScope st) .none kV doc pm an cdv ct) ⟨us, []⟩ = pure (ps.zip us))
    (len : ∀ vs H Q E, sp vs H Q E → vs.length = ps.length)
    (body : ∀ (f : Addr) (A : Around) (outer : List Env) (s : Shared) (H : Hp) (vs : List V) (Q : VK) (E : XK), Room k (A.deeper (envOfC x (defScope st) s.heap.objs.size f (.ref c))) → sp vs H Q E →
      ∃ t, PSs (cxOf CX0 P w K mg base N x (defScope st) f (.ref c) A outer s H E).nox (defBody st) t ∧ t { nx := fun _ H' => Q .non H', rt := Q } (start N vs) H) : C8.Cal P w K mg base (k + 1) x sp [] := by
  obtain ⟨f, oc, od, kV, doc, pm, an, ct, osl, lk, cd, kp, hm⟩ := D.ex
  refine ⟨f, _, ps, [], fn_of lk cd S len fun A outer s H vs Q E hr hsp => ?_, hm, kp, .all (hbd kV doc pm an (.ref c) ct), .nil⟩
  obtain ⟨t, h, q⟩ := body f A outer s H vs Q E hr hsp
  exact ⟨t, h.nox, q⟩
theorem makOf {x qual : Str} {C : Addr} {st : Stmt} {N ps : List Str} {k : Nat} {sp : Sp} (D : ClsA K mg x C qual st) (S : FnScope N ps (defScope st))
    (hbd : ∀ (kV doc pm : Value) (an : Option Addr) (cdv ct : Value) (us : List Value), us.length = ps.length → bindArgs (PySem.W.fnOf "__init__" qual (defArgs st) (defBody st) (defScope st) .none kV doc pm an cdv ct) ⟨us, []⟩ = pure (ps.zip us))
    (len : ∀ vs H Q E, sp vs H Q E → vs.length = ps.length)
    (hbody : ∀ (f : Addr) (cdv : Value) (A : Around) (outer : List Env) (s : Shared) (H : Hp) (vs : List V) (Q : VK) (E : XK), Room k (A.deeper (envOfC qual (defScope st) s.heap.objs.size f cdv)) → sp vs H Q E →
      ∃ t, PSs (cxOf CX0 P w K mg base N qual (defScope st) f cdv A outer s H E).nox (defBody st) t ∧ t { nx := fun _ H' => Q .non H', rt := Q } (start N vs) H) : C8.Mak P w K mg base (k + 1) x C sp [] := by
  obtain ⟨f, fd, M, F, hm⟩ := D.ex
  exact ⟨f, fd, ps, [], M, F.ok S len (fun cdv A outer s H vs Q E hr h => hbody f cdv A outer s H vs Q E hr h), hm, F.binds hbd, .nil⟩
theorem metOf {m qual : Str} {C : Addr} {st : Stmt} {N ps : List Str} {k : Nat} {sp : Sp} (c : Cls K C) (D : MethA K C m qual st) (S : FnScope N ps (defScope st))
    (hbd : ∀ (kV doc pm : Value) (an : Option Addr) (cdv ct : Value) (us : List Value), us.length = ps.length → bindArgs (PySem.W.fnOf m qual (defArgs st) (defBody st) (defScope st) .none kV doc pm an cdv ct) ⟨us, []⟩ = pure (ps.zip us))
    (len : ∀ vs H Q E, sp vs H Q E → vs.length = ps.length)
    (hbody : ∀ (f : Addr) (cdv : Value) (A : Around) (outer : List Env) (s : Shared) (H : Hp) (vs : List V) (Q : VK) (E : XK), Room k (A.deeper (envOfC qual (defScope st) s.heap.objs.size f cdv)) → sp vs H Q E →
      ∃ t, PSs (cxOf CX0 P w K mg base N qual (defScope st) f cdv A outer s H E).nox (defBody st) t ∧ t { nx := fun _ H' => Q .non H', rt := Q } (start N vs) H) : C8.Met P w K mg base (k + 1) C m sp [] := by
  obtain ⟨f, fd, M, F⟩ := D.ex
  exact ⟨f, fd, ps, [], c, M, F.ok S len (fun cdv A outer s H vs Q E hr h => hbody f cdv A outer s H vs Q E hr h), F.binds hbd, .nil⟩
end
section
variable {X : Cx} {k j : Nat} {C : Addr} {x : Str} {sp : Sp} {p pos : Pos}
theorem pe_mk0 (c : C8.Mak X.prog X.w X.K X.mg X.base k x C sp []) (hr : Room j X.A) (hk : k + 1 ≤ j) (hg : Gl X x) (hdb : (x == ("__debug__" : Str)) = false := by decide) :
    PE X (.Call (.Name x p) [] [] pos) (tMake C sp [] E0 tNil) := by
  obtain ⟨f, fd, ps, ds, M, F, hm, b, d⟩ := c.ex
  exact pe_make0 M F (hr.mono hk) hg hm b d pass0 hdb
def tTupC (K : PySem.W.Frag) (ns : List Int) : TE := fun _ H Q => ∀ a, TupC K a ns → Q (.ref a) H
theorem pe_gtc {K : PySem.W.Frag} {x : Str} {pos : Pos} {ns : List Int} (hK : X.K = K) (hg : Gl X x) (h : ∃ a, X.mg x = some (.ref a) ∧ TupC K a ns) (hd : (x == ("__debug__" : Str)) = false := by decide) : PE X (.Name x pos) (tTupC K ns) := by
  obtain ⟨a, h, r⟩ := h
  refine ⟨fun pins s σ H Q I q => ?_⟩
  exact (pe_glob (v := .ref a) hg h rfl hd).run pins s σ H Q I (q a r)
def tTupC2 (K : PySem.W.Frag) (ns : List (List Int)) : TE := fun _ H Q => ∀ a, TupC2 K a ns → Q (.ref a) H
theorem pe_gt2 {K : PySem.W.Frag} {x : Str} {pos : Pos} {ns : List (List Int)} (hK : X.K = K) (hg : Gl X x) (h : ∃ a, X.mg x = some (.ref a) ∧ TupC2 K a ns) (hd : (x == ("__debug__" : Str)) = false := by decide) : PE X (.Name x pos) (tTupC2 K ns) := by
  obtain ⟨a, h, r⟩ := h
  refine ⟨fun pins s σ H Q I q => ?_⟩
  exact (pe_glob (v := .ref a) hg h rfl hd).run pins s σ H Q I (q a r)
end
/-! ### classes: their fields, in the order of __init__ -/
def fLot (v0 v1 : V) : List (Str × V) := [("reserve", v0), ("volumes", v1)]
theorem lk_Lot_reserve {v0 v1 : V} : (fLot v0 v1).lookup ("reserve" : Str) = some v0 := lk_here
theorem lk_Lot_volumes {v0 v1 : V} : (fLot v0 v1).lookup ("volumes" : Str) = some v1 := ((lk_past (by decide +kernel)).trans lk_here)
theorem put_Lot_reserve {v0 v1 y : V} : putF "reserve" y (fLot v0 v1) = fLot y v1 := put_here
theorem put_Lot_volumes {v0 v1 y : V} : putF "volumes" y (fLot v0 v1) = fLot v0 y := ((put_past (by decide +kernel)).trans (congrArg _ put_here))
theorem new_Lot_reserve {v0 : V} : putF "reserve" v0 ([] : List (Str × V)) = ([("reserve", v0)] : List (Str × V)) := rfl
theorem new_Lot_volumes {v0 v1 : V} : putF "volumes" v1 ([("reserve", v0)] : List (Str × V)) = ([("reserve", v0), ("volumes", v1)] : List (Str × V)) := ((put_past (by decide +kernel)).trans (congrArg _ rfl))
def fBid (v0 v1 v2 v3 v4 v5 v6 : V) : List (Str × V) := [("lots", v0), ("prices", v1), ("bidders", v2), ("volumes", v3), ("reserve", v4), ("value", v5), ("withdrawn", v6)]
theorem lk_Bid_lots {v0 v1 v2 v3 v4 v5 v6 : V} : (fBid v0 v1 v2 v3 v4 v5 v6).lookup ("lots" : Str) = some v0 := lk_here
theorem lk_Bid_prices {v0 v1 v2 v3 v4 v5 v6 : V} : (fBid v0 v1 v2 v3 v4 v5 v6).lookup ("prices" : Str) = some v1 := ((lk_past (by decide +kernel)).trans lk_here)
theorem lk_Bid_bidders {v0 v1 v2 v3 v4 v5 v6 : V} : (fBid v0 v1 v2 v3 v4 v5 v6).lookup ("bidders" : Str) = some v2 := ((lk_past (by decide +kernel)).trans ((lk_past (by decide +kernel)).trans lk_here))
theorem lk_Bid_volumes {v0 v1 v2 v3 v4 v5 v6 : V} : (fBid v0 v1 v2 v3 v4 v5 v6).lookup ("volumes" : Str) = some v3 := ((lk_past (by decide +kernel)).trans ((lk_past (by decide +kernel)).trans ((lk_past (by decide +kernel)).trans lk_here)))
theorem lk_Bid_reserve {v0 v1 v2 v3 v4 v5 v6 : V} : (fBid v0 v1 v2 v3 v4 v5 v6).lookup ("reserve" : Str) = some v4 := ((lk_past (by decide +kernel)).trans ((lk_past (by decide +kernel)).trans ((lk_past (by decide +kernel)).trans ((lk_past (by decide +kernel)).trans lk_here))))
theorem lk_Bid_value {v0 v1 v2 v3 v4 v5 v6 : V} : (fBid v0 v1 v2 v3 v4 v5 v6).lookup ("value" : Str) = some v5 := ((lk_past (by decide +kernel)).trans ((lk_past (by decide +kernel)).trans ((lk_past (by decide +kernel)).trans ((lk_past (by decide +kernel)).trans ((lk_past (by decide +kernel)).trans lk_here)))))
theorem lk_Bid_withdrawn {v0 v1 v2 v3 v4 v5 v6 : V} : (fBid v0 v1 v2 v3 v4 v5 v6).lookup ("withdrawn" : Str) = some v6 := ((lk_past (by decide +kernel)).trans ((lk_past (by decide +kernel)).trans ((lk_past (by decide +kernel)).trans ((lk_past (by decide +kernel)).trans ((lk_past (by decide +kernel)).trans ((lk_past (by decide +kernel)).trans lk_here))))))
theorem put_Bid_lots {v0 v1 v2 v3 v4 v5 v6 y : V} : putF "lots" y (fBid v0 v1 v2 v3 v4 v5 v6) = fBid y v1 v2 v3 v4 v5 v6 := put_here
theorem put_Bid_prices {v0 v1 v2 v3 v4 v5 v6 y : V} : putF "prices" y (fBid v0 v1 v2 v3 v4 v5 v6) = fBid v0 y v2 v3 v4 v5 v6 := ((put_past (by decide +kernel)).trans (congrArg _ put_here))
theorem put_Bid_bidders {v0 v1 v2 v3 v4 v5 v6 y : V} : putF "bidders" y (fBid v0 v1 v2 v3 v4 v5 v6) = fBid v0 v1 y v3 v4 v5 v6 := ((put_past (by decide +kernel)).trans (congrArg _ ((put_past (by decide +kernel)).trans (congrArg _ put_here))))
theorem put_Bid_volumes {v0 v1 v2 v3 v4 v5 v6 y : V} : putF "volumes" y (fBid v0 v1 v2 v3 v4 v5 v6) = fBid v0 v1 v2 y v4 v5 v6 := ((put_past (by decide +kernel)).trans (congrArg _ ((put_past (by decide +kernel)).trans (congrArg _ ((put_past (by decide +kernel)).trans (congrArg _ put_here))))))
theorem put_Bid_reserve {v0 v1 v2 v3 v4 v5 v6 y : V} : putF "reserve" y (fBid v0 v1 v2 v3 v4 v5 v6) = fBid v0 v1 v2 v3 y v5 v6 := ((put_past (by decide +kernel)).trans (congrArg _ ((put_past (by decide +kernel)).trans (congrArg _ ((put_past (by decide +kernel)).trans (congrArg _ ((put_past (by decide +kernel)).trans (congrArg _ put_here))))))))
theorem put_Bid_value {v0 v1 v2 v3 v4 v5 v6 y : V} : putF "value" y (fBid v0 v1 v2 v3 v4 v5 v6) = fBid v0 v1 v2 v3 v4 y v6 := ((put_past (by decide +kernel)).trans (congrArg _ ((put_past (by decide +kernel)).trans (congrArg _ ((put_past (by decide +kernel)).trans (congrArg _ ((put_past (by decide +kernel)).trans (congrArg _ ((put_past (by decide +kernel)).trans (congrArg _ put_here))))))))))
theorem put_Bid_withdrawn {v0 v1 v2 v3 v4 v5 v6 y : V} : putF "withdrawn" y (fBid v0 v1 v2 v3 v4 v5 v6) = fBid v0 v1 v2 v3 v4 v5 y := ((put_past (by decide +kernel)).trans (congrArg _ ((put_past (by decide +kernel)).trans (congrArg _ ((put_past (by decide +kernel)).trans (congrArg _ ((put_past (by decide +kernel)).trans (congrArg _ ((put_past (by decide +kernel)).trans (congrArg _ ((put_past (by decide +kernel)).trans (congrArg _ put_here))))))))))))
theorem new_Bid_lots {v0 : V} : putF "lots" v0 ([] : List (Str × V)) = ([("lots", v0)] : List (Str × V)) := rfl
theorem new_Bid_prices {v0 v1 : V} : putF "prices" v1 ([("lots", v0)] : List (Str × V)) = ([("lots", v0), ("prices", v1)] : List (Str × V)) := ((put_past (by decide +kernel)).trans (congrArg _ rfl))
theorem new_Bid_bidders {v0 v1 v2 : V} : putF "bidders" v2 ([("lots", v0), ("prices", v1)] : List (Str × V)) = ([("lots", v0), ("prices", v1), ("bidders", v2)] : List (Str × V)) := ((put_past (by decide +kernel)).trans (congrArg _ ((put_past (by decide +kernel)).trans (congrArg _ rfl))))
theorem new_Bid_volumes {v0 v1 v2 v3 : V} : putF "volumes" v3 ([("lots", v0), ("prices", v1), ("bidders", v2)] : List (Str × V)) = ([("lots", v0), ("prices", v1), ("bidders", v2), ("volumes", v3)] : List (Str × V)) := ((put_past (by decide +kernel)).trans (congrArg _ ((put_past (by decide +kernel)).trans (congrArg _ ((put_past (by decide +kernel)).trans (congrArg _ rfl))))))
theorem new_Bid_reserve {v0 v1 v2 v3 v4 : V} : putF "reserve" v4 ([("lots", v0), ("prices", v1), ("bidders", v2), ("volumes", v3)] : List (Str × V)) = ([("lots", v0), ("prices", v1), ("bidders", v2), ("volumes", v3), ("reserve", v4)] : List (Str × V)) := ((put_past (by decide +kernel)).trans (congrArg _ ((put_past (by decide +kernel)).trans (congrArg _ ((put_past (by decide +kernel)).trans (congrArg _ ((put_past (by decide +kernel)).trans (congrArg _ rfl))))))))
theorem new_Bid_value {v0 v1 v2 v3 v4 v5 : V} : putF "value" v5 ([("lots", v0), ("prices", v1), ("bidders", v2), ("volumes", v3), ("reserve", v4)] : List (Str × V)) = ([("lots", v0), ("prices", v1), ("bidders", v2), ("volumes", v3), ("reserve", v4), ("value", v5)] : List (Str × V)) := ((put_past (by decide +kernel)).trans (congrArg _ ((put_past (by decide +kernel)).trans (congrArg _ ((put_past (by decide +kernel)).trans (congrArg _ ((put_past (by decide +kernel)).trans (congrArg _ ((put_past (by decide +kernel)).trans (congrArg _ rfl))))))))))
theorem new_Bid_withdrawn {v0 v1 v2 v3 v4 v5 v6 : V} : putF "withdrawn" v6 ([("lots", v0), ("prices", v1), ("bidders", v2), ("volumes", v3), ("reserve", v4), ("value", v5)] : List (Str × V)) = ([("lots", v0), ("prices", v1), ("bidders", v2), ("volumes", v3), ("reserve", v4), ("value", v5), ("withdrawn", v6)] : List (Str × V)) := ((put_past (by decide +kernel)).trans (congrArg _ ((put_past (by decide +kernel)).trans (congrArg _ ((put_past (by decide +kernel)).trans (congrArg _ ((put_past (by decide +kernel)).trans (congrArg _ ((put_past (by decide +kernel)).trans (congrArg _ ((put_past (by decide +kernel)).trans (congrArg _ rfl))))))))))))
def fSale (v0 v1 v2 v3 v4 v5 : V) : List (Str × V) := [("closing_day", v0), ("rule", v1), ("advance", v2), ("lots", v3), ("bids", v4), ("limits", v5)]
theorem lk_Sale_closing_day {v0 v1 v2 v3 v4 v5 : V} : (fSale v0 v1 v2 v3 v4 v5).lookup ("closing_day" : Str) = some v0 := lk_here
theorem lk_Sale_rule {v0 v1 v2 v3 v4 v5 : V} : (fSale v0 v1 v2 v3 v4 v5).lookup ("rule" : Str) = some v1 := ((lk_past (by decide +kernel)).trans lk_here)
theorem lk_Sale_advance {v0 v1 v2 v3 v4 v5 : V} : (fSale v0 v1 v2 v3 v4 v5).lookup ("advance" : Str) = some v2 := ((lk_past (by decide +kernel)).trans ((lk_past (by decide +kernel)).trans lk_here))
theorem lk_Sale_lots {v0 v1 v2 v3 v4 v5 : V} : (fSale v0 v1 v2 v3 v4 v5).lookup ("lots" : Str) = some v3 := ((lk_past (by decide +kernel)).trans ((lk_past (by decide +kernel)).trans ((lk_past (by decide +kernel)).trans lk_here)))
theorem lk_Sale_bids {v0 v1 v2 v3 v4 v5 : V} : (fSale v0 v1 v2 v3 v4 v5).lookup ("bids" : Str) = some v4 := ((lk_past (by decide +kernel)).trans ((lk_past (by decide +kernel)).trans ((lk_past (by decide +kernel)).trans ((lk_past (by decide +kernel)).trans lk_here))))
theorem lk_Sale_limits {v0 v1 v2 v3 v4 v5 : V} : (fSale v0 v1 v2 v3 v4 v5).lookup ("limits" : Str) = some v5 := ((lk_past (by decide +kernel)).trans ((lk_past (by decide +kernel)).trans ((lk_past (by decide +kernel)).trans ((lk_past (by decide +kernel)).trans ((lk_past (by decide +kernel)).trans lk_here)))))
theorem put_Sale_closing_day {v0 v1 v2 v3 v4 v5 y : V} : putF "closing_day" y (fSale v0 v1 v2 v3 v4 v5) = fSale y v1 v2 v3 v4 v5 := put_here
theorem put_Sale_rule {v0 v1 v2 v3 v4 v5 y : V} : putF "rule" y (fSale v0 v1 v2 v3 v4 v5) = fSale v0 y v2 v3 v4 v5 := ((put_past (by decide +kernel)).trans (congrArg _ put_here))
theorem put_Sale_advance {v0 v1 v2 v3 v4 v5 y : V} : putF "advance" y (fSale v0 v1 v2 v3 v4 v5) = fSale v0 v1 y v3 v4 v5 := ((put_past (by decide +kernel)).trans (congrArg _ ((put_past (by decide +kernel)).trans (congrArg _ put_here))))
theorem put_Sale_lots {v0 v1 v2 v3 v4 v5 y : V} : putF "lots" y (fSale v0 v1 v2 v3 v4 v5) = fSale v0 v1 v2 y v4 v5 := ((put_past (by decide +kernel)).trans (congrArg _ ((put_past (by decide +kernel)).trans (congrArg _ ((put_past (by decide +kernel)).trans (congrArg _ put_here))))))
theorem put_Sale_bids {v0 v1 v2 v3 v4 v5 y : V} : putF "bids" y (fSale v0 v1 v2 v3 v4 v5) = fSale v0 v1 v2 v3 y v5 := ((put_past (by decide +kernel)).trans (congrArg _ ((put_past (by decide +kernel)).trans (congrArg _ ((put_past (by decide +kernel)).trans (congrArg _ ((put_past (by decide +kernel)).trans (congrArg _ put_here))))))))
theorem put_Sale_limits {v0 v1 v2 v3 v4 v5 y : V} : putF "limits" y (fSale v0 v1 v2 v3 v4 v5) = fSale v0 v1 v2 v3 v4 y := ((put_past (by decide +kernel)).trans (congrArg _ ((put_past (by decide +kernel)).trans (congrArg _ ((put_past (by decide +kernel)).trans (congrArg _ ((put_past (by decide +kernel)).trans (congrArg _ ((put_past (by decide +kernel)).trans (congrArg _ put_here))))))))))
theorem new_Sale_closing_day {v0 : V} : putF "closing_day" v0 ([] : List (Str × V)) = ([("closing_day", v0)] : List (Str × V)) := rfl
theorem new_Sale_rule {v0 v1 : V} : putF "rule" v1 ([("closing_day", v0)] : List (Str × V)) = ([("closing_day", v0), ("rule", v1)] : List (Str × V)) := ((put_past (by decide +kernel)).trans (congrArg _ rfl))
theorem new_Sale_advance {v0 v1 v2 : V} : putF "advance" v2 ([("closing_day", v0), ("rule", v1)] : List (Str × V)) = ([("closing_day", v0), ("rule", v1), ("advance", v2)] : List (Str × V)) := ((put_past (by decide +kernel)).trans (congrArg _ ((put_past (by decide +kernel)).trans (congrArg _ rfl))))
theorem new_Sale_lots {v0 v1 v2 v3 : V} : putF "lots" v3 ([("closing_day", v0), ("rule", v1), ("advance", v2)] : List (Str × V)) = ([("closing_day", v0), ("rule", v1), ("advance", v2), ("lots", v3)] : List (Str × V)) := ((put_past (by decide +kernel)).trans (congrArg _ ((put_past (by decide +kernel)).trans (congrArg _ ((put_past (by decide +kernel)).trans (congrArg _ rfl))))))
theorem new_Sale_bids {v0 v1 v2 v3 v4 : V} : putF "bids" v4 ([("closing_day", v0), ("rule", v1), ("advance", v2), ("lots", v3)] : List (Str × V)) = ([("closing_day", v0), ("rule", v1), ("advance", v2), ("lots", v3), ("bids", v4)] : List (Str × V)) := ((put_past (by decide +kernel)).trans (congrArg _ ((put_past (by decide +kernel)).trans (congrArg _ ((put_past (by decide +kernel)).trans (congrArg _ ((put_past (by decide +kernel)).trans (congrArg _ rfl))))))))
theorem new_Sale_limits {v0 v1 v2 v3 v4 v5 : V} : putF "limits" v5 ([("closing_day", v0), ("rule", v1), ("advance", v2), ("lots", v3), ("bids", v4)] : List (Str × V)) = ([("closing_day", v0), ("rule", v1), ("advance", v2), ("lots", v3), ("bids", v4), ("limits", v5)] : List (Str × V)) := ((put_past (by decide +kernel)).trans (congrArg _ ((put_past (by decide +kernel)).trans (congrArg _ ((put_past (by decide +kernel)).trans (congrArg _ ((put_past (by decide +kernel)).trans (congrArg _ ((put_past (by decide +kernel)).trans (congrArg _ rfl))))))))))
def fContract (v0 v1 v2 v3 v4 v5 v6 v7 : V) : List (Str × V) := [("value", v0), ("volumes", v1), ("prices", v2), ("bidders", v3), ("day", v4), ("advance", v5), ("factor", v6), ("closed", v7)]
theorem lk_Contract_value {v0 v1 v2 v3 v4 v5 v6 v7 : V} : (fContract v0 v1 v2 v3 v4 v5 v6 v7).lookup ("value" : Str) = some v0 := lk_here
theorem lk_Contract_volumes {v0 v1 v2 v3 v4 v5 v6 v7 : V} : (fContract v0 v1 v2 v3 v4 v5 v6 v7).lookup ("volumes" : Str) = some v1 := ((lk_past (by decide +kernel)).trans lk_here)
theorem lk_Contract_prices {v0 v1 v2 v3 v4 v5 v6 v7 : V} : (fContract v0 v1 v2 v3 v4 v5 v6 v7).lookup ("prices" : Str) = some v2 := ((lk_past (by decide +kernel)).trans ((lk_past (by decide +kernel)).trans lk_here))
theorem lk_Contract_bidders {v0 v1 v2 v3 v4 v5 v6 v7 : V} : (fContract v0 v1 v2 v3 v4 v5 v6 v7).lookup ("bidders" : Str) = some v3 := ((lk_past (by decide +kernel)).trans ((lk_past (by decide +kernel)).trans ((lk_past (by decide +kernel)).trans lk_here)))
theorem lk_Contract_day {v0 v1 v2 v3 v4 v5 v6 v7 : V} : (fContract v0 v1 v2 v3 v4 v5 v6 v7).lookup ("day" : Str) = some v4 := ((lk_past (by decide +kernel)).trans ((lk_past (by decide +kernel)).trans ((lk_past (by decide +kernel)).trans ((lk_past (by decide +kernel)).trans lk_here))))
theorem lk_Contract_advance {v0 v1 v2 v3 v4 v5 v6 v7 : V} : (fContract v0 v1 v2 v3 v4 v5 v6 v7).lookup ("advance" : Str) = some v5 := ((lk_past (by decide +kernel)).trans ((lk_past (by decide +kernel)).trans ((lk_past (by decide +kernel)).trans ((lk_past (by decide +kernel)).trans ((lk_past (by decide +kernel)).trans lk_here)))))
theorem lk_Contract_factor {v0 v1 v2 v3 v4 v5 v6 v7 : V} : (fContract v0 v1 v2 v3 v4 v5 v6 v7).lookup ("factor" : Str) = some v6 := ((lk_past (by decide +kernel)).trans ((lk_past (by decide +kernel)).trans ((lk_past (by decide +kernel)).trans ((lk_past (by decide +kernel)).trans ((lk_past (by decide +kernel)).trans ((lk_past (by decide +kernel)).trans lk_here))))))
theorem lk_Contract_closed {v0 v1 v2 v3 v4 v5 v6 v7 : V} : (fContract v0 v1 v2 v3 v4 v5 v6 v7).lookup ("closed" : Str) = some v7 := ((lk_past (by decide +kernel)).trans ((lk_past (by decide +kernel)).trans ((lk_past (by decide +kernel)).trans ((lk_past (by decide +kernel)).trans ((lk_past (by decide +kernel)).trans ((lk_past (by decide +kernel)).trans ((lk_past (by decide +kernel)).trans lk_here)))))))
theorem put_Contract_value {v0 v1 v2 v3 v4 v5 v6 v7 y : V} : putF "value" y (fContract v0 v1 v2 v3 v4 v5 v6 v7) = fContract y v1 v2 v3 v4 v5 v6 v7 := put_here
theorem put_Contract_volumes {v0 v1 v2 v3 v4 v5 v6 v7 y : V} : putF "volumes" y (fContract v0 v1 v2 v3 v4 v5 v6 v7) = fContract v0 y v2 v3 v4 v5 v6 v7 := ((put_past (by decide +kernel)).trans (congrArg _ put_here))
theorem put_Contract_prices {v0 v1 v2 v3 v4 v5 v6 v7 y : V} : putF "prices" y (fContract v0 v1 v2 v3 v4 v5 v6 v7) = fContract v0 v1 y v3 v4 v5 v6 v7 := ((put_past (by decide +kernel)).trans (congrArg _ ((put_past (by decide +kernel)).trans (congrArg _ put_here))))
theorem put_Contract_bidders {v0 v1 v2 v3 v4 v5 v6 v7 y : V} : putF "bidders" y (fContract v0 v1 v2 v3 v4 v5 v6 v7) = fContract v0 v1 v2 y v4 v5 v6 v7 := ((put_past (by decide +kernel)).trans (congrArg _ ((put_past (by decide +kernel)).trans (congrArg _ ((put_past (by decide +kernel)).trans (congrArg _ put_here))))))
theorem put_Contract_day {v0 v1 v2 v3 v4 v5 v6 v7 y : V} : putF "day" y (fContract v0 v1 v2 v3 v4 v5 v6 v7) = fContract v0 v1 v2 v3 y v5 v6 v7 := ((put_past (by decide +kernel)).trans (congrArg _ ((put_past (by decide +kernel)).trans (congrArg _ ((put_past (by decide +kernel)).trans (congrArg _ ((put_past (by decide +kernel)).trans (congrArg _ put_here))))))))
theorem put_Contract_advance {v0 v1 v2 v3 v4 v5 v6 v7 y : V} : putF "advance" y (fContract v0 v1 v2 v3 v4 v5 v6 v7) = fContract v0 v1 v2 v3 v4 y v6 v7 := ((put_past (by decide +kernel)).trans (congrArg _ ((put_past (by decide +kernel)).trans (congrArg _ ((put_past (by decide +kernel)).trans (congrArg _ ((put_past (by decide +kernel)).trans (congrArg _ ((put_past (by decide +kernel)).trans (congrArg _ put_here))))))))))
theorem put_Contract_factor {v0 v1 v2 v3 v4 v5 v6 v7 y : V} : putF "factor" y (fContract v0 v1 v2 v3 v4 v5 v6 v7) = fContract v0 v1 v2 v3 v4 v5 y v7 := ((put_past (by decide +kernel)).trans (congrArg _ ((put_past (by decide +kernel)).trans (congrArg _ ((put_past (by decide +kernel)).trans (congrArg _ ((put_past (by decide +kernel)).trans (congrArg _ ((put_past (by decide +kernel)).trans (congrArg _ ((put_past (by decide +kernel)).trans (congrArg _ put_here))))))))))))
theorem put_Contract_closed {v0 v1 v2 v3 v4 v5 v6 v7 y : V} : putF "closed" y (fContract v0 v1 v2 v3 v4 v5 v6 v7) = fContract v0 v1 v2 v3 v4 v5 v6 y := ((put_past (by decide +kernel)).trans (congrArg _ ((put_past (by decide +kernel)).trans (congrArg _ ((put_past (by decide +kernel)).trans (congrArg _ ((put_past (by decide +kernel)).trans (congrArg _ ((put_past (by decide +kernel)).trans (congrArg _ ((put_past (by decide +kernel)).trans (congrArg _ ((put_past (by decide +kernel)).trans (congrArg _ put_here))))))))))))))
theorem new_Contract_value {v0 : V} : putF "value" v0 ([] : List (Str × V)) = ([("value", v0)] : List (Str × V)) := rfl
theorem new_Contract_volumes {v0 v1 : V} : putF "volumes" v1 ([("value", v0)] : List (Str × V)) = ([("value", v0), ("volumes", v1)] : List (Str × V)) := ((put_past (by decide +kernel)).trans (congrArg _ rfl))
theorem new_Contract_prices {v0 v1 v2 : V} : putF "prices" v2 ([("value", v0), ("volumes", v1)] : List (Str × V)) = ([("value", v0), ("volumes", v1), ("prices", v2)] : List (Str × V)) := ((put_past (by decide +kernel)).trans (congrArg _ ((put_past (by decide +kernel)).trans (congrArg _ rfl))))
theorem new_Contract_bidders {v0 v1 v2 v3 : V} : putF "bidders" v3 ([("value", v0), ("volumes", v1), ("prices", v2)] : List (Str × V)) = ([("value", v0), ("volumes", v1), ("prices", v2), ("bidders", v3)] : List (Str × V)) := ((put_past (by decide +kernel)).trans (congrArg _ ((put_past (by decide +kernel)).trans (congrArg _ ((put_past (by decide +kernel)).trans (congrArg _ rfl))))))
theorem new_Contract_day {v0 v1 v2 v3 v4 : V} : putF "day" v4 ([("value", v0), ("volumes", v1), ("prices", v2), ("bidders", v3)] : List (Str × V)) = ([("value", v0), ("volumes", v1), ("prices", v2), ("bidders", v3), ("day", v4)] : List (Str × V)) := ((put_past (by decide +kernel)).trans (congrArg _ ((put_past (by decide +kernel)).trans (congrArg _ ((put_past (by decide +kernel)).trans (congrArg _ ((put_past (by decide +kernel)).trans (congrArg _ rfl))))))))
theorem new_Contract_advance {v0 v1 v2 v3 v4 v5 : V} : putF "advance" v5 ([("value", v0), ("volumes", v1), ("prices", v2), ("bidders", v3), ("day", v4)] : List (Str × V)) = ([("value", v0), ("volumes", v1), ("prices", v2), ("bidders", v3), ("day", v4), ("advance", v5)] : List (Str × V)) := ((put_past (by decide +kernel)).trans (congrArg _ ((put_past (by decide +kernel)).trans (congrArg _ ((put_past (by decide +kernel)).trans (congrArg _ ((put_past (by decide +kernel)).trans (congrArg _ ((put_past (by decide +kernel)).trans (congrArg _ rfl))))))))))
theorem new_Contract_factor {v0 v1 v2 v3 v4 v5 v6 : V} : putF "factor" v6 ([("value", v0), ("volumes", v1), ("prices", v2), ("bidders", v3), ("day", v4), ("advance", v5)] : List (Str × V)) = ([("value", v0), ("volumes", v1), ("prices", v2), ("bidders", v3), ("day", v4), ("advance", v5), ("factor", v6)] : List (Str × V)) := ((put_past (by decide +kernel)).trans (congrArg _ ((put_past (by decide +kernel)).trans (congrArg _ ((put_past (by decide +kernel)).trans (congrArg _ ((put_past (by decide +kernel)).trans (congrArg _ ((put_past (by decide +kernel)).trans (congrArg _ ((put_past (by decide +kernel)).trans (congrArg _ rfl))))))))))))
theorem new_Contract_closed {v0 v1 v2 v3 v4 v5 v6 v7 : V} : putF "closed" v7 ([("value", v0), ("volumes", v1), ("prices", v2), ("bidders", v3), ("day", v4), ("advance", v5), ("factor", v6)] : List (Str × V)) = ([("value", v0), ("volumes", v1), ("prices", v2), ("bidders", v3), ("day", v4), ("advance", v5), ("factor", v6), ("closed", v7)] : List (Str × V)) := ((put_past (by decide +kernel)).trans (congrArg _ ((put_past (by decide +kernel)).trans (congrArg _ ((put_past (by decide +kernel)).trans (congrArg _ ((put_past (by decide +kernel)).trans (congrArg _ ((put_past (by decide +kernel)).trans (congrArg _ ((put_past (by decide +kernel)).trans (congrArg _ ((put_past (by decide +kernel)).trans (congrArg _ rfl))))))))))))))
def fDelivery (v0 v1 v2 v3 : V) : List (Str × V) := [("contract", v0), ("day", v1), ("grade", v2), ("volume", v3)]
theorem lk_Delivery_contract {v0 v1 v2 v3 : V} : (fDelivery v0 v1 v2 v3).lookup ("contract" : Str) = some v0 := lk_here
theorem lk_Delivery_day {v0 v1 v2 v3 : V} : (fDelivery v0 v1 v2 v3).lookup ("day" : Str) = some v1 := ((lk_past (by decide +kernel)).trans lk_here)
theorem lk_Delivery_grade {v0 v1 v2 v3 : V} : (fDelivery v0 v1 v2 v3).lookup ("grade" : Str) = some v2 := ((lk_past (by decide +kernel)).trans ((lk_past (by decide +kernel)).trans lk_here))
theorem lk_Delivery_volume {v0 v1 v2 v3 : V} : (fDelivery v0 v1 v2 v3).lookup ("volume" : Str) = some v3 := ((lk_past (by decide +kernel)).trans ((lk_past (by decide +kernel)).trans ((lk_past (by decide +kernel)).trans lk_here)))
theorem put_Delivery_contract {v0 v1 v2 v3 y : V} : putF "contract" y (fDelivery v0 v1 v2 v3) = fDelivery y v1 v2 v3 := put_here
theorem put_Delivery_day {v0 v1 v2 v3 y : V} : putF "day" y (fDelivery v0 v1 v2 v3) = fDelivery v0 y v2 v3 := ((put_past (by decide +kernel)).trans (congrArg _ put_here))
theorem put_Delivery_grade {v0 v1 v2 v3 y : V} : putF "grade" y (fDelivery v0 v1 v2 v3) = fDelivery v0 v1 y v3 := ((put_past (by decide +kernel)).trans (congrArg _ ((put_past (by decide +kernel)).trans (congrArg _ put_here))))
theorem put_Delivery_volume {v0 v1 v2 v3 y : V} : putF "volume" y (fDelivery v0 v1 v2 v3) = fDelivery v0 v1 v2 y := ((put_past (by decide +kernel)).trans (congrArg _ ((put_past (by decide +kernel)).trans (congrArg _ ((put_past (by decide +kernel)).trans (congrArg _ put_here))))))
theorem new_Delivery_contract {v0 : V} : putF "contract" v0 ([] : List (Str × V)) = ([("contract", v0)] : List (Str × V)) := rfl
theorem new_Delivery_day {v0 v1 : V} : putF "day" v1 ([("contract", v0)] : List (Str × V)) = ([("contract", v0), ("day", v1)] : List (Str × V)) := ((put_past (by decide +kernel)).trans (congrArg _ rfl))
theorem new_Delivery_grade {v0 v1 v2 : V} : putF "grade" v2 ([("contract", v0), ("day", v1)] : List (Str × V)) = ([("contract", v0), ("day", v1), ("grade", v2)] : List (Str × V)) := ((put_past (by decide +kernel)).trans (congrArg _ ((put_past (by decide +kernel)).trans (congrArg _ rfl))))
theorem new_Delivery_volume {v0 v1 v2 v3 : V} : putF "volume" v3 ([("contract", v0), ("day", v1), ("grade", v2)] : List (Str × V)) = ([("contract", v0), ("day", v1), ("grade", v2), ("volume", v3)] : List (Str × V)) := ((put_past (by decide +kernel)).trans (congrArg _ ((put_past (by decide +kernel)).trans (congrArg _ ((put_past (by decide +kernel)).trans (congrArg _ rfl))))))
def fBill (v0 v1 v2 : V) : List (Str × V) := [("contract", v0), ("day", v1), ("amounts", v2)]
theorem lk_Bill_contract {v0 v1 v2 : V} : (fBill v0 v1 v2).lookup ("contract" : Str) = some v0 := lk_here
theorem lk_Bill_day {v0 v1 v2 : V} : (fBill v0 v1 v2).lookup ("day" : Str) = some v1 := ((lk_past (by decide +kernel)).trans lk_here)
theorem lk_Bill_amounts {v0 v1 v2 : V} : (fBill v0 v1 v2).lookup ("amounts" : Str) = some v2 := ((lk_past (by decide +kernel)).trans ((lk_past (by decide +kernel)).trans lk_here))
theorem put_Bill_contract {v0 v1 v2 y : V} : putF "contract" y (fBill v0 v1 v2) = fBill y v1 v2 := put_here
theorem put_Bill_day {v0 v1 v2 y : V} : putF "day" y (fBill v0 v1 v2) = fBill v0 y v2 := ((put_past (by decide +kernel)).trans (congrArg _ put_here))
theorem put_Bill_amounts {v0 v1 v2 y : V} : putF "amounts" y (fBill v0 v1 v2) = fBill v0 v1 y := ((put_past (by decide +kernel)).trans (congrArg _ ((put_past (by decide +kernel)).trans (congrArg _ put_here))))
theorem new_Bill_contract {v0 : V} : putF "contract" v0 ([] : List (Str × V)) = ([("contract", v0)] : List (Str × V)) := rfl
theorem new_Bill_day {v0 v1 : V} : putF "day" v1 ([("contract", v0)] : List (Str × V)) = ([("contract", v0), ("day", v1)] : List (Str × V)) := ((put_past (by decide +kernel)).trans (congrArg _ rfl))
theorem new_Bill_amounts {v0 v1 v2 : V} : putF "amounts" v2 ([("contract", v0), ("day", v1)] : List (Str × V)) = ([("contract", v0), ("day", v1), ("amounts", v2)] : List (Str × V)) := ((put_past (by decide +kernel)).trans (congrArg _ ((put_past (by decide +kernel)).trans (congrArg _ rfl))))
def fState (v0 v1 v2 v3 v4 v5 v6 : V) : List (Str × V) := [("day", v0), ("sale", v1), ("contracts", v2), ("index_values", v3), ("deliveries", v4), ("bills", v5), ("paid", v6)]
theorem lk_State_day {v0 v1 v2 v3 v4 v5 v6 : V} : (fState v0 v1 v2 v3 v4 v5 v6).lookup ("day" : Str) = some v0 := lk_here
theorem lk_State_sale {v0 v1 v2 v3 v4 v5 v6 : V} : (fState v0 v1 v2 v3 v4 v5 v6).lookup ("sale" : Str) = some v1 := ((lk_past (by decide +kernel)).trans lk_here)
theorem lk_State_contracts {v0 v1 v2 v3 v4 v5 v6 : V} : (fState v0 v1 v2 v3 v4 v5 v6).lookup ("contracts" : Str) = some v2 := ((lk_past (by decide +kernel)).trans ((lk_past (by decide +kernel)).trans lk_here))
theorem lk_State_index_values {v0 v1 v2 v3 v4 v5 v6 : V} : (fState v0 v1 v2 v3 v4 v5 v6).lookup ("index_values" : Str) = some v3 := ((lk_past (by decide +kernel)).trans ((lk_past (by decide +kernel)).trans ((lk_past (by decide +kernel)).trans lk_here)))
theorem lk_State_deliveries {v0 v1 v2 v3 v4 v5 v6 : V} : (fState v0 v1 v2 v3 v4 v5 v6).lookup ("deliveries" : Str) = some v4 := ((lk_past (by decide +kernel)).trans ((lk_past (by decide +kernel)).trans ((lk_past (by decide +kernel)).trans ((lk_past (by decide +kernel)).trans lk_here))))
theorem lk_State_bills {v0 v1 v2 v3 v4 v5 v6 : V} : (fState v0 v1 v2 v3 v4 v5 v6).lookup ("bills" : Str) = some v5 := ((lk_past (by decide +kernel)).trans ((lk_past (by decide +kernel)).trans ((lk_past (by decide +kernel)).trans ((lk_past (by decide +kernel)).trans ((lk_past (by decide +kernel)).trans lk_here)))))
theorem lk_State_paid {v0 v1 v2 v3 v4 v5 v6 : V} : (fState v0 v1 v2 v3 v4 v5 v6).lookup ("paid" : Str) = some v6 := ((lk_past (by decide +kernel)).trans ((lk_past (by decide +kernel)).trans ((lk_past (by decide +kernel)).trans ((lk_past (by decide +kernel)).trans ((lk_past (by decide +kernel)).trans ((lk_past (by decide +kernel)).trans lk_here))))))
theorem put_State_day {v0 v1 v2 v3 v4 v5 v6 y : V} : putF "day" y (fState v0 v1 v2 v3 v4 v5 v6) = fState y v1 v2 v3 v4 v5 v6 := put_here
theorem put_State_sale {v0 v1 v2 v3 v4 v5 v6 y : V} : putF "sale" y (fState v0 v1 v2 v3 v4 v5 v6) = fState v0 y v2 v3 v4 v5 v6 := ((put_past (by decide +kernel)).trans (congrArg _ put_here))
theorem put_State_contracts {v0 v1 v2 v3 v4 v5 v6 y : V} : putF "contracts" y (fState v0 v1 v2 v3 v4 v5 v6) = fState v0 v1 y v3 v4 v5 v6 := ((put_past (by decide +kernel)).trans (congrArg _ ((put_past (by decide +kernel)).trans (congrArg _ put_here))))
theorem put_State_index_values {v0 v1 v2 v3 v4 v5 v6 y : V} : putF "index_values" y (fState v0 v1 v2 v3 v4 v5 v6) = fState v0 v1 v2 y v4 v5 v6 := ((put_past (by decide +kernel)).trans (congrArg _ ((put_past (by decide +kernel)).trans (congrArg _ ((put_past (by decide +kernel)).trans (congrArg _ put_here))))))
theorem put_State_deliveries {v0 v1 v2 v3 v4 v5 v6 y : V} : putF "deliveries" y (fState v0 v1 v2 v3 v4 v5 v6) = fState v0 v1 v2 v3 y v5 v6 := ((put_past (by decide +kernel)).trans (congrArg _ ((put_past (by decide +kernel)).trans (congrArg _ ((put_past (by decide +kernel)).trans (congrArg _ ((put_past (by decide +kernel)).trans (congrArg _ put_here))))))))
theorem put_State_bills {v0 v1 v2 v3 v4 v5 v6 y : V} : putF "bills" y (fState v0 v1 v2 v3 v4 v5 v6) = fState v0 v1 v2 v3 v4 y v6 := ((put_past (by decide +kernel)).trans (congrArg _ ((put_past (by decide +kernel)).trans (congrArg _ ((put_past (by decide +kernel)).trans (congrArg _ ((put_past (by decide +kernel)).trans (congrArg _ ((put_past (by decide +kernel)).trans (congrArg _ put_here))))))))))
theorem put_State_paid {v0 v1 v2 v3 v4 v5 v6 y : V} : putF "paid" y (fState v0 v1 v2 v3 v4 v5 v6) = fState v0 v1 v2 v3 v4 v5 y := ((put_past (by decide +kernel)).trans (congrArg _ ((put_past (by decide +kernel)).trans (congrArg _ ((put_past (by decide +kernel)).trans (congrArg _ ((put_past (by decide +kernel)).trans (congrArg _ ((put_past (by decide +kernel)).trans (congrArg _ ((put_past (by decide +kernel)).trans (congrArg _ put_here))))))))))))
theorem new_State_day {v0 : V} : putF "day" v0 ([] : List (Str × V)) = ([("day", v0)] : List (Str × V)) := rfl
theorem new_State_sale {v0 v1 : V} : putF "sale" v1 ([("day", v0)] : List (Str × V)) = ([("day", v0), ("sale", v1)] : List (Str × V)) := ((put_past (by decide +kernel)).trans (congrArg _ rfl))
theorem new_State_contracts {v0 v1 v2 : V} : putF "contracts" v2 ([("day", v0), ("sale", v1)] : List (Str × V)) = ([("day", v0), ("sale", v1), ("contracts", v2)] : List (Str × V)) := ((put_past (by decide +kernel)).trans (congrArg _ ((put_past (by decide +kernel)).trans (congrArg _ rfl))))
theorem new_State_index_values {v0 v1 v2 v3 : V} : putF "index_values" v3 ([("day", v0), ("sale", v1), ("contracts", v2)] : List (Str × V)) = ([("day", v0), ("sale", v1), ("contracts", v2), ("index_values", v3)] : List (Str × V)) := ((put_past (by decide +kernel)).trans (congrArg _ ((put_past (by decide +kernel)).trans (congrArg _ ((put_past (by decide +kernel)).trans (congrArg _ rfl))))))
theorem new_State_deliveries {v0 v1 v2 v3 v4 : V} : putF "deliveries" v4 ([("day", v0), ("sale", v1), ("contracts", v2), ("index_values", v3)] : List (Str × V)) = ([("day", v0), ("sale", v1), ("contracts", v2), ("index_values", v3), ("deliveries", v4)] : List (Str × V)) := ((put_past (by decide +kernel)).trans (congrArg _ ((put_past (by decide +kernel)).trans (congrArg _ ((put_past (by decide +kernel)).trans (congrArg _ ((put_past (by decide +kernel)).trans (congrArg _ rfl))))))))
theorem new_State_bills {v0 v1 v2 v3 v4 v5 : V} : putF "bills" v5 ([("day", v0), ("sale", v1), ("contracts", v2), ("index_values", v3), ("deliveries", v4)] : List (Str × V)) = ([("day", v0), ("sale", v1), ("contracts", v2), ("index_values", v3), ("deliveries", v4), ("bills", v5)] : List (Str × V)) := ((put_past (by decide +kernel)).trans (congrArg _ ((put_past (by decide +kernel)).trans (congrArg _ ((put_past (by decide +kernel)).trans (congrArg _ ((put_past (by decide +kernel)).trans (congrArg _ ((put_past (by decide +kernel)).trans (congrArg _ rfl))))))))))
theorem new_State_paid {v0 v1 v2 v3 v4 v5 v6 : V} : putF "paid" v6 ([("day", v0), ("sale", v1), ("contracts", v2), ("index_values", v3), ("deliveries", v4), ("bills", v5)] : List (Str × V)) = ([("day", v0), ("sale", v1), ("contracts", v2), ("index_values", v3), ("deliveries", v4), ("bills", v5), ("paid", v6)] : List (Str × V)) := ((put_past (by decide +kernel)).trans (congrArg _ ((put_past (by decide +kernel)).trans (congrArg _ ((put_past (by decide +kernel)).trans (congrArg _ ((put_past (by decide +kernel)).trans (congrArg _ ((put_past (by decide +kernel)).trans (congrArg _ ((put_past (by decide +kernel)).trans (congrArg _ rfl))))))))))))
def fSelection (v0 v1 v2 v3 : V) : List (Str × V) := [("numbers", v0), ("value", v1), ("taken", v2), ("room", v3)]
theorem lk_Selection_numbers {v0 v1 v2 v3 : V} : (fSelection v0 v1 v2 v3).lookup ("numbers" : Str) = some v0 := lk_here
theorem lk_Selection_value {v0 v1 v2 v3 : V} : (fSelection v0 v1 v2 v3).lookup ("value" : Str) = some v1 := ((lk_past (by decide +kernel)).trans lk_here)
theorem lk_Selection_taken {v0 v1 v2 v3 : V} : (fSelection v0 v1 v2 v3).lookup ("taken" : Str) = some v2 := ((lk_past (by decide +kernel)).trans ((lk_past (by decide +kernel)).trans lk_here))
theorem lk_Selection_room {v0 v1 v2 v3 : V} : (fSelection v0 v1 v2 v3).lookup ("room" : Str) = some v3 := ((lk_past (by decide +kernel)).trans ((lk_past (by decide +kernel)).trans ((lk_past (by decide +kernel)).trans lk_here)))
theorem put_Selection_numbers {v0 v1 v2 v3 y : V} : putF "numbers" y (fSelection v0 v1 v2 v3) = fSelection y v1 v2 v3 := put_here
theorem put_Selection_value {v0 v1 v2 v3 y : V} : putF "value" y (fSelection v0 v1 v2 v3) = fSelection v0 y v2 v3 := ((put_past (by decide +kernel)).trans (congrArg _ put_here))
theorem put_Selection_taken {v0 v1 v2 v3 y : V} : putF "taken" y (fSelection v0 v1 v2 v3) = fSelection v0 v1 y v3 := ((put_past (by decide +kernel)).trans (congrArg _ ((put_past (by decide +kernel)).trans (congrArg _ put_here))))
theorem put_Selection_room {v0 v1 v2 v3 y : V} : putF "room" y (fSelection v0 v1 v2 v3) = fSelection v0 v1 v2 y := ((put_past (by decide +kernel)).trans (congrArg _ ((put_past (by decide +kernel)).trans (congrArg _ ((put_past (by decide +kernel)).trans (congrArg _ put_here))))))
theorem new_Selection_numbers {v0 : V} : putF "numbers" v0 ([] : List (Str × V)) = ([("numbers", v0)] : List (Str × V)) := rfl
theorem new_Selection_value {v0 v1 : V} : putF "value" v1 ([("numbers", v0)] : List (Str × V)) = ([("numbers", v0), ("value", v1)] : List (Str × V)) := ((put_past (by decide +kernel)).trans (congrArg _ rfl))
theorem new_Selection_taken {v0 v1 v2 : V} : putF "taken" v2 ([("numbers", v0), ("value", v1)] : List (Str × V)) = ([("numbers", v0), ("value", v1), ("taken", v2)] : List (Str × V)) := ((put_past (by decide +kernel)).trans (congrArg _ ((put_past (by decide +kernel)).trans (congrArg _ rfl))))
theorem new_Selection_room {v0 v1 v2 v3 : V} : putF "room" v3 ([("numbers", v0), ("value", v1), ("taken", v2)] : List (Str × V)) = ([("numbers", v0), ("value", v1), ("taken", v2), ("room", v3)] : List (Str × V)) := ((put_past (by decide +kernel)).trans (congrArg _ ((put_past (by decide +kernel)).trans (congrArg _ ((put_past (by decide +kernel)).trans (congrArg _ rfl))))))
def fReader (v0 v1 : V) : List (Str × V) := [("source", v0), ("place", v1)]
theorem lk_Reader_source {v0 v1 : V} : (fReader v0 v1).lookup ("source" : Str) = some v0 := lk_here
theorem lk_Reader_place {v0 v1 : V} : (fReader v0 v1).lookup ("place" : Str) = some v1 := ((lk_past (by decide +kernel)).trans lk_here)
theorem put_Reader_source {v0 v1 y : V} : putF "source" y (fReader v0 v1) = fReader y v1 := put_here
theorem put_Reader_place {v0 v1 y : V} : putF "place" y (fReader v0 v1) = fReader v0 y := ((put_past (by decide +kernel)).trans (congrArg _ put_here))
theorem new_Reader_source {v0 : V} : putF "source" v0 ([] : List (Str × V)) = ([("source", v0)] : List (Str × V)) := rfl
theorem new_Reader_place {v0 v1 : V} : putF "place" v1 ([("source", v0)] : List (Str × V)) = ([("source", v0), ("place", v1)] : List (Str × V)) := ((put_past (by decide +kernel)).trans (congrArg _ rfl))
theorem nm_Reader_at_end {v0 v1 : V} : (fReader v0 v1).lookup ("at_end" : Str) = none := ((lk_past (by decide +kernel)).trans ((lk_past (by decide +kernel)).trans rfl))
theorem nm_Reader_next_numbers {v0 v1 : V} : (fReader v0 v1).lookup ("next_numbers" : Str) = none := ((lk_past (by decide +kernel)).trans ((lk_past (by decide +kernel)).trans rfl))
theorem nm_Reader_next_number {v0 v1 : V} : (fReader v0 v1).lookup ("next_number" : Str) = none := ((lk_past (by decide +kernel)).trans ((lk_past (by decide +kernel)).trans rfl))
theorem nm_Reader_next_row {v0 v1 : V} : (fReader v0 v1).lookup ("next_row" : Str) = none := ((lk_past (by decide +kernel)).trans ((lk_past (by decide +kernel)).trans rfl))
/-! ### the addresses of the classes -/
structure Ad where
  Lot : Addr
  Bid : Addr
  Sale : Addr
  Contract : Addr
  Delivery : Addr
  Bill : Addr
  State : Addr
  Selection : Addr
  Reader : Addr
  tab : Addr
  code : Addr
/-! ### places and scopes -/
abbrev s_common_divisor : Stmt := topS 32
theorem sc_common_divisor : FnScope ["first", "second", "rest"] ["first", "second"] (defScope s_common_divisor) := fnS (by decide +kernel)
abbrev s_lowest_terms : Stmt := topS 33
theorem sc_lowest_terms : FnScope ["top", "bottom", "divisor"] ["top", "bottom"] (defScope s_lowest_terms) := fnS (by decide +kernel)
abbrev s_nearest : Stmt := topS 34
theorem sc_nearest : FnScope ["fraction"] ["fraction"] (defScope s_nearest) := fnS (by decide +kernel)
abbrev s_Lot___init__ : Stmt := inClass (topS 36) 0
theorem sc_Lot___init__ : FnScope ["self", "reserve", "volumes"] ["self", "reserve", "volumes"] (defScope s_Lot___init__) := fnS (by decide +kernel)
abbrev s_Bid___init__ : Stmt := inClass (topS 37) 0
theorem sc_Bid___init__ : FnScope ["self", "lots", "prices", "bidders", "volumes", "reserve", "volume", "price"] ["self", "lots", "prices", "bidders", "volumes", "reserve"] (defScope s_Bid___init__) := fnS (by decide +kernel)
abbrev s_Sale___init__ : Stmt := inClass (topS 38) 0
theorem sc_Sale___init__ : FnScope ["self", "closing_day", "rule", "advance"] ["self", "closing_day", "rule", "advance"] (defScope s_Sale___init__) := fnS (by decide +kernel)
abbrev s_Contract___init__ : Stmt := inClass (topS 39) 0
theorem sc_Contract___init__ : FnScope ["self", "bid", "day", "advance", "factor"] ["self", "bid", "day", "advance", "factor"] (defScope s_Contract___init__) := fnS (by decide +kernel)
abbrev s_Delivery___init__ : Stmt := inClass (topS 40) 0
theorem sc_Delivery___init__ : FnScope ["self", "contract", "day", "grade", "volume"] ["self", "contract", "day", "grade", "volume"] (defScope s_Delivery___init__) := fnS (by decide +kernel)
abbrev s_Bill___init__ : Stmt := inClass (topS 41) 0
theorem sc_Bill___init__ : FnScope ["self", "contract", "day", "amounts"] ["self", "contract", "day", "amounts"] (defScope s_Bill___init__) := fnS (by decide +kernel)
abbrev s_State___init__ : Stmt := inClass (topS 42) 0
theorem sc_State___init__ : FnScope ["self"] ["self"] (defScope s_State___init__) := fnS (by decide +kernel)
abbrev s_Selection___init__ : Stmt := inClass (topS 44) 0
theorem sc_Selection___init__ : FnScope ["self", "numbers", "value", "taken", "room"] ["self", "numbers", "value", "taken", "room"] (defScope s_Selection___init__) := fnS (by decide +kernel)
abbrev s_is_admissible : Stmt := topS 45
theorem sc_is_admissible : FnScope ["bid"] ["bid"] (defScope s_is_admissible) := fnS (by decide +kernel)
abbrev s_fits : Stmt := topS 46
theorem sc_fits : FnScope ["chosen", "bid", "lot", "bidder", "weight"] ["chosen", "bid"] (defScope s_fits) := fnS (by decide +kernel)
abbrev s_joined : Stmt := topS 47
theorem sc_joined : FnScope ["chosen", "number", "bid", "taken", "lot", "room", "bidder", "weight"] ["chosen", "number", "bid"] (defScope s_joined) := fnS (by decide +kernel)
abbrev s_all_selections : Stmt := topS 48
theorem sc_all_selections : FnScope ["sale", "found", "number", "bid", "chosen"] ["sale"] (defScope s_all_selections) := fnS (by decide +kernel)
abbrev s_rank : Stmt := topS 49
theorem sc_rank : FnScope ["chosen"] ["chosen"] (defScope s_rank) := fnS (by decide +kernel)
abbrev s_best_of : Stmt := topS 50
theorem sc_best_of : FnScope ["found"] ["found"] (defScope s_best_of) := fnS (by decide +kernel)
abbrev s_threshold_of : Stmt := topS 51
theorem sc_threshold_of : FnScope ["sale", "found", "number", "bid", "best_value", "best_without", "chosen"] ["sale", "found", "number"] (defScope s_threshold_of) := fnS (by decide +kernel)
abbrev s_inadmissible_bid : Stmt := topS 52
theorem sc_inadmissible_bid : FnScope ["sale", "numbers", "number"] ["sale", "numbers"] (defScope s_inadmissible_bid) := fnS (by decide +kernel)
abbrev s_shared_lot : Stmt := topS 53
theorem sc_shared_lot : FnScope ["sale", "numbers", "lot", "number"] ["sale", "numbers"] (defScope s_shared_lot) := fnS (by decide +kernel)
abbrev s_takes_part : Stmt := topS 54
theorem sc_takes_part : FnScope ["bid", "bidder", "pair"] ["bid", "bidder"] (defScope s_takes_part) := fnS (by decide +kernel)
abbrev s_bidder_over_limit : Stmt := topS 55
theorem sc_bidder_over_limit : FnScope ["sale", "numbers", "bidder", "number"] ["sale", "numbers"] (defScope s_bidder_over_limit) := fnS (by decide +kernel)
abbrev s_status_and_detail : Stmt := topS 56
theorem sc_status_and_detail : FnScope ["sale", "numbers", "bid", "lot", "bidder", "number"] ["sale", "numbers"] (defScope s_status_and_detail) := fnS (by decide +kernel)
abbrev s_is_over : Stmt := topS 58
theorem sc_is_over : FnScope ["state"] ["state"] (defScope s_is_over) := fnS (by decide +kernel)
abbrev s_has_repeats : Stmt := topS 59
theorem sc_has_repeats : FnScope ["numbers"] ["numbers"] (defScope s_has_repeats) := fnS (by decide +kernel)
abbrev s_has_all : Stmt := topS 60
theorem sc_has_all : FnScope ["numbers", "count", "number"] ["numbers", "count"] (defScope s_has_all) := fnS (by decide +kernel)
abbrev s_is_grade_row : Stmt := topS 61
theorem sc_is_grade_row : FnScope ["numbers", "highest"] ["numbers", "highest"] (defScope s_is_grade_row) := fnS (by decide +kernel)
abbrev s_for_all_grades : Stmt := topS 62
theorem sc_for_all_grades : FnScope ["numbers"] ["numbers"] (defScope s_for_all_grades) := fnS (by decide +kernel)
abbrev s_is_bidder_row : Stmt := topS 63
theorem sc_is_bidder_row : FnScope ["numbers", "weights"] ["numbers"] (defScope s_is_bidder_row) := fnS (by decide +kernel)
abbrev s_grade_volume : Stmt := topS 64
theorem sc_grade_volume : FnScope ["lots", "grade", "lot"] ["lots", "grade"] (defScope s_grade_volume) := fnS (by decide +kernel)
abbrev s_new_bid : Stmt := topS 65
theorem sc_new_bid : FnScope ["sale", "lots", "prices", "bidders", "members", "volumes", "reserve", "pairs", "lot", "grade"] ["sale", "lots", "prices", "bidders"] (defScope s_new_bid) := fnS (by decide +kernel)
abbrev s_set_day : Stmt := topS 66
theorem sc_set_day : FnScope ["state", "day"] ["state", "day"] (defScope s_set_day) := fnS (by decide +kernel)
abbrev s_open_sale : Stmt := topS 67
theorem sc_open_sale : FnScope ["state", "closing_day", "rule", "advance"] ["state", "closing_day", "rule", "advance"] (defScope s_open_sale) := fnS (by decide +kernel)
abbrev s_add_lot : Stmt := topS 68
theorem sc_add_lot : FnScope ["state", "reserve", "volumes", "sale"] ["state", "reserve", "volumes"] (defScope s_add_lot) := fnS (by decide +kernel)
abbrev s_set_limit : Stmt := topS 69
theorem sc_set_limit : FnScope ["state", "bidder", "limit"] ["state", "bidder", "limit"] (defScope s_set_limit) := fnS (by decide +kernel)
abbrev s_place_bid : Stmt := topS 70
theorem sc_place_bid : FnScope ["state", "lots", "prices", "bidders", "sale"] ["state", "lots", "prices", "bidders"] (defScope s_place_bid) := fnS (by decide +kernel)
abbrev s_withdraw_bid : Stmt := topS 71
theorem sc_withdraw_bid : FnScope ["state", "number", "sale"] ["state", "number"] (defScope s_withdraw_bid) := fnS (by decide +kernel)
abbrev s_list_bids : Stmt := topS 72
theorem sc_list_bids : FnScope ["state", "told", "bid"] ["state"] (defScope s_list_bids) := fnS (by decide +kernel)
abbrev s_check_selection : Stmt := topS 73
theorem sc_check_selection : FnScope ["state", "numbers"] ["state", "numbers"] (defScope s_check_selection) := fnS (by decide +kernel)
abbrev s_best_selection : Stmt := topS 74
theorem sc_best_selection : FnScope ["state", "best"] ["state"] (defScope s_best_selection) := fnS (by decide +kernel)
abbrev s_threshold : Stmt := topS 75
theorem sc_threshold : FnScope ["state", "number", "sale", "found"] ["state", "number"] (defScope s_threshold) := fnS (by decide +kernel)
abbrev s_factor_of : Stmt := topS 76
theorem sc_factor_of : FnScope ["sale", "found", "number", "bid"] ["sale", "found", "number"] (defScope s_factor_of) := fnS (by decide +kernel)
abbrev s_award : Stmt := topS 77
theorem sc_award : FnScope ["state", "sale", "found", "best", "first", "number", "factor"] ["state"] (defScope s_award) := fnS (by decide +kernel)
abbrev s_index_of : Stmt := topS 79
theorem sc_index_of : FnScope ["state", "day", "days", "known"] ["state", "day"] (defScope s_index_of) := fnS (by decide +kernel)
abbrev s_estimate_of : Stmt := topS 80
theorem sc_estimate_of : FnScope ["contract", "factor"] ["contract"] (defScope s_estimate_of) := fnS (by decide +kernel)
abbrev s_deliveries_of : Stmt := topS 81
theorem sc_deliveries_of : FnScope ["state", "number", "delivery"] ["state", "number"] (defScope s_deliveries_of) := fnS (by decide +kernel)
abbrev s_delivered_of : Stmt := topS 82
theorem sc_delivered_of : FnScope ["state", "number", "contract", "factor", "total", "delivery"] ["state", "number"] (defScope s_delivered_of) := fnS (by decide +kernel)
abbrev s_due_of : Stmt := topS 83
theorem sc_due_of : FnScope ["state", "number", "contract", "delivered", "estimate"] ["state", "number"] (defScope s_due_of) := fnS (by decide +kernel)
abbrev s_parts_of : Stmt := topS 84
theorem sc_parts_of : FnScope ["due", "weights", "parts", "remaining", "places", "place", "total", "weight"] ["due", "weights"] (defScope s_parts_of) := fnS (by decide +kernel)
abbrev s_has_contract : Stmt := topS 86
theorem sc_has_contract : FnScope ["state", "number"] ["state", "number"] (defScope s_has_contract) := fnS (by decide +kernel)
abbrev s_get_contract : Stmt := topS 87
theorem sc_get_contract : FnScope ["state", "number", "contract", "told", "bidder", "weight"] ["state", "number"] (defScope s_get_contract) := fnS (by decide +kernel)
abbrev s_set_index : Stmt := topS 88
theorem sc_set_index : FnScope ["state", "day", "index"] ["state", "day", "index"] (defScope s_set_index) := fnS (by decide +kernel)
abbrev s_record_delivery : Stmt := topS 89
theorem sc_record_delivery : FnScope ["state", "number", "day", "grade", "volume", "contract"] ["state", "number", "day", "grade", "volume"] (defScope s_record_delivery) := fnS (by decide +kernel)
abbrev s_correct_delivery : Stmt := topS 90
theorem sc_correct_delivery : FnScope ["state", "delivery", "volume"] ["state", "delivery", "volume"] (defScope s_correct_delivery) := fnS (by decide +kernel)
abbrev s_close_contract : Stmt := topS 91
theorem sc_close_contract : FnScope ["state", "number"] ["state", "number"] (defScope s_close_contract) := fnS (by decide +kernel)
abbrev s_contract_value : Stmt := topS 92
theorem sc_contract_value : FnScope ["state", "number", "estimate", "delivered"] ["state", "number"] (defScope s_contract_value) := fnS (by decide +kernel)
abbrev s_bills_of : Stmt := topS 93
theorem sc_bills_of : FnScope ["state", "number", "bill"] ["state", "number"] (defScope s_bills_of) := fnS (by decide +kernel)
abbrev s_billed_in : Stmt := topS 94
theorem sc_billed_in : FnScope ["bills", "bidder", "bill"] ["bills", "bidder"] (defScope s_billed_in) := fnS (by decide +kernel)
abbrev s_amounts_to_bill : Stmt := topS 95
theorem sc_amounts_to_bill : FnScope ["state", "number", "bidders", "earlier", "pair", "parts", "amounts", "part"] ["state", "number"] (defScope s_amounts_to_bill) := fnS (by decide +kernel)
abbrev s_create_bill : Stmt := topS 96
theorem sc_create_bill : FnScope ["state", "number", "amounts", "amount", "told", "bidder"] ["state", "number"] (defScope s_create_bill) := fnS (by decide +kernel)
abbrev s_list_bills : Stmt := topS 97
theorem sc_list_bills : FnScope ["state", "number", "told", "place", "bill"] ["state", "number"] (defScope s_list_bills) := fnS (by decide +kernel)
abbrev s_record_payment : Stmt := topS 98
theorem sc_record_payment : FnScope ["state", "bidder", "amount"] ["state", "bidder", "amount"] (defScope s_record_payment) := fnS (by decide +kernel)
abbrev s_balance : Stmt := topS 99
theorem sc_balance : FnScope ["state", "bidder"] ["state", "bidder"] (defScope s_balance) := fnS (by decide +kernel)
abbrev s_shortfall : Stmt := topS 100
theorem sc_shortfall : FnScope ["state", "number", "deliveries", "told", "grade", "measured", "delivery"] ["state", "number"] (defScope s_shortfall) := fnS (by decide +kernel)
abbrev s_Reader___init__ : Stmt := inClass (topS 105) 0
theorem sc_Reader___init__ : FnScope ["self", "source"] ["self", "source"] (defScope s_Reader___init__) := fnS (by decide +kernel)
abbrev s_Reader_at_end : Stmt := inClass (topS 105) 1
theorem sc_Reader_at_end : FnScope ["self"] ["self"] (defScope s_Reader_at_end) := fnS (by decide +kernel)
abbrev s_Reader_next_numbers : Stmt := inClass (topS 105) 2
theorem sc_Reader_next_numbers : FnScope ["self", "length", "start"] ["self", "length"] (defScope s_Reader_next_numbers) := fnS (by decide +kernel)
abbrev s_Reader_next_number : Stmt := inClass (topS 105) 3
theorem sc_Reader_next_number : FnScope ["self"] ["self"] (defScope s_Reader_next_number) := fnS (by decide +kernel)
abbrev s_Reader_next_row : Stmt := inClass (topS 105) 4
theorem sc_Reader_next_row : FnScope ["self"] ["self"] (defScope s_Reader_next_row) := fnS (by decide +kernel)
abbrev s_answer_of_sales : Stmt := topS 106
theorem sc_answer_of_sales : FnScope ["state", "operation", "numbers", "rows"] ["state", "operation", "numbers", "rows"] (defScope s_answer_of_sales) := fnS (by decide +kernel)
abbrev s_answer_of_contracts : Stmt := topS 107
theorem sc_answer_of_contracts : FnScope ["state", "operation", "numbers"] ["state", "operation", "numbers"] (defScope s_answer_of_contracts) := fnS (by decide +kernel)
abbrev s_answer_next : Stmt := topS 108
theorem sc_answer_next : FnScope ["state", "reader", "operation", "shape", "numbers", "rows", "row"] ["state", "reader"] (defScope s_answer_next) := fnS (by decide +kernel)
abbrev s_answers : Stmt := topS 109
theorem sc_answers : FnScope ["calls", "reader", "state", "told", "result"] ["calls"] (defScope s_answers) := fnS (by decide +kernel)
/-! ### what the top has written -/
structure Txt (K : PySem.W.Frag) (mg : Str → Option Value) (A : Ad) : Prop where
  k_OUT_OF_RANGE : ∃ t, mg "OUT_OF_RANGE" = some (.int (-1) t)
  k_MISSING : ∃ t, mg "MISSING" = some (.int (-3) t)
  k_ALREADY_DONE : ∃ t, mg "ALREADY_DONE" = some (.int (-8) t)
  k_NOT_POSSIBLE : ∃ t, mg "NOT_POSSIBLE" = some (.int (-4) t)
  k_FULL : ∃ t, mg "FULL" = some (.int (-9) t)
  k_GRADES : ∃ t, mg "GRADES" = some (.int 10 t)
  k_BIDDERS : ∃ t, mg "BIDDERS" = some (.int 16 t)
  k_MAX_DAY : ∃ t, mg "MAX_DAY" = some (.int 99999 t)
  k_MAX_RULE : ∃ t, mg "MAX_RULE" = some (.int 1 t)
  k_MAX_ADVANCE : ∃ t, mg "MAX_ADVANCE" = some (.int 1000 t)
  k_MAX_RESERVE : ∃ t, mg "MAX_RESERVE" = some (.int 1000000000 t)
  k_MAX_VOLUME : ∃ t, mg "MAX_VOLUME" = some (.int 1000000 t)
  k_MAX_PRICE : ∃ t, mg "MAX_PRICE" = some (.int 1000000 t)
  k_MAX_BIDDER : ∃ t, mg "MAX_BIDDER" = some (.int 15 t)
  k_MAX_LIMIT : ∃ t, mg "MAX_LIMIT" = some (.int 12 t)
  k_MIN_WEIGHT : ∃ t, mg "MIN_WEIGHT" = some (.int 1 t)
  k_MAX_WEIGHT : ∃ t, mg "MAX_WEIGHT" = some (.int 1000 t)
  k_MIN_INDEX : ∃ t, mg "MIN_INDEX" = some (.int 1 t)
  k_MAX_INDEX : ∃ t, mg "MAX_INDEX" = some (.int 10000 t)
  k_MAX_GRADE : ∃ t, mg "MAX_GRADE" = some (.int 9 t)
  k_MAX_AMOUNT : ∃ t, mg "MAX_AMOUNT" = some (.int 1000000000 t)
  k_BIDDER_ROW_LENGTHS : ∃ a, mg "BIDDER_ROW_LENGTHS" = some (.ref a) ∧ TupC K a [2, 4, 6, 8]
  k_MAX_LOTS : ∃ t, mg "MAX_LOTS" = some (.int 10 t)
  k_MAX_BIDS : ∃ t, mg "MAX_BIDS" = some (.int 12 t)
  k_MAX_CONTRACTS : ∃ t, mg "MAX_CONTRACTS" = some (.int 24 t)
  k_MAX_INDEX_DAYS : ∃ t, mg "MAX_INDEX_DAYS" = some (.int 16 t)
  k_MAX_DELIVERIES : ∃ t, mg "MAX_DELIVERIES" = some (.int 64 t)
  k_MAX_BILLS : ∃ t, mg "MAX_BILLS" = some (.int 48 t)
  k_MILLICENTS : ∃ t, mg "MILLICENTS" = some (.int 1000 t)
  k_THOUSANDTHS : ∃ t, mg "THOUSANDTHS" = some (.int 1000 t)
  k_INDEX_AT_FIRST : ∃ t, mg "INDEX_AT_FIRST" = some (.int 1000 t)
  k_SHAPES : ∃ a, mg "SHAPES" = some (.ref a) ∧ TupC2 K a [[1, 0], [3, 0], [1, 1], [2, 0], [0, 3], [1, 0], [0, 0], [0, 1], [0, 0], [1, 0], [0, 0], [1, 0], [2, 0], [4, 0], [2, 0], [1, 0], [1, 0], [1, 0], [1, 0], [2, 0], [1, 0], [1, 0]]
  k_FIRST_OF_CONTRACTS : ∃ t, mg "FIRST_OF_CONTRACTS" = some (.int 11 t)
  b_all : mg "all" = none
  b_enumerate : mg "enumerate" = none
  b_len : mg "len" = none
  b_list : mg "list" = none
  b_max : mg "max" = none
  b_min : mg "min" = none
  b_range : mg "range" = none
  b_set : mg "set" = none
  b_sorted : mg "sorted" = none
  b_sum : mg "sum" = none
  b_zip : mg "zip" = none
  cl_Lot : Cls K A.Lot
  n_Lot_reserve : NoAttr K A.Lot "reserve"
  n_Lot_volumes : NoAttr K A.Lot "volumes"
  m_Lot : ClsA K mg "Lot" A.Lot "Lot.__init__" s_Lot___init__
  cl_Bid : Cls K A.Bid
  n_Bid_lots : NoAttr K A.Bid "lots"
  n_Bid_prices : NoAttr K A.Bid "prices"
  n_Bid_bidders : NoAttr K A.Bid "bidders"
  n_Bid_volumes : NoAttr K A.Bid "volumes"
  n_Bid_reserve : NoAttr K A.Bid "reserve"
  n_Bid_value : NoAttr K A.Bid "value"
  n_Bid_withdrawn : NoAttr K A.Bid "withdrawn"
  m_Bid : ClsA K mg "Bid" A.Bid "Bid.__init__" s_Bid___init__
  cl_Sale : Cls K A.Sale
  n_Sale_closing_day : NoAttr K A.Sale "closing_day"
  n_Sale_rule : NoAttr K A.Sale "rule"
  n_Sale_advance : NoAttr K A.Sale "advance"
  n_Sale_lots : NoAttr K A.Sale "lots"
  n_Sale_bids : NoAttr K A.Sale "bids"
  n_Sale_limits : NoAttr K A.Sale "limits"
  m_Sale : ClsA K mg "Sale" A.Sale "Sale.__init__" s_Sale___init__
  cl_Contract : Cls K A.Contract
  n_Contract_value : NoAttr K A.Contract "value"
  n_Contract_volumes : NoAttr K A.Contract "volumes"
  n_Contract_prices : NoAttr K A.Contract "prices"
  n_Contract_bidders : NoAttr K A.Contract "bidders"
  n_Contract_day : NoAttr K A.Contract "day"
  n_Contract_advance : NoAttr K A.Contract "advance"
  n_Contract_factor : NoAttr K A.Contract "factor"
  n_Contract_closed : NoAttr K A.Contract "closed"
  m_Contract : ClsA K mg "Contract" A.Contract "Contract.__init__" s_Contract___init__
  cl_Delivery : Cls K A.Delivery
  n_Delivery_contract : NoAttr K A.Delivery "contract"
  n_Delivery_day : NoAttr K A.Delivery "day"
  n_Delivery_grade : NoAttr K A.Delivery "grade"
  n_Delivery_volume : NoAttr K A.Delivery "volume"
  m_Delivery : ClsA K mg "Delivery" A.Delivery "Delivery.__init__" s_Delivery___init__
  cl_Bill : Cls K A.Bill
  n_Bill_contract : NoAttr K A.Bill "contract"
  n_Bill_day : NoAttr K A.Bill "day"
  n_Bill_amounts : NoAttr K A.Bill "amounts"
  m_Bill : ClsA K mg "Bill" A.Bill "Bill.__init__" s_Bill___init__
  cl_State : Cls K A.State
  n_State_day : NoAttr K A.State "day"
  n_State_sale : NoAttr K A.State "sale"
  n_State_contracts : NoAttr K A.State "contracts"
  n_State_index_values : NoAttr K A.State "index_values"
  n_State_deliveries : NoAttr K A.State "deliveries"
  n_State_bills : NoAttr K A.State "bills"
  n_State_paid : NoAttr K A.State "paid"
  m_State : ClsA K mg "State" A.State "State.__init__" s_State___init__
  cl_Selection : Cls K A.Selection
  n_Selection_numbers : NoAttr K A.Selection "numbers"
  n_Selection_value : NoAttr K A.Selection "value"
  n_Selection_taken : NoAttr K A.Selection "taken"
  n_Selection_room : NoAttr K A.Selection "room"
  m_Selection : ClsA K mg "Selection" A.Selection "Selection.__init__" s_Selection___init__
  cl_Reader : Cls K A.Reader
  n_Reader_source : NoAttr K A.Reader "source"
  n_Reader_place : NoAttr K A.Reader "place"
  m_Reader : ClsA K mg "Reader" A.Reader "Reader.__init__" s_Reader___init__
  t_Reader_at_end : MethA K A.Reader "at_end" "Reader.at_end" s_Reader_at_end
  t_Reader_next_numbers : MethA K A.Reader "next_numbers" "Reader.next_numbers" s_Reader_next_numbers
  t_Reader_next_number : MethA K A.Reader "next_number" "Reader.next_number" s_Reader_next_number
  t_Reader_next_row : MethA K A.Reader "next_row" "Reader.next_row" s_Reader_next_row
  d_common_divisor : DefA K mg "common_divisor" s_common_divisor
  d_lowest_terms : DefA K mg "lowest_terms" s_lowest_terms
  d_nearest : DefA K mg "nearest" s_nearest
  d_is_admissible : DefA K mg "is_admissible" s_is_admissible
  d_fits : DefA K mg "fits" s_fits
  d_joined : DefA K mg "joined" s_joined
  d_all_selections : DefA K mg "all_selections" s_all_selections
  d_rank : DefA K mg "rank" s_rank
  d_best_of : DefA K mg "best_of" s_best_of
  d_threshold_of : DefA K mg "threshold_of" s_threshold_of
  d_inadmissible_bid : DefA K mg "inadmissible_bid" s_inadmissible_bid
  d_shared_lot : DefA K mg "shared_lot" s_shared_lot
  d_takes_part : DefA K mg "takes_part" s_takes_part
  d_bidder_over_limit : DefA K mg "bidder_over_limit" s_bidder_over_limit
  d_status_and_detail : DefA K mg "status_and_detail" s_status_and_detail
  d_is_over : DefA K mg "is_over" s_is_over
  d_has_repeats : DefA K mg "has_repeats" s_has_repeats
  d_has_all : DefA K mg "has_all" s_has_all
  d_is_grade_row : DefA K mg "is_grade_row" s_is_grade_row
  d_for_all_grades : DefA K mg "for_all_grades" s_for_all_grades
  d_is_bidder_row : DefA K mg "is_bidder_row" s_is_bidder_row
  d_grade_volume : DefA K mg "grade_volume" s_grade_volume
  d_new_bid : DefA K mg "new_bid" s_new_bid
  d_set_day : DefA K mg "set_day" s_set_day
  d_open_sale : DefA K mg "open_sale" s_open_sale
  d_add_lot : DefA K mg "add_lot" s_add_lot
  d_set_limit : DefA K mg "set_limit" s_set_limit
  d_place_bid : DefA K mg "place_bid" s_place_bid
  d_withdraw_bid : DefA K mg "withdraw_bid" s_withdraw_bid
  d_list_bids : DefA K mg "list_bids" s_list_bids
  d_check_selection : DefA K mg "check_selection" s_check_selection
  d_best_selection : DefA K mg "best_selection" s_best_selection
  d_threshold : DefA K mg "threshold" s_threshold
  d_factor_of : DefA K mg "factor_of" s_factor_of
  d_award : DefA K mg "award" s_award
  d_index_of : DefA K mg "index_of" s_index_of
  d_estimate_of : DefA K mg "estimate_of" s_estimate_of
  d_deliveries_of : DefA K mg "deliveries_of" s_deliveries_of
  d_delivered_of : DefA K mg "delivered_of" s_delivered_of
  d_due_of : DefA K mg "due_of" s_due_of
  d_parts_of : DefC K mg "parts_of" s_parts_of A.code
  d_has_contract : DefA K mg "has_contract" s_has_contract
  d_get_contract : DefA K mg "get_contract" s_get_contract
  d_set_index : DefA K mg "set_index" s_set_index
  d_record_delivery : DefA K mg "record_delivery" s_record_delivery
  d_correct_delivery : DefA K mg "correct_delivery" s_correct_delivery
  d_close_contract : DefA K mg "close_contract" s_close_contract
  d_contract_value : DefA K mg "contract_value" s_contract_value
  d_bills_of : DefA K mg "bills_of" s_bills_of
  d_billed_in : DefA K mg "billed_in" s_billed_in
  d_amounts_to_bill : DefA K mg "amounts_to_bill" s_amounts_to_bill
  d_create_bill : DefA K mg "create_bill" s_create_bill
  d_list_bills : DefA K mg "list_bills" s_list_bills
  d_record_payment : DefA K mg "record_payment" s_record_payment
  d_balance : DefA K mg "balance" s_balance
  d_shortfall : DefA K mg "shortfall" s_shortfall
  d_answer_of_sales : DefA K mg "answer_of_sales" s_answer_of_sales
  d_answer_of_contracts : DefA K mg "answer_of_contracts" s_answer_of_contracts
  d_answer_next : DefA K mg "answer_next" s_answer_next
  d_answers : DefA K mg "answers" s_answers
end TB

namespace TB
open PySem PySem.Spec PyProof.Rows L2 Evl TimberAuction
/-! ### numbers and lists as values -/
def iN (n : Nat) : V := .int (n : Int)
def iL (l : List Nat) : List V := l.map iN
def rL (l : List Addr) : List V := l.map V.ref
def All2 {α β : Type} (R : Nat → α → β → Prop) (as : List α) (bs : List β) : Prop := as.length = bs.length ∧ ∀ (i : Nat) (a : α) (b : β), as[i]? = some a → bs[i]? = some b → R i a b
section
variable {α β : Type} {R R' : Nat → α → β → Prop} {as : List α} {bs : List β}
theorem All2.nil : All2 R [] [] := ⟨rfl, fun _ _ _ h => by simp at h⟩
theorem All2.get (h : All2 R as bs) {i : Nat} {b : β} (hb : bs[i]? = some b) : ∃ a, as[i]? = some a ∧ R i a b := by
  have hl : i < as.length := by
    rw [h.1]
    exact (List.getElem?_eq_some_iff.mp hb).1
  exact ⟨as[i], List.getElem?_eq_getElem hl, h.2 i _ b (List.getElem?_eq_getElem hl) hb⟩
theorem All2.getL (h : All2 R as bs) {i : Nat} {a : α} (ha : as[i]? = some a) : ∃ b, bs[i]? = some b ∧ R i a b := by
  have hl : i < bs.length := by
    rw [← h.1]
    exact (List.getElem?_eq_some_iff.mp ha).1
  exact ⟨bs[i], List.getElem?_eq_getElem hl, h.2 i a _ ha (List.getElem?_eq_getElem hl)⟩
theorem All2.imp (h : All2 R as bs) (f : ∀ i a b, as[i]? = some a → bs[i]? = some b → R i a b → R' i a b) : All2 R' as bs := ⟨h.1, fun i a b ha hb => f i a b ha hb (h.2 i a b ha hb)⟩
theorem get_snoc {l : List α} {x y : α} {i : Nat} (h : (l ++ [x])[i]? = some y) : l[i]? = some y ∨ (i = l.length ∧ y = x) := by
  by_cases hi : i < l.length
  · rw [List.getElem?_append_left hi] at h
    exact .inl h
  · rw [List.getElem?_append_right (by omega)] at h
    have : i - l.length = 0 := by
      rcases Nat.eq_zero_or_pos (i - l.length) with e | e
      · exact e
      · rw [List.getElem?_eq_none (by simp; omega)] at h
        cases h
    rw [this] at h
    exact .inr ⟨by omega, (Option.some.inj h).symm⟩
theorem All2.snoc (h : All2 R as bs) {x : α} {y : β} (hr : R as.length x y) : All2 R (as ++ [x]) (bs ++ [y]) := by
  refine ⟨by simp [h.1], fun i a b ha hb => ?_⟩
  rcases get_snoc ha with ha | ⟨e1, rfl⟩
  · rcases get_snoc hb with hb | ⟨e2, rfl⟩
    · exact h.2 i a b ha hb
    · have := (List.getElem?_eq_some_iff.mp ha).1
      have := h.1
      omega
  · rcases get_snoc hb with hb | ⟨e2, rfl⟩
    · have := (List.getElem?_eq_some_iff.mp hb).1
      have := h.1
      omega
    · rw [e1]
      exact hr
end
theorem iL_get {l : List Nat} {i n : Nat} (h : l[i]? = some n) : (iL l)[i]? = some (iN n) := by
  unfold iL
  rw [List.getElem?_map, h]
  rfl
theorem rL_get {l : List Addr} {i : Nat} {a : Addr} (h : l[i]? = some a) : (rL l)[i]? = some (.ref a) := by
  unfold rL
  rw [List.getElem?_map, h]
  rfl
theorem iL_len (l : List Nat) : (iL l).length = l.length := by simp [iL]
theorem rL_len (l : List Addr) : (rL l).length = l.length := by simp [rL]
/-- a list of naturals as a list of ints -/
def toI (l : List Nat) : List Int := l.map fun (n : Nat) => (n : Int)
theorem iL_ints (l : List Nat) : iL l = (toI l).map V.int := by
  unfold iL toI
  rw [List.map_map]
  rfl

/-! ### tags, steps of the heap -/
abbrev Tg := Addr → Nat
structure Stp (τ : Tg) (H : Hp) (τ' : Tg) (H' : Hp) : Prop where
  frz : ∀ b o, H b = some o → τ b = 0 → H' b = some o
  tag : ∀ b o, H b = some o → τ' b = τ b
theorem Stp.ex {τ : Tg} {H H' : Hp} (e : Ex H H') : Stp τ H τ H' := ⟨fun b o h _ => e b o h, fun _ _ _ => rfl⟩

/-! ### how the records lie -/
variable (A : Ad) (τ : Tg) (H : Hp)
def NumsAt (p : Addr) (l : List Nat) : Prop := τ p = 0 ∧ H p = some (.lst (iL l))
def PairAt (a : Addr) (p : Nat × Nat) : Prop := τ a = 0 ∧ H a = some (.tup [iN p.1, iN p.2])
def PairsAt (p : Addr) (l : List (Nat × Nat)) : Prop := ∃ as : List Addr, τ p = 0 ∧ H p = some (.lst (rL as)) ∧ All2 (fun _ => PairAt τ H) as l
def LotAt (a : Addr) (l : Lot) : Prop := ∃ dx va, τ a = 0 ∧ H a = some (.ins A.Lot dx (fLot (iN l.reserve) (.ref va))) ∧ NumsAt τ H va l.volumes
structure BidR (s : Sale) (i : Nat) (a : Addr) (b : Bid) (dx la pa ba va : Addr) : Prop where
  tg : τ a = 20 + i
  at_ : H a = some (.ins A.Bid dx (fBid (.ref la) (.ref pa) (.ref ba) (.ref va) (iN (s.reserve b)) (iN (s.value b)) (.bl b.withdrawn)))
  lots : NumsAt τ H la b.lots
  prices : NumsAt τ H pa b.prices
  bidders : PairsAt τ H ba b.bidders
  volumes : NumsAt τ H va (totalVolumes s.lots b.lots)
def BidAt (s : Sale) (i : Nat) (a : Addr) (b : Bid) : Prop := ∃ dx la pa ba va, BidR A τ H s i a b dx la pa ba va
structure SaleR (a : Addr) (s : Sale) (dx loA bdA liA : Addr) (las bas : List Addr) : Prop where
  tg : τ a = 0
  at_ : H a = some (.ins A.Sale dx (fSale (iN s.closingDay) (iN s.rule) (iN s.advance) (.ref loA) (.ref bdA) (.ref liA)))
  tlo : τ loA = 1
  lo : H loA = some (.lst (rL las))
  lots : All2 (fun _ => LotAt A τ H) las s.lots
  tbd : τ bdA = 2
  bd : H bdA = some (.lst (rL bas))
  bids : All2 (BidAt A τ H s) bas s.bids
  tli : τ liA = 3
  li : H liA = some (.lst (iL s.limits))
def SaleAt (a : Addr) (s : Sale) : Prop := ∃ dx loA bdA liA las bas, SaleR A τ H a s dx loA bdA liA las bas
/-- a selection under way -/
def takenOf (s : Sale) (l : List Nat) : List Bool := (List.range s.lots.length).map fun lot => decide (0 < s.bidsWithLot l lot)
def roomOf (s : Sale) (l : List Nat) : List Nat := (List.range 16).map fun b => s.limits.getD b 0 - s.bidsWithBidder l b
structure SelR (s : Sale) (a : Addr) (l : List Nat) (dx na ta ra : Addr) : Prop where
  at_ : H a = some (.ins A.Selection dx (fSelection (.ref na) (iN (s.totalValue l)) (.ref ta) (.ref ra)))
  nums : H na = some (.lst (iL l))
  taken : H ta = some (.lst ((takenOf s l).map V.bl))
  room : H ra = some (.lst (iL (roomOf s l)))
def SelAt (s : Sale) (a : Addr) (l : List Nat) : Prop := ∃ dx na ta ra, SelR A H s a l dx na ta ra
def FoundAt (s : Sale) (p : Addr) (L : List (List Nat)) : Prop := ∃ as : List Addr, H p = some (.lst (rL as)) ∧ All2 (fun _ a l => SelAt A H s a l) as L
section
variable {A τ H}
variable {τ' : Tg} {H' : Hp}
theorem NumsAt.go {p : Addr} {l : List Nat} (h : NumsAt τ H p l) (e : Stp τ H τ' H') : NumsAt τ' H' p l := ⟨(e.tag p _ h.2).trans h.1, e.frz p _ h.2 h.1⟩
theorem PairAt.go {a : Addr} {p : Nat × Nat} (h : PairAt τ H a p) (e : Stp τ H τ' H') : PairAt τ' H' a p := ⟨(e.tag a _ h.2).trans h.1, e.frz a _ h.2 h.1⟩
theorem PairsAt.go {p : Addr} {l : List (Nat × Nat)} (h : PairsAt τ H p l) (e : Stp τ H τ' H') : PairsAt τ' H' p l := by
  obtain ⟨as, h1, h2, h3⟩ := h
  exact ⟨as, (e.tag p _ h2).trans h1, e.frz p _ h2 h1, h3.imp fun _ _ _ _ _ r => r.go e⟩
theorem LotAt.go {a : Addr} {l : Lot} (h : LotAt A τ H a l) (e : Stp τ H τ' H') : LotAt A τ' H' a l := by
  obtain ⟨dx, va, h1, h2, h3⟩ := h
  exact ⟨dx, va, (e.tag a _ h2).trans h1, e.frz a _ h2 h1, h3.go e⟩
theorem BidR.go {s : Sale} {i : Nat} {a : Addr} {b : Bid} {dx la pa ba va : Addr} (h : BidR A τ H s i a b dx la pa ba va) (e : Stp τ H τ' H') (ha : H' a = H a) : BidR A τ' H' s i a b dx la pa ba va :=
  ⟨(e.tag a _ h.at_).trans h.tg, ha.trans h.at_, h.lots.go e, h.prices.go e, h.bidders.go e, h.volumes.go e⟩
theorem BidAt.go {s : Sale} {i : Nat} {a : Addr} {b : Bid} (h : BidAt A τ H s i a b) (e : Stp τ H τ' H') (ha : H' a = H a) : BidAt A τ' H' s i a b := by
  obtain ⟨dx, la, pa, ba, va, h⟩ := h
  exact ⟨dx, la, pa, ba, va, h.go e ha⟩
theorem ex_eq {a : Addr} {o : HO} (e : Ex H H') (h : H a = some o) : H' a = H a := (e a o h).trans h.symm
theorem BidAt.ex {s : Sale} {i : Nat} {a : Addr} {b : Bid} (h : BidAt A τ H s i a b) (e : Ex H H') : BidAt A τ H' s i a b := by
  obtain ⟨dx, la, pa, ba, va, h⟩ := h
  exact ⟨dx, la, pa, ba, va, h.go (.ex e) (ex_eq e h.at_)⟩
theorem SaleAt.ex {a : Addr} {s : Sale} (h : SaleAt A τ H a s) (e : Ex H H') : SaleAt A τ H' a s := by
  obtain ⟨dx, loA, bdA, liA, las, bas, h⟩ := h
  exact ⟨dx, loA, bdA, liA, las, bas, h.tg, e _ _ h.at_, h.tlo, e _ _ h.lo, h.lots.imp fun _ _ _ _ _ r => r.go (.ex e), h.tbd, e _ _ h.bd, h.bids.imp fun _ _ _ _ _ r => r.ex e, h.tli, e _ _ h.li⟩
theorem SelAt.ex {s : Sale} {a : Addr} {l : List Nat} (h : SelAt A H s a l) (e : Ex H H') : SelAt A H' s a l := by
  obtain ⟨dx, na, ta, ra, h⟩ := h
  exact ⟨dx, na, ta, ra, e _ _ h.at_, e _ _ h.nums, e _ _ h.taken, e _ _ h.room⟩
theorem FoundAt.ex {s : Sale} {p : Addr} {L : List (List Nat)} (h : FoundAt A H s p L) (e : Ex H H') : FoundAt A H' s p L := by
  obtain ⟨as, h1, h2⟩ := h
  exact ⟨as, e _ _ h1, h2.imp fun _ _ _ _ _ r => r.ex e⟩
end
/-! ### selections all of whose parts keep B (new ones, say) -/
def SelF (A : Ad) (B : Addr → Prop) (H : Hp) (s : Sale) (a : Addr) (l : List Nat) : Prop := ∃ dx na ta ra, SelR A H s a l dx na ta ra ∧ B a ∧ B na ∧ B ta ∧ B ra
def FoundF (A : Ad) (B : Addr → Prop) (H : Hp) (s : Sale) (p : Addr) (L : List (List Nat)) : Prop := ∃ as : List Addr, H p = some (.lst (rL as)) ∧ B p ∧ All2 (fun _ a l => SelF A B H s a l) as L
section
variable {A : Ad} {B : Addr → Prop} {H H' : Hp} {s : Sale} {a p : Addr} {l : List Nat} {L : List (List Nat)}
theorem SelF.at_ (h : SelF A B H s a l) : SelAt A H s a l := by
  obtain ⟨dx, na, ta, ra, h, _⟩ := h
  exact ⟨dx, na, ta, ra, h⟩
theorem SelF.ex (h : SelF A B H s a l) (e : Ex H H') : SelF A B H' s a l := by
  obtain ⟨dx, na, ta, ra, h, r⟩ := h
  exact ⟨dx, na, ta, ra, ⟨e _ _ h.at_, e _ _ h.nums, e _ _ h.taken, e _ _ h.room⟩, r⟩
theorem FoundF.ex (h : FoundF A B H s p L) (e : Ex H H') : FoundF A B H' s p L := by
  obtain ⟨as, h1, h2, h3⟩ := h
  exact ⟨as, e _ _ h1, h2, h3.imp fun _ _ _ _ _ r => r.ex e⟩
theorem FoundF.at_ (h : FoundF A B H s p L) : FoundAt A H s p L := by
  obtain ⟨as, h1, h2, h3⟩ := h
  exact ⟨as, h1, h3.imp fun _ _ _ _ _ r => r.at_⟩
theorem FoundAt.tr (h : FoundAt A H s p L) : FoundF A (fun _ => True) H s p L := by
  obtain ⟨as, h1, h3⟩ := h
  exact ⟨as, h1, trivial, h3.imp fun _ _ _ _ _ ⟨dx, na, ta, ra, r⟩ => ⟨dx, na, ta, ra, r, trivial, trivial, trivial, trivial⟩⟩
/-- kept by a step that leaves the objects of B -/
theorem SelF.keep (h : SelF A B H s a l) (k : ∀ b o, B b → H b = some o → H' b = some o) : SelF A B H' s a l := by
  obtain ⟨dx, na, ta, ra, h, b0, b1, b2, b3⟩ := h
  exact ⟨dx, na, ta, ra, ⟨k _ _ b0 h.at_, k _ _ b1 h.nums, k _ _ b2 h.taken, k _ _ b3 h.room⟩, b0, b1, b2, b3⟩
theorem FoundF.keep (h : FoundF A B H s p L) (k : ∀ b o, B b → H b = some o → H' b = some o) : FoundF A B H' s p L := by
  obtain ⟨as, h1, h2, h3⟩ := h
  exact ⟨as, k _ _ h2 h1, h2, h3.imp fun _ _ _ _ _ r => r.keep k⟩
end
end TB

namespace TB
open PySem PySem.Spec PyProof.Rows L2 Evl TimberAuction
section
variable {K : PySem.W.Frag} {σ : L2.St} {H H' : Hp} {ta tb te : TE} {x y z v : V}
theorem ev_fld {a C dx : Addr} {fs : List (Str × V)} {f : Str} (h : Ev ta σ H (.ref a)) (ho : H a = some (.ins C dx fs)) (hc : Cls K C) (hn : NoAttr K C f) (hl : fs.lookup f = some v) : Ev (tFld K ta f) σ H v := fun H1 e Q q =>
  h H1 e _ fun H2 e2 => ⟨a, C, dx, fs, v, rfl, (e.trans e2) a _ ho, hc, hn, hl, q H2 e2⟩
theorem eu_pair {p : Addr} {H : Hp} : True := trivial
/-- a promise that hands back a value and leaves all that is known -/
def spV (R : List V → Hp → V → Prop) : Sp := fun vs H Q _ => ∃ z, R vs H z ∧ RetV z H Q
/-- .. an object of which P is told -/
def RetP (P : V → Hp → Prop) (H : Hp) (Q : VK) : Prop := ∀ v H2, Ex H H2 → P v H2 → Q v H2
def EvP (te : TE) (σ : L2.St) (H : Hp) (P : V → Hp → Prop) : Prop := ∀ H1, Ex H H1 → ∀ Q : VK, (∀ v H2, Ex H1 H2 → P v H2 → Q v H2) → te σ H1 Q
theorem ev_callV {R : List V → Hp → V → Prop} {E : XK} {t : TA} {vs : List V} (h : EvA t σ H vs) (hr : ∀ H1, Ex H H1 → R vs H1 z) : Ev (tCall (spV R) [] E t) σ H z := fun H1 e Q q =>
  h H1 e _ fun H2 e2 => ⟨z, by rw [List.append_nil]; exact hr H2 (e.trans e2), fun H3 e3 => q H3 (e2.trans e3)⟩
theorem ev_ixL {p : Addr} {xs : List V} {i : Nat} (ha : Ev ta σ H (.ref p)) (hb : Ev tb σ H (.int (i : Int))) (h : SqL K H p xs) (hx : xs[i]? = some v) : Ev (tOp (rIxL K) ta tb) σ H v :=
  ev_op ha hb (rv_ixL h (atI_nat hx))
theorem rt_ret {t : TE} {D : Ends} (h : Ev t σ H v) (k : RetV v H D.rt) : tRet t D σ H := s_ret h fun H1 e => k H1 e
theorem RetV.mono {v : V} {Q : VK} (k : RetV v H Q) (e : Ex H H') : RetV v H' Q := fun H2 e2 => k H2 (e.trans e2)
theorem RetP.mono {P : V → Hp → Prop} {Q : VK} (k : RetP P H Q) (e : Ex H H') : RetP P H' Q := fun v H2 e2 p => k v H2 (e.trans e2) p
end
section
variable {P : Program} {w : World} {K : PySem.W.Frag} {mg : Str → Option Value} {base : Heap} {A : Ad}
/-! ### is_admissible -/
def R_is_admissible (A : Ad) : List V → Hp → V → Prop := fun vs H z => ∃ a τ s i b, vs = [.ref a] ∧ BidAt A τ H s i a b ∧ z = .bl (s.isAdmissible b)
theorem c_is_admissible (T : Txt K mg A) : C8.Cal P w K mg base 1 "is_admissible" (spV (R_is_admissible A)) [] := by
  refine calOf T.d_is_admissible sc_is_admissible (fun _ _ _ _ _ _ us hl => match us, hl with | [_], _ => rfl) (fun vs H Q E h => ?_) (fun f cdv Ar outer s H vs Q E hr h => ?_)
  · obtain ⟨_, ⟨a, τ, s, i, b, rfl, _⟩, _⟩ := h
    rfl
  · obtain ⟨_, ⟨a, τ, s, i, b, rfl, ⟨dx, la, pa, ba, va, hb⟩, rfl⟩, k⟩ := h
    refine ⟨_, (pss_one (ps_ret (pe_and (pe_not (pe_fld (pv 0) rfl)) (pe_one (pe_cmpR op_ge (pe_fld (pv 0) rfl) (pe_fld (pv 0) rfl) (nomark _)))))), ?_⟩
    refine rt_ret (ev_is (ev_andV (ev_notV (ev_fld (ev_var rfl) hb.at_ T.cl_Bid T.n_Bid_withdrawn lk_Bid_withdrawn)) fun _ => ev_op (ev_fld (ev_var rfl) hb.at_ T.cl_Bid T.n_Bid_value lk_Bid_value) (ev_fld (ev_var rfl) hb.at_ T.cl_Bid T.n_Bid_reserve lk_Bid_reserve) rv_I0) ?_) k
    congr 1
    unfold Sale.isAdmissible
    congr 1
    exact decide_eq_decide.mpr Int.ofNat_le
end
end TB

namespace TB
open PySem PySem.Spec PyProof.Rows L2 Evl TimberAuction TBM
structure BidOk (s : Sale) (b : Bid) : Prop where
  lotsLt : ∀ n ∈ b.lots, n < s.lots.length
  lotsNd : b.lots.Nodup
  lotsLen : 1 ≤ b.lots.length ∧ b.lots.length ≤ 10
  prLen : b.prices.length = 10
  prLe : ∀ p ∈ b.prices, p ≤ 1000000
  bdLt : ∀ e ∈ b.bidders, e.1 < 16 ∧ 1 ≤ e.2 ∧ e.2 ≤ 1000
  bdNd : (b.bidders.map (·.1)).Nodup
  bdLen : 1 ≤ b.bidders.length ∧ b.bidders.length ≤ 4
structure SaleOk (s : Sale) : Prop where
  rule : s.rule ≤ 1
  adv : s.advance ≤ 1000
  cd : s.closingDay ≤ 99999
  lotsLen : s.lots.length ≤ 10
  lot : ∀ l ∈ s.lots, l.reserve ≤ 1000000000 ∧ l.volumes.length = 10 ∧ ∀ v ∈ l.volumes, v ≤ 1000000
  bidsLen : s.bids.length ≤ 12
  bid : ∀ b ∈ s.bids, BidOk s b
  limLen : s.limits.length = 16
  limLe : ∀ x ∈ s.limits, x ≤ 12
theorem bid_at {s : Sale} {k : Nat} {b : Bid} (h : s.bids[k]? = some b) : s.bid k = b := by
  unfold Sale.bid
  rw [List.getD_eq_getElem?_getD, h]
  rfl
theorem SaleOk.bidAt {s : Sale} (o : SaleOk s) {k : Nat} {b : Bid} (h : s.bids[k]? = some b) : BidOk s b := o.bid b (List.mem_of_getElem? h)
theorem taken_len (s : Sale) (l : List Nat) : (takenOf s l).length = s.lots.length := by simp [takenOf]
theorem room_len (s : Sale) (l : List Nat) : (roomOf s l).length = 16 := by simp [roomOf]
theorem taken_get {s : Sale} {l : List Nat} {n : Nat} (h : n < s.lots.length) : (takenOf s l)[n]? = some (decide (0 < s.bidsWithLot l n)) := by
  unfold takenOf
  rw [List.getElem?_map, List.getElem?_range h]
  rfl
theorem room_get {s : Sale} {l : List Nat} {n : Nat} (h : n < 16) : (roomOf s l)[n]? = some (s.limits.getD n 0 - s.bidsWithBidder l n) := by
  unfold roomOf
  rw [List.getElem?_map, List.getElem?_range h]
  rfl
theorem hasBidder_iff {b : Bid} {n : Nat} : hasBidder b n = true ↔ ∃ e ∈ b.bidders, e.1 = n := by
  unfold hasBidder
  rw [List.any_eq_true]
  exact ⟨fun ⟨e, h, q⟩ => ⟨e, h, beq_iff_eq.mp q⟩, fun ⟨e, h, q⟩ => ⟨e, h, beq_iff_eq.mpr q⟩⟩
section
variable {P : Program} {w : World} {K : PySem.W.Frag} {mg : Str → Option Value} {base : Heap} {A : Ad}
/-! ### fits -/
def R_fits (A : Ad) : List V → Hp → V → Prop := fun vs H z => ∃ c a τ s k l b, vs = [.ref c, .ref a] ∧ SelAt A H s c l ∧ BidAt A τ H s k a b ∧ s.bids[k]? = some b ∧ BidOk s b ∧ s.violation l = none ∧ s.isAdmissible b = true ∧
  z = .bl (s.violation (l ++ [k])).isNone
theorem c_fits (T : Txt K mg A) : C8.Cal P w K mg base 1 "fits" (spV (R_fits A)) [] := by
  refine calOf T.d_fits sc_fits (fun _ _ _ _ _ _ us hl => match us, hl with | [_, _], _ => rfl) (fun vs H Q E h => ?_) (fun f cdv Ar outer st H vs Q E hr h => ?_)
  · obtain ⟨_, ⟨c, a, τ, s, k, l, b, rfl, _⟩, _⟩ := h
    rfl
  · obtain ⟨_, ⟨c, a, τ, s, k, l, b, rfl, ⟨sdx, na, ta, ra, hc⟩, ⟨dx, la, pa, ba, va, hb⟩, hk, ok, hv, ha, rfl⟩, kQ⟩ := h
    refine ⟨_, (pss_cons (ps_for PassesOwn.never rfl (pi_list (pe_fld (pv 1) rfl)) (pg_name (i := 2) sc_fits.nd rfl (Or.inl rfl)) (pss_one (ps_if (pt_val (pe_ix ix_list (pe_fld (pv 0) rfl) (pv 2) (fun _ _ => rfl))) (pss_one (ps_ret pe_bl)) pss_nil)))
        (pss_cons (ps_for PassesOwn.never rfl (pi_list (pe_fld (pv 1) rfl)) (pg_tup rfl (pgs_cons (pg_name (i := 3) sc_fits.nd rfl (Or.inl rfl)) (pgs_cons (pg_name (i := 4) sc_fits.nd rfl (Or.inl rfl)) pgs_nil))) (pss_one (ps_if (pt_cmpR op_eq (pe_ix ix_list (pe_fld (pv 0) rfl) (pv 3) (fun _ _ => rfl)) pe_int (nomark _)) (pss_one (ps_ret pe_bl)) pss_nil)))
        (pss_one (ps_ret pe_bl)))), ?_⟩
    have eb := bid_at hk
    have hvm := viol_more s (k := k) hv
    rw [eb] at hvm
    obtain ⟨bas, tba, hba, hbd⟩ := hb.bidders
    have no : ∀ H1, Ex H H1 → ¬ s.violation (l ++ [k]) = none → Q (.bl false) H1 := fun H1 e hn => by
      have g := kQ H1 e
      have : (s.violation (l ++ [k])).isNone = false := by
        cases q : s.violation (l ++ [k]) with
        | none => exact absurd q hn
        | some _ => rfl
      rw [this] at g
      exact g
    refine q_forLn (xs := iL b.lots) (ev_fld (ev_var rfl) hb.at_ T.cl_Bid T.n_Bid_lots lk_Bid_lots) (sq_of hb.lots.2)
      (fun i σ' H' => ∃ y2, σ' = [some (.ref c), some (.ref a), y2, none, none] ∧ Ex H H' ∧ ∀ j n, j < i → b.lots[j]? = some n → s.bidsWithLot l n = 0) (fun H1 e => ⟨none, rfl, e, fun j n h => by omega⟩) (fun i σ' H' _ ⟨_, _, e, _⟩ => ex_l e (sq_of hb.lots.2)) ?_ ?_
    · rintro i x σ' H' hx ⟨y2, rfl, e, hall⟩
      obtain ⟨n, hn, rfl⟩ : ∃ n, b.lots[i]? = some n ∧ x = iN n := by
        unfold iL at hx
        rw [List.getElem?_map] at hx
        obtain ⟨n, h1, h2⟩ := Option.map_eq_some_iff.mp hx
        exact ⟨n, h1, h2.symm⟩
      have hlt := ok.lotsLt n (List.mem_of_getElem? hn)
      have hm : n ∈ b.lots := List.mem_of_getElem? hn
      refine s_when (et_B (ev_ixL (i := n) (v := .bl (decide (0 < s.bidsWithLot l n))) (ev_fld (ev_var rfl) (e _ _ hc.at_) T.cl_Selection T.n_Selection_taken lk_Selection_taken) (ev_var rfl) (sq_of (e _ _ hc.taken)) ?_)) (fun hb1 H1 e1 => ?_) (fun hb0 H1 e1 => ?_)
      · rw [List.getElem?_map, taken_get hlt]
        rfl
      · refine rt_ret ev_c ?_
        intro H2 e2
        refine no H2 ((e.trans e1).trans e2) fun z => ?_
        have := (hvm.mp z).2.1 n hlt hm
        have := of_decide_eq_true hb1
        omega
      · refine ⟨_, rfl, e.trans e1, fun j m hj hm => ?_⟩
        by_cases ej : j = i
        · subst ej
          rw [hn] at hm
          cases hm
          have := of_decide_eq_false hb0
          omega
        · exact hall j m (by omega) hm
    · rintro σ' H' ⟨y2, rfl, e, hall⟩
      have hlots : ∀ n ∈ b.lots, s.bidsWithLot l n = 0 := fun n hn => by
        obtain ⟨j, hj⟩ := List.mem_iff_getElem?.mp hn
        refine hall j n ?_ hj
        rw [iL_len]
        exact (List.getElem?_eq_some_iff.mp hj).1
      refine q_forL (xs := rL bas) (ev_fld (ev_var rfl) (e _ _ hb.at_) T.cl_Bid T.n_Bid_bidders lk_Bid_bidders) (sq_of (e _ _ hba))
        (fun i σ' H' => ∃ y3 y4, σ' = [some (.ref c), some (.ref a), y2, y3, y4] ∧ Ex H H' ∧ ∀ j p, j < i → b.bidders[j]? = some p → s.bidsWithBidder l p.1 < s.limits.getD p.1 0) (fun H1 e1 => ⟨none, none, rfl, e.trans e1, fun j n h => by omega⟩) (fun i σ' H' _ ⟨_, _, _, e, _⟩ => ex_l e (sq_of hba)) ?_ ?_
      · rintro i x σ' H2 hx ⟨y3, y4, rfl, e2, hal2⟩
        obtain ⟨pa', hp1, rfl⟩ : ∃ n, bas[i]? = some n ∧ x = .ref n := by
          unfold rL at hx
          rw [List.getElem?_map] at hx
          obtain ⟨n, h1, h2⟩ := Option.map_eq_some_iff.mp hx
          exact ⟨n, h1, h2.symm⟩
        obtain ⟨p, hp2, _, hp3⟩ := hbd.getL hp1
        have hm : p ∈ b.bidders := List.mem_of_getElem? hp2
        have hlt := (ok.bdLt p hm).1
        have hhas : hasBidder b p.1 = true := hasBidder_iff.mpr ⟨p, hm, rfl⟩
        refine ⟨pa', [iN p.1, iN p.2], rfl, .inl (.inl (e2 _ _ hp3)), rfl, iN p.1, [iN p.2], rfl, iN p.2, [], rfl, rfl, ?_⟩
        refine s_when (et_test (ev_op (ev_ixL (i := p.1) (v := iN (s.limits.getD p.1 0 - s.bidsWithBidder l p.1)) (ev_fld (ev_var rfl) (e2 _ _ hc.at_) T.cl_Selection T.n_Selection_room lk_Selection_room) (ev_var rfl) (sq_of (e2 _ _ hc.room)) ?_) ev_c (rv_eq rfl))) (fun hb1 H1 e1 => ?_) (fun hb0 H1 e1 => ?_)
        · exact iL_get (room_get hlt)
        · refine rt_ret ev_c ?_
          intro H3 e3
          refine no H3 ((e2.trans e1).trans e3) fun z => ?_
          have := (hvm.mp z).2.2 p.1 hlt hhas
          have h0 := V.int.inj (of_decide_eq_true hb1)
          omega
        · refine ⟨_, _, rfl, e2.trans e1, fun j q hj hq => ?_⟩
          by_cases ej : j = i
          · subst ej
            rw [hp2] at hq
            cases hq
            have h0 := of_decide_eq_false hb0
            have h1 : ¬ s.limits.getD p.1 0 - s.bidsWithBidder l p.1 = 0 := fun z => h0 (by rw [z]; rfl)
            omega
          · exact hal2 j q (by omega) hq
      · rintro σ' H2 ⟨y3, y4, rfl, e2, hal2⟩
        refine rt_ret ev_c ?_
        intro H3 e3
        have g := kQ H3 (e2.trans e3)
        have yes : s.violation (l ++ [k]) = none := hvm.mpr ⟨ha, fun lot _ hm => hlots lot hm, fun n hn hh => by
          obtain ⟨p, hm, rfl⟩ := hasBidder_iff.mp hh
          obtain ⟨j, hj⟩ := List.mem_iff_getElem?.mp hm
          refine hal2 j p ?_ hj
          rw [rL_len, hbd.1]
          exact (List.getElem?_eq_some_iff.mp hj).1⟩
        rw [yes] at g
        exact g
end
end TB

namespace TB
open PySem PySem.Spec PyProof.Rows L2 Evl
/-! ### xs[i] -= e, xs a list -/
def rGetL (K : PySem.W.Frag) : V → V → Hp → VK → Prop := fun o i H Q => ∃ p xs v, ∃ n : Nat, o = .ref p ∧ i = .int (n : Int) ∧ SqL K H p xs ∧ xs[n]? = some v ∧ Q v H
section
variable {X : Cx}
theorem get_list : PGet X (rGetL X.K) := by
  intro pins s σ H o i ov iv Q I ro ri h
  obtain ⟨p, xs, v, n, rfl, rfl, hq, hx, q⟩ := h
  cases ro
  obtain ⟨t, rfl⟩ := ri
  obtain ⟨its, r, pl, hz⟩ := I.list hq
  obtain ⟨u, hu, ru⟩ := r.get hx
  have hl := r.length
  have hn := line63
  have hlt : n < xs.length := (List.getElem?_eq_some_iff.mp hx).1
  exact wpAny_getItem_list pl.isList (by omega) (by omega) (by simpa using hu) ⟨v, H, I, ru, q⟩
theorem ps_augSub {o i e : Expr} {to ti te : TE} {tpos pos : Pos} (ho : PE X o to) (hi : PE X i ti) (he : PE X e te)
    (ha : ∀ ov iv new, augStore i ov iv new = (do holding [new, ov, iv] (setItem ov iv new); release [new, ov, iv] []; pure .next) := by intros; rfl) : PS X (.AugAssign (.Subscript o i tpos) .Sub e pos) (tAugS to ti te (rGetL X.K) (ipI fun i j => i - j) rSetL) :=
  ps_augS ho hi get_list he ip_sub set_list ha
end
/-! ### the same rules within a comprehension's block: what the module has written stands apart from the block -/
section
variable {X : Cx} {K : PySem.W.Frag} {e : Expr} {ta : TE} {f : Str} {pos : Pos}
theorem pe_fldB (hK : X.K = K) (he : PE X e ta) (hb : attributeBase e f X.env (eval e X.env) = eval e X.env) : PE X (.Attribute e f pos) (tFld K ta f) := by
  subst hK
  exact pe_fld he hb
theorem ix_listB (hK : X.K = K) : IxR X (rIxL K) := by
  subst hK
  exact ix_list
theorem ix_tupB (hK : X.K = K) : IxR X (rIxT K) := by
  subst hK
  exact ix_tup
theorem op_inB (hK : X.K = K) : OpR X (compareOp .In) (rIn K false) := by
  subst hK
  exact op_in_seq
theorem op_notInB (hK : X.K = K) : OpR X (compareOp .NotIn) (rIn K true) := by
  subst hK
  exact op_notIn_seq
end
/-! ### an __init__ that stores its arguments -/
def spInit (C : Addr) (n : Nat) (f : List V → List (Str × V)) : Sp := fun vs H Q _ => ∃ p dx args, vs = .ref p :: args ∧ args.length = n ∧ H p = some (.ins C dx []) ∧ Q .non (upd H p (.ins C dx (f args)))
theorem upd_ex {H H' : Hp} {p : Addr} {o : HO} (e : Ex H H') (h : H' p = none) : Ex H (upd H' p o) := e.trans (Ex.new h)
section
variable {K : PySem.W.Frag} {σ : L2.St} {H : Hp} {Q : VK}
theorem mk_run {C : Addr} {n : Nat} {f : List V → List (Str × V)} {vs : List V} {E : XK} {x dx : Addr} (hn : vs.length = n) (hx : H x = none) (hd : H dx = none) (ne : dx ≠ x) (k : ∀ H1, Ex H H1 → H1 x = some (.ins C dx (f vs)) → Q (.ref x) H1) :
    spInit C n f (.ref x :: (vs ++ [])) (upd (upd H dx (.own x)) x (.ins C dx [])) (fun v H2 => v = .non ∧ Q (.ref x) H2) E := by
  have hx2 : (upd H dx (.own x)) x = none := by rw [upd_ne (Ne.symm ne)]; exact hx
  refine ⟨x, dx, vs, by rw [List.append_nil], hn, upd_same, rfl, k _ ?_ upd_same⟩
  rw [upd_upd]
  exact upd_ex (Ex.new hd) hx2
theorem mk_run2 {R : Hp → Prop} {C : Addr} {n : Nat} {f : List V → List (Str × V)} {vs : List V} {E : XK} {x dx : Addr} (hn : vs.length = n) (hx : H x = none) (hd : H dx = none) (ne : dx ≠ x) (k : ∀ H1, Ex H H1 → H1 x = some (.ins C dx (f vs)) → R H1) :
    spInit C n f (.ref x :: (vs ++ [])) (upd (upd H dx (.own x)) x (.ins C dx [])) (fun v H2 => v = .non ∧ R H2) E :=
  mk_run (Q := fun _ H1 => R H1) hn hx hd ne k
/-- C(e, ..) by plain stores -/
theorem ev_make {C : Addr} {n : Nat} {f : List V → List (Str × V)} {vs : List V} {E : XK} {t : TA} (h : EvA t σ H vs) (hn : vs.length = n) (k : ∀ x dx H1, H x = none → Ex H H1 → H1 x = some (.ins C dx (f vs)) → Q (.ref x) H1) : tMake C (spInit C n f) [] E t σ H Q :=
  h H (Ex.refl H) _ fun H1 e1 x dx hx hd ne => mk_run hn hx hd ne fun H2 e2 h2 => k x dx H2 (fresh_back e1 hx) (e1.trans e2) h2
/-- a list made of two, the first known, the second new -/
theorem el_cat {ta tb : TE} {a : Addr} {xs ys : List V} (ha : Ev ta σ H (.ref a)) (hx : H a = some (.lst xs)) (hb : EvL tb σ H ys) (hz : xs.length + ys.length ≤ 100000) : EvL (tOp rCat ta tb) σ H (xs ++ ys) := fun H1 e Q q =>
  ha H1 e _ fun H2 e2 => hb H2 (e.trans e2) _ fun p H3 hp e3 h3 => ⟨a, p, xs, ys, rfl, rfl, ((e.trans e2).trans e3) a _ hx, h3, sz_of hz, fun r hr => q r _ (fresh_back (e2.trans e3) hr) ((e2.trans e3).trans (Ex.new hr)) upd_same⟩
end
/-! ### a list with some places stored -/
def putAt {α : Type} (f : Nat → α) (ks : List Nat) (r : List α) : List α := ks.foldl (fun r n => r.set n (f n)) r
theorem putAt_len {α : Type} {f : Nat → α} : ∀ {ks : List Nat} {r : List α}, (putAt f ks r).length = r.length
  | [], _ => rfl
  | k :: ks, r => by
    show (putAt f ks (r.set k (f k))).length = _
    rw [putAt_len, List.length_set]
theorem putAt_snoc {α : Type} {f : Nat → α} {ks : List Nat} {k : Nat} {r : List α} : putAt f (ks ++ [k]) r = (putAt f ks r).set k (f k) := by
  unfold putAt
  rw [List.foldl_append]
  rfl
theorem putAt_get {α : Type} {f : Nat → α} : ∀ {ks : List Nat} {r : List α} {n : Nat}, n < r.length → (putAt f ks r)[n]? = if n ∈ ks then some (f n) else r[n]?
  | [], r, n, _ => by simp [putAt]
  | k :: ks, r, n, h => by
    show (putAt f ks (r.set k (f k)))[n]? = _
    rw [putAt_get (by rw [List.length_set]; exact h)]
    by_cases h1 : n ∈ ks
    · rw [if_pos h1, if_pos (List.mem_cons_of_mem _ h1)]
    · rw [if_neg h1]
      by_cases h2 : n = k
      · subst h2
        rw [if_pos List.mem_cons_self, List.getElem?_set_self h]
      · rw [if_neg (fun z => by
          rcases List.mem_cons.mp z with z | z
          · exact h2 z
          · exact h1 z), List.getElem?_set_ne (Ne.symm h2)]
end TB
namespace TB
open PySem PySem.Spec PyProof.Rows L2 Evl
section
variable {σ : L2.St} {H : Hp} {Q : VK} {QA : List V → Hp → Prop} {D : Ends} {t u : TS} {te ta tb : TE} {tr tl : TA} {g : TG} {r : R2} {rc : List V → Hp → VK → Prop}
theorem seq_run (h : t { D with nx := u D } σ H) : tSeq t u D σ H := h
theorem asg_run (h : te σ H fun v H1 => g v σ H1 D.nx) : tAsg te g D σ H := h
theorem ret_run (h : te σ H D.rt) : tRet te D σ H := h
theorem lst_run (h : tl σ H fun xs H1 => xs.length ≤ sizeLine ∧ ∀ p, H1 p = none → Q (.ref p) (upd H1 p (.lst xs))) : tLst tl σ H Q := h
theorem tup_run (h : tl σ H fun xs H1 => xs.length ≤ sizeLine ∧ ∀ p, H1 p = none → Q (.ref p) (upd H1 p (.tup xs))) : tTup tl σ H Q := h
theorem cons_run (h : te σ H fun x H1 => tr σ H1 fun xs H2 => QA (x :: xs) H2) : tCons te tr σ H QA := h
theorem op_run (h : ta σ H fun x H1 => tb σ H1 fun y H2 => r x y H2 Q) : tOp r ta tb σ H Q := h
theorem cb_run (h : tl σ H fun vs H1 => rc vs H1 Q) : tCB rc tl σ H Q := h
theorem make_run {C : Addr} {sp : Sp} {dvs : List V} {E : XK} (h : tl σ H fun vs H1 => ∀ x dx, H1 x = none → H1 dx = none → dx ≠ x → sp (.ref x :: (vs ++ dvs)) (upd (upd H1 dx (.own x)) x (.ins C dx [])) (fun v H2 => v = .non ∧ Q (.ref x) H2) E) : tMake C sp dvs E tl σ H Q := h
theorem c_run {v : V} (h : Q v H) : tC v σ H Q := h
theorem var_run {i : Nat} {v : V} (e : σ[i]? = some (some v)) (h : Q v H) : tVar i σ H Q := ⟨v, e, h⟩
theorem nil_run (h : QA [] H) : tNil σ H QA := h
theorem call_run {sp : Sp} {dvs : List V} {E : XK} (h : tl σ H fun vs H1 => sp (vs ++ dvs) H1 Q E) : tCall sp dvs E tl σ H Q := h
end
end TB

namespace TB
open PySem PySem.Spec PyProof.Rows L2 Evl TimberAuction TBM
open C8 (pe_c pe_mk pe_mt pe_mt0)
/-- a promise whose object is told by P -/
def spP (R : List V → Hp → (V → Hp → Prop) → Prop) : Sp := fun vs H Q _ => ∃ Pz, R vs H Pz ∧ RetP Pz H Q
theorem map_bl_set {l : List Bool} {n : Nat} {b : Bool} : (l.map V.bl).set n (.bl b) = (l.set n b).map V.bl := by
  rw [List.map_set]
theorem iL_set {l : List Nat} {n m : Nat} : (iL l).set n (iN m) = iL (l.set n m) := by
  unfold iL
  rw [List.map_set]
theorem take_snoc {α : Type} {l : List α} {i : Nat} {x : α} (h : l[i]? = some x) : l.take (i + 1) = l.take i ++ [x] := by
  rw [List.take_add_one, h]
  rfl
theorem takenOf_more {s : Sale} {l : List Nat} {k : Nat} : putAt (fun _ => true) (s.bid k).lots (takenOf s l) = takenOf s (l ++ [k]) := by
  apply List.ext_getElem?
  intro n
  by_cases h : n < s.lots.length
  · rw [putAt_get (by rw [taken_len]; exact h), taken_get h, taken_get h, lot_append, lot_one]
    by_cases hm : n ∈ (s.bid k).lots
    · rw [if_pos hm, if_pos (List.contains_iff_mem.mpr hm)]
      exact congrArg some (decide_eq_true (by omega)).symm
    · rw [if_neg hm, if_neg (fun z => hm (List.contains_iff_mem.mp z)), Nat.add_zero]
  · rw [List.getElem?_eq_none (by rw [putAt_len, taken_len]; omega), List.getElem?_eq_none (by rw [taken_len]; omega)]
theorem roomOf_more {s : Sale} {l : List Nat} {k : Nat} : putAt (fun n => (roomOf s l).getD n 0 - 1) ((s.bid k).bidders.map (·.1)) (roomOf s l) = roomOf s (l ++ [k]) := by
  apply List.ext_getElem?
  intro n
  by_cases h : n < 16
  · rw [putAt_get (by rw [room_len]; exact h), room_get h, room_get h, bidder_append, bidder_one]
    have e : (roomOf s l).getD n 0 = s.limits.getD n 0 - s.bidsWithBidder l n := by
      rw [List.getD_eq_getElem?_getD, room_get h]
      rfl
    by_cases hm : n ∈ (s.bid k).bidders.map (·.1)
    · have hb : hasBidder (s.bid k) n = true := by
        obtain ⟨p, h1, h2⟩ := List.mem_map.mp hm
        exact hasBidder_iff.mpr ⟨p, h1, h2⟩
      rw [if_pos hm, if_pos hb, e]
      congr 1
    · have hb : ¬ hasBidder (s.bid k) n = true := fun z => by
        obtain ⟨p, h1, h2⟩ := hasBidder_iff.mp z
        exact hm (List.mem_map.mpr ⟨p, h1, h2⟩)
      rw [if_neg hm, if_neg hb, Nat.add_zero]
  · rw [List.getElem?_eq_none (by rw [putAt_len, room_len]; omega), List.getElem?_eq_none (by rw [room_len]; omega)]
section
variable {P : Program} {w : World} {K : PySem.W.Frag} {mg : Str → Option Value} {base : Heap} {A : Ad}
/-! ### Selection(..) -/
def fSelL : List V → List (Str × V)
  | [a, b, c, d] => fSelection a b c d
  | _ => []
theorem m_Selection (T : Txt K mg A) : C8.Mak P w K mg base 1 "Selection" A.Selection (spInit A.Selection 4 fSelL) [] := by
  refine makOf T.m_Selection sc_Selection___init__ (fun _ _ _ _ _ _ us hl => match us, hl with | [_, _, _, _, _], _ => rfl) (fun vs H Q E h => ?_) (fun f cdv Ar outer st H vs Q E hr h => ?_)
  · obtain ⟨p, dx, args, rfl, hn, _⟩ := h
    simp [hn]
  · obtain ⟨p, dx, args, rfl, hn, hp, kQ⟩ := h
    obtain ⟨v0, v1, v2, v3, rfl⟩ : ∃ a b c d, args = [a, b, c, d] := by
      match args, hn with
      | [a, b, c, d], _ => exact ⟨a, b, c, d, rfl⟩
    refine ⟨_, (pss_cons (ps_fld (pv 0) (pv 1) rfl)
        (pss_cons (ps_fld (pv 0) (pv 2) rfl)
        (pss_cons (ps_fld (pv 0) (pv 3) rfl)
        (pss_one (ps_fld (pv 0) (pv 4) rfl))))), ?_⟩
    refine ⟨_, rfl, _, rfl, p, A.Selection, dx, _, rfl, hp, T.cl_Selection, T.n_Selection_numbers, (by show 0 < 1000; decide), ?_⟩
    refine ⟨_, rfl, _, rfl, p, A.Selection, dx, _, rfl, upd_same, T.cl_Selection, T.n_Selection_value, (by show 1 < 1000; decide), ?_⟩
    refine ⟨_, rfl, _, rfl, p, A.Selection, dx, _, rfl, upd_same, T.cl_Selection, T.n_Selection_taken, (by show 2 < 1000; decide), ?_⟩
    refine ⟨_, rfl, _, rfl, p, A.Selection, dx, _, rfl, upd_same, T.cl_Selection, T.n_Selection_room, (by show 3 < 1000; decide), ?_⟩
    rw [upd_upd, upd_upd, upd_upd]
    exact kQ
/-! ### joined -/
def SelN (A : Ad) (H0 H : Hp) (s : Sale) (a : Addr) (l : List Nat) : Prop := ∃ dx na ta ra, SelR A H s a l dx na ta ra ∧ H0 a = none ∧ H0 na = none ∧ H0 ta = none ∧ H0 ra = none
def R_joined (A : Ad) : List V → Hp → (V → Hp → Prop) → Prop := fun vs H Pz => ∃ c a τ s k l b, vs = [.ref c, iN k, .ref a] ∧ SelAt A H s c l ∧ BidAt A τ H s k a b ∧ s.bids[k]? = some b ∧ BidOk s b ∧ s.violation (l ++ [k]) = none ∧ l.length ≤ 12 ∧
  Pz = fun v H2 => ∃ p, v = .ref p ∧ SelN A H H2 s p (l ++ [k])
theorem c_joined (T : Txt K mg A) : C8.Cal P w K mg base 3 "joined" (spP (R_joined A)) [] := by
  have m_Selection : C8.Mak P w K mg base 1 "Selection" A.Selection (spInit A.Selection 4 fSelL) [] := m_Selection T
  refine calOf T.d_joined sc_joined (fun _ _ _ _ _ _ us hl => match us, hl with | [_, _, _], _ => rfl) (fun vs H Q E h => ?_) (fun f cdv Ar outer st H vs Q E hr h => ?_)
  · obtain ⟨_, ⟨c, a, τ, s, k, l, b, rfl, _⟩, _⟩ := h
    rfl
  · obtain ⟨_, ⟨c, a, τ, s, k, l, b, rfl, ⟨sdx, na, ta, ra, hc⟩, ⟨dx, la, pa, ba, va, hb⟩, hk, ok, hv, hlen, rfl⟩, kQ⟩ := h
    refine ⟨_, (pss_cons (ps_set (i := 3) sc_joined.nd rfl (Or.inl rfl) (pe_callTy call_list_of (by rfl) T.b_list (by decide +kernel) (pa_cons (pe_fld (pv 0) rfl) pa_nil)))
        (pss_cons (ps_for PassesOwn.never rfl (pi_list (pe_fld (pv 2) rfl)) (pg_name (i := 4) sc_joined.nd rfl (Or.inl rfl)) (pss_one (ps_asg pe_bl (pg_sub (pv 3) (pv 4) set_list))))
        (pss_cons (ps_set (i := 5) sc_joined.nd rfl (Or.inl rfl) (pe_callTy call_list_of (by rfl) T.b_list (by decide +kernel) (pa_cons (pe_fld (pv 0) rfl) pa_nil)))
        (pss_cons (ps_for PassesOwn.never rfl (pi_list (pe_fld (pv 2) rfl)) (pg_tup rfl (pgs_cons (pg_name (i := 6) sc_joined.nd rfl (Or.inl rfl)) (pgs_cons (pg_name (i := 7) sc_joined.nd rfl (Or.inl rfl)) pgs_nil))) (pss_one (ps_augSub (pv 5) (pv 6) pe_int)))
        (pss_one (ps_ret (pe_mk m_Selection hr (by decide) (by rfl) (pa_cons (pe_op op_cat (pe_fld (pv 0) rfl) (pe_lst (pa_cons (pv 1) pa_nil))) (pa_cons (pe_op op_add (pe_fld (pv 0) rfl) (pe_fld (pv 2) rfl)) (pa_cons (pv 3) (pa_cons (pv 5) pa_nil))))))))))), ?_⟩
    have eb := bid_at hk
    obtain ⟨bas, tba, hba, hbd⟩ := hb.bidders
    have hvm := (viol_more s (k := k) (viol_less s hv)).mp hv
    rw [eb] at hvm
    refine q_asgL (el_list (ev_fld (ev_var rfl) hc.at_ T.cl_Selection T.n_Selection_taken lk_Selection_taken) (sq_of hc.taken)) fun p1 H1 np1 e1 hp1 => ?_
    refine q_forLn (xs := iL b.lots) (ev_fld (ev_var rfl) (e1 _ _ hb.at_) T.cl_Bid T.n_Bid_lots lk_Bid_lots) (sq_of (e1 _ _ hb.lots.2))
      (fun i σ' H' => ∃ y4, σ' = [some (.ref c), some (iN k), some (.ref a), some (.ref p1), y4, none, none, none] ∧ Ex H H' ∧ H' p1 = some (.lst ((putAt (fun _ => true) (b.lots.take i) (takenOf s l)).map V.bl)))
      (fun H2 e2 => ⟨none, rfl, e1.trans e2, e2 _ _ hp1⟩) (fun i σ' H' _ ⟨_, _, e, _⟩ => ex_l e (sq_of hb.lots.2)) ?_ ?_
    · rintro i x σ' H' hx ⟨y4, rfl, e, hcur⟩
      obtain ⟨n, hn, rfl⟩ : ∃ n, b.lots[i]? = some n ∧ x = iN n := by
        unfold iL at hx
        rw [List.getElem?_map] at hx
        obtain ⟨n, h1, h2⟩ := Option.map_eq_some_iff.mp hx
        exact ⟨n, h1, h2.symm⟩
      refine s_setL (j := n) hcur ev_c (ev_var rfl) (ev_var rfl) ?_ fun H2 e2 => ?_
      · rw [List.length_map, putAt_len, taken_len]
        exact ok.lotsLt n (List.mem_of_getElem? hn)
      · refine ⟨_, rfl, Ex.mut (e.trans e2) np1, ?_⟩
        rw [upd_same, take_snoc hn, putAt_snoc, map_bl_set]
    · rintro σ' H2 ⟨y4, rfl, e2, hcur⟩
      rw [iL_len, List.take_length, ← eb, takenOf_more] at hcur
      refine q_asgL (el_list (ev_fld (ev_var rfl) (e2 _ _ hc.at_) T.cl_Selection T.n_Selection_room lk_Selection_room) (sq_of (e2 _ _ hc.room))) fun p2 H3 np2 e3 hp2 => ?_
      refine q_forL (xs := rL bas) (ev_fld (ev_var rfl) ((e2.trans e3) _ _ hb.at_) T.cl_Bid T.n_Bid_bidders lk_Bid_bidders) (sq_of ((e2.trans e3) _ _ hba))
        (fun i σ' H' => ∃ y6 y7, σ' = [some (.ref c), some (iN k), some (.ref a), some (.ref p1), y4, some (.ref p2), y6, y7] ∧ Ex H2 H' ∧ H' p2 = some (.lst (iL (putAt (fun n => (roomOf s l).getD n 0 - 1) ((b.bidders.map (·.1)).take i) (roomOf s l)))))
        (fun H4 e4 => ⟨none, none, rfl, e3.trans e4, e4 _ _ hp2⟩) (fun i σ' H' _ ⟨_, _, _, e, _⟩ => ex_l (e2.trans e) (sq_of hba)) ?_ ?_
      · rintro i x σ' H4 hx ⟨y6, y7, rfl, e4, hc2⟩
        obtain ⟨pa', hp1', rfl⟩ : ∃ n, bas[i]? = some n ∧ x = .ref n := by
          unfold rL at hx
          rw [List.getElem?_map] at hx
          obtain ⟨n, h1, h2⟩ := Option.map_eq_some_iff.mp hx
          exact ⟨n, h1, h2.symm⟩
        obtain ⟨p, hpi, _, hpt⟩ := hbd.getL hp1'
        have hm : p ∈ b.bidders := List.mem_of_getElem? hpi
        have hlt := (ok.bdLt p hm).1
        have hfi : (b.bidders.map (·.1))[i]? = some p.1 := by
          rw [List.getElem?_map, hpi]
          rfl
        have hnot : p.1 ∉ (b.bidders.map (·.1)).take i := fun z => by
          obtain ⟨j, hj⟩ := List.mem_iff_getElem?.mp z
          rw [List.getElem?_take] at hj
          split at hj
          · exact absurd (nd_ix ok.bdNd hj hfi) (by omega)
          · cases hj
        have hroom : s.bidsWithBidder l p.1 < s.limits.getD p.1 0 := hvm.2.2 p.1 hlt (hasBidder_iff.mpr ⟨p, hm, rfl⟩)
        have hcurv : (putAt (fun n => (roomOf s l).getD n 0 - 1) ((b.bidders.map (·.1)).take i) (roomOf s l))[p.1]? = some (s.limits.getD p.1 0 - s.bidsWithBidder l p.1) := by
          rw [putAt_get (by rw [room_len]; exact hlt), if_neg hnot, room_get hlt]
        have hgd : (roomOf s l).getD p.1 0 = s.limits.getD p.1 0 - s.bidsWithBidder l p.1 := by
          rw [List.getD_eq_getElem?_getD, room_get hlt]
          rfl
        refine ⟨pa', [iN p.1, iN p.2], rfl, .inl (.inl ((e2.trans e4) _ _ hpt)), rfl, iN p.1, [iN p.2], rfl, iN p.2, [], rfl, rfl, ?_⟩
        refine ⟨_, rfl, _, rfl, p2, _, _, p.1, rfl, rfl, sq_of hc2, iL_get hcurv, ?_⟩
        refine ⟨_, 1, rfl, rfl, p2, _, _, p.1, rfl, rfl, hc2, ixN_nat ?_, ?_⟩
        · rw [iL_len, putAt_len, room_len]
          exact hlt
        · refine ⟨_, _, rfl, Ex.mut e4 (fresh_back (Ex.refl _) np2), ?_⟩
          rw [upd_same, take_snoc hfi, putAt_snoc, hgd]
          show some (HO.lst (List.set _ p.1 (.int (((s.limits.getD p.1 0 - s.bidsWithBidder l p.1 : Nat) : Int) - 1)))) = _
          rw [show (((s.limits.getD p.1 0 - s.bidsWithBidder l p.1 : Nat) : Int) - 1) = ((s.limits.getD p.1 0 - s.bidsWithBidder l p.1 - 1 : Nat) : Int) by omega]
          exact congrArg (fun z => some (HO.lst z)) iL_set
      · rintro σ' H4 ⟨y6, y7, rfl, e4, hc2⟩
        rw [rL_len, hbd.1, List.take_of_length_le (by simp), ← eb, roomOf_more] at hc2
        have e := e2.trans e4
        have np1' : p1 ≠ p2 := fun z => by
          rw [z] at hcur
          rw [hcur] at np2
          cases np2
        refine (el_cat (ev_fld (ev_var rfl) (e _ _ hc.at_) T.cl_Selection T.n_Selection_numbers lk_Selection_numbers) (e _ _ hc.nums) (el_lst (ea_cons (ev_var rfl) ea_nil) (by show 1 ≤ 100000; decide)) (by rw [iL_len]; simp; omega)) H4 (Ex.refl _) _ fun p3 H5 np3 e5 hp3 => ?_
        refine (ev_op (ev_fld (ev_var rfl) (e5 _ _ (e _ _ hc.at_)) T.cl_Selection T.n_Selection_value lk_Selection_value) (ev_fld (ev_var rfl) (e5 _ _ (e _ _ hb.at_)) T.cl_Bid T.n_Bid_value lk_Bid_value) rv_I0) H5 (Ex.refl _) _ fun H6 e6 => ?_
        refine ⟨_, rfl, _, rfl, fun x dx' hx hd ne => ?_⟩
        refine mk_run rfl hx hd ne fun H7 e7 h7 => ?_
        refine kQ _ H7 (((e.trans e5).trans e6).trans e7) ⟨x, rfl, dx', p3, p1, p2, ⟨?_, e7 _ _ (e6 _ _ ?_), e7 _ _ (e6 _ _ (e5 _ _ (e4 _ _ hcur))), e7 _ _ (e6 _ _ (e5 _ _ hc2))⟩, fresh_back ((e.trans e5).trans e6) hx, fresh_back e np3, np1, fresh_back e2 np2⟩
        · rw [h7, total_append, total_one, eb]
          rfl
        · rw [hp3]
          unfold iL
          rw [List.map_append]
          rfl
end
end TB

namespace TB
open PySem PySem.Spec PyProof.Rows L2 Evl
/-! ### min(xs, key=f), f a def of the program: the keys are data -/
section
variable {X : Cx} {k j : Nat} {f : Addr} {fd : FuncData} {ps : List Str} {sp : Sp} {pins : List (Addr × Obj)} {σ : L2.St} {H H1 : Hp} {s : Shared}
/-- a call of a def from within a built-in -/
theorem run_at {A1 : Around} {Q : VK} {us : List Value} {vs : List V} {E : Value → Shared → Prop} (F : FnOk X.prog X.w X.K X.mg X.base CX0 k f fd ps sp) (hr : Room k A1) (hf : A1.frames = X.A.frames) (hb : Binds X.K fd ps [])
    (I : Inv X pins σ H s) (r : Vals vs us) (h : sp vs H Q E0) : wpAny (model X.prog X.w) A1 (call (.ref f) us) (EP X pins σ Q) E s := by
  have hl : us.length = ps.length := by rw [← r.length]; exact F.len _ _ _ _ h
  have b := hb s us I.kIn (by rw [List.append_nil]; exact hl)
  rw [List.append_nil] at b
  have e0 : Env0 X.prog X.w X.K X.mg X.base A1 X.stack s H := by
    have e := I.env0
    exact ⟨by rw [hf]; exact e.frames, e.mod, e.bs, e.bsz, e.funs, e.frf, e.hok, e.bare⟩
  refine wpAny_call (codeAny_mono (F.run A1 X.stack s H ⟨us, []⟩ us vs Q E0 hr e0 b r h) fun r s' hq => ?_)
  cases r with
  | error e => exact False.elim hq
  | ok fl =>
    cases fl with
    | ret u => exact I.after hq
    | next => exact False.elim hq
    | brk => exact False.elim hq
    | cont => exact False.elim hq
/-- what the loop asks of the keys -/
structure KeyOk (X : Cx) (sp : Sp) (H1 : Hp) (xs : List V) (dk : Nat → PyData) (Kp : Nat → V → Hp → Prop) : Prop where
  alike : ∀ i j, i < xs.length → j < xs.length → PySem.W.alike (dk i) (dk j) = true
  some_ : ∀ i, dk i ≠ .none
  deep : ∀ i, (dk i).depth ≤ 8
  mono : ∀ i v H H', Ex H H' → Kp i v H → Kp i v H'
  reads : ∀ i v H h u, HOk X.prog X.w H h → Kp i v H → RelV v u → ∃ as, Reads h u (dk i) as
  turn : ∀ i xv H2, xs[i]? = some xv → Ex H1 H2 → ∀ Q' : VK, (∀ v H3, Ex H2 H3 → Kp i v H3 → Q' v H3) → sp [xv] H2 Q' E0
def ltK (dk : Nat → PyData) (i j : Nat) : Bool := PySem.W.dataLt (dk i) (dk j)
end
/-- a heap with less tracked: what is told of a value that H knows -/
theorem FpOk.to {X : Cx} {pins : List (Addr × Obj)} {H H' : Hp} {b : Addr} (h : FpOk X pins H b) (n : H' b = none) : FpOk X pins H' b := ⟨n, h.2⟩
section
variable {X : Cx} {k j : Nat} {q : Addr} {fd : FuncData} {ps : List Str} {sp : Sp} {pins : List (Addr × Obj)} {σ : L2.St} {H1 : Hp} {xs : List V} {dk : Nat → PyData} {Kp : Nat → V → Hp → Prop} {l S I : Addr} {R : Result → Shared → Prop}
theorem Inv.moved {H : Hp} {s : Shared} {h' : Heap} {t' : Nat} {it : Addr} (I : Inv X pins σ H s) (f : FpOk X pins H it) (kp : ∀ b o, b ≠ it → s.heap.get? b = some o → h'.get? b = some o) : Inv X pins σ H { s with heap := h', toks := t' } := by
  obtain ⟨f0, f1, f2, f3, f4, f5⟩ := f
  exact I.turned kp f0 f1 f3 f4 f5
/-- one turn's key -/
theorem key_turn {H : Hp} {s : Shared} {E : Value → Shared → Prop} {v : V} {u : Value} {i : Nat} {oS oI : Obj} {Q : Value → Shared → Prop} (F : FnOk X.prog X.w X.K X.mg X.base CX0 k q fd ps sp) (hr : Room (k + 1) X.A) (hb : Binds X.K fd ps [])
    (K : KeyOk X sp H1 xs dk Kp) (I : Inv X pins σ H s) (e : Ex H1 H) (fS : FpOk X pins H S) (fI : FpOk X pins H l) (hS : s.heap.get? S = some oS) (hI : s.heap.get? l = some oI) (cS : ∀ v, oS.data ≠ .cell v) (cI : ∀ v, oI.data ≠ .cell v)
    (hx : xs[i]? = some v) (r : RelV v u)
    (hQ : ∀ kv ku s' H', Inv X pins σ H' s' → Ex H H' → RelV kv ku → Kp i kv H' → FpOk X pins H' S → FpOk X pins H' l → s'.heap.get? S = some oS → s'.heap.get? l = some oI → Q ku s') :
    wpAny (model X.prog X.w) X.A.in1 (call (.ref q) [u]) Q E s := by
  have hfp : ∀ b ∈ [S, l], FpOk X pins H b := fun b hb => by
    rcases List.mem_cons.mp hb with rfl | hb
    · exact fS
    · rw [List.mem_singleton.mp hb]
      exact fI
  have ho : ∀ b ∈ [S, l], ∃ o, s.heap.get? b = some o ∧ ∀ v, o.data ≠ .cell v := fun b hb => by
    rcases List.mem_cons.mp hb with rfl | hb
    · exact ⟨_, hS, cS⟩
    · rw [List.mem_singleton.mp hb]
      exact ⟨_, hI, cI⟩
  have I' := I.pinned hfp ho
  refine thn (run_at (A1 := X.A.in1) F hr.in1 rfl hb I' (.cons r .nil) (K.turn i v H hx e (fun kv H' => Ex H H' ∧ Kp i kv H') fun v H3 e3 h3 => ⟨e3, h3⟩)) ?_
  rintro ku s' ⟨kv, H', I2, rk, e2, hk⟩
  have pS := I2.pin (S, oS) (List.mem_append_right _ (List.mem_append_right _ (mem_pinsAt (by simp) hS)))
  have pI := I2.pin (l, oI) (List.mem_append_right _ (List.mem_append_right _ (mem_pinsAt (by simp) hI)))
  exact hQ kv ku s' H' I2.unpinned e2 rk hk (FpOk.to fS pS.2.1) (FpOk.to fI pI.2.1) pS.1 pI.1

theorem min_loop (F : FnOk X.prog X.w X.K X.mg X.base CX0 k q fd ps sp) (hr : Room (k + 1) X.A) (hb : Binds X.K fd ps []) (hc : X.calm = true) (K : KeyOk X sp H1 xs dk Kp) (hl : H1 l = some (.lst xs)) (hSI : S ≠ I) (kw : List (Str × Value))
    (hR : ∀ v u s' H', xs[argBest (ltK dk) (xs.length - 1)]? = some v → RelV v u → Inv X pins σ H' s' → Ex H1 H' → R (.ok (.ret u)) s') :
    ∀ (r j : Nat) (H : Hp) (s : Shared) (vb kb : Value) (vv kv : V) (c : Nat), xs.length - (j + 1) = r → j + 1 ≤ xs.length → Inv X pins σ H s → Ex H1 H → FpOk X pins H S → FpOk X pins H I → s.heap.IsListIter I l (j + 1) →
      s.heap.get? S = some { cls := .type "list", dict := none, data := .seq #[vb, kb] c, slots := #[] } → xs[argBest (ltK dk) j]? = some vv → RelV vv vb → RelV kv kb → Kp (argBest (ltK dk) j) kv H →
      codeAny (model X.prog X.w) X.A (.builtin "min.loop" ⟨[.ref I, .ref q, .ref S], kw⟩) R s := by
  have hname : (toString "min" ++ toString ".loop" : String) = "min.loop" := by decide
  intro r
  induction r with
  | zero =>
    intro j H s vb kb vv kv c hr0 hj Iv e fS fI hit hS hm rv rk hk
    have hin : j + 1 = xs.length := by omega
    obtain ⟨its, rvs, pl, hz⟩ := Iv.list (sq_of (K := X.K) (e _ _ hl))
    have hlI : l ≠ I := ne_of_none (e _ _ hl) fI.1
    have W := Walks.list (prog := X.prog) (w := X.w) (A := X.A.in1) (Iv.ok.hd hc) I l hlI its.toArray
    have hsz : its.toArray.size = xs.length := by rw [List.size_toArray, ← rvs.length]
    refine codeAny_builtin PySem.F.entry_min_loop ?_
    rw [Around.under_plainId PySem.F.plain_min_loop _]
    show wpAny _ X.A.in1 (seqItems? (.ref S) >>= _) _ _ _
    refine wpAny_bind (wpAny_seqItems hS rfl ?_)
    show wpAny _ X.A.in1 (tryCatch (pyNext (.ref I)) _ >>= _) _ _ _
    refine wpAny_bind (wpAny_tryCatch (W.done _ _ _ ⟨by rw [hsz, ← hin]; exact hit, pl.isList⟩ fun h' tk' hk' => ?_))
    have hS' := hk' S _ (by simpa using hSI) hS
    have I1 : Inv X pins σ H { s with heap := h', toks := tk' } := Inv.moved Iv fI fun b o hb e => hk' b o (by simpa using hb) e
    show wpAny _ X.A.in1 (updateSeq S (fun _ => #[]) >>= _) _ _ _
    refine wpAny_bind ?_
    refine wpAny_updateSeq hS' rfl (wpAny_bind (wpAny_letGo (wpAny_pure ?_)))
    have I2 : Inv X pins σ H { s with heap := h'.update S (Obj.mapSeq fun _ => (#[] : Array Value)), toks := tk' } := Inv.moved (s := { s with heap := h', toks := tk' }) I1 fS fun b o hb e => (Heap.get?_update_other _ _ (fun z => hb z.symm)).trans e
    exact hR vv vb _ H (by rw [← hin]; exact hm) rv I2 e
  | succ r ih =>
    intro j H s vb kb vv kv c hr0 hj Iv e fS fI hit hS hm rv rk hk
    have hlt : j + 1 < xs.length := by omega
    obtain ⟨its, rvs, pl, hz⟩ := Iv.list (sq_of (K := X.K) (e _ _ hl))
    have hlI : l ≠ I := ne_of_none (e _ _ hl) fI.1
    have W := Walks.list (prog := X.prog) (w := X.w) (A := X.A.in1) (Iv.ok.hd hc) I l hlI its.toArray
    have hsz : its.toArray.size = xs.length := by rw [List.size_toArray, ← rvs.length]
    refine codeAny_builtin PySem.F.entry_min_loop ?_
    rw [Around.under_plainId PySem.F.plain_min_loop _]
    show wpAny _ X.A.in1 (seqItems? (.ref S) >>= _) _ _ _
    refine wpAny_bind (wpAny_seqItems hS rfl ?_)
    show wpAny _ X.A.in1 (tryCatch (pyNext (.ref I)) _ >>= _) _ _ _
    refine wpAny_bind (wpAny_tryCatch (W.item (j + 1) _ _ _ (by rw [hsz]; exact hlt) ⟨hit, pl.isList⟩ fun u h' tk' hP hst' hk' => ?_))
    have hS' := hk' S _ (by simpa using hSI) hS
    have I1 : Inv X pins σ H { s with heap := h', toks := tk' } := Inv.moved Iv fI fun b o hb e => hk' b o (by simpa using hb) e
    obtain ⟨oI, hoI, hoc, hod⟩ := id hst'.1
    have hxv : xs[j + 1]? = some xs[j + 1] := List.getElem?_eq_getElem hlt
    obtain ⟨u', hu', ru⟩ := rvs.get hxv
    have : u' = u := by
      have hP' : its[j + 1]? = some u := by simpa using hP
      rw [hu'] at hP'
      exact Option.some.inj hP'
    subst this
    show wpAny _ X.A.in1 (tryCatch (holding [u'] (call (.ref q) [u'])) _ >>= _) _ _ _
    refine wpAny_bind (wpAny_tryCatch (wpAny_holding (key_turn (s := { s with heap := h', toks := tk' }) (i := j + 1) F hr hb K I1 e fS fI hS' hoI (fun _ z => by cases z) (fun v z => by rw [hod] at z; cases z) hxv ru fun kv2 ku s2 H2 I2 e2 rk2 hk2 fS2 fI2 hS2 hI2 => ?_)))
    obtain ⟨asn, hrn⟩ := K.reads _ _ _ _ _ I2.hok hk2 rk2
    obtain ⟨aso, hro⟩ := K.reads _ _ _ _ _ I2.hok (K.mono _ _ _ _ e2 hk) rk
    have hmlt : argBest (ltK dk) j < xs.length := (List.getElem?_eq_some_iff.mp hm).1
    have hu : X.A.in1.units + min (dk (j + 1)).depth (dk (argBest (ltK dk) j)).depth < cLine := by
      have h1 := (hr.in1).units
      have h2 := K.deep (j + 1)
      have h3 := Nat.min_le_left (dk (j + 1)).depth (dk (argBest (ltK dk) j)).depth
      omega
    have rc := PySem.W.rcLt_alike _ _ X.A.in1 s2 ku kb _ _ hrn hro (K.alike _ _ hlt hmlt) (K.some_ _) hu
    have itS : s2.heap.IsListIter I l (j + 1 + 1) := ⟨oI, hI2, hoc, hod⟩
    show wpAny _ X.A.in1 (tryCatch (holding [u', ku] (richCompare .Lt ku kb >>= _)) _ >>= _) _ _ _
    refine wpAny_bind (wpAny_tryCatch (wpAny_holding (wpAny_bind (rc _ _ _ _ ?_))))
    refine wpAny_bind (wpAny_holding (wpAny_truthy_bool ?_))
    refine wpAny_bind (wpAny_letGo (wpAny_pure ?_))
    cases hbt : ltK dk (j + 1) (argBest (ltK dk) j) with
    | true =>
      have hbt' : PySem.W.dataLt (dk (j + 1)) (dk (argBest (ltK dk) j)) = true := hbt
      simp only [hbt', if_true]
      refine wpAny_bind ?_
      refine wpAny_updateSeq hS2 rfl (wpAny_bind (wpAny_letGo ?_))
      rw [hname]
      have I3 : Inv X pins σ H2 { s2 with heap := s2.heap.update S (Obj.mapSeq fun _ => #[u', ku]), toks := s2.toks } := Inv.moved I2 fS2 fun b o hb e => (Heap.get?_update_other _ _ (fun z => hb z.symm)).trans e
      have hab : argBest (ltK dk) (j + 1) = j + 1 := by
        show (if ltK dk (j + 1) (argBest (ltK dk) j) = true then j + 1 else argBest (ltK dk) j) = j + 1
        rw [if_pos hbt]
      refine wpAny_pure ⟨plainId_quiet PySem.F.plain_min_loop _, ih (j + 1) H2 _ u' ku (xs[j + 1]) kv2 _ (by omega) hlt I3 (e.trans e2) fS2 fI2 ?_ (Heap.get?_update_self _ hS2 rfl) (by rw [hab]; exact hxv) ru rk2 (by rw [hab]; exact hk2)⟩
      exact ⟨oI, (Heap.get?_update_other _ _ hSI).trans hI2, hoc, hod⟩
    | false =>
      have hbt' : PySem.W.dataLt (dk (j + 1)) (dk (argBest (ltK dk) j)) = false := hbt
      simp only [hbt', Bool.false_eq_true, if_false]
      refine wpAny_bind (wpAny_letGo ?_)
      rw [hname]
      have hab : argBest (ltK dk) (j + 1) = argBest (ltK dk) j := by
        show (if ltK dk (j + 1) (argBest (ltK dk) j) = true then j + 1 else argBest (ltK dk) j) = _
        rw [if_neg (by rw [hbt]; exact Bool.false_ne_true)]
      exact wpAny_pure ⟨plainId_quiet PySem.F.plain_min_loop _, ih (j + 1) H2 _ vb kb vv kv c (by omega) hlt I2 (e.trans e2) fS2 fI2 itS hS2 (by rw [hab]; exact hm) rv rk (by rw [hab]; exact K.mono _ _ _ _ e2 hk)⟩

theorem min_call {H : Hp} {s : Shared} {Q : VK} {E : Value → Shared → Prop} (F : FnOk X.prog X.w X.K X.mg X.base CX0 k q fd ps sp) (hr : Room (k + 1) X.A) (hb : Binds X.K fd ps []) (hc : X.calm = true) (Iv : Inv X pins σ H s) (K : KeyOk X sp H xs dk Kp) (hl : H l = some (.lst xs)) (hne : 0 < xs.length)
    (hQ : ∀ v H', xs[argBest (ltK dk) (xs.length - 1)]? = some v → Ex H H' → Q v H') :
    wpAny (model X.prog X.w) X.A (call (.builtin "min") [.ref l] [(Str.ofString "key", .ref q)]) (EP X pins σ Q) E s := by
  have hname : (toString "min" ++ toString ".loop" : String) = "min.loop" := by decide
  obtain ⟨its, rvs, pl, hz⟩ := Iv.list (sq_of (K := X.K) hl)
  refine PyProof.Rows.kmk_tree PySem.F.kind_min PySem.F.plain_min PySem.F.entry_min (PyProof.Rows.kmk_min_key _ _) ?_
  show wpAny _ X.A.in1 (Builtin.Builtins.bindParams "min" ["key", "default"] 0 ⟨[], [(Str.ofString "key", .ref q)]⟩ >>= _) _ _ s
  refine wpAny_bind (wpAny_of_eq (show Builtin.Builtins.bindParams "min" ["key", "default"] 0 ⟨[], [(Str.ofString "key", .ref q)]⟩ = pure [some (.ref q), none] from rfl) ?_)
  refine wpAny_bind (wpAny_pure ?_)
  refine wpAny_bind (wpAny_pyIter_list pl.isList ?_)
  have hs1 : (s.heap.push { cls := .type "list_iterator", data := .fields #[.ref l, .int 0 0] }).objs.size = s.heap.objs.size + 1 := size_push' ..
  refine wpAny_bind (wpAny_newObj_type ?_)
  rw [hname]
  have hSI : (s.heap.push { cls := .type "list_iterator", data := .fields #[.ref l, .int 0 0] }).objs.size ≠ s.heap.objs.size := by rw [hs1]; exact Nat.ne_of_gt (Nat.lt_succ_self _)
  have fI : FpOk X pins H s.heap.objs.size := Iv.fpOk (Nat.le_refl _) (Iv.hok.fresh (Nat.le_refl _))
  have fS : FpOk X pins H (s.heap.push { cls := .type "list_iterator", data := .fields #[.ref l, .int 0 0] }).objs.size := by
    rw [hs1]
    exact Iv.fpOk (Nat.le_succ _) (Iv.hok.fresh (Nat.le_succ _))
  refine wpAny_pure ⟨plainId_quiet PySem.F.plain_min_loop _, ?_⟩
  have gI : ((s.heap.push { cls := .type "list_iterator", data := .fields #[.ref l, .int 0 0] }).push { cls := .type "list", data := .seq #[] 0 }).get? s.heap.objs.size = some { cls := .type "list_iterator", data := .fields #[.ref l, .int 0 0] } :=
    Heap.get?_push_of_some _ (Heap.get?_push_size _ rfl)
  have gS : ((s.heap.push { cls := .type "list_iterator", data := .fields #[.ref l, .int 0 0] }).push { cls := .type "list", data := .seq #[] 0 }).get? (s.heap.push { cls := .type "list_iterator", data := .fields #[.ref l, .int 0 0] }).objs.size = some { cls := .type "list", data := .seq #[] 0 } := Heap.get?_push_size _ rfl
  have I0 : Inv X pins σ H { s with heap := (s.heap.push { cls := .type "list_iterator", data := .fields #[.ref l, .int 0 0] }).push { cls := .type "list", data := .seq #[] 0 }, toks := s.toks } := Iv.kept (t' := s.toks) fun b u e => Heap.get?_push_of_some _ (Heap.get?_push_of_some _ e)
  generalize hSe : (s.heap.push { cls := .type "list_iterator", data := .fields #[.ref l, .int 0 0] }).objs.size = S at *
  generalize hIe : s.heap.objs.size = I at *
  obtain ⟨its0, rvs0, pl0, hz0⟩ := I0.list (sq_of (K := X.K) hl)
  have hlI : l ≠ I := ne_of_none hl fI.1
  have W := Walks.list (prog := X.prog) (w := X.w) (A := X.A.in1) (Iv.ok.hd hc) I l hlI its0.toArray
  have hsz : its0.toArray.size = xs.length := by rw [List.size_toArray, ← rvs0.length]
  refine codeAny_builtin PySem.F.entry_min_loop ?_
  rw [Around.under_plainId PySem.F.plain_min_loop _]
  show wpAny _ X.A.in1 (seqItems? (.ref _) >>= _) _ _ _
  refine wpAny_bind (wpAny_seqItems gS rfl ?_)
  show wpAny _ X.A.in1 (tryCatch (pyNext (.ref I)) _ >>= _) _ _ _
  refine wpAny_bind (wpAny_tryCatch (W.item 0 _ _ _ (by rw [hsz]; exact hne) ⟨⟨_, gI, rfl, rfl⟩, pl0.isList⟩ fun u h' tk' hP hst' hk' => ?_))
  have hS' := hk' S _ (by simpa using hSI) gS
  have I1 : Inv X pins σ H { s with heap := h', toks := tk' } := Inv.moved (s := { s with heap := (s.heap.push { cls := .type "list_iterator", data := .fields #[.ref l, .int 0 0] }).push { cls := .type "list", data := .seq #[] 0 }, toks := s.toks }) I0 fI fun b o hb e => hk' b o (by simpa using hb) e
  obtain ⟨oI, hoI, hoc, hod⟩ := id hst'.1
  have hxv : xs[0]? = some xs[0] := List.getElem?_eq_getElem hne
  obtain ⟨u', hu', ru⟩ := rvs0.get hxv
  have : u' = u := by
    have hP' : its0[0]? = some u := by simpa using hP
    rw [hu'] at hP'
    exact Option.some.inj hP'
  subst this
  show wpAny _ X.A.in1 (tryCatch (holding [u'] (call (.ref q) [u'])) _ >>= _) _ _ _
  refine wpAny_bind (wpAny_tryCatch (wpAny_holding (key_turn (s := { s with heap := h', toks := tk' }) (i := 0) F hr hb K I1 (Ex.refl _) fS fI hS' hoI (fun _ z => by cases z) (fun v z => by rw [hod] at z; cases z) hxv ru fun kv2 ku s2 H2 I2 e2 rk2 hk2 fS2 fI2 hS2 hI2 => ?_)))
  show wpAny _ X.A.in1 (updateSeq S (fun _ => #[u', ku]) >>= _) _ _ _
  refine wpAny_bind ?_
  refine wpAny_updateSeq hS2 rfl ?_
  rw [hname]
  have I3 : Inv X pins σ H2 { s2 with heap := s2.heap.update S (Obj.mapSeq fun _ => #[u', ku]), toks := s2.toks } := Inv.moved I2 fS2 fun b o hb e => (Heap.get?_update_other _ _ (fun z => hb z.symm)).trans e
  refine wpAny_pure ⟨plainId_quiet PySem.F.plain_min_loop _, min_loop (H1 := H) F hr hb hc K hl hSI [] (fun v u s' H' h1 h2 h3 h4 => ⟨v, H', h3, h2, hQ v H' h1 h4⟩) _ 0 H2 _ u' ku (xs[0]) kv2 _ rfl hne I3 e2 fS2 fI2 ?_ (Heap.get?_update_self _ hS2 rfl) hxv ru rk2 hk2⟩
  exact ⟨oI, (Heap.get?_update_other _ _ hSI).trans hI2, hoc, hod⟩
end
def adOf : Option Value → Addr
  | some (.ref a) => a
  | _ => 0
def rMinKey (X : Cx) (x : Str) (sp : Sp) : List V → List V → Hp → VK → Prop := fun vs zs H Q => zs = [.ref (adOf (X.mg x))] ∧ ∃ (l : Addr) (xs : List V) (dk : Nat → PyData) (Kp : Nat → V → Hp → Prop), vs = [.ref l] ∧ H l = some (.lst xs) ∧ 0 < xs.length ∧ KeyOk X sp H xs dk Kp ∧
  ∀ v H', xs[argBest (ltK dk) (xs.length - 1)]? = some v → Ex H H' → Q v H'
def tMinKey (X : Cx) (x : Str) (sp : Sp) (te : TE) : TE := tCKw (rMinKey X x sp) (tCons te tNil) (tCons (tC (.ref (adOf (X.mg x)))) tNil)
theorem pe_minKey {X : Cx} {k j : Nat} {x : Str} {sp : Sp} {e : Expr} {te : TE} {p p2 p3 pos : Pos} (c : C8.Cal X.prog X.w X.K X.mg X.base k x sp []) (hr : Room j X.A) (hk : k + 1 ≤ j) (hg : Gl X "min") (hm : X.mg "min" = none) (hg2 : Gl X x) (hc : X.calm = true) (he : PE X e te)
    (hdx : (x == ("__debug__" : Str)) = false := by decide)
    (h1 : backTo pos (starEach [e] X.env) = (false, eval e X.env) :: backTo pos (starEach [] X.env) := by rfl) (hpl : (backTo pos (starEach [e] X.env)).any (·.1) = false := by rfl)
    (hall : (backToKw pos (keywordEach [⟨some (Str.ofString "key"), .Name x p2, p3⟩] X.env)).all (·.1.isSome) = true := by rfl) (hnone : (backToKw pos (keywordEach [⟨some (Str.ofString "key"), .Name x p2, p3⟩] X.env)).any (·.1.isNone) = false := by rfl) (hks : (backToKw pos (keywordEach [⟨some (Str.ofString "key"), .Name x p2, p3⟩] X.env)).filterMap (·.1) = [Str.ofString "key"] := by rfl)
    (hse : starEach [e] X.env = (false, eval e X.env) :: starEach [] X.env := by rfl) :
    PE X (.Call (.Name "min" p) [e] [⟨some (Str.ofString "key"), .Name x p2, p3⟩] pos) (tMinKey X x sp te) := by
  obtain ⟨f, fd, ps, ds, F, hmx, kp, b, d⟩ := c.ex
  cases d
  have ef : adOf (X.mg x) = f := by rw [hmx]; rfl
  have cr : CallRK X (.builtin "min") [Str.ofString "key"] (rMinKey X x sp) := by
    intro pins s σ H vs zs us ws Q I r rz h
    obtain ⟨rfl, l, xs, dk, Kp, rfl, hl, hne, K, hQ⟩ := h
    obtain rfl := Vals.ref1 r
    obtain rfl := Vals.ref1 rz
    rw [ef]
    exact min_call (F.mono (Nat.le_refl _)) (hr.mono hk) b hc I K hl hne hQ
  exact pe_callBK (pos := pos) (p := p) (es := []) cr hg hm PyProof.Rows.boot_min (pa_cons he pa_nil hse) (pk_cons (kpos := p3) (nm := some (Str.ofString "key")) (pe_glob (pos := p2) hg2 hmx (by rw [ef]; rfl) hdx) pk_nil) (by decide) (by decide) h1 hpl hall hnone hks
end TB

namespace TB
open PySem PySem.Spec PyProof.Rows L2 Evl TimberAuction TBM
open C8 (pe_c pe_mk pe_mt pe_mt0)
/-! ### for i, x in enumerate(xs) -/
section
variable {K : PySem.W.Frag} {σ : L2.St} {H : Hp} {D : Ends} {tu tz : TS} {g : TG}
theorem q_forEnum {a : Addr} {xs : List V} {ta : TA} (h : EvA ta σ H [.ref a]) (hx : SqL K H a xs) (Pv : Nat → L2.St → Hp → Prop) (h0 : ∀ H1, Ex H H1 → Pv 0 σ H1) (hl : ∀ i σ' H', i ≤ xs.length → Pv i σ' H' → SqL K H' a xs)
    (hs : ∀ i x T σ' H', xs[i]? = some x → Pv i σ' H' → H' T = none → g (.ref T) σ' (upd H' T (.tup [.int (i : Nat), x])) fun σ2 H2 => tu { D with nx := Pv (i + 1), ct := Pv (i + 1), bk := tz D } σ2 H2) (hd : ∀ σ' H', Pv xs.length σ' H' → tz D σ' H') : tSeq (tFor (iEnum K ta) g tu) tz D σ H :=
  h H (Ex.refl H) _ fun H1 e => ⟨a, xs, rfl, ex_l e hx, fun i m σ H => m = xs.length - i ∧ i ≤ xs.length ∧ Pv i σ H, ⟨xs.length, by simp, Nat.zero_le _, h0 H1 e⟩, by
    rintro i m σ H ⟨rfl, hi, p⟩
    have q := hl i σ H hi p
    by_cases hlt : i < xs.length
    · refine .inr ⟨⟨xs, xs[i], q, by simp [hlt]⟩, Pv (i + 1), fun σ' H' p' => ⟨xs.length - (i + 1), by omega, rfl, hlt, p'⟩, fun x H' y => ?_⟩
      obtain ⟨T, x', rfl, hT, rfl, f⟩ := y
      exact hs i x' T σ H (f xs q) p hT
    · have e : i = xs.length := by omega
      subst e
      exact .inl ⟨⟨xs, q, Nat.le_refl _⟩, hd σ H p⟩⟩
end
theorem All2.append {α β : Type} {R : α → β → Prop} {as as' : List α} {bs bs' : List β} (h : All2 (fun _ => R) as bs) (h' : All2 (fun _ => R) as' bs') : All2 (fun _ => R) (as ++ as') (bs ++ bs') := by
  refine ⟨by simp [h.1, h'.1], fun i a b ha hb => ?_⟩
  by_cases hi : i < as.length
  · rw [List.getElem?_append_left hi] at ha
    rw [List.getElem?_append_left (by rw [← h.1]; exact hi)] at hb
    exact h.2 i a b ha hb
  · rw [List.getElem?_append_right (by omega)] at ha
    rw [List.getElem?_append_right (by rw [← h.1]; omega), ← h.1] at hb
    exact h'.2 _ a b ha hb
theorem gen_len (s : Sale) : ∀ k, (gen s k).length ≤ 2 ^ k
  | 0 => by simp [gen]
  | k + 1 => by
    have ih := gen_len s k
    unfold gen
    split
    · rw [List.length_append, List.length_map]
      have := List.length_filter_le (fun l => (s.violation (l ++ [k])).isNone) (gen s k)
      rw [Nat.pow_succ]
      omega
    · rw [Nat.pow_succ]
      omega
theorem gen_len12 {s : Sale} (o : SaleOk s) {k : Nat} (h : k ≤ s.bids.length) : (gen s k).length ≤ 4096 := by
  have h1 := gen_len s k
  have h2 : 2 ^ k ≤ 2 ^ 12 := Nat.pow_le_pow_right (by decide) (Nat.le_trans h o.bidsLen)
  omega
theorem mem_gen_len {s : Sale} {k : Nat} {l : List Nat} (h : l ∈ gen s k) : l.length ≤ k := by
  have := ((mem_gen s).mp h).1.length_le
  have h2 := List.length_filter_le (fun n => s.isAdmissible (s.bid n)) (List.range k)
  rw [List.length_range] at h2
  omega
theorem takenOf_nil (s : Sale) : takenOf s [] = List.replicate s.lots.length false := by
  unfold takenOf
  rw [← List.length_range (n := s.lots.length), List.length_range]
  apply List.ext_getElem
  · simp
  · intro i h1 h2
    simp [Sale.bidsWithLot]
theorem roomOf_nil {s : Sale} (o : SaleOk s) : roomOf s [] = s.limits := by
  apply List.ext_getElem?
  intro n
  by_cases h : n < 16
  · rw [room_get h]
    have hl : n < s.limits.length := by rw [o.limLen]; exact h
    rw [List.getElem?_eq_getElem hl, List.getD_eq_getElem?_getD, List.getElem?_eq_getElem hl]
    rfl
  · rw [List.getElem?_eq_none (by rw [room_len]; omega), List.getElem?_eq_none (by rw [o.limLen]; omega)]
theorem rep_one {α : Type} (n : Nat) (x : α) : (List.replicate n [x]).flatten = List.replicate n x := by
  induction n with
  | zero => rfl
  | succ n ih =>
    rw [List.replicate_succ, List.flatten_cons, ih, List.replicate_succ]
    rfl
section
variable {P : Program} {w : World} {K : PySem.W.Frag} {mg : Str → Option Value} {base : Heap} {A : Ad}
/-! ### all_selections -/
/-- a selection none of whose parts is Dl -/
def SelX (A : Ad) (Dl : Addr) (B : Addr → Prop) (H : Hp) (s : Sale) (a : Addr) (l : List Nat) : Prop := ∃ dx na ta ra, SelR A H s a l dx na ta ra ∧ a ≠ Dl ∧ na ≠ Dl ∧ ta ≠ Dl ∧ ra ≠ Dl ∧ B a ∧ B na ∧ B ta ∧ B ra
theorem SelX.sel {Dl : Addr} {B : Addr → Prop} {H : Hp} {s : Sale} {a : Addr} {l : List Nat} (h : SelX A Dl B H s a l) : SelF A B H s a l := by
  obtain ⟨dx, na, ta, ra, h, _, _, _, _, r⟩ := h
  exact ⟨dx, na, ta, ra, h, r⟩
theorem SelX.ex {Dl : Addr} {B : Addr → Prop} {H H' : Hp} {s : Sale} {a : Addr} {l : List Nat} (h : SelX A Dl B H s a l) (e : Ex H H') : SelX A Dl B H' s a l := by
  obtain ⟨dx, na, ta, ra, h, r⟩ := h
  exact ⟨dx, na, ta, ra, ⟨e _ _ h.at_, e _ _ h.nums, e _ _ h.taken, e _ _ h.room⟩, r⟩
theorem SelX.upd {Dl : Addr} {B : Addr → Prop} {H H' : Hp} {s : Sale} {a : Addr} {l : List Nat} {o : HO} (h : SelX A Dl B H s a l) (e : Ex H H') : SelX A Dl B (L2.upd H' Dl o) s a l := by
  obtain ⟨dx, na, ta, ra, h, n0, n1, n2, n3, r⟩ := h
  exact ⟨dx, na, ta, ra, ⟨by rw [upd_ne n0]; exact e _ _ h.at_, by rw [upd_ne n1]; exact e _ _ h.nums, by rw [upd_ne n2]; exact e _ _ h.taken, by rw [upd_ne n3]; exact e _ _ h.room⟩, n0, n1, n2, n3, r⟩
def R_all_selections (A : Ad) : List V → Hp → (V → Hp → Prop) → Prop := fun vs H Pz => ∃ a τ s, vs = [.ref a] ∧ SaleAt A τ H a s ∧ SaleOk s ∧
  Pz = fun v H2 => ∃ p, v = .ref p ∧ FoundF A (fun b => H b = none) H2 s p (gen s s.bids.length)
theorem c_all_selections (T : Txt K mg A) : C8.Cal P w K mg base 5 "all_selections" (spP (R_all_selections A)) [] := by
  have m_Selection : C8.Mak P w K mg base 1 "Selection" A.Selection (spInit A.Selection 4 fSelL) [] := m_Selection T
  have c_is_admissible : C8.Cal P w K mg base 1 "is_admissible" (spV (R_is_admissible A)) [] := c_is_admissible T
  have c_fits : C8.Cal P w K mg base 1 "fits" (spV (R_fits A)) [] := c_fits T
  have c_joined : C8.Cal P w K mg base 3 "joined" (spP (R_joined A)) [] := c_joined T
  refine calOf T.d_all_selections sc_all_selections (fun _ _ _ _ _ _ us hl => match us, hl with | [_], _ => rfl) (fun vs H Q E h => ?_) (fun f cdv Ar outer st H vs Q E hr h => ?_)
  · obtain ⟨_, ⟨a, τ, s, rfl, _⟩, _⟩ := h
    rfl
  · obtain ⟨_, ⟨a, τ, s, rfl, ⟨dx, loA, bdA, liA, las, bas, hs⟩, ok, rfl⟩, kQ⟩ := h
    refine ⟨_, (pss_cons (ps_set (i := 1) sc_all_selections.nd rfl (Or.inl rfl) (pe_lst (pa_cons (pe_mk m_Selection hr (by decide) (by rfl) (pa_cons (pe_lst pa_nil) (pa_cons pe_int (pa_cons (pe_op op_rep (pe_lst (pa_cons pe_bl pa_nil)) (pe_callB call_len_seq (by rfl) T.b_len boot_len (pa_cons (pe_fld (pv 0) rfl) pa_nil))) (pa_cons (pe_callTy call_list_of (by rfl) T.b_list (by decide +kernel) (pa_cons (pe_fld (pv 0) rfl) pa_nil)) pa_nil))))) pa_nil)))
        (pss_cons (ps_for PassesOwn.never rfl (pi_enum (by rfl) T.b_enumerate (pa_cons (pe_fld (pv 0) rfl) pa_nil)) (pg_tup rfl (pgs_cons (pg_name (i := 2) sc_all_selections.nd rfl (Or.inr rfl)) (pgs_cons (pg_name (i := 3) sc_all_selections.nd rfl (Or.inr rfl)) pgs_nil))) (pss_one (ps_if (pt_val (pe_c c_is_admissible hr (by decide) (by rfl) (pa_cons (pv 3) pa_nil))) (pss_one (ps_set (i := 1) sc_all_selections.nd rfl (Or.inl rfl) (pe_op op_cat (pv 1) (pe_lc (own := [("chosen", 4)])  rfl sc_all_selections.nd (pi_list (pv 1)) (blkOk_by (own := [("chosen", 4)]) (N := ["sale", "found", "number", "bid", "chosen"]) (sc := defScope s_all_selections) (by decide +kernel)) (fun _ _ _ _ _ => (pg_name (i := 4) sc_all_selections.nd rfl (Or.inl rfl))) (fun _ _ _ _ _ => (pts_one (pt_val (pe_c c_fits hr (by decide) (by rfl) (pa_cons (pv 4) (pa_cons (pv 3) pa_nil)))))) (fun _ _ _ _ _ => (pe_c c_joined hr (by decide) (by rfl) (pa_cons (pv 4) (pa_cons (pv 2) (pa_cons (pv 3) pa_nil))))))))) pss_nil)))
        (pss_one (ps_ret (pv 1))))), ?_⟩
    -- found = [Selection([], 0, [False] * len(sale.lots), list(sale.limits))]
    refine seq_run (asg_run (lst_run (cons_run (make_run (cons_run ((el_lst ea_nil (by decide)) H (Ex.refl _) _ fun p0 H1 np0 e1 hp0 => ?_))))))
    refine cons_run (c_run ?_)
    refine cons_run (op_run ((el_lst (ea_cons ev_c ea_nil) (by show 1 ≤ 100000; decide)) H1 (Ex.refl _) _ fun q0 H2 nq0 e2 hq0 => ?_))
    refine (ev_len (ev_fld (ev_var rfl) (e2 _ _ (e1 _ _ hs.at_)) T.cl_Sale T.n_Sale_lots lk_Sale_lots) (sq_of (e2 _ _ (e1 _ _ hs.lo)))) H2 (Ex.refl _) _ fun H3 e3 => ?_
    refine ⟨q0, _, [.bl false], rfl, rfl, e3 _ _ hq0, ?_, ?_, ?_, fun q1 nq1 => ?_⟩
    · omega
    · rw [rL_len, hs.lots.1]
      have := ok.lotsLen
      omega
    · rw [rL_len, hs.lots.1]
      have := ok.lotsLen
      refine sz_of ?_
      simp
      omega
    rw [rep_one, rL_len, hs.lots.1, Int.toNat_natCast]
    have e4 : Ex H (upd H3 q1 (.lst (List.replicate s.lots.length (V.bl false)))) := ((e1.trans e2).trans e3).trans (Ex.new nq1)
    have h4 : (upd H3 q1 (.lst (List.replicate s.lots.length (V.bl false)))) q1 = some (.lst (List.replicate s.lots.length (V.bl false))) := upd_same
    have h4p : (upd H3 q1 (.lst (List.replicate s.lots.length (V.bl false)))) p0 = some (.lst []) := by
      rw [upd_ne (ne_of_none (e3 _ _ (e2 _ _ hp0)) nq1)]
      exact e3 _ _ (e2 _ _ hp0)
    generalize (upd H3 q1 (.lst (List.replicate s.lots.length (V.bl false)))) = H4 at e4 h4 h4p
    refine cons_run ((el_list (ev_fld (ev_var rfl) (e4 _ _ hs.at_) T.cl_Sale T.n_Sale_limits lk_Sale_limits) (sq_of (e4 _ _ hs.li))) H4 (Ex.refl _) _ fun q2 H5 nq2 e5 hq2 => ?_)
    refine nil_run fun x xd hx hxd ne => ?_
    refine mk_run2 rfl hx hxd ne fun H6 e6 h6 => nil_run ?_
    refine ⟨by show 1 ≤ sizeLine; decide, fun p1 np1 => ?_⟩
    have e7 : Ex H6 (upd H6 p1 (.lst [.ref x])) := Ex.new np1
    have h7 : (upd H6 p1 (.lst [.ref x])) p1 = some (.lst [.ref x]) := upd_same
    generalize (upd H6 p1 (.lst [.ref x])) = H7 at e7 h7
    have f0 : FoundF A (fun b => H b = none) H7 s p1 (gen s 0) := by
      refine ⟨[x], h7, fresh_back ((e4.trans e5).trans e6) np1, rfl, fun i a l ha hl => ?_⟩
      have : i = 0 := by
        have := (List.getElem?_eq_some_iff.mp ha).1
        simpa using this
      subst this
      cases ha
      cases hl
      refine ⟨xd, p0, q1, q2, ⟨e7 _ _ h6, e7 _ _ (e6 _ _ (e5 _ _ h4p)), ?_, ?_⟩, fresh_back (e4.trans e5) hx, np0, fresh_back ((e1.trans e2).trans e3) nq1, fresh_back e4 nq2⟩
      · rw [takenOf_nil, List.map_replicate]
        exact e7 _ _ (e6 _ _ (e5 _ _ h4))
      · rw [roomOf_nil ok]
        exact e7 _ _ (e6 _ _ hq2)
    have e8 : Ex H H7 := ((e4.trans e5).trans e6).trans e7
    -- the loop over the bids
    refine q_forEnum (xs := rL bas) (ea_cons (ev_fld (ev_var rfl) (e8 _ _ hs.at_) T.cl_Sale T.n_Sale_bids lk_Sale_bids) ea_nil) (sq_of (e8 _ _ hs.bd))
      (fun i σ' H' => ∃ p y2 y3, σ' = [some (.ref a), some (.ref p), y2, y3, none] ∧ Ex H H' ∧ FoundF A (fun b => H b = none) H' s p (gen s i)) (fun H8 e9 => ⟨p1, none, none, rfl, e8.trans e9, f0.ex e9⟩) (fun i σ' H' _ ⟨_, _, _, _, e, _⟩ => ex_l e (sq_of hs.bd)) ?_ ?_
    · rintro i z Tp σ' H8 hz ⟨p, y2, y3, rfl, e9, ⟨fas, hf, hBp, hfa⟩⟩ nT
      obtain ⟨ba, hba, rfl⟩ : ∃ n, bas[i]? = some n ∧ z = .ref n := by
        unfold rL at hz
        rw [List.getElem?_map] at hz
        obtain ⟨n, h1, h2⟩ := Option.map_eq_some_iff.mp hz
        exact ⟨n, h1, h2.symm⟩
      obtain ⟨b, hb, hbat⟩ := hs.bids.getL hba
      have eb := bid_at hb
      have okb := ok.bidAt hb
      have hi : i < s.bids.length := (List.getElem?_eq_some_iff.mp hb).1
      refine ⟨Tp, [.int (i : Nat), .ref ba], rfl, .inl (.inl upd_same), rfl, .int (i : Nat), [.ref ba], rfl, .ref ba, [], rfl, rfl, ?_⟩
      have e10 : Ex H8 (upd H8 Tp (.tup [.int (i : Nat), .ref ba])) := Ex.new nT
      generalize (upd H8 Tp (.tup [.int (i : Nat), .ref ba])) = H9 at e10
      have hb9 : BidAt A τ H9 s i ba b := hbat.ex (e9.trans e10)
      have hf9 : H9 p = some (.lst (rL fas)) := e10 _ _ hf
      have hfa9 : All2 (fun _ a l => SelF A (fun b => H b = none) H9 s a l) fas (gen s i) := hfa.imp fun _ _ _ _ _ r => r.ex e10
      refine s_when (b := s.isAdmissible b) (et_B (ev_callV (ea_cons (ev_var rfl) ea_nil) fun H10 e11 => ⟨ba, τ, s, i, b, rfl, hb9.ex e11, rfl⟩)) (fun hadm H10 e11 => ?_) (fun hadm H10 e11 => ?_)
      · -- found = found + [..]
        have e12 : Ex H H10 := (e9.trans e10).trans e11
        have hf10 : H10 p = some (.lst (rL fas)) := e11 _ _ hf9
        have hfa10 : All2 (fun _ a l => SelF A (fun b => H b = none) H10 s a l) fas (gen s i) := hfa9.imp fun _ _ _ _ _ r => r.ex e11
        have hb10 : BidAt A τ H10 s i ba b := hb9.ex e11
        refine ⟨_, rfl, .ref p, rfl, p, rfl, ⟨_, sq_of hf10⟩, fun Dl nD => ?_⟩
        refine lc_list (xs := rL fas) (fun j H' => Ex H10 H' ∧ ∃ nas, H' Dl = some (.lst (rL nas)) ∧ nas.length ≤ j ∧ All2 (fun _ a l => SelX A Dl (fun b => H b = none) H' s a l) nas ((((gen s i).take j).filter fun l => (s.violation (l ++ [i])).isNone).map (· ++ [i]))) ⟨Ex.new nD, [], upd_same, Nat.le_refl _, .nil⟩ (fun j H' _ ⟨e, _⟩ => ex_l e (sq_of hf10)) ?_ ?_
        · rintro j xv H' hxv ⟨e13, nas, hnas, hnl, hall⟩
          obtain ⟨fa, hfa', rfl⟩ : ∃ n, fas[j]? = some n ∧ xv = .ref n := by
            unfold rL at hxv
            rw [List.getElem?_map] at hxv
            obtain ⟨n, h1, h2⟩ := Option.map_eq_some_iff.mp hxv
            exact ⟨n, h1, h2.symm⟩
          obtain ⟨l, hl, hselF⟩ := hfa10.getL hfa'
          have hsel := hselF.at_
          have hlm : l ∈ gen s i := List.mem_of_getElem? hl
          have hlv : s.violation l = none := ((mem_gen s).mp hlm).2
          have hlj : j < fas.length := (List.getElem?_eq_some_iff.mp hfa').1
          have hfl : fas.length ≤ 4096 := by
            rw [hfa.1]
            exact gen_len12 ok (by omega)
          refine ⟨rfl, ?_⟩
          refine (et_B (b := (s.violation (l ++ [i])).isNone) (ev_callV (ea_cons (ev_var rfl) (ea_cons (ev_var rfl) ea_nil)) fun H11 e14 => ⟨fa, ba, τ, s, i, l, b, rfl, (hsel.ex e13).ex e14, (hb10.ex e13).ex e14, hb, okb, hlv, hadm, rfl⟩)) H' (Ex.refl _) _ fun H11 e14 => ?_
          rw [take_snoc hl, List.filter_append]
          refine ite2 (fun hv => ?_) (fun hv => ?_)
          · have hvn : s.violation (l ++ [i]) = none := Option.isNone_iff_eq_none.mp hv
            refine ⟨_, rfl, _, rfl, _, rfl, _, ⟨fa, ba, τ, s, i, l, b, rfl, (hsel.ex e13).ex e14, (hb10.ex e13).ex e14, hb, okb, hvn, ?_, rfl⟩, ?_⟩
            · have := mem_gen_len hlm
              have := ok.bidsLen
              omega
            · rintro v H12 e15 ⟨np, rfl, hnp⟩
              refine ⟨_, e15 _ _ (e14 _ _ hnas), ?_, ?_⟩
              · rw [rL_len]
                exact sz_lt (by omega)
              · have eD : Ex H10 (upd H12 Dl (.lst (rL nas ++ [.ref np]))) := Ex.mut ((e13.trans e14).trans e15) nD
                obtain ⟨ndx, nna, nta, nra, hnR, f0', f1, f2, f3⟩ := hnp
                have eB : Ex H H11 := (e12.trans e13).trans e14
                have hD11 : H11 Dl = some (.lst (rL nas)) := e14 _ _ hnas
                refine ⟨eD, nas ++ [np], ?_, by simp; omega, ?_⟩
                · rw [upd_same]
                  unfold rL
                  rw [List.map_append]
                  rfl
                · rw [List.filter_cons, if_pos hv, List.filter_nil, List.map_append]
                  refine All2.append (hall.imp fun _ _ _ _ _ r => r.upd (e14.trans e15)) ?_
                  refine All2.nil.snoc (x := np) (y := l ++ [i]) ?_
                  have n0 : np ≠ Dl := fun z => by
                    have := hnR.at_
                    rw [z, e15 _ _ hD11] at this
                    cases this
                  have n1 : nna ≠ Dl := fun z => by rw [z, hD11] at f1; cases f1
                  have n2 : nta ≠ Dl := fun z => by rw [z, hD11] at f2; cases f2
                  have n3 : nra ≠ Dl := fun z => by rw [z, hD11] at f3; cases f3
                  exact ⟨ndx, nna, nta, nra, ⟨by rw [upd_ne n0]; exact hnR.at_, by rw [upd_ne n1]; exact hnR.nums, by rw [upd_ne n2]; exact hnR.taken, by rw [upd_ne n3]; exact hnR.room⟩, n0, n1, n2, n3, fresh_back eB f0', fresh_back eB f1, fresh_back eB f2, fresh_back eB f3⟩
          · refine ⟨e13.trans e14, nas, e14 _ _ hnas, by omega, ?_⟩
            rw [List.filter_cons, if_neg hv, List.filter_nil, List.append_nil]
            exact hall.imp fun _ _ _ _ _ r => r.ex e14
        · rintro H' ⟨e13, nas, hnas, hnl, hall⟩
          have hgl := gen_len12 ok (k := i) (by omega)
          rw [rL_len, hfa10.1] at hnl
          refine ⟨p, Dl, rL fas, rL nas, rfl, rfl, e13 _ _ hf10, hnas, ?_, fun r nr => ?_⟩
          · rw [rL_len, rL_len, hfa10.1]
            exact sz_of (by omega)
          · refine ⟨r, _, _, rfl, (e12.trans e13).trans (Ex.new nr), fas ++ nas, ?_, fresh_back (e12.trans e13) nr, ?_⟩
            · rw [upd_same]
              unfold rL
              rw [List.map_append]
            · have : gen s (i + 1) = gen s i ++ ((gen s i).filter fun l => (s.violation (l ++ [i])).isNone).map (· ++ [i]) := by
                show (if s.isAdmissible (s.bid i) = true then _ else gen s i) = _
                rw [eb, if_pos hadm]
              rw [this]
              rw [rL_len, hfa10.1, List.take_length] at hall
              exact All2.append (hfa10.imp fun _ _ _ _ _ q => (q.ex e13).ex (Ex.new nr)) (hall.imp fun _ _ _ _ _ q => q.sel.ex (Ex.new nr))
      · refine ⟨p, _, _, rfl, (e9.trans e10).trans e11, fas, e11 _ _ hf9, hBp, ?_⟩
        have : gen s (i + 1) = gen s i := by
          show (if s.isAdmissible (s.bid i) = true then _ else gen s i) = gen s i
          rw [eb, if_neg (by rw [hadm]; exact Bool.false_ne_true)]
        rw [this]
        exact hfa9.imp fun _ _ _ _ _ r => r.ex e11
    · rintro σ' H8 ⟨p, y2, y3, rfl, e9, hf⟩
      rw [rL_len, hs.bids.1] at hf
      exact s_ret (ev_var rfl) fun H9 e10 => kQ _ H9 (e9.trans e10) ⟨p, rfl, hf.ex e10⟩
end
end TB

namespace TB
open PySem PySem.Spec PyProof.Rows L2 Evl TimberAuction TBM
open C8 (pe_c pe_mk pe_mt pe_mt0)
section
variable {P : Program} {w : World} {K : PySem.W.Frag} {mg : Str → Option Value} {base : Heap} {A : Ad}
/-! ### rank -/
def RankAt (H : Hp) (s : Sale) (v : V) (l : List Nat) : Prop := ∃ p na, v = .ref p ∧ H p = some (.tup [.int (-(s.totalValue l : Int)), .int (l.length : Int), .ref na]) ∧ H na = some (.lst (iL l))
def R_rank (A : Ad) : List V → Hp → (V → Hp → Prop) → Prop := fun vs H Pz => ∃ c s l, vs = [.ref c] ∧ SelAt A H s c l ∧ Pz = fun v H2 => RankAt H2 s v l
theorem c_rank (T : Txt K mg A) : C8.Cal P w K mg base 1 "rank" (spP (R_rank A)) [] := by
  refine calOf T.d_rank sc_rank (fun _ _ _ _ _ _ us hl => match us, hl with | [_], _ => rfl) (fun vs H Q E h => ?_) (fun f cdv Ar outer st H vs Q E hr h => ?_)
  · obtain ⟨_, ⟨c, s, l, rfl, _⟩, _⟩ := h
    rfl
  · obtain ⟨_, ⟨c, s, l, rfl, ⟨dx, na, ta, ra, hc⟩, rfl⟩, kQ⟩ := h
    refine ⟨_, (pss_one (ps_ret (pe_tup (pa_cons (pe_un un_neg (pe_fld (pv 0) rfl)) (pa_cons (pe_callB call_len_seq (by rfl) T.b_len boot_len (pa_cons (pe_fld (pv 0) rfl) pa_nil)) (pa_cons (pe_fld (pv 0) rfl) pa_nil)))))), ?_⟩
    refine s_retU (eu_tup (ea_cons (ev_un (ev_fld (ev_var rfl) hc.at_ T.cl_Selection T.n_Selection_value lk_Selection_value) ru_neg) (ea_cons (ev_len (ev_fld (ev_var rfl) hc.at_ T.cl_Selection T.n_Selection_numbers lk_Selection_numbers) (sq_of hc.nums)) (ea_cons (ev_fld (ev_var rfl) hc.at_ T.cl_Selection T.n_Selection_numbers lk_Selection_numbers) ea_nil))) (by show 3 ≤ 100000; decide)) fun p H1 np e1 hp => ?_
    refine kQ _ H1 e1 ⟨p, na, rfl, ?_, e1 _ _ hc.nums⟩
    rw [hp, iL_len]
/-! ### best_of -/
theorem reads_nums {h : Heap} : ∀ {l : List Nat} {us : List Value}, Vals (iL l) us → ∃ as, ReadsAll h us (l.map nD) as
  | [], _, .nil => ⟨[], .nil⟩
  | n :: l, _, .cons r t => by
    obtain ⟨k, rfl⟩ := r
    obtain ⟨as, ih⟩ := reads_nums (l := l) t
    exact ⟨_, .cons (.int _ _) ih⟩
theorem rank_reads {h : Heap} {H : Hp} {s : Sale} {l : List Nat} {v : V} {u : Value} (ok : HOk P w H h) (r : RankAt H s v l) (rv : RelV v u) : ∃ as, Reads h u (keyD s l) as := by
  obtain ⟨p, na, rfl, hp, hn⟩ := r
  cases rv
  obtain ⟨_, its, rt, o, ho, hc, n, hd⟩ := ok _ _ hp
  obtain ⟨_, its2, n2, rl, hl⟩ := ok _ _ hn
  cases rt with
  | cons r1 rt =>
    cases rt with
    | cons r2 rt =>
      cases rt with
      | cons r3 rt =>
        cases rt
        obtain ⟨t1, rfl⟩ := r1
        obtain ⟨t2, rfl⟩ := r2
        cases r3
        obtain ⟨as, hra⟩ := reads_nums (h := h) rl
        exact ⟨_, .tuple ho hc hd (.cons (.int _ _) (.cons (.int _ _) (.cons (.list hl rfl rfl (by simpa using hra)) .nil)))⟩
theorem gen_pos (s : Sale) (k : Nat) : 0 < (gen s k).length := List.length_pos_of_mem (nil_gen s k)
def R_best_of (A : Ad) : List V → Hp → (V → Hp → Prop) → Prop := fun vs H Pz => ∃ p s B, vs = [.ref p] ∧ FoundF A B H s p (gen s s.bids.length) ∧ Pz = fun v H2 => ∃ a, v = .ref a ∧ SelF A B H2 s a s.bestSelection
theorem c_best_of (T : Txt K mg A) : C8.Cal P w K mg base 4 "best_of" (spP (R_best_of A)) [] := by
  have c_rank : C8.Cal P w K mg base 1 "rank" (spP (R_rank A)) [] := c_rank T
  refine calOf T.d_best_of sc_best_of (fun _ _ _ _ _ _ us hl => match us, hl with | [_], _ => rfl) (fun vs H Q E h => ?_) (fun f cdv Ar outer st H vs Q E hr h => ?_)
  · obtain ⟨_, ⟨c, s, B, rfl, _⟩, _⟩ := h
    rfl
  · obtain ⟨_, ⟨p, s, B, rfl, ⟨as, hp, hBp, hall⟩, rfl⟩, kQ⟩ := h
    refine ⟨_, (pss_one (ps_ret (pe_minKey c_rank hr (by decide) (by rfl) T.b_min (by rfl) rfl (pv 0)))), ?_⟩
    have hlen : (rL as).length = (gen s s.bids.length).length := by rw [rL_len, hall.1]
    have hget : ∀ i l, (gen s s.bids.length)[i]? = some l → (gen s s.bids.length).getD i [] = l := fun i l h => by
      rw [List.getD_eq_getElem?_getD, h]
      rfl
    refine ⟨.ref p, rfl, rfl, p, rL as, fun i => keyD s ((gen s s.bids.length).getD i []), fun i v H => RankAt H s v ((gen s s.bids.length).getD i []), rfl, hp, ?_, ⟨fun i j _ _ => keyD_alike s _ _, fun i => (by intro z; cases z), fun i => keyD_depth s _, ?_, ?_, ?_⟩, ?_⟩
    · rw [hlen]
      exact gen_pos s _
    · rintro i v H1 H2 e ⟨p, na, rfl, h1, h2⟩
      exact ⟨p, na, rfl, e _ _ h1, e _ _ h2⟩
    · intro i v H1 h u ok r rv
      exact rank_reads ok r rv
    · intro i xv H2 hx e Q' hQ'
      obtain ⟨a, ha, rfl⟩ : ∃ n, as[i]? = some n ∧ xv = .ref n := by
        unfold rL at hx
        rw [List.getElem?_map] at hx
        obtain ⟨n, h1, h2⟩ := Option.map_eq_some_iff.mp hx
        exact ⟨n, h1, h2.symm⟩
      obtain ⟨l, hl, hsel⟩ := hall.getL ha
      refine ⟨_, ⟨a, s, l, rfl, hsel.at_.ex e, rfl⟩, fun v H3 e3 r => hQ' v H3 e3 ?_⟩
      rw [hget i l hl]
      exact r
    · intro v H' hv e
      obtain ⟨a, ha, rfl⟩ : ∃ n, as[argBest (ltK fun i => keyD s ((gen s s.bids.length).getD i [])) ((rL as).length - 1)]? = some n ∧ v = .ref n := by
        unfold rL at hv
        rw [List.getElem?_map] at hv
        obtain ⟨n, h1, h2⟩ := Option.map_eq_some_iff.mp hv
        exact ⟨n, h1, h2.symm⟩
      obtain ⟨l, hl, hsel⟩ := hall.getL ha
      have hbest : l = s.bestSelection := by
        refine best_unique s ((gen_is s).mp (List.mem_of_getElem? hl)) fun y hy => ?_
        obtain ⟨j, hj⟩ := List.mem_iff_getElem?.mp ((gen_is s).mpr hy)
        have hjl := (List.getElem?_eq_some_iff.mp hj).1
        have := argBest_top s (gen s s.bids.length) (ltK fun i => keyD s ((gen s s.bids.length).getD i [])) (fun i j => keyD_lt s _ _) ((rL as).length - 1) j (by rw [hlen]; omega)
        rw [hget j y hj, hget _ l hl] at this
        exact this
      refine kQ _ H' e ⟨a, rfl, ?_⟩
      rw [← hbest]
      exact hsel.ex e
end
end TB

namespace TB
open PySem PySem.Spec PyProof.Rows L2 Evl TimberAuction TBM
open C8 (pe_c pe_mk pe_mt pe_mt0)
/-! ### comprehensions over a list that stands for data -/
theorem given_of {α : Type} (p : α → Bool) (g : α → V) : ∀ L : List α, given L.length (fun i => (L[i]?).elim false p) (fun i => (L[i]?).elim .non g) = (L.filter p).map g := by
  intro L
  unfold given
  suffices h : ∀ n, n ≤ L.length → ((List.range n).filter (fun i => (L[i]?).elim false p)).map (fun i => (L[i]?).elim .non g) = ((L.take n).filter p).map g by
    rw [h L.length (Nat.le_refl _), List.take_length]
  intro n
  induction n with
  | zero => intro _; rfl
  | succ n ih =>
    intro hn
    have hx : L[n]? = some L[n] := List.getElem?_eq_getElem (by omega)
    rw [List.range_succ, List.filter_append, List.map_append, ih (by omega), take_snoc hx, List.filter_append, List.map_append]
    congr 1
    rw [List.filter_cons, List.filter_cons]
    rw [hx]
    show List.map _ (if p L[n] = true then _ else _) = List.map g (if p L[n] = true then _ else _)
    by_cases c : p L[n] = true
    · rw [if_pos c, if_pos c]
      simp [hx]
    · rw [if_neg c, if_neg c]
      rfl
theorem inV_iN {k : Nat} {l : List Nat} : inV (iN k) (iL l) = l.contains k := by
  unfold inV iL
  rw [List.any_map, List.contains_eq_any_beq]
  congr 1
  funext n
  show ((n : Int) == (k : Int)) = (k == n)
  rw [Bool.eq_iff_iff, beq_iff_eq, beq_iff_eq]
  omega
theorem flat_iL (l : List Nat) : (iL l).all flatV = true := by
  unfold iL
  rw [List.all_map]
  exact List.all_eq_true.mpr fun _ _ => rfl
theorem iL_inv {l : List Nat} {i : Nat} {x : V} (h : (iL l)[i]? = some x) : ∃ n, l[i]? = some n ∧ x = iN n := by
  unfold iL at h
  rw [List.getElem?_map] at h
  obtain ⟨n, h1, h2⟩ := Option.map_eq_some_iff.mp h
  exact ⟨n, h1, h2.symm⟩
theorem rL_inv {l : List Addr} {i : Nat} {x : V} (h : (rL l)[i]? = some x) : ∃ a, l[i]? = some a ∧ x = .ref a := by
  unfold rL at h
  rw [List.getElem?_map] at h
  obtain ⟨n, h1, h2⟩ := Option.map_eq_some_iff.mp h
  exact ⟨n, h1, h2.symm⟩
section
variable {K : PySem.W.Frag} {σ : L2.St} {H : Hp} {Q : VK} {ta te tl : TE} {t : TT} {x : V}
theorem fld_run {f : Str} (h : ta σ H fun x H1 => ∃ a C dx fs v, x = .ref a ∧ H1 a = some (.ins C dx fs) ∧ Cls K C ∧ NoAttr K C f ∧ fs.lookup f = some v ∧ Q v H1) : tFld K ta f σ H Q := h
theorem et_yes : EvT tYes σ H true := fun H1 _ _ q => q H1 (Ex.refl H1)
theorem el_comp {α : Type} {a : Addr} {xs : List V} {j : Nat} {vs : List Nat} (L : List α) (p : α → Bool) (g : α → V) (h : Ev tl σ H (.ref a)) (hx : SqL K H a xs) (hl : xs.length = L.length) (hz : xs.length ≤ 40000) (hw : ∀ x, wipe ((wipe σ vs).set j (some x)) vs = wipe σ vs)
    (ht : ∀ (i : Nat) (x : V) (y : α) H1, Ex H H1 → xs[i]? = some x → L[i]? = some y → EvT t ((wipe σ vs).set j (some x)) H1 (p y))
    (he : ∀ (i : Nat) (x : V) (y : α) H1, Ex H H1 → xs[i]? = some x → L[i]? = some y → p y = true → Ev te ((wipe σ vs).set j (some x)) H1 (g y)) : EvL (tLc (iList K tl) (gName j) t te vs) σ H ((L.filter p).map g) := by
  rw [← given_of, ← hl]
  have look : ∀ i x, xs[i]? = some x → ∃ y, L[i]? = some y := fun i x h => ⟨L[i]'(by rw [← hl]; exact (List.getElem?_eq_some_iff.mp h).1), List.getElem?_eq_getElem _⟩
  refine el_lcL _ _ h hx hz hw (fun i x H1 e hi => ?_) (fun i x H1 e hi hf => ?_)
  · obtain ⟨y, hy⟩ := look i x hi
    rw [hy]
    exact ht i x y H1 e hi hy
  · obtain ⟨y, hy⟩ := look i x hi
    rw [hy] at hf
    rw [hy]
    exact he i x y H1 e hi hy hf
/-- without a test -/
theorem el_compM {α : Type} {a : Addr} {xs : List V} {j : Nat} {vs : List Nat} (L : List α) (g : α → V) (h : Ev tl σ H (.ref a)) (hx : SqL K H a xs) (hl : xs.length = L.length) (hz : xs.length ≤ 40000) (hw : ∀ x, wipe ((wipe σ vs).set j (some x)) vs = wipe σ vs)
    (he : ∀ (i : Nat) (x : V) (y : α) H1, Ex H H1 → xs[i]? = some x → L[i]? = some y → Ev te ((wipe σ vs).set j (some x)) H1 (g y)) : EvL (tLc (iList K tl) (gName j) tYes te vs) σ H (L.map g) := by
  have := el_comp (te := te) (t := tYes) L (fun _ => true) g h hx hl hz hw (fun _ _ _ _ _ _ _ => et_yes) (fun i x y H1 e h1 h2 _ => he i x y H1 e h1 h2)
  rw [List.filter_eq_self.mpr (fun _ _ => rfl)] at this
  exact this
/-- built-ins over a new list -/
theorem ev_lenL {xs : List V} (ha : EvL ta σ H xs) : Ev (tCB (rLenS K) (tCons ta tNil)) σ H (.int (xs.length : Int)) := ev_lenN ha
theorem ev_sumL {ns : List Int} (ha : EvL ta σ H (ns.map V.int)) : Ev (tCB (rSum K) (tCons ta tNil)) σ H (.int ns.sum) := fun H1 e Q q =>
  ha H1 e _ fun p H2 _ e2 h2 => ⟨p, ns, rfl, sq_of h2, q H2 e2⟩
theorem ev_maxL {ns : List Int} {m : Int} (ha : EvL ta σ H (ns.map V.int)) (hn : 0 < ns.length) (hm : ∀ x ∈ ns, (∀ y ∈ ns, y ≤ x) → x = m) : Ev (tCB (rMax K) (tCons ta tNil)) σ H (.int m) := fun H1 e Q q =>
  ha H1 e _ fun p H2 _ e2 h2 => ⟨p, ns, rfl, sq_of h2, hn, fun x hx hy => by
    rw [hm x hx hy]
    exact q H2 e2⟩
theorem ev_allL {bs : List Bool} (ha : EvL ta σ H (bs.map V.bl)) : Ev (tCB (rAll K) (tCons ta tNil)) σ H (.bl (bs.all id)) := fun H1 e Q q =>
  ha H1 e _ fun p H2 _ e2 h2 => ⟨p, bs, rfl, sq_of h2, q H2 e2⟩
end
section
variable {P : Program} {w : World} {K : PySem.W.Frag} {mg : Str → Option Value} {base : Heap} {A : Ad}
/-! ### threshold_of -/
def R_threshold_of (A : Ad) : List V → Hp → V → Prop := fun vs H z => ∃ a p τ s k, vs = [.ref a, .ref p, iN k] ∧ SaleAt A τ H a s ∧ SaleOk s ∧ FoundAt A H s p (gen s s.bids.length) ∧ k ∈ s.bestSelection ∧ z = iN (s.threshold k)
theorem c_threshold_of (T : Txt K mg A) : C8.Cal P w K mg base 6 "threshold_of" (spV (R_threshold_of A)) [] := by
  have c_best_of : C8.Cal P w K mg base 4 "best_of" (spP (R_best_of A)) [] := c_best_of T
  refine calOf T.d_threshold_of sc_threshold_of (fun _ _ _ _ _ _ us hl => match us, hl with | [_, _, _], _ => rfl) (fun vs H Q E h => ?_) (fun f cdv Ar outer st H vs Q E hr h => ?_)
  · obtain ⟨_, ⟨a, p, τ, s, k, rfl, _⟩, _⟩ := h
    rfl
  · obtain ⟨_, ⟨a, p, τ, s, k, rfl, ⟨dx, loA, bdA, liA, las, bas, hs⟩, ok, ⟨fas, hf, hfa⟩, hkb, rfl⟩, kQ⟩ := h
    refine ⟨_, (pss_cons (ps_set (i := 3) sc_threshold_of.nd rfl (Or.inl rfl) (pe_ix ix_list (pe_fld (pv 0) rfl) (pv 2) (fun _ _ => rfl)))
        (pss_cons (ps_set (i := 4) sc_threshold_of.nd rfl (Or.inl rfl) (pe_fld (pe_c c_best_of hr (by decide) (by rfl) (pa_cons (pv 1) pa_nil)) rfl))
        (pss_cons (ps_set (i := 5) sc_threshold_of.nd rfl (Or.inl rfl) (pe_callB (cr_max (by rfl)) (by rfl) T.b_max boot_max (pa_cons (pe_lc (own := [("chosen", 6)])  rfl sc_threshold_of.nd (pi_list (pv 1)) (blkOk_by (own := [("chosen", 6)]) (N := ["sale", "found", "number", "bid", "best_value", "best_without", "chosen"]) (sc := defScope s_threshold_of) (by decide +kernel)) (fun _ _ _ _ _ => (pg_name (i := 6) sc_threshold_of.nd rfl (Or.inl rfl))) (fun _ _ _ _ _ => (pts_one (pt_cmpR (op_notInB (K := K) (by rfl)) (pv 2) (pe_fldB (K := K) (by rfl) (pv 6) (by rfl)) (by with_unfolding_all rfl)))) (fun _ _ _ _ _ => (pe_fldB (K := K) (by rfl) (pv 6) (by rfl)))) pa_nil)))
        (pss_one (ps_ret (pe_callB (call_max2 (by rfl)) (by rfl) T.b_max boot_max (pa_cons (pe_fld (pv 3) rfl) (pa_cons (pe_op op_sub (pv 5) (pe_op op_sub (pv 4) (pe_fld (pv 3) rfl))) pa_nil)))))))), ?_⟩
    have hk := best_lt s hkb
    have hkx : s.bids[k]? = some s.bids[k] := List.getElem?_eq_getElem hk
    obtain ⟨b, hb⟩ : ∃ b, s.bids[k]? = some b := ⟨_, hkx⟩
    have eb := bid_at hb
    obtain ⟨ba, hba, hbat⟩ := hs.bids.get hb
    obtain ⟨bdx, la, pa, bba, va, hbr⟩ := hbat
    refine q_asg (ev_ixL (ev_fld (ev_var rfl) hs.at_ T.cl_Sale T.n_Sale_bids lk_Sale_bids) (ev_var rfl) (sq_of hs.bd) (rL_get hba)) fun H1 e1 => ?_
    refine seq_run (asg_run (fld_run (call_run ⟨_, rfl, _, ⟨p, s, fun _ => True, rfl, FoundAt.tr ⟨fas, e1 _ _ hf, hfa.imp fun _ _ _ _ _ r => r.ex e1⟩, rfl⟩, ?_⟩)))
    rintro v H2 e2 ⟨sa, rfl, ⟨sdx, sna, sta, sra, hsel, _⟩⟩
    refine ⟨sa, _, _, _, _, rfl, hsel.at_, T.cl_Selection, T.n_Selection_value, lk_Selection_value, ?_⟩
    have e12 := e1.trans e2
    have hlen : (rL fas).length = (gen s s.bids.length).length := by rw [rL_len, hfa.1]
    have hcomp := el_comp (K := K) (tl := tVar 1) (te := tFld K (tVar 6) "value") (t := tTest (tOp (rIn K true) (tVar 2) (tFld K (tVar 6) "numbers"))) (j := 6) (vs := [6]) (σ := [some (.ref a), some (.ref p), some (iN k), some (.ref ba), some (iN (s.totalValue s.bestSelection)), none, none]) (H := H2) (a := p) (xs := rL fas)
      (gen s s.bids.length) (fun l => !l.contains k) (fun l => iN (s.totalValue l)) (ev_var rfl) (sq_of (e12 _ _ hf)) hlen (by rw [hlen]; have := gen_len12 ok (Nat.le_refl _); omega) (fun _ => rfl)
      (fun i x l H3 e3 hx hl => by
        obtain ⟨fa, hfa1, rfl⟩ := rL_inv hx
        obtain ⟨ldx, lna, lta, lra, hlr⟩ := (hfa.2 i fa l hfa1 hl).ex (e12.trans e3)
        have := et_test (ev_op (r := rIn K true) (ta := tVar 2) (tb := tFld K (tVar 6) "numbers") (ev_var (σ := [some (.ref a), some (.ref p), some (iN k), some (.ref ba), some (iN (s.totalValue s.bestSelection)), none, some (.ref fa)]) (H := H3) (i := 2) (v := iN k) rfl) (ev_fld (ev_var (i := 6) rfl) hlr.at_ T.cl_Selection T.n_Selection_numbers lk_Selection_numbers) (rv_niL (sq_of hlr.nums) rfl (flat_iL _)))
        rw [inV_iN] at this
        exact this)
      (fun i x l H3 e3 hx hl _ => by
        obtain ⟨fa, hfa1, rfl⟩ := rL_inv hx
        obtain ⟨ldx, lna, lta, lra, hlr⟩ := (hfa.2 i fa l hfa1 hl).ex (e12.trans e3)
        exact ev_fld (ev_var rfl) hlr.at_ T.cl_Selection T.n_Selection_value lk_Selection_value)
    have hwm : ((gen s s.bids.length).filter fun l => !l.contains k).map (fun l => iN (s.totalValue l)) = (toI (TBM.without s k)).map V.int := by
      rw [← iL_ints]
      unfold TBM.without iL
      rw [List.map_map]
      rfl
    rw [hwm] at hcomp
    have hne : TBM.without s k ≠ [] := without_ne s k
    -- the greatest value without k
    obtain ⟨bw, hbw, hbt⟩ : ∃ m ∈ TBM.without s k, ∀ x ∈ TBM.without s k, x ≤ m := by
      obtain ⟨l, h1, h2, h3⟩ : ∃ l, l ∈ (s.withdraw k).selections ∧ s.totalValue l = (s.withdraw k).totalValue (s.withdraw k).bestSelection ∧ k ∉ l := by
        have hbm := best_mem (s.withdraw k)
        have hnk := ((wd_sel s).mp hbm).2
        exact ⟨_, hbm, (wd_total s hnk).symm, hnk⟩
      refine ⟨s.totalValue l, (mem_without s).mpr ⟨l, h1, rfl, h3⟩, fun x hx => ?_⟩
      obtain ⟨l', q1, q2, q3⟩ := (mem_without s).mp hx
      rw [h2, ← q2, ← wd_total s q3]
      exact best_value _ q1
    refine q_asg (v := iN bw) (ev_maxL hcomp (by unfold toI; rw [List.length_map]; exact List.length_pos_iff.mpr hne) (fun x hx hy => ?_)) fun H3 e3 => ?_
    · unfold toI at hx hy
      obtain ⟨n, hn, rfl⟩ := List.mem_map.mp hx
      have h1 := hbt n hn
      have h2 := hy (bw : Int) (List.mem_map.mpr ⟨bw, hbw, rfl⟩)
      omega
    · have hbr3 := hbr.at_
      have hthr := thr_is s hkb hbw hbt
      refine rt_ret (ev_is (ev_cb (ea_cons (ev_fld (ev_var rfl) ((e12.trans e3) _ _ hbr.at_) T.cl_Bid T.n_Bid_reserve lk_Bid_reserve) (ea_cons (ev_op (ev_var rfl) (ev_op (ev_var rfl) (ev_fld (ev_var rfl) ((e12.trans e3) _ _ hbr.at_) T.cl_Bid T.n_Bid_value lk_Bid_value) rv_I0) rv_I0) ea_nil)) (fun H4 e4 Q' q' => ⟨_, _, rfl, q' H4 (Ex.refl _)⟩)) ?_) (RetV.mono kQ (e12.trans e3))
      show V.int _ = V.int _
      rw [hthr, eb]
      refine congrArg V.int ?_
      split <;> omega
end
end TB

namespace TB
open PySem PySem.Spec PyProof.Rows L2 Evl TimberAuction TBM
open C8 (pe_c pe_mk pe_mt pe_mt0)
/-! ### the first of a list -/
def optN (o : Option Nat) : V := o.elim .non iN
theorem find_at {α : Type} {p : α → Bool} {l : List α} {i : Nat} {x : α} (hx : l[i]? = some x) (hp : p x = true) (hn : ∀ j y, j < i → l[j]? = some y → p y = false) : l.find? p = some x := by
  have hl : i < l.length := (List.getElem?_eq_some_iff.mp hx).1
  have e : l = l.take i ++ x :: l.drop (i + 1) := by
    have h1 : l[i] = x := (List.getElem?_eq_some_iff.mp hx).2
    rw [← h1, List.getElem_cons_drop, List.take_append_drop]
  rw [e, List.find?_append]
  have h0 : (l.take i).find? p = none := List.find?_eq_none.mpr fun y hy => by
    obtain ⟨j, hj⟩ := List.mem_iff_getElem?.mp hy
    rw [List.getElem?_take] at hj
    split at hj
    · rename_i hji
      rw [hn j y hji hj]
      exact Bool.false_ne_true
    · cases hj
  rw [h0, List.find?_cons, hp]
  rfl
theorem find_no {α : Type} {p : α → Bool} {l : List α} (hn : ∀ j y, j < l.length → l[j]? = some y → p y = false) : l.find? p = none := List.find?_eq_none.mpr fun y hy => by
  obtain ⟨j, hj⟩ := List.mem_iff_getElem?.mp hy
  rw [hn j y (List.getElem?_eq_some_iff.mp hj).1 hj]
  exact Bool.false_ne_true
section
variable {P : Program} {w : World} {K : PySem.W.Frag} {mg : Str → Option Value} {base : Heap} {A : Ad}
/-! ### inadmissible_bid -/
structure ChkAt (A : Ad) (τ : Tg) (H : Hp) (a np : Addr) (s : Sale) (nums : List Nat) : Prop where
  sale : SaleAt A τ H a s
  ok : SaleOk s
  hn : H np = some (.lst (iL nums))
  lt : ∀ n ∈ nums, n < s.bids.length
  len : nums.length ≤ 40
def R_inadmissible_bid (A : Ad) : List V → Hp → V → Prop := fun vs H z => ∃ a np τ s nums, vs = [.ref a, .ref np] ∧ ChkAt A τ H a np s nums ∧ z = optN (nums.find? fun n => !s.isAdmissible (s.bid n))
theorem c_inadmissible_bid (T : Txt K mg A) : C8.Cal P w K mg base 3 "inadmissible_bid" (spV (R_inadmissible_bid A)) [] := by
  have c_is_admissible : C8.Cal P w K mg base 1 "is_admissible" (spV (R_is_admissible A)) [] := c_is_admissible T
  refine calOf T.d_inadmissible_bid sc_inadmissible_bid (fun _ _ _ _ _ _ us hl => match us, hl with | [_, _], _ => rfl) (fun vs H Q E h => ?_) (fun f cdv Ar outer st H vs Q E hr h => ?_)
  · obtain ⟨_, ⟨a, np, τ, s, nums, rfl, _⟩, _⟩ := h
    rfl
  · obtain ⟨_, ⟨a, np, τ, s, nums, rfl, ⟨⟨dx, loA, bdA, liA, las, bas, hs⟩, ok, hnp, hlt, hlen⟩, rfl⟩, kQ⟩ := h
    refine ⟨_, (pss_cons (ps_for PassesOwn.never rfl (pi_list (pv 1)) (pg_name (i := 2) sc_inadmissible_bid.nd rfl (Or.inl rfl)) (pss_one (ps_if (pt_not (pt_val (pe_c c_is_admissible hr (by decide) (by rfl) (pa_cons (pe_ix ix_list (pe_fld (pv 0) rfl) (pv 2) (fun _ _ => rfl)) pa_nil)))) (pss_one (ps_ret (pv 2))) pss_nil)))
        (pss_one (ps_ret pe_non))), ?_⟩
    refine q_forLn (xs := iL nums) (ev_var rfl) (sq_of hnp) (fun i σ' H' => ∃ y2, σ' = [some (.ref a), some (.ref np), y2] ∧ Ex H H' ∧ ∀ j n, j < i → nums[j]? = some n → s.isAdmissible (s.bid n) = true) (fun H1 e => ⟨none, rfl, e, fun j n h => by omega⟩) (fun i σ' H' _ ⟨_, _, e, _⟩ => ex_l e (sq_of hnp)) ?_ ?_
    · rintro i x σ' H' hx ⟨y2, rfl, e, hall⟩
      obtain ⟨n, hn, rfl⟩ := iL_inv hx
      have hnl := hlt n (List.mem_of_getElem? hn)
      obtain ⟨b, hb⟩ : ∃ b, s.bids[n]? = some b := ⟨_, List.getElem?_eq_getElem hnl⟩
      obtain ⟨ba, hba, hbat⟩ := hs.bids.get hb
      have eb := bid_at hb
      refine s_when (et_not (et_B (b := s.isAdmissible b) (ev_callV (ea_cons (ev_ixL (ev_fld (ev_var rfl) (e _ _ hs.at_) T.cl_Sale T.n_Sale_bids lk_Sale_bids) (ev_var rfl) (sq_of (e _ _ hs.bd)) (rL_get hba)) ea_nil) fun H1 e1 => ⟨ba, τ, s, n, b, rfl, (hbat.ex e).ex e1, rfl⟩))) (fun h1 H1 e1 => ?_) (fun h1 H1 e1 => ?_)
      · refine rt_ret (ev_var rfl) ?_
        have hf : nums.find? (fun n => !s.isAdmissible (s.bid n)) = some n := find_at hn (by rw [eb]; exact h1) fun j m hj hm => by
          rw [hall j m hj hm]
          rfl
        have g := RetV.mono kQ (e.trans e1)
        rw [hf] at g
        exact g
      · refine ⟨_, rfl, e.trans e1, fun j m hj hm => ?_⟩
        by_cases ej : j = i
        · subst ej
          rw [hn] at hm
          cases hm
          rw [eb]
          simpa using h1
        · exact hall j m (by omega) hm
    · rintro σ' H' ⟨y2, rfl, e, hall⟩
      refine rt_ret ev_c ?_
      have hf : nums.find? (fun n => !s.isAdmissible (s.bid n)) = none := find_no fun j m hj hm => by
        rw [hall j m (by rw [iL_len]; exact hj) hm]
        rfl
      have g := RetV.mono kQ e
      rw [hf] at g
      exact g
/-! ### shared_lot -/
def R_shared_lot (A : Ad) : List V → Hp → V → Prop := fun vs H z => ∃ a np τ s nums, vs = [.ref a, .ref np] ∧ ChkAt A τ H a np s nums ∧ z = optN ((List.range s.lots.length).find? fun lot => decide (1 < s.bidsWithLot nums lot))
theorem range_get {n j y : Nat} (h : (List.range n)[j]? = some y) : y = j ∧ j < n := by
  have hl := (List.getElem?_eq_some_iff.mp h).1
  rw [List.length_range] at hl
  rw [List.getElem?_range hl] at h
  exact ⟨(Option.some.inj h).symm, hl⟩
theorem c_shared_lot (T : Txt K mg A) : C8.Cal P w K mg base 1 "shared_lot" (spV (R_shared_lot A)) [] := by
  refine calOf T.d_shared_lot sc_shared_lot (fun _ _ _ _ _ _ us hl => match us, hl with | [_, _], _ => rfl) (fun vs H Q E h => ?_) (fun f cdv Ar outer st H vs Q E hr h => ?_)
  · obtain ⟨_, ⟨a, np, τ, s, nums, rfl, _⟩, _⟩ := h
    rfl
  · obtain ⟨_, ⟨a, np, τ, s, nums, rfl, ⟨⟨dx, loA, bdA, liA, las, bas, hs⟩, ok, hnp, hlt, hlen⟩, rfl⟩, kQ⟩ := h
    refine ⟨_, (pss_cons (ps_for PassesOwn.never rfl (pi_range1 (by rfl) T.b_range (pa_cons (pe_callB call_len_seq (by rfl) T.b_len boot_len (pa_cons (pe_fld (pv 0) rfl) pa_nil)) pa_nil)) (pg_name (i := 2) sc_shared_lot.nd rfl (Or.inr rfl)) (pss_one (ps_if (pt_cmpR op_gt (pe_callB call_len_seq (by rfl) T.b_len boot_len (pa_cons (pe_lc (own := [("number", 3)])  rfl sc_shared_lot.nd (pi_list (pv 1)) (blkOk_by (own := [("number", 3)]) (N := ["sale", "numbers", "lot", "number"]) (sc := defScope s_shared_lot) (by decide +kernel)) (fun _ _ _ _ _ => (pg_name (i := 3) sc_shared_lot.nd rfl (Or.inl rfl))) (fun _ _ _ _ _ => (pts_one (pt_cmpR (op_inB (K := K) (by rfl)) (pv 2) (pe_fldB (K := K) (by rfl) (pe_ix (ix_listB (K := K) (by rfl)) (pe_fldB (K := K) (by rfl) (pv 0) (by rfl)) (pv 3) (fun _ _ => rfl)) (by rfl)) (by with_unfolding_all rfl)))) (fun _ _ _ _ _ => (pv 3))) pa_nil)) pe_int (nomark _)) (pss_one (ps_ret (pv 2))) pss_nil)))
        (pss_one (ps_ret pe_non))), ?_⟩
    have hll := ok.lotsLen
    refine q_forR1 (n := (s.lots.length : Int)) (ea_cons (ev_is (ev_len (ev_fld (ev_var rfl) hs.at_ T.cl_Sale T.n_Sale_lots lk_Sale_lots) (sq_of hs.lo)) (by rw [rL_len, hs.lots.1])) ea_nil) (by omega)
      (fun i σ' H' => ∃ y2, σ' = [some (.ref a), some (.ref np), y2, none] ∧ Ex H H' ∧ ∀ j, j < i → ¬ 1 < s.bidsWithLot nums j) (fun H1 e => ⟨none, rfl, e, fun j h => by omega⟩) ?_ ?_
    · rintro i σ' H' hi ⟨y2, rfl, e, hall⟩
      have hi' : i < s.lots.length := by omega
      refine s_when (et_test (ev_op (ev_lenL (el_comp (K := K) nums (fun n => (s.bid n).lots.contains i) iN (ev_var rfl) (sq_of (e _ _ hnp)) (iL_len _) (by rw [iL_len]; omega) (fun _ => rfl) (fun j x n H1 e1 hx hn => ?_) (fun j x n H1 e1 hx hn _ => ?_))) ev_c rv_I0)) (fun h1 H1 e1 => ?_) (fun h1 H1 e1 => ?_)
      · obtain ⟨n', hn', rfl⟩ := iL_inv hx
        rw [hn] at hn'
        cases hn'
        have hnl := hlt n (List.mem_of_getElem? hn)
        obtain ⟨b, hb⟩ : ∃ b, s.bids[n]? = some b := ⟨_, List.getElem?_eq_getElem hnl⟩
        obtain ⟨ba, hba, hbat⟩ := hs.bids.get hb
        obtain ⟨bdx, la, pa, bba, va, hbr⟩ := hbat.ex (e.trans e1)
        have := et_test (ev_op (r := rIn K false) (ta := tVar 2) (ev_var (σ := [some (.ref a), some (.ref np), some (iN i), some (iN n)]) (H := H1) (i := 2) (v := iN i) rfl) (ev_fld (ev_ixL (K := K) (ta := tFld K (tVar 0) "bids") (tb := tVar 3) (ev_fld (ev_var (i := 0) rfl) ((e.trans e1) _ _ hs.at_) T.cl_Sale T.n_Sale_bids lk_Sale_bids) (ev_var (i := 3) rfl) (sq_of ((e.trans e1) _ _ hs.bd)) (rL_get hba)) hbr.at_ T.cl_Bid T.n_Bid_lots lk_Bid_lots) (rv_isL (sq_of hbr.lots.2) rfl (flat_iL _)))
        rw [inV_iN, ← bid_at hb] at this
        exact this
      · obtain ⟨n', hn', rfl⟩ := iL_inv hx
        rw [hn] at hn'
        cases hn'
        exact ev_var rfl
      · refine rt_ret (ev_var rfl) ?_
        have h2 : 1 < s.bidsWithLot nums i := by
          have := of_decide_eq_true h1
          rw [List.length_map] at this
          unfold Sale.bidsWithLot
          omega
        have hf : (List.range s.lots.length).find? (fun lot => decide (1 < s.bidsWithLot nums lot)) = some i := find_at (List.getElem?_range hi') (decide_eq_true h2) fun j y hj hy => by
          obtain ⟨rfl, _⟩ := range_get hy
          exact decide_eq_false (hall _ hj)
        have g := RetV.mono kQ (e.trans e1)
        rw [hf] at g
        exact g
      · refine ⟨_, rfl, e.trans e1, fun j hj => ?_⟩
        by_cases ej : j = i
        · subst ej
          have := of_decide_eq_false h1
          rw [List.length_map] at this
          unfold Sale.bidsWithLot
          omega
        · exact hall j (by omega)
    · rintro σ' H' ⟨y2, rfl, e, hall⟩
      refine rt_ret ev_c ?_
      have hf : (List.range s.lots.length).find? (fun lot => decide (1 < s.bidsWithLot nums lot)) = none := find_no fun j y hj hy => by
        obtain ⟨rfl, h2⟩ := range_get hy
        exact decide_eq_false (hall _ (by simpa using h2))
      have g := RetV.mono kQ e
      rw [hf] at g
      exact g
/-! ### takes_part -/
def R_takes_part (A : Ad) : List V → Hp → V → Prop := fun vs H z => ∃ a τ s i b n, vs = [.ref a, iN n] ∧ BidAt A τ H s i a b ∧ BidOk s b ∧ z = .bl (hasBidder b n)
theorem c_takes_part (T : Txt K mg A) : C8.Cal P w K mg base 1 "takes_part" (spV (R_takes_part A)) [] := by
  refine calOf T.d_takes_part sc_takes_part (fun _ _ _ _ _ _ us hl => match us, hl with | [_, _], _ => rfl) (fun vs H Q E h => ?_) (fun f cdv Ar outer st H vs Q E hr h => ?_)
  · obtain ⟨_, ⟨a, τ, s, i, b, n, rfl, _⟩, _⟩ := h
    rfl
  · obtain ⟨_, ⟨a, τ, s, i, b, n, rfl, ⟨dx, la, pa, ba, va, hb⟩, ok, rfl⟩, kQ⟩ := h
    refine ⟨_, (pss_one (ps_ret (pe_cmpR op_in_seq (pv 1) (pe_lc (own := [("pair", 2)]) (tt := tYes) rfl sc_takes_part.nd (pi_list (pe_fld (pv 0) rfl)) (blkOk_by (own := [("pair", 2)]) (N := ["bid", "bidder", "pair"]) (sc := defScope s_takes_part) (by decide +kernel)) (fun _ _ _ _ _ => (pg_name (i := 2) sc_takes_part.nd rfl (Or.inl rfl))) (fun _ _ _ _ _ => pts_nil) (fun _ _ _ _ _ => (pe_ix (ix_tupB (K := K) (by rfl)) (pv 2) pe_int (fun _ _ => rfl)))) (by with_unfolding_all rfl)))), ?_⟩
    obtain ⟨bas, tba, hba, hbd⟩ := hb.bidders
    refine rt_ret (ev_is (ev_opL (xs := iL (b.bidders.map (·.1))) (ev_var rfl) ?_ fun p H1 hp e1 => rv_isL (sq_of hp) rfl (flat_iL _)) ?_) kQ
    · have := el_compM (K := K) (tl := tFld K (tVar 0) "bidders") (te := tOp (rIxT K) (tVar 2) (tC (.int 0))) (j := 2) (vs := [2]) (σ := [some (.ref a), some (iN n), none]) (H := H) b.bidders (fun p => iN p.1) (ev_fld (ev_var rfl) hb.at_ T.cl_Bid T.n_Bid_bidders lk_Bid_bidders) (sq_of hba) (by rw [rL_len, hbd.1]) (by rw [rL_len, hbd.1]; have := ok.bdLen; omega) (fun _ => rfl) (fun i x y H1 e1 hx hy => by
        obtain ⟨pa', hpa, rfl⟩ := rL_inv hx
        have hp := hbd.2 i pa' y hpa hy
        exact ev_op (ev_var rfl) ev_c (rv_ixT (st_of (e1 _ _ hp.2)) (atI_nat (j := 0) rfl)))
      have e : b.bidders.map (fun p => iN p.1) = iL (b.bidders.map (·.1)) := by
        unfold iL
        rw [List.map_map]
        rfl
      rw [e] at this
      exact this
    · rw [inV_iN]
      congr 1
      rw [Bool.eq_iff_iff, hasBidder_iff, List.contains_iff_mem, List.mem_map]
/-! ### bidder_over_limit -/
def R_bidder_over_limit (A : Ad) : List V → Hp → V → Prop := fun vs H z => ∃ a np τ s nums, vs = [.ref a, .ref np] ∧ ChkAt A τ H a np s nums ∧ z = optN ((List.range 16).find? fun b => decide (s.limits.getD b 0 < s.bidsWithBidder nums b))
theorem c_bidder_over_limit (T : Txt K mg A) : C8.Cal P w K mg base 3 "bidder_over_limit" (spV (R_bidder_over_limit A)) [] := by
  have c_takes_part : C8.Cal P w K mg base 1 "takes_part" (spV (R_takes_part A)) [] := c_takes_part T
  refine calOf T.d_bidder_over_limit sc_bidder_over_limit (fun _ _ _ _ _ _ us hl => match us, hl with | [_, _], _ => rfl) (fun vs H Q E h => ?_) (fun f cdv Ar outer st H vs Q E hr h => ?_)
  · obtain ⟨_, ⟨a, np, τ, s, nums, rfl, _⟩, _⟩ := h
    rfl
  · obtain ⟨_, ⟨a, np, τ, s, nums, rfl, ⟨⟨dx, loA, bdA, liA, las, bas, hs⟩, ok, hnp, hlt, hlen⟩, rfl⟩, kQ⟩ := h
    refine ⟨_, (pss_cons (ps_for PassesOwn.never rfl (pi_range1 (by rfl) T.b_range (pa_cons (pe_gi (by rfl) T.k_BIDDERS) pa_nil)) (pg_name (i := 2) sc_bidder_over_limit.nd rfl (Or.inr rfl)) (pss_one (ps_if (pt_cmpR op_gt (pe_callB call_len_seq (by rfl) T.b_len boot_len (pa_cons (pe_lc (own := [("number", 3)])  rfl sc_bidder_over_limit.nd (pi_list (pv 1)) (blkOk_by (own := [("number", 3)]) (N := ["sale", "numbers", "bidder", "number"]) (sc := defScope s_bidder_over_limit) (by decide +kernel)) (fun _ _ _ _ _ => (pg_name (i := 3) sc_bidder_over_limit.nd rfl (Or.inl rfl))) (fun _ _ _ _ _ => (pts_one (pt_val (pe_c c_takes_part hr (by decide) (by rfl) (pa_cons (pe_ix (ix_listB (K := K) (by rfl)) (pe_fldB (K := K) (by rfl) (pv 0) (by rfl)) (pv 3) (fun _ _ => rfl)) (pa_cons (pv 2) pa_nil)))))) (fun _ _ _ _ _ => (pv 3))) pa_nil)) (pe_ix ix_list (pe_fld (pv 0) rfl) (pv 2) (fun _ _ => rfl)) (nomark _)) (pss_one (ps_ret (pv 2))) pss_nil)))
        (pss_one (ps_ret pe_non))), ?_⟩
    refine q_forR1 (n := 16) (ea_cons ev_c ea_nil) (by omega)
      (fun i σ' H' => ∃ y2, σ' = [some (.ref a), some (.ref np), y2, none] ∧ Ex H H' ∧ ∀ j, j < i → ¬ s.limits.getD j 0 < s.bidsWithBidder nums j) (fun H1 e => ⟨none, rfl, e, fun j h => by omega⟩) ?_ ?_
    · rintro i σ' H' hi ⟨y2, rfl, e, hall⟩
      have hi' : i < 16 := by omega
      have hli : s.limits[i]? = some (s.limits.getD i 0) := by
        have hl : i < s.limits.length := by rw [ok.limLen]; exact hi'
        rw [List.getD_eq_getElem?_getD, List.getElem?_eq_getElem hl]
        rfl
      refine s_when (et_test (ev_op (ev_lenL (el_comp (K := K) nums (fun n => hasBidder (s.bid n) i) iN (ev_var rfl) (sq_of (e _ _ hnp)) (iL_len _) (by rw [iL_len]; omega) (fun _ => rfl) (fun j x n H1 e1 hx hn => ?_) (fun j x n H1 e1 hx hn _ => ?_))) (ev_ixL (ev_fld (ev_var rfl) (e _ _ hs.at_) T.cl_Sale T.n_Sale_limits lk_Sale_limits) (ev_var rfl) (sq_of (e _ _ hs.li)) (iL_get hli)) rv_I0)) (fun h1 H1 e1 => ?_) (fun h1 H1 e1 => ?_)
      · obtain ⟨n', hn', rfl⟩ := iL_inv hx
        rw [hn] at hn'
        cases hn'
        have hnl := hlt n (List.mem_of_getElem? hn)
        obtain ⟨b, hb⟩ : ∃ b, s.bids[n]? = some b := ⟨_, List.getElem?_eq_getElem hnl⟩
        obtain ⟨ba, hba, hbat⟩ := hs.bids.get hb
        have := et_B (ev_callV (R := R_takes_part A) (E := C8.E0) (σ := [some (.ref a), some (.ref np), some (iN i), some (iN n)]) (H := H1) (z := .bl (hasBidder b i)) (ea_cons (ev_ixL (K := K) (ta := tFld K (tVar 0) "bids") (tb := tVar 3) (ev_fld (ev_var (i := 0) rfl) ((e.trans e1) _ _ hs.at_) T.cl_Sale T.n_Sale_bids lk_Sale_bids) (ev_var (i := 3) rfl) (sq_of ((e.trans e1) _ _ hs.bd)) (rL_get hba)) (ea_cons (ev_var (i := 2) (v := iN i) rfl) ea_nil)) fun H2 e2 => ⟨ba, τ, s, n, b, i, rfl, (hbat.ex (e.trans e1)).ex e2, ok.bidAt hb, rfl⟩)
        rw [← bid_at hb] at this
        exact this
      · obtain ⟨n', hn', rfl⟩ := iL_inv hx
        rw [hn] at hn'
        cases hn'
        exact ev_var rfl
      · refine rt_ret (ev_var rfl) ?_
        have h2 : s.limits.getD i 0 < s.bidsWithBidder nums i := by
          have := of_decide_eq_true h1
          rw [List.length_map] at this
          unfold Sale.bidsWithBidder
          omega
        have hf : (List.range 16).find? (fun b => decide (s.limits.getD b 0 < s.bidsWithBidder nums b)) = some i := find_at (List.getElem?_range hi') (decide_eq_true h2) fun j y hj hy => by
          obtain ⟨rfl, _⟩ := range_get hy
          exact decide_eq_false (hall _ hj)
        have g := RetV.mono kQ (e.trans e1)
        rw [hf] at g
        exact g
      · refine ⟨_, rfl, e.trans e1, fun j hj => ?_⟩
        by_cases ej : j = i
        · subst ej
          have := of_decide_eq_false h1
          rw [List.length_map] at this
          unfold Sale.bidsWithBidder
          omega
        · exact hall j (by omega)
    · rintro σ' H' ⟨y2, rfl, e, hall⟩
      refine rt_ret ev_c ?_
      have hf : (List.range 16).find? (fun b => decide (s.limits.getD b 0 < s.bidsWithBidder nums b)) = none := find_no fun j y hj hy => by
        obtain ⟨rfl, h2⟩ := range_get hy
        exact decide_eq_false (hall _ (by simpa using h2))
      have g := RetV.mono kQ e
      rw [hf] at g
      exact g
end
end TB

namespace TB
open PySem PySem.Spec PyProof.Rows L2 Evl TimberAuction TBM
open C8 (pe_c pe_mk pe_mt pe_mt0)
section
variable {K : PySem.W.Frag} {σ : L2.St} {H : Hp} {te : TE} {x : V}
theorem et_notN (h : Ev te σ H x) : EvT (tTest (tOp (fun x y H Q => y = .non ∧ Q (.bl (!decide (x = .non))) H) te (tC .non))) σ H (!decide (x = .non)) :=
  et_test (ev_op h ev_c fun H1 _ Q q => ⟨rfl, q H1 (Ex.refl _)⟩)
theorem et_isN (h : Ev te σ H x) : EvT (tTest (tOp (fun x y H Q => y = .non ∧ Q (.bl (decide (x = .non))) H) te (tC .non))) σ H (decide (x = .non)) :=
  et_test (ev_op h ev_c fun H1 _ Q q => ⟨rfl, q H1 (Ex.refl _)⟩)
end
theorem sum_cast : ∀ l : List Nat, ((Amounts.sum l : Nat) : Int) = (l.map fun (n : Nat) => (n : Int)).sum
  | [] => rfl
  | x :: l => by
    have ih := sum_cast l
    show ((x + Amounts.sum l : Nat) : Int) = (x : Int) + (l.map fun (n : Nat) => (n : Int)).sum
    omega
section
variable {P : Program} {w : World} {K : PySem.W.Frag} {mg : Str → Option Value} {base : Heap} {A : Ad}
/-! ### status_and_detail -/
def statV (s : Sale) (nums : List Nat) : List V := match s.violation nums with
  | some p => [iN p.1, iN p.2]
  | none => [iN 0, iN (s.totalValue nums)]
theorem statV1 {s : Sale} {nums : List Nat} {n : Nat} (h : nums.find? (fun n => !s.isAdmissible (s.bid n)) = some n) : statV s nums = [iN 1, iN n] := by
  unfold statV Sale.violation
  rw [h]
theorem statV2 {s : Sale} {nums : List Nat} {n : Nat} (h : nums.find? (fun n => !s.isAdmissible (s.bid n)) = none) (h2 : (List.range s.lots.length).find? (fun lot => decide (1 < s.bidsWithLot nums lot)) = some n) : statV s nums = [iN 2, iN n] := by
  unfold statV Sale.violation
  rw [h]
  show (match (match (List.range s.lots.length).find? (fun lot => decide (1 < s.bidsWithLot nums lot)) with
      | some lot => some (2, lot)
      | none => ((List.range 16).find? (fun b => decide (s.limits.getD b 0 < s.bidsWithBidder nums b))).map fun b => (3, b)) with
    | some p => [iN p.1, iN p.2]
    | none => [iN 0, iN (s.totalValue nums)]) = _
  rw [h2]
theorem statV3 {s : Sale} {nums : List Nat} {o : Option Nat} (h : nums.find? (fun n => !s.isAdmissible (s.bid n)) = none) (h2 : (List.range s.lots.length).find? (fun lot => decide (1 < s.bidsWithLot nums lot)) = none)
    (h3 : (List.range 16).find? (fun b => decide (s.limits.getD b 0 < s.bidsWithBidder nums b)) = o) : statV s nums = o.elim [iN 0, iN (s.totalValue nums)] fun n => [iN 3, iN n] := by
  unfold statV Sale.violation
  rw [h]
  show (match (match (List.range s.lots.length).find? (fun lot => decide (1 < s.bidsWithLot nums lot)) with
      | some lot => some (2, lot)
      | none => ((List.range 16).find? (fun b => decide (s.limits.getD b 0 < s.bidsWithBidder nums b))).map fun b => (3, b)) with
    | some p => [iN p.1, iN p.2]
    | none => [iN 0, iN (s.totalValue nums)]) = _
  rw [h2]
  show (match ((List.range 16).find? (fun b => decide (s.limits.getD b 0 < s.bidsWithBidder nums b))).map (fun b => (3, b)) with
    | some p => [iN p.1, iN p.2]
    | none => [iN 0, iN (s.totalValue nums)]) = _
  rw [h3]
  cases o <;> rfl
def R_status_and_detail (A : Ad) : List V → Hp → (V → Hp → Prop) → Prop := fun vs H Pz => ∃ a np τ s nums, vs = [.ref a, .ref np] ∧ ChkAt A τ H a np s nums ∧ Pz = fun v H2 => ∃ p, v = .ref p ∧ H2 p = some (.lst (statV s nums))
theorem ChkAt.ex {A : Ad} {τ : Tg} {H H' : Hp} {a np : Addr} {s : Sale} {nums : List Nat} (h : ChkAt A τ H a np s nums) (e : Ex H H') : ChkAt A τ H' a np s nums := ⟨h.sale.ex e, h.ok, e _ _ h.hn, h.lt, h.len⟩
theorem c_status_and_detail (T : Txt K mg A) : C8.Cal P w K mg base 4 "status_and_detail" (spP (R_status_and_detail A)) [] := by
  have c_inadmissible_bid : C8.Cal P w K mg base 3 "inadmissible_bid" (spV (R_inadmissible_bid A)) [] := c_inadmissible_bid T
  have c_shared_lot : C8.Cal P w K mg base 1 "shared_lot" (spV (R_shared_lot A)) [] := c_shared_lot T
  have c_bidder_over_limit : C8.Cal P w K mg base 3 "bidder_over_limit" (spV (R_bidder_over_limit A)) [] := c_bidder_over_limit T
  refine calOf T.d_status_and_detail sc_status_and_detail (fun _ _ _ _ _ _ us hl => match us, hl with | [_, _], _ => rfl) (fun vs H Q E h => ?_) (fun f cdv Ar outer st H vs Q E hr h => ?_)
  · obtain ⟨_, ⟨a, np, τ, s, nums, rfl, _⟩, _⟩ := h
    rfl
  · obtain ⟨_, ⟨a, np, τ, s, nums, rfl, hc, rfl⟩, kQ⟩ := h
    refine ⟨_, (pss_cons (ps_set (i := 2) sc_status_and_detail.nd rfl (Or.inl rfl) (pe_c c_inadmissible_bid hr (by decide) (by rfl) (pa_cons (pv 0) (pa_cons (pv 1) pa_nil))))
        (pss_cons (ps_if (pt_cmpR op_notN (pv 2) pe_non (nomark _)) (pss_one (ps_ret (pe_lst (pa_cons pe_int (pa_cons (pv 2) pa_nil))))) pss_nil)
        (pss_cons (ps_set (i := 3) sc_status_and_detail.nd rfl (Or.inl rfl) (pe_c c_shared_lot hr (by decide) (by rfl) (pa_cons (pv 0) (pa_cons (pv 1) pa_nil))))
        (pss_cons (ps_if (pt_cmpR op_notN (pv 3) pe_non (nomark _)) (pss_one (ps_ret (pe_lst (pa_cons pe_int (pa_cons (pv 3) pa_nil))))) pss_nil)
        (pss_cons (ps_set (i := 4) sc_status_and_detail.nd rfl (Or.inl rfl) (pe_c c_bidder_over_limit hr (by decide) (by rfl) (pa_cons (pv 0) (pa_cons (pv 1) pa_nil))))
        (pss_cons (ps_if (pt_cmpR op_notN (pv 4) pe_non (nomark _)) (pss_one (ps_ret (pe_lst (pa_cons pe_int (pa_cons (pv 4) pa_nil))))) pss_nil)
        (pss_one (ps_ret (pe_lst (pa_cons pe_int (pa_cons (pe_callB (cr_sum (by rfl)) (by rfl) T.b_sum boot_sum (pa_cons (pe_lc (own := [("number", 5)]) (tt := tYes) rfl sc_status_and_detail.nd (pi_list (pv 1)) (blkOk_by (own := [("number", 5)]) (N := ["sale", "numbers", "bid", "lot", "bidder", "number"]) (sc := defScope s_status_and_detail) (by decide +kernel)) (fun _ _ _ _ _ => (pg_name (i := 5) sc_status_and_detail.nd rfl (Or.inl rfl))) (fun _ _ _ _ _ => pts_nil) (fun _ _ _ _ _ => (pe_fldB (K := K) (by rfl) (pe_ix (ix_listB (K := K) (by rfl)) (pe_fldB (K := K) (by rfl) (pv 0) (by rfl)) (pv 5) (fun _ _ => rfl)) (by rfl)))) pa_nil)) pa_nil))))))))))), ?_⟩
    have give : ∀ H1, Ex H H1 → ∀ {te : TE} {xs : List V} {σ : L2.St} {D : Ends}, EvL te σ H1 xs → statV s nums = xs → D.rt = Q → tRet te D σ H1 := fun H1 e te xs σ D h1 h2 h3 => s_retL h1 fun p H2 np2 e2 hp => by
      rw [h3]
      exact kQ _ H2 (e.trans e2) ⟨p, rfl, by rw [hp, h2]⟩
    refine q_asg (ev_callV (ea_cons (ev_var rfl) (ea_cons (ev_var rfl) ea_nil)) fun H1 e1 => ⟨a, np, τ, s, nums, rfl, hc.ex e1, rfl⟩) fun H1 e1 => ?_
    generalize h1 : nums.find? (fun n => !s.isAdmissible (s.bid n)) = o1
    refine q_when (et_notN (ev_var rfl)) (fun hb H2 e2 => ?_) (fun hb H2 e2 => ?_)
    · cases o1 with
      | none => cases hb
      | some n => exact give H2 (e1.trans e2) (el_lst (ea_cons ev_c (ea_cons (ev_var rfl) ea_nil)) (by show 2 ≤ 100000; decide)) (statV1 h1) rfl
    cases o1 with
    | some n => cases hb
    | none =>
    have e12 := e1.trans e2
    refine q_asg (ev_callV (ea_cons (ev_var rfl) (ea_cons (ev_var rfl) ea_nil)) fun H3 e3 => ⟨a, np, τ, s, nums, rfl, (hc.ex e12).ex e3, rfl⟩) fun H3 e3 => ?_
    generalize h2 : (List.range s.lots.length).find? (fun lot => decide (1 < s.bidsWithLot nums lot)) = o2
    refine q_when (et_notN (ev_var rfl)) (fun hb H4 e4 => ?_) (fun hb H4 e4 => ?_)
    · cases o2 with
      | none => cases hb
      | some n => exact give H4 ((e12.trans e3).trans e4) (el_lst (ea_cons ev_c (ea_cons (ev_var rfl) ea_nil)) (by show 2 ≤ 100000; decide)) (statV2 h1 h2) rfl
    cases o2 with
    | some n => cases hb
    | none =>
    have e14 := (e12.trans e3).trans e4
    refine q_asg (ev_callV (ea_cons (ev_var rfl) (ea_cons (ev_var rfl) ea_nil)) fun H5 e5 => ⟨a, np, τ, s, nums, rfl, (hc.ex e14).ex e5, rfl⟩) fun H5 e5 => ?_
    generalize h3 : (List.range 16).find? (fun b => decide (s.limits.getD b 0 < s.bidsWithBidder nums b)) = o3
    refine q_when (et_notN (ev_var rfl)) (fun hb H6 e6 => ?_) (fun hb H6 e6 => ?_)
    · cases o3 with
      | none => cases hb
      | some n => exact give H6 ((e14.trans e5).trans e6) (el_lst (ea_cons ev_c (ea_cons (ev_var rfl) ea_nil)) (by show 2 ≤ 100000; decide)) (statV3 h1 h2 h3) rfl
    cases o3 with
    | some n => cases hb
    | none =>
    have e16 := (e14.trans e5).trans e6
    have hc6 := hc.ex e16
    obtain ⟨⟨dx, loA, bdA, liA, las, bas, hs⟩, ok, hnp, hlt, hlen⟩ := hc6
    refine give H6 e16 (el_lst (ea_cons ev_c (ea_cons (ev_sumL (ns := nums.map fun n => (s.value (s.bid n) : Int)) ?_) ea_nil)) (by show 2 ≤ 100000; decide)) ?_ rfl
    · rw [List.map_map]
      refine el_compM (K := K) nums (fun n => V.int (s.value (s.bid n) : Int)) (ev_var rfl) (sq_of hnp) (iL_len _) (by rw [iL_len]; omega) (fun _ => rfl) (fun j x n H7 e7 hx hn => ?_)
      obtain ⟨n', hn', rfl⟩ := iL_inv hx
      rw [hn] at hn'
      cases hn'
      have hnl := hlt n (List.mem_of_getElem? hn)
      obtain ⟨b, hb⟩ : ∃ b, s.bids[n]? = some b := ⟨_, List.getElem?_eq_getElem hnl⟩
      obtain ⟨ba, hba, hbat⟩ := hs.bids.get hb
      obtain ⟨bdx, la, pa, bba, va, hbr⟩ := hbat.ex e7
      rw [bid_at hb]
      exact ev_fld (ev_ixL (K := K) (ev_fld (ev_var rfl) (e7 _ _ hs.at_) T.cl_Sale T.n_Sale_bids lk_Sale_bids) (ev_var rfl) (sq_of (e7 _ _ hs.bd)) (rL_get hba)) hbr.at_ T.cl_Bid T.n_Bid_value lk_Bid_value
    · rw [statV3 h1 h2 h3]
      show [iN 0, V.int ((s.totalValue nums : Nat) : Int)] = _
      unfold Sale.totalValue
      rw [sum_cast, List.map_map]
      rfl
end
end TB

namespace TB
open PySem PySem.Spec PyProof.Rows L2 Evl TimberAuction TBM AuctionSpec
open C8 (pe_c pe_mk pe_mt pe_mt0)
section
variable {K : PySem.W.Frag} {σ : L2.St} {H : Hp} {ta te tl : TE} {x : V}
/-- the greatest, the least of a list that stands -/
theorem ev_maxK {a : Addr} {l : List Nat} {m : Nat} (h : Ev ta σ H (.ref a)) (hx : SqL K H a (iL l)) (hm : m ∈ l) (ht : ∀ x ∈ l, x ≤ m) : Ev (tCB (rMax K) (tCons ta tNil)) σ H (iN m) := fun H1 e Q q =>
  h H1 e _ fun H2 e2 => ⟨a, toI l, rfl, by rw [← iL_ints]; exact ex_l (e.trans e2) hx, by unfold toI; rw [List.length_map]; exact List.length_pos_of_mem hm, fun y hy hy2 => by
    unfold toI at hy hy2
    obtain ⟨n, hn, rfl⟩ := List.mem_map.mp hy
    have h1 := ht n hn
    have h2 := hy2 (m : Int) (List.mem_map.mpr ⟨m, hm, rfl⟩)
    have : n = m := by omega
    rw [this]
    exact q H2 e2⟩
theorem ev_minK {a : Addr} {l : List Nat} {m : Nat} (h : Ev ta σ H (.ref a)) (hx : SqL K H a (iL l)) (hm : m ∈ l) (ht : ∀ x ∈ l, m ≤ x) : Ev (tCB (rMin K) (tCons ta tNil)) σ H (iN m) := fun H1 e Q q =>
  h H1 e _ fun H2 e2 => ⟨a, toI l, rfl, by rw [← iL_ints]; exact ex_l (e.trans e2) hx, by unfold toI; rw [List.length_map]; exact List.length_pos_of_mem hm, fun y hy hy2 => by
    unfold toI at hy hy2
    obtain ⟨n, hn, rfl⟩ := List.mem_map.mp hy
    have h1 := ht n hn
    have h2 := hy2 (m : Int) (List.mem_map.mpr ⟨m, hm, rfl⟩)
    have : n = m := by omega
    rw [this]
    exact q H2 e2⟩
theorem ev_maxN {l : List Nat} {m : Nat} (h : EvL ta σ H (iL l)) (hm : m ∈ l) (ht : ∀ x ∈ l, x ≤ m) : Ev (tCB (rMax K) (tCons ta tNil)) σ H (iN m) := fun H1 e Q q =>
  h H1 e _ fun p H2 _ e2 hp => (ev_maxK (σ := σ) (ta := tC (.ref p)) (H := H2) ev_c (sq_of hp) hm ht) H2 (Ex.refl _) Q fun H3 e3 => q H3 (e2.trans e3)
theorem el_sl2 {a : Addr} {xs : List V} {k : Int} (h : Ev te σ H (.ref a)) (hx : SqL K H a xs) : EvL (tSl2 K k te) σ H (evens (xs.drop k.toNat)) := fun H1 e Q q =>
  h H1 e _ fun H2 e2 => ⟨a, xs, rfl, ex_l (e.trans e2) hx, fun p hp => q p _ (fresh_back e2 hp) (e2.trans (Ex.new hp)) upd_same⟩
theorem evens_iL (l : List Nat) (k : Nat) : evens ((iL l).drop k) = iL (evens (l.drop k)) := by
  unfold iL
  rw [← List.map_drop, evens_map]
theorem el_rep {k : Int} {x : V} (ha : EvL ta σ H [x]) (hb : Ev te σ H (.int k)) (h0 : 0 ≤ k) (h1 : k ≤ 1000) : EvL (tOp rRep ta te) σ H (List.replicate k.toNat x) := fun H1 e Q q =>
  ha H1 e _ fun p H2 hp e2 h2 => hb H2 (e.trans e2) _ fun H3 e3 => ⟨p, k, [x], rfl, rfl, e3 _ _ h2, by omega, by omega, sz_of (by simp; omega), fun r hr => by
    rw [rep_one]
    exact q r _ (fresh_back (e2.trans e3) hr) ((e2.trans e3).trans (Ex.new hr)) upd_same⟩
theorem et_lenSet {a : Addr} {l : List Nat} (h : Ev te σ H (.ref a)) (hx : SqL K H a (iL l)) (hl : l.length ≤ 4000) : Ev (tLenSet K te) σ H (.int (distinct (toI l) : Nat)) := fun H1 e Q q =>
  h H1 e _ fun H2 e2 => ⟨a, toI l, rfl, by rw [← iL_ints]; exact ex_l (e.trans e2) hx, by unfold toI; rw [List.length_map]; exact hl, q H2 e2⟩
theorem ev_tup {ns : List Int} {r : R2} {x z : V} (ha : Ev ta σ H x) (hr : ∀ a H1, TupC K a ns → Ex H H1 → RV r x (.ref a) H1 z) : Ev (tOp r ta (tTupC K ns)) σ H z := fun H1 e Q q =>
  ha H1 e _ fun H2 e2 a ht => hr a H2 ht (e.trans e2) H2 (Ex.refl _) Q fun H3 e3 => q H3 (e2.trans e3)
theorem et_chain {n : Nat} {l : List Nat} : decide (((1 : Nat) : Int) ≤ (l.length : Int)) = decide (1 ≤ l.length) := decide_eq_decide.mpr (by omega)
end
theorem all_le {l : List Nat} {m h : Nat} (hm : m ∈ l) (ht : ∀ x ∈ l, x ≤ m) : decide (m ≤ h) = allAtMost h l := by
  unfold allAtMost
  rw [Bool.eq_iff_iff, decide_eq_true_eq, List.all_eq_true]
  constructor
  · intro c x hx
    have := ht x hx
    exact decide_eq_true (by omega)
  · intro c
    exact of_decide_eq_true (c m hm)
section
variable {P : Program} {w : World} {K : PySem.W.Frag} {mg : Str → Option Value} {base : Heap} {A : Ad}
/-! ### has_repeats -/
def R_has_repeats : List V → Hp → V → Prop := fun vs H z => ∃ p l, vs = [.ref p] ∧ H p = some (.lst (iL l)) ∧ l.length ≤ 4000 ∧ z = .bl (hasDuplicates l)
theorem c_has_repeats (T : Txt K mg A) : C8.Cal P w K mg base 1 "has_repeats" (spV R_has_repeats) [] := by
  refine calOf T.d_has_repeats sc_has_repeats (fun _ _ _ _ _ _ us hl => match us, hl with | [_], _ => rfl) (fun vs H Q E h => ?_) (fun f cdv Ar outer st H vs Q E hr h => ?_)
  · obtain ⟨_, ⟨p, l, rfl, _⟩, _⟩ := h
    rfl
  · obtain ⟨_, ⟨p, l, rfl, hp, hl, rfl⟩, kQ⟩ := h
    refine ⟨_, (pss_one (ps_ret (pe_cmpR op_lt (pe_lenSet (by rfl) T.b_len (by rfl) T.b_set (pv 0)) (pe_callB call_len_seq (by rfl) T.b_len boot_len (pa_cons (pv 0) pa_nil)) (nomark _)))), ?_⟩
    refine rt_ret (ev_is (ev_op (et_lenSet (K := K) (ev_var rfl) (sq_of hp) hl) (ev_len (K := K) (ev_var rfl) (sq_of hp)) rv_I0) ?_) kQ
    rw [← distinct_lt, iL_len]
    exact congrArg V.bl (decide_eq_decide.mpr Int.ofNat_lt)
/-! ### has_all -/
def R_has_all : List V → Hp → V → Prop := fun vs H z => ∃ p l n, vs = [.ref p, iN n] ∧ H p = some (.lst (iL l)) ∧ l.length ≤ 4000 ∧ z = .bl (!l.any fun x => decide (n ≤ x))
theorem c_has_all (T : Txt K mg A) : C8.Cal P w K mg base 1 "has_all" (spV R_has_all) [] := by
  refine calOf T.d_has_all sc_has_all (fun _ _ _ _ _ _ us hl => match us, hl with | [_, _], _ => rfl) (fun vs H Q E h => ?_) (fun f cdv Ar outer st H vs Q E hr h => ?_)
  · obtain ⟨_, ⟨p, l, n, rfl, _⟩, _⟩ := h
    rfl
  · obtain ⟨_, ⟨p, l, n, rfl, hp, hl, rfl⟩, kQ⟩ := h
    refine ⟨_, (pss_one (ps_ret (pe_callB (cr_all (by rfl)) (by rfl) T.b_all boot_all (pa_cons (pe_lc (own := [("number", 2)]) (tt := tYes) rfl sc_has_all.nd (pi_list (pv 0)) (blkOk_by (own := [("number", 2)]) (N := ["numbers", "count", "number"]) (sc := defScope s_has_all) (by decide +kernel)) (fun _ _ _ _ _ => (pg_name (i := 2) sc_has_all.nd rfl (Or.inl rfl))) (fun _ _ _ _ _ => pts_nil) (fun _ _ _ _ _ => (pe_cmpR op_lt (pv 2) (pv 1) (nomark _)))) pa_nil)))), ?_⟩
    refine rt_ret (ev_is (ev_allL (K := K) (bs := l.map fun (x : Nat) => decide ((x : Int) < (n : Int))) ?_) ?_) kQ
    · rw [List.map_map]
      refine el_compM (K := K) l (fun (x : Nat) => V.bl (decide ((x : Int) < (n : Int)))) (ev_var rfl) (sq_of hp) (iL_len _) (by rw [iL_len]; omega) (fun _ => rfl) (fun i x y H1 e1 hx hy => ?_)
      obtain ⟨n', hn', rfl⟩ := iL_inv hx
      rw [hy] at hn'
      cases hn'
      exact ev_op (ev_var rfl) (ev_var rfl) rv_I0
    · congr 1
      rw [List.all_map, Bool.eq_iff_iff, List.all_eq_true]
      simp only [Function.comp, id, decide_eq_true_eq, Bool.not_eq_true', List.any_eq_false]
      constructor
      · intro h x hx
        have := h x hx
        omega
      · intro h x hx
        have := h x hx
        omega
/-! ### is_grade_row -/
def R_is_grade_row : List V → Hp → V → Prop := fun vs H z => ∃ p l h, vs = [.ref p, iN h] ∧ H p = some (.lst (iL l)) ∧ z = .bl (inRange 1 10 l.length && allAtMost h l)
theorem c_is_grade_row (T : Txt K mg A) : C8.Cal P w K mg base 1 "is_grade_row" (spV R_is_grade_row) [] := by
  refine calOf T.d_is_grade_row sc_is_grade_row (fun _ _ _ _ _ _ us hl => match us, hl with | [_, _], _ => rfl) (fun vs H Q E h => ?_) (fun f cdv Ar outer st H vs Q E hr h => ?_)
  · obtain ⟨_, ⟨p, l, n, rfl, _⟩, _⟩ := h
    rfl
  · obtain ⟨_, ⟨p, l, n, rfl, hp, rfl⟩, kQ⟩ := h
    refine ⟨_, (pss_one (ps_ret (pe_and (pe_cmpR op_le pe_int (pe_callB call_len_seq (by rfl) T.b_len boot_len (pa_cons (pv 0) pa_nil)) (nomark _)) (pe_and (pe_cmpR op_le (pe_callB call_len_seq (by rfl) T.b_len boot_len (pa_cons (pv 0) pa_nil)) (pe_gi (by rfl) T.k_GRADES) (nomark _)) (pe_one (pe_cmpR op_le (pe_callB (cr_max (by rfl)) (by rfl) T.b_max boot_max (pa_cons (pv 0) pa_nil)) (pv 1) (nomark _))))))), ?_⟩
    refine rt_ret (ev_is (ev_andV (ev_op ev_c (ev_len (K := K) (ev_var rfl) (sq_of hp)) rv_I0) (b := decide (l.length ≤ 10) && allAtMost n l) fun h1 => ev_is (ev_andV (b := allAtMost n l) (ev_op (ev_len (K := K) (ev_var rfl) (sq_of hp)) ev_c rv_I0) fun _ => ?_) ?_) ?_) kQ
    · have hne : l ≠ [] := fun z => by
        subst z
        have := of_decide_eq_true h1
        simp [iL] at this
      obtain ⟨m, hm, ht⟩ := max_of hne
      refine ev_is (ev_op (ev_maxK (K := K) (ev_var rfl) (sq_of hp) hm ht) (ev_var rfl) rv_I0) ?_
      rw [← all_le hm ht]
      exact congrArg V.bl (decide_eq_decide.mpr Int.ofNat_le)
    · rw [iL_len]
      congr 2
      exact decide_eq_decide.mpr (by omega)
    · rw [iL_len]
      unfold inRange
      rw [Bool.and_assoc]
      congr 2
      exact decide_eq_decide.mpr (by omega)
/-! ### for_all_grades -/
def R_for_all_grades : List V → Hp → (V → Hp → Prop) → Prop := fun vs H Pz => ∃ p l, vs = [.ref p] ∧ H p = some (.lst (iL l)) ∧ l.length ≤ 10 ∧ Pz = fun v H2 => ∃ q, v = .ref q ∧ H q = none ∧ H2 q = some (.lst (iL (byGrade l)))
theorem c_for_all_grades (T : Txt K mg A) : C8.Cal P w K mg base 1 "for_all_grades" (spP R_for_all_grades) [] := by
  refine calOf T.d_for_all_grades sc_for_all_grades (fun _ _ _ _ _ _ us hl => match us, hl with | [_], _ => rfl) (fun vs H Q E h => ?_) (fun f cdv Ar outer st H vs Q E hr h => ?_)
  · obtain ⟨_, ⟨p, l, rfl, _⟩, _⟩ := h
    rfl
  · obtain ⟨_, ⟨p, l, rfl, hp, hl, rfl⟩, kQ⟩ := h
    refine ⟨_, (pss_one (ps_ret (pe_op op_cat (pv 0) (pe_op op_rep (pe_lst (pa_cons pe_int pa_nil)) (pe_op op_sub (pe_gi (by rfl) T.k_GRADES) (pe_callB call_len_seq (by rfl) T.b_len boot_len (pa_cons (pv 0) pa_nil))))))), ?_⟩
    refine s_retL (el_cat (ev_var rfl) hp (el_rep (el_lst (ea_cons ev_c ea_nil) (by show 1 ≤ 100000; decide)) (ev_op ev_c (ev_len (K := K) (ev_var rfl) (sq_of hp)) rv_I0) (by rw [iL_len]; omega) (by rw [iL_len]; omega)) (by rw [iL_len]; simp; omega)) fun q H1 nq e1 hq => ?_
    refine kQ _ H1 e1 ⟨q, rfl, nq, ?_⟩
    rw [hq, iL_len, ← byGrade_is hl]
    unfold iL
    rw [List.map_append, List.map_replicate, show ((10 : Int) - (l.length : Int)).toNat = 10 - l.length by omega]
    rfl
/-! ### is_bidder_row -/
def R_is_bidder_row : List V → Hp → V → Prop := fun vs H z => ∃ p l, vs = [.ref p] ∧ H p = some (.lst (iL l)) ∧ z = .bl (isBidderList l)
theorem c_is_bidder_row (T : Txt K mg A) : C8.Cal P w K mg base 1 "is_bidder_row" (spV R_is_bidder_row) [] := by
  refine calOf T.d_is_bidder_row sc_is_bidder_row (fun _ _ _ _ _ _ us hl => match us, hl with | [_], _ => rfl) (fun vs H Q E h => ?_) (fun f cdv Ar outer st H vs Q E hr h => ?_)
  · obtain ⟨_, ⟨p, l, rfl, _⟩, _⟩ := h
    rfl
  · obtain ⟨_, ⟨p, l, rfl, hp, rfl⟩, kQ⟩ := h
    refine ⟨_, (pss_cons (ps_if (pt_cmpR op_notIn_seq (pe_callB call_len_seq (by rfl) T.b_len boot_len (pa_cons (pv 0) pa_nil)) (pe_gtc (K := K) (by rfl) (by rfl) T.k_BIDDER_ROW_LENGTHS) (by with_unfolding_all rfl)) (pss_one (ps_ret pe_bl)) pss_nil)
        (pss_cons (ps_set (i := 1) sc_is_bidder_row.nd rfl (Or.inl rfl) (pe_slice2 (by decide) (pv 0)))
        (pss_one (ps_ret (pe_and (pe_cmpR op_le (pe_callB (cr_max (by rfl)) (by rfl) T.b_max boot_max (pa_cons (pe_slice2 (by decide) (pv 0)) pa_nil)) (pe_gi (by rfl) T.k_MAX_BIDDER) (nomark _)) (pe_and (pe_cmpR op_ge (pe_callB (cr_min (by rfl)) (by rfl) T.b_min boot_min (pa_cons (pv 1) pa_nil)) (pe_gi (by rfl) T.k_MIN_WEIGHT) (nomark _)) (pe_one (pe_cmpR op_le (pe_callB (cr_max (by rfl)) (by rfl) T.b_max boot_max (pa_cons (pv 1) pa_nil)) (pe_gi (by rfl) T.k_MAX_WEIGHT) (nomark _))))))))), ?_⟩
    have hin : inV (.int ((iL l).length : Int)) (iL [2, 4, 6, 8]) = [2, 4, 6, 8].contains l.length := by
      rw [iL_len]
      exact inV_iN
    refine q_when (b := !([2, 4, 6, 8].contains l.length)) (et_test (ev_is (ev_tup (ev_len (K := K) (ev_var rfl) (sq_of hp)) fun a H1 ht _ => rv_niT (xs := iL [2, 4, 6, 8]) (ht H1) rfl rfl) (by rw [hin]))) (fun hb H1 e1 => ?_) (fun hb H1 e1 => ?_)
    · refine rt_ret ev_c ?_
      have : isBidderList l = false := by
        unfold isBidderList
        rw [show [2, 4, 6, 8].contains l.length = false by simpa using hb]
        rfl
      rw [this] at kQ
      exact RetV.mono kQ e1
    · have hc : [2, 4, 6, 8].contains l.length = true := by
        rw [← Bool.not_eq_false']
        exact hb
      have hlen : l.length = 2 ∨ l.length = 4 ∨ l.length = 6 ∨ l.length = 8 := by simpa using List.contains_iff_mem.mp hc
      obtain ⟨hev1, hev2⟩ := evens_pairs l (by omega)
      have hpl := pairs_len l
      have hne1 : (pairsOf l).map (·.1) ≠ [] := fun z => by
        have := congrArg List.length z
        simp at this
        rw [this] at hpl
        simp at hpl
        omega
      have hne2 : (pairsOf l).map (·.2) ≠ [] := fun z => by
        have := congrArg List.length z
        simp at this
        rw [this] at hpl
        simp at hpl
        omega
      obtain ⟨m1, hm1, ht1⟩ := max_of hne1
      obtain ⟨m2, hm2, ht2⟩ := max_of hne2
      obtain ⟨m3, hm3, ht3⟩ := min_of hne2
      refine q_asgL (el_sl2 (K := K) (ev_var rfl) (sq_of (e1 _ _ hp))) fun q H2 nq e2 hq => ?_
      have hq' : H2 q = some (.lst (iL ((pairsOf l).map (·.2)))) := by
        rw [hq, show (1 : Int).toNat = 1 from rfl, evens_iL, hev2]
      have hs0 : EvL (tSl2 K 0 (tVar 0)) [some (.ref p), some (.ref q)] H2 (iL ((pairsOf l).map (·.1))) := by
        have := el_sl2 (K := K) (te := tVar 0) (σ := [some (.ref p), some (.ref q)]) (H := H2) (a := p) (xs := iL l) (k := 0) (ev_var rfl) (sq_of (e2 _ _ (e1 _ _ hp)))
        rw [show (0 : Int).toNat = 0 from rfl, evens_iL] at this
        rw [← hev1]
        exact this
      refine rt_ret (ev_is (ev_andV (ev_op (ev_maxN (K := K) hs0 hm1 ht1) ev_c rv_I0) (b := decide (1 ≤ m3) && decide (m2 ≤ 1000)) fun _ => ev_is (ev_andV (b := decide (m2 ≤ 1000)) (ev_op (ev_minK (K := K) (ev_var rfl) (sq_of hq') hm3 ht3) ev_c rv_I0) fun _ => ev_is (ev_op (ev_maxK (K := K) (ev_var rfl) (sq_of hq') hm2 ht2) ev_c rv_I0) ?_) ?_) ?_) (RetV.mono kQ (e1.trans e2))
      · exact congrArg V.bl (decide_eq_decide.mpr (by omega))
      · congr 2
        exact decide_eq_decide.mpr (by omega)
      · congr 1
        unfold isBidderList
        rw [hc, Bool.true_and, Bool.eq_iff_iff]
        simp only [Bool.and_eq_true, decide_eq_true_eq, List.all_eq_true, inRange]
        constructor
        · rintro ⟨h1, h2, h3⟩ e he
          have g1 := ht1 e.1 (List.mem_map.mpr ⟨e, he, rfl⟩)
          have g2 := ht2 e.2 (List.mem_map.mpr ⟨e, he, rfl⟩)
          have g3 := ht3 e.2 (List.mem_map.mpr ⟨e, he, rfl⟩)
          omega
        · intro h
          obtain ⟨x1, hx1, rfl⟩ := List.mem_map.mp hm1
          obtain ⟨x2, hx2, rfl⟩ := List.mem_map.mp hm2
          obtain ⟨x3, hx3, rfl⟩ := List.mem_map.mp hm3
          have g1 := h x1 hx1
          have g2 := h x2 hx2
          have g3 := h x3 hx3
          omega
end
end TB

namespace TB
open PySem PySem.Spec PyProof.Rows L2 Evl TimberAuction TBM AuctionSpec
open C8 (pe_c pe_mk pe_mt pe_mt0)
section
variable {P : Program} {w : World} {K : PySem.W.Frag} {mg : Str → Option Value} {base : Heap} {A : Ad}
/-! ### common_divisor -/
def R_common_divisor : List V → Hp → V → Prop := fun vs H z => ∃ a b : Nat, vs = [iN a, iN b] ∧ z = iN (Nat.gcd a b)
theorem c_common_divisor (T : Txt K mg A) : C8.Cal P w K mg base 1 "common_divisor" (spV R_common_divisor) [] := by
  refine calOf T.d_common_divisor sc_common_divisor (fun _ _ _ _ _ _ us hl => match us, hl with | [_, _], _ => rfl) (fun vs H Q E h => ?_) (fun f cdv Ar outer st H vs Q E hr h => ?_)
  · obtain ⟨_, ⟨a, b, rfl, _⟩, _⟩ := h
    rfl
  · obtain ⟨_, ⟨a, b, rfl, rfl⟩, kQ⟩ := h
    refine ⟨_, (pss_cons (ps_while PassesOwn.never (pt_cmpR op_ne (pv 1) pe_int (nomark _)) (pss_cons (ps_set (i := 2) sc_common_divisor.nd rfl (Or.inl rfl) (pe_op op_mod (pv 0) (pv 1)))
        (pss_cons (ps_set (i := 0) sc_common_divisor.nd rfl (Or.inl rfl) (pv 1))
        (pss_one (ps_set (i := 1) sc_common_divisor.nd rfl (Or.inl rfl) (pv 2))))))
        (pss_one (ps_ret (pv 0)))), ?_⟩
    refine q_while (fun m σ' H' => ∃ x y y2, σ' = [some (iN x), some (iN y), y2] ∧ m = y ∧ Nat.gcd x y = Nat.gcd a b ∧ Ex H H') b ⟨a, b, none, rfl, rfl, rfl, Ex.refl _⟩ ?_
    rintro y σ' H' ⟨x, y', y2, rfl, rfl, hg, e⟩
    refine ⟨_, et_test (ev_op (ev_var rfl) ev_c (rv_ne rfl)), fun hb H1 e1 => ?_, fun hb H1 e1 => ?_⟩
    · have hy : 0 < y := by
        rcases Nat.eq_zero_or_pos y with z | z
        · subst z
          exact absurd hb (by decide)
        · exact z
      refine ⟨fun σ2 H2 => ∃ x' y' y2', σ2 = [some (iN x'), some (iN y'), y2'] ∧ y' < y ∧ Nat.gcd x' y' = Nat.gcd a b ∧ Ex H H2, ?_, ?_⟩
      · rintro σ2 H2 ⟨x', y', y2', rfl, hlt, hg', e'⟩
        exact ⟨y', hlt, x', y', y2', rfl, rfl, hg', e'⟩
      · refine q_asg (v := iN (x % y)) (ev_is (ev_op (ev_var rfl) (ev_var rfl) (rv_I (by show (0 : Int) < (y : Int); omega))) ?_) fun H2 e2 => ?_
        · show V.int ((x : Int) % (y : Int)) = V.int ((x % y : Nat) : Int)
          rw [Int.natCast_emod]
        · refine q_asg (ev_var rfl) fun H3 e3 => ?_
          refine s_asg (ev_var rfl) fun H4 e4 => ?_
          refine ⟨y, x % y, _, rfl, Nat.mod_lt _ hy, ?_, (((e.trans e1).trans e2).trans e3).trans e4⟩
          rw [← hg, Nat.gcd_comm x y, Nat.gcd_rec y x, Nat.gcd_comm]
    · have hy : y = 0 := by
        have : decide (iN y = V.int 0) = true := by simpa using hb
        have := V.int.inj (of_decide_eq_true this)
        omega
      subst hy
      refine rt_ret (ev_var rfl) ?_
      rw [← hg, Nat.gcd_zero_right] at kQ
      exact RetV.mono kQ (e.trans e1)
/-! ### lowest_terms -/
def FracAt (H : Hp) (p : Addr) (n d : Nat) : Prop := H p = some (.tup [iN n, iN d])
def R_lowest_terms : List V → Hp → (V → Hp → Prop) → Prop := fun vs H Pz => ∃ a b : Nat, vs = [iN a, iN b] ∧ 0 < b ∧ b < 2 ^ 8000 ∧ Pz = fun v H2 => ∃ p, v = .ref p ∧ H p = none ∧ FracAt H2 p (a / Nat.gcd a b) (b / Nat.gcd a b)
theorem c_lowest_terms (T : Txt K mg A) : C8.Cal P w K mg base 3 "lowest_terms" (spP R_lowest_terms) [] := by
  have c_common_divisor : C8.Cal P w K mg base 1 "common_divisor" (spV R_common_divisor) [] := c_common_divisor T
  refine calOf T.d_lowest_terms sc_lowest_terms (fun _ _ _ _ _ _ us hl => match us, hl with | [_, _], _ => rfl) (fun vs H Q E h => ?_) (fun f cdv Ar outer st H vs Q E hr h => ?_)
  · obtain ⟨_, ⟨a, b, rfl, _⟩, _⟩ := h
    rfl
  · obtain ⟨_, ⟨a, b, rfl, hb0, hbs, rfl⟩, kQ⟩ := h
    refine ⟨_, (pss_cons (ps_set (i := 2) sc_lowest_terms.nd rfl (Or.inl rfl) (pe_c c_common_divisor hr (by decide) (by rfl) (pa_cons (pv 0) (pa_cons (pv 1) pa_nil))))
        (pss_one (ps_ret (pe_tup (pa_cons (pe_op op_fdivW (pv 0) (pv 2)) (pa_cons (pe_op op_fdivW (pv 1) (pv 2)) pa_nil)))))), ?_⟩
    refine q_asg (ev_callV (ea_cons (ev_var rfl) (ea_cons (ev_var rfl) ea_nil)) fun H1 e1 => ⟨a, b, rfl, rfl⟩) fun H1 e1 => ?_
    have hg : 0 < Nat.gcd a b := Nat.gcd_pos_of_pos_right _ hb0
    have hgs : Nat.gcd a b < 2 ^ 8000 := Nat.lt_of_le_of_lt (Nat.gcd_le_right _ hb0) hbs
    have hw : CDivW (a : Int) ((Nat.gcd a b : Nat) : Int) := wide_div (b := 8000) (by omega) (by rw [Int.natAbs_natCast]; exact hgs) (by decide) (by decide)
    have hw2 : CDivW (b : Int) ((Nat.gcd a b : Nat) : Int) := wide_div (b := 8000) (by omega) (by rw [Int.natAbs_natCast]; exact hgs) (by decide) (by decide)
    refine s_retU (eu_tup (ea_cons (ev_op (ev_var rfl) (ev_var rfl) (rv_I hw)) (ea_cons (ev_op (ev_var rfl) (ev_var rfl) (rv_I hw2)) ea_nil)) (by show 2 ≤ 100000; decide)) fun p H2 np e2 hp => ?_
    refine kQ _ H2 (e1.trans e2) ⟨p, rfl, fresh_back e1 np, ?_⟩
    show H2 p = some (.tup [iN _, iN _])
    rw [hp]
    show some (HO.tup [V.int ((a : Int) / ((Nat.gcd a b : Nat) : Int)), V.int ((b : Int) / ((Nat.gcd a b : Nat) : Int))]) = _
    rw [← Int.natCast_ediv, ← Int.natCast_ediv]
    rfl
/-! ### Lot(..) -/
def fLotL : List V → List (Str × V)
  | [a, b] => fLot a b
  | _ => []
theorem m_Lot (T : Txt K mg A) : C8.Mak P w K mg base 1 "Lot" A.Lot (spInit A.Lot 2 fLotL) [] := by
  refine makOf T.m_Lot sc_Lot___init__ (fun _ _ _ _ _ _ us hl => match us, hl with | [_, _, _], _ => rfl) (fun vs H Q E h => ?_) (fun f cdv Ar outer st H vs Q E hr h => ?_)
  · obtain ⟨p, dx, args, rfl, hn, _⟩ := h
    simp [hn]
  · obtain ⟨p, dx, args, rfl, hn, hp, kQ⟩ := h
    obtain ⟨v0, v1, rfl⟩ : ∃ a b, args = [a, b] := by
      match args, hn with
      | [a, b], _ => exact ⟨a, b, rfl⟩
    refine ⟨_, (pss_cons (ps_fld (pv 0) (pv 1) rfl)
        (pss_one (ps_fld (pv 0) (pv 2) rfl))), ?_⟩
    refine ⟨_, rfl, _, rfl, p, A.Lot, dx, _, rfl, hp, T.cl_Lot, T.n_Lot_reserve, (by show 0 < 1000; decide), ?_⟩
    refine ⟨_, rfl, _, rfl, p, A.Lot, dx, _, rfl, upd_same, T.cl_Lot, T.n_Lot_volumes, (by show 1 < 1000; decide), ?_⟩
    rw [upd_upd]
    exact kQ
/-! ### Reader -/
def ReadAt (A : Ad) (K : PySem.W.Frag) (H : Hp) (r c dx : Addr) (ns : List Int) (pos : Nat) : Prop := H r = some (.ins A.Reader dx (fReader (.ref c) (iN pos))) ∧ SqL K H c (ns.map V.int)
theorem sq_ins {H : Hp} {r c C dx : Addr} {fs gs : List (Str × V)} {xs : List V} (h : SqL K H c xs) (hr : H r = some (.ins C dx fs)) : SqL K (upd H r (.ins C dx gs)) c xs := by
  rcases h with (h | ⟨o, h⟩) | h
  · exact .inl (.inl (by rw [upd_ne (ne_of h hr (by intro z; cases z))]; exact h))
  · exact .inl (.inr ⟨o, by rw [upd_ne (ne_of h hr (by intro z; cases z))]; exact h⟩)
  · exact .inr h
theorem cut_is {ns : List Int} {pos n : Nat} : cutV (ns.map V.int) (some (pos : Int)) (some ((pos : Int) + (n : Int))) = ((ns.drop pos).take n).map V.int := by
  unfold cutV
  rw [show ((pos : Int) + (n : Int)) = ((pos + n : Nat) : Int) by omega, HT.sIx_nat, HT.sIx_nat, List.length_map, ← List.map_drop, ← List.map_take]
  congr 1
  by_cases h : pos ≤ ns.length
  · rw [Nat.min_eq_left h]
    by_cases h2 : pos + n ≤ ns.length
    · rw [Nat.min_eq_left h2]
      congr 1
      omega
    · rw [Nat.min_eq_right (by omega), List.take_of_length_le (by rw [List.length_drop]; omega), List.take_of_length_le (by rw [List.length_drop]; omega)]
  · rw [Nat.min_eq_right (show ns.length ≤ pos + n by omega), Nat.min_eq_right (show ns.length ≤ pos by omega), List.drop_length, List.drop_eq_nil_of_le (show ns.length ≤ pos by omega)]
    simp
/-- the reader goes on: what is handed back, where it stands then -/
def Moves (A : Ad) (H : Hp) (r c dx : Addr) (pos : Nat) (H' : Hp) : Prop := H' r = some (.ins A.Reader dx (fReader (.ref c) (iN pos))) ∧ ∀ b o, H b = some o → b ≠ r → H' b = some o
def sp_next_numbers (A : Ad) (K : PySem.W.Frag) : Sp := fun vs H Q _ => ∃ r c dx ns pos n, vs = [.ref r, iN n] ∧ ReadAt A K H r c dx ns pos ∧
  ∀ p H', H p = none → Moves A H r c dx (pos + n) H' → H' p = some (.lst (((ns.drop pos).take n).map V.int)) → Q (.ref p) H'
theorem t_next_numbers (T : Txt K mg A) : C8.Met P w K mg base 1 A.Reader "next_numbers" (sp_next_numbers A K) [] := by
  refine metOf T.cl_Reader T.t_Reader_next_numbers sc_Reader_next_numbers (fun _ _ _ _ _ _ us hl => match us, hl with | [_, _], _ => rfl) (fun vs H Q E h => ?_) (fun f cdv Ar outer st H vs Q E hr h => ?_)
  · obtain ⟨r, c, dx, ns, pos, n, rfl, _⟩ := h
    rfl
  · obtain ⟨r, c, dx, ns, pos, n, rfl, ⟨hrd, hc⟩, kQ⟩ := h
    refine ⟨_, (pss_cons (ps_set (i := 2) sc_Reader_next_numbers.nd rfl (Or.inl rfl) (pe_fld (pv 0) rfl))
        (pss_cons (ps_fld (pv 0) (pe_op op_add (pv 2) (pv 1)) rfl)
        (pss_one (ps_ret (pe_slice sl_list (pe_fld (pv 0) rfl) (po_some (pv 2)) (po_some (pe_fld (pv 0) rfl))))))), ?_⟩
    refine q_asg (ev_fld (ev_var rfl) hrd T.cl_Reader T.n_Reader_place lk_Reader_place) fun H1 e1 => ?_
    have hrd1 := e1 _ _ hrd
    refine (ev_op (ev_var rfl) (ev_var rfl) rv_I0) H1 (Ex.refl _) _ fun H2 e2 => ?_
    have hrd2 := e2 _ _ hrd1
    refine ⟨_, rfl, r, A.Reader, dx, _, rfl, hrd2, T.cl_Reader, T.n_Reader_place, (by show 2 < 1000; decide), ?_⟩
    rw [put_Reader_place]
    have e12 := e1.trans e2
    refine s_retL (el_sl (K := K) (xs := ns.map V.int) (ev_fld (ev_var rfl) upd_same T.cl_Reader T.n_Reader_source lk_Reader_source) (eo_some (ev_var rfl)) (eo_some (ev_fld (ev_var rfl) upd_same T.cl_Reader T.n_Reader_place lk_Reader_place)) (sq_ins (ex_l e12 hc) hrd2)) fun p H3 np e3 hp => ?_
    have npr : p ≠ r := fun z => by
      rw [z, upd_same] at np
      cases np
    rw [upd_ne npr] at np
    refine kQ p H3 (fresh_back e12 np) ⟨?_, fun b o hb hbr => e3 _ _ (by rw [upd_ne hbr]; exact e12 _ _ hb)⟩ ?_
    · rw [e3 _ _ upd_same]
      rfl
    · rw [hp, cut_is]
def sp_next_number (A : Ad) (K : PySem.W.Frag) : Sp := fun vs H Q _ => ∃ r c dx ns pos z, vs = [.ref r] ∧ ReadAt A K H r c dx ns pos ∧ ns[pos]? = some z ∧ ∀ H', Moves A H r c dx (pos + 1) H' → Q (.int z) H'
theorem t_next_number (T : Txt K mg A) : C8.Met P w K mg base 3 A.Reader "next_number" (sp_next_number A K) [] := by
  have t_next_numbers : C8.Met P w K mg base 1 A.Reader "next_numbers" (sp_next_numbers A K) [] := t_next_numbers T
  refine metOf T.cl_Reader T.t_Reader_next_number sc_Reader_next_number (fun _ _ _ _ _ _ us hl => match us, hl with | [_], _ => rfl) (fun vs H Q E h => ?_) (fun f cdv Ar outer st H vs Q E hr h => ?_)
  · obtain ⟨r, c, dx, ns, pos, z, rfl, _⟩ := h
    rfl
  · obtain ⟨r, c, dx, ns, pos, z, rfl, ⟨hrd, hc⟩, hz, kQ⟩ := h
    refine ⟨_, (pss_one (ps_ret (pe_ix ix_list (pe_mt t_next_numbers hr (by decide) (pv 0) (pa_cons pe_int pa_nil)) pe_int (fun _ _ => rfl)))), ?_⟩
    refine ⟨_, rfl, r, dx, _, rfl, hrd, nm_Reader_next_numbers, r, c, dx, ns, pos, 1, rfl, ⟨hrd, hc⟩, fun p H1 np mv hp => ?_⟩
    refine ⟨p, _, 0, .int z, rfl, rfl, sq_of hp, ?_, kQ H1 mv⟩
    refine atI_nat (j := 0) ?_
    rw [List.getElem?_map, List.getElem?_take, if_pos (by decide), List.getElem?_drop, Nat.add_zero, hz]
    rfl
def sp_next_row (A : Ad) (K : PySem.W.Frag) : Sp := fun vs H Q _ => ∃ r c dx ns pos n, vs = [.ref r] ∧ ReadAt A K H r c dx ns pos ∧ ns[pos]? = some ((n : Nat) : Int) ∧
  ∀ p H', H p = none → Moves A H r c dx (pos + 1 + n) H' → H' p = some (.lst (((ns.drop (pos + 1)).take n).map V.int)) → Q (.ref p) H'
theorem Moves.read {H H' : Hp} {r c dx : Addr} {ns : List Int} {pos pos' : Nat} (h : ReadAt A K H r c dx ns pos) (m : Moves A H r c dx pos' H') : ReadAt A K H' r c dx ns pos' := by
  refine ⟨m.1, ?_⟩
  rcases h.2 with (h2 | ⟨o, h2⟩) | h2
  · exact .inl (.inl (m.2 _ _ h2 (ne_of h2 h.1 (by intro z; cases z))))
  · exact .inl (.inr ⟨o, m.2 _ _ h2 (ne_of h2 h.1 (by intro z; cases z))⟩)
  · exact .inr h2
theorem Moves.fresh {H H' : Hp} {r c dx : Addr} {pos : Nat} (m : Moves A H r c dx pos H') {p : Addr} (hr : H r ≠ none) (h : H' p = none) : H p = none := by
  cases q : H p with
  | none => rfl
  | some o =>
    by_cases e : p = r
    · subst e
      rw [m.1] at h
      cases h
    · rw [m.2 _ _ q e] at h
      cases h
theorem Moves.trans {H H1 H2 : Hp} {r c dx : Addr} {pos pos' : Nat} (a : Moves A H r c dx pos H1) (b : Moves A H1 r c dx pos' H2) : Moves A H r c dx pos' H2 := ⟨b.1, fun x o h ne => b.2 x o (a.2 x o h ne) ne⟩
theorem t_next_row (T : Txt K mg A) : C8.Met P w K mg base 5 A.Reader "next_row" (sp_next_row A K) [] := by
  have t_next_numbers : C8.Met P w K mg base 1 A.Reader "next_numbers" (sp_next_numbers A K) [] := t_next_numbers T
  have t_next_number : C8.Met P w K mg base 3 A.Reader "next_number" (sp_next_number A K) [] := t_next_number T
  refine metOf T.cl_Reader T.t_Reader_next_row sc_Reader_next_row (fun _ _ _ _ _ _ us hl => match us, hl with | [_], _ => rfl) (fun vs H Q E h => ?_) (fun f cdv Ar outer st H vs Q E hr h => ?_)
  · obtain ⟨r, c, dx, ns, pos, z, rfl, _⟩ := h
    rfl
  · obtain ⟨r, c, dx, ns, pos, n, rfl, hrd, hz, kQ⟩ := h
    refine ⟨_, (pss_one (ps_ret (pe_mt t_next_numbers hr (by decide) (pv 0) (pa_cons (pe_mt0 t_next_number hr (by decide) (pv 0)) pa_nil)))), ?_⟩
    refine ⟨_, rfl, r, dx, _, rfl, hrd.1, nm_Reader_next_numbers, ?_⟩
    refine ⟨_, rfl, r, dx, _, rfl, hrd.1, nm_Reader_next_number, r, c, dx, ns, pos, _, rfl, hrd, hz, fun H1 m1 => ?_⟩
    refine ⟨r, c, dx, ns, pos + 1, n, rfl, m1.read hrd, fun p H2 np m2 hp => kQ p H2 (m1.fresh (by rw [hrd.1]; simp) np) (m1.trans m2) hp⟩
theorem t_at_end (T : Txt K mg A) : C8.Met P w K mg base 1 A.Reader "at_end" (spV fun vs H z => ∃ r c dx ns pos, vs = [.ref r] ∧ ReadAt A K H r c dx ns pos ∧ z = .bl (decide (ns.length ≤ pos))) [] := by
  refine metOf T.cl_Reader T.t_Reader_at_end sc_Reader_at_end (fun _ _ _ _ _ _ us hl => match us, hl with | [_], _ => rfl) (fun vs H Q E h => ?_) (fun f cdv Ar outer st H vs Q E hr h => ?_)
  · obtain ⟨_, ⟨r, c, dx, ns, pos, rfl, _⟩, _⟩ := h
    rfl
  · obtain ⟨_, ⟨r, c, dx, ns, pos, rfl, ⟨hrd, hc⟩, rfl⟩, kQ⟩ := h
    refine ⟨_, (pss_one (ps_ret (pe_cmpR op_ge (pe_fld (pv 0) rfl) (pe_callB call_len_seq (by rfl) T.b_len boot_len (pa_cons (pe_fld (pv 0) rfl) pa_nil)) (nomark _)))), ?_⟩
    refine rt_ret (ev_is (ev_op (ev_fld (ev_var rfl) hrd T.cl_Reader T.n_Reader_place lk_Reader_place) (ev_len (K := K) (ev_fld (ev_var rfl) hrd T.cl_Reader T.n_Reader_source lk_Reader_source) hc) rv_I0) ?_) kQ
    rw [List.length_map]
    exact congrArg V.bl (decide_eq_decide.mpr Int.ofNat_le)
end
end TB

namespace TB
open PySem PySem.Spec PySem.W PyProof.Rows
/-! ### list(zip(a, b)) -/
theorem zip_no_len : typeLookup (.type "zip") "__len__" = pure none := am_miss_of_fast (by decide +kernel)
theorem zip_no_hint : typeLookup (.type "zip") "__length_hint__" = pure none := am_miss_of_fast (by decide +kernel)
theorem ne_lo {a b lo : Nat} (h : a < lo) (h' : lo ≤ b) : b ≠ a := by omega
/-- the zip behind i draws; d: the list that it fills -/
structure ZipAt (h : Heap) (z TI TO i1 i2 l1 l2 d : Addr) (xs ys : Array Value) (i : Nat) : Prop where
  ti : IsPair h TI (.ref i1) (.ref i2)
  it1 : h.IsListIter i1 l1 i
  it2 : h.IsListIter i2 l2 i
  a1 : h.IsList l1 xs
  a2 : h.IsList l2 ys
  st : (IsZip h z TI TO .none ∧ ∃ a b, IsPair h TO a b) ∨ ∃ T f oT, IsZipHeld h z TI TO T f ∧ h.get? T = some oT ∧ T ≠ z ∧ T ≠ i1 ∧ T ≠ i2 ∧ T ≠ d
structure Off (z TI TO i1 i2 l1 l2 d : Addr) : Prop where
  z : d ≠ z
  ti : d ≠ TI
  to : d ≠ TO
  i1 : d ≠ i1
  i2 : d ≠ i2
  l1 : d ≠ l1
  l2 : d ≠ l2
section
variable {prog : Program} {w : World} {A : Around} {R : Result → Shared → Prop} {z TI TO i1 i2 l1 l2 d : Addr} {xs ys : Array Value}
theorem ZipAt.go {h h' : Heap} {i : Nat} (Z : ZipAt h z TI TO i1 i2 l1 l2 d xs ys i) (O : Off z TI TO i1 i2 l1 l2 d) (hk : ∀ b o, b ≠ d → h.get? b = some o → h'.get? b = some o) : ZipAt h' z TI TO i1 i2 l1 l2 d xs ys i := by
  refine ⟨hk _ _ (Ne.symm O.ti) Z.ti, Z.it1.at fun o e => hk _ o (Ne.symm O.i1) e, Z.it2.at fun o e => hk _ o (Ne.symm O.i2) e, Z.a1.at fun o e => hk _ o (Ne.symm O.l1) e, Z.a2.at fun o e => hk _ o (Ne.symm O.l2) e, ?_⟩
  rcases Z.st with ⟨hz, a, b, hTO⟩ | ⟨T, f, oT, hz, hT, r1, r2, r3, r4⟩
  · exact .inl ⟨hk _ _ (Ne.symm O.z) hz, a, b, hk _ _ (Ne.symm O.to) hTO⟩
  · exact .inr ⟨T, f, oT, hk _ _ (Ne.symm O.z) hz, hk _ _ r4 hT, r1, r2, r3, r4⟩
/-- one draw -/
theorem zip_draw {s : Shared} {i : Nat} {Q : Option Value → Shared → Prop} {E : Value → Shared → Prop} (D : ZipApart z TI TO i1 i2 l1 l2) (Z : ZipAt s.heap z TI TO i1 i2 l1 l2 d xs ys i) (hd : d < s.heap.objs.size) (hx : i < xs.size) (hy : i < ys.size)
    (hQ : ∀ h', ZipAt h' z TI TO i1 i2 l1 l2 d xs ys (i + 1) → IsPair h' s.heap.objs.size xs[i] ys[i] → (∀ c o, c ≠ z → c ≠ TO → c ≠ i1 → c ≠ i2 → s.heap.get? c = some o → h'.get? c = some o) → Q (some (.ref s.heap.objs.size)) { s with heap := h' }) :
    wpAny (model prog w) A (pyNext (.ref z)) Q E s := by
  obtain ⟨hTI, h1, h2, hl1, hl2, hz⟩ := Z
  have ex := Array.getElem?_eq_getElem hx
  have ey := Array.getElem?_eq_getElem hy
  have lt : ∀ {c o}, s.heap.get? c = some o → s.heap.objs.size ≠ c := fun e => Nat.ne_of_gt (Heap.lt_size e)
  have n1 : s.heap.objs.size ≠ i1 := let ⟨_, e, _⟩ := h1; lt e
  have n2 : s.heap.objs.size ≠ i2 := let ⟨_, e, _⟩ := h2; lt e
  rcases hz with ⟨hz, a, b, hTO⟩ | ⟨T, f, oT, hz, hT, r1, r2, r3, r4⟩
  · refine wpAny_pyNext_zip_item D hz hTI hTO h1 h2 hl1 hl2 ex ey fun h' a1 a2 a3 a4 a5 a6 hk => ?_
    exact hQ h' ⟨hk _ _ D.TIz D.TITO D.TIi1 D.TIi2 hTI, a3, a4, hl1.at fun o e => hk _ o D.l1z D.l1TO D.l1i1 D.l1i2 e, hl2.at fun o e => hk _ o D.l2z D.l2TO D.l2i1 D.l2i2 e, .inr ⟨s.heap.objs.size, false, _, a1, a5, lt hz, n1, n2, Nat.ne_of_gt hd⟩⟩ a5 hk
  · refine wpAny_pyNext_zip_item_held D hz hT hTI h1 h2 hl1 hl2 ex ey fun h' a1 a3 a4 a5 a6 hk => ?_
    exact hQ h' ⟨hk _ _ D.TIz D.TIi1 D.TIi2 hTI, a3, a4, hl1.at fun o e => hk _ o D.l1z D.l1i1 D.l1i2 e, hl2.at fun o e => hk _ o D.l2z D.l2i1 D.l2i2 e, .inr ⟨T, true, oT, a1, hk _ _ r1 r2 r3 hT, r1, r2, r3, r4⟩⟩ a5 fun c o c1 _ c3 c4 e => hk c o c1 c3 c4 e
theorem zip_stop {s : Shared} {i : Nat} {Q : Option Value → Shared → Prop} {E : Value → Shared → Prop} (hA : A.handled = none) (D : ZipApart z TI TO i1 i2 l1 l2) (Z : ZipAt s.heap z TI TO i1 i2 l1 l2 d xs ys i) (hend : xs.size ≤ i ∨ ys.size ≤ i)
    (hQ : ∀ h', (∀ c o, c ≠ z → c ≠ TO → c ≠ i1 → c ≠ i2 → s.heap.get? c = some o → h'.get? c = some o) → Q none { s with heap := h' }) : wpAny (model prog w) A (pyNext (.ref z)) Q E s := by
  obtain ⟨hTI, h1, h2, hl1, hl2, hz⟩ := Z
  have hend' : xs[i]? = none ∨ ys[i]? = none := by
    rcases hend with h | h
    · exact .inl (Array.getElem?_eq_none h)
    · exact .inr (Array.getElem?_eq_none h)
  rcases hz with ⟨hz, a, b, hTO⟩ | ⟨T, f, oT, hz, hT, r1, r2, r3, r4⟩
  · exact wpAny_pyNext_zip_end hA D hz hTI hTO h1 h2 hl1 hl2 hend' hQ
  · exact wpAny_pyNext_zip_end_held hA D hz hT hTI h1 h2 hl1 hl2 hend' fun h' hk => hQ h' fun c o c1 _ c3 c4 e => hk c o c1 c3 c4 e
/-- what stands in the list behind i draws -/
def Drawn (h : Heap) (lo d : Addr) (xs ys : Array Value) (Ts : List Addr) : Prop := (Ts.Nodup ∧ ∀ T ∈ Ts, lo ≤ T ∧ T ≠ d) ∧ ∀ (j : Nat) (T : Addr), Ts[j]? = some T → ∃ x y, xs[j]? = some x ∧ ys[j]? = some y ∧ IsPair h T x y
theorem keepS {s g0 : Shared} {h' : Heap} (e : s = { g0 with heap := s.heap }) : ({ s with heap := h' } : Shared) = { g0 with heap := h' } := by rw [e]
theorem zip_fill (hA : A.handled = none) (D : ZipApart z TI TO i1 i2 l1 l2) (O : Off z TI TO i1 i2 l1 l2 d) (hz : xs.size = ys.size) (hn : xs.size ≤ 1000) (lo : Nat) (h0 : Heap) (hzl : z < lo ∧ TO < lo ∧ i1 < lo ∧ i2 < lo) (res : Value) (g0 : Shared)
    (hR : ∀ s' Ts c, Drawn s'.heap lo d xs ys Ts → Ts.length = xs.size → s'.heap.get? d = some { cls := .type "list", dict := none, data := .seq (Ts.map Value.ref).toArray c, slots := #[] } →
      (∀ b o, b ≠ d → b ≠ z → b ≠ TO → b ≠ i1 → b ≠ i2 → h0.get? b = some o → s'.heap.get? b = some o) → s' = { g0 with heap := s'.heap } → R (.ok (.ret res)) s') :
    ∀ (r i : Nat) (s : Shared) (Ts : List Addr) (c : Nat), xs.size - i = r → i ≤ xs.size → ZipAt s.heap z TI TO i1 i2 l1 l2 d xs ys i → lo ≤ s.heap.objs.size → d < lo → Drawn s.heap lo d xs ys Ts → Ts.length = i →
      s.heap.get? d = some { cls := .type "list", dict := none, data := .seq (Ts.map Value.ref).toArray c, slots := #[] } →
      (∀ b o, b ≠ d → b ≠ z → b ≠ TO → b ≠ i1 → b ≠ i2 → h0.get? b = some o → s.heap.get? b = some o) → s = { g0 with heap := s.heap } →
      codeAny (model prog w) A (.builtin "list.extend.loop" ⟨[.ref d, .ref z, res], []⟩) R s := by
  intro r
  induction r with
  | zero =>
    intro i s Ts c hr hi Z hlo hdlo hd hl hS hk hg
    have hin : i = xs.size := by omega
    refine codeAny_builtin PySem.F.entry_extend_loop ?_
    rw [Around.under_plainId PySem.F.plain_extend_loop _]
    show wpAny _ A.in1 (pyNext (.ref z) >>= _) _ _ s
    refine wpAny_bind (zip_stop (A := A.in1) hA D Z (.inl (by omega)) fun h' hk' => wpAny_pure ?_)
    refine hR _ Ts c ⟨hd.1, fun j T hT => ?_⟩ (by omega) (hk' _ _ O.z O.to O.i1 O.i2 hS) (fun b o b0 b1 b2 b3 b4 e => hk' b o b1 b2 b3 b4 (hk b o b0 b1 b2 b3 b4 e)) (keepS (s := s) hg)
    obtain ⟨x, y, e1, e2, e3⟩ := hd.2 j T hT
    have hlo' := (hd.1.2 T (List.mem_of_getElem? hT)).1
    exact ⟨x, y, e1, e2, hk' _ _ (ne_lo hzl.1 hlo') (ne_lo hzl.2.1 hlo') (ne_lo hzl.2.2.1 hlo') (ne_lo hzl.2.2.2 hlo') e3⟩
  | succ r ih =>
    intro i s Ts c hr hi Z hlo hdlo hd hl hS hk hg
    have hx : i < xs.size := by omega
    have hy : i < ys.size := by omega
    refine codeAny_builtin PySem.F.entry_extend_loop ?_
    rw [Around.under_plainId PySem.F.plain_extend_loop _]
    show wpAny _ A.in1 (pyNext (.ref z) >>= _) _ _ s
    refine wpAny_bind (zip_draw (A := A.in1) D Z (Nat.lt_of_lt_of_le hdlo hlo) hx hy fun h' Z' hp hk' => ?_)
    have hS' := hk' _ _ O.z O.to O.i1 O.i2 hS
    have hTd : s.heap.objs.size ≠ d := ne_lo hdlo hlo
    show wpAny _ A.in1 (updateSeq d (·.push (.ref s.heap.objs.size)) >>= _) _ _ _
    refine wpAny_bind ?_
    have hls : (Ts.map Value.ref).toArray.size = i := by simp [hl]
    have eS : ((Ts.map Value.ref).toArray.push (Value.ref s.heap.objs.size)) = ((Ts ++ [s.heap.objs.size]).map Value.ref).toArray := by
      rw [List.map_append]
      simp
    have hsz : s.heap.objs.size < h'.objs.size := Heap.lt_size hp
    have hslt : i ≤ 1000 := by omega
    have hline : (1002 : Nat) ≤ sizeLine := by decide
    obtain ⟨c2, hc2⟩ : ∃ c2, (h'.update d (Obj.mapSeq fun a => a.push (Value.ref s.heap.objs.size))).get? d = some (seqObj "list" ((Ts.map Value.ref).toArray.push (Value.ref s.heap.objs.size)) c2) := ⟨_, get?_update_seq (show h'.get? d = some (seqObj "list" _ c) from hS') fun a => a.push (Value.ref s.heap.objs.size)⟩
    refine wpAny_updateSeq (f := fun a => a.push (.ref s.heap.objs.size)) hS' rfl (wpAny_pure ⟨plainId_quiet PySem.F.plain_extend_loop _, ih (i + 1) _ (Ts ++ [s.heap.objs.size]) c2 (by omega) (by omega) (Z'.go O fun b o hb e => (Heap.get?_update_other _ _ (Ne.symm hb)).trans e) ?_ hdlo ⟨⟨?_, fun T hT => ?_⟩, fun j T hT => ?_⟩ (by simp [hl]) ?_ (fun b o b0 b1 b2 b3 b4 e => (Heap.get?_update_other _ _ (Ne.symm b0)).trans (hk' b o b1 b2 b3 b4 (hk b o b0 b1 b2 b3 b4 e))) (keepS (s := s) hg)⟩) (by rw [hls]; omega) (by rw [Array.size_push, hls]; omega)
    · show lo ≤ (h'.update d _).objs.size
      rw [Heap.size_update]
      exact Nat.le_trans hlo (Nat.le_of_lt hsz)
    · refine List.nodup_append.mpr ⟨hd.1.1, by simp, fun T hT U hU e => ?_⟩
      rw [List.mem_singleton.mp hU] at e
      obtain ⟨j, hj⟩ := List.getElem?_of_mem hT
      obtain ⟨_, _, _, _, e3⟩ := hd.2 j T hj
      exact absurd (Heap.lt_size e3) (by rw [e]; exact Nat.lt_irrefl _)
    · rcases List.mem_append.mp hT with hT | hT
      · exact hd.1.2 T hT
      · rw [List.mem_singleton.mp hT]
        exact ⟨hlo, hTd⟩
    · have up : ∀ b o, b ≠ d → h'.get? b = some o → (h'.update d (Obj.mapSeq fun a => a.push (.ref s.heap.objs.size))).get? b = some o := fun b o hb e => (Heap.get?_update_other _ _ (Ne.symm hb)).trans e
      by_cases hj : j < Ts.length
      · rw [List.getElem?_append_left hj] at hT
        obtain ⟨x, y, e1, e2, e3⟩ := hd.2 j T hT
        obtain ⟨hlo', hTd'⟩ := hd.1.2 T (List.mem_of_getElem? hT)
        exact ⟨x, y, e1, e2, up _ _ hTd' (hk' _ _ (ne_lo hzl.1 hlo') (ne_lo hzl.2.1 hlo') (ne_lo hzl.2.2.1 hlo') (ne_lo hzl.2.2.2 hlo') e3)⟩
      · rw [List.getElem?_append_right (by omega)] at hT
        have hj0 : j - Ts.length = 0 := by
          rcases Nat.eq_zero_or_pos (j - Ts.length) with e | e
          · exact e
          · rw [List.getElem?_eq_none (by simp; omega)] at hT
            cases hT
        rw [hj0] at hT
        cases hT
        have hji : j = i := by omega
        subst hji
        exact ⟨_, _, Array.getElem?_eq_getElem hx, Array.getElem?_eq_getElem hy, up _ _ hTd hp⟩
    · rw [← eS]
      exact hc2

theorem zip_extend {s g0 : Shared} {c0 : Nat} {res : Value} (hA : A.handled = none) (D : ZipApart z TI TO i1 i2 l1 l2) (O : Off z TI TO i1 i2 l1 l2 d) (hz : xs.size = ys.size) (hn : xs.size ≤ 1000) (lo : Nat) (h0 : Heap) (hzl : z < lo ∧ TO < lo ∧ i1 < lo ∧ i2 < lo)
    (hzz : IsZip s.heap z TI TO .none) (Z : ZipAt s.heap z TI TO i1 i2 l1 l2 d xs ys 0) (hlo : lo ≤ s.heap.objs.size) (hdlo : d < lo) (hS : s.heap.get? d = some { cls := .type "list", data := .seq #[] c0 })
    (hk : ∀ b o, b ≠ d → b ≠ z → b ≠ TO → b ≠ i1 → b ≠ i2 → h0.get? b = some o → s.heap.get? b = some o) (hg : s = { g0 with heap := s.heap })
    (hR : ∀ s' Ts c, Drawn s'.heap lo d xs ys Ts → Ts.length = xs.size → s'.heap.get? d = some { cls := .type "list", dict := none, data := .seq (Ts.map Value.ref).toArray c, slots := #[] } →
      (∀ b o, b ≠ d → b ≠ z → b ≠ TO → b ≠ i1 → b ≠ i2 → h0.get? b = some o → s'.heap.get? b = some o) → s' = { g0 with heap := s'.heap } → R (.ok (.ret res)) s') :
    wpAny (model prog w) A.in1 (Builtin.List.listExtendWith (.ref d) (.ref z) res)
      (fun fin s' => match fin with | .done f => R (.ok f) s' | .again c' => c'.quiet = true ∧ codeAny (model prog w) A c' R s') (fun e s' => R (.error e) s') s := by
  have hT : s.TypeIs (.ref z) "zip" := ⟨_, hzz, rfl⟩
  unfold Builtin.List.listExtendWith
  refine wpAny_bind (wpAny_typeOf hT ?_)
  have h1 : Builtin.List.listSameRef (.ref d) (.ref z) = false := by simp [Builtin.List.listSameRef, O.z]
  have h2 : (Value.type "zip" == Value.type "list") = false := by decide
  have h3 : (Value.type "zip" == Value.type "tuple") = false := by decide
  simp only [h1, h2, h3, Bool.or_false, Bool.false_eq_true, if_false]
  refine wpAny_bind (wpAny_pyIter_zip hzz ?_)
  refine wpAny_bind (wpAny_holding ?_)
  unfold Builtin.List.listLengthHint
  refine wpAny_bind (wpAny_specialOf hT zip_no_len ?_)
  show wpAny _ A.in1 (specialOf (Value.ref z) (Str.ofString "__length_hint__") >>= _) _ _ _
  refine wpAny_bind (wpAny_specialOf hT zip_no_hint ?_)
  refine wpAny_pure ?_
  show wpAny _ A.in1 (rule "list.extend.makes-room" >>= fun _ => Builtin.List.listTouch (.ref d) >>= fun _ =>
    again (.builtin "list.extend.loop" ⟨[.ref d, .ref z, res], []⟩)) _ _ _
  refine wpAny_bind (wpAny_rule ?_)
  refine wpAny_bind ?_
  show wpAny _ A.in1 (updateSeq d (·.push .none) >>= fun _ => updateSeq d (·.pop)) _ _ _
  refine wpAny_bind (wpAny_updateSeq hS rfl ?_)
  have hS₂ := Heap.get?_update_self (Obj.mapSeq (·.push Value.none)) hS rfl
  refine wpAny_updateSeq (hz := by seq_fits) hS₂ rfl ?_
  have hS₃ := Heap.get?_update_self (Obj.mapSeq (·.pop)) hS₂ rfl
  have oth : ∀ b o, b ≠ d → s.heap.get? b = some o → ((s.heap.update d (Obj.mapSeq (·.push Value.none))).update d (Obj.mapSeq (·.pop))).get? b = some o :=
    fun b o hb e => (Heap.get?_update_other _ _ (Ne.symm hb)).trans ((Heap.get?_update_other _ _ (Ne.symm hb)).trans e)
  refine wpAny_pure ⟨plainId_quiet PySem.F.plain_extend_loop _, zip_fill hA D O hz hn lo h0 hzl res g0 hR _ 0 _ [] _ rfl (Nat.zero_le _) (Z.go O oth) ?_ hdlo ⟨⟨List.nodup_nil, fun T hT => (by cases hT)⟩, fun j T hT => (by simp at hT)⟩ rfl hS₃ (fun b o b0 b1 b2 b3 b4 e => oth b o b0 (hk b o b0 b1 b2 b3 b4 e)) (keepS (s := s) hg)⟩
  show lo ≤ ((s.heap.update d _).update d _).objs.size
  rw [Heap.size_update, Heap.size_update]
  exact hlo
theorem zip_init {s g0 : Shared} (hA : A.handled = none) (D : ZipApart z TI TO i1 i2 l1 l2) (O : Off z TI TO i1 i2 l1 l2 d) (hz : xs.size = ys.size) (hn : xs.size ≤ 1000) (lo : Nat) (h0 : Heap) (hzl : z < lo ∧ TO < lo ∧ i1 < lo ∧ i2 < lo)
    (hzz : IsZip s.heap z TI TO .none) (Z : ZipAt s.heap z TI TO i1 i2 l1 l2 d xs ys 0) (hlo : lo ≤ s.heap.objs.size) (hdlo : d < lo) (hS : s.heap.get? d = some { cls := .type "list", data := .seq #[] })
    (hk : ∀ b o, b ≠ d → b ≠ z → b ≠ TO → b ≠ i1 → b ≠ i2 → h0.get? b = some o → s.heap.get? b = some o) (hg : s = { g0 with heap := s.heap })
    (hR : ∀ s' Ts c, Drawn s'.heap lo d xs ys Ts → Ts.length = xs.size → s'.heap.get? d = some { cls := .type "list", dict := none, data := .seq (Ts.map Value.ref).toArray c, slots := #[] } →
      (∀ b o, b ≠ d → b ≠ z → b ≠ TO → b ≠ i1 → b ≠ i2 → h0.get? b = some o → s'.heap.get? b = some o) → s' = { g0 with heap := s'.heap } → R (.ok (.ret .none)) s') :
    wpAny (model prog w) A.in1 (Builtin.«list.__init__» ⟨[.ref d, .ref z], []⟩)
      (fun fin s' => match fin with | .done f => R (.ok f) s' | .again c' => c'.quiet = true ∧ codeAny (model prog w) A c' R s') (fun e s' => R (.error e) s') s := by
  show wpAny _ A.in1 (do let old ← Builtin.List.listItems (.ref d); Builtin.List.listUpdate (.ref d) (fun _ => #[]); letGo old.toList.reverse; Builtin.List.listExtendWith (.ref d) (.ref z) .none) _ _ s
  refine wpAny_bind ?_
  unfold Builtin.List.listItems
  refine wpAny_bind (wpAny_seqItems hS rfl (wpAny_pure ?_))
  show wpAny _ A.in1 (updateSeq d (fun _ => #[]) >>= fun _ => letGo (#[] : Array Value).toList.reverse >>= fun _ => Builtin.List.listExtendWith (.ref d) (.ref z) .none) _ _ s
  refine wpAny_bind (wpAny_updateSeq hS rfl ?_)
  have hS₂ := Heap.get?_update_self (Obj.mapSeq (fun _ => (#[] : Array Value))) hS rfl
  have oth : ∀ b o, b ≠ d → s.heap.get? b = some o → (s.heap.update d (Obj.mapSeq (fun _ => (#[] : Array Value)))).get? b = some o :=
    fun b o hb e => (Heap.get?_update_other _ _ (Ne.symm hb)).trans e
  refine wpAny_bind (wpAny_letGo ?_)
  refine zip_extend hA D O hz hn lo h0 hzl (oth _ _ (Ne.symm O.z) hzz) (Z.go O oth) ?_ hdlo hS₂ (fun b o b0 b1 b2 b3 b4 e => oth b o b0 (hk b o b0 b1 b2 b3 b4 e)) (keepS (s := s) hg) hR
  show lo ≤ (s.heap.update d _).objs.size
  rw [Heap.size_update]
  exact hlo
theorem list_zip {s : Shared} {Q : Value → Shared → Prop} {E : Value → Shared → Prop} (hA : A.handled = none) (D : ZipApart z TI TO i1 i2 l1 l2) (hz : xs.size = ys.size) (hn : xs.size ≤ 1000)
    (hzz : IsZip s.heap z TI TO .none) (hTI : IsPair s.heap TI (.ref i1) (.ref i2)) (hTO : ∃ a b, IsPair s.heap TO a b) (it1 : s.heap.IsListIter i1 l1 0) (it2 : s.heap.IsListIter i2 l2 0) (a1 : s.heap.IsList l1 xs) (a2 : s.heap.IsList l2 ys)
    (hQ : ∀ s' Ts c, Drawn s'.heap (s.heap.objs.size + 1) s.heap.objs.size xs ys Ts → Ts.length = xs.size → s'.heap.get? s.heap.objs.size = some { cls := .type "list", dict := none, data := .seq (Ts.map Value.ref).toArray c, slots := #[] } →
      (∀ b o, b ≠ s.heap.objs.size → b ≠ z → b ≠ TO → b ≠ i1 → b ≠ i2 → s.heap.get? b = some o → s'.heap.get? b = some o) → s' = { s with heap := s'.heap } → Q (.ref s.heap.objs.size) s') :
    wpAny (model prog w) A (call (.type "list") [.ref z]) Q E s := by
  have lt : ∀ {c o}, s.heap.get? c = some o → c < s.heap.objs.size := fun e => Heap.lt_size e
  obtain ⟨ta, tb, hTO'⟩ := hTO
  have L1 : i1 < s.heap.objs.size := let ⟨_, e, _⟩ := it1; lt e
  have L2 : i2 < s.heap.objs.size := let ⟨_, e, _⟩ := it2; lt e
  have L3 : l1 < s.heap.objs.size := let ⟨_, e, _⟩ := a1; lt e
  have L4 : l2 < s.heap.objs.size := let ⟨_, e, _⟩ := a2; lt e
  have O : Off z TI TO i1 i2 l1 l2 s.heap.objs.size := ⟨Nat.ne_of_gt (lt hzz), Nat.ne_of_gt (lt hTI), Nat.ne_of_gt (lt hTO'), Nat.ne_of_gt L1, Nat.ne_of_gt L2, Nat.ne_of_gt L3, Nat.ne_of_gt L4⟩
  refine callType_codes (Q₁ := fun obj s₁ => obj = .ref s.heap.objs.size ∧ s₁ = { s with heap := s.heap.push { cls := .type "list", data := .seq #[] } }) PySem.F.called_list (PySem.F.typeCall_list_1 _) PySem.F.entry_list_init
    (code_list_new _ ⟨rfl, rfl⟩) fun obj s₁ h₁ => ?_
  obtain ⟨rfl, rfl⟩ := h₁
  have hS : (s.heap.push { cls := .type "list", data := .seq #[] }).get? s.heap.objs.size = some { cls := .type "list", data := .seq #[] } := Heap.get?_push_size _ rfl
  have up : ∀ b o, s.heap.get? b = some o → (s.heap.push { cls := .type "list", data := .seq #[] }).get? b = some o := fun b o e => Heap.get?_push_of_some _ e
  have Z : ZipAt (s.heap.push { cls := .type "list", data := .seq #[] }) z TI TO i1 i2 l1 l2 s.heap.objs.size xs ys 0 := ⟨up _ _ hTI, it1.at fun o e => up _ o e, it2.at fun o e => up _ o e, a1.at fun o e => up _ o e, a2.at fun o e => up _ o e, .inl ⟨up _ _ hzz, ta, tb, up _ _ hTO'⟩⟩
  have sz : (s.heap.push { cls := .type "list", data := .seq #[] }).objs.size = s.heap.objs.size + 1 := size_push' ..
  refine ⟨⟨_, hS, rfl⟩, PySem.F.args_list_init_2 _ _, zip_init (d := s.heap.objs.size) hA D O hz hn (s.heap.objs.size + 1) s.heap ⟨Nat.lt_succ_of_lt (lt hzz), Nat.lt_succ_of_lt (lt hTO'), Nat.lt_succ_of_lt L1, Nat.lt_succ_of_lt L2⟩ (up _ _ hzz) Z (by rw [sz]; exact Nat.le_refl _) (Nat.lt_succ_self _) hS (fun b o b0 b1 b2 b3 b4 e => up b o e) (g0 := s) rfl fun s' Ts c h1 h2 h3 h4 h5 => ?_⟩
  exact ⟨rfl, hQ s' Ts c h1 h2 h3 h4 h5⟩
end
end TB

namespace TB
open PySem PySem.Spec PySem.W PyProof.Rows L2 Evl
/-! ### objects that were made untracked are tracked -/
section
variable {X : Cx} {pins : List (Addr × Obj)} {σ : L2.St} {H : Hp} {s : Shared}
theorem adopt {a : Addr} {o : HO} (I : Inv X pins σ H s) (f : FpOk X pins H a) (new : ObjOk X.prog X.w (upd H a o) s.heap a o) : Inv X pins σ (upd H a o) s := by
  obtain ⟨hn, f1, f2, f3, f4, f5⟩ := f
  have h : Inv X pins σ (upd H a o) { s with heap := s.heap, gens := s.gens, drawn := s.drawn, toks := s.toks } := by
    refine I.step (ch := [a]) (fun b hb => ?_) (fun b u _ _ _ e _ => e) (fun b u _ _ _ e _ => ⟨u.slots, e⟩) (fun b u hc e n => ?_) (fun b u _ e => ⟨u, e⟩) (fun b xs e => ?_) (fun b u xs e => ?_) (fun b ps e => ⟨#[], ?_⟩) (fun _ hm => hm) (fun b u e => ?_) I.bare
    · have e : b = a := by simpa using hb
      subst e
      exact ⟨f3, f1, f4, f5⟩
    · rw [upd_ne (fun z => hc (by simp [z]))]
      exact n
    · rw [upd_ne (ne_of_none e hn)]
      exact e
    · rw [upd_ne (ne_of_none e hn)]
      exact e
    · rw [upd_ne (ne_of_none e hn), e]
      simp
    · by_cases hb : b = a
      · subst hb
        rw [upd_same] at e
        cases e
        exact new
      · rw [upd_ne hb] at e
        exact (I.hok b u e).stay (fun c v _ q => q) (fun c q => by rw [upd_ne (ne_of_none q hn)]; exact q) fun c xs q => by rw [upd_ne (ne_of_none q hn)]; exact q
  exact h
theorem fp_upd {a b : Addr} {o : HO} (f : FpOk X pins H b) (ne : b ≠ a) : FpOk X pins (upd H a o) b := ⟨by rw [upd_ne ne]; exact f.1, f.2⟩
def updPairs : Hp → List Addr → List (V × V) → Hp
  | H, T :: Ts, p :: ps => updPairs (upd H T (.tup [p.1, p.2])) Ts ps
  | H, _, _ => H
theorem updPairs_ne {b : Addr} : ∀ {Ts : List Addr} {ps : List (V × V)} {H : Hp}, b ∉ Ts → updPairs H Ts ps b = H b
  | [], _, _, _ => by unfold updPairs; rfl
  | T :: Ts, [], _, _ => by unfold updPairs; rfl
  | T :: Ts, p :: ps, H, h => by
    unfold updPairs
    rw [updPairs_ne (fun z => h (List.mem_cons_of_mem _ z)), upd_ne (fun z => h (by rw [z]; exact List.mem_cons_self))]
theorem updPairs_at : ∀ {Ts : List Addr} {ps : List (V × V)} {H : Hp} {j : Nat} {T : Addr} {p : V × V}, Ts.Nodup → Ts[j]? = some T → ps[j]? = some p → updPairs H Ts ps T = some (.tup [p.1, p.2])
  | [], _, _, _, _, _, _, h, _ => by simp at h
  | _ :: _, [], _, _, _, _, _, _, h => by simp at h
  | T0 :: Ts, p0 :: ps, H, 0, T, p, hn, h1, h2 => by
    simp only [List.getElem?_cons_zero, Option.some.injEq] at h1 h2
    subst h1
    subst h2
    unfold updPairs
    rw [updPairs_ne (List.nodup_cons.mp hn).1, upd_same]
  | T0 :: Ts, p0 :: ps, H, j + 1, T, p, hn, h1, h2 => by
    unfold updPairs
    exact updPairs_at (List.nodup_cons.mp hn).2 (by simpa using h1) (by simpa using h2)
theorem adoptAll : ∀ {Ts : List Addr} {ps : List (V × V)} {H : Hp}, Inv X pins σ H s → Ts.Nodup → (∀ T ∈ Ts, FpOk X pins H T) → (∀ (j : Nat) (T : Addr) (p : V × V), Ts[j]? = some T → ps[j]? = some p → ∃ u v, RelV p.1 u ∧ RelV p.2 v ∧ IsPair s.heap T u v) → Inv X pins σ (updPairs H Ts ps) s
  | [], _, _, I, _, _, _ => by unfold updPairs; exact I
  | T :: Ts, [], _, I, _, _, _ => by unfold updPairs; exact I
  | T :: Ts, p :: ps, H, I, hn, hf, hp => by
    unfold updPairs
    obtain ⟨u, v, ru, rv, e⟩ := hp 0 T p rfl rfl
    refine adoptAll (adopt I (hf T List.mem_cons_self) ?_) (List.nodup_cons.mp hn).2 (fun U hU => fp_upd (hf U (List.mem_cons_of_mem _ hU)) fun z => (List.nodup_cons.mp hn).1 (z ▸ hU)) fun j U q h1 h2 => hp (j + 1) U q (by simpa using h1) (by simpa using h2)
    exact ⟨by show 2 ≤ sizeLine; decide, [u, v], .cons ru (.cons rv .nil), ⟨_, e, rfl, _, rfl⟩⟩
end
/-! ### list(zip(xs, ys)), both of the same length -/
def tListZip (K : PySem.W.Frag) (ta : TA) : TE := fun σ H Q => ta σ H fun vs H1 => ∃ a b xs ys, vs = [.ref a, .ref b] ∧ SqL K H1 a xs ∧ SqL K H1 b ys ∧ xs.length = ys.length ∧ xs.length ≤ 1000 ∧
  ∀ (p : Addr) (Ts : List Addr) (H2 : Hp), Ex H1 H2 → H1 p = none → Ts.length = xs.length → (∀ T ∈ Ts, H1 T = none) → H2 p = some (.lst (Ts.map V.ref)) → (∀ (j : Nat) T x y, Ts[j]? = some T → xs[j]? = some x → ys[j]? = some y → H2 T = some (.tup [x, y])) → Q (.ref p) H2
theorem vals_refs : ∀ {Ts : List Addr}, Vals (Ts.map V.ref) (Ts.map Value.ref)
  | [] => .nil
  | _ :: _ => .cons rfl vals_refs
theorem pe_listZip {X : Cx} {e e2 : Expr} {ta : TA} {p0 pos0 p pos : Pos} (hg0 : Gl X "list") (hm0 : X.mg "list" = none) (hg : Gl X "zip") (hm : X.mg "zip" = none) (hc : X.calm = true) (ha : PA X [e, e2] ta)
    (hs : starEach [e, e2] X.env = (false, eval e X.env) :: starEach [e2] X.env := by rfl) (hpl : (backTo pos (starEach [e2] X.env)).any (·.1) = false := by rfl)
    (hs0 : starEach [.Call (.Name "zip" p) [e, e2] [] pos] X.env = (false, eval (.Call (.Name "zip" p) [e, e2] [] pos) X.env) :: starEach [] X.env := by rfl) (hpl0 : (backTo pos0 (starEach [] X.env)).any (·.1) = false := by rfl) :
    PE X (.Call (.Name "list" p0) [.Call (.Name "zip" p) [e, e2] [] pos] [] pos0) (tListZip X.K ta) := by
  refine ⟨fun pins s σ H Q I h => ?_⟩
  refine wpAny_Call_Name_kw (ld_blt I hg0 hm0 PyProof.Rows.boot_list ?_)
  refine PyProof.Rows.callWith_type1 ?_ hs0 hpl0
  rw [hs0]
  show wpAny _ _ (spliced ((false, eval _ X.env) :: backTo pos0 (starEach [] X.env))) _ _ s
  refine Calls.spliced_cons ?_
  refine Call_ (ld_blt I hg hm PyProof.Rows.boot_zip (PyProof.Rows.callWith_type1 (thn (ha.run pos pins s σ H _ I h) fun us s1 ⟨vs, H1, I1, r1, q1⟩ => ?_) hs hpl))
  obtain ⟨a, b, xs, ys, ex, hqx, hqy, hxy, hx3, q⟩ := q1
  subst ex
  cases r1 with
  | cons r rr =>
    cases rr with
    | cons r' rr =>
      cases rr
      cases r
      cases r'
      obtain ⟨its, rv, p1, _⟩ := I1.list hqx
      obtain ⟨its2, rv2, p2, _⟩ := I1.list hqy
      have la : a < s1.heap.objs.size := p1.lt
      have lb : b < s1.heap.objs.size := p2.lt
      have n1 := rv.length
      have n2 := rv2.length
      refine call_zip_2 p1.isList p2.isList fun h' hz hTI hTO h1 h2 hsz hk => Calls.spliced_nil ?_
      have I2 : Inv X pins σ H1 { s1 with heap := h' } := I1.kept (t' := s1.toks) hk
      obtain ⟨its', rv', p1', _⟩ := I2.list hqx
      obtain ⟨its2', rv2', p2', _⟩ := I2.list hqy
      have n1' := rv'.length
      have n2' := rv2'.length
      have up : ∀ c, s1.heap.objs.size ≤ c → FpOk X pins H1 c := fun c hc => I1.fpOk hc (I1.hok.fresh hc)
      refine list_zip (s := { s1 with heap := h' }) (xs := its'.toArray) (ys := its2'.toArray) (I2.ok.hd hc) (PySem.W.ktu_apart s1.heap.objs.size a b la lb) (by simp; omega) (by simp; omega) hz hTI ⟨_, _, hTO⟩ h1 h2 p1'.isList p2'.isList ?_
      intro s' Ts c hd hl hp hk' hs'
      have sz : ({ s1 with heap := h' } : Shared).heap.objs.size = s1.heap.objs.size + 5 := hsz
      rw [sz] at hd hp hk' ⊢
      have I3 : Inv X pins σ H1 { ({ s1 with heap := h' } : Shared) with heap := s'.heap, toks := s1.toks } := by
        refine I2.turnedL (t' := s1.toks) (ch := [s1.heap.objs.size + 5, s1.heap.objs.size + 4, s1.heap.objs.size + 3, s1.heap.objs.size, s1.heap.objs.size + 1]) (fun c o hb q => ?_) fun c hcm => up c ?_
        · exact hk' c o (fun z => hb (by simp [z])) (fun z => hb (by simp [z])) (fun z => hb (by simp [z])) (fun z => hb (by simp [z])) (fun z => hb (by simp [z])) q
        · have e' : c = s1.heap.objs.size + 5 ∨ c = s1.heap.objs.size + 4 ∨ c = s1.heap.objs.size + 3 ∨ c = s1.heap.objs.size ∨ c = s1.heap.objs.size + 1 := by simpa using hcm
          rcases e' with z | z | z | z | z <;> rw [z] <;> omega
      have I3 : Inv X pins σ H1 s' := by
        rw [hs']
        exact I3
      have hTs : ∀ T ∈ Ts, s1.heap.objs.size ≤ T := fun T hT => Nat.le_trans (show s1.heap.objs.size ≤ s1.heap.objs.size + 5 + 1 by omega) (hd.1.2 T hT).1
      have I4 := adoptAll (ps := xs.zip ys) I3 hd.1.1 (fun T hT => up T (hTs T hT)) fun j T pq h1 h2 => by
        obtain ⟨u, v, e1, e2, e3⟩ := hd.2 j T h1
        obtain ⟨e4, e5⟩ := List.getElem?_zip_eq_some.mp h2
        obtain ⟨u', hu', ru⟩ := rv'.get e4
        obtain ⟨v', hv', rv⟩ := rv2'.get e5
        have e1' : its'[j]? = some u := by simpa using e1
        have e2' : its2'[j]? = some v := by simpa using e2
        rw [hu'] at e1'
        rw [hv'] at e2'
        cases e1'
        cases e2'
        exact ⟨u, v, ru, rv, e3⟩
      have hpT : s1.heap.objs.size + 5 ∉ Ts := fun z => (hd.1.2 _ z).2 rfl
      have hp0 : H1 (s1.heap.objs.size + 5) = none := I1.hok.fresh (Nat.le_add_right _ _)
      have fp5 : FpOk X pins (updPairs H1 Ts (xs.zip ys)) (s1.heap.objs.size + 5) := ⟨by rw [updPairs_ne hpT]; exact hp0, (up _ (Nat.le_add_right _ _)).2⟩
      have line : (1000 : Nat) ≤ sizeLine := by decide
      have hlT : (Ts.map V.ref).length = xs.length := by
        rw [List.length_map, hl]
        simp
        omega
      have I5 := adopt (o := .lst (Ts.map V.ref)) I4 fp5 ⟨by omega, Ts.map Value.ref, c, vals_refs, hp⟩
      refine ⟨.ref (s1.heap.objs.size + 5), _, I5, rfl, q _ Ts _ (fun b o hb => ?_) hp0 (by rw [← hlT]; simp) (fun T hT => I1.hok.fresh (hTs T hT)) upd_same fun j T x y h1 h2 h3 => ?_⟩
      · rw [upd_ne (ne_of_none hb hp0), updPairs_ne (fun z => by rw [I1.hok.fresh (hTs b z)] at hb; cases hb)]
        exact hb
      · rw [upd_ne (fun z => hpT (by rw [← z]; exact List.mem_of_getElem? h1))]
        exact updPairs_at (p := (x, y)) hd.1.1 h1 (List.getElem?_zip_eq_some.mpr ⟨h2, h3⟩)
end TB

namespace TB
open PySem PySem.Spec PyProof.Rows L2 Evl
/-! ### [e for x, y in zip(xs, ys)] -/
section
variable {X : Cx} {K : PySem.W.Frag} {pos : Pos}
theorem pg_tupB (hK : X.K = K) {es : List Expr} {k : Nat} {t : TGs} {n : Nat} (hc : X.calm = true) (h : PGs X es t)
    (hn : (assignEach es X.env).length = n := by rfl) (hst : (assignEach es X.env).findIdx? (·.1) = none := by rfl) : PG X (.Tuple es k pos) (gTup K n t) := by
  subst hK
  exact pg_tup hc h hn hst
end
section
variable {K : PySem.W.Frag} {σ : L2.St} {H : Hp} {te : TE} {ta : TA}
theorem el_zip {a b : Addr} {xs ys : List V} {j1 j2 : Nat} {vs : List Nat} (n : Nat) (v : Nat → V) (h : EvA ta σ H [.ref a, .ref b]) (hx : SqL K H a xs) (hy : SqL K H b ys) (hl : xs.length = n) (hl2 : ys.length = n) (hz : n ≤ 40000)
    (hw : ∀ x y, wipe (((wipe σ vs).set j1 (some x)).set j2 (some y)) vs = wipe σ vs)
    (he : ∀ i x y H1, Ex H H1 → xs[i]? = some x → ys[i]? = some y → Ev te (((wipe σ vs).set j1 (some x)).set j2 (some y)) H1 (v i)) :
    EvL (tLc (iZip K ta) (gTup K 2 (gCons (gName j1) (gCons (gName j2) gNil))) tYes te vs) σ H (given n (fun _ => true) v) := fun H0 e Q q => h H0 e _ fun H1 e1 =>
  ⟨a, b, xs, ys, rfl, ex_l (e.trans e1) hx, ex_l (e.trans e1) hy, fun Dl hD => lc_it (walk_zip (K := K) (a := a) (b := b) (xs := xs) (ys := ys) (n := n) (by omega)) (Cw H1 (fun _ => true) v Dl) ⟨hD, Ex.new hD, upd_same⟩ (fun i H' _ p => ⟨ex_l ((e.trans e1).trans p.2.1) hx, ex_l ((e.trans e1).trans p.2.1) hy⟩)
    (fun i z H' H2 hi p ⟨T, x, y, e2, hT, e3, hxi, hyi⟩ => by
      subst e2
      subst e3
      refine ⟨T, [x, y], rfl, .inl (.inl upd_same), rfl, x, [y], rfl, y, [], rfl, rfl, ?_⟩
      refine ⟨hw x y, ?_⟩
      have p' : Cw H1 (fun _ => true) v Dl i (upd H' T (.tup [x, y])) := ⟨p.1, p.2.1.trans (Ex.new hT), (Ex.new hT) _ _ p.2.2⟩
      refine cw_turn p' (by omega) (fun H4 _ _ q => q H4 (Ex.refl H4)) fun _ => ?_
      exact he i x y H1 (e.trans e1) hxi hyi)
    (fun H' p => q Dl H' (fresh_back e1 p.1) (e1.trans p.2.1) p.2.2)⟩
theorem given_all {n : Nat} {v : Nat → V} : given n (fun _ => true) v = (List.range n).map v := by
  unfold given
  rw [List.filter_eq_self.mpr (fun _ _ => rfl)]
end
end TB

namespace TB
open PySem PySem.Spec PyProof.Rows L2 Evl
/-! ### o.f = e -/
section
variable {K : PySem.W.Frag} {σ : L2.St} {H : Hp} {D : Ends} {u : TS} {ta tv : TE} {f : Str} {a C dx : Addr} {fs : List (Str × V)} {y : V} {xs : List V}
theorem q_fldV (h : Ev tv σ H y) (ho : Ev ta σ H (.ref a)) (ha : H a = some (.ins C dx fs)) (hc : Cls K C) (hn : NoAttr K C f) (hl : fs.length < 1000) (k : ∀ H1, Ex H H1 → u D σ (upd H1 a (.ins C dx (putF f y fs)))) : tSeq (sFld K ta tv f) u D σ H :=
  h H (Ex.refl H) _ fun H1 e1 => ho H1 e1 _ fun H2 e2 => ⟨a, C, dx, fs, rfl, (e1.trans e2) _ _ ha, hc, hn, hl, k H2 (e1.trans e2)⟩
theorem s_fldV (h : Ev tv σ H y) (ho : Ev ta σ H (.ref a)) (ha : H a = some (.ins C dx fs)) (hc : Cls K C) (hn : NoAttr K C f) (hl : fs.length < 1000) (k : ∀ H1, Ex H H1 → D.nx σ (upd H1 a (.ins C dx (putF f y fs)))) : sFld K ta tv f D σ H :=
  h H (Ex.refl H) _ fun H1 e1 => ho H1 e1 _ fun H2 e2 => ⟨a, C, dx, fs, rfl, (e1.trans e2) _ _ ha, hc, hn, hl, k H2 (e1.trans e2)⟩
theorem q_fldL (h : EvL tv σ H xs) (ho : Ev ta σ H (.ref a)) (ha : H a = some (.ins C dx fs)) (hc : Cls K C) (hn : NoAttr K C f) (hl : fs.length < 1000) (k : ∀ p H1, H p = none → Ex H H1 → H1 p = some (.lst xs) → u D σ (upd H1 a (.ins C dx (putF f (.ref p) fs)))) : tSeq (sFld K ta tv f) u D σ H :=
  h H (Ex.refl H) _ fun p H1 np e1 hp => ho H1 e1 _ fun H2 e2 => ⟨a, C, dx, fs, rfl, (e1.trans e2) _ _ ha, hc, hn, hl, k p H2 np (e1.trans e2) (e2 _ _ hp)⟩
theorem s_fldL (h : EvL tv σ H xs) (ho : Ev ta σ H (.ref a)) (ha : H a = some (.ins C dx fs)) (hc : Cls K C) (hn : NoAttr K C f) (hl : fs.length < 1000) (k : ∀ p H1, H p = none → Ex H H1 → H1 p = some (.lst xs) → D.nx σ (upd H1 a (.ins C dx (putF f (.ref p) fs)))) : sFld K ta tv f D σ H :=
  h H (Ex.refl H) _ fun p H1 np e1 hp => ho H1 e1 _ fun H2 e2 => ⟨a, C, dx, fs, rfl, (e1.trans e2) _ _ ha, hc, hn, hl, k p H2 np (e1.trans e2) (e2 _ _ hp)⟩
end
/-- all but p is as it was -/
def ExB (p : Addr) (H H' : Hp) : Prop := ∀ b o, H b = some o → b ≠ p → H' b = some o
section
variable {H H1 H2 : Hp} {p q : Addr} {o oc X Y : HO}
theorem ExB.upd (h : ExB p H H1) (e : Ex H1 H2) : ExB p H (upd H2 p o) := fun b u hb ne => by
  rw [upd_ne ne]
  exact e _ _ (h b u hb ne)
theorem ExB.refl (p : Addr) (H : Hp) : ExB p H H := fun _ _ h _ => h
theorem ExB.fresh (h : ExB p H H1) (hp : H1 p = some oc) (hq : H1 q = none) : H q = none ∧ q ≠ p := by
  have ne : q ≠ p := fun z => by
    rw [z, hp] at hq
    cases hq
  refine ⟨?_, ne⟩
  cases z : H q with
  | none => rfl
  | some o =>
    rw [h q o z ne] at hq
    cases hq
theorem ExB.of (e : Ex H H1) : ExB p H H1 := fun b o h _ => e b o h
theorem ExB.trans (h : ExB p H H1) (g : ExB p H1 H2) : ExB p H H2 := fun b o hb ne => g b o (h b o hb ne) ne
end
end TB

namespace TB
open PySem PySem.Spec PyProof.Rows L2 Evl TimberAuction TBM AuctionSpec
open C8 (pe_c pe_mk pe_mt pe_mt0)
section
variable {K : PySem.W.Frag} {σ : L2.St} {H : Hp} {ta tb te tl : TE} {x y z v : V}
theorem getD_get {l : List Nat} {n : Nat} (h : n < l.length) : l[n]? = some (l.getD n 0) := by
  rw [List.getD_eq_getElem?_getD, List.getElem?_eq_getElem h]
  rfl
/-- self.f = e : the value, the object, what is stored -/
theorem ea_is {ta : TA} {vs us : List V} (h : EvA ta σ H vs) (e : vs = us) : EvA ta σ H us := by
  rw [← e]
  exact h
end
section
variable {P : Program} {w : World} {K : PySem.W.Frag} {mg : Str → Option Value} {base : Heap} {A : Ad}
/-! ### grade_volume -/
def MemAt (A : Ad) (τ : Tg) (H : Hp) (p : Addr) (ls : List Lot) : Prop := ∃ as, H p = some (.lst (rL as)) ∧ All2 (fun _ => LotAt A τ H) as ls
theorem MemAt.ex {τ : Tg} {H H' : Hp} {p : Addr} {ls : List Lot} (h : MemAt A τ H p ls) (e : Ex H H') : MemAt A τ H' p ls := by
  obtain ⟨as, h1, h2⟩ := h
  exact ⟨as, e _ _ h1, h2.imp fun _ _ _ _ _ r => r.go (.ex e)⟩
def R_grade_volume (A : Ad) : List V → Hp → V → Prop := fun vs H z => ∃ p τ ls g, vs = [.ref p, iN g] ∧ MemAt A τ H p ls ∧ (∀ l ∈ ls, l.volumes.length = 10) ∧ g < 10 ∧ ls.length ≤ 40 ∧ z = iN (Amounts.sum (ls.map fun l => l.volumes.getD g 0))
theorem c_grade_volume (T : Txt K mg A) : C8.Cal P w K mg base 1 "grade_volume" (spV (R_grade_volume A)) [] := by
  refine calOf T.d_grade_volume sc_grade_volume (fun _ _ _ _ _ _ us hl => match us, hl with | [_, _], _ => rfl) (fun vs H Q E h => ?_) (fun f cdv Ar outer st H vs Q E hr h => ?_)
  · obtain ⟨_, ⟨p, τ, ls, g, rfl, _⟩, _⟩ := h
    rfl
  · obtain ⟨_, ⟨p, τ, ls, g, rfl, ⟨as, hp, hal⟩, hv, hg, hlen, rfl⟩, kQ⟩ := h
    refine ⟨_, (pss_one (ps_ret (pe_callB (cr_sum (by rfl)) (by rfl) T.b_sum boot_sum (pa_cons (pe_lc (own := [("lot", 2)]) (tt := tYes) rfl sc_grade_volume.nd (pi_list (pv 0)) (blkOk_by (own := [("lot", 2)]) (N := ["lots", "grade", "lot"]) (sc := defScope s_grade_volume) (by decide +kernel)) (fun _ _ _ _ _ => (pg_name (i := 2) sc_grade_volume.nd rfl (Or.inl rfl))) (fun _ _ _ _ _ => pts_nil) (fun _ _ _ _ _ => (pe_ix (ix_listB (K := K) (by rfl)) (pe_fldB (K := K) (by rfl) (pv 2) (by rfl)) (pv 1) (fun _ _ => rfl)))) pa_nil)))), ?_⟩
    refine rt_ret (ev_is (ev_sumL (K := K) (ns := ls.map fun (l : Lot) => ((l.volumes.getD g 0 : Nat) : Int)) ?_) ?_) kQ
    · rw [List.map_map]
      refine el_compM (K := K) ls (fun (l : Lot) => iN (l.volumes.getD g 0)) (ev_var rfl) (sq_of hp) (by rw [rL_len, hal.1]) (by rw [rL_len, hal.1]; omega) (fun _ => rfl) (fun i x l H1 e1 hx hl => ?_)
      obtain ⟨a, ha, rfl⟩ := rL_inv hx
      obtain ⟨dx, va, t0, hat, hnum⟩ := (hal.2 i a l ha hl).go (.ex e1)
      exact ev_ixL (K := K) (ev_fld (ev_var rfl) hat T.cl_Lot T.n_Lot_volumes lk_Lot_volumes) (ev_var rfl) (sq_of hnum.2) (iL_get (getD_get (by rw [hv l (List.mem_of_getElem? hl)]; exact hg)))
    · rw [show (ls.map fun (l : Lot) => ((l.volumes.getD g 0 : Nat) : Int)) = (ls.map fun l => l.volumes.getD g 0).map fun (n : Nat) => (n : Int) by rw [List.map_map]; rfl, ← sum_cast]
      rfl
/-! ### Sale(..) -/
def sp_Sale (A : Ad) : Sp := fun vs H Q _ => ∃ p dx a b c, vs = [.ref p, a, b, c] ∧ H p = some (.ins A.Sale dx []) ∧
  ∀ H' p1 p2 p3, H p1 = none → H p2 = none → H p3 = none → p1 ≠ p2 → p1 ≠ p3 → p2 ≠ p3 → H' p = some (.ins A.Sale dx (fSale a b c (.ref p1) (.ref p2) (.ref p3))) → H' p1 = some (.lst []) → H' p2 = some (.lst []) → H' p3 = some (.lst (iL (List.replicate 16 12))) →
  ExB p H H' → Q .non H'
theorem m_Sale (T : Txt K mg A) : C8.Mak P w K mg base 1 "Sale" A.Sale (sp_Sale A) [] := by
  refine makOf T.m_Sale sc_Sale___init__ (fun _ _ _ _ _ _ us hl => match us, hl with | [_, _, _, _], _ => rfl) (fun vs H Q E h => ?_) (fun f cdv Ar outer st H vs Q E hr h => ?_)
  · obtain ⟨p, dx, a, b, c, rfl, _⟩ := h
    rfl
  · obtain ⟨p, dx, a, b, c, rfl, hp, kQ⟩ := h
    refine ⟨_, (pss_cons (ps_fld (pv 0) (pv 1) rfl)
        (pss_cons (ps_fld (pv 0) (pv 2) rfl)
        (pss_cons (ps_fld (pv 0) (pv 3) rfl)
        (pss_cons (ps_fld (pv 0) (pe_lst pa_nil) rfl)
        (pss_cons (ps_fld (pv 0) (pe_lst pa_nil) rfl)
        (pss_one (ps_fld (pv 0) (pe_op op_rep (pe_lst (pa_cons (pe_gi (by rfl) T.k_MAX_LIMIT) pa_nil)) (pe_gi (by rfl) T.k_BIDDERS)) rfl))))))), ?_⟩
    refine q_fldV (ev_var rfl) (ev_var rfl) hp T.cl_Sale T.n_Sale_closing_day (by show 0 < 1000; decide) fun H1 e1 => ?_
    have b1 := (ExB.refl p H).upd (o := .ins A.Sale dx (putF "closing_day" a [])) e1
    refine q_fldV (ev_var rfl) (ev_var rfl) upd_same T.cl_Sale T.n_Sale_rule (by show 1 < 1000; decide) fun H2 e2 => ?_
    have b2 := b1.upd (o := .ins A.Sale dx (putF "rule" b (putF "closing_day" a []))) e2
    refine q_fldV (ev_var rfl) (ev_var rfl) upd_same T.cl_Sale T.n_Sale_advance (by show 2 < 1000; decide) fun H3 e3 => ?_
    have b3 := b2.upd (o := .ins A.Sale dx (putF "advance" c (putF "rule" b (putF "closing_day" a [])))) e3
    refine q_fldL (el_lst ea_nil (by show 0 ≤ 100000; decide)) (ev_var rfl) upd_same T.cl_Sale T.n_Sale_lots (by show 3 < 1000; decide) fun p1 H4 n1 e4 h1 => ?_
    obtain ⟨f1, ne1⟩ := b3.fresh upd_same n1
    have b4 := b3.upd (o := .ins A.Sale dx (putF "lots" (.ref p1) (putF "advance" c (putF "rule" b (putF "closing_day" a []))))) e4
    have g1 : (upd H4 p (.ins A.Sale dx (putF "lots" (.ref p1) (putF "advance" c (putF "rule" b (putF "closing_day" a [])))))) p1 = some (.lst []) := by rw [upd_ne ne1]; exact h1
    refine q_fldL (el_lst ea_nil (by show 0 ≤ 100000; decide)) (ev_var rfl) upd_same T.cl_Sale T.n_Sale_bids (by show 4 < 1000; decide) fun p2 H5 n2 e5 h2 => ?_
    obtain ⟨f2, ne2⟩ := b4.fresh upd_same n2
    have b5 := b4.upd (o := .ins A.Sale dx (putF "bids" (.ref p2) (putF "lots" (.ref p1) (putF "advance" c (putF "rule" b (putF "closing_day" a [])))))) e5
    have g2 : (upd H5 p (.ins A.Sale dx (putF "bids" (.ref p2) (putF "lots" (.ref p1) (putF "advance" c (putF "rule" b (putF "closing_day" a []))))))) p2 = some (.lst []) := by rw [upd_ne ne2]; exact h2
    have g1' : (upd H5 p (.ins A.Sale dx (putF "bids" (.ref p2) (putF "lots" (.ref p1) (putF "advance" c (putF "rule" b (putF "closing_day" a []))))))) p1 = some (.lst []) := by rw [upd_ne ne1]; exact e5 _ _ g1
    refine s_fldL (el_rep (el_lst (ea_cons ev_c ea_nil) (by show 1 ≤ 100000; decide)) ev_c (by decide) (by decide)) (ev_var rfl) upd_same T.cl_Sale T.n_Sale_limits (by show 5 < 1000; decide) fun p3 H6 n3 e6 h3 => ?_
    obtain ⟨f3, ne3⟩ := b5.fresh upd_same n3
    refine kQ _ p1 p2 p3 f1 f2 f3 (ne_of_none g1 n2) (ne_of_none g1' n3) (ne_of_none g2 n3) upd_same ?_ ?_ ?_ (b5.upd e6)
    · rw [upd_ne ne1]
      exact e6 _ _ g1'
    · rw [upd_ne ne2]
      exact e6 _ _ g2
    · rw [upd_ne ne3, h3]
      unfold iL
      rw [List.map_replicate]
      rfl
end
end TB

namespace TB
open PySem PySem.Spec PyProof.Rows L2 Evl TimberAuction TBM AuctionSpec
open C8 (pe_c pe_mk pe_mt pe_mt0)
theorem iL_getD {l : List Nat} {i : Nat} {x : V} (h : (iL l)[i]? = some x) : x = iN (l.getD i 0) := by
  obtain ⟨n, hn, rfl⟩ := iL_inv h
  rw [List.getD_eq_getElem?_getD, hn]
  rfl
section
variable {K : PySem.W.Frag} {σ : L2.St} {H : Hp} {ta tb : TE}
theorem el_listZip {xs ys : List V} (ha : EvL ta σ H xs) (hb : EvL tb σ H ys) (hl : xs.length = ys.length) (hn : xs.length ≤ 1000) {H1 : Hp} (e : Ex H H1) {Q : VK}
    (q : ∀ p Ts H2, H1 p = none → Ex H1 H2 → Ts.length = xs.length → (∀ T ∈ Ts, H1 T = none) → H2 p = some (.lst (rL Ts)) → (∀ (j : Nat) T x y, Ts[j]? = some T → xs[j]? = some x → ys[j]? = some y → H2 T = some (.tup [x, y])) → Q (.ref p) H2) : tListZip K (tCons ta (tCons tb tNil)) σ H1 Q :=
  ha H1 e _ fun a H2 _ e2 h2 => hb H2 (e.trans e2) _ fun b H3 _ e3 h3 => ⟨a, b, xs, ys, rfl, sq_of (e3 _ _ h2), sq_of h3, hl, hn, fun p Ts H4 e4 np hT nT hp hTs => q p Ts H4 (fresh_back (e2.trans e3) np) ((e2.trans e3).trans e4) hT (fun T h => fresh_back (e2.trans e3) (nT T h)) hp hTs⟩
end
section
variable {P : Program} {w : World} {K : PySem.W.Frag} {mg : Str → Option Value} {base : Heap} {A : Ad}
/-! ### Bid(..) -/
def sp_Bid (A : Ad) : Sp := fun vs H Q _ => ∃ p dx a pa c va r vol pr, vs = [.ref p, a, .ref pa, c, .ref va, r] ∧ H p = some (.ins A.Bid dx []) ∧ H va = some (.lst (iL vol)) ∧ H pa = some (.lst (iL pr)) ∧ vol.length = 10 ∧ pr.length = 10 ∧ (∀ x ∈ pr, x ≤ 1000000) ∧
  ∀ H', H' p = some (.ins A.Bid dx (fBid a (.ref pa) c (.ref va) r (iN (valueOf vol pr)) (.bl false))) → ExB p H H' → Q .non H'
theorem m_Bid (T : Txt K mg A) : C8.Mak P w K mg base 1 "Bid" A.Bid (sp_Bid A) [] := by
  refine makOf T.m_Bid sc_Bid___init__ (fun _ _ _ _ _ _ us hl => match us, hl with | [_, _, _, _, _, _], _ => rfl) (fun vs H Q E h => ?_) (fun f cdv Ar outer st H vs Q E hr h => ?_)
  · obtain ⟨p, dx, a, pa, c, va, r, vol, pr, rfl, _⟩ := h
    rfl
  · obtain ⟨p, dx, a, pa, c, va, r, vol, pr, rfl, hp, hva, hpa, lv, lp, hpr, kQ⟩ := h
    refine ⟨_, (pss_cons (ps_fld (pv 0) (pv 1) rfl)
        (pss_cons (ps_fld (pv 0) (pv 2) rfl)
        (pss_cons (ps_fld (pv 0) (pv 3) rfl)
        (pss_cons (ps_fld (pv 0) (pv 4) rfl)
        (pss_cons (ps_fld (pv 0) (pv 5) rfl)
        (pss_cons (ps_fld (pv 0) (pe_callB (cr_sum (by rfl)) (by rfl) T.b_sum boot_sum (pa_cons (pe_lc (own := [("volume", 6), ("price", 7)]) (tt := tYes) rfl sc_Bid___init__.nd (pi_zip (by rfl) T.b_zip (pa_cons (pv 4) (pa_cons (pv 2) pa_nil))) (blkOk_by (own := [("volume", 6), ("price", 7)]) (N := ["self", "lots", "prices", "bidders", "volumes", "reserve", "volume", "price"]) (sc := defScope s_Bid___init__) (by decide +kernel)) (fun _ _ _ _ _ => (pg_tupB (K := K) (n := 2) (by rfl) rfl (pgs_cons (pg_name (i := 6) sc_Bid___init__.nd rfl (Or.inl rfl)) (pgs_cons (pg_name (i := 7) sc_Bid___init__.nd rfl (Or.inl rfl)) pgs_nil)))) (fun _ _ _ _ _ => pts_nil) (fun _ _ _ _ _ => (pe_op op_mul (pv 6) (pv 7)))) pa_nil)) rfl)
        (pss_one (ps_fld (pv 0) pe_bl rfl)))))))), ?_⟩
    have nv : va ≠ p := ne_of hva hp (by intro z; cases z)
    have np : pa ≠ p := ne_of hpa hp (by intro z; cases z)
    refine q_fldV (ev_var rfl) (ev_var rfl) hp T.cl_Bid T.n_Bid_lots (by show 0 < 1000; decide) fun H1 e1 => ?_
    have b1 := (ExB.refl p H).upd (o := .ins A.Bid dx (putF "lots" a [])) e1
    refine q_fldV (ev_var rfl) (ev_var rfl) upd_same T.cl_Bid T.n_Bid_prices (by show 1 < 1000; decide) fun H2 e2 => ?_
    have b2 := b1.upd (o := .ins A.Bid dx (putF "prices" (.ref pa) (putF "lots" a []))) e2
    refine q_fldV (ev_var rfl) (ev_var rfl) upd_same T.cl_Bid T.n_Bid_bidders (by show 2 < 1000; decide) fun H3 e3 => ?_
    have b3 := b2.upd (o := .ins A.Bid dx (putF "bidders" c (putF "prices" (.ref pa) (putF "lots" a [])))) e3
    refine q_fldV (ev_var rfl) (ev_var rfl) upd_same T.cl_Bid T.n_Bid_volumes (by show 3 < 1000; decide) fun H4 e4 => ?_
    have b4 := b3.upd (o := .ins A.Bid dx (putF "volumes" (.ref va) (putF "bidders" c (putF "prices" (.ref pa) (putF "lots" a []))))) e4
    refine q_fldV (ev_var rfl) (ev_var rfl) upd_same T.cl_Bid T.n_Bid_reserve (by show 4 < 1000; decide) fun H5 e5 => ?_
    have b5 := b4.upd (o := .ins A.Bid dx (putF "reserve" r (putF "volumes" (.ref va) (putF "bidders" c (putF "prices" (.ref pa) (putF "lots" a [])))))) e5
    refine q_fldV (y := iN (valueOf vol pr)) (ev_is (ev_sumL (K := K) (ns := (List.range 10).map fun g => ((vol.getD g 0 * pr.getD g 0 : Nat) : Int)) ?_) ?_) (ev_var rfl) upd_same T.cl_Bid T.n_Bid_value (by show 5 < 1000; decide) fun H6 e6 => ?_
    · rw [List.map_map, ← given_all]
      refine el_zip (K := K) (xs := iL vol) (ys := iL pr) (j1 := 6) (j2 := 7) 10 _ (ea_cons (ev_var rfl) (ea_cons (ev_var rfl) ea_nil)) (sq_of (b5 _ _ hva nv)) (sq_of (b5 _ _ hpa np)) (by rw [iL_len]; exact lv) (by rw [iL_len]; exact lp) (by decide) (fun _ _ => rfl) fun i x y H7 e7 hx hy => ?_
      rw [iL_getD hx, iL_getD hy]
      have hpi : pr.getD i 0 ≤ 1000000 := by
        obtain ⟨n, hn, _⟩ := iL_inv hy
        rw [List.getD_eq_getElem?_getD, hn]
        exact hpr n (List.mem_of_getElem? hn)
      refine ev_is (ev_op (ev_var rfl) (ev_var rfl) (rv_I (.inr ⟨by omega, by omega⟩))) ?_
      show V.int _ = V.int ((vol.getD i 0 * pr.getD i 0 : Nat) : Int)
      rw [Int.natCast_mul]
    · rw [value_is, show ((List.range 10).map fun g => ((vol.getD g 0 * pr.getD g 0 : Nat) : Int)) = ((List.range 10).map fun g => vol.getD g 0 * pr.getD g 0).map fun (n : Nat) => (n : Int) by rw [List.map_map]; rfl, ← sum_cast]
      rfl
    · have b6 := b5.upd (o := .ins A.Bid dx (putF "value" (iN (valueOf vol pr)) (putF "reserve" r (putF "volumes" (.ref va) (putF "bidders" c (putF "prices" (.ref pa) (putF "lots" a []))))))) e6
      refine s_fldV ev_c (ev_var rfl) upd_same T.cl_Bid T.n_Bid_withdrawn (by show 6 < 1000; decide) fun H7 e7 => ?_
      exact kQ _ upd_same (b6.upd e7)
/-! ### new_bid -/
structure NewBid (A : Ad) (s : Sale) (H H2 : Hp) (x dx lp pq bq va : Addr) (Ts : List Addr) (lots prices bidders : List Nat) : Prop where
  nx : H x = none
  at_ : H2 x = some (.ins A.Bid dx (fBid (.ref lp) (.ref pq) (.ref bq) (.ref va) (iN (s.reserve ⟨lots, byGrade prices, pairsOf bidders, false⟩)) (iN (s.value ⟨lots, byGrade prices, pairsOf bidders, false⟩)) (.bl false)))
  npq : H pq = none
  pq : H2 pq = some (.lst (iL (byGrade prices)))
  nbq : H bq = none
  bq : H2 bq = some (.lst (rL Ts))
  nT : ∀ t ∈ Ts, H t = none
  Ts : All2 (fun _ t (e : Nat × Nat) => H2 t = some (.tup [iN e.1, iN e.2])) Ts (pairsOf bidders)
  nva : H va = none
  va : H2 va = some (.lst (iL (totalVolumes s.lots lots)))
def R_new_bid (A : Ad) : List V → Hp → (V → Hp → Prop) → Prop := fun vs H Pz => ∃ a τ s lp pp bp lots prices bidders, vs = [.ref a, .ref lp, .ref pp, .ref bp] ∧ SaleAt A τ H a s ∧ SaleOk s ∧ H lp = some (.lst (iL lots)) ∧ H pp = some (.lst (iL prices)) ∧ H bp = some (.lst (iL bidders)) ∧
  (∀ n ∈ lots, n < s.lots.length) ∧ lots.length ≤ 10 ∧ prices.length ≤ 10 ∧ (∀ x ∈ prices, x ≤ 1000000) ∧ bidders.length ≤ 8 ∧ bidders.length % 2 = 0 ∧ Pz = fun v H2 => ∃ x dx pq bq va Ts, v = .ref x ∧ NewBid A s H H2 x dx lp pq bq va Ts lots prices bidders
theorem byGrade_le {l : List Nat} {m : Nat} (h : ∀ x ∈ l, x ≤ m) : ∀ x ∈ byGrade l, x ≤ m := by
  intro x hx
  unfold byGrade at hx
  obtain ⟨g, _, rfl⟩ := List.mem_map.mp hx
  rw [List.getD_eq_getElem?_getD]
  cases hg : l[g]? with
  | none => exact Nat.zero_le _
  | some y => exact h y (List.mem_of_getElem? hg)
theorem c_new_bid (T : Txt K mg A) : C8.Cal P w K mg base 3 "new_bid" (spP (R_new_bid A)) [] := by
  have m_Bid : C8.Mak P w K mg base 1 "Bid" A.Bid (sp_Bid A) [] := m_Bid T
  have c_grade_volume : C8.Cal P w K mg base 1 "grade_volume" (spV (R_grade_volume A)) [] := c_grade_volume T
  have c_for_all_grades : C8.Cal P w K mg base 1 "for_all_grades" (spP R_for_all_grades) [] := c_for_all_grades T
  refine calOf T.d_new_bid sc_new_bid (fun _ _ _ _ _ _ us hl => match us, hl with | [_, _, _, _], _ => rfl) (fun vs H Q E h => ?_) (fun f cdv Ar outer st H vs Q E hr h => ?_)
  · obtain ⟨_, ⟨a, τ, s, lp, pp, bp, lots, prices, bidders, rfl, _⟩, _⟩ := h
    rfl
  · obtain ⟨_, ⟨a, τ, s, lp, pp, bp, lots, prices, bidders, rfl, ⟨sdx, loA, bdA, liA, las, bas, hs⟩, ok, hlp, hpp, hbp, hlt, hll, hpl, hpr, hbl, hbe, rfl⟩, kQ⟩ := h
    refine ⟨_, (pss_cons (ps_set (i := 4) sc_new_bid.nd rfl (Or.inr rfl) (pe_lc (own := [("lot", 8)]) (tt := tYes) rfl sc_new_bid.nd (pi_list (pv 1)) (blkOk_by (own := [("lot", 8)]) (N := ["sale", "lots", "prices", "bidders", "members", "volumes", "reserve", "pairs", "lot", "grade"]) (sc := defScope s_new_bid) (by decide +kernel)) (fun _ _ _ _ _ => (pg_name (i := 8) sc_new_bid.nd rfl (Or.inl rfl))) (fun _ _ _ _ _ => pts_nil) (fun _ _ _ _ _ => (pe_ix (ix_listB (K := K) (by rfl)) (pe_fldB (K := K) (by rfl) (pv 0) (by rfl)) (pv 8) (fun _ _ => rfl)))))
        (pss_cons (ps_setLc (i := 5) (own := [("grade", 9)]) (tt := tYes) rfl sc_new_bid.nd rfl rfl (sw_true rfl rfl rfl (by decide +kernel)) (pi_range1 (by rfl) T.b_range (pa_cons (pe_gi (by rfl) T.k_GRADES) pa_nil)) (blkOk_by (own := [("grade", 9)]) (N := ["sale", "lots", "prices", "bidders", "members", "volumes", "reserve", "pairs", "lot", "grade"]) (sc := defScope s_new_bid) (by decide +kernel)) (fun _ _ _ _ _ => (pg_name (i := 9) sc_new_bid.nd rfl (Or.inl rfl))) (fun _ _ _ _ _ => pts_nil) (fun _ _ _ _ _ => (pe_c c_grade_volume hr (by decide) (by rfl) (pa_cons (pv 4) (pa_cons (pv 9) pa_nil)))))
        (pss_cons (ps_set (i := 6) sc_new_bid.nd rfl (Or.inl rfl) (pe_op op_mul (pe_gi (by rfl) T.k_MILLICENTS) (pe_callB (cr_sum (by rfl)) (by rfl) T.b_sum boot_sum (pa_cons (pe_lc (own := [("lot", 8)]) (tt := tYes) rfl sc_new_bid.nd (pi_list (pv 4)) (blkOk_by (own := [("lot", 8)]) (N := ["sale", "lots", "prices", "bidders", "members", "volumes", "reserve", "pairs", "lot", "grade"]) (sc := defScope s_new_bid) (by decide +kernel)) (fun _ _ _ _ _ => (pg_name (i := 8) sc_new_bid.nd rfl (Or.inl rfl))) (fun _ _ _ _ _ => pts_nil) (fun _ _ _ _ _ => (pe_fldB (K := K) (by rfl) (pv 8) (by rfl)))) pa_nil))))
        (pss_cons (ps_set (i := 7) sc_new_bid.nd rfl (Or.inl rfl) (pe_listZip (by rfl) T.b_list (by rfl) T.b_zip rfl (pa_cons (pe_slice2 (by decide) (pv 3)) (pa_cons (pe_slice2 (by decide) (pv 3)) pa_nil))))
        (pss_one (ps_ret (pe_mk m_Bid hr (by decide) (by rfl) (pa_cons (pv 1) (pa_cons (pe_c c_for_all_grades hr (by decide) (by rfl) (pa_cons (pv 2) pa_nil)) (pa_cons (pv 7) (pa_cons (pv 5) (pa_cons (pv 6) pa_nil)))))))))))), ?_⟩
    have hlot : ∀ n ∈ lots, las[n]? = some (las.getD n 0) := fun n hn => by
      have h := hlt n hn
      rw [← hs.lots.1] at h
      exact getD_get h
    refine q_asgL (el_compM (K := K) lots (fun n => .ref (las.getD n 0)) (ev_var rfl) (sq_of hlp) (iL_len _) (by rw [iL_len]; omega) (fun _ => rfl) (fun i x n H1 e1 hx hn => ?_)) fun mp H1 n1 e1 hm => ?_
    · obtain ⟨n', hn', rfl⟩ := iL_inv hx
      rw [hn] at hn'
      cases hn'
      exact ev_ixL (K := K) (ev_fld (ev_var rfl) (e1 _ _ hs.at_) T.cl_Sale T.n_Sale_lots lk_Sale_lots) (ev_var rfl) (sq_of (e1 _ _ hs.lo)) (rL_get (hlot n (List.mem_of_getElem? hn)))
    obtain ⟨hml, hmg⟩ := members_get hlt
    have hmem : MemAt A τ H1 mp (lots.filterMap fun n => s.lots[n]?) := by
      refine ⟨lots.map fun n => las.getD n 0, ?_, by rw [List.length_map, hml], fun i a' l ha' hl => ?_⟩
      · rw [hm]
        unfold rL
        rw [List.map_map]
        rfl
      · rw [List.getElem?_map] at ha'
        obtain ⟨n, hn, rfl⟩ := Option.map_eq_some_iff.mp ha'
        rw [hmg i n hn] at hl
        exact (hs.lots.2 n _ l (hlot n (List.mem_of_getElem? hn)) hl).go (.ex e1)
    have hmv : ∀ l ∈ (lots.filterMap fun n => s.lots[n]?), l ∈ s.lots := fun l hl => by
      obtain ⟨n, _, hn⟩ := List.mem_filterMap.mp hl
      exact List.mem_of_getElem? hn
    refine q_asgL (el_lcR1 (n := 10) (fun _ => true) (fun g => iN (Amounts.sum ((lots.filterMap fun n => s.lots[n]?).map fun l => l.volumes.getD g 0))) (ea_cons ev_c ea_nil) (by omega) (fun _ => rfl) (fun _ _ _ _ => et_yes) (fun g H2 e2 hg _ => ?_)) fun vp H2 n2 e2 hvp => ?_
    · exact ev_callV (ea_cons (ev_var rfl) (ea_cons (ev_var rfl) ea_nil)) fun H3 e3 => ⟨mp, τ, _, g, rfl, hmem.ex (e2.trans e3), fun l hl => (ok.lot l (hmv l hl)).2.1, by omega, by rw [hml]; omega, rfl⟩
    have hvol : H2 vp = some (.lst (iL (totalVolumes s.lots lots))) := by
      rw [hvp, given_all, tot_is]
      unfold iL
      rw [List.map_map]
      rfl
    obtain ⟨mas, hma, hmal⟩ := hmem.ex e2
    refine q_asg (v := iN (s.reserve ⟨lots, byGrade prices, pairsOf bidders, false⟩)) (ev_is (ev_op ev_c (ev_sumL (K := K) (ns := (lots.filterMap fun n => s.lots[n]?).map fun (l : Lot) => ((l.reserve : Nat) : Int)) ?_) (rv_I (.inl ⟨by decide, by decide⟩))) ?_) fun H3 e3 => ?_
    · rw [List.map_map]
      refine el_compM (K := K) (lots.filterMap fun n => s.lots[n]?) (fun (l : Lot) => iN l.reserve) (ev_var rfl) (sq_of hma) (by rw [rL_len, hmal.1]) (by rw [rL_len, hmal.1, hml]; omega) (fun _ => rfl) (fun i x l H3 e3 hx hl => ?_)
      obtain ⟨a', ha', rfl⟩ := rL_inv hx
      obtain ⟨ldx, va, t0, hat, hnum⟩ := (hmal.2 i a' l ha' hl).go (.ex e3)
      exact ev_fld (ev_var rfl) hat T.cl_Lot T.n_Lot_reserve lk_Lot_reserve
    · rw [show ((lots.filterMap fun n => s.lots[n]?).map fun (l : Lot) => ((l.reserve : Nat) : Int)) = ((lots.filterMap fun n => s.lots[n]?).map fun l => l.reserve).map fun (n : Nat) => (n : Int) by rw [List.map_map]; rfl, ← sum_cast]
      show V.int _ = V.int ((1000 * _ : Nat) : Int)
      rw [Int.natCast_mul]
      rfl
    obtain ⟨hev1, hev2⟩ := evens_pairs bidders hbe
    have hpl2 := pairs_len bidders
    have e123 := (e1.trans e2).trans e3
    have hs0 : EvL (tSl2 K 0 (tVar 3)) [some (.ref a), some (.ref lp), some (.ref pp), some (.ref bp), some (.ref mp), some (.ref vp), some (iN (s.reserve ⟨lots, byGrade prices, pairsOf bidders, false⟩)), none, none, none] H3 (iL ((pairsOf bidders).map (·.1))) := by
      have := el_sl2 (K := K) (te := tVar 3) (σ := [some (.ref a), some (.ref lp), some (.ref pp), some (.ref bp), some (.ref mp), some (.ref vp), some (iN (s.reserve ⟨lots, byGrade prices, pairsOf bidders, false⟩)), none, none, none]) (H := H3) (a := bp) (xs := iL bidders) (k := 0) (ev_var rfl) (sq_of (e123 _ _ hbp))
      rw [show (0 : Int).toNat = 0 from rfl, evens_iL] at this
      rw [← hev1]
      exact this
    have hs1 : EvL (tSl2 K 1 (tVar 3)) [some (.ref a), some (.ref lp), some (.ref pp), some (.ref bp), some (.ref mp), some (.ref vp), some (iN (s.reserve ⟨lots, byGrade prices, pairsOf bidders, false⟩)), none, none, none] H3 (iL ((pairsOf bidders).map (·.2))) := by
      have := el_sl2 (K := K) (te := tVar 3) (σ := [some (.ref a), some (.ref lp), some (.ref pp), some (.ref bp), some (.ref mp), some (.ref vp), some (iN (s.reserve ⟨lots, byGrade prices, pairsOf bidders, false⟩)), none, none, none]) (H := H3) (a := bp) (xs := iL bidders) (k := 1) (ev_var rfl) (sq_of (e123 _ _ hbp))
      rw [show (1 : Int).toNat = 1 from rfl, evens_iL] at this
      rw [← hev2]
      exact this
    refine seq_run (asg_run (el_listZip hs0 hs1 (by rw [iL_len, iL_len, List.length_map, List.length_map]) (by rw [iL_len, List.length_map]; omega) (Ex.refl _) fun bq Ts H4 n4 e4 hTl hTn hbq hTs => ?_))
    refine ret_run (make_run (cons_run (var_run rfl (cons_run (call_run (cons_run (var_run rfl (nil_run ⟨_, ⟨pp, prices, rfl, (e123.trans e4) _ _ hpp, hpl, rfl⟩, ?_⟩))))))))
    rintro v H5 e5 ⟨pq, rfl, n5, hpq⟩
    refine cons_run (var_run rfl (cons_run (var_run rfl (cons_run (var_run rfl (nil_run ?_))))))
    intro x dx nx ndx ne
    have e45 := e4.trans e5
    have e5' : Ex H H5 := e123.trans e45
    have nx2 : (upd H5 dx (.own x)) x = none := by rw [upd_ne (Ne.symm ne)]; exact nx
    have eM : ∀ b o, H5 b = some o → (upd (upd H5 dx (.own x)) x (.ins A.Bid dx [])) b = some o ∧ b ≠ x := fun b o h => by
      have h1 : b ≠ x := ne_of_none h nx
      exact ⟨by rw [upd_ne h1, upd_ne (ne_of_none h ndx)]; exact h, h1⟩
    have hvol5 : H5 vp = some (.lst (iL (totalVolumes s.lots lots))) := (e3.trans e45) _ _ hvol
    refine ⟨x, dx, .ref lp, pq, .ref bq, vp, iN (s.reserve ⟨lots, byGrade prices, pairsOf bidders, false⟩), totalVolumes s.lots lots, byGrade prices, rfl, upd_same, (eM _ _ hvol5).1, (eM _ _ hpq).1, tot_len _ _, grade_len _, byGrade_le hpr, fun H6 h6 b6 => ⟨rfl, ?_⟩⟩
    have up : ∀ b o, H5 b = some o → H6 b = some o := fun b o h => b6 b o (eM b o h).1 (eM b o h).2
    refine kQ _ H6 (fun b o h => up b o (e5' b o h)) ⟨x, dx, pq, bq, vp, Ts, rfl, fresh_back e5' nx, h6, fresh_back (e123.trans e4) n5, up _ _ hpq, fresh_back e123 n4, up _ _ (e5 _ _ hbq), fun t ht => fresh_back e123 (hTn t ht), ⟨?_, fun i t e ht he => ?_⟩, fresh_back e1 n2, up _ _ hvol5⟩
    · rw [hTl, iL_len, List.length_map]
    · refine up _ _ (e5 _ _ (hTs i t _ _ ht (iL_get ?_) (iL_get ?_)))
      · rw [List.getElem?_map, he]
        rfl
      · rw [List.getElem?_map, he]
        rfl
end
end TB

namespace TB
open PySem PySem.Spec PyProof.Rows L2 LamX
/-! ### sorted(range(..), key=lambda place: -(due * weights[place] % total)) -/
section
variable {prog : Program} {w : World} {A : Around} {E : Value → Shared → Prop} {s : Shared}
theorem key_body {env : Env} {m : Str → Option Value} {place dueN wN totN : Str} {i due wt tot : Int} {t0 t1 t2 t3 : Tok} {a1 a2 a3 wa : Addr} {its : Array Value} {p1 p2 p3 p4 p5 p6 p7 p8 : Pos} {Q : Value → Shared → Prop}
    (hk : env.scope.kind = .function) (k0 : env.kindOf place = some .local) (hn : s.heap.Ns env.locals m) (hm : m place = some (.int i t0))
    (k1 : env.kindOf dueN = some .free) (c1 : env.cells.lookup dueN = some a1) (h1 : s.heap.IsCell a1 (some (.int due t1)))
    (k2 : env.kindOf wN = some .free) (c2 : env.cells.lookup wN = some a2) (h2 : s.heap.IsCell a2 (some (.ref wa)))
    (k3 : env.kindOf totN = some .free) (c3 : env.cells.lookup totN = some a3) (h3 : s.heap.IsCell a3 (some (.int tot t3)))
    (hw : s.heap.IsList wa its) (hi : 0 ≤ i) (hi2 : i < 2 ^ 63) (hit : its[i.toNat]? = some (.int wt t2)) (ok : IntMulOk due wt) (h0 : tot ≠ 0)
    (e0 : (place == ("__debug__" : Str)) = false) (e1 : (dueN == ("__debug__" : Str)) = false) (e2 : (wN == ("__debug__" : Str)) = false) (e3 : (totN == ("__debug__" : Str)) = false)
    (f1 : (dueN == ("__classdict__" : Str)) = false) (f2 : (wN == ("__classdict__" : Str)) = false) (f3 : (totN == ("__classdict__" : Str)) = false)
    (h : ∀ (t : Tok) (tk : Nat), Q (.int (-((due * wt).fmod tot)) t) { s with toks := tk }) :
    wpAny (model prog w) A (eval (.UnaryOp .USub (.BinOp (.BinOp (.Name dueN p1) .Mult (.Subscript (.Name wN p2) (.Name place p3) p4) p5) .Mod (.Name totN p6) p7) p8) env) Q E s := by
  refine UnaryOp_ (wpAny_BinOp (wpAny_BinOp ?_))
  refine wpAny_Name (wpAny_loadName_free hk k1 c1 h1 ?_ f1) e1
  refine Subscript_ (wpAny_Name (wpAny_loadName_free hk k2 c2 h2 ?_ f2) e2)
  refine wpAny_Name (wpAny_loadName_local hk k0 hn hm ?_) e0
  refine item_listR hw hi hi2 hit (mul_int ?_ ok) rfl
  refine wpAny_Name (wpAny_loadName_free hk k3 c3 h3 ?_ f3) e3
  refine mod_int' h0 (neg_int ?_)
  exact h _ _
end
end TB

namespace TB
open PySem PySem.Spec PyProof.Rows L2 LamX
section
variable {prog : Program} {w : World} {A : Around} {E : Value → Shared → Prop} {s : Shared}
/-- a lambda of one parameter is called: all that was there is kept -/
theorem key_call {f c' : Addr} {qual x : Str} {params : Arguments} {scope : Scope} {cl : List (Str × Addr)} {pm ctv v : Value} {body : Expr} {key : Int} (hroom : A.depth < recursionLimit)
    (ho : s.heap.get? f = some (PySem.W.kla_obj "<lambda>" qual params body scope cl pm c' ctv)) (hcd : s.heap.CodeRec (.ref c') qual) (lim : s.heap.NoLimit)
    (co : scope.isCoroutine = false) (gen : scope.isGenerator = false) (kind : scope.kind = .function) (nc : ∀ y ∈ scope.names, y.2 ≠ NameKind.cell) (hloc : scope.names.lookup x = some .local)
    (hbind : bindArgs (PySem.W.kla_fn "<lambda>" qual params body scope cl pm (.ref c') ctv) ⟨[v], []⟩ = pure [(x, v)])
    (hbody : ∀ (h1 : Heap) (L : Addr) (A1 : Around) (tk : Nat) (Q : Value → Shared → Prop) (E1 : Value → Shared → Prop), (∀ b o, s.heap.get? b = some o → h1.get? b = some o) → h1.Ns L (fun y => ([(x, v)] : List (Str × Value)).reverse.lookup y) →
      (∀ t tk, Q (.int key t) { s with heap := h1, toks := tk }) → wpAny (model prog w) A1 (eval body (PySem.W.envX qual scope L f (.ref c') cl)) Q E1 { s with heap := h1, toks := tk }) :
    wpAny (model prog w) A (call (.ref f) [v]) (PySem.W.KeyPure (.int key) s) (fun _ _ => False) s := by
  refine wpAny_call (PySem.W.kla_callFunE hroom ho rfl co gen rfl hcd ?_)
  rw [hbind]
  refine wpAny_pure (wpAny_newFunctionEnv nc (fun y hy => ?_) (fun h1 hns hsb => ⟨lim.fresh _ hsb, ?_⟩) kind)
  · rw [List.mem_singleton.mp hy]
    exact hloc
  · have kp : ∀ b o, s.heap.get? b = some o → h1.get? b = some o := fun b o e => by
      rw [hsb.2 b (Nat.ne_of_lt (Heap.lt_size e))]
      exact Heap.get?_push_of_some _ e
    refine PySem.W.kla_codeExpr (hbody h1 s.heap.objs.size _ _ _ _ kp hns fun t tk => ?_)
    exact ⟨h1, tk, rfl, kp, .int _ _⟩
end
end TB

namespace TB
open PySem PySem.Spec PyProof.Rows L2 LamX
section
variable {prog : Program} {w : World} {A : Around} {E : Value → Shared → Prop} {s : Shared}
theorem each_of {α β : Type} {R : α → β → Prop} : ∀ {as : List α} {bs : List β}, as.length = bs.length → (∀ (i : Nat) a b, as[i]? = some a → bs[i]? = some b → R a b) → PySem.W.EachIs R as bs
  | [], [], _, _ => .nil
  | a :: as, b :: bs, hl, h => .cons (h 0 a b rfl rfl) (each_of (Nat.succ.inj hl) fun i x y hx hy => h (i + 1) x y hx hy)
  | [], _ :: _, hl, _ => by cases hl
  | _ :: _, [], hl, _ => by cases hl
theorem each_get {α β : Type} {R : α → β → Prop} : ∀ {as : List α} {bs : List β}, PySem.W.EachIs R as bs → as.length = bs.length ∧ ∀ (i : Nat) a b, as[i]? = some a → bs[i]? = some b → R a b
  | [], [], _ => ⟨rfl, fun i a b h => by simp at h⟩
  | a :: as, b :: bs, h => by
    cases h with
    | cons h1 t =>
      obtain ⟨e, g⟩ := each_get t
      refine ⟨by simp [e], fun i x y hx hy => ?_⟩
      cases i with
      | zero =>
        cases hx
        cases hy
        exact h1
      | succ i => exact g i x y hx hy
  | [], _ :: _, h => by cases h
  | _ :: _, [], h => by cases h
/-- sorted(range(n), key=f) -/
theorem sorted_range_key {r f : Addr} {n : Nat} {t u v : Tok} {Q : Value → Shared → Prop} (key : Nat → Int) (hh : A.handled = none) (hr : IsRange s.heap r 0 n 1 t u v) (hn : n ≤ 60000) (hu : A.units + 10 < cLine)
    (turn : ∀ (i : Nat) (t : Tok) (h : Heap) (tk : Nat), i < n → (∀ b o, s.heap.get? b = some o → h.get? b = some o) → wpAny (model prog w) A.in1.in1 (call (.ref f) [.int i t]) (PySem.W.KeyPure (.int (key i)) { s with heap := h, toks := tk }) (fun _ _ => False) { s with heap := h, toks := tk })
    (fin : ∀ (out : List Value) (c : Nat) (D : Addr) (h : Heap) (tk : Nat), (∀ b o, s.heap.get? b = some o → h.get? b = some o) → (∀ b o, s.heap.get? b = some o → b < D) → h.get? D = some (seqObj "list" out.toArray c) →
      PySem.W.EachIs (fun v (i : Nat) => ∃ t, v = Value.int (i : Int) t) out ((List.range n).mergeSort fun a b => decide (key a ≤ key b)) → Q (.ref D) { s with heap := h, toks := tk }) :
    wpAny (model prog w) A (call (.builtin "sorted") [.ref r] [(Str.ofString "key", .ref f)]) Q E s := by
  refine call_function_entry_kw (id := "sorted") kind_sorted plain_sorted entry_sorted (ksk_s1 _ _) ?_
  unfold Builtin.«sorted»
  refine wpAny_bind (m := checkCount "sorted" 1 1 _) (wpAny_pure ?_)
  have hsm : Builtin.Range.small 0 (n : Int) 1 = true := small_one (by omega) (by omega) (by omega) (by omega)
  have hsz : Builtin.Range.rangeSize 0 (n : Int) 1 = n := by
    have := rangeSize_nat 0 (n : Int)
    simpa using this
  refine wpAny_bind (L2.collect_range (A := A.in1) hh hr hsm hsz (by omega) fun h1 tk1 acc k1 hacc => ?_)
  have hline : (60000 : Nat) ≤ sizeLine := by decide
  have hal : acc.toList.length = n := by
    rw [Array.length_toList]
    exact hacc.1
  refine wpAny_bind (wpAny_newList ?_ (by rw [hal]; omega))
  have hD : (h1.push { cls := Value.type "list", data := Data.seq acc.toList.toArray }).get? h1.objs.size = some (seqObj "list" acc.toList.toArray 0) := Heap.get?_push_size _ rfl
  refine wpAny_bind (wpAny_holding (wpAny_call_entry_kw slot_list_sort ⟨_, hD, rfl⟩ entry_list_sort ?_ (ksk_l1 _ _)))
  rw [ksk_t1]
  have kp : ∀ {g : Heap}, PySem.W.KeepsBut h1.objs.size (h1.push { cls := Value.type "list", data := Data.seq acc.toList.toArray }) g → ∀ b o, s.heap.get? b = some o → g.get? b = some o := fun {g} k b o q =>
    k b o (Nat.ne_of_lt (Heap.lt_size (k1 b o q))) (Heap.get?_push_of_some _ (k1 b o q))
  have lt : ∀ b o, s.heap.get? b = some o → b < h1.objs.size := fun b o q => Heap.lt_size (k1 b o q)
  refine wpAny_mono (PySem.W.keyH_tree (b := false) (kz := (List.range n).map fun i => PyData.int (key i)) (P := fun f s' => f = .done (.ret .none) ∧ Q (.ref h1.objs.size) s') hD (by rw [List.length_map, List.length_range, hal]) (by rw [hal]; omega)
    (PySem.W.AllAlike.of fun _ _ => rfl) (.inr fun d hd => ?_) (fun d hd => ?_) (fun i v k hv hk h tk kb => ?_) fun h2 tk2 out c kb hD2 ko => ?_) (fun f s' hf => ?_) fun _ _ e => e
  · obtain ⟨i, _, rfl⟩ := List.mem_map.mp hd
    exact ⟨(by intro z; cases z), fun xs z => by cases z⟩
  · obtain ⟨i, _, rfl⟩ := List.mem_map.mp hd
    show A.units + 1 + 1 + 0 < cLine
    omega
  · have hi : i < n := by
      have := (List.getElem?_eq_some_iff.mp hv).1
      omega
    rw [List.getElem?_map, List.getElem?_range hi] at hk
    cases hk
    obtain ⟨t, e⟩ := hacc.2 i v (by rw [← Array.getElem?_toList]; exact hv)
    rw [show (0 : Int) + (i : Int) * 1 = (i : Int) by omega] at e
    subst e
    exact turn i t h tk hi (kp kb)
  · refine ⟨rfl, fin out c h1.objs.size h2 tk2 (kp kb) lt hD2 ?_⟩
    have e := PySem.W.keyedOut_each (R := fun v (i : Nat) => ∃ t, v = Value.int (i : Int) t) (fun i : Nat => PyData.int (key i)) ko (each_of (by rw [hal, List.length_range]) fun i v j hv hj => ?_)
    · rw [PySem.W.dataLe_int] at e
      exact e
    · have hi : i < n := by
        have := (List.getElem?_eq_some_iff.mp hv).1
        omega
      rw [List.getElem?_range hi] at hj
      cases hj
      obtain ⟨t, e⟩ := hacc.2 i v (by rw [← Array.getElem?_toList]; exact hv)
      rw [show (0 : Int) + (i : Int) * 1 = (i : Int) by omega] at e
      exact ⟨t, e⟩
  · obtain ⟨rfl, hq⟩ := hf
    exact ⟨_, rfl, wpAny_pure ⟨_, rfl, hq⟩⟩
end
end TB

namespace TB
open PySem PySem.Spec PyProof.Rows L2 LamX
/-- the table at P: what it tells are code objects of the name q, in B -/
def TabX (B : Addr → Prop) (H : Hp) (P : Addr) (q : Str) : Prop := ∃ ps : Array Value, H P = some (.tbl ps) ∧ TriplesOk ps.toList ∧ ∀ (pos : Pos) (cv : Value), codeAmong pos ps.toList = some cv → ∃ c, cv = .ref c ∧ B c ∧ H c = some (CodeO c q)
section
variable {X : Cx} {pins : List (Addr × Obj)} {σ : L2.St} {H : Hp} {s : Shared}
/-- a lambda is made: only the table at P may have grown, by one that is new -/
theorem lam_new {c P : Addr} {params : Arguments} {body : Expr} {scope : Scope} {pos : Pos} {E : Value → Shared → Prop} {Q : Value → Shared → Prop} (I : Inv X pins σ H s) (B : TabB X.base X.mg c P) (code : X.env.code = .ref c)
    {Bk : Addr → Prop} (tb : TabX Bk H P (X.env.qual ++ "<lambda>")) (defs : defaultsOf params X.env = ([], [])) (free : ∀ y ∈ scope.names, y.2 = .free → ∃ c, X.env.cells.lookup y.1 = some c)
    (k : ∀ (f c' : Addr) (pm ctv : Value) (H1 : Hp) (s' : Shared), Inv X pins σ H1 s' → (∀ b o, H b = some o → b ≠ P → H1 b = some o) → TabX (fun c => Bk c ∨ H c = none) H1 P (X.env.qual ++ "<lambda>") → (∀ b, H1 b = none → H b = none) → H1 c' = some (CodeO c' (X.env.qual ++ "<lambda>")) →
      s'.heap.get? f = some (PySem.W.kla_obj "<lambda>" (X.env.qual ++ "<lambda>") params body scope (cloFrom X.env.cells scope.names []) pm c' ctv) → Q (.ref f) s') :
    wpAny (model X.prog X.w) X.A (eval (.Lambda params body scope pos) X.env) Q E s := by
  obtain ⟨ps, tP, tOk, tAll⟩ := id tb
  have bP : s.heap.BuiltinsAt X.mg P := B.bm.keeps I.bk
  have oP : s.heap.get? P = some (PySem.W.tabObj ps) := I.hok P _ tP
  have cd : PySem.W.CodeHd s.heap c P := B.code.keeps I.bk
  refine PySem.W.kla_eval defs ?_
  cases hc : codeAmong pos ps.toList with
  | some cv =>
    obtain ⟨c', rfl, _, co⟩ := tAll pos cv hc
    refine PySem.W.kla_makeFunctionHit (mg := X.mg) (c := c) (P := P) (ps := ps) (closure_ok free) I.ok.glob (I.mod.glob.keeps I.bk) code cd oP tOk hc bP fun ctv h1 tk kp _ => ?_
    have I1 := I.kept (t' := tk) (h' := h1.push (PySem.W.kla_obj "<lambda>" (X.env.qual ++ "<lambda>") params body scope (cloFrom X.env.cells scope.names []) ((X.mg "__name__").getD .none) c' ctv)) fun b o e => Heap.get?_push_of_some _ (kp b o e)
    exact k _ c' _ ctv H _ I1 (fun b o e _ => e) ⟨ps, tP, tOk, fun p cv q => let ⟨c0, z1, z2, z3⟩ := tAll p cv q; ⟨c0, z1, .inl z2, z3⟩⟩ (fun _ n => n) co (Heap.get?_push_size _ rfl)
  | none =>
    refine PySem.W.kla_makeFunction (mg := X.mg) (c := c) (P := P) (ps := ps) (closure_ok free) I.ok.glob (I.mod.glob.keeps I.bk) code cd oP tOk hc B.gP bP fun c' ctv h1 tk but ge lt rc nt => ?_
    obtain ⟨c2, oc, us, t, e2, g1, g2, g3⟩ := rc
    cases e2
    have nc : H c' = none := I.hok.fresh ge
    have Pc : P ≠ c' := ne_of_none tP nc
    have I1 := inv_table (t' := tk) (more := #[rawInt pos.line, rawInt pos.col, .ref c']) (h' := h1.push (PySem.W.kla_obj "<lambda>" (X.env.qual ++ "<lambda>") params body scope (cloFrom X.env.cells scope.names []) ((X.mg "__name__").getD .none) c' ctv)) I tP
      (fun b o hb e => Heap.get?_push_of_some _ (but b o hb e)) (Heap.get?_push_of_some _ nt) ge ⟨oc, us, t, Heap.get?_push_of_some _ g1, g2, g3⟩
    have old : ∀ b o, H b = some o → b ≠ P → upd (upd H P (.tbl (ps ++ #[rawInt pos.line, rawInt pos.col, .ref c']))) c' (CodeO c' (X.env.qual ++ "<lambda>")) b = some o := fun b o e n => by rw [upd_ne (ne_of_none e nc), upd_ne n, e]
    refine k _ c' _ ctv _ _ I1 old ⟨_, by rw [upd_ne Pc, upd_same], ?_, fun p cv q => ?_⟩ (fun b n => ?_) upd_same (Heap.get?_push_size _ rfl)
    · rw [Array.toList_append]
      exact PySem.TriplesOk_snoc _ _ _ _ tOk
    · rw [Array.toList_append] at q
      rcases among_app _ tOk q with z | z
      · obtain ⟨c0, z1, zb, z2⟩ := tAll p cv z
        exact ⟨c0, z1, .inl zb, old _ _ z2 fun z3 => codeO_ne ps (Option.some.inj ((z2.symm.trans (by rw [z3])).trans tP))⟩
      · exact ⟨c', z, .inr nc, upd_same⟩
    · by_cases h1 : b = c'
      · rw [h1]
        exact nc
      · by_cases h2 : b = P
        · rw [upd_ne h1, h2, upd_same] at n
          cases n
        · rw [upd_ne h1, upd_ne h2] at n
          exact n
end
end TB

namespace TB
open PySem PySem.Spec PyProof.Rows L2 LamX Evl
/-- the key of the i-th place -/
def keyN (due tot : Int) (ws : List Nat) (i : Nat) : Int := -((due * ((ws.getD i 0 : Nat) : Int)).fmod tot)
def sortN (due tot : Int) (ws : List Nat) : List Nat := (List.range ws.length).mergeSort fun a b => decide (keyN due tot ws a ≤ keyN due tot ws b)
def tSortL (P : Addr) (q : Str) (i1 i2 i3 : Nat) (ta : TA) : TE := fun σ H Q => ta σ H fun vs H1 => ∃ (Bk : Addr → Prop) (r wa : Addr) (ws : List Nat) (due tot : Int), vs = [.ref r] ∧ H1 r = some (.rng 0 (ws.length : Int)) ∧ ws.length ≤ 60000 ∧
  σ[i1]? = some (some (.int due)) ∧ σ[i2]? = some (some (.ref wa)) ∧ σ[i3]? = some (some (.int tot)) ∧ H1 wa = some (.lst (iL ws)) ∧ tot ≠ 0 ∧ (∀ w ∈ ws, IntMulOk due (w : Int)) ∧ TabX Bk H1 P q ∧
  ∀ H2 p, (∀ b o, H1 b = some o → b ≠ P → H2 b = some o) → TabX (fun c => Bk c ∨ H1 c = none) H2 P q → (∀ b, H2 b = none → H1 b = none) → H1 p = none → H2 p = some (.lst (iL (sortN due tot ws))) → Q (.ref p) H2
theorem cell_keep {h h' : Heap} {c : Addr} {v : Option Value} (k : ∀ b o, h.get? b = some o → h'.get? b = some o) (x : h.IsCell c v) : h'.IsCell c v := by
  obtain ⟨o, e, d⟩ := x
  exact ⟨o, k _ _ e, d⟩
theorem list_keep {h h' : Heap} {c : Addr} {its : Array Value} (k : ∀ b o, h.get? b = some o → h'.get? b = some o) (x : h.IsList c its) : h'.IsList c its := by
  obtain ⟨o, e, d⟩ := x
  exact ⟨o, k _ _ e, d⟩
section
variable {X : Cx}
theorem fp_new {pins : List (Addr × Obj)} {σ : L2.St} {H : Hp} {s : Shared} {D : Addr} (I : Inv X pins σ H s) (lt : ∀ b o, s.heap.get? b = some o → b < D) : FpOk X pins H D := by
  have ne : ∀ b o, s.heap.get? b = some o → b ≠ D := fun b o e => Nat.ne_of_lt (lt b o e)
  have hD : H D = none := by
    cases q : H D with
    | none => rfl
    | some u =>
      exfalso
      have h := I.hok D u q
      have : ∃ o, s.heap.get? D = some o := by
        cases u with
        | lst xs => exact ⟨_, h.2.choose_spec.choose_spec.2⟩
        | tup xs => obtain ⟨_, its, _, o, e, _⟩ := h; exact ⟨o, e⟩
        | dK kvs => obtain ⟨_, _, _, _, o, _, _, e, _⟩ := h; exact ⟨o, e⟩
        | dT kvs => obtain ⟨_, _, _, _, o, _, _, e, _⟩ := h; exact ⟨o, e⟩
        | set S n => obtain ⟨o, _, _, _, e, _⟩ := h; exact ⟨o, e⟩
        | ins C dx fs => obtain ⟨_, _, _, e, _⟩ := h; exact ⟨_, e⟩
        | own y => exact h
        | xd fs => obtain ⟨_, ⟨o, _, _, e, _⟩, _⟩ := h; exact ⟨o, e⟩
        | rng lo hi => obtain ⟨_, _, _, e⟩ := h; exact ⟨_, e⟩
        | frz ob u => exact ⟨_, h.1⟩
        | tbl ps => exact ⟨_, h⟩
        | met f y => exact ⟨_, h⟩
        | ext φ => exact h.2.1
      obtain ⟨o, e⟩ := this
      exact ne _ _ e rfl
  obtain ⟨m, ⟨oL, _, _, hL, _⟩, _⟩ := I.loc
  refine ⟨hD, fun z => ne _ _ hL z.symm, fun z => ?_, .inr ?_, fun x c e z => ?_, fun p hp z => ?_⟩
  · obtain ⟨_, o, ho, _⟩ := I.funs.mem z
    exact ne _ _ ho rfl
  · exact Nat.le_trans I.ok.above (Nat.le_of_lt (lt _ _ hL))
  · obtain ⟨v, o, ho, _⟩ := I.cell x c e
    exact ne _ _ ho z
  · exact ne _ _ (I.pin p hp).1 z
end
section
variable {X : Cx}
theorem pe_sortLam {c P : Addr} {e : Expr} {ta : TA} {params : Arguments} {scope : Scope} {i1 i2 i3 : Nat} {k : Nat} {p pos lpos kpos p1 p2 p3 p4 p5 p6 p7 p8 : Pos} (hr : Room k X.A) (hg : Gl X "sorted") (hm : X.mg "sorted" = none) (ha : PA X [e] ta)
    (B : TabB X.base X.mg c P) (code : X.env.code = .ref c) (defs : defaultsOf params X.env = ([], []))
    (co : scope.isCoroutine = false) (gen : scope.isGenerator = false) (kind : scope.kind = .function) (nc : ∀ y ∈ scope.names, y.2 ≠ NameKind.cell)
    (hfree : ∀ y ∈ scope.names, y.2 = .free → X.env.scope.names.lookup y.1 = some .cell ∨ X.env.scope.names.lookup y.1 = some .free)
    (hfr : ∀ y ∈ (["due", "weights", "total"] : List Str), (y, NameKind.free) ∈ scope.names) (hjs : [i1, i2, i3].map (fun j => X.N[j]?) = (["due", "weights", "total"] : List Str).map some)
    (n0 : scope.names.lookup ("place" : Str) = some NameKind.local) (n1 : scope.names.lookup ("due" : Str) = some NameKind.free) (n2 : scope.names.lookup ("weights" : Str) = some NameKind.free) (n3 : scope.names.lookup ("total" : Str) = some NameKind.free)
    (hbind : ∀ (body : Expr) (q : Str) (cl : List (Str × Addr)) (pm cv ctv v : Value), bindArgs (PySem.W.kla_fn "<lambda>" q params body scope cl pm cv ctv) ⟨[v], []⟩ = pure [(("place" : Str), v)])
    (he : backTo pos (starEach [e] X.env) = (false, eval e X.env) :: backTo pos (starEach [] X.env) := by rfl) (hpl : (backTo pos (starEach [e] X.env)).any (·.1) = false := by rfl) :
    PE X (.Call (.Name "sorted" p) [e] [⟨some "key", .Lambda params (.UnaryOp .USub (.BinOp (.BinOp (.Name "due" p1) .Mult (.Subscript (.Name "weights" p2) (.Name "place" p3) p4) p5) .Mod (.Name "total" p6) p7) p8) scope lpos, kpos⟩] pos)
      (tSortL P (X.env.qual ++ "<lambda>") i1 i2 i3 ta) := by
  refine ⟨fun pins s σ H Q I h => ?_⟩
  refine wpAny_Call_Name_kw (ld_blt (u := .builtin "sorted") I hg hm (by decide +kernel) ?_)
  refine PyProof.Rows.callWith_kw (thn (ha.run pos pins s σ H _ I h) fun us s1 ⟨vs, H1, I1, r1, q1⟩ => ?_) he hpl rfl rfl
  obtain ⟨Bk, r, wa, ws, due, tot, rfl, hrg, hn, g1, g2, g3, hwa, ht0, hmul, htab, kQ⟩ := q1
  obtain rfl := Vals.ref1 r1
  show wpAny _ _ (evalAll [(do let v ← eval _ X.env; standAt pos; pure v)]) _ _ s1
  refine wpAny_evalAll_cons (wpAny_bind (lam_new I1 B code htab defs (fun y hy z => ?_) fun f c' pm ctv H2 s2 I2 old tab2 back hco hf => wpAny_bind (wpAny_standAt (wpAny_pure (wpAny_evalAll_nil ?_)))))
  · exact (hfree y hy z).elim (fun z => I1.ok.has _ (.inl z)) fun z => I1.ok.has _ (.inr z)
  have neP : ∀ b o, H1 b = some o → (∀ ps, o ≠ .tbl ps) → b ≠ P := fun b o e n z => by
    obtain ⟨ps, hp, _⟩ := htab
    rw [z, hp] at e
    exact n ps (Option.some.inj e).symm
  have hrg2 := old _ _ hrg (neP _ _ hrg fun ps z => by cases z)
  have hwa2 := old _ _ hwa (neP _ _ hwa fun ps z => by cases z)
  obtain ⟨t, u, v, hir⟩ := I2.hok r _ hrg2
  show wpAny (model X.prog X.w) X.A (call (.builtin "sorted") [.ref r] [(Str.ofString "key", .ref f)]) _ _ s2
  have hu := hr.un
  refine sorted_range_key (n := ws.length) (keyN due tot ws) hr.hd hir hn (by omega) (fun i t h tk hi kp => ?_) fun out c D h tk kp lt hD eo => ?_
  · have I3 : Inv X pins σ H2 { s2 with heap := h, toks := tk } := I2.kept kp
    have cp : NdefX.Caps X (cloFrom X.env.cells scope.names []) (["due", "weights", "total"] : List Str) [i1, i2, i3] := .made I3.ok hfree hfr hjs
    have ca := NdefX.cells_of I3 cp
    obtain ⟨c1, l1, z1⟩ := ca.has 0 "due" rfl
    obtain ⟨c2, l2, z2⟩ := ca.has 1 "weights" rfl
    obtain ⟨c3, l3, z3⟩ := ca.has 2 "total" rfl
    obtain ⟨u1, w1, y1⟩ := z1 _ (congrArg some (NdefX.slotAt_of g1))
    obtain ⟨u2, w2, y2⟩ := z2 _ (congrArg some (NdefX.slotAt_of g2))
    obtain ⟨u3, w3, y3⟩ := z3 _ (congrArg some (NdefX.slotAt_of g3))
    obtain ⟨t1, rfl⟩ := w1
    obtain rfl : u2 = Value.ref wa := w2
    obtain ⟨t3, rfl⟩ := w3
    obtain ⟨its, rv, pl, hz⟩ := I3.list (sq_of (K := X.K) hwa2)
    have hw : ws[i]? = some (ws.getD i 0) := by
      rw [List.getD_eq_getElem?_getD, List.getElem?_eq_getElem hi]
      rfl
    obtain ⟨uw, hu1, hu2⟩ := rv.get (iL_get hw)
    obtain ⟨tw, rfl⟩ := hu2
    have hdp := hr.dp
    have lenw : ws.length ≤ 60000 := hn
    refine key_call (A := X.A.in1.in1) (s := { s2 with heap := h, toks := tk }) (by show X.A.depth < _; omega) (kp _ _ hf) (NdefX.codeO_at I3.hok hco) I3.nolimit co gen kind nc n0 (hbind _ _ _ _ _ _ _) fun h1 L A1 tk1 Q1 E1 kp1 hns kQ1 => ?_
    exact key_body (s := { s2 with heap := h1, toks := tk1 }) (its := its.toArray) (i := (i : Int)) kind n0 hns rfl n1 l1 (cell_keep kp1 y1) n2 l2 (cell_keep kp1 y2) n3 l3 (cell_keep kp1 y3) (list_keep kp1 pl.isList) (by omega) (by omega) (by
      rw [Int.toNat_natCast, List.getElem?_toArray]
      exact hu1) (hmul _ (List.mem_of_getElem? hw)) ht0 (by decide) (by decide) (by decide) (by decide) (by decide) (by decide) (by decide) (fun t tk => kQ1 t tk)
  · have I3 : Inv X pins σ H2 { s2 with heap := h, toks := tk } := I2.kept kp
    have f3 := fp_new I2 lt
    obtain ⟨el, eg⟩ := each_get eo
    have hl2 : (sortN due tot ws).length = ws.length := by
      unfold sortN
      rw [List.length_mergeSort, List.length_range]
    have hline : (60000 : Nat) ≤ sizeLine := by decide
    have new : ObjOk X.prog X.w (upd H2 D (.lst (iL (sortN due tot ws)))) h D (.lst (iL (sortN due tot ws))) := by
      refine ⟨by rw [iL_len, hl2]; omega, out, c, ?_, hD⟩
      have : ∀ (xs : List Nat) (us : List Value), us.length = xs.length → (∀ (i : Nat) a b, us[i]? = some a → xs[i]? = some b → ∃ t, a = Value.int (b : Int) t) → Vals (iL xs) us := by
        intro xs
        induction xs with
        | nil =>
          intro us hl _
          match us, hl with
          | [], _ => exact .nil
        | cons x xs ih =>
          intro us hl hg
          match us, hl with
          | u :: us, hl =>
            obtain ⟨t, rfl⟩ := hg 0 u x rfl rfl
            exact .cons ⟨t, rfl⟩ (ih us (Nat.succ.inj hl) fun i a b ha hb => hg (i + 1) a b ha hb)
      exact this _ _ el eg
    have I4 := adopt (s := { s2 with heap := h, toks := tk }) I3 f3 new
    refine ⟨.ref D, _, I4, rfl, kQ _ D (fun b o e n => ?_) ?_ (fun b n => ?_) ?_ upd_same⟩
    · rw [upd_ne (ne_of_none (old b o e n) f3.1)]
      exact old b o e n
    · obtain ⟨ps, z1, z2, z3⟩ := tab2
      refine ⟨ps, by rw [upd_ne (ne_of_none z1 f3.1)]; exact z1, z2, fun p cv q => ?_⟩
      obtain ⟨c0, y1, yb, y2⟩ := z3 p cv q
      exact ⟨c0, y1, yb, by rw [upd_ne (ne_of_none y2 f3.1)]; exact y2⟩
    · by_cases z : b = D
      · rw [z, upd_same] at n
        cases n
      · rw [upd_ne z] at n
        exact back b n
    · exact back D f3.1
end
end TB

namespace TB
open PySem PySem.Spec PyProof.Rows L2 LamX Evl
open PySem.W (WData Codec OpenSpec Well WellAll ReadsW ReadsAllW)
/-! ### the end of the row, with one table of code objects -/
/-- at the beginning: the table, and what is locked -/
structure TabOnly (P : Addr) (H : Hp) : Prop where
  tab : H P = some (.tbl #[])
  rest : ∀ b, b ≠ P → H b = none ∨ ∃ o u, H b = some (.frz o u)
theorem spec_callT {P : Program} {w : World} {K : PySem.W.Frag} {mg mb : Str → Option Value} {k : Nat} {fa c T : Addr} {fd : FuncData} {p : Str} {sp : Sp} {s1 : Shared} {vals : List Value} {ns : List Int} {R : PySem.W.WRecords} {cl : Str → Option Addr} {d0 : WData}
    (KX : K.In s1.heap) (hns : s1.heap.Ns mainGlobals mg) (hb : s1.heap.Ns builtinsNs mb) (hbb : ∀ x : Str, x ≠ "__name__" → mb x = bootBuiltins x) (hlim : s1.heap.NoLimit) (hg : s1.gens = #[])
    (hT : s1.heap.get? T = some (PySem.W.tabObj #[])) (nT : K.lookup T = none) (hC : PySem.W.CodeHd s1.heap c T)
    (hbm : ∃ (bm : Addr) (ob : Obj), mg "__builtins__" = some (.ref bm) ∧ bm ≠ builtinsNs ∧ s1.heap.get? bm = some ob ∧ ob.cls = .type "module" ∧ ob.dict = some builtinsNs ∧ ob.data = .plain)
    (hwl : WellAll w.params s1.heap vals [.list (ns.map WData.int)]) (hwt : (WData.list (ns.map WData.int)).weight ≤ 1048576) (hr : Room k callerA)
    (F : ∀ base : Heap, K.In base → base.Ns mainGlobals mg → TabB base mg c T → FnOk P w K mg base CX0 k fa fd [p] sp) (hbind : ∀ (s : Shared) (u : Value), BindsTo s fd ⟨[u], []⟩ [(p, u)])
    (hsp : ∀ (H : Hp) (a : Addr), TabOnly T H → SqL K H a (ns.map V.int) → sp [.ref a] H (fun v H' => Dw K H' v d0) fun _ _ _ => False) :
    codeAny (model P w) callerA (.call (.ref fa) ⟨vals, []⟩) (fun r s' => ∃ u as, r = .ok (.ret u) ∧ ReadsW R cl s'.heap u d0 as ∧ OldK s1.heap s'.heap ∧ s'.os = s1.os ∧ AllBare s'.gens) s1 := by
  have hpl : plWs [WData.list (ns.map WData.int)] = true := by
    show (plWs (ns.map WData.int) && true) = true
    rw [plWs_map (fun _ => rfl)]
    rfl
  obtain ⟨A, ho, ar⟩ := area_all _ vals hwl hpl fun d hd => by
    rw [List.mem_singleton.mp hd]
    exact hwt
  have hS := dw_all KX ar _ vals hwl hpl ho
  obtain ⟨v0, vs0, rfl, w1, w2⟩ := well_cons hwl
  obtain ⟨a, us, rfl, ga, wa⟩ := well_list w1
  cases w2
  have hsq : SqL K (argH K s1.heap A) a (ns.map V.int) := by
    cases hS with
    | cons h1 h2 =>
      cases h1 with
      | lst h3 h4 =>
        have := ints_dw _ _ h4
        rw [← this]
        exact h3
  have g0 : argH K s1.heap A T = none := by
    cases q : argH K s1.heap A T with
    | none => rfl
    | some u =>
      obtain ⟨_, vs, _, _, ⟨e2, _⟩ | ⟨e2, _⟩⟩ := argH_is ar q
      · rw [hT] at e2
        cases e2
      · rw [hT] at e2
        cases e2
  have ok0 : HOk P w (argH K s1.heap A) s1.heap := argH_ok ar
  have on0 := argH_only (K := K) ar
  have kn0 : ∀ b u, argH K s1.heap A b = some u → K.lookup b = none := fun b u q => (argH_is ar q).1
  have sh0 : ∀ b u, argH K s1.heap A b = some u → ∃ (vs : List Value) (cn : Value) (o : Obj), s1.heap.get? b = some o ∧ o.data = .seq vs.toArray := fun b u q => by
    obtain ⟨_, vs, _, _, ⟨e2, _⟩ | ⟨e2, _⟩⟩ := argH_is ar q
    · exact ⟨vs, .none, _, e2, rfl⟩
    · exact ⟨vs, .none, _, e2, rfl⟩
  generalize argH K s1.heap A = H0 at hsq g0 ok0 on0 kn0 sh0
  have low : ∀ b u, H0 b = some u → b ≠ T := fun b u q z => by rw [z, g0] at q; cases q
  obtain ⟨H, eH⟩ : ∃ H, H = upd H0 T (.tbl #[]) := ⟨_, rfl⟩
  have atT : H T = some (.tbl #[]) := by rw [eH, upd_same]
  have atO : ∀ b, b ≠ T → H b = H0 b := fun b n => by rw [eH, upd_ne n]
  have up : ∀ b o, H0 b = some o → H b = some o := fun b o q => by rw [atO b (low b o q)]; exact q
  have to : TabOnly T H := ⟨atT, fun b n => by
    rw [atO b n]
    exact on0 b⟩
  have hok : HOk P w H s1.heap := fun b u q => by
    by_cases z : b = T
    · subst z
      rw [atT] at q
      cases q
      exact hT
    · rw [atO b z] at q
      exact (ok0 b u q).stay (fun _ _ _ e => e) (fun _ e => up _ _ e) fun _ _ e => up _ _ e
  have hsq' : SqL K H a (ns.map V.int) := by
    rcases hsq with (h | ⟨o, h⟩) | h
    · exact .inl (.inl (up _ _ h))
    · exact .inl (.inr ⟨o, up _ _ h⟩)
    · exact .inr h
  -- what has neither items nor an empty row of fields is not tracked
  have no : ∀ {b : Addr} {o : Obj}, s1.heap.get? b = some o → (∀ vs n, o.data ≠ .seq vs n) → o.data ≠ .fields #[] → H b = none := fun {b o} e h1 h2 => by
    by_cases z : b = T
    · rw [z, hT] at e
      cases e
      exact (h2 rfl).elim
    · rw [atO b z]
      cases q : H0 b with
      | none => rfl
      | some u =>
        obtain ⟨vs, _, o', e', d⟩ := sh0 b u q
        rw [e] at e'
        cases e'
        exact (h1 _ _ d).elim
  have base_of : ∀ {b : Addr} {o : Obj}, s1.heap.get? b = some o → H b = none → (hidT s1.heap H).get? b = some o := fun e n => hidT_get e n
  have nsK : ∀ {b : Addr} {m : Str → Option Value}, s1.heap.Ns b m → (hidT s1.heap H).Ns b m := fun {b m} ⟨o, es, ep, e, d, r⟩ => ⟨o, es, ep, base_of e (no e (fun vs n z => by rw [d] at z; cases z) fun z => by rw [d] at z; cases z), d, r⟩
  have hKb : K.In (hidT s1.heap H) := fun b o e => base_of (KX b o e) (by
    by_cases z : b = T
    · rw [z, nT] at e
      cases e
    · rw [atO b z]
      cases q : H0 b with
      | none => rfl
      | some u =>
        rw [kn0 b u q] at e
        cases e)
  have hM : L2.Mod K mg (hidT s1.heap H) := ⟨hKb, nsK hns, ⟨mb, nsK hb, hbb⟩, let ⟨mc, h1, h2⟩ := hlim; ⟨mc, nsK h1, h2⟩⟩
  have hTB : TabB (hidT s1.heap H) mg c T := by
    refine ⟨?_, ?_, fun z => ?_⟩
    · obtain ⟨o, us, file, tf, flags, tg, inF, text, tt, e1, r1, r2, r3, r4⟩ := hC
      refine ⟨o, us, file, tf, flags, tg, inF, text, tt, base_of e1 (no e1 (fun vs n z => ?_) fun z => ?_), r1, r2, r3, r4⟩
      · rw [r2] at z
        cases z
      · rw [r2] at z
        cases z
        simp at r3
    · obtain ⟨bm, ob, b1, b2, b3, b4, b5, b6⟩ := hbm
      refine ⟨bm, ob, b1, b2, fun q => ?_, fun q => ?_, base_of b3 (no b3 (fun vs n z => by rw [b6] at z; cases z) fun z => by rw [b6] at z; cases z), b4, b5, b6⟩
      · obtain ⟨o, es, ep, e, hd, _⟩ := hns
        rw [q, e] at b3
        cases b3
        rw [hd] at b6
        cases b6
      · rw [q, hT] at b3
        cases b3
        cases b6
    · obtain ⟨o, es, ep, e, hd, _⟩ := hns
      rw [z, hT] at e
      cases e
      cases hd
  have e0 : Env0 P w K mg (hidT s1.heap H) callerA [] s1 H := ⟨rfl, hM, fun b o e => of_hidT e, Nat.le_of_eq (hidT_size _ _), trivial, fun b hb => absurd (show b ∈ ([] : List Addr) from hb) (by simp), hok, .of_eq hg⟩
  refine codeAny_mono ((F _ hKb (nsK hns) hTB).run callerA [] s1 H ⟨[.ref a], []⟩ [.ref a] [.ref a] _ _ hr e0 (hbind s1 (.ref a)) (.cons rfl .nil) (hsp H a to hsq')) fun r s' x => ?_
  cases r with
  | error e => exact (show False from x).elim
  | ok fl =>
    cases fl with
    | next => exact False.elim x
    | brk => exact False.elim x
    | cont => exact False.elim x
    | ret u =>
      obtain ⟨v, H', os, bare, un, hok', r', q⟩ := x
      have key : ∀ b o, b ≠ T → s1.heap.get? b = some o → s'.heap.get? b = some o := fun b o nb e => by
        cases q2 : H b with
        | none => exact un.keep b o e q2 (by intro z; exact absurd (show b ∈ ([] : List Addr) from z) (by simp)) (by simp)
        | some u2 =>
          rcases to.rest b nb with z | ⟨ob, u3, z⟩
          · rw [q2] at z
            cases z
          · have e1 := (hok b _ z).1
            have e2 := (hok' b _ (un.frzs b ob _ z)).1
            rw [e] at e1
            cases e1
            exact e2
      have grown : ∃ more : Array Value, s'.heap.get? T = some { cls := .none, data := .fields more } := by
        obtain ⟨more, z⟩ := un.tbls T #[] atT
        exact ⟨_, hok' T _ z⟩
      have KX' : K.In s'.heap := fun b o e => key b o (fun z => by rw [z, nT] at e; cases e) (KX b o e)
      obtain ⟨as, hrd⟩ := Dw.reads (R := R) (cl := cl) hok' KX' d0 v u q r'
      refine ⟨u, as, rfl, hrd, ⟨fun b o e => ?_, fun b o e => ?_⟩, os, bare⟩
      · by_cases z : b = T
        · obtain ⟨more, hm⟩ := grown
          rw [z] at e ⊢
          rw [hT] at e
          cases e
          exact .inr (.inl ⟨(hC.tab hT).isCodeTable, rfl, #[], more, rfl, by rw [Array.empty_append]; exact hm⟩)
        · exact .inl (key b o z e)
      · by_cases z : b = T
        · rw [z]
          obtain ⟨more, hm⟩ := grown
          exact ⟨_, hm⟩
        · exact ⟨o, key b o z e⟩
end TB

namespace TB
open PySem PySem.Spec PySem.Calls PyProof.Rows L2 LamX Evl
open PySem.W (WData Codec OpenSpec Well WellAll ReadsW ReadsAllW Frag)
/-- the row of a def of one list of ints, with one table -/
theorem walk_specT {r : OpenSpec} {k : Nat} {q : Program} {loose : List Str} {XP : (Str → Option Value) → Heap → Prop} {YP : World → Heap → Prop} {d : DefRec} {K : Params → Frag} {p : Str} {sp : Frag → Sp} {c T : Addr}
    (well : r.wellSaid = true) (hdf : d.params.defaults = []) (room : Room k callerA) (ents : ∀ a : Codec.denoteAll r.args, ∃ ns : List Int, Codec.encAll r.args a = [.list (ns.map WData.int)])
    (hY : ∀ (w : World) (h : Heap), YP w h → (K w.params).In h)
    (tab : ∀ (w : World) (h : Heap) (loose' : List Str) (mean : ExcName → Option Value) (mg mb : Str → Option Value), Top q loose' mean mg mb h → (K w.params).In h → PySem.W.CodeHd h c T ∧ h.get? T = some (PySem.W.tabObj #[]))
    (nT : ∀ w : World, (K w.params).lookup T = none)
    (F : ∀ (w : World) (mg : Str → Option Value) (fa : Addr) (h : Heap), YP w h → (K w.params).In h → h.Ns mainGlobals mg → mg d.name = some (.ref fa) →
      ∃ fd : FuncData, (∀ (s : Shared) (us : List Value), us.length = ([p] : List Str).length → BindsTo s fd ⟨us, []⟩ (([p] : List Str).zip us)) ∧
        ∀ base : Heap, (K w.params).In base → base.Ns mainGlobals mg → TabB base mg c T → FnOk r.prog w (K w.params) mg base CX0 k fa fd [p] (sp (K w.params)))
    (hsp : ∀ (K : Frag) (H : Hp) (x : Addr) (ns : List Int) (a : Codec.denoteAll r.args), TabOnly T H → Codec.withinAll r.args a = true → Codec.app r.args r.asked a = true → Codec.encAll r.args a = [.list (ns.map WData.int)] → SqL K H x (ns.map V.int) →
      sp K [.ref x] H (fun v H' => Dw K H' v (r.ret.enc (Codec.app r.args r.f a))) fun _ _ _ => False) :
    PySem.W.WalkOS q loose XP YP r d [] (fun f vs => PySem.call f vs) := by
  intro w s0 s1 mg mb G Y fa o pm cd doc dV kV ho hd hcd hD hmg hg args vals as hpre hlay hrd hwl hlo
  obtain ⟨a, e1, e2⟩ := PySem.W.os_pre_some hpre
  obtain ⟨e3, hwi⟩ := Codec.encAll_of_decAll r.args args a e1
  obtain ⟨ns, e4⟩ := ents a
  rw [e4] at e3
  subst e3
  have KX := hY w _ Y
  obtain ⟨fd, hb, hF⟩ := F w mg fa _ Y KX G.T.g hmg
  obtain ⟨hC, hT⟩ := tab w _ _ _ _ _ G.T KX
  refine PySem.W.enter_call (codeAny_mono (spec_callT (R := []) (cl := classAt s0.heap) (d0 := r.ret.enc (Codec.app r.args r.f a)) KX G.T.g G.T.b G.T.builtins G.T.nolimit hg hT (nT w) hC G.T.bmain hwl (layable_weight hlay _ (List.mem_singleton.mpr rfl)) room hF
    (fun s u => hb s [u] rfl) fun H x hO hS => hsp _ H x ns a hO hwi e2 e4 hS) fun r' s' hq => ?_)
  obtain ⟨u, as', rfl, h1, h2, h3, h4⟩ := hq
  have post := fun ds => (OpenSpec.post_iff well hwi (r.ret.enc (Codec.app r.args r.f a)) ds).mpr rfl
  rw [e4] at post
  exact ⟨.inl ⟨u, _, as', rfl, fun _ => rfl, h1, post _, fun z => Bool.noConfusion (show false = true from z)⟩, h2, h3, h4⟩
end TB

namespace TB
open PySem PySem.Spec PyProof.Rows L2 Evl TimberAuction AuctionSpec LamX
/-! ### what a step changes: objects with a tag of S at most -/
structure Frm (S : Nat → Prop) (τ : Tg) (H : Hp) (τ' : Tg) (H' : Hp) : Prop where
  kp : ∀ b o, H b = some o → ¬ S (τ b) → H' b = some o
  tag : ∀ b o, H b = some o → τ' b = τ b
  fr : ∀ b, H' b = none → H b = none
/-- the tag of what is new -/
def newTag (τ : Tg) (H : Hp) (f : Tg) : Tg := fun b => match H b with
  | none => f b
  | some _ => τ b
section
variable {S S' : Nat → Prop} {τ τ1 τ' : Tg} {H H1 H' : Hp}
theorem newTag_old {f : Tg} {b : Addr} {o : HO} (h : H b = some o) : newTag τ H f b = τ b := by
  unfold newTag
  rw [h]
theorem newTag_new {f : Tg} {b : Addr} (h : H b = none) : newTag τ H f b = f b := by
  unfold newTag
  rw [h]
theorem ex_fr (e : Ex H H') : ∀ b, H' b = none → H b = none := fun b h => fresh_back e h
theorem Frm.ex (e : Ex H H') : Frm S τ H τ H' := ⟨fun b o h _ => e b o h, fun _ _ _ => rfl, ex_fr e⟩
theorem Frm.exN {f : Tg} (e : Ex H H') : Frm S τ H (newTag τ H f) H' := ⟨fun b o h _ => e b o h, fun _ _ h => newTag_old h, ex_fr e⟩
theorem Frm.upd {a : Addr} {oa o : HO} (ha : H a = some oa) (hs : S (τ a)) : Frm S τ H τ (upd H a o) := by
  refine ⟨fun b u h n => ?_, fun _ _ _ => rfl, fun b h => ?_⟩
  · rw [upd_ne (fun z => n (by rw [z]; exact hs))]
    exact h
  · by_cases z : b = a
    · rw [z, upd_same] at h
      cases h
    · rw [upd_ne z] at h
      exact h
theorem Frm.mono (h : Frm S τ H τ' H') (k : ∀ t, S t → S' t) : Frm S' τ H τ' H' := ⟨fun b o hb n => h.kp b o hb fun z => n (k _ z), h.tag, h.fr⟩
theorem Frm.there (h : Frm S τ H τ' H') {b : Addr} {o : HO} (hb : H b = some o) : ∃ o', H' b = some o' := by
  cases z : H' b with
  | some o' => exact ⟨o', rfl⟩
  | none =>
    have := h.fr b z
    rw [hb] at this
    cases this
theorem Frm.trans (h : Frm S τ H τ1 H1) (g : Frm S τ1 H1 τ' H') : Frm S τ H τ' H' := by
  refine ⟨fun b o hb n => g.kp b o (h.kp b o hb n) (by rw [h.tag b o hb]; exact n), fun b o hb => ?_, fun b z => h.fr b (g.fr b z)⟩
  obtain ⟨o', h'⟩ := h.there hb
  rw [g.tag b o' h', h.tag b o hb]
theorem Frm.stp (h : Frm S τ H τ' H') (h0 : ¬ S 0) : Stp τ H τ' H' := ⟨fun b o hb t => h.kp b o hb (by rw [t]; exact h0), h.tag⟩
theorem Frm.same (h : Frm S τ H τ' H') {b : Addr} {o : HO} {t : Nat} (hb : H b = some o) (ht : τ b = t) (n : ¬ S t) : H' b = some o ∧ τ' b = t := ⟨h.kp b o hb (by rw [ht]; exact n), by rw [h.tag b o hb, ht]⟩
end
/-- what a call of an operation may change -/
def SK (t : Nat) : Prop := t ≠ 0 ∧ t ≠ 8 ∧ t ≠ 9
abbrev Keeps := Frm SK

/-! ### contracts, the state -/
variable (A : Ad) (τ : Tg) (H : Hp)
structure ConR (j : Nat) (a : Addr) (c : Contract) (dx va pa ba fa : Addr) : Prop where
  tg : τ a = 100 + j
  at_ : H a = some (.ins A.Contract dx (fContract (iN (valueOf c.volumes c.prices)) (.ref va) (.ref pa) (.ref ba) (iN c.day) (iN c.advance) (.ref fa) (.bl c.closed)))
  volumes : NumsAt τ H va c.volumes
  prices : NumsAt τ H pa c.prices
  bidders : PairsAt τ H ba c.bidders
  tfa : τ fa = 0
  fa : H fa = some (.tup [.int c.factor.num, iN c.factor.den])
def ConAt (j : Nat) (a : Addr) (c : Contract) : Prop := ∃ dx va pa ba fa, ConR A τ H j a c dx va pa ba fa
structure ConOk (c : Contract) : Prop where
  day : c.day ≤ 99999
  adv : c.advance ≤ 1000
  volLen : c.volumes.length = 10
  volLe : ∀ v ∈ c.volumes, v ≤ 10000000
  prLen : c.prices.length = 10
  prLe : ∀ v ∈ c.prices, v ≤ 1000000
  bdLt : ∀ e ∈ c.bidders, e.1 < 16 ∧ 1 ≤ e.2 ∧ e.2 ≤ 1000
  bdNd : (c.bidders.map (·.1)).Nodup
  bdLen : 1 ≤ c.bidders.length ∧ c.bidders.length ≤ 4
  f0 : 0 ≤ c.factor.num
  fN : c.factor.num < 2 ^ 64
  fD : c.factor.den < 2 ^ 64
def SaleV (v : V) : Option Sale → Prop
  | none => v = .non
  | some s => ∃ a, v = .ref a ∧ SaleAt A τ H a s ∧ SaleOk s
/-! what came with the contracts: the index, deliveries, bills, payments; the lambda's table -/
def kvN (e : Nat × Nat) : Key × V := (Sum.inl (e.1 : Int), iN e.2)
def kvI (e : (Nat × Nat) × Int) : Key × V := (Sum.inl (e.1.1 : Int), V.int e.2)
def DelAt (k : Nat) (a : Addr) (d : Delivery) : Prop := ∃ dx, τ a = 200 + k ∧ H a = some (.ins A.Delivery dx (fDelivery (iN d.contract) (iN d.day) (iN d.grade) (iN d.volume)))
def BillAt (a : Addr) (b : Bill) (bs : List (Nat × Nat)) : Prop := ∃ dx ma, τ a = 0 ∧ H a = some (.ins A.Bill dx (fBill (iN b.contract) (iN b.day) (.ref ma))) ∧ τ ma = 0 ∧ H ma = some (.dK ((bs.zip b.amounts).map kvI)) ∧ b.amounts.length = bs.length
def IxAt (p : Addr) (l : List (Nat × Nat)) : Prop := ∃ m : List (Nat × Nat), τ p = 6 ∧ H p = some (.dK (m.map kvN)) ∧ m.Perm l
structure Fl where
  ix : Addr
  dl : Addr
  bl : Addr
  pa : Addr
def bdOf (cs : List Contract) (n : Nat) : List (Nat × Nat) := match cs[n]? with
  | some c => c.bidders
  | none => []
structure RestR (F : Fl) (das bas : List Addr) (cs : List Contract) (ixs : List (Nat × Nat)) (ds : List Delivery) (bs : List Bill) (ps : List Nat) : Prop where
  ix : IxAt τ H F.ix ixs
  tdl : τ F.dl = 7
  dl : H F.dl = some (.lst (rL das))
  dels : All2 (DelAt A τ H) das ds
  tbl : τ F.bl = 10
  bl : H F.bl = some (.lst (rL bas))
  bills : All2 (fun _ a b => BillAt A τ H a b (bdOf cs b.contract)) bas bs
  tpa : τ F.pa = 11
  pa : H F.pa = some (.lst (iL ps))
structure RestOk (cs : List Contract) (ixs : List (Nat × Nat)) (ds : List Delivery) (bs : List Bill) (ps : List Nat) : Prop where
  ixNd : (ixs.map (·.1)).Nodup
  ixLen : ixs.length ≤ 16
  ixLe : ∀ e ∈ ixs, e.1 ≤ 99999 ∧ 1 ≤ e.2 ∧ e.2 ≤ 10000
  dlLen : ds.length ≤ 64
  dlLe : ∀ d ∈ ds, d.contract < cs.length ∧ d.day ≤ 99999 ∧ d.grade ≤ 9 ∧ d.volume ≤ 1000000
  blLen : bs.length ≤ 48
  blLe : ∀ b ∈ bs, b.contract < cs.length ∧ b.day ≤ 99999
  paLen : ps.length = 16
def lamQ : Str := "parts_of" ++ ".<locals>." ++ "<lambda>"
def TabAt : Prop := τ A.tab = 12 ∧ ∃ ps : Array Value, H A.tab = some (.tbl ps) ∧ TriplesOk ps.toList ∧ ∀ (pos : Pos) (cv : Value), codeAmong pos ps.toList = some cv → ∃ c, cv = .ref c ∧ τ c = 0 ∧ H c = some (CodeO c lamQ)
structure StOk (st : State) : Prop where
  day : st.day ≤ 99999
  conLen : st.contracts.length ≤ 24
  con : ∀ c ∈ st.contracts, ConOk c
  rest : RestOk st.contracts st.indexes st.deliveries st.bills st.payments
structure StR (sa : Addr) (st : State) (dx : Addr) (sv : V) (ctA : Addr) (cas : List Addr) (F : Fl) (das bas : List Addr) : Prop where
  ok : StOk st
  tg : τ sa = 5
  at_ : H sa = some (.ins A.State dx (fState (iN st.day) sv (.ref ctA) (.ref F.ix) (.ref F.dl) (.ref F.bl) (.ref F.pa)))
  sale : SaleV A τ H sv st.sale
  tct : τ ctA = 4
  ct : H ctA = some (.lst (rL cas))
  cts : All2 (ConAt A τ H) cas st.contracts
  rest : RestR A τ H F das bas st.contracts st.indexes st.deliveries st.bills st.payments
  tab : TabAt A τ H
def StAt (sa : Addr) (st : State) : Prop := ∃ dx sv ctA cas F das bas, StR A τ H sa st dx sv ctA cas F das bas
section
variable {A τ H}
variable {S : Nat → Prop} {τ' : Tg} {H' : Hp}
theorem ConAt.frm {j : Nat} {a : Addr} {c : Contract} (h : ConAt A τ H j a c) (f : Frm S τ H τ' H') (n0 : ¬ S 0) (nj : ¬ S (100 + j)) : ConAt A τ' H' j a c := by
  obtain ⟨dx, va, pa, ba, fa, h⟩ := h
  have e := f.stp n0
  have g := f.same h.at_ h.tg nj
  have g2 := f.same h.fa h.tfa n0
  exact ⟨dx, va, pa, ba, fa, g.2, g.1, h.volumes.go e, h.prices.go e, h.bidders.go e, g2.2, g2.1⟩
theorem BidAt.frm {s : Sale} {i : Nat} {a : Addr} {b : Bid} (h : BidAt A τ H s i a b) (f : Frm S τ H τ' H') (n0 : ¬ S 0) (ni : ¬ S (20 + i)) : BidAt A τ' H' s i a b := by
  obtain ⟨dx, la, pa, ba, va, h⟩ := h
  have g := f.same h.at_ h.tg ni
  exact ⟨dx, la, pa, ba, va, h.go (f.stp n0) (g.1.trans h.at_.symm)⟩
theorem SaleR.frm {a : Addr} {s : Sale} {dx loA bdA liA : Addr} {las bas : List Addr} (h : SaleR A τ H a s dx loA bdA liA las bas) (f : Frm S τ H τ' H') (n0 : ¬ S 0) (n1 : ¬ S 1) (n2 : ¬ S 2) (n3 : ¬ S 3) (nb : ∀ i, i < s.bids.length → ¬ S (20 + i)) : SaleR A τ' H' a s dx loA bdA liA las bas := by
  have e := f.stp n0
  have g0 := f.same h.at_ h.tg n0
  have g1 := f.same h.lo h.tlo n1
  have g2 := f.same h.bd h.tbd n2
  have g3 := f.same h.li h.tli n3
  exact ⟨g0.2, g0.1, g1.2, g1.1, h.lots.imp fun _ _ _ _ _ r => r.go e, g2.2, g2.1, h.bids.imp fun i _ _ _ hb r => r.frm f n0 (nb i (List.getElem?_eq_some_iff.mp hb).1), g3.2, g3.1⟩
theorem SaleV.frm {v : V} {o : Option Sale} (h : SaleV A τ H v o) (f : Frm S τ H τ' H') (n0 : ¬ S 0) (n1 : ¬ S 1) (n2 : ¬ S 2) (n3 : ¬ S 3) (nb : ∀ i, i < 12 → ¬ S (20 + i)) : SaleV A τ' H' v o := by
  cases o with
  | none => exact h
  | some s =>
    obtain ⟨a, rfl, ⟨dx, loA, bdA, liA, las, bas, hs⟩, ok⟩ := h
    exact ⟨a, rfl, ⟨dx, loA, bdA, liA, las, bas, hs.frm f n0 n1 n2 n3 fun i hi => nb i (Nat.lt_of_lt_of_le hi ok.bidsLen)⟩, ok⟩
theorem DelAt.frm {k : Nat} {a : Addr} {d : Delivery} (h : DelAt A τ H k a d) (f : Frm S τ H τ' H') (n : ¬ S (200 + k)) : DelAt A τ' H' k a d := by
  obtain ⟨dx, h1, h2⟩ := h
  have g := f.same h2 h1 n
  exact ⟨dx, g.2, g.1⟩
theorem BillAt.frm {a : Addr} {b : Bill} {bs : List (Nat × Nat)} (h : BillAt A τ H a b bs) (f : Frm S τ H τ' H') (n0 : ¬ S 0) : BillAt A τ' H' a b bs := by
  obtain ⟨dx, ma, h1, h2, h3, h4, h5⟩ := h
  have g := f.same h2 h1 n0
  have g2 := f.same h4 h3 n0
  exact ⟨dx, ma, g.2, g.1, g2.2, g2.1, h5⟩
theorem IxAt.frm {p : Addr} {l : List (Nat × Nat)} (h : IxAt τ H p l) (f : Frm S τ H τ' H') (n : ¬ S 6) : IxAt τ' H' p l := by
  obtain ⟨m, h1, h2, h3⟩ := h
  have g := f.same h2 h1 n
  exact ⟨m, g.2, g.1, h3⟩
theorem RestR.dels_frm {F : Fl} {das bas : List Addr} {cs : List Contract} {ixs : List (Nat × Nat)} {ds : List Delivery} {bs : List Bill} {ps : List Nat} (h : RestR A τ H F das bas cs ixs ds bs ps) (f : Frm S τ H τ' H') (nd : ∀ t, 200 ≤ t → ¬ S t) : All2 (DelAt A τ' H') das ds :=
  h.dels.imp fun k _ _ _ _ r => r.frm f (nd _ (by omega))
theorem RestR.bills_frm {F : Fl} {das bas : List Addr} {cs : List Contract} {ixs : List (Nat × Nat)} {ds : List Delivery} {bs : List Bill} {ps : List Nat} (h : RestR A τ H F das bas cs ixs ds bs ps) (f : Frm S τ H τ' H') (n0 : ¬ S 0) : All2 (fun _ a b => BillAt A τ' H' a b (bdOf cs b.contract)) bas bs :=
  h.bills.imp fun k _ _ _ _ r => r.frm f n0
theorem RestR.frm {F : Fl} {das bas : List Addr} {cs : List Contract} {ixs : List (Nat × Nat)} {ds : List Delivery} {bs : List Bill} {ps : List Nat} (h : RestR A τ H F das bas cs ixs ds bs ps) (f : Frm S τ H τ' H') (n0 : ¬ S 0) (n6 : ¬ S 6) (n7 : ¬ S 7) (n10 : ¬ S 10) (n11 : ¬ S 11) (nd : ∀ t, 200 ≤ t → ¬ S t) : RestR A τ' H' F das bas cs ixs ds bs ps := by
  have g1 := f.same h.dl h.tdl n7
  have g2 := f.same h.bl h.tbl n10
  have g3 := f.same h.pa h.tpa n11
  exact ⟨h.ix.frm f n6, g1.2, g1.1, h.dels_frm f nd, g2.2, g2.1, h.bills_frm f n0, g3.2, g3.1⟩
theorem TabAt.frm (h : TabAt A τ H) (f : Frm S τ H τ' H') (n0 : ¬ S 0) (n12 : ¬ S 12) : TabAt A τ' H' := by
  obtain ⟨h1, ps, h2, h3, h4⟩ := h
  have g := f.same h2 h1 n12
  refine ⟨g.2, ps, g.1, h3, fun pos cv q => ?_⟩
  obtain ⟨c, e, t, z⟩ := h4 pos cv q
  have g2 := f.same z t n0
  exact ⟨c, e, g2.2, g2.1⟩
theorem RestR.more {F : Fl} {das bas : List Addr} {cs cs' : List Contract} {ixs : List (Nat × Nat)} {ds : List Delivery} {bs : List Bill} {ps : List Nat} (h : RestR A τ H F das bas cs ixs ds bs ps) (ok : RestOk cs ixs ds bs ps) (e : ∀ i, i < cs.length → bdOf cs' i = bdOf cs i) : RestR A τ H F das bas cs' ixs ds bs ps :=
  ⟨h.ix, h.tdl, h.dl, h.dels, h.tbl, h.bl, h.bills.imp fun k _ b _ hb r => by rw [e _ (ok.blLe b (List.mem_of_getElem? hb)).1]; exact r, h.tpa, h.pa⟩
theorem RestOk.more {cs cs' : List Contract} {ixs : List (Nat × Nat)} {ds : List Delivery} {bs : List Bill} {ps : List Nat} (ok : RestOk cs ixs ds bs ps) (e : cs.length ≤ cs'.length) : RestOk cs' ixs ds bs ps :=
  ⟨ok.ixNd, ok.ixLen, ok.ixLe, ok.dlLen, fun d hd => ⟨Nat.lt_of_lt_of_le (ok.dlLe d hd).1 e, (ok.dlLe d hd).2⟩, ok.blLen, fun b hb => ⟨Nat.lt_of_lt_of_le (ok.blLe b hb).1 e, (ok.blLe b hb).2⟩, ok.paLen⟩
theorem bd_app {cs ds : List Contract} {i : Nat} (h : i < cs.length) : bdOf (cs ++ ds) i = bdOf cs i := by
  unfold bdOf
  rw [List.getElem?_append_left h]
theorem StR.frmT {sa : Addr} {st : State} {dx : Addr} {sv : V} {ctA : Addr} {cas : List Addr} {F : Fl} {das bas : List Addr} (h : StR A τ H sa st dx sv ctA cas F das bas) (f : Frm S τ H τ' H') (n : ∀ t, t ≠ 8 ∧ t ≠ 9 ∧ t ≠ 12 → ¬ S t) (tb : TabAt A τ' H') : StR A τ' H' sa st dx sv ctA cas F das bas := by
  have g := f.same h.at_ h.tg (n 5 (by omega))
  have g2 := f.same h.ct h.tct (n 4 (by omega))
  exact ⟨h.ok, g.2, g.1, h.sale.frm f (n 0 (by omega)) (n 1 (by omega)) (n 2 (by omega)) (n 3 (by omega)) fun i _ => n _ (by omega), g2.2, g2.1, h.cts.imp fun j _ _ _ _ r => r.frm f (n 0 (by omega)) (n _ (by omega)),
    h.rest.frm f (n 0 (by omega)) (n 6 (by omega)) (n 7 (by omega)) (n 10 (by omega)) (n 11 (by omega)) (fun t ht => n t (by omega)), tb⟩
theorem StR.frm {sa : Addr} {st : State} {dx : Addr} {sv : V} {ctA : Addr} {cas : List Addr} {F : Fl} {das bas : List Addr} (h : StR A τ H sa st dx sv ctA cas F das bas) (f : Frm S τ H τ' H') (n : ∀ t, t ≠ 8 ∧ t ≠ 9 → ¬ S t) : StR A τ' H' sa st dx sv ctA cas F das bas :=
  h.frmT f (fun t ht => n t (by omega)) (h.tab.frm f (n 0 (by omega)) (n 12 (by omega)))
theorem StAt.frm {sa : Addr} {st : State} (h : StAt A τ H sa st) (f : Frm S τ H τ' H') (n : ∀ t, t ≠ 8 ∧ t ≠ 9 → ¬ S t) : StAt A τ' H' sa st := by
  obtain ⟨dx, sv, ctA, cas, F, das, bas, h⟩ := h
  exact ⟨dx, sv, ctA, cas, F, das, bas, h.frm f n⟩
theorem StAt.ex {sa : Addr} {st : State} (h : StAt A τ H sa st) (e : Ex H H') : StAt A τ H' sa st := h.frm (S := fun _ => False) (.ex e) fun _ _ z => z
theorem StR.ex {sa : Addr} {st : State} {dx : Addr} {sv : V} {ctA : Addr} {cas : List Addr} {F : Fl} {das bas : List Addr} (h : StR A τ H sa st dx sv ctA cas F das bas) (e : Ex H H') : StR A τ H' sa st dx sv ctA cas F das bas := h.frm (S := fun _ => False) (.ex e) fun _ _ z => z
/-- the contracts, when a step leaves them -/
theorem StR.cts_frm {sa : Addr} {st : State} {dx : Addr} {sv : V} {ctA : Addr} {cas : List Addr} {F : Fl} {das bas : List Addr} (h : StR A τ H sa st dx sv ctA cas F das bas) (f : Frm S τ H τ' H') (n0 : ¬ S 0) (n : ∀ t, 100 ≤ t → ¬ S t) : All2 (ConAt A τ' H') cas st.contracts := h.cts.imp fun j _ _ _ _ r => r.frm f n0 (n _ (by omega))
end

/-! ### what an operation promises -/
/-- behind an operation: the new state, the answer in a new list -/
def OpK (A : Ad) (τ : Tg) (H : Hp) (sa : Addr) (st : State) (c : Call) (Q : VK) : Prop := ∀ τ' H' p, Keeps τ H τ' H' → StAt A τ' H' sa (step st c).1 → H p = none → H' p = some (.lst ((step st c).2.map V.int)) → Q (.ref p) H'
def spOp (A : Ad) (mk : Tg → Hp → List V → Call → Prop) : Sp := fun vs H Q _ => ∃ sa τ st c args, vs = .ref sa :: args ∧ mk τ H args c ∧ StAt A τ H sa st ∧ OpK A τ H sa st c Q
section
variable {A : Ad} {τ τ1 : Tg} {H H1 : Hp} {sa : Addr} {st st' : State} {c : Call} {Q : VK} {D : Ends} {te : TE} {σ : L2.St} {xs : List V} {is : List Int}
theorem op_done (k : OpK A τ H sa st c D.rt) (kp : Keeps τ H τ1 H1) (hst : StAt A τ1 H1 sa st') (h : EvL te σ H1 xs) (hs : step st c = (st', is)) (hx : xs = is.map V.int) : tRet te D σ H1 := by
  refine s_retL h fun p H2 np e hp => ?_
  refine k τ1 H2 p (kp.trans (.ex e)) ?_ (kp.fr p np) ?_
  · rw [hs]
    exact hst.ex e
  · rw [hs, hp, hx]
/-- nothing is changed -/
theorem op_same (k : OpK A τ H sa st c D.rt) (e : Ex H H1) (hst : StAt A τ H sa st) (h : EvL te σ H1 xs) (hs : step st c = (st, is)) (hx : xs = is.map V.int) : tRet te D σ H1 :=
  op_done k (.ex e) (hst.ex e) h hs hx
theorem el_one {ta : TE} {v : V} (h : Ev ta σ H v) : EvL (tLst (tCons ta tNil)) σ H [v] := el_lst (ea_cons h ea_nil) (by show 1 ≤ 100000; decide)
end
section
variable {A : Ad} {τ : Tg} {H : Hp} {v : V} {o : Option Sale} {st : State} {s : Sale} {f : Sale → State × AuctionSpec.Result}
theorem SaleV.non (h : SaleV A τ H v o) (hv : v = .non) : o = none := by
  cases o with
  | none => rfl
  | some s =>
    obtain ⟨a, z, _⟩ := h
    rw [hv] at z
    cases z
theorem SaleV.is (h : SaleV A τ H v o) (hv : v ≠ .non) : ∃ a s, o = some s ∧ v = .ref a ∧ SaleAt A τ H a s ∧ SaleOk s := by
  cases o with
  | none => exact absurd h hv
  | some s =>
    obtain ⟨a, z, h1, h2⟩ := h
    exact ⟨a, s, rfl, z, h1, h2⟩
theorem with_none (h : st.sale = none) : withSale st f = (st, [-3]) := by
  unfold withSale
  rw [h]
  rfl
theorem with_some (h : st.sale = some s) : withSale st f = f s := by
  unfold withSale
  rw [h]
end
/-- a value that is made of new objects -/
def EvN (te : TE) (σ : L2.St) (H : Hp) (P : Hp → V → Hp → Prop) : Prop := ∀ H1, Ex H H1 → ∀ Q : VK, (∀ v H2, Ex H1 H2 → P H1 v H2 → Q v H2) → te σ H1 Q
section
variable {K : PySem.W.Frag} {σ : L2.St} {H : Hp} {D : Ends} {u : TS} {ta te : TE} {P : Hp → V → Hp → Prop} {xs : List V} {l : Addr}
theorem q_appN (hl : H l = some (.lst xs)) (ha : Ev ta σ H (.ref l)) (h : EvN te σ H P) (hz : xs.length < 100000) (k : ∀ v H0 H1, Ex H H0 → Ex H0 H1 → P H0 v H1 → u D σ (upd H1 l (.lst (xs ++ [v])))) : tSeq (tDrop (tBM K "list" rAppend ta (tCons te tNil))) u D σ H :=
  ha H (Ex.refl H) _ fun H1 e1 => ⟨Or.inl ⟨rfl, xs, sq_of (e1 l _ hl)⟩, h H1 e1 _ fun v H2 e2 p => ⟨l, xs, v, rfl, rfl, e2 l _ (e1 l _ hl), sz_lt hz, k v H1 H2 e1 e2 p⟩⟩
end
end TB

namespace TB
open PySem PySem.Spec PyProof.Rows L2 Evl
/-! ### list(d.values()) -/
def tListVals (te : TE) : TE := fun σ H Q => te σ H fun x H1 => ∃ (d : Addr) (kvs : List (Key × V)), x = .ref d ∧ H1 d = some (.dK kvs) ∧ ∀ p, H1 p = none → Q (.ref p) (upd H1 p (.lst (kvs.map (·.2))))
section
variable {X : Cx} {e : Expr} {te : TE} {p apos cpos pos : Pos}
theorem pe_listVals (hc : X.calm = true) (he : PE X e te) (hg : Gl X "list") (hm : X.mg "list" = none) (hb : attributeBase e "values" X.env (eval e X.env) = eval e X.env := by rfl) (hl : (apos.endLine == cpos.line) = true := by rfl)
    (hs : starEach [.Call (.Attribute e "values" apos) [] [] cpos] X.env = (false, eval (.Call (.Attribute e "values" apos) [] [] cpos) X.env) :: starEach [] X.env := by rfl) :
    PE X (.Call (.Name "list" p) [.Call (.Attribute e "values" apos) [] [] cpos] [] pos) (tListVals te) := by
  refine ⟨fun pins s σ H Q I hq => ?_⟩
  refine wpAny_Call_Name_kw (ld_blt (u := .type "list") I hg hm (by decide +kernel) ?_)
  refine PyProof.Rows.callWith_type1 ?_ hs rfl
  rw [hs]
  show wpAny _ _ (spliced ((false, eval (.Call (.Attribute e "values" apos) [] [] cpos) X.env) :: backTo pos (starEach [] X.env))) _ _ s
  refine Calls.spliced_cons (wpAny_Call_method (T := "dict") (id := "dict.values") hb rfl hl PySem.F.plainAttrs_dict PySem.F.slot_dict_values PySem.F.type_dict_values (thn (he.run pins s σ H _ I hq) fun u s1 ⟨x, H1, I1, rx, d, kvs, ex, hd, q⟩ => ?_))
  subst ex
  obtain rfl : u = Value.ref d := rx
  obtain ⟨hz, hs0, vs, kv, hdo⟩ := I1.hok d _ hd
  obtain ⟨ep, hat⟩ := hdo.dictAt
  have lk : kvs.length = vs.length := Paired.length kv
  have kp1 : ∀ b o, s1.heap.get? b = some o → (s1.heap.push { cls := .type "dict_values", data := .fields #[.ref d] }).get? b = some o := fun b o e => Heap.get?_push_of_some _ e
  have I2 : Inv X pins σ H1 { s1 with heap := s1.heap.push { cls := .type "dict_values", data := .fields #[.ref d] } } := I1.kept (t' := s1.toks) kp1
  refine ⟨hdo.typeIs, hdo.mapOf.noDict, ?_⟩
  show wpAny _ _ (callWith cpos (.builtin "dict.values") [.ref d] [] []) _ X.xe s1
  refine method_meetsIn PySem.F.slot_dict_values PySem.F.entry_dict_values rfl (PySem.evalArgs_none ⟨rfl, hdo.typeIs, PySem.F.args_dict_values_1 _, _, meets_dict_values (mixKind X.prog X.w) d hs0, ⟨vs, hdo⟩, ?_⟩)
  refine Calls.spliced_nil ?_
  refine PySem.W.kdl_call (PySem.W.kdl_values (knd := mixKind X.prog X.w) (r := s1.heap.objs.size) (d := d) (kvs := vs) (ep := ep)) (I1.ok.hd hc) ⟨⟨_, Heap.get?_push_size _ rfl, rfl, rfl⟩, hat.push _⟩ (by omega) fun h1 tk acc c k hS hi => ?_
  have new : ObjOk X.prog X.w (upd H1 (s1.heap.push { cls := .type "dict_values", data := .fields #[.ref d] }).objs.size (.lst (kvs.map (·.2)))) h1 (s1.heap.push { cls := .type "dict_values", data := .fields #[.ref d] }).objs.size (.lst (kvs.map (·.2))) := by
    refine ⟨by rw [List.length_map]; omega, acc.toList, c, ?_, by rw [Array.toArray_toList]; exact hS⟩
    have hal : acc.toList.length = kvs.length := by
      rw [Array.length_toList, hi.1]
      omega
    have key : ∀ (ks : List (Key × V)) (ws : List (Key × Value)) (us : List Value), KV ks ws → us.length = ks.length → (∀ (i : Nat) v, us[i]? = some v → ∃ k, ws[i]? = some (k, v)) → Vals (ks.map (·.2)) us := by
      intro ks ws us h
      induction h generalizing us with
      | nil =>
        intro hl _
        match us, hl with
        | [], _ => exact .nil
      | cons h1 t ih =>
        intro hl hg
        match us, hl with
        | u :: us, hl =>
          obtain ⟨k0, e0⟩ := hg 0 u rfl
          have e0 := Option.some.inj e0
          refine .cons ?_ (ih us (Nat.succ.inj hl) fun i v hv => hg (i + 1) v hv)
          have := h1.2
          rw [e0] at this
          exact this
    refine key kvs vs acc.toList kv hal fun i v hv => ?_
    exact hi.2 i v (by rw [← Array.getElem?_toList]; exact hv)
  exact ⟨.ref _, _, I2.laid (t' := tk) k (Nat.le_refl _) new, rfl, q _ (I2.hok.fresh (Nat.le_refl _))⟩
end
/-! ### what evaluates to what, with dicts -/
section
variable {K : PySem.W.Frag} {σ : L2.St} {H : Hp} {D : Ends} {u : TS} {td ty tx te : TE} {tt : TT} {d : Addr} {kvs : List (Key × V)} {k : Key} {v z : V}
theorem ev_listVals (h : Ev te σ H (.ref d)) (hd : H d = some (.dK kvs)) : EvL (tListVals te) σ H (kvs.map (·.2)) := fun H1 e Q q =>
  h H1 e _ fun H2 e2 => ⟨d, kvs, rfl, (e.trans e2) _ _ hd, fun p hp => q p _ (fresh_back e2 hp) (e2.trans (Ex.new hp)) upd_same⟩
theorem et_notinD (h1 : Ev ty σ H (kV k)) (h2 : Ev td σ H (.ref d)) (hd : H d = some (.dK kvs)) : EvT (tB (tDNotIn ty td)) σ H (!(valV kvs k).isSome) := fun H1 e Q q =>
  h1 H1 e _ fun H2 e2 => h2 H2 (e.trans e2) _ fun H3 e3 => ⟨d, _, rfl, .k (((e.trans e2).trans e3) _ _ hd), _, rfl, q H3 (e2.trans e3)⟩
theorem ev_dget (h2 : Ev td σ H (.ref d)) (h1 : Ev ty σ H (kV k)) (hd : H d = some (.dK kvs)) (hv : valV kvs k = some v) : Ev (tDGet td ty) σ H v := fun H1 e Q q =>
  h2 H1 e _ fun H2 e2 => h1 H2 (e.trans e2) _ fun H3 e3 => ⟨d, v, rfl, by rw [← hv]; exact .k (((e.trans e2).trans e3) _ _ hd), q H3 (e2.trans e3)⟩
theorem ev_dget2 (h2 : Ev td σ H (.ref d)) (h1 : Ev ty σ H (kV k)) (h3 : Ev tx σ H z) (hd : H d = some (.dK kvs)) : Ev (tDGet2 td ty tx) σ H ((valV kvs k).getD z) := fun H1 e Q q =>
  h2 H1 e _ fun H2 e2 => ⟨d, rfl, .inl ⟨kvs, .inl ((e.trans e2) _ _ hd)⟩, h1 H2 (e.trans e2) _ fun H3 e3 => h3 H3 ((e.trans e2).trans e3) _ fun H4 e4 => ⟨_, .k ((((e.trans e2).trans e3).trans e4) _ _ hd), q H4 ((e2.trans e3).trans e4)⟩⟩
theorem ev_lenD (h : Ev td σ H (.ref d)) (hd : H d = some (.dK kvs)) : Ev (tCB (fun xs H Q => ∃ a kvs, xs = [V.ref a] ∧ H a = some (.dK kvs) ∧ Q (.int kvs.length) H) (tCons td tNil)) σ H (.int (kvs.length : Int)) := fun H1 e Q q =>
  h H1 e _ fun H2 e2 => ⟨d, kvs, rfl, (e.trans e2) _ _ hd, q H2 e2⟩
theorem q_dput (hv : Ev te σ H v) (h2 : Ev td σ H (.ref d)) (h1 : Ev ty σ H (kV k)) (hd : H d = some (.dK kvs)) (hl : kvs.length < 100000) (kk : ∀ H1, Ex H H1 → u D σ (upd H1 d (.dK (putK kvs k v)))) : tSeq (sDPut td ty te) u D σ H :=
  hv H (Ex.refl H) _ fun H1 e1 => h2 H1 e1 _ fun H2 e2 => h1 H2 (e1.trans e2) _ fun H3 e3 => ⟨d, _, rfl, .k (((e1.trans e2).trans e3) _ _ hd) (sz_lt hl), kk H3 ((e1.trans e2).trans e3)⟩
theorem s_dput (hv : Ev te σ H v) (h2 : Ev td σ H (.ref d)) (h1 : Ev ty σ H (kV k)) (hd : H d = some (.dK kvs)) (hl : kvs.length < 100000) (kk : ∀ H1, Ex H H1 → D.nx σ (upd H1 d (.dK (putK kvs k v)))) : sDPut td ty te D σ H :=
  hv H (Ex.refl H) _ fun H1 e1 => h2 H1 e1 _ fun H2 e2 => h1 H2 (e1.trans e2) _ fun H3 e3 => ⟨d, _, rfl, .k (((e1.trans e2).trans e3) _ _ hd) (sz_lt hl), kk H3 ((e1.trans e2).trans e3)⟩
theorem lock_ex {H0 H2 : Hp} {od : Obj} {u : HO} (hd : H0 d = some u) (e : Ex (upd H0 d (.frz od u)) H2) : Ex H0 (upd H2 d u) := fun b o h => by
  by_cases z : b = d
  · rw [z, upd_same]
    rw [z, hd] at h
    exact h
  · rw [upd_ne z]
    refine e b o ?_
    rw [upd_ne z]
    exact h
theorem lock_fr {H0 : Hp} {od : Obj} {u : HO} {b : Addr} (h : (upd H0 d (.frz od u)) b = none) : b ≠ d ∧ H0 b = none := by
  have z : b ≠ d := fun z => by
    rw [z, upd_same] at h
    cases h
  rw [upd_ne z] at h
  exact ⟨z, h⟩
/-- [e for k in d if t], d a dict, locked meanwhile -/
theorem el_lcKeys {j : Nat} {vs : List Nat} (f : Nat → Bool) (w : Nat → V) (hd : H d = some (.dK kvs)) (hz : kvs.length ≤ 40000) (hw : ∀ x, wipe ((wipe σ vs).set j (some x)) vs = wipe σ vs)
    (h : ∀ H0 od, Ex H H0 → Ev td σ (upd H0 d (.frz od (.dK kvs))) (.ref d))
    (ht : ∀ (i : Nat) (k : Key) (x : V) H1, kvs[i]? = some (k, x) → EvT tt ((wipe σ vs).set j (some (kV k))) H1 (f i)) (he : ∀ (i : Nat) (k : Key) (x : V) H1, kvs[i]? = some (k, x) → f i = true → Ev te ((wipe σ vs).set j (some (kV k))) H1 (w i)) :
    EvL (tLockE (tLc (iKeys td) (gName j) tt te vs)) σ H (given kvs.length f w) := fun H0 e Q q => ⟨d, .dK kvs, e _ _ hd, trivial, fun od => h H0 od e _ (Ex.refl _) _ fun H1 e1 =>
  ⟨d, od, rfl, .inl ⟨kvs, e1 _ _ upd_same, fun Dl hD => lc_it walk_keys (Cw H1 f w Dl) ⟨hD, Ex.new hD, upd_same⟩ (fun i H' _ p => p.2.1 _ _ (e1 _ _ upd_same))
    (fun i x H' H2 hi p ⟨e2, k, v, hk, ex⟩ => by
      subst e2
      subst ex
      exact ⟨hw _, cw_turn p (by omega) (ht i k v H1 hk) fun hf => he i k v H1 hk hf⟩)
    (fun H' p => ⟨p.2.1 _ _ (e1 _ _ upd_same), by
      obtain ⟨n1, n2⟩ := lock_fr (fresh_back e1 p.1)
      exact q Dl _ n2 (lock_ex (e _ _ hd) (e1.trans p.2.1)) (by rw [upd_ne n1]; exact p.2.2)⟩)⟩⟩⟩
/-- [e for x in d.values() if t] -/
theorem el_lcVals {j : Nat} {vs : List Nat} (f : Nat → Bool) (w : Nat → V) (hd : H d = some (.dK kvs)) (hz : kvs.length ≤ 40000) (hw : ∀ x, wipe ((wipe σ vs).set j (some x)) vs = wipe σ vs)
    (h : ∀ H0 od, Ex H H0 → Ev td σ (upd H0 d (.frz od (.dK kvs))) (.ref d))
    (ht : ∀ (i : Nat) (k : Key) (x : V) H1, kvs[i]? = some (k, x) → EvT tt ((wipe σ vs).set j (some x)) H1 (f i)) (he : ∀ (i : Nat) (k : Key) (x : V) H1, kvs[i]? = some (k, x) → f i = true → Ev te ((wipe σ vs).set j (some x)) H1 (w i)) :
    EvL (tLockE (tLc (iVals td) (gName j) tt te vs)) σ H (given kvs.length f w) := fun H0 e Q q => ⟨d, .dK kvs, e _ _ hd, trivial, fun od => h H0 od e _ (Ex.refl _) _ fun H1 e1 =>
  ⟨d, od, kvs, rfl, e1 _ _ upd_same, fun Dl hD => lc_it walk_values (Cw H1 f w Dl) ⟨hD, Ex.new hD, upd_same⟩ (fun i H' _ p => p.2.1 _ _ (e1 _ _ upd_same))
    (fun i x H' H2 hi p ⟨e2, k, hk⟩ => by
      subst e2
      exact ⟨hw _, cw_turn p (by omega) (ht i k x H1 hk) fun hf => he i k x H1 hk hf⟩)
    (fun H' p => ⟨p.2.1 _ _ (e1 _ _ upd_same), by
      obtain ⟨n1, n2⟩ := lock_fr (fresh_back e1 p.1)
      exact q Dl _ n2 (lock_ex (e _ _ hd) (e1.trans p.2.1)) (by rw [upd_ne n1]; exact p.2.2)⟩)⟩⟩
theorem q_lockAsgL {i : Nat} {xs : List V} (h : EvL (tLockE te) σ H xs) (k : ∀ p H1, H p = none → Ex H H1 → H1 p = some (.lst xs) → u D (σ.set i (some (.ref p))) H1) : tSeq (tLock (tAsg te (gName i))) u D σ H := h H (Ex.refl H) _ fun p H1 hp e h1 => k p H1 hp e h1
/-- for k, x in d.items(): .., d locked meanwhile -/
theorem q_forItems {j1 j2 : Nat} {tb : TS} (hd : H d = some (.dK kvs)) (h : ∀ H0 od, Ex H H0 → Ev td σ (upd H0 d (.frz od (.dK kvs))) (.ref d)) (Pv : Obj → Nat → L2.St → Hp → Prop)
    (h0 : ∀ od H1, Ex (upd H d (.frz od (.dK kvs))) H1 → Pv od 0 σ H1) (hl : ∀ od i σ' H', i ≤ kvs.length → Pv od i σ' H' → H' d = some (.frz od (.dK kvs)))
    (hs : ∀ od i k x σ' H' T, kvs[i]? = some (k, x) → Pv od i σ' H' → H' T = none → ∀ D' : Ends, D'.nx = Pv od (i + 1) → tb D' ((σ'.set j1 (some (kV k))).set j2 (some x)) (upd H' T (.tup [kV k, x])))
    (hn : ∀ od σ' H', Pv od kvs.length σ' H' → u D σ' (upd H' d (.dK kvs))) : tSeq (tLock (tFor (iItems td) (gTup K 2 (gCons (gName j1) (gCons (gName j2) gNil))) tb)) u D σ H :=
  ⟨d, .dK kvs, hd, trivial, fun od => h H od (Ex.refl H) _ (Ex.refl _) _ fun H1 e1 => ⟨d, od, kvs, rfl, e1 _ _ upd_same, for_it walk_items (Pv od) (h0 od H1 e1) (fun i σ' H' hi p => hl od i σ' H' hi p)
    (fun i z σ' H' H2 hi p ⟨T, x, y, e2, hT, e3, hx, hy⟩ => by
      subst e2
      subst e3
      have hx : kvs[i]?.map (fun kv => kV kv.1) = some x := hx
      have hy : kvs[i]?.map Prod.snd = some y := hy
      cases hk : kvs[i]? with
      | none =>
        rw [hk] at hx
        cases hx
      | some kv =>
        rw [hk] at hx hy
        obtain ⟨k, w⟩ := kv
        obtain rfl : kV k = x := Option.some.inj hx
        obtain rfl : w = y := Option.some.inj hy
        exact ⟨T, [kV k, w], rfl, .inl (.inl upd_same), rfl, kV k, [w], rfl, w, [], rfl, rfl, hs od i k w σ' H' T hk p hT _ rfl⟩)
    (fun σ' H' p => ⟨hl od _ σ' H' (Nat.le_refl _) p, hn od σ' H' p⟩)⟩⟩
end
end TB

namespace TB
open PySem PySem.Spec PyProof.Rows L2 Evl
section
variable {X : Cx}
theorem cr_range1 : CallR X (.type "range") (fun vs H Q => ∃ j : Int, vs = [V.int j] ∧ ∀ p, H p = none → Q (.ref p) (upd H p (.rng 0 j))) := by
  intro pins s σ H vs us Q I r h
  obtain ⟨j, rfl, q⟩ := h
  obtain ⟨u1, rfl, t, rfl⟩ := vals1 r
  refine call_range_1 ⟨.ref s.heap.objs.size, upd H s.heap.objs.size (.rng 0 j), I.laid (t' := s.toks + 2) (fun b o e => Heap.get?_push_of_some _ e) (Nat.le_refl _) ?_, rfl, q _ (I.hok.fresh (Nat.le_refl _))⟩
  exact ⟨_, _, _, Heap.get?_push_size _ rfl⟩
theorem ps_augAdd {o i e : Expr} {to ti te : TE} {tpos pos : Pos} (ho : PE X o to) (hi : PE X i ti) (he : PE X e te)
    (ha : ∀ ov iv new, augStore i ov iv new = (do holding [new, ov, iv] (setItem ov iv new); release [new, ov, iv] []; pure .next) := by intros; rfl) : PS X (.AugAssign (.Subscript o i tpos) .Add e pos) (tAugS to ti te (rGetL X.K) (ipI fun i j => i + j) rSetL) :=
  ps_augS ho hi get_list he ip_add set_list ha
end
end TB

namespace TB
open PySem PySem.Spec PyProof.Rows L2 Evl TimberAuction AuctionSpec
/-! ### the document's calls by their numbers and rows -/
def NK (A : Ad) (τ : Tg) (H : Hp) (sa : Addr) (st : State) (cc : List (List Int)) (Q : VK) : Prop := ∀ τ' H' p, Keeps τ H τ' H' → StAt A τ' H' sa (AuctionNeutral.step st cc).1 → H p = none → H' p = some (.lst ((AuctionNeutral.step st cc).2.map V.int)) → Q (.ref p) H'
theorem nstep {st : State} {cc : List (List Int)} {c : Call} (h : AuctionNeutral.operationOf cc = some c) : AuctionNeutral.step st cc = AuctionSpec.step st c := by
  unfold AuctionNeutral.step
  rw [h]
  rfl
theorem NK.op {A : Ad} {τ : Tg} {H : Hp} {sa : Addr} {st : State} {cc : List (List Int)} {c : Call} {Q : VK} (k : NK A τ H sa st cc Q) (h : AuctionNeutral.operationOf cc = some c) : OpK A τ H sa st c Q := fun τ' H' p kp hs np hp => by
  refine k τ' H' p kp ?_ np ?_
  · rw [nstep h]
    exact hs
  · rw [nstep h]
    exact hp
theorem nat_of {z : Int} (h : AuctionNeutral.natural z 32 = true) : ∃ n : Nat, z = (n : Int) ∧ AuctionNeutral.nat z = some n := by
  unfold AuctionNeutral.natural at h
  have h0 : 0 ≤ z := of_decide_eq_true ((Bool.and_eq_true _ _).mp h).1
  refine ⟨z.toNat, (Int.toNat_of_nonneg h0).symm, ?_⟩
  unfold AuctionNeutral.nat
  rw [if_neg (by omega)]
theorem nats_of : ∀ {l : List Int}, (l.all fun (z : Int) => AuctionNeutral.natural z 32) = true → ∃ m : List Nat, l = toI m ∧ AuctionNeutral.nats l = some m
  | [], _ => ⟨[], rfl, rfl⟩
  | z :: l, h => by
    obtain ⟨h1, h2⟩ := (Bool.and_eq_true _ _).mp (List.all_cons ▸ h)
    obtain ⟨n, e1, e2⟩ := nat_of h1
    obtain ⟨m, e3, e4⟩ := nats_of h2
    refine ⟨n :: m, by rw [e1, e3]; rfl, ?_⟩
    unfold AuctionNeutral.nats at e4 ⊢
    rw [List.mapM_cons, e2, e4]
    rfl
theorem row_of {l : List Int} (h : ((l.all fun (z : Int) => AuctionNeutral.natural z 32) && decide (l.length ≤ 40)) = true) : ∃ m : List Nat, l = toI m ∧ AuctionNeutral.nats l = some m ∧ m.length ≤ 40 := by
  obtain ⟨h1, h2⟩ := (Bool.and_eq_true _ _).mp h
  obtain ⟨m, e1, e2⟩ := nats_of h1
  refine ⟨m, e1, e2, ?_⟩
  have := of_decide_eq_true h2
  rw [e1] at this
  unfold toI at this
  rw [List.length_map] at this
  exact this
theorem and3 {a b c : Bool} (h : (a && (b && c)) = true) : a = true ∧ b = true ∧ c = true := by
  obtain ⟨h1, h2⟩ := (Bool.and_eq_true _ _).mp h
  exact ⟨h1, (Bool.and_eq_true _ _).mp h2⟩
section
variable {A : Ad} {τ : Tg} {H : Hp} {sa : Addr} {st : State} {ns : List Int} {rs : List (List Int)} {Q : VK}
theorem call_0 (k : NK A τ H sa st ((0 :: ns) :: rs) Q) (h1 : ns.length = 1) (h2 : rs.length = 0) (ha : AuctionNeutral.asked1 ((0 :: ns) :: rs) = true) : ∃ (x0 : Nat), ns = [(x0 : Int)] ∧ rs = [] ∧ OpK A τ H sa st (.setDay x0) Q := by
  match ns, rs, h1, h2 with
  | [z0], [], _, _ =>
    have g0 := ha
    obtain ⟨x0, rfl, e0⟩ := nat_of g0
    refine ⟨x0, rfl, rfl, k.op ?_⟩
    show (do let a0 ← AuctionNeutral.nat (x0 : Int); some (Call.setDay a0)) = _
    rw [e0]
    rfl
theorem call_1 (k : NK A τ H sa st ((1 :: ns) :: rs) Q) (h1 : ns.length = 3) (h2 : rs.length = 0) (ha : AuctionNeutral.asked1 ((1 :: ns) :: rs) = true) : ∃ (x0 x1 x2 : Nat), ns = [(x0 : Int), (x1 : Int), (x2 : Int)] ∧ rs = [] ∧ OpK A τ H sa st (.openSale x0 x1 x2) Q := by
  match ns, rs, h1, h2 with
  | [z0, z1, z2], [], _, _ =>
    obtain ⟨g0, g1, g2⟩ := and3 ha
    obtain ⟨x0, rfl, e0⟩ := nat_of g0
    obtain ⟨x1, rfl, e1⟩ := nat_of g1
    obtain ⟨x2, rfl, e2⟩ := nat_of g2
    refine ⟨x0, x1, x2, rfl, rfl, k.op ?_⟩
    show (do let a0 ← AuctionNeutral.nat (x0 : Int); let a1 ← AuctionNeutral.nat (x1 : Int); let a2 ← AuctionNeutral.nat (x2 : Int); some (Call.openSale a0 a1 a2)) = _
    rw [e0, e1, e2]
    rfl
theorem call_2 (k : NK A τ H sa st ((2 :: ns) :: rs) Q) (h1 : ns.length = 1) (h2 : rs.length = 1) (ha : AuctionNeutral.asked1 ((2 :: ns) :: rs) = true) : ∃ (x0 : Nat) (l0 : List Nat), ns = [(x0 : Int)] ∧ rs = [toI l0] ∧ l0.length ≤ 40 ∧ OpK A τ H sa st (.addLot x0 l0) Q := by
  match ns, rs, h1, h2 with
  | [z0], [y0], _, _ =>
    obtain ⟨g0, g1⟩ := (Bool.and_eq_true _ _).mp ha
    obtain ⟨x0, rfl, e0⟩ := nat_of g0
    obtain ⟨m1, rfl, e1, q1⟩ := row_of g1
    refine ⟨x0, m1, rfl, rfl, q1, k.op ?_⟩
    show (do let a0 ← AuctionNeutral.nat (x0 : Int); let a1 ← AuctionNeutral.nats (toI m1); some (Call.addLot a0 a1)) = _
    rw [e0, e1]
    rfl
theorem call_3 (k : NK A τ H sa st ((3 :: ns) :: rs) Q) (h1 : ns.length = 2) (h2 : rs.length = 0) (ha : AuctionNeutral.asked1 ((3 :: ns) :: rs) = true) : ∃ (x0 x1 : Nat), ns = [(x0 : Int), (x1 : Int)] ∧ rs = [] ∧ OpK A τ H sa st (.setLimit x0 x1) Q := by
  match ns, rs, h1, h2 with
  | [z0, z1], [], _, _ =>
    obtain ⟨g0, g1⟩ := (Bool.and_eq_true _ _).mp ha
    obtain ⟨x0, rfl, e0⟩ := nat_of g0
    obtain ⟨x1, rfl, e1⟩ := nat_of g1
    refine ⟨x0, x1, rfl, rfl, k.op ?_⟩
    show (do let a0 ← AuctionNeutral.nat (x0 : Int); let a1 ← AuctionNeutral.nat (x1 : Int); some (Call.setLimit a0 a1)) = _
    rw [e0, e1]
    rfl
theorem call_4 (k : NK A τ H sa st ((4 :: ns) :: rs) Q) (h1 : ns.length = 0) (h2 : rs.length = 3) (ha : AuctionNeutral.asked1 ((4 :: ns) :: rs) = true) : ∃ (l0 l1 l2 : List Nat), ns = [] ∧ rs = [toI l0, toI l1, toI l2] ∧ l0.length ≤ 40 ∧ l1.length ≤ 40 ∧ l2.length ≤ 40 ∧ OpK A τ H sa st (.placeBid l0 l1 l2) Q := by
  match ns, rs, h1, h2 with
  | [], [y0, y1, y2], _, _ =>
    obtain ⟨g0, g1, g2⟩ := and3 ha
    obtain ⟨m0, rfl, e0, q0⟩ := row_of g0
    obtain ⟨m1, rfl, e1, q1⟩ := row_of g1
    obtain ⟨m2, rfl, e2, q2⟩ := row_of g2
    refine ⟨m0, m1, m2, rfl, rfl, q0, q1, q2, k.op ?_⟩
    show (do let a0 ← AuctionNeutral.nats (toI m0); let a1 ← AuctionNeutral.nats (toI m1); let a2 ← AuctionNeutral.nats (toI m2); some (Call.placeBid a0 a1 a2)) = _
    rw [e0, e1, e2]
    rfl
theorem call_5 (k : NK A τ H sa st ((5 :: ns) :: rs) Q) (h1 : ns.length = 1) (h2 : rs.length = 0) (ha : AuctionNeutral.asked1 ((5 :: ns) :: rs) = true) : ∃ (x0 : Nat), ns = [(x0 : Int)] ∧ rs = [] ∧ OpK A τ H sa st (.withdrawBid x0) Q := by
  match ns, rs, h1, h2 with
  | [z0], [], _, _ =>
    have g0 := ha
    obtain ⟨x0, rfl, e0⟩ := nat_of g0
    refine ⟨x0, rfl, rfl, k.op ?_⟩
    show (do let a0 ← AuctionNeutral.nat (x0 : Int); some (Call.withdrawBid a0)) = _
    rw [e0]
    rfl
theorem call_6 (k : NK A τ H sa st ((6 :: ns) :: rs) Q) (h1 : ns.length = 0) (h2 : rs.length = 0) (ha : AuctionNeutral.asked1 ((6 :: ns) :: rs) = true) : ns = [] ∧ rs = [] ∧ OpK A τ H sa st (.listBids) Q := by
  match ns, rs, h1, h2 with
  | [], [], _, _ =>
    exact ⟨rfl, rfl, k.op rfl⟩
theorem call_7 (k : NK A τ H sa st ((7 :: ns) :: rs) Q) (h1 : ns.length = 0) (h2 : rs.length = 1) (ha : AuctionNeutral.asked1 ((7 :: ns) :: rs) = true) : ∃ (l0 : List Nat), ns = [] ∧ rs = [toI l0] ∧ l0.length ≤ 40 ∧ OpK A τ H sa st (.checkSelection l0) Q := by
  match ns, rs, h1, h2 with
  | [], [y0], _, _ =>
    have g0 := ha
    obtain ⟨m0, rfl, e0, q0⟩ := row_of g0
    refine ⟨m0, rfl, rfl, q0, k.op ?_⟩
    show (do let a0 ← AuctionNeutral.nats (toI m0); some (Call.checkSelection a0)) = _
    rw [e0]
    rfl
theorem call_8 (k : NK A τ H sa st ((8 :: ns) :: rs) Q) (h1 : ns.length = 0) (h2 : rs.length = 0) (ha : AuctionNeutral.asked1 ((8 :: ns) :: rs) = true) : ns = [] ∧ rs = [] ∧ OpK A τ H sa st (.bestSelection) Q := by
  match ns, rs, h1, h2 with
  | [], [], _, _ =>
    exact ⟨rfl, rfl, k.op rfl⟩
theorem call_9 (k : NK A τ H sa st ((9 :: ns) :: rs) Q) (h1 : ns.length = 1) (h2 : rs.length = 0) (ha : AuctionNeutral.asked1 ((9 :: ns) :: rs) = true) : ∃ (x0 : Nat), ns = [(x0 : Int)] ∧ rs = [] ∧ OpK A τ H sa st (.threshold x0) Q := by
  match ns, rs, h1, h2 with
  | [z0], [], _, _ =>
    have g0 := ha
    obtain ⟨x0, rfl, e0⟩ := nat_of g0
    refine ⟨x0, rfl, rfl, k.op ?_⟩
    show (do let a0 ← AuctionNeutral.nat (x0 : Int); some (Call.threshold a0)) = _
    rw [e0]
    rfl
theorem call_10 (k : NK A τ H sa st ((10 :: ns) :: rs) Q) (h1 : ns.length = 0) (h2 : rs.length = 0) (ha : AuctionNeutral.asked1 ((10 :: ns) :: rs) = true) : ns = [] ∧ rs = [] ∧ OpK A τ H sa st (.award) Q := by
  match ns, rs, h1, h2 with
  | [], [], _, _ =>
    exact ⟨rfl, rfl, k.op rfl⟩
theorem call_11 (k : NK A τ H sa st ((11 :: ns) :: rs) Q) (h1 : ns.length = 1) (h2 : rs.length = 0) (ha : AuctionNeutral.asked1 ((11 :: ns) :: rs) = true) : ∃ (x0 : Nat), ns = [(x0 : Int)] ∧ rs = [] ∧ OpK A τ H sa st (.getContract x0) Q := by
  match ns, rs, h1, h2 with
  | [z0], [], _, _ =>
    have g0 := ha
    obtain ⟨x0, rfl, e0⟩ := nat_of g0
    refine ⟨x0, rfl, rfl, k.op ?_⟩
    show (do let a0 ← AuctionNeutral.nat (x0 : Int); some (Call.getContract a0)) = _
    rw [e0]
    rfl
theorem call_12 (k : NK A τ H sa st ((12 :: ns) :: rs) Q) (h1 : ns.length = 2) (h2 : rs.length = 0) (ha : AuctionNeutral.asked1 ((12 :: ns) :: rs) = true) : ∃ (x0 x1 : Nat), ns = [(x0 : Int), (x1 : Int)] ∧ rs = [] ∧ OpK A τ H sa st (.setIndex x0 x1) Q := by
  match ns, rs, h1, h2 with
  | [z0, z1], [], _, _ =>
    obtain ⟨g0, g1⟩ := (Bool.and_eq_true _ _).mp ha
    obtain ⟨x0, rfl, e0⟩ := nat_of g0
    obtain ⟨x1, rfl, e1⟩ := nat_of g1
    refine ⟨x0, x1, rfl, rfl, k.op ?_⟩
    show (do let a0 ← AuctionNeutral.nat (x0 : Int); let a1 ← AuctionNeutral.nat (x1 : Int); some (Call.setIndex a0 a1)) = _
    rw [e0, e1]
    rfl
theorem call_13 (k : NK A τ H sa st ((13 :: ns) :: rs) Q) (h1 : ns.length = 4) (h2 : rs.length = 0) (ha : AuctionNeutral.asked1 ((13 :: ns) :: rs) = true) : ∃ (x0 x1 x2 x3 : Nat), ns = [(x0 : Int), (x1 : Int), (x2 : Int), (x3 : Int)] ∧ rs = [] ∧ OpK A τ H sa st (.recordDelivery x0 x1 x2 x3) Q := by
  match ns, rs, h1, h2 with
  | [z0, z1, z2, z3], [], _, _ =>
    obtain ⟨g0, g1, h⟩ := and3 ha
    obtain ⟨g2, g3⟩ := (Bool.and_eq_true _ _).mp h
    obtain ⟨x0, rfl, e0⟩ := nat_of g0
    obtain ⟨x1, rfl, e1⟩ := nat_of g1
    obtain ⟨x2, rfl, e2⟩ := nat_of g2
    obtain ⟨x3, rfl, e3⟩ := nat_of g3
    refine ⟨x0, x1, x2, x3, rfl, rfl, k.op ?_⟩
    show (do let a0 ← AuctionNeutral.nat (x0 : Int); let a1 ← AuctionNeutral.nat (x1 : Int); let a2 ← AuctionNeutral.nat (x2 : Int); let a3 ← AuctionNeutral.nat (x3 : Int); some (Call.recordDelivery a0 a1 a2 a3)) = _
    rw [e0, e1, e2, e3]
    rfl
theorem call_14 (k : NK A τ H sa st ((14 :: ns) :: rs) Q) (h1 : ns.length = 2) (h2 : rs.length = 0) (ha : AuctionNeutral.asked1 ((14 :: ns) :: rs) = true) : ∃ (x0 x1 : Nat), ns = [(x0 : Int), (x1 : Int)] ∧ rs = [] ∧ OpK A τ H sa st (.correctDelivery x0 x1) Q := by
  match ns, rs, h1, h2 with
  | [z0, z1], [], _, _ =>
    obtain ⟨g0, g1⟩ := (Bool.and_eq_true _ _).mp ha
    obtain ⟨x0, rfl, e0⟩ := nat_of g0
    obtain ⟨x1, rfl, e1⟩ := nat_of g1
    refine ⟨x0, x1, rfl, rfl, k.op ?_⟩
    show (do let a0 ← AuctionNeutral.nat (x0 : Int); let a1 ← AuctionNeutral.nat (x1 : Int); some (Call.correctDelivery a0 a1)) = _
    rw [e0, e1]
    rfl
theorem call_15 (k : NK A τ H sa st ((15 :: ns) :: rs) Q) (h1 : ns.length = 1) (h2 : rs.length = 0) (ha : AuctionNeutral.asked1 ((15 :: ns) :: rs) = true) : ∃ (x0 : Nat), ns = [(x0 : Int)] ∧ rs = [] ∧ OpK A τ H sa st (.closeContract x0) Q := by
  match ns, rs, h1, h2 with
  | [z0], [], _, _ =>
    have g0 := ha
    obtain ⟨x0, rfl, e0⟩ := nat_of g0
    refine ⟨x0, rfl, rfl, k.op ?_⟩
    show (do let a0 ← AuctionNeutral.nat (x0 : Int); some (Call.closeContract a0)) = _
    rw [e0]
    rfl
theorem call_16 (k : NK A τ H sa st ((16 :: ns) :: rs) Q) (h1 : ns.length = 1) (h2 : rs.length = 0) (ha : AuctionNeutral.asked1 ((16 :: ns) :: rs) = true) : ∃ (x0 : Nat), ns = [(x0 : Int)] ∧ rs = [] ∧ OpK A τ H sa st (.contractValue x0) Q := by
  match ns, rs, h1, h2 with
  | [z0], [], _, _ =>
    have g0 := ha
    obtain ⟨x0, rfl, e0⟩ := nat_of g0
    refine ⟨x0, rfl, rfl, k.op ?_⟩
    show (do let a0 ← AuctionNeutral.nat (x0 : Int); some (Call.contractValue a0)) = _
    rw [e0]
    rfl
theorem call_17 (k : NK A τ H sa st ((17 :: ns) :: rs) Q) (h1 : ns.length = 1) (h2 : rs.length = 0) (ha : AuctionNeutral.asked1 ((17 :: ns) :: rs) = true) : ∃ (x0 : Nat), ns = [(x0 : Int)] ∧ rs = [] ∧ OpK A τ H sa st (.createBill x0) Q := by
  match ns, rs, h1, h2 with
  | [z0], [], _, _ =>
    have g0 := ha
    obtain ⟨x0, rfl, e0⟩ := nat_of g0
    refine ⟨x0, rfl, rfl, k.op ?_⟩
    show (do let a0 ← AuctionNeutral.nat (x0 : Int); some (Call.createBill a0)) = _
    rw [e0]
    rfl
theorem call_18 (k : NK A τ H sa st ((18 :: ns) :: rs) Q) (h1 : ns.length = 1) (h2 : rs.length = 0) (ha : AuctionNeutral.asked1 ((18 :: ns) :: rs) = true) : ∃ (x0 : Nat), ns = [(x0 : Int)] ∧ rs = [] ∧ OpK A τ H sa st (.listBills x0) Q := by
  match ns, rs, h1, h2 with
  | [z0], [], _, _ =>
    have g0 := ha
    obtain ⟨x0, rfl, e0⟩ := nat_of g0
    refine ⟨x0, rfl, rfl, k.op ?_⟩
    show (do let a0 ← AuctionNeutral.nat (x0 : Int); some (Call.listBills a0)) = _
    rw [e0]
    rfl
theorem call_19 (k : NK A τ H sa st ((19 :: ns) :: rs) Q) (h1 : ns.length = 2) (h2 : rs.length = 0) (ha : AuctionNeutral.asked1 ((19 :: ns) :: rs) = true) : ∃ (x0 x1 : Nat), ns = [(x0 : Int), (x1 : Int)] ∧ rs = [] ∧ OpK A τ H sa st (.recordPayment x0 x1) Q := by
  match ns, rs, h1, h2 with
  | [z0, z1], [], _, _ =>
    obtain ⟨g0, g1⟩ := (Bool.and_eq_true _ _).mp ha
    obtain ⟨x0, rfl, e0⟩ := nat_of g0
    obtain ⟨x1, rfl, e1⟩ := nat_of g1
    refine ⟨x0, x1, rfl, rfl, k.op ?_⟩
    show (do let a0 ← AuctionNeutral.nat (x0 : Int); let a1 ← AuctionNeutral.nat (x1 : Int); some (Call.recordPayment a0 a1)) = _
    rw [e0, e1]
    rfl
theorem call_20 (k : NK A τ H sa st ((20 :: ns) :: rs) Q) (h1 : ns.length = 1) (h2 : rs.length = 0) (ha : AuctionNeutral.asked1 ((20 :: ns) :: rs) = true) : ∃ (x0 : Nat), ns = [(x0 : Int)] ∧ rs = [] ∧ OpK A τ H sa st (.balance x0) Q := by
  match ns, rs, h1, h2 with
  | [z0], [], _, _ =>
    have g0 := ha
    obtain ⟨x0, rfl, e0⟩ := nat_of g0
    refine ⟨x0, rfl, rfl, k.op ?_⟩
    show (do let a0 ← AuctionNeutral.nat (x0 : Int); some (Call.balance a0)) = _
    rw [e0]
    rfl
theorem call_21 (k : NK A τ H sa st ((21 :: ns) :: rs) Q) (h1 : ns.length = 1) (h2 : rs.length = 0) (ha : AuctionNeutral.asked1 ((21 :: ns) :: rs) = true) : ∃ (x0 : Nat), ns = [(x0 : Int)] ∧ rs = [] ∧ OpK A τ H sa st (.shortfall x0) Q := by
  match ns, rs, h1, h2 with
  | [z0], [], _, _ =>
    have g0 := ha
    obtain ⟨x0, rfl, e0⟩ := nat_of g0
    refine ⟨x0, rfl, rfl, k.op ?_⟩
    show (do let a0 ← AuctionNeutral.nat (x0 : Int); some (Call.shortfall a0)) = _
    rw [e0]
    rfl
end
end TB

namespace TB
open PySem PySem.Spec PyProof.Rows L2 Evl TimberAuction TBM AuctionSpec
open C8 (pe_c pe_mk pe_mt pe_mt0)
theorem yes {p : Prop} [Decidable p] (h : decide p = true) : p := of_decide_eq_true h
theorem no {p : Prop} [Decidable p] (h : decide p = false) : ¬ p := of_decide_eq_false h
theorem or_no {a b : Bool} (h : (a || b) = false) : a = false ∧ b = false := Bool.or_eq_false_iff.mp h
theorem or_yes {a b : Bool} (h : (a || b) = true) : a = true ∨ b = true := (Bool.or_eq_true _ _).mp h
theorem sfld_run {K : PySem.W.Frag} {σ : L2.St} {H : Hp} {D : Ends} {ta tv : TE} {f : Str} (h : tv σ H fun y H1 => ta σ H1 fun x H2 => ∃ a C dx fs, x = .ref a ∧ H2 a = some (.ins C dx fs) ∧ Cls K C ∧ NoAttr K C f ∧ fs.length < 1000 ∧ D.nx σ (upd H2 a (.ins C dx (putF f y fs)))) : sFld K ta tv f D σ H := h
theorem nx_run {nx : L2.St → Hp → Prop} {rt : VK} {bk ct : L2.St → Hp → Prop} {σ : L2.St} {H : Hp} (h : nx σ H) : ({ nx := nx, rt := rt, bk := bk, ct := ct } : Ends).nx σ H := h
/-- an object has been made and filled: all that was known is kept -/
theorem made_ex {H H' : Hp} {x dx C : Addr} (hx : H x = none) (hd : H dx = none) (b : ExB x (upd (upd H dx (.own x)) x (.ins C dx [])) H') : Ex H H' := fun a o h => by
  have h1 : a ≠ x := ne_of_none h hx
  exact b a o (by rw [upd_ne h1, upd_ne (ne_of_none h hd)]; exact h) h1
theorem made_new {H : Hp} {x dx C p : Addr} (h : (upd (upd H dx (.own x)) x (.ins C dx [])) p = none) : H p = none ∧ p ≠ x := by
  have h1 : p ≠ x := fun z => by
    rw [z, upd_same] at h
    cases h
  have h2 : p ≠ dx := fun z => by
    rw [upd_ne h1, z, upd_same] at h
    cases h
  rw [upd_ne h1, upd_ne h2] at h
  exact ⟨h, h1⟩
section
variable {P : Program} {w : World} {K : PySem.W.Frag} {mg : Str → Option Value} {base : Heap} {A : Ad}
/-! ### is_over -/
def R_is_over (A : Ad) : List V → Hp → V → Prop := fun vs H z => ∃ sa τ st s, vs = [.ref sa] ∧ StAt A τ H sa st ∧ st.sale = some s ∧ z = .bl (!acceptsBids st s)
theorem c_is_over (T : Txt K mg A) : C8.Cal P w K mg base 1 "is_over" (spV (R_is_over A)) [] := by
  refine calOf T.d_is_over sc_is_over (fun _ _ _ _ _ _ us hl => match us, hl with | [_], _ => rfl) (fun vs H Q E h => ?_) (fun f cdv Ar outer st H vs Q E hr h => ?_)
  · obtain ⟨_, ⟨sa, τ, st, s, rfl, _⟩, _⟩ := h
    rfl
  · obtain ⟨_, ⟨sa, τ, st, s, rfl, ⟨dx, sv, ctA, cas, fl, das, bls, hst⟩, hsale, rfl⟩, kQ⟩ := h
    refine ⟨_, (pss_one (ps_ret (pe_cmpR op_gt (pe_fld (pv 0) rfl) (pe_fld (pe_fld (pv 0) rfl) rfl) (nomark _)))), ?_⟩
    have hv := hst.sale
    rw [hsale] at hv
    obtain ⟨a, rfl, ⟨sdx, loA, bdA, liA, las, bas, hs⟩, ok⟩ := hv
    refine rt_ret (ev_is (ev_op (ev_fld (ev_var rfl) hst.at_ T.cl_State T.n_State_day lk_State_day) (ev_fld (ev_fld (ev_var rfl) hst.at_ T.cl_State T.n_State_sale lk_State_sale) hs.at_ T.cl_Sale T.n_Sale_closing_day lk_Sale_closing_day) rv_I0) ?_) kQ
    unfold acceptsBids
    congr 1
    rw [Bool.eq_iff_iff]
    simp only [decide_eq_true_eq, Bool.not_eq_true', decide_eq_false_iff_not]
    omega
/-! ### set_day -/
def mk_set_day : Tg → Hp → List V → Call → Prop := fun _ _ args c => ∃ d : Nat, args = [iN d] ∧ c = .setDay d
theorem c_set_day (T : Txt K mg A) : C8.Cal P w K mg base 1 "set_day" (spOp A mk_set_day) [] := by
  refine calOf T.d_set_day sc_set_day (fun _ _ _ _ _ _ us hl => match us, hl with | [_, _], _ => rfl) (fun vs H Q E h => ?_) (fun f cdv Ar outer s0 H vs Q E hr h => ?_)
  · obtain ⟨sa, τ, st, c, args, rfl, ⟨d, rfl, _⟩, _⟩ := h
    rfl
  · obtain ⟨sa, τ, st, c, args, rfl, ⟨d, rfl, rfl⟩, hst, k⟩ := h
    refine ⟨_, (pss_cons (ps_if (pt_cmpR op_gt (pv 1) (pe_gi (by rfl) T.k_MAX_DAY) (nomark _)) (pss_one (ps_ret (pe_lst (pa_cons (pe_gi (by rfl) T.k_OUT_OF_RANGE) pa_nil)))) pss_nil)
        (pss_cons (ps_if (pt_cmpR op_lt (pv 1) (pe_fld (pv 0) rfl) (nomark _)) (pss_one (ps_ret (pe_lst (pa_cons (pe_gi (by rfl) T.k_NOT_POSSIBLE) pa_nil)))) pss_nil)
        (pss_cons (ps_fld (pv 0) (pv 1) rfl)
        (pss_one (ps_ret (pe_lst (pa_cons pe_int pa_nil))))))), ?_⟩
    obtain ⟨dx, sv, ctA, cas, fl, das, bls, hr⟩ := id hst
    refine q_when (et_test (ev_op (ev_var rfl) ev_c rv_I0)) (fun hb H1 e1 => ?_) (fun hb H1 e1 => ?_)
    · have := yes hb
      refine op_same k e1 hst (el_one ev_c) (is := [-1]) ?_ rfl
      show (if maxDay < d then _ else _) = _
      rw [if_pos (by unfold maxDay; omega)]
      rfl
    have g1 := no hb
    have g1' : ¬ maxDay < d := by unfold maxDay; omega
    refine q_when (et_test (ev_op (ev_var rfl) (ev_fld (ev_var rfl) (e1 _ _ hr.at_) T.cl_State T.n_State_day lk_State_day) rv_I0)) (fun hb H2 e2 => ?_) (fun hb H2 e2 => ?_)
    · have := yes hb
      refine op_same k (e1.trans e2) hst (el_one ev_c) (is := [-4]) ?_ rfl
      show (if maxDay < d then _ else _) = _
      rw [if_neg g1', if_pos (by omega)]
      rfl
    have g2 := no hb
    have e12 := e1.trans e2
    refine q_fldV (ev_var rfl) (ev_var rfl) (e12 _ _ hr.at_) T.cl_State T.n_State_day (by show 7 < 1000; decide) fun H3 e3 => ?_
    rw [put_State_day]
    have hr3 := hr.ex (e12.trans e3)
    have f : Frm (fun t => t = 5) τ H3 τ (upd H3 sa (.ins A.State dx (fState (iN d) sv (.ref ctA) (.ref fl.ix) (.ref fl.dl) (.ref fl.bl) (.ref fl.pa)))) := .upd hr3.at_ hr3.tg
    have kp : Keeps τ H τ (upd H3 sa (.ins A.State dx (fState (iN d) sv (.ref ctA) (.ref fl.ix) (.ref fl.dl) (.ref fl.bl) (.ref fl.pa)))) := (Frm.ex (e12.trans e3)).trans (f.mono fun t ht => by subst ht; exact ⟨by decide, by decide, by decide⟩)
    refine op_done (st' := { st with day := d }) (is := [0]) k kp ⟨dx, sv, ctA, cas, fl, das, bls, ⟨by show d ≤ 99999; omega, hr3.ok.conLen, hr3.ok.con, hr3.ok.rest⟩, hr3.tg, upd_same, hr3.sale.frm f (by decide) (by decide) (by decide) (by decide) (by intro i _ z; omega), hr3.tct, (f.same hr3.ct hr3.tct (by decide)).1, hr3.cts_frm f (by decide) (by intro t h z; omega), hr3.rest.frm f (by omega) (by omega) (by omega) (by omega) (by omega) (by intro t ht z; omega), hr3.tab.frm f (by omega) (by omega)⟩ (el_one ev_c) ?_ rfl
    show (if maxDay < d then _ else _) = _
    rw [if_neg g1', if_neg (by omega)]
/-! ### open_sale -/
def mk_open_sale : Tg → Hp → List V → Call → Prop := fun _ _ args c => ∃ d r a : Nat, args = [iN d, iN r, iN a] ∧ c = .openSale d r a
theorem c_open_sale (T : Txt K mg A) : C8.Cal P w K mg base 4 "open_sale" (spOp A mk_open_sale) [] := by
  have m_Sale : C8.Mak P w K mg base 1 "Sale" A.Sale (sp_Sale A) [] := m_Sale T
  refine calOf T.d_open_sale sc_open_sale (fun _ _ _ _ _ _ us hl => match us, hl with | [_, _, _, _], _ => rfl) (fun vs H Q E h => ?_) (fun f cdv Ar outer s0 H vs Q E hr h => ?_)
  · obtain ⟨sa, τ, st, c, args, rfl, ⟨d, r, a, rfl, _⟩, _⟩ := h
    rfl
  · obtain ⟨sa, τ, st, c, args, rfl, ⟨d, r, a, rfl, rfl⟩, hst, k⟩ := h
    refine ⟨_, (pss_cons (ps_if (PW.pt (pw_or (pt_cmpR op_gt (pv 1) (pe_gi (by rfl) T.k_MAX_DAY) (nomark _)) (pw_or (pt_cmpR op_gt (pv 2) (pe_gi (by rfl) T.k_MAX_RULE) (nomark _)) (pw_or1 (pt_cmpR op_gt (pv 3) (pe_gi (by rfl) T.k_MAX_ADVANCE) (nomark _)))))) (pss_one (ps_ret (pe_lst (pa_cons (pe_gi (by rfl) T.k_OUT_OF_RANGE) pa_nil)))) pss_nil)
        (pss_cons (ps_if (pt_cmpR op_notN (pe_fld (pv 0) rfl) pe_non (nomark _)) (pss_one (ps_ret (pe_lst (pa_cons (pe_gi (by rfl) T.k_ALREADY_DONE) pa_nil)))) pss_nil)
        (pss_cons (ps_if (pt_cmpR op_lt (pv 1) (pe_fld (pv 0) rfl) (nomark _)) (pss_one (ps_ret (pe_lst (pa_cons (pe_gi (by rfl) T.k_NOT_POSSIBLE) pa_nil)))) pss_nil)
        (pss_cons (ps_fld (pv 0) (pe_mk m_Sale hr (by decide) (by rfl) (pa_cons (pv 1) (pa_cons (pv 2) (pa_cons (pv 3) pa_nil)))) rfl)
        (pss_one (ps_ret (pe_lst (pa_cons pe_int pa_nil)))))))), ?_⟩
    obtain ⟨dx, sv, ctA, cas, fl, das, bls, hr⟩ := id hst
    refine q_when (et_or (et_test (ev_op (ev_var rfl) ev_c rv_I0)) fun _ => et_or (et_test (ev_op (ev_var rfl) ev_c rv_I0)) fun _ => et_test (ev_op (ev_var rfl) ev_c rv_I0)) (fun hb H1 e1 => ?_) (fun hb H1 e1 => ?_)
    · refine op_same k e1 hst (el_one ev_c) (is := [-1]) ?_ rfl
      show (if maxDay < d ∨ 1 < r ∨ 1000 < a then _ else _) = _
      rw [if_pos]
      · rfl
      · unfold maxDay
        rcases or_yes hb with h | h
        · have := yes h
          omega
        · rcases or_yes h with h | h
          · have := yes h
            omega
          · have := yes h
            omega
    obtain ⟨hb1, hb2⟩ := or_no hb
    obtain ⟨hb2, hb3⟩ := or_no hb2
    have g1 := no hb1
    have g2 := no hb2
    have g3 := no hb3
    have gg : ¬ (maxDay < d ∨ 1 < r ∨ 1000 < a) := by unfold maxDay; omega
    refine q_when (et_notN (ev_fld (ev_var rfl) (e1 _ _ hr.at_) T.cl_State T.n_State_sale lk_State_sale)) (fun hb H2 e2 => ?_) (fun hb H2 e2 => ?_)
    · refine op_same k (e1.trans e2) hst (el_one ev_c) (is := [-8]) ?_ rfl
      show (if maxDay < d ∨ 1 < r ∨ 1000 < a then _ else if st.sale ≠ none then _ else _) = _
      rw [if_neg gg, if_pos]
      · rfl
      · intro z
        have hv := hr.sale
        rw [z] at hv
        rw [show sv = .non from hv] at hb
        cases hb
    have hsv : sv = .non := by simpa using hb
    have hsale : st.sale = none := by
      have hv := hr.sale
      cases hs : st.sale with
      | none => rfl
      | some s =>
        rw [hs] at hv
        obtain ⟨a, z, _⟩ := hv
        rw [hsv] at z
        cases z
    have e12 := e1.trans e2
    refine q_when (et_test (ev_op (ev_var rfl) (ev_fld (ev_var rfl) (e12 _ _ hr.at_) T.cl_State T.n_State_day lk_State_day) rv_I0)) (fun hb H3 e3 => ?_) (fun hb H3 e3 => ?_)
    · have := yes hb
      refine op_same k (e12.trans e3) hst (el_one ev_c) (is := [-4]) ?_ rfl
      show (if maxDay < d ∨ 1 < r ∨ 1000 < a then _ else if st.sale ≠ none then _ else if d < st.day then _ else _) = _
      rw [if_neg gg, if_neg (fun z => z hsale), if_pos (by omega)]
      rfl
    have g4 := no hb
    have e13 := e12.trans e3
    refine seq_run (sfld_run (make_run (cons_run (var_run rfl (cons_run (var_run rfl (cons_run (var_run rfl (nil_run ?_)))))))))
    intro x xdx nx ndx nxd
    refine ⟨x, xdx, iN d, iN r, iN a, rfl, upd_same, fun H4 p1 p2 p3 n1 n2 n3 n12 n13 n23 hx h1 h2 h3 b => ⟨rfl, ?_⟩⟩
    have e4 : Ex H3 H4 := made_ex nx ndx b
    have hr4 := hr.ex (e13.trans e4)
    obtain ⟨n1, x1⟩ := made_new n1
    obtain ⟨n2, x2⟩ := made_new n2
    obtain ⟨n3, x3⟩ := made_new n3
    refine var_run rfl ⟨sa, A.State, dx, _, rfl, hr4.at_, T.cl_State, T.n_State_sale, (by show 7 < 1000; decide), ?_⟩
    rw [put_State_sale]
    let ft : Tg := fun b => if b = p1 then 1 else if b = p2 then 2 else if b = p3 then 3 else 0
    have fN : Frm SK τ H (newTag τ H ft) H4 := .exN (e13.trans e4)
    have hr5 : StR A (newTag τ H ft) H4 sa st dx sv ctA cas fl das bls := hr.frm (S := fun _ => False) (.exN (e13.trans e4)) fun _ _ z => z
    have f : Frm (fun t => t = 5) (newTag τ H ft) H4 (newTag τ H ft) (upd H4 sa (.ins A.State dx (fState (iN st.day) (.ref x) (.ref ctA) (.ref fl.ix) (.ref fl.dl) (.ref fl.bl) (.ref fl.pa)))) := .upd hr5.at_ hr5.tg
    have kp := fN.trans (f.mono fun t ht => by subst ht; exact ⟨by decide, by decide, by decide⟩)
    have up : ∀ b o, b ≠ sa → H4 b = some o → (upd H4 sa (.ins A.State dx (fState (iN st.day) (.ref x) (.ref ctA) (.ref fl.ix) (.ref fl.dl) (.ref fl.bl) (.ref fl.pa)))) b = some o := fun b o ne h => by rw [upd_ne ne]; exact h
    have old : ∀ {p : Addr}, H3 p = none → H p = none := fun h => fresh_back e13 h
    have nsa : ∀ {p : Addr}, H3 p = none → p ≠ sa := fun {p} h z => by
      rw [z, e13 _ _ hr.at_] at h
      cases h
    refine nx_run ?_
    refine op_done (st' := { st with sale := some ⟨d, r, a, [], [], List.replicate 16 12⟩ }) (is := [0]) k kp ⟨dx, .ref x, ctA, cas, fl, das, bls, ⟨hr5.ok.day, hr5.ok.conLen, hr5.ok.con, hr5.ok.rest⟩, hr5.tg, upd_same, ⟨x, rfl, ⟨xdx, p1, p2, p3, [], [], ?_, up _ _ (nsa nx) hx, ?_, up _ _ (nsa n1) h1, .nil, ?_, up _ _ (nsa n2) h2, .nil, ?_, up _ _ (nsa n3) h3⟩, ?_⟩, hr5.tct, (f.same hr5.ct hr5.tct (by decide)).1, hr5.cts_frm f (by decide) (by intro t h z; omega), hr5.rest.frm f (by omega) (by omega) (by omega) (by omega) (by omega) (by intro t ht z; omega), hr5.tab.frm f (by omega) (by omega)⟩ (el_one ev_c) ?_ rfl
    · rw [newTag_new (old nx)]
      show (if x = p1 then _ else _) = 0
      rw [if_neg (Ne.symm x1), if_neg (Ne.symm x2), if_neg (Ne.symm x3)]
    · rw [newTag_new (old n1)]
      exact if_pos rfl
    · rw [newTag_new (old n2)]
      show (if p2 = p1 then _ else _) = 2
      rw [if_neg (Ne.symm n12), if_pos rfl]
    · rw [newTag_new (old n3)]
      show (if p3 = p1 then _ else _) = 3
      rw [if_neg (Ne.symm n13), if_neg (Ne.symm n23), if_pos rfl]
    · exact ⟨by show r ≤ 1; omega, by show a ≤ 1000; omega, by show d ≤ 99999; omega, Nat.zero_le _, fun l h => (by cases h), Nat.zero_le _, fun l h => (by cases h), rfl, fun z hz => by
        have : z = 12 := List.eq_of_mem_replicate hz
        omega⟩
    · show (if maxDay < d ∨ 1 < r ∨ 1000 < a then _ else if st.sale ≠ none then _ else if d < st.day then _ else _) = _
      rw [if_neg gg, if_neg (fun z => z hsale), if_neg (by omega)]
end
end TB

namespace TB
open PySem PySem.Spec PyProof.Rows L2 Evl TimberAuction TBM AuctionSpec
open C8 (pe_c pe_mk pe_mt pe_mt0)
theorem sk_of {k : Nat} (h : k ≠ 0 ∧ k ≠ 8 ∧ k ≠ 9) : ∀ t, t = k → SK t := fun t ht => by
  subst ht
  exact h
theorem all_mem {m : Nat} {l : List Nat} (h : allAtMost m l = true) : ∀ x ∈ l, x ≤ m := fun x hx => by
  unfold allAtMost at h
  exact of_decide_eq_true (List.all_eq_true.mp h x hx)
section
variable {P : Program} {w : World} {K : PySem.W.Frag} {mg : Str → Option Value} {base : Heap} {A : Ad}
/-! ### add_lot -/
def mk_add_lot : Tg → Hp → List V → Call → Prop := fun τ H args c => ∃ (r : Nat) (vp : Addr) (l : List Nat), args = [iN r, .ref vp] ∧ NumsAt τ H vp l ∧ l.length ≤ 40 ∧ c = .addLot r l
theorem c_add_lot (T : Txt K mg A) : C8.Cal P w K mg base 3 "add_lot" (spOp A mk_add_lot) [] := by
  have c_is_grade_row : C8.Cal P w K mg base 1 "is_grade_row" (spV R_is_grade_row) [] := c_is_grade_row T
  have c_is_over : C8.Cal P w K mg base 1 "is_over" (spV (R_is_over A)) [] := c_is_over T
  have c_for_all_grades : C8.Cal P w K mg base 1 "for_all_grades" (spP R_for_all_grades) [] := c_for_all_grades T
  have m_Lot : C8.Mak P w K mg base 1 "Lot" A.Lot (spInit A.Lot 2 fLotL) [] := m_Lot T
  refine calOf T.d_add_lot sc_add_lot (fun _ _ _ _ _ _ us hl => match us, hl with | [_, _, _], _ => rfl) (fun vs H Q E h => ?_) (fun f cdv Ar outer s0 H vs Q E hr h => ?_)
  · obtain ⟨sa, τ, st, c, args, rfl, ⟨r, vp, l, rfl, _⟩, _⟩ := h
    rfl
  · obtain ⟨sa, τ, st, c, args, rfl, ⟨r, vp, l, rfl, hvp, hll, rfl⟩, hst, k⟩ := h
    refine ⟨_, (pss_cons (ps_set (i := 3) sc_add_lot.nd rfl (Or.inl rfl) (pe_fld (pv 0) rfl))
        (pss_cons (ps_if (PW.pt (pw_or (pt_cmpR op_gt (pv 1) (pe_gi (by rfl) T.k_MAX_RESERVE) (nomark _)) (pw_or1 (pt_not (pt_val (pe_c c_is_grade_row hr (by decide) (by rfl) (pa_cons (pv 2) (pa_cons (pe_gi (by rfl) T.k_MAX_VOLUME) pa_nil)))))))) (pss_one (ps_ret (pe_lst (pa_cons (pe_gi (by rfl) T.k_OUT_OF_RANGE) pa_nil)))) pss_nil)
        (pss_cons (ps_if (pt_cmpR op_isN (pv 3) pe_non (nomark _)) (pss_one (ps_ret (pe_lst (pa_cons (pe_gi (by rfl) T.k_MISSING) pa_nil)))) pss_nil)
        (pss_cons (ps_if (PW.pt (pw_or (pt_cmpR op_gt (pe_callB call_len_seq (by rfl) T.b_len boot_len (pa_cons (pe_fld (pv 3) rfl) pa_nil)) pe_int (nomark _)) (pw_or1 (pt_val (pe_c c_is_over hr (by decide) (by rfl) (pa_cons (pv 0) pa_nil)))))) (pss_one (ps_ret (pe_lst (pa_cons (pe_gi (by rfl) T.k_NOT_POSSIBLE) pa_nil)))) pss_nil)
        (pss_cons (ps_if (pt_cmpR op_eq (pe_callB call_len_seq (by rfl) T.b_len boot_len (pa_cons (pe_fld (pv 3) rfl) pa_nil)) (pe_gi (by rfl) T.k_MAX_LOTS) (nomark _)) (pss_one (ps_ret (pe_lst (pa_cons (pe_gi (by rfl) T.k_FULL) pa_nil)))) pss_nil)
        (pss_cons (ps_expr (pe_bm PySem.F.plainAttrs_list PySem.F.slot_list_append PySem.F.type_list_append mt_append (pe_fld (pv 3) rfl) (pa_cons (pe_mk m_Lot hr (by decide) (by rfl) (pa_cons (pv 1) (pa_cons (pe_c c_for_all_grades hr (by decide) (by rfl) (pa_cons (pv 2) pa_nil)) pa_nil))) pa_nil)))
        (pss_one (ps_ret (pe_lst (pa_cons (pe_op op_sub (pe_callB call_len_seq (by rfl) T.b_len boot_len (pa_cons (pe_fld (pv 3) rfl) pa_nil)) pe_int) pa_nil)))))))))), ?_⟩
    obtain ⟨dx, sv, ctA, cas, fl, das, bls, hr⟩ := id hst
    refine q_asg (ev_fld (ev_var rfl) hr.at_ T.cl_State T.n_State_sale lk_State_sale) fun H1 e1 => ?_
    refine q_when (et_or (et_test (ev_op (ev_var rfl) ev_c rv_I0)) fun _ => et_not (et_B (ev_callV (ea_cons (ev_var rfl) (ea_cons ev_c ea_nil)) fun H2 e2 => ⟨vp, l, 1000000, rfl, e2 _ _ (e1 _ _ hvp.2), rfl⟩))) (fun hb H2 e2 => ?_) (fun hb H2 e2 => ?_)
    · refine op_same k (e1.trans e2) hst (el_one ev_c) (is := [-1]) ?_ rfl
      show (if maxAmount < r ∨ inRange 1 10 l.length = false ∨ allAtMost maxQuantity l = false then _ else _) = _
      rw [if_pos]
      · rfl
      · unfold maxAmount maxQuantity
        rcases or_yes hb with h | h
        · have := yes h
          exact .inl (by omega)
        · right
          rw [Bool.not_eq_true'] at h
          exact Bool.and_eq_false_iff.mp h
    obtain ⟨hb1, hb2⟩ := or_no hb
    have g1 := no hb1
    have hb2 : (inRange 1 10 l.length && allAtMost 1000000 l) = true := by simpa using hb2
    obtain ⟨g2, g3⟩ := (Bool.and_eq_true _ _).mp hb2
    have gg : ¬ (maxAmount < r ∨ inRange 1 10 l.length = false ∨ allAtMost maxQuantity l = false) := by
      unfold maxAmount maxQuantity
      rw [g2, g3]
      rintro (h | h | h)
      · omega
      · cases h
      · cases h
    have e12 := e1.trans e2
    refine q_when (et_isN (ev_var rfl)) (fun hb H3 e3 => ?_) (fun hb H3 e3 => ?_)
    · refine op_same k (e12.trans e3) hst (el_one ev_c) (is := [-3]) ?_ rfl
      show (if _ then _ else withSale st _) = _
      rw [if_neg gg, with_none (hr.sale.non (yes hb))]
    have e13 := e12.trans e3
    obtain ⟨a, s, hsale, rfl, ⟨sdx, loA, bdA, liA, las, bas, hs⟩, ok⟩ := hr.sale.is (no hb)
    refine q_when (et_or (et_test (ev_op (ev_len (K := K) (ev_fld (ev_var rfl) (e13 _ _ hs.at_) T.cl_Sale T.n_Sale_bids lk_Sale_bids) (sq_of (e13 _ _ hs.bd))) ev_c rv_I0)) fun _ => et_B (ev_callV (ea_cons (ev_var rfl) ea_nil) fun H4 e4 => ⟨sa, τ, st, s, rfl, hst.ex (e13.trans e4), hsale, rfl⟩)) (fun hb H4 e4 => ?_) (fun hb H4 e4 => ?_)
    · refine op_same k (e13.trans e4) hst (el_one ev_c) (is := [-4]) ?_ rfl
      show (if _ then _ else withSale st _) = _
      rw [if_neg gg, with_some hsale]
      show (if s.bids ≠ [] ∨ acceptsBids st s = false then _ else _) = _
      rw [if_pos]
      · rfl
      · rcases or_yes hb with h | h
        · left
          intro z
          have := yes h
          rw [rL_len, hs.bids.1, z] at this
          exact absurd this (by decide)
        · right
          simpa using h
    obtain ⟨hb1, hb2⟩ := or_no hb
    have nb : s.bids = [] := by
      have := no hb1
      rw [rL_len, hs.bids.1] at this
      exact List.length_eq_zero_iff.mp (by omega)
    have acc : acceptsBids st s = true := by simpa using hb2
    have g4 : ¬ (s.bids ≠ [] ∨ acceptsBids st s = false) := by
      rw [acc]
      rintro (h | h)
      · exact h nb
      · cases h
    have e14 := e13.trans e4
    refine q_when (et_test (ev_op (ev_len (K := K) (ev_fld (ev_var rfl) (e14 _ _ hs.at_) T.cl_Sale T.n_Sale_lots lk_Sale_lots) (sq_of (e14 _ _ hs.lo))) ev_c (rv_eq rfl))) (fun hb H5 e5 => ?_) (fun hb H5 e5 => ?_)
    · refine op_same k (e14.trans e5) hst (el_one ev_c) (is := [-9]) ?_ rfl
      show (if _ then _ else withSale st _) = _
      rw [if_neg gg, with_some hsale]
      show (if s.bids ≠ [] ∨ acceptsBids st s = false then _ else if 10 ≤ s.lots.length then _ else _) = _
      rw [if_neg g4, if_pos]
      · rfl
      · have := V.int.inj (yes hb)
        rw [rL_len, hs.lots.1] at this
        omega
    have g5 : ¬ 10 ≤ s.lots.length := by
      intro z
      refine no hb ?_
      have := ok.lotsLen
      rw [rL_len, hs.lots.1]
      show V.int _ = V.int _
      rw [show s.lots.length = 10 by omega]
      rfl
    have e15 := e14.trans e5
    refine q_appN (l := loA) (xs := rL las) (P := fun H0 v H6 => ∃ x xdx q, v = .ref x ∧ H0 x = none ∧ H6 x = some (.ins A.Lot xdx (fLot (iN r) (.ref q))) ∧ H0 q = none ∧ H6 q = some (.lst (iL (byGrade l)))) (e15 _ _ hs.lo) (ev_fld (ev_var rfl) (e15 _ _ hs.at_) T.cl_Sale T.n_Sale_lots lk_Sale_lots)
      (fun H6 e6 Q' q' => make_run (cons_run (var_run rfl (cons_run (call_run (cons_run (var_run rfl (nil_run ⟨_, ⟨vp, l, rfl, (e15.trans e6) _ _ hvp.2, ?_, rfl⟩, ?_⟩)))))))) (by rw [rL_len, hs.lots.1]; have := ok.lotsLen; omega) ?_
    · have h := g2
      unfold inRange at h
      have := of_decide_eq_true ((Bool.and_eq_true _ _).mp h).2
      exact this
    · rintro v H7 e7 ⟨q, rfl, nq, hq⟩
      refine nil_run ?_
      intro x xdx nx nxd ne
      refine mk_run (n := 2) (f := fLotL) rfl nx nxd ne fun H8 e8 h8 => q' _ _ (e7.trans e8) ⟨x, xdx, q, rfl, fresh_back e7 nx, h8, nq, e8 _ _ hq⟩
    · rintro v H0 H6 e6 e7 ⟨x, xdx, q, rfl, nx, hx, nq, hq⟩
      have e0 : Ex H H0 := e15.trans e6
      have e : Ex H H6 := e0.trans e7
      have fN : Frm SK τ H (newTag τ H fun _ => 0) H6 := .exN e
      have hr5 : StR A (newTag τ H fun _ => 0) H6 sa st dx (.ref a) ctA cas fl das bls := hr.frm (S := fun _ => False) (.exN e) fun _ _ z => z
      have hs5 : SaleR A (newTag τ H fun _ => 0) H6 a s sdx loA bdA liA las bas := hs.frm (S := fun _ => False) (.exN e) (fun z => z) (fun z => z) (fun z => z) (fun z => z) fun _ _ z => z
      have f : Frm (fun t => t = 1) (newTag τ H fun _ => 0) H6 (newTag τ H fun _ => 0) (upd H6 loA (.lst (rL las ++ [.ref x]))) := .upd hs5.lo hs5.tlo
      have kp := fN.trans (f.mono (sk_of (k := 1) (by decide)))
      have up : ∀ p o, H0 p = none → H6 p = some o → (upd H6 loA (.lst (rL las ++ [.ref x]))) p = some o ∧ (newTag τ H fun _ => 0) p = 0 := fun p o n h => by
        refine ⟨?_, newTag_new (fresh_back e0 n)⟩
        rw [upd_ne (fun z => by rw [z, e0 _ _ hs.lo] at n; cases n)]
        exact h
      have g0 := f.same hs5.at_ hs5.tg (by decide)
      have g2' := f.same hs5.bd hs5.tbd (by decide)
      have g3' := f.same hs5.li hs5.tli (by decide)
      have ba0 : bas = [] := by
        have := hs.bids.1
        rw [nb] at this
        exact List.length_eq_zero_iff.mp this
      subst ba0
      refine op_done (st' := { st with sale := some { s with lots := s.lots ++ [⟨r, byGrade l⟩] } }) (is := [(s.lots.length : Int)]) k kp ⟨dx, .ref a, ctA, cas, fl, das, bls, ⟨hr5.ok.day, hr5.ok.conLen, hr5.ok.con, hr5.ok.rest⟩, hr5.tg, (f.same hr5.at_ hr5.tg (by decide)).1, ⟨a, rfl, ⟨sdx, loA, bdA, liA, las ++ [x], [], g0.2, g0.1, hs5.tlo, ?_, ?_, g2'.2, g2'.1, ?_, g3'.2, g3'.1⟩, ?_⟩, hr5.tct, (f.same hr5.ct hr5.tct (by decide)).1, hr5.cts_frm f (by decide) (by intro t h z; omega), hr5.rest.frm f (by omega) (by omega) (by omega) (by omega) (by omega) (by intro t ht z; omega), hr5.tab.frm f (by omega) (by omega)⟩
        (el_one (ev_op (ev_len (K := K) (ev_fld (ev_var rfl) g0.1 T.cl_Sale T.n_Sale_lots lk_Sale_lots) (sq_of upd_same)) ev_c rv_I0)) ?_ ?_
      · rw [upd_same]
        unfold rL
        rw [List.map_append]
        rfl
      · exact All2.snoc (hs5.lots.imp fun _ _ _ _ _ r => r.go (f.stp (by decide))) ⟨xdx, q, (up _ _ nx hx).2, (up _ _ nx hx).1, (up _ _ nq hq).2, (up _ _ nq hq).1⟩
      · show All2 _ [] s.bids
        rw [nb]
        exact .nil
      · refine ⟨ok.rule, ok.adv, ok.cd, ?_, fun l' hl' => ?_, ok.bidsLen, fun b hb => ?_, ok.limLen, ok.limLe⟩
        · show (s.lots ++ [_]).length ≤ 10
          rw [List.length_append]
          show s.lots.length + 1 ≤ 10
          omega
        · rcases List.mem_append.mp hl' with h | h
          · exact ok.lot l' h
          · rw [List.mem_singleton.mp h]
            exact ⟨by show r ≤ 1000000000; omega, grade_len _, byGrade_le (all_mem g3)⟩
        · have hb' : b ∈ s.bids := hb
          rw [nb] at hb'
          cases hb'
      · show (if _ then _ else withSale st _) = _
        rw [if_neg gg, with_some hsale]
        show (if s.bids ≠ [] ∨ acceptsBids st s = false then _ else if 10 ≤ s.lots.length then _ else _) = _
        rw [if_neg g4, if_neg g5]
      · rw [List.length_append, rL_len, hs.lots.1]
        show [V.int _] = [V.int _]
        congr 2
        show ((s.lots.length + 1 : Nat) : Int) - 1 = _
        omega
end
end TB

namespace TB
open PySem PySem.Spec PyProof.Rows L2 Evl TimberAuction TBM AuctionSpec
open C8 (pe_c pe_mk pe_mt pe_mt0)
section
variable {A : Ad} {τ : Tg} {H : Hp} {sa : Addr} {st : State} {dx : Addr} {sv : V} {ctA : Addr} {cas : List Addr}
/-- the sale that is open, as it lies -/
theorem StR.open_ (h : StR A τ H sa st dx sv ctA cas fl das bls) {s : Sale} (hs : st.sale = some s) : ∃ a sdx loA bdA liA las bas, sv = .ref a ∧ SaleR A τ H a s sdx loA bdA liA las bas ∧ SaleOk s := by
  have hv := h.sale
  rw [hs] at hv
  obtain ⟨a, z, ⟨sdx, loA, bdA, liA, las, bas, hsr⟩, ok⟩ := hv
  exact ⟨a, sdx, loA, bdA, liA, las, bas, z, hsr, ok⟩
theorem StR.shut (h : StR A τ H sa st dx sv ctA cas fl das bls) (hs : st.sale = none) : sv = .non := by
  have hv := h.sale
  rw [hs] at hv
  exact hv
end
section
variable {σ : L2.St} {H : Hp} {te : TE} {u : TT} {x : V}
/-- x is None, x = None ; or .. -/
theorem et_none (h : Ev te σ H .non) : EvT (tOr (tTest (tOp (fun x y H Q => y = .non ∧ Q (.bl (decide (x = .non))) H) te (tC .non))) u) σ H true :=
  et_is (et_or (b := false) (et_is (et_isN h) (decide_eq_true rfl)) fun z => by cases z) rfl
theorem et_ref {a : Addr} {b : Bool} (h : Ev te σ H (.ref a)) (h2 : EvT u σ H b) : EvT (tOr (tTest (tOp (fun x y H Q => y = .non ∧ Q (.bl (decide (x = .non))) H) te (tC .non))) u) σ H b :=
  et_is (et_or (a := false) (et_is (et_isN h) (decide_eq_false (by intro z; cases z))) fun _ => h2) (Bool.false_or b)
end
section
variable {P : Program} {w : World} {K : PySem.W.Frag} {mg : Str → Option Value} {base : Heap} {A : Ad}
/-! ### set_limit -/
def mk_set_limit : Tg → Hp → List V → Call → Prop := fun _ _ args c => ∃ (b l : Nat), args = [iN b, iN l] ∧ c = .setLimit b l
theorem c_set_limit (T : Txt K mg A) : C8.Cal P w K mg base 3 "set_limit" (spOp A mk_set_limit) [] := by
  have c_is_over : C8.Cal P w K mg base 1 "is_over" (spV (R_is_over A)) [] := c_is_over T
  refine calOf T.d_set_limit sc_set_limit (fun _ _ _ _ _ _ us hl => match us, hl with | [_, _, _], _ => rfl) (fun vs H Q E h => ?_) (fun f cdv Ar outer s0 H vs Q E hr h => ?_)
  · obtain ⟨sa, τ, st, c, args, rfl, ⟨b, l, rfl, _⟩, _⟩ := h
    rfl
  · obtain ⟨sa, τ, st, c, args, rfl, ⟨b, l, rfl, rfl⟩, hst, k⟩ := h
    refine ⟨_, (pss_cons (ps_if (PW.pt (pw_or (pt_cmpR op_gt (pv 1) (pe_gi (by rfl) T.k_MAX_BIDDER) (nomark _)) (pw_or1 (pt_cmpR op_gt (pv 2) (pe_gi (by rfl) T.k_MAX_LIMIT) (nomark _))))) (pss_one (ps_ret (pe_lst (pa_cons (pe_gi (by rfl) T.k_OUT_OF_RANGE) pa_nil)))) pss_nil)
        (pss_cons (ps_if (pt_cmpR op_isN (pe_fld (pv 0) rfl) pe_non (nomark _)) (pss_one (ps_ret (pe_lst (pa_cons (pe_gi (by rfl) T.k_MISSING) pa_nil)))) pss_nil)
        (pss_cons (ps_if (pt_val (pe_c c_is_over hr (by decide) (by rfl) (pa_cons (pv 0) pa_nil))) (pss_one (ps_ret (pe_lst (pa_cons (pe_gi (by rfl) T.k_NOT_POSSIBLE) pa_nil)))) pss_nil)
        (pss_cons (ps_asg (pv 2) (pg_sub (pe_fld (pe_fld (pv 0) rfl) rfl) (pv 1) set_list))
        (pss_one (ps_ret (pe_lst (pa_cons pe_int pa_nil)))))))), ?_⟩
    obtain ⟨dx, sv, ctA, cas, fl, das, bls, hr⟩ := id hst
    refine q_when (et_or (et_test (ev_op (ev_var rfl) ev_c rv_I0)) fun _ => et_test (ev_op (ev_var rfl) ev_c rv_I0)) (fun hb H1 e1 => ?_) (fun hb H1 e1 => ?_)
    · refine op_same k e1 hst (el_one ev_c) (is := [-1]) ?_ rfl
      show (if 15 < b ∨ 12 < l then _ else _) = _
      rw [if_pos]
      · rfl
      · rcases or_yes hb with h | h
        · have := yes h
          omega
        · have := yes h
          omega
    obtain ⟨hb1, hb2⟩ := or_no hb
    have g1 := no hb1
    have g2 := no hb2
    have gg : ¬ (15 < b ∨ 12 < l) := by omega
    refine q_when (et_isN (ev_fld (ev_var rfl) (e1 _ _ hr.at_) T.cl_State T.n_State_sale lk_State_sale)) (fun hb H2 e2 => ?_) (fun hb H2 e2 => ?_)
    · refine op_same k (e1.trans e2) hst (el_one ev_c) (is := [-3]) ?_ rfl
      show (if 15 < b ∨ 12 < l then _ else withSale st _) = _
      rw [if_neg gg, with_none (hr.sale.non (yes hb))]
    obtain ⟨a, s, hsale, rfl, ⟨sdx, loA, bdA, liA, las, bas, hs⟩, ok⟩ := hr.sale.is (no hb)
    have e12 := e1.trans e2
    refine q_when (et_B (ev_callV (ea_cons (ev_var rfl) ea_nil) fun H3 e3 => ⟨sa, τ, st, s, rfl, hst.ex (e12.trans e3), hsale, rfl⟩)) (fun hb H3 e3 => ?_) (fun hb H3 e3 => ?_)
    · refine op_same k (e12.trans e3) hst (el_one ev_c) (is := [-4]) ?_ rfl
      show (if 15 < b ∨ 12 < l then _ else withSale st _) = _
      rw [if_neg gg, with_some hsale]
      show (if acceptsBids st s = false then _ else _) = _
      rw [if_pos (by simpa using hb)]
      rfl
    have acc : ¬ acceptsBids st s = false := by simpa using hb
    have e : Ex H H3 := e12.trans e3
    refine seq_run (s_setL (l := liA) (xs := iL s.limits) (j := b) (e _ _ hs.li) (ev_var rfl) (ev_fld (ev_fld (ev_var rfl) (e _ _ hr.at_) T.cl_State T.n_State_sale lk_State_sale) (e _ _ hs.at_) T.cl_Sale T.n_Sale_limits lk_Sale_limits) (ev_var rfl) (by rw [iL_len, ok.limLen]; omega) fun H6 e6 => nx_run ?_)
    have e6' : Ex H H6 := e.trans e6
    have hr5 := hr.ex e6'
    have hs5 : SaleR A τ H6 a s sdx loA bdA liA las bas := hs.frm (S := fun _ => False) (.ex e6') (fun z => z) (fun z => z) (fun z => z) (fun z => z) fun _ _ z => z
    rw [iL_set]
    have f : Frm (fun t => t = 3) τ H6 τ (upd H6 liA (.lst (iL (s.limits.set b l)))) := .upd hs5.li hs5.tli
    have kp : Keeps τ H τ (upd H6 liA (.lst (iL (s.limits.set b l)))) := (Frm.ex e6').trans (f.mono (sk_of (k := 3) (by decide)))
    have g0 := f.same hs5.at_ hs5.tg (by decide)
    have g1' := f.same hs5.lo hs5.tlo (by decide)
    have g2' := f.same hs5.bd hs5.tbd (by decide)
    refine op_done (st' := { st with sale := some { s with limits := s.limits.set b l } }) (is := [0]) k kp ⟨dx, .ref a, ctA, cas, fl, das, bls, ⟨hr5.ok.day, hr5.ok.conLen, hr5.ok.con, hr5.ok.rest⟩, hr5.tg, (f.same hr5.at_ hr5.tg (by decide)).1, ⟨a, rfl, ⟨sdx, loA, bdA, liA, las, bas, g0.2, g0.1, g1'.2, g1'.1, hs5.lots.imp fun _ _ _ _ _ r => r.go (f.stp (by decide)), g2'.2, g2'.1, ?_, hs5.tli, upd_same⟩, ?_⟩, hr5.tct, (f.same hr5.ct hr5.tct (by decide)).1, hr5.cts_frm f (by decide) (by intro t h z; omega), hr5.rest.frm f (by omega) (by omega) (by omega) (by omega) (by omega) (by intro t ht z; omega), hr5.tab.frm f (by omega) (by omega)⟩ (el_one ev_c) ?_ rfl
    · exact hs5.bids.imp fun i _ b' _ hb' r => by
        obtain ⟨bdx, la, pa, ba, va, r⟩ := r.frm f (by decide) (by omega)
        exact ⟨bdx, la, pa, ba, va, r.tg, r.at_, r.lots, r.prices, r.bidders, r.volumes⟩
    · refine ⟨ok.rule, ok.adv, ok.cd, ok.lotsLen, ok.lot, ok.bidsLen, fun b' hb' => ?_, ?_, fun x hx => ?_⟩
      · have o := ok.bid b' hb'
        exact ⟨o.lotsLt, o.lotsNd, o.lotsLen, o.prLen, o.prLe, o.bdLt, o.bdNd, o.bdLen⟩
      · show (s.limits.set b l).length = 16
        rw [List.length_set]
        exact ok.limLen
      · rcases List.mem_or_eq_of_mem_set hx with h | h
        · exact ok.limLe x h
        · omega
    · show (if 15 < b ∨ 12 < l then _ else withSale st _) = _
      rw [if_neg gg, with_some hsale]
      show (if acceptsBids st s = false then _ else _) = _
      rw [if_neg acc]
/-! ### withdraw_bid -/
def mk_num (f : Nat → Call) : Tg → Hp → List V → Call → Prop := fun _ _ args c => ∃ (n : Nat), args = [iN n] ∧ c = f n
theorem c_withdraw_bid (T : Txt K mg A) : C8.Cal P w K mg base 3 "withdraw_bid" (spOp A (mk_num .withdrawBid)) [] := by
  have c_is_over : C8.Cal P w K mg base 1 "is_over" (spV (R_is_over A)) [] := c_is_over T
  refine calOf T.d_withdraw_bid sc_withdraw_bid (fun _ _ _ _ _ _ us hl => match us, hl with | [_, _], _ => rfl) (fun vs H Q E h => ?_) (fun f cdv Ar outer s0 H vs Q E hr h => ?_)
  · obtain ⟨sa, τ, st, c, args, rfl, ⟨n, rfl, _⟩, _⟩ := h
    rfl
  · obtain ⟨sa, τ, st, c, args, rfl, ⟨n, rfl, rfl⟩, hst, k⟩ := h
    refine ⟨_, (pss_cons (ps_set (i := 2) sc_withdraw_bid.nd rfl (Or.inl rfl) (pe_fld (pv 0) rfl))
        (pss_cons (ps_if (PW.pt (pw_or (pt_cmpR op_isN (pv 2) pe_non (nomark _)) (pw_or1 (pt_cmpR op_ge (pv 1) (pe_callB call_len_seq (by rfl) T.b_len boot_len (pa_cons (pe_fld (pv 2) rfl) pa_nil)) (nomark _))))) (pss_one (ps_ret (pe_lst (pa_cons (pe_gi (by rfl) T.k_MISSING) pa_nil)))) pss_nil)
        (pss_cons (ps_if (pt_val (pe_fld (pe_ix ix_list (pe_fld (pv 2) rfl) (pv 1) (fun _ _ => rfl)) rfl)) (pss_one (ps_ret (pe_lst (pa_cons (pe_gi (by rfl) T.k_ALREADY_DONE) pa_nil)))) pss_nil)
        (pss_cons (ps_if (pt_val (pe_c c_is_over hr (by decide) (by rfl) (pa_cons (pv 0) pa_nil))) (pss_one (ps_ret (pe_lst (pa_cons (pe_gi (by rfl) T.k_NOT_POSSIBLE) pa_nil)))) pss_nil)
        (pss_cons (ps_fld (pe_ix ix_list (pe_fld (pv 2) rfl) (pv 1) (fun _ _ => rfl)) pe_bl rfl)
        (pss_one (ps_ret (pe_lst (pa_cons pe_int pa_nil))))))))), ?_⟩
    obtain ⟨dx, sv, ctA, cas, fl, das, bls, hr⟩ := id hst
    refine q_asg (ev_fld (ev_var rfl) hr.at_ T.cl_State T.n_State_sale lk_State_sale) fun H1 e1 => ?_
    cases hsale : st.sale with
    | none =>
      obtain rfl := hr.shut hsale
      refine q_when (et_none (ev_var rfl)) (fun _ H2 e2 => ?_) (fun hb => by cases hb)
      refine op_same k (e1.trans e2) hst (el_one ev_c) (is := [-3]) ?_ rfl
      show withSale st _ = _
      rw [with_none hsale]
    | some s =>
      obtain ⟨a, sdx, loA, bdA, liA, las, bas, rfl, hs, ok⟩ := hr.open_ hsale
      refine q_when (et_ref (ev_var rfl) (et_test (ev_op (ev_var rfl) (ev_len (K := K) (ev_fld (ev_var rfl) (e1 _ _ hs.at_) T.cl_Sale T.n_Sale_bids lk_Sale_bids) (sq_of (e1 _ _ hs.bd))) rv_I0))) (fun hb H2 e2 => ?_) (fun hb H2 e2 => ?_)
      · have := yes hb
        rw [rL_len, hs.bids.1] at this
        refine op_same k (e1.trans e2) hst (el_one ev_c) (is := [-3]) ?_ rfl
        show withSale st _ = _
        rw [with_some hsale]
        show (match s.bids[n]? with | none => _ | some bid => _) = _
        rw [List.getElem?_eq_none (by omega)]
        rfl
      have hn : n < s.bids.length := by
        have := no hb
        rw [rL_len, hs.bids.1] at this
        omega
      obtain ⟨b, hbd⟩ : ∃ b, s.bids[n]? = some b := ⟨_, List.getElem?_eq_getElem hn⟩
      obtain ⟨ba, hba, ⟨bdx, la, pa, bba, va, hbr⟩⟩ := hs.bids.get hbd
      have e12 := e1.trans e2
      have stp : ∀ {x}, (if b.withdrawn = true then (st, errorAlready) else if acceptsBids st s = false then (st, errorNotPossible) else ({ st with sale := some (s.withdraw n) }, [0])) = x → step st (.withdrawBid n) = x := fun {x} h => by
        show withSale st _ = _
        rw [with_some hsale]
        show (match s.bids[n]? with | none => _ | some bid => _) = _
        rw [hbd]
        exact h
      refine q_when (et_B (ev_fld (ev_ixL (K := K) (ev_fld (ev_var rfl) (e12 _ _ hs.at_) T.cl_Sale T.n_Sale_bids lk_Sale_bids) (ev_var rfl) (sq_of (e12 _ _ hs.bd)) (rL_get hba)) (e12 _ _ hbr.at_) T.cl_Bid T.n_Bid_withdrawn lk_Bid_withdrawn)) (fun hb H3 e3 => ?_) (fun hb H3 e3 => ?_)
      · refine op_same k (e12.trans e3) hst (el_one ev_c) (is := [-8]) (stp ?_) rfl
        rw [if_pos hb]
        rfl
      have e13 := e12.trans e3
      have nw : ¬ b.withdrawn = true := by rw [hb]; exact Bool.false_ne_true
      refine q_when (et_B (ev_callV (ea_cons (ev_var rfl) ea_nil) fun H4 e4 => ⟨sa, τ, st, s, rfl, hst.ex (e13.trans e4), hsale, rfl⟩)) (fun hb H4 e4 => ?_) (fun hb H4 e4 => ?_)
      · refine op_same k (e13.trans e4) hst (el_one ev_c) (is := [-4]) (stp ?_) rfl
        rw [if_neg nw, if_pos (by simpa using hb)]
        rfl
      have acc : ¬ acceptsBids st s = false := by simpa using hb
      have e := e13.trans e4
      refine q_fldV ev_c (ev_ixL (K := K) (ev_fld (ev_var rfl) (e _ _ hs.at_) T.cl_Sale T.n_Sale_bids lk_Sale_bids) (ev_var rfl) (sq_of (e _ _ hs.bd)) (rL_get hba)) (e _ _ hbr.at_) T.cl_Bid T.n_Bid_withdrawn (by show 7 < 1000; decide) fun H6 e6 => ?_
      rw [put_Bid_withdrawn]
      have e6' : Ex H H6 := e.trans e6
      have hr5 := hr.ex e6'
      have hs5 : SaleR A τ H6 a s sdx loA bdA liA las bas := hs.frm (S := fun _ => False) (.ex e6') (fun z => z) (fun z => z) (fun z => z) (fun z => z) fun _ _ z => z
      have hb5 := hbr.go (.ex e6') (ex_eq e6' hbr.at_)
      have f : Frm (fun t => t = 20 + n) τ H6 τ (upd H6 ba (.ins A.Bid bdx (fBid (.ref la) (.ref pa) (.ref bba) (.ref va) (iN (s.reserve b)) (iN (s.value b)) (.bl true)))) := .upd hb5.at_ hb5.tg
      have hn12 : n < 12 := Nat.lt_of_lt_of_le hn ok.bidsLen
      have kp := (Frm.ex (S := SK) (τ := τ) e6').trans (f.mono (sk_of (k := 20 + n) ⟨by omega, by omega, by omega⟩))
      have g0 := f.same hs5.at_ hs5.tg (by omega)
      have g1' := f.same hs5.lo hs5.tlo (by omega)
      have g2' := f.same hs5.bd hs5.tbd (by omega)
      have g3' := f.same hs5.li hs5.tli (by omega)
      have sb : s.bid n = b := bid_at hbd
      refine op_done (st' := { st with sale := some (s.withdraw n) }) (is := [0]) k kp ⟨dx, .ref a, ctA, cas, fl, das, bls, ⟨hr5.ok.day, hr5.ok.conLen, hr5.ok.con, hr5.ok.rest⟩, hr5.tg, (f.same hr5.at_ hr5.tg (by omega)).1, ⟨a, rfl, ⟨sdx, loA, bdA, liA, las, bas, g0.2, g0.1, g1'.2, g1'.1, hs5.lots.imp fun _ _ _ _ _ r => r.go (f.stp (by omega)), g2'.2, g2'.1, ?_, g3'.2, g3'.1⟩, ?_⟩, hr5.tct, (f.same hr5.ct hr5.tct (by omega)).1, hr5.cts_frm f (by omega) (by intro t h z; omega), hr5.rest.frm f (by omega) (by omega) (by omega) (by omega) (by omega) (by intro t ht z; omega), hr5.tab.frm f (by omega) (by omega)⟩ (el_one ev_c) (stp ?_) rfl
      · unfold Sale.withdraw
        refine ⟨by show bas.length = (s.bids.set n _).length; rw [List.length_set, hs5.bids.1], fun i a' b' ha' hb' => ?_⟩
        have hb' : (s.bids.set n { s.bid n with withdrawn := true })[i]? = some b' := hb'
        by_cases hi : i = n
        · subst hi
          rw [List.getElem?_set_self hn] at hb'
          cases hb'
          rw [hba] at ha'
          cases ha'
          rw [sb]
          exact ⟨bdx, la, pa, bba, va, hb5.tg, upd_same, hb5.lots.go (f.stp (by omega)), hb5.prices.go (f.stp (by omega)), hb5.bidders.go (f.stp (by omega)), hb5.volumes.go (f.stp (by omega))⟩
        · rw [List.getElem?_set_ne (Ne.symm hi)] at hb'
          obtain ⟨bdx', la', pa', ba', va', r⟩ := (hs5.bids.2 i a' b' ha' hb').frm f (by omega) (by omega)
          exact ⟨bdx', la', pa', ba', va', r.tg, r.at_, r.lots, r.prices, r.bidders, r.volumes⟩
      · unfold Sale.withdraw
        refine ⟨ok.rule, ok.adv, ok.cd, ok.lotsLen, ok.lot, ?_, fun b' hb' => ?_, ok.limLen, ok.limLe⟩
        · show (s.bids.set n _).length ≤ 12
          rw [List.length_set]
          exact ok.bidsLen
        · have key : ∀ b0 : Bid, BidOk s b0 → ∀ b1 : Bid, b1.lots = b0.lots → b1.prices = b0.prices → b1.bidders = b0.bidders → ∀ s1 : Sale, s1.lots = s.lots → BidOk s1 b1 := fun b0 o b1 h1 h2 h3 s1 h4 =>
            ⟨by rw [h1, h4]; exact o.lotsLt, by rw [h1]; exact o.lotsNd, by rw [h1]; exact o.lotsLen, by rw [h2]; exact o.prLen, by rw [h2]; exact o.prLe, by rw [h3]; exact o.bdLt, by rw [h3]; exact o.bdNd, by rw [h3]; exact o.bdLen⟩
          rcases List.mem_or_eq_of_mem_set hb' with h | h
          · exact key b' (ok.bid b' h) b' rfl rfl rfl _ rfl
          · rw [h, sb]
            exact key b (ok.bidAt hbd) ⟨b.lots, b.prices, b.bidders, true⟩ rfl rfl rfl { s with bids := s.bids.set n ⟨b.lots, b.prices, b.bidders, true⟩ } rfl
      · rw [if_neg nw, if_neg acc]
end
end TB

namespace TB
open PySem PySem.Spec PyProof.Rows L2 Evl TimberAuction TBM AuctionSpec
open C8 (pe_c pe_mk pe_mt pe_mt0)
section
variable {σ : L2.St} {H : Hp} {te : TE} {xs : List V} {R : List V → Hp → V → Prop} {E : XK} {z : V}
theorem ev_callL (h : EvL te σ H xs) (hr : ∀ p H1, Ex H H1 → H1 p = some (.lst xs) → R [.ref p] H1 z) : Ev (tCall (spV R) [] E (tCons te tNil)) σ H z := fun H1 e Q q =>
  h H1 e _ fun p H2 _ e2 hp => ⟨z, hr p H2 (e.trans e2) hp, fun H3 e3 => q H3 (e2.trans e3)⟩
end
theorem bidder_of {l : List Nat} (h : isBidderList l = true) : l.length ≤ 8 ∧ l.length % 2 = 0 ∧ 1 ≤ (pairsOf l).length ∧ (pairsOf l).length ≤ 4 ∧ ∀ e ∈ pairsOf l, e.1 < 16 ∧ 1 ≤ e.2 ∧ e.2 ≤ 1000 := by
  unfold isBidderList at h
  obtain ⟨h1, h2⟩ := (Bool.and_eq_true _ _).mp h
  have hlen : l.length = 2 ∨ l.length = 4 ∨ l.length = 6 ∨ l.length = 8 := by simpa using List.contains_iff_mem.mp h1
  have hp := pairs_len l
  refine ⟨by omega, by omega, by omega, by omega, fun e he => ?_⟩
  have := List.all_eq_true.mp h2 e he
  simp only [inRange, Bool.and_eq_true, decide_eq_true_eq] at this
  omega
section
variable {P : Program} {w : World} {K : PySem.W.Frag} {mg : Str → Option Value} {base : Heap} {A : Ad}
/-! ### place_bid -/
def mk_place_bid : Tg → Hp → List V → Call → Prop := fun τ H args c => ∃ (lp pp bp : Addr) (lots prices bidders : List Nat), args = [.ref lp, .ref pp, .ref bp] ∧ NumsAt τ H lp lots ∧ NumsAt τ H pp prices ∧ NumsAt τ H bp bidders ∧ lots.length ≤ 40 ∧ prices.length ≤ 40 ∧ bidders.length ≤ 40 ∧ c = .placeBid lots prices bidders
theorem c_place_bid (T : Txt K mg A) : C8.Cal P w K mg base 5 "place_bid" (spOp A mk_place_bid) [] := by
  have c_is_grade_row : C8.Cal P w K mg base 1 "is_grade_row" (spV R_is_grade_row) [] := c_is_grade_row T
  have c_is_bidder_row : C8.Cal P w K mg base 1 "is_bidder_row" (spV R_is_bidder_row) [] := c_is_bidder_row T
  have c_has_all : C8.Cal P w K mg base 1 "has_all" (spV R_has_all) [] := c_has_all T
  have c_has_repeats : C8.Cal P w K mg base 1 "has_repeats" (spV R_has_repeats) [] := c_has_repeats T
  have c_is_over : C8.Cal P w K mg base 1 "is_over" (spV (R_is_over A)) [] := c_is_over T
  have c_new_bid : C8.Cal P w K mg base 3 "new_bid" (spP (R_new_bid A)) [] := c_new_bid T
  refine calOf T.d_place_bid sc_place_bid (fun _ _ _ _ _ _ us hl => match us, hl with | [_, _, _, _], _ => rfl) (fun vs H Q E h => ?_) (fun f cdv Ar outer s0 H vs Q E hr h => ?_)
  · obtain ⟨sa, τ, st, c, args, rfl, ⟨lp, pp, bp, lots, prices, bidders, rfl, _⟩, _⟩ := h
    rfl
  · obtain ⟨sa, τ, st, c, args, rfl, ⟨lp, pp, bp, lots, prices, bidders, rfl, hlp, hpp, hbp, ll, lpr, lb, rfl⟩, hst, k⟩ := h
    refine ⟨_, (pss_cons (ps_set (i := 4) sc_place_bid.nd rfl (Or.inl rfl) (pe_fld (pv 0) rfl))
        (pss_cons (ps_if (PW.pt (pw_or (pt_cmpR op_eq (pe_callB call_len_seq (by rfl) T.b_len boot_len (pa_cons (pv 1) pa_nil)) pe_int (nomark _)) (pw_or1 (pt_cmpR op_gt (pe_callB call_len_seq (by rfl) T.b_len boot_len (pa_cons (pv 1) pa_nil)) (pe_gi (by rfl) T.k_MAX_LOTS) (nomark _))))) (pss_one (ps_ret (pe_lst (pa_cons (pe_gi (by rfl) T.k_OUT_OF_RANGE) pa_nil)))) pss_nil)
        (pss_cons (ps_if (PW.pt (pw_or (pt_not (pt_val (pe_c c_is_grade_row hr (by decide) (by rfl) (pa_cons (pv 2) (pa_cons (pe_gi (by rfl) T.k_MAX_PRICE) pa_nil))))) (pw_or1 (pt_not (pt_val (pe_c c_is_bidder_row hr (by decide) (by rfl) (pa_cons (pv 3) pa_nil))))))) (pss_one (ps_ret (pe_lst (pa_cons (pe_gi (by rfl) T.k_OUT_OF_RANGE) pa_nil)))) pss_nil)
        (pss_cons (ps_if (PW.pt (pw_or (pt_cmpR op_isN (pv 4) pe_non (nomark _)) (pw_or1 (pt_not (pt_val (pe_c c_has_all hr (by decide) (by rfl) (pa_cons (pv 1) (pa_cons (pe_callB call_len_seq (by rfl) T.b_len boot_len (pa_cons (pe_fld (pv 4) rfl) pa_nil)) pa_nil)))))))) (pss_one (ps_ret (pe_lst (pa_cons (pe_gi (by rfl) T.k_MISSING) pa_nil)))) pss_nil)
        (pss_cons (ps_if (PW.pt (pw_or (pt_val (pe_c c_has_repeats hr (by decide) (by rfl) (pa_cons (pv 1) pa_nil))) (pw_or (pt_val (pe_c c_has_repeats hr (by decide) (by rfl) (pa_cons (pe_slice2 (by decide) (pv 3)) pa_nil))) (pw_or1 (pt_val (pe_c c_is_over hr (by decide) (by rfl) (pa_cons (pv 0) pa_nil))))))) (pss_one (ps_ret (pe_lst (pa_cons (pe_gi (by rfl) T.k_NOT_POSSIBLE) pa_nil)))) pss_nil)
        (pss_cons (ps_if (pt_cmpR op_eq (pe_callB call_len_seq (by rfl) T.b_len boot_len (pa_cons (pe_fld (pv 4) rfl) pa_nil)) (pe_gi (by rfl) T.k_MAX_BIDS) (nomark _)) (pss_one (ps_ret (pe_lst (pa_cons (pe_gi (by rfl) T.k_FULL) pa_nil)))) pss_nil)
        (pss_cons (ps_expr (pe_bm PySem.F.plainAttrs_list PySem.F.slot_list_append PySem.F.type_list_append mt_append (pe_fld (pv 4) rfl) (pa_cons (pe_c c_new_bid hr (by decide) (by rfl) (pa_cons (pv 4) (pa_cons (pv 1) (pa_cons (pv 2) (pa_cons (pv 3) pa_nil))))) pa_nil)))
        (pss_one (ps_ret (pe_lst (pa_cons (pe_op op_sub (pe_callB call_len_seq (by rfl) T.b_len boot_len (pa_cons (pe_fld (pv 4) rfl) pa_nil)) pe_int) pa_nil))))))))))), ?_⟩
    obtain ⟨dx, sv, ctA, cas, fl, das, bls, hr⟩ := id hst
    refine q_asg (ev_fld (ev_var rfl) hr.at_ T.cl_State T.n_State_sale lk_State_sale) fun H1 e1 => ?_
    refine q_when (et_or (et_test (ev_op (ev_len (K := K) (ev_var rfl) (sq_of (e1 _ _ hlp.2))) ev_c (rv_eq rfl))) fun _ => et_test (ev_op (ev_len (K := K) (ev_var rfl) (sq_of (e1 _ _ hlp.2))) ev_c rv_I0)) (fun hb H2 e2 => ?_) (fun hb H2 e2 => ?_)
    · refine op_same k (e1.trans e2) hst (el_one ev_c) (is := [-1]) ?_ rfl
      show (if inRange 1 10 lots.length = false ∨ _ then _ else _) = _
      rw [if_pos]
      · rfl
      · left
        unfold inRange
        refine Bool.and_eq_false_iff.mpr ?_
        rcases or_yes hb with h | h
        · left
          have := V.int.inj (yes h)
          rw [iL_len] at this
          exact decide_eq_false (by omega)
        · right
          have := yes h
          rw [iL_len] at this
          exact decide_eq_false (by omega)
    obtain ⟨hb1, hb2⟩ := or_no hb
    have hl0 : ¬ lots.length = 0 := fun z => no hb1 (by rw [iL_len, z]; rfl)
    have hl10 := no hb2
    rw [iL_len] at hl10
    have g1 : inRange 1 10 lots.length = true := by
      unfold inRange
      exact (Bool.and_eq_true _ _).mpr ⟨decide_eq_true (by omega), decide_eq_true (by omega)⟩
    have e12 := e1.trans e2
    refine q_when (et_or (et_not (et_B (ev_callV (ea_cons (ev_var rfl) (ea_cons ev_c ea_nil)) fun H3 e3 => ⟨pp, prices, 1000000, rfl, (e12.trans e3) _ _ hpp.2, rfl⟩))) fun _ => et_not (et_B (ev_callV (ea_cons (ev_var rfl) ea_nil) fun H3 e3 => ⟨bp, bidders, rfl, (e12.trans e3) _ _ hbp.2, rfl⟩))) (fun hb H3 e3 => ?_) (fun hb H3 e3 => ?_)
    · refine op_same k (e12.trans e3) hst (el_one ev_c) (is := [-1]) ?_ rfl
      show (if inRange 1 10 lots.length = false ∨ inRange 1 10 prices.length = false ∨ allAtMost maxQuantity prices = false ∨ isBidderList bidders = false then _ else _) = _
      rw [if_pos]
      · rfl
      · right
        rcases or_yes hb with h | h
        · rw [Bool.not_eq_true'] at h
          rcases Bool.and_eq_false_iff.mp h with h | h
          · exact .inl h
          · exact .inr (.inl h)
        · rw [Bool.not_eq_true'] at h
          exact .inr (.inr h)
    obtain ⟨hb1, hb2⟩ := or_no hb
    rw [Bool.not_eq_false'] at hb1 hb2
    obtain ⟨g2, g3⟩ := (Bool.and_eq_true _ _).mp hb1
    have gg : ¬ (inRange 1 10 lots.length = false ∨ inRange 1 10 prices.length = false ∨ allAtMost maxQuantity prices = false ∨ isBidderList bidders = false) := by
      unfold maxQuantity
      rw [g1, g2, g3, hb2]
      rintro (h | h | h | h) <;> cases h
    obtain ⟨b1, b2, b3, b4, b5⟩ := bidder_of hb2
    have e13 := e12.trans e3
    have stp0 : ∀ {x}, withSale st (fun (sale : Sale) => if (lots.any fun (lot : Nat) => decide (sale.lots.length ≤ lot)) = true then (st, errorNotFound) else
      if hasDuplicates lots = true ∨ hasDuplicates ((pairsOf bidders).map fun (entry : Nat × Nat) => entry.1) = true ∨ acceptsBids st sale = false then (st, errorNotPossible) else if 12 ≤ sale.bids.length then (st, errorCapacity) else
      ({ st with sale := some { sale with bids := sale.bids ++ [⟨lots, byGrade prices, pairsOf bidders, false⟩] } }, [(sale.bids.length : Int)])) = x → step st (.placeBid lots prices bidders) = x := fun {x} h => by
        show (if inRange 1 10 lots.length = false ∨ inRange 1 10 prices.length = false ∨ allAtMost maxQuantity prices = false ∨ isBidderList bidders = false then _ else _) = _
        rw [if_neg gg]
        exact h
    cases hsale : st.sale with
    | none =>
      obtain rfl := hr.shut hsale
      refine q_when (et_none (ev_var rfl)) (fun _ H4 e4 => ?_) (fun hb => by cases hb)
      exact op_same k (e13.trans e4) hst (el_one ev_c) (is := [-3]) (stp0 (with_none hsale)) rfl
    | some s =>
      obtain ⟨a, sdx, loA, bdA, liA, las, bas, rfl, hs, ok⟩ := hr.open_ hsale
      refine q_when (et_ref (ev_var rfl) (et_not (et_B (ev_callV (ea_cons (ev_var rfl) (ea_cons (ev_is (ev_len (K := K) (ev_fld (ev_var rfl) (e13 _ _ hs.at_) T.cl_Sale T.n_Sale_lots lk_Sale_lots) (sq_of (e13 _ _ hs.lo))) (show V.int ((rL las).length : Int) = iN s.lots.length by rw [rL_len, hs.lots.1]; rfl)) ea_nil)) fun H4 e4 => ⟨lp, lots, s.lots.length, rfl, (e13.trans e4) _ _ hlp.2, by omega, rfl⟩)))) (fun hb H4 e4 => ?_) (fun hb H4 e4 => ?_)
      · refine op_same k (e13.trans e4) hst (el_one ev_c) (is := [-3]) (stp0 ?_) rfl
        rw [with_some hsale]
        show (if (lots.any fun (lot : Nat) => decide (s.lots.length ≤ lot)) = true then _ else _) = _
        rw [if_pos (by simpa using hb)]
        rfl
      have hany : (lots.any fun (lot : Nat) => decide (s.lots.length ≤ lot)) = false := by
        rw [Bool.not_eq_false'] at hb
        rw [Bool.not_eq_true'] at hb
        exact hb
      have hlt : ∀ n ∈ lots, n < s.lots.length := fun n hn => by
        have := List.any_eq_false.mp hany n hn
        simpa using this
      have e14 := e13.trans e4
      obtain ⟨hev1, hev2⟩ := evens_pairs bidders b2
      have stp1 : ∀ {x}, (if hasDuplicates lots = true ∨ hasDuplicates ((pairsOf bidders).map fun (entry : Nat × Nat) => entry.1) = true ∨ acceptsBids st s = false then (st, errorNotPossible) else if 12 ≤ s.bids.length then (st, errorCapacity) else
        ({ st with sale := some { s with bids := s.bids ++ [⟨lots, byGrade prices, pairsOf bidders, false⟩] } }, [(s.bids.length : Int)])) = x → step st (.placeBid lots prices bidders) = x := fun {x} h => stp0 (by
          rw [with_some hsale]
          show (if (lots.any fun (lot : Nat) => decide (s.lots.length ≤ lot)) = true then _ else _) = _
          rw [if_neg (by rw [hany]; exact Bool.false_ne_true)]
          exact h)
      refine q_when (et_or (et_B (ev_callV (ea_cons (ev_var rfl) ea_nil) fun H5 e5 => ⟨lp, lots, rfl, (e14.trans e5) _ _ hlp.2, by omega, rfl⟩)) fun _ => et_or (b := !acceptsBids st s) (et_B (ev_callL (el_sl2 (K := K) (ev_var rfl) (sq_of (e14 _ _ hbp.2))) fun p H5 e5 hp => ⟨p, (pairsOf bidders).map (·.1), rfl, by rw [hp, show (0 : Int).toNat = 0 from rfl, evens_iL, List.drop_zero, ← hev1], by rw [List.length_map]; omega, rfl⟩)) fun _ => et_B (ev_callV (ea_cons (ev_var rfl) ea_nil) fun H5 e5 => ⟨sa, τ, st, s, rfl, hst.ex (e14.trans e5), hsale, rfl⟩)) (fun hb H5 e5 => ?_) (fun hb H5 e5 => ?_)
      · refine op_same k (e14.trans e5) hst (el_one ev_c) (is := [-4]) (stp1 ?_) rfl
        rw [if_pos]
        · rfl
        · rcases or_yes hb with h | h
          · exact .inl h
          · rcases or_yes h with h | h
            · exact .inr (.inl h)
            · exact .inr (.inr (by simpa using h))
      obtain ⟨d1, hb2'⟩ := or_no hb
      obtain ⟨d2, hb3'⟩ := or_no hb2'
      have acc : acceptsBids st s = true := by simpa using hb3'
      have g4 : ¬ (hasDuplicates lots = true ∨ hasDuplicates ((pairsOf bidders).map fun (entry : Nat × Nat) => entry.1) = true ∨ acceptsBids st s = false) := by
        rw [d1, acc]
        rintro (h | h | h)
        · cases h
        · rw [d2] at h
          cases h
        · cases h
      have e15 := e14.trans e5
      refine q_when (et_test (ev_op (ev_len (K := K) (ev_fld (ev_var rfl) (e15 _ _ hs.at_) T.cl_Sale T.n_Sale_bids lk_Sale_bids) (sq_of (e15 _ _ hs.bd))) ev_c (rv_eq rfl))) (fun hb H6 e6 => ?_) (fun hb H6 e6 => ?_)
      · refine op_same k (e15.trans e6) hst (el_one ev_c) (is := [-9]) (stp1 ?_) rfl
        have := V.int.inj (yes hb)
        rw [rL_len, hs.bids.1] at this
        rw [if_neg g4, if_pos (by omega)]
        rfl
      have g5 : ¬ 12 ≤ s.bids.length := by
        intro z
        refine no hb ?_
        have := ok.bidsLen
        rw [rL_len, hs.bids.1]
        show V.int _ = V.int _
        rw [show s.bids.length = 12 by omega]
        rfl
      have e16 := e15.trans e6
      refine q_appN (l := bdA) (xs := rL bas) (P := fun H0 v H7 => ∃ x bdx pq bq va Ts, v = .ref x ∧ NewBid A s H0 H7 x bdx lp pq bq va Ts lots prices bidders) (e16 _ _ hs.bd) (ev_fld (ev_var rfl) (e16 _ _ hs.at_) T.cl_Sale T.n_Sale_bids lk_Sale_bids)
        (fun H7 e7 Q' q' => call_run (cons_run (var_run rfl (cons_run (var_run rfl (cons_run (var_run rfl (cons_run (var_run rfl (nil_run ⟨_, ⟨a, τ, s, lp, pp, bp, lots, prices, bidders, rfl, SaleAt.ex ⟨sdx, loA, bdA, liA, las, bas, hs⟩ (e16.trans e7), ok, (e16.trans e7) _ _ hlp.2, (e16.trans e7) _ _ hpp.2, (e16.trans e7) _ _ hbp.2, hlt, by omega, ?_, all_mem g3, b1, b2, rfl⟩, fun v H8 e8 hv => q' v H8 e8 hv⟩)))))))))) (by rw [rL_len, hs.bids.1]; omega) ?_
      · unfold inRange at g2
        exact of_decide_eq_true ((Bool.and_eq_true _ _).mp g2).2
      · rintro v H0 H7 e7 e8 ⟨x, bdx, pq, bq, va, Ts, rfl, nb⟩
        have e0 : Ex H H0 := e16.trans e7
        have e : Ex H H7 := e0.trans e8
        let ft : Tg := fun b => if b = x then 20 + s.bids.length else 0
        have fN : Frm SK τ H (newTag τ H ft) H7 := .exN e
        have hr5 : StR A (newTag τ H ft) H7 sa st dx (.ref a) ctA cas fl das bls := hr.frm (S := fun _ => False) (.exN e) fun _ _ z => z
        have hs5 : SaleR A (newTag τ H ft) H7 a s sdx loA bdA liA las bas := hs.frm (S := fun _ => False) (.exN e) (fun z => z) (fun z => z) (fun z => z) (fun z => z) fun _ _ z => z
        have f : Frm (fun t => t = 2) (newTag τ H ft) H7 (newTag τ H ft) (upd H7 bdA (.lst (rL bas ++ [.ref x]))) := .upd hs5.bd hs5.tbd
        have kp := fN.trans (f.mono (sk_of (k := 2) (by decide)))
        have up : ∀ p o, H0 p = none → H7 p = some o → (upd H7 bdA (.lst (rL bas ++ [.ref x]))) p = some o := fun p o n h => by
          rw [upd_ne (fun z => by rw [z, e0 _ _ hs.bd] at n; cases n)]
          exact h
        have tg0 : ∀ p o, H0 p = none → H7 p = some o → (∀ b c d, o ≠ .ins b c d) → (newTag τ H ft) p = 0 := fun p o n h no => by
          rw [newTag_new (fresh_back e0 n)]
          show (if p = x then _ else _) = 0
          rw [if_neg]
          intro z
          rw [z, nb.at_] at h
          cases h
          exact no _ _ _ rfl
        have g0 := f.same hs5.at_ hs5.tg (by decide)
        have g1' := f.same hs5.lo hs5.tlo (by decide)
        have g3' := f.same hs5.li hs5.tli (by decide)
        have hlp7 := (hlp.go (Frm.stp (S := fun _ => False) (Frm.exN (f := ft) e) fun z => z)).go (f.stp (by decide))
        refine op_done (st' := { st with sale := some { s with bids := s.bids ++ [⟨lots, byGrade prices, pairsOf bidders, false⟩] } }) (is := [(s.bids.length : Int)]) k kp ⟨dx, .ref a, ctA, cas, fl, das, bls, ⟨hr5.ok.day, hr5.ok.conLen, hr5.ok.con, hr5.ok.rest⟩, hr5.tg, (f.same hr5.at_ hr5.tg (by decide)).1, ⟨a, rfl, ⟨sdx, loA, bdA, liA, las, bas ++ [x], g0.2, g0.1, g1'.2, g1'.1, hs5.lots.imp fun _ _ _ _ _ r => r.go (f.stp (by decide)), hs5.tbd, ?_, ?_, g3'.2, g3'.1⟩, ?_⟩, hr5.tct, (f.same hr5.ct hr5.tct (by decide)).1, hr5.cts_frm f (by decide) (by intro t h z; omega), hr5.rest.frm f (by omega) (by omega) (by omega) (by omega) (by omega) (by intro t ht z; omega), hr5.tab.frm f (by omega) (by omega)⟩
          (el_one (ev_op (ev_len (K := K) (ev_fld (ev_var rfl) g0.1 T.cl_Sale T.n_Sale_bids lk_Sale_bids) (sq_of upd_same)) ev_c rv_I0)) (stp1 ?_) ?_
        · rw [upd_same]
          unfold rL
          rw [List.map_append]
          rfl
        · refine All2.snoc (hs5.bids.imp fun i _ _ _ _ r => ?_) ⟨bdx, lp, pq, bq, va, ?_, up _ _ nb.nx nb.at_, hlp7, ⟨tg0 _ _ nb.npq nb.pq (by intro _ _ _ z; cases z), up _ _ nb.npq nb.pq⟩, ⟨Ts, tg0 _ _ nb.nbq nb.bq (by intro _ _ _ z; cases z), up _ _ nb.nbq nb.bq, nb.Ts.1, fun i t p ht hp => ?_⟩, ⟨tg0 _ _ nb.nva nb.va (by intro _ _ _ z; cases z), up _ _ nb.nva nb.va⟩⟩
          · obtain ⟨bdx', la', pa', ba', va', r⟩ := r.frm f (by decide) (by omega)
            exact ⟨bdx', la', pa', ba', va', r.tg, r.at_, r.lots, r.prices, r.bidders, r.volumes⟩
          · rw [newTag_new (fresh_back e0 nb.nx), hs5.bids.1]
            exact if_pos rfl
          · have h := nb.Ts.2 i t p ht hp
            have n := nb.nT t (List.mem_of_getElem? ht)
            exact ⟨tg0 _ _ n h (by intro _ _ _ z; cases z), up _ _ n h⟩
        · refine ⟨ok.rule, ok.adv, ok.cd, ok.lotsLen, ok.lot, ?_, fun b' hb' => ?_, ok.limLen, ok.limLe⟩
          · show (s.bids ++ [_]).length ≤ 12
            rw [List.length_append]
            show s.bids.length + 1 ≤ 12
            omega
          · rcases List.mem_append.mp hb' with h | h
            · have o := ok.bid b' h
              exact ⟨o.lotsLt, o.lotsNd, o.lotsLen, o.prLen, o.prLe, o.bdLt, o.bdNd, o.bdLen⟩
            · rw [List.mem_singleton.mp h]
              refine ⟨hlt, ?_, ⟨by show 1 ≤ lots.length; omega, by show lots.length ≤ 10; omega⟩, grade_len _, byGrade_le (all_mem g3), b5, ?_, b3, b4⟩
              · exact Classical.byContradiction fun z => by
                  have := (hasDup_iff lots).mpr z
                  rw [d1] at this
                  cases this
              · exact Classical.byContradiction fun z => by
                  have := (hasDup_iff ((pairsOf bidders).map (·.1))).mpr z
                  rw [d2] at this
                  cases this
        · rw [if_neg g4, if_neg g5]
        · rw [List.length_append, rL_len, hs.bids.1]
          show [V.int _] = [V.int _]
          congr 2
          show ((s.bids.length + 1 : Nat) : Int) - 1 = _
          omega
end
end TB

namespace TB
open PySem PySem.Spec PyProof.Rows L2 Evl TimberAuction TBM AuctionSpec
open C8 (pe_c pe_mk pe_mt pe_mt0)
section
variable {K : PySem.W.Frag} {σ : L2.St} {H : Hp} {ta tb te : TE} {xs ys : List V} {x z : V} {D : Ends} {u : TS}
theorem el_catN (ha : EvL ta σ H xs) (hb : EvN tb σ H fun _ v H2 => ∃ q, v = .ref q ∧ H2 q = some (.lst ys)) (hz : xs.length + ys.length ≤ 100000) : EvL (tOp rCat ta tb) σ H (xs ++ ys) := fun H1 e Q q =>
  ha H1 e _ fun p H2 hp e2 h2 => hb H2 (e.trans e2) _ fun v H3 e3 ⟨b, hv, h3⟩ => ⟨p, b, xs, ys, rfl, hv, e3 _ _ h2, h3, sz_of hz, fun r hr => q r _ (fresh_back (e2.trans e3) hr) ((e2.trans e3).trans (Ex.new hr)) upd_same⟩
theorem en_fld {P : Hp → V → Hp → Prop} {P' : Hp → V → Hp → Prop} {f : Str} (h : EvN ta σ H P) (k : ∀ v H0 H1, Ex H H0 → P H0 v H1 → ∃ a C dx fs y, v = .ref a ∧ H1 a = some (.ins C dx fs) ∧ Cls K C ∧ NoAttr K C f ∧ fs.lookup f = some y ∧ P' H0 y H1) : EvN (tFld K ta f) σ H P' := fun H1 e Q q =>
  h H1 e _ fun v H2 e2 p => by
    obtain ⟨a, C, dx, fs, y, h1, h2, h3, h4, h5, h6⟩ := k v H1 H2 e p
    exact ⟨a, C, dx, fs, y, h1, h2, h3, h4, h5, q y H2 e2 h6⟩
theorem en_ev (h : Ev te σ H x) : EvN te σ H fun _ v _ => v = x := fun H1 e Q q => h H1 e _ fun H2 e2 => q x H2 e2 rfl
theorem en_call {R : List V → Hp → (V → Hp → Prop) → Prop} {E : XK} {t : TA} {vs : List V} {Pz : V → Hp → Prop} (h : EvA t σ H vs) (hr : ∀ H1, Ex H H1 → R vs H1 Pz) : EvN (tCall (spP R) [] E t) σ H fun _ v H2 => Pz v H2 := fun H1 e Q q =>
  h H1 e _ fun H2 e2 => ⟨Pz, by rw [List.append_nil]; exact hr H2 (e.trans e2), fun v H3 e3 p => q v H3 (e2.trans e3) p⟩
theorem en_callX {R : List V → Hp → (V → Hp → Prop) → Prop} {E : XK} {t : TA} {vs : List V} {P : Hp → V → Hp → Prop} (h : EvA t σ H vs) (hr : ∀ H0 H1, Ex H H0 → Ex H0 H1 → ∃ Pz, R vs H1 Pz ∧ ∀ v H2, Ex H1 H2 → Pz v H2 → P H0 v H2) : EvN (tCall (spP R) [] E t) σ H P := fun H1 e Q q =>
  h H1 e _ fun H2 e2 => by
    obtain ⟨Pz, h1, h2⟩ := hr H1 H2 e e2
    exact ⟨Pz, by rw [List.append_nil]; exact h1, fun v H3 e3 p => q v H3 (e2.trans e3) (h2 v H3 e3 p)⟩
theorem en_call1 {R : List V → Hp → (V → Hp → Prop) → Prop} {E : XK} {P : Hp → V → Hp → Prop} {Pz : V → Hp → Prop} (h : EvN te σ H P) (hr : ∀ v H0 H1, Ex H H0 → Ex H0 H1 → P H0 v H1 → R [v] H1 Pz) : EvN (tCall (spP R) [] E (tCons te tNil)) σ H fun _ v H2 => Pz v H2 := fun H1 e Q q =>
  h H1 e _ fun v H2 e2 p => ⟨Pz, hr v H1 H2 e e2 p, fun w H3 e3 g => q w H3 (e2.trans e3) g⟩
theorem ev_opN {r : R2} {P : Hp → V → Hp → Prop} (ha : Ev ta σ H x) (hb : EvN tb σ H P) (hr : ∀ v H0 H1, Ex H H0 → Ex H0 H1 → P H0 v H1 → RV r x v H1 z) : Ev (tOp r ta tb) σ H z := fun H1 e Q q =>
  ha H1 e _ fun H2 e2 => hb H2 (e.trans e2) _ fun v H3 e3 p => hr v H2 H3 (e.trans e2) e3 p H3 (Ex.refl _) Q fun H4 e4 => q H4 ((e2.trans e3).trans e4)
theorem s_ext {l : Addr} (hl : H l = some (.lst xs)) (ha : Ev ta σ H (.ref l)) (h : EvL te σ H ys) (hz : xs.length + ys.length ≤ 100000) (k : ∀ H1, Ex H H1 → D.nx σ (upd H1 l (.lst (xs ++ ys)))) : tDrop (tBM K "list" rExtend ta (tCons te tNil)) D σ H :=
  ha H (Ex.refl H) _ fun H1 e1 => ⟨Or.inl ⟨rfl, xs, sq_of (e1 l _ hl)⟩, h H1 e1 _ fun p H2 np e2 hp => ⟨l, p, xs, ys, rfl, rfl, (e1.trans e2) l _ hl, hp, sz_of hz, k H2 (e1.trans e2)⟩⟩
theorem s_extK {l b : Addr} (hl : H l = some (.lst xs)) (hb : H b = some (.lst ys)) (ha : Ev ta σ H (.ref l)) (h : Ev te σ H (.ref b)) (hz : xs.length + ys.length ≤ sizeLine) (k : ∀ H1, Ex H H1 → D.nx σ (upd H1 l (.lst (xs ++ ys)))) : tDrop (tBM K "list" rExtend ta (tCons te tNil)) D σ H :=
  ha H (Ex.refl H) _ fun H1 e1 => ⟨Or.inl ⟨rfl, xs, sq_of (e1 l _ hl)⟩, h H1 e1 _ fun H2 e2 => ⟨l, b, xs, ys, rfl, rfl, (e1.trans e2) l _ hl, (e1.trans e2) b _ hb, hz, k H2 (e1.trans e2)⟩⟩
theorem q_asgN {P : Hp → V → Hp → Prop} {i : Nat} (h : EvN te σ H P) (k : ∀ v H1, Ex H H1 → P H v H1 → u D (σ.set i (some v)) H1) : tSeq (tAsg te (gName i)) u D σ H := h H (Ex.refl H) _ fun v H1 e p => k v H1 e p
end
section
variable {P : Program} {w : World} {K : PySem.W.Frag} {mg : Str → Option Value} {base : Heap} {A : Ad}
/-! ### list_bids -/
def mk_none (c0 : Call) : Tg → Hp → List V → Call → Prop := fun _ _ args c => args = [] ∧ c = c0
def bidRow (s : Sale) (b : Bid) : List Int := [(s.value b : Int), if b.withdrawn = true then 1 else 0, if s.isAdmissible b = true then 1 else 0]
theorem flat_len (s : Sale) (l : List Bid) : (l.flatMap (bidRow s)).length = 3 * l.length := by
  induction l with
  | nil => rfl
  | cons b l ih =>
    rw [List.flatMap_cons, List.length_append, ih]
    show 3 + 3 * l.length = 3 * (l.length + 1)
    omega
theorem c_list_bids (T : Txt K mg A) : C8.Cal P w K mg base 3 "list_bids" (spOp A (mk_none .listBids)) [] := by
  have c_is_over : C8.Cal P w K mg base 1 "is_over" (spV (R_is_over A)) [] := c_is_over T
  have c_is_admissible : C8.Cal P w K mg base 1 "is_admissible" (spV (R_is_admissible A)) [] := c_is_admissible T
  refine calOf T.d_list_bids sc_list_bids (fun _ _ _ _ _ _ us hl => match us, hl with | [_], _ => rfl) (fun vs H Q E h => ?_) (fun f cdv Ar outer s0 H vs Q E hr h => ?_)
  · obtain ⟨sa, τ, st, c, args, rfl, ⟨rfl, _⟩, _⟩ := h
    rfl
  · obtain ⟨sa, τ, st, c, args, rfl, ⟨rfl, rfl⟩, hst, k⟩ := h
    refine ⟨_, (pss_cons (ps_if (pt_cmpR op_isN (pe_fld (pv 0) rfl) pe_non (nomark _)) (pss_one (ps_ret (pe_lst (pa_cons (pe_gi (by rfl) T.k_MISSING) pa_nil)))) pss_nil)
        (pss_cons (ps_if (pt_not (pt_val (pe_c c_is_over hr (by decide) (by rfl) (pa_cons (pv 0) pa_nil)))) (pss_one (ps_ret (pe_lst (pa_cons (pe_gi (by rfl) T.k_NOT_POSSIBLE) pa_nil)))) pss_nil)
        (pss_cons (ps_set (i := 1) sc_list_bids.nd rfl (Or.inl rfl) (pe_lst (pa_cons (pe_callB call_len_seq (by rfl) T.b_len boot_len (pa_cons (pe_fld (pe_fld (pv 0) rfl) rfl) pa_nil)) pa_nil)))
        (pss_cons (ps_for PassesOwn.never rfl (pi_list (pe_fld (pe_fld (pv 0) rfl) rfl)) (pg_name (i := 2) sc_list_bids.nd rfl (Or.inl rfl)) (pss_one (ps_expr (pe_bm PySem.F.plainAttrs_list PySem.F.slot_list_extend PySem.F.type_list_extend mt_extend (pv 1) (pa_cons (pe_lst (pa_cons (pe_fld (pv 2) rfl) (pa_cons (pe_ifExp (pt_val (pe_fld (pv 2) rfl)) pe_int pe_int) (pa_cons (pe_ifExp (pt_val (pe_c c_is_admissible hr (by decide) (by rfl) (pa_cons (pv 2) pa_nil))) pe_int pe_int) pa_nil)))) pa_nil)))))
        (pss_one (ps_ret (pv 1))))))), ?_⟩
    obtain ⟨dx, sv, ctA, cas, fl, das, bls, hr⟩ := id hst
    refine q_when (et_isN (ev_fld (ev_var rfl) hr.at_ T.cl_State T.n_State_sale lk_State_sale)) (fun hb H1 e1 => ?_) (fun hb H1 e1 => ?_)
    · exact op_same k e1 hst (el_one ev_c) (is := [-3]) (with_none (hr.sale.non (yes hb))) rfl
    obtain ⟨a, s, hsale, rfl, ⟨sdx, loA, bdA, liA, las, bas, hs⟩, ok⟩ := hr.sale.is (no hb)
    refine q_when (et_not (et_B (ev_callV (ea_cons (ev_var rfl) ea_nil) fun H2 e2 => ⟨sa, τ, st, s, rfl, hst.ex (e1.trans e2), hsale, rfl⟩))) (fun hb H2 e2 => ?_) (fun hb H2 e2 => ?_)
    · refine op_same k (e1.trans e2) hst (el_one ev_c) (is := [-4]) ?_ rfl
      show withSale st _ = _
      rw [with_some hsale]
      show (if acceptsBids st s = true then _ else _) = _
      rw [if_pos (by simpa using hb)]
      rfl
    have acc : ¬ acceptsBids st s = true := by simpa using hb
    have e : Ex H H2 := e1.trans e2
    refine q_asgL (el_one (ev_len (K := K) (ev_fld (ev_fld (ev_var rfl) (e _ _ hr.at_) T.cl_State T.n_State_sale lk_State_sale) (e _ _ hs.at_) T.cl_Sale T.n_Sale_bids lk_Sale_bids) (sq_of (e _ _ hs.bd)))) fun p H3 np e3 hp => ?_
    have np0 : H p = none := fresh_back e np
    have hlb := ok.bidsLen
    refine q_forLn (xs := rL bas) (ev_fld (ev_fld (ev_var rfl) ((e.trans e3) _ _ hr.at_) T.cl_State T.n_State_sale lk_State_sale) ((e.trans e3) _ _ hs.at_) T.cl_Sale T.n_Sale_bids lk_Sale_bids) (sq_of ((e.trans e3) _ _ hs.bd))
      (fun i σ' H' => ∃ y2, σ' = [some (.ref sa), some (.ref p), y2] ∧ Ex H H' ∧ H' p = some (.lst (((s.bids.length : Int) :: (s.bids.take i).flatMap (bidRow s)).map V.int))) (fun H4 e4 => ⟨none, rfl, (e.trans e3).trans e4, ?_⟩) (fun i σ' H' _ ⟨_, _, e, _⟩ => ex_l e (sq_of hs.bd)) ?_ ?_
    · rw [e4 _ _ hp, rL_len, hs.bids.1]
      rfl
    · rintro i x σ' H4 hx ⟨y2, rfl, e4, h4⟩
      obtain ⟨ba, hba, rfl⟩ := rL_inv hx
      obtain ⟨b, hb, hbat⟩ := hs.bids.getL hba
      have hi : i < s.bids.length := (List.getElem?_eq_some_iff.mp hb).1
      obtain ⟨bdx, la, pa, bba, va, hbr⟩ := hbat.ex e4
      have hb5 := hbr.at_
      refine s_ext (xs := ((s.bids.length : Int) :: (s.bids.take i).flatMap (bidRow s)).map V.int) (ys := (bidRow s b).map V.int) h4 (ev_var rfl) (el_lst (ea_cons (ev_fld (ev_var rfl) hb5 T.cl_Bid T.n_Bid_value lk_Bid_value) (ea_cons (x := .int (if b.withdrawn = true then 1 else 0)) (ev_if (et_B (ev_fld (ev_var rfl) hb5 T.cl_Bid T.n_Bid_withdrawn lk_Bid_withdrawn)) (fun h => ev_is ev_c (by rw [if_pos h])) (fun h => ev_is ev_c (by rw [if_neg (by rw [h]; exact Bool.false_ne_true)]))) (ea_cons (x := .int (if s.isAdmissible b = true then 1 else 0)) (ev_if (et_B (b := s.isAdmissible b) (ev_callV (ea_cons (ev_var rfl) ea_nil) fun H6 e6 => ⟨ba, τ, s, i, b, rfl, hbat.ex (e4.trans e6), rfl⟩)) (fun h => ev_is ev_c (by rw [if_pos h])) (fun h => ev_is ev_c (by rw [if_neg (by rw [h]; exact Bool.false_ne_true)]))) ea_nil))) (by show 3 ≤ 100000; decide)) ?_ fun H6 e6 => nx_run ⟨_, rfl, (e4.trans e6).mut np0, ?_⟩
      · rw [List.length_map, List.length_cons, flat_len, List.length_take]
        show _ + 3 ≤ _
        omega
      · rw [upd_same, take_snoc hb, List.flatMap_append, ← List.cons_append, List.map_append]
        rfl
    · rintro σ' H4 ⟨y2, rfl, e4, h4⟩
      refine rt_ret (ev_var rfl) fun H5 e5 => ?_
      refine k τ H5 p (.ex (e4.trans e5)) ?_ np0 ?_
      · rw [show step st .listBids = (st, _) from (with_some hsale).trans (if_neg acc)]
        exact hst.ex (e4.trans e5)
      · rw [show step st .listBids = (st, _) from (with_some hsale).trans (if_neg acc), e5 _ _ h4, rL_len, hs.bids.1, List.take_length]
        rfl
end
end TB

namespace TB
open PySem PySem.Spec PyProof.Rows L2 Evl TimberAuction TBM AuctionSpec
open C8 (pe_c pe_mk pe_mt pe_mt0)
section
variable {K : PySem.W.Frag} {σ : L2.St} {H : Hp} {ta tb te : TE} {xs ys : List V}
/-- a new list and one that stands in a field of a new object -/
theorem el_catF {P : Hp → V → Hp → Prop} (ha : EvL ta σ H xs) (hb : EvN tb σ H fun _ v H2 => ∃ q, v = .ref q ∧ H2 q = some (.lst ys)) (hz : xs.length + ys.length ≤ 100000) : EvL (tOp rCat ta tb) σ H (xs ++ ys) := el_catN ha hb hz
theorem not_any {l : List Nat} {n : Nat} (h : (!(l.any fun (x : Nat) => decide (n ≤ x))) = true) : (l.any fun (x : Nat) => decide (n ≤ x)) = false ∧ ∀ x ∈ l, x < n := by
  rw [Bool.not_eq_true'] at h
  refine ⟨h, fun x hx => ?_⟩
  have := List.any_eq_false.mp h x hx
  simpa using this
end
section
variable {P : Program} {w : World} {K : PySem.W.Frag} {mg : Str → Option Value} {base : Heap} {A : Ad}
/-! ### check_selection -/
def mk_nums (f : List Nat → Call) : Tg → Hp → List V → Call → Prop := fun τ H args c => ∃ (np : Addr) (l : List Nat), args = [.ref np] ∧ NumsAt τ H np l ∧ l.length ≤ 40 ∧ c = f l
theorem c_check_selection (T : Txt K mg A) : C8.Cal P w K mg base 6 "check_selection" (spOp A (mk_nums .checkSelection)) [] := by
  have c_is_over : C8.Cal P w K mg base 1 "is_over" (spV (R_is_over A)) [] := c_is_over T
  have c_has_all : C8.Cal P w K mg base 1 "has_all" (spV R_has_all) [] := c_has_all T
  have c_has_repeats : C8.Cal P w K mg base 1 "has_repeats" (spV R_has_repeats) [] := c_has_repeats T
  have c_status_and_detail : C8.Cal P w K mg base 4 "status_and_detail" (spP (R_status_and_detail A)) [] := c_status_and_detail T
  refine calOf T.d_check_selection sc_check_selection (fun _ _ _ _ _ _ us hl => match us, hl with | [_, _], _ => rfl) (fun vs H Q E h => ?_) (fun f cdv Ar outer s0 H vs Q E hr h => ?_)
  · obtain ⟨sa, τ, st, c, args, rfl, ⟨np, l, rfl, _⟩, _⟩ := h
    rfl
  · obtain ⟨sa, τ, st, c, args, rfl, ⟨np, l, rfl, hnp, hll, rfl⟩, hst, k⟩ := h
    refine ⟨_, (pss_cons (ps_if (pt_cmpR op_gt (pe_callB call_len_seq (by rfl) T.b_len boot_len (pa_cons (pv 1) pa_nil)) (pe_gi (by rfl) T.k_MAX_BIDS) (nomark _)) (pss_one (ps_ret (pe_lst (pa_cons (pe_gi (by rfl) T.k_OUT_OF_RANGE) pa_nil)))) pss_nil)
        (pss_cons (ps_if (PW.pt (pw_or (pt_cmpR op_isN (pe_fld (pv 0) rfl) pe_non (nomark _)) (pw_or1 (pt_not (pt_val (pe_c c_has_all hr (by decide) (by rfl) (pa_cons (pv 1) (pa_cons (pe_callB call_len_seq (by rfl) T.b_len boot_len (pa_cons (pe_fld (pe_fld (pv 0) rfl) rfl) pa_nil)) pa_nil)))))))) (pss_one (ps_ret (pe_lst (pa_cons (pe_gi (by rfl) T.k_MISSING) pa_nil)))) pss_nil)
        (pss_cons (ps_if (PW.pt (pw_or (pt_not (pt_val (pe_c c_is_over hr (by decide) (by rfl) (pa_cons (pv 0) pa_nil)))) (pw_or1 (pt_val (pe_c c_has_repeats hr (by decide) (by rfl) (pa_cons (pv 1) pa_nil)))))) (pss_one (ps_ret (pe_lst (pa_cons (pe_gi (by rfl) T.k_NOT_POSSIBLE) pa_nil)))) pss_nil)
        (pss_one (ps_ret (pe_op op_cat (pe_lst (pa_cons pe_int pa_nil)) (pe_c c_status_and_detail hr (by decide) (by rfl) (pa_cons (pe_fld (pv 0) rfl) (pa_cons (pv 1) pa_nil))))))))), ?_⟩
    obtain ⟨dx, sv, ctA, cas, fl, das, bls, hr⟩ := id hst
    refine q_when (et_test (ev_op (ev_len (K := K) (ev_var rfl) (sq_of hnp.2)) ev_c rv_I0)) (fun hb H1 e1 => ?_) (fun hb H1 e1 => ?_)
    · have := yes hb
      rw [iL_len] at this
      refine op_same k e1 hst (el_one ev_c) (is := [-1]) ?_ rfl
      show (if 12 < l.length then _ else _) = _
      rw [if_pos (by omega)]
      rfl
    have g1 := no hb
    rw [iL_len] at g1
    have g1' : ¬ 12 < l.length := by omega
    have stp0 : ∀ {x}, withSale st (fun (sale : Sale) => if (l.any fun (number : Nat) => decide (sale.bids.length ≤ number)) = true then (st, errorNotFound) else
      if acceptsBids st sale = true ∨ hasDuplicates l = true then (st, errorNotPossible) else match sale.violation l with
      | none => (st, [0, 0, (sale.totalValue l : Int)])
      | some violation => (st, [0, (violation.1 : Int), (violation.2 : Int)])) = x → step st (.checkSelection l) = x := fun {x} h => by
        show (if 12 < l.length then _ else _) = _
        rw [if_neg g1']
        exact h
    cases hsale : st.sale with
    | none =>
      obtain rfl := hr.shut hsale
      refine q_when (et_none (ev_fld (ev_var rfl) (e1 _ _ hr.at_) T.cl_State T.n_State_sale lk_State_sale)) (fun _ H4 e4 => ?_) (fun hb => by cases hb)
      exact op_same k (e1.trans e4) hst (el_one ev_c) (is := [-3]) (stp0 (with_none hsale)) rfl
    | some s =>
      obtain ⟨a, sdx, loA, bdA, liA, las, bas, rfl, hs, ok⟩ := hr.open_ hsale
      refine q_when (et_ref (ev_fld (ev_var rfl) (e1 _ _ hr.at_) T.cl_State T.n_State_sale lk_State_sale) (et_not (et_B (ev_callV (ea_cons (ev_var rfl) (ea_cons (ev_is (ev_len (K := K) (ev_fld (ev_fld (ev_var rfl) (e1 _ _ hr.at_) T.cl_State T.n_State_sale lk_State_sale) (e1 _ _ hs.at_) T.cl_Sale T.n_Sale_bids lk_Sale_bids) (sq_of (e1 _ _ hs.bd))) (show V.int ((rL bas).length : Int) = iN s.bids.length by rw [rL_len, hs.bids.1]; rfl)) ea_nil)) fun H4 e4 => ⟨np, l, s.bids.length, rfl, (e1.trans e4) _ _ hnp.2, by omega, rfl⟩)))) (fun hb H2 e2 => ?_) (fun hb H2 e2 => ?_)
      · refine op_same k (e1.trans e2) hst (el_one ev_c) (is := [-3]) (stp0 ?_) rfl
        rw [with_some hsale]
        show (if (l.any fun (n : Nat) => decide (s.bids.length ≤ n)) = true then _ else _) = _
        rw [if_pos (by simpa using hb)]
        rfl
      rw [Bool.not_eq_false'] at hb
      obtain ⟨hany, hlt⟩ := not_any hb
      have e12 := e1.trans e2
      have stp1 : ∀ {x}, (if acceptsBids st s = true ∨ hasDuplicates l = true then (st, errorNotPossible) else match s.violation l with
        | none => (st, [0, 0, (s.totalValue l : Int)])
        | some violation => (st, [0, (violation.1 : Int), (violation.2 : Int)])) = x → step st (.checkSelection l) = x := fun {x} h => stp0 (by
          rw [with_some hsale]
          show (if (l.any fun (n : Nat) => decide (s.bids.length ≤ n)) = true then _ else _) = _
          rw [if_neg (by rw [hany]; exact Bool.false_ne_true)]
          exact h)
      refine q_when (et_or (et_not (et_B (ev_callV (ea_cons (ev_var rfl) ea_nil) fun H3 e3 => ⟨sa, τ, st, s, rfl, hst.ex (e12.trans e3), hsale, rfl⟩))) fun _ => et_B (ev_callV (ea_cons (ev_var rfl) ea_nil) fun H3 e3 => ⟨np, l, rfl, (e12.trans e3) _ _ hnp.2, by omega, rfl⟩)) (fun hb H3 e3 => ?_) (fun hb H3 e3 => ?_)
      · refine op_same k (e12.trans e3) hst (el_one ev_c) (is := [-4]) (stp1 ?_) rfl
        rw [if_pos]
        · rfl
        · rcases or_yes hb with h | h
          · exact .inl (by simpa using h)
          · exact .inr h
      obtain ⟨hb1, hb2⟩ := or_no hb
      have acc : acceptsBids st s = false := by simpa using hb1
      have g2 : ¬ (acceptsBids st s = true ∨ hasDuplicates l = true) := by
        rw [acc, hb2]
        rintro (h | h) <;> cases h
      have e : Ex H H3 := e12.trans e3
      have hsl : (statV s l).length = 2 := by
        unfold statV
        cases s.violation l <;> rfl
      refine op_same k e hst (el_catN (xs := [.int 0]) (ys := statV s l) (el_one ev_c) (en_call (ea_cons (ev_fld (ev_var rfl) (e _ _ hr.at_) T.cl_State T.n_State_sale lk_State_sale) (ea_cons (ev_var rfl) ea_nil)) fun H4 e4 => ⟨a, np, τ, s, l, rfl, ⟨SaleAt.ex ⟨sdx, loA, bdA, liA, las, bas, hs⟩ (e.trans e4), ok, (e.trans e4) _ _ hnp.2, hlt, hll⟩, rfl⟩) (by rw [hsl]; decide)) (is := match s.violation l with | none => [0, 0, (s.totalValue l : Int)] | some v => [0, (v.1 : Int), (v.2 : Int)]) (stp1 ?_) ?_
      · rw [if_neg g2]
        cases s.violation l <;> rfl
      · unfold statV
        cases s.violation l <;> rfl
/-! ### best_selection -/
theorem c_best_selection (T : Txt K mg A) : C8.Cal P w K mg base 8 "best_selection" (spOp A (mk_none .bestSelection)) [] := by
  have c_is_over : C8.Cal P w K mg base 1 "is_over" (spV (R_is_over A)) [] := c_is_over T
  have c_all_selections : C8.Cal P w K mg base 5 "all_selections" (spP (R_all_selections A)) [] := c_all_selections T
  have c_best_of : C8.Cal P w K mg base 4 "best_of" (spP (R_best_of A)) [] := c_best_of T
  refine calOf T.d_best_selection sc_best_selection (fun _ _ _ _ _ _ us hl => match us, hl with | [_], _ => rfl) (fun vs H Q E h => ?_) (fun f cdv Ar outer s0 H vs Q E hr h => ?_)
  · obtain ⟨sa, τ, st, c, args, rfl, ⟨rfl, _⟩, _⟩ := h
    rfl
  · obtain ⟨sa, τ, st, c, args, rfl, ⟨rfl, rfl⟩, hst, k⟩ := h
    refine ⟨_, (pss_cons (ps_if (pt_cmpR op_isN (pe_fld (pv 0) rfl) pe_non (nomark _)) (pss_one (ps_ret (pe_lst (pa_cons (pe_gi (by rfl) T.k_MISSING) pa_nil)))) pss_nil)
        (pss_cons (ps_if (pt_not (pt_val (pe_c c_is_over hr (by decide) (by rfl) (pa_cons (pv 0) pa_nil)))) (pss_one (ps_ret (pe_lst (pa_cons (pe_gi (by rfl) T.k_NOT_POSSIBLE) pa_nil)))) pss_nil)
        (pss_cons (ps_set (i := 1) sc_best_selection.nd rfl (Or.inl rfl) (pe_c c_best_of hr (by decide) (by rfl) (pa_cons (pe_c c_all_selections hr (by decide) (by rfl) (pa_cons (pe_fld (pv 0) rfl) pa_nil)) pa_nil)))
        (pss_one (ps_ret (pe_op op_cat (pe_lst (pa_cons (pe_fld (pv 1) rfl) pa_nil)) (pe_fld (pv 1) rfl))))))), ?_⟩
    obtain ⟨dx, sv, ctA, cas, fl, das, bls, hr⟩ := id hst
    refine q_when (et_isN (ev_fld (ev_var rfl) hr.at_ T.cl_State T.n_State_sale lk_State_sale)) (fun hb H1 e1 => ?_) (fun hb H1 e1 => ?_)
    · exact op_same k e1 hst (el_one ev_c) (is := [-3]) (with_none (hr.sale.non (yes hb))) rfl
    obtain ⟨a, s, hsale, rfl, hsa, ok⟩ := hr.sale.is (no hb)
    refine q_when (et_not (et_B (ev_callV (ea_cons (ev_var rfl) ea_nil) fun H2 e2 => ⟨sa, τ, st, s, rfl, hst.ex (e1.trans e2), hsale, rfl⟩))) (fun hb H2 e2 => ?_) (fun hb H2 e2 => ?_)
    · refine op_same k (e1.trans e2) hst (el_one ev_c) (is := [-4]) ?_ rfl
      show withSale st _ = _
      rw [with_some hsale]
      show (if acceptsBids st s = true then _ else _) = _
      rw [if_pos (by simpa using hb)]
      rfl
    have acc : ¬ acceptsBids st s = true := by simpa using hb
    have e : Ex H H2 := e1.trans e2
    refine q_asgN (P := fun _ v H3 => ∃ b, v = .ref b ∧ SelF A (fun _ => True) H3 s b s.bestSelection) (en_call1 (P := fun _ v H3 => ∃ p, v = .ref p ∧ FoundAt A H3 s p (gen s s.bids.length)) (en_callX (ea_cons (ev_fld (ev_var rfl) (e _ _ hr.at_) T.cl_State T.n_State_sale lk_State_sale) ea_nil) fun H0 H3 e0 e3 => ⟨_, ⟨a, τ, s, rfl, hsa.ex (e.trans (e0.trans e3)), ok, rfl⟩, fun v H4 e4 ⟨p, hv, hf⟩ => ⟨p, hv, hf.at_⟩⟩) fun v H0 H3 _ _ ⟨p, hv, hf⟩ => ⟨p, s, fun _ => True, by rw [hv], hf.tr, rfl⟩) fun v H3 e3 ⟨b, hv, hsel⟩ => ?_
    subst hv
    obtain ⟨bdx, na, ta, ra, hse, _⟩ := hsel
    refine op_same k (e.trans e3) hst (el_catN (xs := [iN (s.totalValue s.bestSelection)]) (ys := iL s.bestSelection) (el_one (ev_fld (ev_var rfl) hse.at_ T.cl_Selection T.n_Selection_value lk_Selection_value)) (fun H4 e4 Q' q' => (ev_fld (ev_var rfl) hse.at_ T.cl_Selection T.n_Selection_numbers lk_Selection_numbers) H4 e4 _ fun H5 e5 => q' _ H5 e5 ⟨na, rfl, (e4.trans e5) _ _ hse.nums⟩) ?_) (is := (s.totalValue s.bestSelection : Int) :: toInts s.bestSelection) ?_ ?_
    · rw [iL_len]
      have h1 := (best_sub s).length_le
      have h2 := List.length_filter_le (fun n => s.isAdmissible (s.bid n)) (List.range s.bids.length)
      rw [List.length_range] at h2
      have := ok.bidsLen
      show 1 + _ ≤ _
      omega
    · show withSale st _ = _
      rw [with_some hsale]
      exact if_neg acc
    · show iN _ :: iL _ = _
      rw [iL_ints]
      rfl
/-! ### threshold -/
theorem c_threshold (T : Txt K mg A) : C8.Cal P w K mg base 9 "threshold" (spOp A (mk_num .threshold)) [] := by
  have c_is_over : C8.Cal P w K mg base 1 "is_over" (spV (R_is_over A)) [] := c_is_over T
  have c_all_selections : C8.Cal P w K mg base 5 "all_selections" (spP (R_all_selections A)) [] := c_all_selections T
  have c_best_of : C8.Cal P w K mg base 4 "best_of" (spP (R_best_of A)) [] := c_best_of T
  have c_threshold_of : C8.Cal P w K mg base 6 "threshold_of" (spV (R_threshold_of A)) [] := c_threshold_of T
  refine calOf T.d_threshold sc_threshold (fun _ _ _ _ _ _ us hl => match us, hl with | [_, _], _ => rfl) (fun vs H Q E h => ?_) (fun f cdv Ar outer s0 H vs Q E hr h => ?_)
  · obtain ⟨sa, τ, st, c, args, rfl, ⟨n, rfl, _⟩, _⟩ := h
    rfl
  · obtain ⟨sa, τ, st, c, args, rfl, ⟨n, rfl, rfl⟩, hst, k⟩ := h
    refine ⟨_, (pss_cons (ps_set (i := 2) sc_threshold.nd rfl (Or.inl rfl) (pe_fld (pv 0) rfl))
        (pss_cons (ps_if (PW.pt (pw_or (pt_cmpR op_isN (pv 2) pe_non (nomark _)) (pw_or1 (pt_cmpR op_ge (pv 1) (pe_callB call_len_seq (by rfl) T.b_len boot_len (pa_cons (pe_fld (pv 2) rfl) pa_nil)) (nomark _))))) (pss_one (ps_ret (pe_lst (pa_cons (pe_gi (by rfl) T.k_MISSING) pa_nil)))) pss_nil)
        (pss_cons (ps_if (pt_not (pt_val (pe_c c_is_over hr (by decide) (by rfl) (pa_cons (pv 0) pa_nil)))) (pss_one (ps_ret (pe_lst (pa_cons (pe_gi (by rfl) T.k_NOT_POSSIBLE) pa_nil)))) pss_nil)
        (pss_cons (ps_set (i := 3) sc_threshold.nd rfl (Or.inl rfl) (pe_c c_all_selections hr (by decide) (by rfl) (pa_cons (pv 2) pa_nil)))
        (pss_cons (ps_if (pt_cmpR op_notIn_seq (pv 1) (pe_fld (pe_c c_best_of hr (by decide) (by rfl) (pa_cons (pv 3) pa_nil)) rfl) (by with_unfolding_all rfl)) (pss_one (ps_ret (pe_lst (pa_cons (pe_gi (by rfl) T.k_NOT_POSSIBLE) pa_nil)))) pss_nil)
        (pss_one (ps_ret (pe_lst (pa_cons (pe_c c_threshold_of hr (by decide) (by rfl) (pa_cons (pv 2) (pa_cons (pv 3) (pa_cons (pv 1) pa_nil)))) pa_nil))))))))), ?_⟩
    obtain ⟨dx, sv, ctA, cas, fl, das, bls, hr⟩ := id hst
    refine q_asg (ev_fld (ev_var rfl) hr.at_ T.cl_State T.n_State_sale lk_State_sale) fun H1 e1 => ?_
    cases hsale : st.sale with
    | none =>
      obtain rfl := hr.shut hsale
      refine q_when (et_none (ev_var rfl)) (fun _ H2 e2 => ?_) (fun hb => by cases hb)
      exact op_same k (e1.trans e2) hst (el_one ev_c) (is := [-3]) (with_none hsale) rfl
    | some s =>
      obtain ⟨a, sdx, loA, bdA, liA, las, bas, rfl, hs, ok⟩ := hr.open_ hsale
      have hsa : SaleAt A τ H a s := ⟨sdx, loA, bdA, liA, las, bas, hs⟩
      have stp : ∀ {x}, (if s.bids.length ≤ n then (st, errorNotFound) else if acceptsBids st s = true ∨ s.bestSelection.contains n = false then (st, errorNotPossible) else (st, [(s.threshold n : Int)])) = x → step st (.threshold n) = x := fun {x} h => (with_some hsale).trans h
      refine q_when (et_ref (ev_var rfl) (et_test (ev_op (ev_var rfl) (ev_len (K := K) (ev_fld (ev_var rfl) (e1 _ _ hs.at_) T.cl_Sale T.n_Sale_bids lk_Sale_bids) (sq_of (e1 _ _ hs.bd))) rv_I0))) (fun hb H2 e2 => ?_) (fun hb H2 e2 => ?_)
      · have := yes hb
        rw [rL_len, hs.bids.1] at this
        refine op_same k (e1.trans e2) hst (el_one ev_c) (is := [-3]) (stp ?_) rfl
        rw [if_pos (by omega)]
        rfl
      have g1 : ¬ s.bids.length ≤ n := by
        have := no hb
        rw [rL_len, hs.bids.1] at this
        omega
      have e12 := e1.trans e2
      refine q_when (et_not (et_B (ev_callV (ea_cons (ev_var rfl) ea_nil) fun H3 e3 => ⟨sa, τ, st, s, rfl, hst.ex (e12.trans e3), hsale, rfl⟩))) (fun hb H3 e3 => ?_) (fun hb H3 e3 => ?_)
      · refine op_same k (e12.trans e3) hst (el_one ev_c) (is := [-4]) (stp ?_) rfl
        rw [if_neg g1, if_pos (.inl (by simpa using hb))]
        rfl
      have acc : ¬ acceptsBids st s = true := by simpa using hb
      have e13 := e12.trans e3
      refine q_asgN (P := fun _ v H4 => ∃ p, v = .ref p ∧ FoundAt A H4 s p (gen s s.bids.length)) (en_callX (ea_cons (ev_var rfl) ea_nil) fun H0 H4 e0 e4 => ⟨_, ⟨a, τ, s, rfl, hsa.ex (e13.trans (e0.trans e4)), ok, rfl⟩, fun v H5 e5 ⟨p, hv, hf⟩ => ⟨p, hv, hf.at_⟩⟩) fun v H4 e4 ⟨p, hv, hf⟩ => ?_
      subst hv
      have e14 := e13.trans e4
      refine q_when (b := !s.bestSelection.contains n) (et_is (et_test (ev_opN (z := .bl (!inV (iN n) (iL s.bestSelection))) (ev_var rfl) (en_fld (P' := fun _ v H5 => ∃ q, v = .ref q ∧ H5 q = some (.lst (iL s.bestSelection))) (en_call (ea_cons (ev_var rfl) ea_nil) fun H5 e5 => ⟨p, s, fun _ => True, rfl, (hf.ex e5).tr, rfl⟩) fun v H5 H6 _ ⟨b, hv, ⟨bdx, na, ta, ra, hse, _⟩⟩ => ⟨b, _, _, _, _, hv, hse.at_, T.cl_Selection, T.n_Selection_numbers, lk_Selection_numbers, na, rfl, hse.nums⟩) fun v H5 H6 _ _ ⟨q, hv, hq⟩ => by subst hv; exact rv_niL (sq_of hq) rfl (flat_iL _))) (by rw [inV_iN])) (fun hb H5 e5 => ?_) (fun hb H5 e5 => ?_)
      · refine op_same k (e14.trans e5) hst (el_one ev_c) (is := [-4]) (stp ?_) rfl
        rw [if_neg g1, if_pos (.inr (by simpa using hb))]
        rfl
      have hc : s.bestSelection.contains n = true := by simpa using hb
      have hm : n ∈ s.bestSelection := List.contains_iff_mem.mp hc
      refine op_same k (e14.trans e5) hst (el_one (v := iN (s.threshold n)) (ev_callV (ea_cons (ev_var rfl) (ea_cons (ev_var rfl) (ea_cons (ev_var rfl) ea_nil))) fun H6 e6 => ⟨a, p, τ, s, n, rfl, hsa.ex ((e14.trans e5).trans e6), ok, hf.ex (e5.trans e6), hm, rfl⟩)) (is := [(s.threshold n : Int)]) (stp ?_) rfl
      rw [if_neg g1, if_neg]
      rw [hc]
      rintro (h | h)
      · exact acc h
      · cases h
end
end TB

namespace TB
open PySem PySem.Spec PyProof.Rows L2 Evl TimberAuction TBM AuctionSpec
open C8 (pe_c pe_mk pe_mt pe_mt0)
/-! ### bounds of a sale's numbers -/
theorem value_le {s : Sale} {b : Bid} (ok : SaleOk s) (o : BidOk s b) : s.value b ≤ 10 ^ 14 := by
  unfold Sale.value
  refine Nat.le_trans (valueOf_le (m := 10 * 1000000) (n := 1000000) (tot_le (fun l hl v hv => (ok.lot l hl).2.2 v hv) o.lotsLen.2) o.prLe) (by decide)
theorem reserve_le {s : Sale} {b : Bid} (ok : SaleOk s) (o : BidOk s b) : s.reserve b ≤ 10 ^ 13 := by
  unfold Sale.reserve
  have h : Amounts.sum ((b.lots.filterMap fun (number : Nat) => s.lots[number]?).map fun (lot : Lot) => lot.reserve) ≤ 10 * 1000000000 := by
    refine Nat.le_trans (sum_le (m := 1000000000) fun x hx => ?_) (Nat.mul_le_mul_right _ ?_)
    · obtain ⟨l, hl, rfl⟩ := List.mem_map.mp hx
      obtain ⟨k, _, hk⟩ := List.mem_filterMap.mp hl
      exact (ok.lot l (List.mem_of_getElem? hk)).1
    · rw [List.length_map]
      exact Nat.le_trans (List.length_filterMap_le _ _) o.lotsLen.2
  omega
theorem best_len {s : Sale} (ok : SaleOk s) : s.bestSelection.length ≤ 12 := by
  have h1 := (best_sub s).length_le
  have h2 := List.length_filter_le (fun n => s.isAdmissible (s.bid n)) (List.range s.bids.length)
  rw [List.length_range] at h2
  have := ok.bidsLen
  omega
theorem total_le {s : Sale} (ok : SaleOk s) : s.totalValue s.bestSelection ≤ 12 * 10 ^ 14 := by
  unfold Sale.totalValue
  refine Nat.le_trans (sum_le (m := 10 ^ 14) fun x hx => ?_) (Nat.mul_le_mul_right _ (by rw [List.length_map]; exact best_len ok))
  obtain ⟨n, hn, rfl⟩ := List.mem_map.mp hx
  have hl := best_lt s hn
  have hb : s.bids[n]? = some s.bids[n] := List.getElem?_eq_getElem hl
  rw [bid_at hb]
  exact value_le ok (ok.bidAt hb)
theorem SaleOk.withdraw {s : Sale} (ok : SaleOk s) {n : Nat} (hn : n < s.bids.length) : SaleOk (s.withdraw n) := by
  have hbd : s.bids[n]? = some s.bids[n] := List.getElem?_eq_getElem hn
  have sb := bid_at hbd
  unfold Sale.withdraw
  refine ⟨ok.rule, ok.adv, ok.cd, ok.lotsLen, ok.lot, ?_, fun b' hb' => ?_, ok.limLen, ok.limLe⟩
  · show (s.bids.set n _).length ≤ 12
    rw [List.length_set]
    exact ok.bidsLen
  · have key : ∀ b0 : Bid, BidOk s b0 → ∀ b1 : Bid, b1.lots = b0.lots → b1.prices = b0.prices → b1.bidders = b0.bidders → ∀ s1 : Sale, s1.lots = s.lots → BidOk s1 b1 := fun b0 o b1 h1 h2 h3 s1 h4 =>
      ⟨by rw [h1, h4]; exact o.lotsLt, by rw [h1]; exact o.lotsNd, by rw [h1]; exact o.lotsLen, by rw [h2]; exact o.prLen, by rw [h2]; exact o.prLe, by rw [h3]; exact o.bdLt, by rw [h3]; exact o.bdNd, by rw [h3]; exact o.bdLen⟩
    rcases List.mem_or_eq_of_mem_set hb' with h | h
    · exact key b' (ok.bid b' h) b' rfl rfl rfl _ rfl
    · rw [h, sb]
      exact key s.bids[n] (ok.bidAt hbd) ⟨s.bids[n].lots, s.bids[n].prices, s.bids[n].bidders, true⟩ rfl rfl rfl { s with bids := s.bids.set n ⟨s.bids[n].lots, s.bids[n].prices, s.bids[n].bidders, true⟩ } rfl
theorem threshold_le {s : Sale} (ok : SaleOk s) {k : Nat} (hk : k < s.bids.length) : s.threshold k ≤ 12 * 10 ^ 14 := by
  have h1 := total_le (ok.withdraw hk)
  have hb : s.bids[k]? = some s.bids[k] := List.getElem?_eq_getElem hk
  have h2 := reserve_le ok (ok.bidAt hb)
  unfold Sale.threshold
  rw [bid_at hb]
  refine Nat.max_le.mpr ⟨by omega, ?_⟩
  exact Nat.le_trans (Nat.sub_le _ _) h1
theorem factor_ok {s : Sale} (ok : SaleOk s) {k : Nat} (hk : k < s.bids.length) : 0 ≤ (s.factor k).num ∧ (s.factor k).num < 2 ^ 64 ∧ (s.factor k).den < 2 ^ 64 := by
  unfold Sale.factor
  split
  · exact ⟨by decide, by decide, by decide⟩
  · rename_i h
    have hb : s.bids[k]? = some s.bids[k] := List.getElem?_eq_getElem hk
    rw [bid_at hb] at h ⊢
    have hv := value_le ok (ok.bidAt hb)
    have ht := threshold_le ok hk
    obtain ⟨e1, e2⟩ := frac_is (a := s.threshold k) (b := s.value s.bids[k]) (by omega)
    rw [e1, e2]
    have h1 := Nat.div_le_self (s.threshold k) (Nat.gcd (s.threshold k) (s.value s.bids[k]))
    have h2 := Nat.div_le_self (s.value s.bids[k]) (Nat.gcd (s.threshold k) (s.value s.bids[k]))
    refine ⟨Int.natCast_nonneg _, ?_, ?_⟩
    · have h3 : s.threshold k / Nat.gcd (s.threshold k) (s.value s.bids[k]) < 2 ^ 64 := by omega
      exact_mod_cast h3
    · omega
section
variable {P : Program} {w : World} {K : PySem.W.Frag} {mg : Str → Option Value} {base : Heap} {A : Ad}
/-! ### factor_of -/
def R_factor_of (A : Ad) : List V → Hp → (V → Hp → Prop) → Prop := fun vs H Pz => ∃ a p τ s k, vs = [.ref a, .ref p, iN k] ∧ SaleAt A τ H a s ∧ SaleOk s ∧ FoundAt A H s p (gen s s.bids.length) ∧ k ∈ s.bestSelection ∧
  Pz = fun v H2 => ∃ q, v = .ref q ∧ H q = none ∧ H2 q = some (.tup [.int (s.factor k).num, iN (s.factor k).den])
theorem c_factor_of (T : Txt K mg A) : C8.Cal P w K mg base 8 "factor_of" (spP (R_factor_of A)) [] := by
  have c_threshold_of : C8.Cal P w K mg base 6 "threshold_of" (spV (R_threshold_of A)) [] := c_threshold_of T
  have c_lowest_terms : C8.Cal P w K mg base 3 "lowest_terms" (spP R_lowest_terms) [] := c_lowest_terms T
  refine calOf T.d_factor_of sc_factor_of (fun _ _ _ _ _ _ us hl => match us, hl with | [_, _, _], _ => rfl) (fun vs H Q E h => ?_) (fun f cdv Ar outer st H vs Q E hr h => ?_)
  · obtain ⟨_, ⟨a, p, τ, s, k, rfl, _⟩, _⟩ := h
    rfl
  · obtain ⟨_, ⟨a, p, τ, s, k, rfl, hsa, ok, hf, hm, rfl⟩, kQ⟩ := h
    refine ⟨_, (pss_cons (ps_set (i := 3) sc_factor_of.nd rfl (Or.inl rfl) (pe_ix ix_list (pe_fld (pv 0) rfl) (pv 2) (fun _ _ => rfl)))
        (pss_cons (ps_if (PW.pt (pw_or (pt_cmpR op_eq (pe_fld (pv 0) rfl) pe_int (nomark _)) (pw_or1 (pt_cmpR op_eq (pe_fld (pv 3) rfl) pe_int (nomark _))))) (pss_one (ps_ret (pe_tup (pa_cons pe_int (pa_cons pe_int pa_nil))))) pss_nil)
        (pss_one (ps_ret (pe_c c_lowest_terms hr (by decide) (by rfl) (pa_cons (pe_c c_threshold_of hr (by decide) (by rfl) (pa_cons (pv 0) (pa_cons (pv 1) (pa_cons (pv 2) pa_nil)))) (pa_cons (pe_fld (pv 3) rfl) pa_nil))))))), ?_⟩
    obtain ⟨sdx, loA, bdA, liA, las, bas, hs⟩ := id hsa
    have hk := best_lt s hm
    obtain ⟨b, hb⟩ : ∃ b, s.bids[k]? = some b := ⟨_, List.getElem?_eq_getElem hk⟩
    obtain ⟨ba, hba, ⟨bdx, la, pa, bba, va, hbr⟩⟩ := hs.bids.get hb
    have eb := bid_at hb
    refine q_asg (ev_ixL (K := K) (ev_fld (ev_var rfl) hs.at_ T.cl_Sale T.n_Sale_bids lk_Sale_bids) (ev_var rfl) (sq_of hs.bd) (rL_get hba)) fun H1 e1 => ?_
    refine q_when (et_or (et_test (ev_op (ev_fld (ev_var rfl) (e1 _ _ hs.at_) T.cl_Sale T.n_Sale_rule lk_Sale_rule) ev_c (rv_eq rfl))) fun _ => et_test (ev_op (ev_fld (ev_var rfl) (e1 _ _ hbr.at_) T.cl_Bid T.n_Bid_value lk_Bid_value) ev_c (rv_eq rfl))) (fun hb' H2 e2 => ?_) (fun hb' H2 e2 => ?_)
    · refine s_retU (eu_tup (ea_cons ev_c (ea_cons ev_c ea_nil)) (by show 2 ≤ 100000; decide)) fun q H3 nq e3 hq => ?_
      have hfac : s.factor k = 1 := by
        unfold Sale.factor
        rw [if_pos]
        rw [eb]
        rcases or_yes hb' with h | h
        · left
          have := V.int.inj (yes h)
          omega
        · right
          have := V.int.inj (yes h)
          omega
      refine kQ _ H3 ((e1.trans e2).trans e3) ⟨q, rfl, fresh_back (e1.trans e2) nq, ?_⟩
      rw [hq, hfac]
      rfl
    · obtain ⟨h1, h2⟩ := or_no hb'
      have g1 : ¬ s.rule = 0 := fun z => no h1 (by rw [z]; rfl)
      have g2 : ¬ s.value b = 0 := fun z => no h2 (by rw [z]; rfl)
      have e12 := e1.trans e2
      have hfac : s.factor k = ((s.threshold k : Nat) : Rat) / ((s.value b : Nat) : Rat) := by
        unfold Sale.factor
        rw [eb, if_neg (by omega)]
      obtain ⟨f1, f2⟩ := frac_is (a := s.threshold k) (b := s.value b) (by omega)
      have hvl := value_le ok (ok.bidAt hb)
      refine ret_run ((en_callX (P := fun H0 v H3 => ∃ q, v = .ref q ∧ H0 q = none ∧ H3 q = some (.tup [.int (s.factor k).num, iN (s.factor k).den])) (ea_cons (ev_callV (ea_cons (ev_var rfl) (ea_cons (ev_var rfl) (ea_cons (ev_var rfl) ea_nil))) fun H3 e3 => ⟨a, p, τ, s, k, rfl, hsa.ex (e12.trans e3), ok, hf.ex (e12.trans e3), hm, rfl⟩) (ea_cons (ev_fld (ev_var rfl) (e12 _ _ hbr.at_) T.cl_Bid T.n_Bid_value lk_Bid_value) ea_nil)) fun H3 H4 e3 e4 => ⟨_, ⟨s.threshold k, s.value b, rfl, by omega, Nat.lt_of_le_of_lt hvl (Nat.lt_of_lt_of_le (by decide : 10 ^ 14 < 2 ^ 47) (Nat.pow_le_pow_right (by decide) (by decide))), rfl⟩, fun v H5 e5 ⟨q, hv, nq, hq⟩ => ⟨q, hv, fresh_back e4 nq, ?tup⟩⟩) H2 (Ex.refl _) _ fun v H5 e5 ⟨q, hv, nq, hq⟩ => ?fin)
      case tup =>
        rw [hq, hfac, f1, f2]
        rfl
      case fin => exact kQ v H5 (e12.trans e5) ⟨q, hv, fresh_back e12 nq, hq⟩
end
end TB

namespace TB
open PySem PySem.Spec PyProof.Rows L2 Evl TimberAuction TBM AuctionSpec
open C8 (pe_c pe_mk pe_mt pe_mt0)
section
variable {K : PySem.W.Frag} {σ : L2.St} {H : Hp} {D : Ends} {u : TS} {ta te : TE} {P : Hp → V → Hp → Prop} {xs : List V} {l : Addr}
theorem s_appN (hl : H l = some (.lst xs)) (ha : Ev ta σ H (.ref l)) (h : EvN te σ H P) (hz : xs.length < 100000) (k : ∀ v H0 H1, Ex H H0 → Ex H0 H1 → P H0 v H1 → D.nx σ (upd H1 l (.lst (xs ++ [v])))) : tDrop (tBM K "list" rAppend ta (tCons te tNil)) D σ H :=
  ha H (Ex.refl H) _ fun H1 e1 => ⟨Or.inl ⟨rfl, xs, sq_of (e1 l _ hl)⟩, h H1 e1 _ fun v H2 e2 p => ⟨l, xs, v, rfl, rfl, e2 l _ (e1 l _ hl), sz_lt hz, k v H1 H2 e1 e2 p⟩⟩
end
section
variable {A : Ad} {B B' : Addr → Prop} {H : Hp} {s : Sale} {a p : Addr} {l : List Nat} {L : List (List Nat)}
theorem SelF.mono (h : SelF A B H s a l) (k : ∀ b, B b → B' b) : SelF A B' H s a l := by
  obtain ⟨dx, na, ta, ra, h, b0, b1, b2, b3⟩ := h
  exact ⟨dx, na, ta, ra, h, k _ b0, k _ b1, k _ b2, k _ b3⟩
theorem FoundF.mono (h : FoundF A B H s p L) (k : ∀ b, B b → B' b) : FoundF A B' H s p L := by
  obtain ⟨as, h1, h2, h3⟩ := h
  exact ⟨as, h1, k _ h2, h3.imp fun _ _ _ _ _ r => r.mono k⟩
end
section
variable {P : Program} {w : World} {K : PySem.W.Frag} {mg : Str → Option Value} {base : Heap} {A : Ad}
/-! ### Contract(..) -/
def sp_Contract (A : Ad) : Sp := fun vs H Q _ => ∃ p dx b d ad f bdx la pa ba va r v wd xv xp xb, vs = [.ref p, .ref b, d, ad, f] ∧ H p = some (.ins A.Contract dx []) ∧ H b = some (.ins A.Bid bdx (fBid la (.ref pa) (.ref ba) (.ref va) r v wd)) ∧ H va = some (.lst xv) ∧ H pa = some (.lst xp) ∧ H ba = some (.lst xb) ∧ b ≠ p ∧ va ≠ p ∧ pa ≠ p ∧ ba ≠ p ∧
  ∀ H' p1 p2 p3, H p1 = none → H p2 = none → H p3 = none → p1 ≠ p → p2 ≠ p → p3 ≠ p → H' p = some (.ins A.Contract dx (fContract v (.ref p1) (.ref p2) (.ref p3) d ad f (.bl false))) → H' p1 = some (.lst xv) → H' p2 = some (.lst xp) → H' p3 = some (.lst xb) → ExB p H H' → Q .non H'
theorem m_Contract (T : Txt K mg A) : C8.Mak P w K mg base 1 "Contract" A.Contract (sp_Contract A) [] := by
  refine makOf T.m_Contract sc_Contract___init__ (fun _ _ _ _ _ _ us hl => match us, hl with | [_, _, _, _, _], _ => rfl) (fun vs H Q E h => ?_) (fun f cdv Ar outer st H vs Q E hr h => ?_)
  · obtain ⟨p, dx, b, d, ad, f, bdx, la, pa, ba, va, r, v, wd, xv, xp, xb, rfl, _⟩ := h
    rfl
  · obtain ⟨p, dx, b, d, ad, f, bdx, la, pa, ba, va, r, v, wd, xv, xp, xb, rfl, hp, hb, hva, hpa, hba, nb, nv, np, nba, kQ⟩ := h
    refine ⟨_, (pss_cons (ps_fld (pv 0) (pe_fld (pv 1) rfl) rfl)
        (pss_cons (ps_fld (pv 0) (pe_callTy call_list_of (by rfl) T.b_list (by decide +kernel) (pa_cons (pe_fld (pv 1) rfl) pa_nil)) rfl)
        (pss_cons (ps_fld (pv 0) (pe_callTy call_list_of (by rfl) T.b_list (by decide +kernel) (pa_cons (pe_fld (pv 1) rfl) pa_nil)) rfl)
        (pss_cons (ps_fld (pv 0) (pe_callTy call_list_of (by rfl) T.b_list (by decide +kernel) (pa_cons (pe_fld (pv 1) rfl) pa_nil)) rfl)
        (pss_cons (ps_fld (pv 0) (pv 2) rfl)
        (pss_cons (ps_fld (pv 0) (pv 3) rfl)
        (pss_cons (ps_fld (pv 0) (pv 4) rfl)
        (pss_one (ps_fld (pv 0) pe_bl rfl))))))))), ?_⟩
    refine q_fldV (ev_fld (ev_var rfl) hb T.cl_Bid T.n_Bid_value lk_Bid_value) (ev_var rfl) hp T.cl_Contract T.n_Contract_value (by show 0 < 1000; decide) fun H0 e0 => ?_
    have b0 := (ExB.refl p H).upd (o := .ins A.Contract dx (putF "value" v [])) e0
    have q0 : (upd H0 p (.ins A.Contract dx (putF "value" v []))) p = some (.ins A.Contract dx (putF "value" v [])) := upd_same
    generalize (upd H0 p (.ins A.Contract dx (putF "value" v []))) = G0 at b0 q0 ⊢
    refine q_fldL (el_list (K := K) (ev_fld (ev_var rfl) (b0 _ _ hb nb) T.cl_Bid T.n_Bid_volumes lk_Bid_volumes) (sq_of (b0 _ _ hva nv))) (ev_var rfl) q0 T.cl_Contract T.n_Contract_volumes (by show 1 < 1000; decide) fun p1 H1 n1 e1 h1 => ?_
    obtain ⟨f1, ne1⟩ := b0.fresh q0 n1
    have b1 := b0.upd (o := .ins A.Contract dx (putF "volumes" (.ref p1) (putF "value" v []))) e1
    have g1 : (upd H1 p (.ins A.Contract dx (putF "volumes" (.ref p1) (putF "value" v [])))) p1 = some (.lst xv) := by rw [upd_ne ne1]; exact h1
    have q1 : (upd H1 p (.ins A.Contract dx (putF "volumes" (.ref p1) (putF "value" v [])))) p = some (.ins A.Contract dx (putF "volumes" (.ref p1) (putF "value" v []))) := upd_same
    generalize (upd H1 p (.ins A.Contract dx (putF "volumes" (.ref p1) (putF "value" v [])))) = G1 at b1 g1 q1 ⊢
    refine q_fldL (el_list (K := K) (ev_fld (ev_var rfl) (b1 _ _ hb nb) T.cl_Bid T.n_Bid_prices lk_Bid_prices) (sq_of (b1 _ _ hpa np))) (ev_var rfl) q1 T.cl_Contract T.n_Contract_prices (by show 2 < 1000; decide) fun p2 H2 n2 e2 h2 => ?_
    obtain ⟨f2, ne2⟩ := b1.fresh q1 n2
    have b2 := b1.upd (o := .ins A.Contract dx (putF "prices" (.ref p2) (putF "volumes" (.ref p1) (putF "value" v [])))) e2
    have g12 : (upd H2 p (.ins A.Contract dx (putF "prices" (.ref p2) (putF "volumes" (.ref p1) (putF "value" v []))))) p1 = some (.lst xv) := by rw [upd_ne ne1]; exact e2 _ _ g1
    have g2 : (upd H2 p (.ins A.Contract dx (putF "prices" (.ref p2) (putF "volumes" (.ref p1) (putF "value" v []))))) p2 = some (.lst xp) := by rw [upd_ne ne2]; exact h2
    have q2 : (upd H2 p (.ins A.Contract dx (putF "prices" (.ref p2) (putF "volumes" (.ref p1) (putF "value" v []))))) p = some (.ins A.Contract dx (putF "prices" (.ref p2) (putF "volumes" (.ref p1) (putF "value" v [])))) := upd_same
    generalize (upd H2 p (.ins A.Contract dx (putF "prices" (.ref p2) (putF "volumes" (.ref p1) (putF "value" v []))))) = G2 at b2 g12 g2 q2 ⊢
    refine q_fldL (el_list (K := K) (ev_fld (ev_var rfl) (b2 _ _ hb nb) T.cl_Bid T.n_Bid_bidders lk_Bid_bidders) (sq_of (b2 _ _ hba nba))) (ev_var rfl) q2 T.cl_Contract T.n_Contract_bidders (by show 3 < 1000; decide) fun p3 H3 n3 e3 h3 => ?_
    obtain ⟨f3, ne3⟩ := b2.fresh q2 n3
    have b3 := b2.upd (o := .ins A.Contract dx (putF "bidders" (.ref p3) (putF "prices" (.ref p2) (putF "volumes" (.ref p1) (putF "value" v []))))) e3
    have g13 : (upd H3 p (.ins A.Contract dx (putF "bidders" (.ref p3) (putF "prices" (.ref p2) (putF "volumes" (.ref p1) (putF "value" v [])))))) p1 = some (.lst xv) := by rw [upd_ne ne1]; exact e3 _ _ g12
    have g23 : (upd H3 p (.ins A.Contract dx (putF "bidders" (.ref p3) (putF "prices" (.ref p2) (putF "volumes" (.ref p1) (putF "value" v [])))))) p2 = some (.lst xp) := by rw [upd_ne ne2]; exact e3 _ _ g2
    have g3 : (upd H3 p (.ins A.Contract dx (putF "bidders" (.ref p3) (putF "prices" (.ref p2) (putF "volumes" (.ref p1) (putF "value" v [])))))) p3 = some (.lst xb) := by rw [upd_ne ne3]; exact h3
    have q3 : (upd H3 p (.ins A.Contract dx (putF "bidders" (.ref p3) (putF "prices" (.ref p2) (putF "volumes" (.ref p1) (putF "value" v [])))))) p = some (.ins A.Contract dx (putF "bidders" (.ref p3) (putF "prices" (.ref p2) (putF "volumes" (.ref p1) (putF "value" v []))))) := upd_same
    generalize (upd H3 p (.ins A.Contract dx (putF "bidders" (.ref p3) (putF "prices" (.ref p2) (putF "volumes" (.ref p1) (putF "value" v [])))))) = G3 at b3 g13 g23 g3 q3 ⊢
    refine q_fldV (ev_var rfl) (ev_var rfl) q3 T.cl_Contract T.n_Contract_day (by show 4 < 1000; decide) fun H4 e4 => ?_
    have up : ∀ {G G' : Hp} {o : HO} {x : Addr} {y : HO}, x ≠ p → Ex G G' → G x = some y → (upd G' p o) x = some y := fun ne e h => by rw [upd_ne ne]; exact e _ _ h
    have b4 := b3.upd (o := .ins A.Contract dx (putF "day" d (putF "bidders" (.ref p3) (putF "prices" (.ref p2) (putF "volumes" (.ref p1) (putF "value" v [])))))) e4
    have g14 := up (o := .ins A.Contract dx (putF "day" d (putF "bidders" (.ref p3) (putF "prices" (.ref p2) (putF "volumes" (.ref p1) (putF "value" v [])))))) ne1 e4 g13
    have g24 := up (o := .ins A.Contract dx (putF "day" d (putF "bidders" (.ref p3) (putF "prices" (.ref p2) (putF "volumes" (.ref p1) (putF "value" v [])))))) ne2 e4 g23
    have g34 := up (o := .ins A.Contract dx (putF "day" d (putF "bidders" (.ref p3) (putF "prices" (.ref p2) (putF "volumes" (.ref p1) (putF "value" v [])))))) ne3 e4 g3
    refine q_fldV (ev_var rfl) (ev_var rfl) upd_same T.cl_Contract T.n_Contract_advance (by show 5 < 1000; decide) fun H5 e5 => ?_
    have b5 := b4.upd (o := .ins A.Contract dx (putF "advance" ad (putF "day" d (putF "bidders" (.ref p3) (putF "prices" (.ref p2) (putF "volumes" (.ref p1) (putF "value" v []))))))) e5
    have g15 := up (o := .ins A.Contract dx (putF "advance" ad (putF "day" d (putF "bidders" (.ref p3) (putF "prices" (.ref p2) (putF "volumes" (.ref p1) (putF "value" v []))))))) ne1 e5 g14
    have g25 := up (o := .ins A.Contract dx (putF "advance" ad (putF "day" d (putF "bidders" (.ref p3) (putF "prices" (.ref p2) (putF "volumes" (.ref p1) (putF "value" v []))))))) ne2 e5 g24
    have g35 := up (o := .ins A.Contract dx (putF "advance" ad (putF "day" d (putF "bidders" (.ref p3) (putF "prices" (.ref p2) (putF "volumes" (.ref p1) (putF "value" v []))))))) ne3 e5 g34
    refine q_fldV (ev_var rfl) (ev_var rfl) upd_same T.cl_Contract T.n_Contract_factor (by show 6 < 1000; decide) fun H6 e6 => ?_
    have b6 := b5.upd (o := .ins A.Contract dx (putF "factor" f (putF "advance" ad (putF "day" d (putF "bidders" (.ref p3) (putF "prices" (.ref p2) (putF "volumes" (.ref p1) (putF "value" v [])))))))) e6
    refine s_fldV ev_c (ev_var rfl) upd_same T.cl_Contract T.n_Contract_closed (by show 7 < 1000; decide) fun H7 e7 => ?_
    exact kQ _ p1 p2 p3 f1 f2 f3 ne1 ne2 ne3 upd_same (up ne1 e7 (up ne1 e6 g15)) (up ne2 e7 (up ne2 e6 g25)) (up ne3 e7 (up ne3 e6 g35)) (b6.upd e7)
/-! ### award -/
theorem c_award (T : Txt K mg A) : C8.Cal P w K mg base 11 "award" (spOp A (mk_none .award)) [] := by
  have c_is_over : C8.Cal P w K mg base 1 "is_over" (spV (R_is_over A)) [] := c_is_over T
  have c_all_selections : C8.Cal P w K mg base 5 "all_selections" (spP (R_all_selections A)) [] := c_all_selections T
  have c_best_of : C8.Cal P w K mg base 4 "best_of" (spP (R_best_of A)) [] := c_best_of T
  have c_factor_of : C8.Cal P w K mg base 8 "factor_of" (spP (R_factor_of A)) [] := c_factor_of T
  have m_Contract : C8.Mak P w K mg base 1 "Contract" A.Contract (sp_Contract A) [] := m_Contract T
  refine calOf T.d_award sc_award (fun _ _ _ _ _ _ us hl => match us, hl with | [_], _ => rfl) (fun vs H Q E h => ?_) (fun f cdv Ar outer s0 H vs Q E hr h => ?_)
  · obtain ⟨sa, τ, st, c, args, rfl, ⟨rfl, _⟩, _⟩ := h
    rfl
  · obtain ⟨sa, τ, st, c, args, rfl, ⟨rfl, rfl⟩, hst, k⟩ := h
    refine ⟨_, (pss_cons (ps_set (i := 1) sc_award.nd rfl (Or.inl rfl) (pe_fld (pv 0) rfl))
        (pss_cons (ps_if (pt_cmpR op_isN (pv 1) pe_non (nomark _)) (pss_one (ps_ret (pe_lst (pa_cons (pe_gi (by rfl) T.k_MISSING) pa_nil)))) pss_nil)
        (pss_cons (ps_if (pt_not (pt_val (pe_c c_is_over hr (by decide) (by rfl) (pa_cons (pv 0) pa_nil)))) (pss_one (ps_ret (pe_lst (pa_cons (pe_gi (by rfl) T.k_NOT_POSSIBLE) pa_nil)))) pss_nil)
        (pss_cons (ps_set (i := 2) sc_award.nd rfl (Or.inl rfl) (pe_c c_all_selections hr (by decide) (by rfl) (pa_cons (pv 1) pa_nil)))
        (pss_cons (ps_set (i := 3) sc_award.nd rfl (Or.inl rfl) (pe_c c_best_of hr (by decide) (by rfl) (pa_cons (pv 2) pa_nil)))
        (pss_cons (ps_set (i := 4) sc_award.nd rfl (Or.inl rfl) (pe_callB call_len_seq (by rfl) T.b_len boot_len (pa_cons (pe_fld (pv 0) rfl) pa_nil)))
        (pss_cons (ps_if (pt_cmpR op_gt (pe_op op_add (pv 4) (pe_callB call_len_seq (by rfl) T.b_len boot_len (pa_cons (pe_fld (pv 3) rfl) pa_nil))) (pe_gi (by rfl) T.k_MAX_CONTRACTS) (nomark _)) (pss_one (ps_ret (pe_lst (pa_cons (pe_gi (by rfl) T.k_FULL) pa_nil)))) pss_nil)
        (pss_cons (ps_for PassesOwn.never rfl (pi_list (pe_fld (pv 3) rfl)) (pg_name (i := 5) sc_award.nd rfl (Or.inl rfl)) (pss_cons (ps_set (i := 6) sc_award.nd rfl (Or.inl rfl) (pe_c c_factor_of hr (by decide) (by rfl) (pa_cons (pv 1) (pa_cons (pv 2) (pa_cons (pv 5) pa_nil)))))
        (pss_one (ps_expr (pe_bm PySem.F.plainAttrs_list PySem.F.slot_list_append PySem.F.type_list_append mt_append (pe_fld (pv 0) rfl) (pa_cons (pe_mk m_Contract hr (by decide) (by rfl) (pa_cons (pe_ix ix_list (pe_fld (pv 1) rfl) (pv 5) (fun _ _ => rfl)) (pa_cons (pe_fld (pv 0) rfl) (pa_cons (pe_fld (pv 1) rfl) (pa_cons (pv 6) pa_nil))))) pa_nil))))))
        (pss_cons (ps_fld (pv 0) pe_non rfl)
        (pss_one (ps_ret (pe_lst (pa_cons (pe_callB call_len_seq (by rfl) T.b_len boot_len (pa_cons (pe_fld (pv 3) rfl) pa_nil)) (pa_cons (pv 4) pa_nil)))))))))))))), ?_⟩
    obtain ⟨dx, sv, ctA, cas, fl, das, bls, hr⟩ := id hst
    refine q_asg (ev_fld (ev_var rfl) hr.at_ T.cl_State T.n_State_sale lk_State_sale) fun H1 e1 => ?_
    refine q_when (et_isN (ev_var rfl)) (fun hb H2 e2 => ?_) (fun hb H2 e2 => ?_)
    · exact op_same k (e1.trans e2) hst (el_one ev_c) (is := [-3]) (with_none (hr.sale.non (yes hb))) rfl
    obtain ⟨a, s, hsale, rfl, hsa, ok⟩ := hr.sale.is (no hb)
    have e12 := e1.trans e2
    have stp : ∀ {x}, (if acceptsBids st s = true then (st, errorNotPossible) else if 24 < st.contracts.length + s.bestSelection.length then (st, errorCapacity) else
      ({ st with sale := none, contracts := st.contracts ++ s.bestSelection.map (s.contract st.day) }, [(s.bestSelection.length : Int), (st.contracts.length : Int)])) = x → step st .award = x := fun {x} h => (with_some hsale).trans h
    refine q_when (et_not (et_B (ev_callV (ea_cons (ev_var rfl) ea_nil) fun H3 e3 => ⟨sa, τ, st, s, rfl, hst.ex (e12.trans e3), hsale, rfl⟩))) (fun hb H3 e3 => ?_) (fun hb H3 e3 => ?_)
    · refine op_same k (e12.trans e3) hst (el_one ev_c) (is := [-4]) (stp ?_) rfl
      rw [if_pos (by simpa using hb)]
      rfl
    have acc : ¬ acceptsBids st s = true := by simpa using hb
    have e13 := e12.trans e3
    refine q_asgN (P := fun H0 v H4 => ∃ p, v = .ref p ∧ FoundF A (fun b => H0 b = none) H4 s p (gen s s.bids.length)) (en_callX (ea_cons (ev_var rfl) ea_nil) fun H0 H4 e0 e4 => ⟨_, ⟨a, τ, s, rfl, hsa.ex (e13.trans (e0.trans e4)), ok, rfl⟩, fun v H5 e5 ⟨p, hv, hf⟩ => ⟨p, hv, hf.mono fun b h => fresh_back e4 h⟩⟩) fun v H4 e4 ⟨p, hv, hf⟩ => ?_
    subst hv
    have e14 := e13.trans e4
    have hf := hf.mono (B' := fun b => H b = none) fun b h => fresh_back e13 h
    refine q_asgN (P := fun _ v H5 => ∃ b, v = .ref b ∧ SelF A (fun b => H b = none) H5 s b s.bestSelection) (en_call (ea_cons (ev_var rfl) ea_nil) fun H5 e5 => ⟨p, s, _, rfl, hf.ex e5, rfl⟩) fun v H5 e5 ⟨b, hv, hse⟩ => ?_
    subst hv
    have e15 := e14.trans e5
    have hf5 := hf.ex e5
    obtain ⟨bdx, na, ta, ra, hsr, hb0, hb1, hb2, hb3⟩ := hse
    refine q_asg (v := iN st.contracts.length) (ev_is (ev_len (K := K) (ev_fld (ev_var rfl) (e15 _ _ hr.at_) T.cl_State T.n_State_contracts lk_State_contracts) (sq_of (e15 _ _ hr.ct))) (by rw [rL_len, hr.cts.1]; rfl)) fun H6 e6 => ?_
    have e16 := e15.trans e6
    refine q_when (et_test (ev_op (ev_op (ev_var rfl) (ev_len (K := K) (ev_fld (ev_var rfl) (e6 _ _ hsr.at_) T.cl_Selection T.n_Selection_numbers lk_Selection_numbers) (sq_of (e6 _ _ hsr.nums))) rv_I0) ev_c rv_I0)) (fun hb H7 e7 => ?_) (fun hb H7 e7 => ?_)
    · have := yes hb
      rw [iL_len] at this
      refine op_same k (e16.trans e7) hst (el_one ev_c) (is := [-9]) (stp ?_) rfl
      rw [if_neg acc, if_pos (by omega)]
      rfl
    have g1 : ¬ 24 < st.contracts.length + s.bestSelection.length := by
      have := no hb
      rw [iL_len] at this
      omega
    have e17 := e16.trans e7
    have e57 := e6.trans e7
    have hsr7 : SelR A H7 s b s.bestSelection bdx na ta ra := ⟨e57 _ _ hsr.at_, e57 _ _ hsr.nums, e57 _ _ hsr.taken, e57 _ _ hsr.room⟩
    have hf7 := hf5.ex e57
    obtain ⟨sdx, loA, bdA, liA, las, bas, hs⟩ := id hsa
    -- what is new bears 0
    let τ5 : Tg := newTag τ H fun _ => 0
    have fN : Frm (fun t => t = 4) τ H τ5 H7 := .exN e17
    have hr7 : StR A τ5 H7 sa st dx (.ref a) ctA cas fl das bls := hr.frm (S := fun _ => False) (.exN e17) fun _ _ z => z
    have hs7 : SaleR A τ5 H7 a s sdx loA bdA liA las bas := hs.frm (S := fun _ => False) (.exN e17) (fun z => z) (fun z => z) (fun z => z) (fun z => z) fun _ _ z => z
    -- what a part of the loop keeps
    have keepB : ∀ {τ' : Tg} {H' : Hp}, Frm (fun t => t = 4) τ5 H7 τ' H' → ∀ b o, H b = none → H7 b = some o → H' b = some o := fun f b o h0 h => f.kp b o h (by
      show ¬ newTag τ H (fun _ => 0) b = 4
      rw [newTag_new h0]
      decide)
    have hblen := best_len ok
    refine q_forLn (xs := iL s.bestSelection) (ev_fld (ev_var rfl) hsr7.at_ T.cl_Selection T.n_Selection_numbers lk_Selection_numbers) (sq_of hsr7.nums)
      (fun i σ' H' => ∃ y5 y6 τ' cas', σ' = [some (.ref sa), some (.ref a), some (.ref p), some (.ref b), some (iN st.contracts.length), y5, y6] ∧ Frm (fun t => t = 4) τ5 H7 τ' H' ∧ H' ctA = some (.lst (rL cas')) ∧ All2 (ConAt A τ' H') cas' (st.contracts ++ (s.bestSelection.take i).map (s.contract st.day)))
      (fun H8 e8 => ⟨none, none, τ5, cas, rfl, .ex e8, e8 _ _ hr7.ct, ?_⟩) (fun i σ' H' _ ⟨_, _, τ', _, _, f, _, _⟩ => sq_of (keepB f _ _ hb1 hsr7.nums)) ?_ ?_
    · rw [List.take_zero, List.map_nil, List.append_nil]
      exact hr7.cts.imp fun j _ _ _ _ r => r.frm (S := fun _ => False) (.ex e8) (fun z => z) fun z => z
    · rintro i x σ' H8 hx ⟨y5, y6, τ', cas', rfl, f8, hct, hall⟩
      obtain ⟨n, hn, rfl⟩ := iL_inv hx
      have hm : n ∈ s.bestSelection := List.mem_of_getElem? hn
      have hnl := best_lt s hm
      obtain ⟨bd, hbd⟩ : ∃ bd, s.bids[n]? = some bd := ⟨_, List.getElem?_eq_getElem hnl⟩
      have okb := ok.bidAt hbd
      have ebd := bid_at hbd
      have hs8 : SaleR A τ' H8 a s sdx loA bdA liA las bas := hs7.frm f8 (by decide) (by decide) (by decide) (by decide) fun i _ => by omega
      have hst8 := f8.same hr7.at_ hr7.tg (by decide)
      have hfo8 : FoundAt A H8 s p (gen s s.bids.length) := (hf7.keep fun b o h0 h => keepB f8 b o h0 h).at_
      have tct8 : τ' ctA = 4 := by rw [f8.tag _ _ hr7.ct, hr7.tct]
      obtain ⟨ba, hba, ⟨bbdx, la, pa, bba, va, hbr⟩⟩ := hs8.bids.get hbd
      obtain ⟨bpas, tbp, hbp, hbpa⟩ := hbr.bidders
      refine q_asgN (P := fun H0 v H9 => ∃ q, v = .ref q ∧ H0 q = none ∧ H9 q = some (.tup [.int (s.factor n).num, iN (s.factor n).den])) (en_callX (ea_cons (ev_var rfl) (ea_cons (ev_var rfl) (ea_cons (ev_var rfl) ea_nil))) fun H0 H9 e0 e9 => ⟨_, ⟨a, p, τ', s, n, rfl, SaleAt.ex ⟨sdx, loA, bdA, liA, las, bas, hs8⟩ (e0.trans e9), ok, hfo8.ex (e0.trans e9), hm, rfl⟩, fun v H10 e10 ⟨q, hv, nq, hq⟩ => ⟨q, hv, fresh_back e9 nq, hq⟩⟩) fun v H9 e9 ⟨q, hv, nq, hq⟩ => ?_
      subst hv
      refine s_appN (l := ctA) (xs := rL cas') (P := fun H0 v H10 => ∃ x cdx p1 p2 p3, v = .ref x ∧ H0 x = none ∧ H0 p1 = none ∧ H0 p2 = none ∧ H0 p3 = none ∧ H10 x = some (.ins A.Contract cdx (fContract (iN (s.value bd)) (.ref p1) (.ref p2) (.ref p3) (iN st.day) (iN s.advance) (.ref q) (.bl false))) ∧ H10 p1 = some (.lst (iL (totalVolumes s.lots bd.lots))) ∧ H10 p2 = some (.lst (iL bd.prices)) ∧ H10 p3 = some (.lst (rL bpas)))
        (e9 _ _ hct) (ev_fld (ev_var rfl) (e9 _ _ hst8.1) T.cl_State T.n_State_contracts lk_State_contracts)
        (fun H10 e10 Q' q' => make_run ((ea_cons (ev_ixL (K := K) (ev_fld (ev_var rfl) ((e9.trans e10) _ _ hs8.at_) T.cl_Sale T.n_Sale_bids lk_Sale_bids) (ev_var rfl) (sq_of ((e9.trans e10) _ _ hs8.bd)) (rL_get hba)) (ea_cons (ev_fld (ev_var rfl) ((e9.trans e10) _ _ hst8.1) T.cl_State T.n_State_day lk_State_day) (ea_cons (ev_fld (ev_var rfl) ((e9.trans e10) _ _ hs8.at_) T.cl_Sale T.n_Sale_advance lk_Sale_advance) (ea_cons (ev_var rfl) ea_nil)))) H10 (Ex.refl _) _ fun H11 e11 x cdx nx ncdx ne => ?_)) (by rw [rL_len, hall.1, List.length_append, List.length_map]; have := hr.ok.conLen; rw [List.length_take]; omega) ?_
      · have e8' : Ex H8 H11 := (e9.trans e10).trans e11
        have old : ∀ b o, H11 b = some o → (upd (upd H11 cdx (.own x)) x (.ins A.Contract cdx [])) b = some o ∧ b ≠ x := fun b o h => by
          have h1 : b ≠ x := ne_of_none h nx
          exact ⟨by rw [upd_ne h1, upd_ne (ne_of_none h ncdx)]; exact h, h1⟩
        have o1 := old _ _ (e8' _ _ hbr.at_)
        have o2 := old _ _ (e8' _ _ hbr.volumes.2)
        have o3 := old _ _ (e8' _ _ hbr.prices.2)
        have o4 := old _ _ (e8' _ _ hbp)
        refine ⟨x, cdx, ba, iN st.day, iN s.advance, .ref q, bbdx, _, pa, bba, va, _, _, _, _, _, _, rfl, upd_same, o1.1, o2.1, o3.1, o4.1, o1.2, o2.2, o3.2, o4.2, fun H12 p1 p2 p3 m1 m2 m3 _ _ _ hx' h1 h2 h3 bb => ⟨rfl, ?_⟩⟩
        have e12' : Ex H11 H12 := made_ex nx ncdx bb
        exact q' _ H12 (e11.trans e12') ⟨x, cdx, p1, p2, p3, rfl, fresh_back e11 nx, fresh_back e11 (made_new m1).1, fresh_back e11 (made_new m2).1, fresh_back e11 (made_new m3).1, hx', h1, h2, h3⟩
      · rintro v H10 H11 e10 e11 ⟨x, cdx, p1, p2, p3, rfl, nx, n1, n2, n3, hx', h1, h2, h3⟩
        refine nx_run ?_
        have e810 : Ex H8 H10 := e9.trans e10
        have e811 : Ex H8 H11 := e810.trans e11
        let ft : Tg := fun b => if b = x then 100 + cas'.length else 0
        have fM : Frm (fun t => t = 4) τ' H8 (newTag τ' H8 ft) H11 := .exN e811
        have tct : (newTag τ' H8 ft) ctA = 4 := by rw [newTag_old hct]; exact tct8
        have fU : Frm (fun t => t = 4) (newTag τ' H8 ft) H11 (newTag τ' H8 ft) (upd H11 ctA (.lst (rL cas' ++ [.ref x]))) := .upd (e811 _ _ hct) tct
        have up : ∀ p o, H8 p = none → H11 p = some o → (upd H11 ctA (.lst (rL cas' ++ [.ref x]))) p = some o := fun p o n h => by
          rw [upd_ne (fun z => by rw [z, hct] at n; cases n)]
          exact h
        have nx8 := fresh_back e810 nx
        have tg0 : ∀ p o, H8 p = none → H11 p = some o → (∀ b c d, o ≠ .ins b c d) → (newTag τ' H8 ft) p = 0 := fun p o n h no => by
          rw [newTag_new n]
          show (if p = x then _ else _) = 0
          rw [if_neg]
          intro z
          rw [z, hx'] at h
          cases h
          exact no _ _ _ rfl
        have m1 := fresh_back e810 n1
        have m2 := fresh_back e810 n2
        have m3 := fresh_back e810 n3
        have hq' := e11 _ _ (e10 _ _ hq)
        refine ⟨_, _, newTag τ' H8 ft, cas' ++ [x], rfl, (f8.trans fM).trans fU, ?_, ?_⟩
        · rw [upd_same]
          unfold rL
          rw [List.map_append]
          rfl
        · rw [take_snoc hn, List.map_append, ← List.append_assoc]
          refine All2.snoc (hall.imp fun j _ _ _ _ r => (r.frm fM (by decide) (by omega)).frm fU (by decide) (by omega)) ⟨cdx, p1, p2, p3, q, ?_, ?_, ⟨tg0 _ _ m1 h1 (by intro _ _ _ z; cases z), ?_⟩, ⟨tg0 _ _ m2 h2 (by intro _ _ _ z; cases z), ?_⟩, ?_, tg0 _ _ nq hq' (by intro _ _ _ z; cases z), up _ _ nq hq'⟩
          · rw [newTag_new nx8]
            exact if_pos rfl
          · have hval : s.value bd = valueOf (s.contract st.day n).volumes (s.contract st.day n).prices := by
              show valueOf _ _ = valueOf (totalVolumes s.lots (s.bid n).lots) (byGrade (s.bid n).prices)
              rw [ebd, grade_same okb.prLen]
            rw [← hval]
            exact up _ _ nx8 hx'
          · rw [up _ _ m1 h1]
            show some (HO.lst (iL _)) = some (HO.lst (iL (totalVolumes s.lots (s.bid n).lots)))
            rw [ebd]
          · rw [up _ _ m2 h2]
            show some (HO.lst (iL _)) = some (HO.lst (iL (byGrade (s.bid n).prices)))
            rw [ebd, grade_same okb.prLen]
          · show PairsAt _ _ p3 (s.bid n).bidders
            rw [ebd]
            refine ⟨bpas, tg0 _ _ m3 h3 (by intro _ _ _ z; cases z), up _ _ m3 h3, hbpa.imp fun _ t e _ _ r => ?_⟩
            have := (r.go (fM.stp (by decide))).go (fU.stp (by decide))
            exact this
    · rintro σ' H8 ⟨y5, y6, τ', cas', rfl, f8, hct, hall⟩
      rw [iL_len, List.take_length] at hall
      have hst8 := f8.same hr7.at_ hr7.tg (by decide)
      have tct8 : τ' ctA = 4 := by rw [f8.tag _ _ hr7.ct, hr7.tct]
      have hsel8 : SelR A H8 s b s.bestSelection bdx na ta ra := ⟨keepB f8 _ _ hb0 hsr7.at_, keepB f8 _ _ hb1 hsr7.nums, keepB f8 _ _ hb2 hsr7.taken, keepB f8 _ _ hb3 hsr7.room⟩
      refine q_fldV ev_c (ev_var rfl) hst8.1 T.cl_State T.n_State_sale (by show 7 < 1000; decide) fun H9 e9 => ?_
      rw [put_State_sale]
      have fE : Frm (fun t => t = 5) τ' H8 τ' H9 := .ex e9
      have fU : Frm (fun t => t = 5) τ' H9 τ' (upd H9 sa (.ins A.State dx (fState (iN st.day) .non (.ref ctA) (.ref fl.ix) (.ref fl.dl) (.ref fl.bl) (.ref fl.pa)))) := .upd (e9 _ _ hst8.1) hst8.2
      have f9 := fE.trans fU
      have kp : Keeps τ H τ' (upd H9 sa (.ins A.State dx (fState (iN st.day) .non (.ref ctA) (.ref fl.ix) (.ref fl.dl) (.ref fl.bl) (.ref fl.pa)))) := ((fN.trans f8).mono (sk_of (k := 4) (by decide))).trans (f9.mono (sk_of (k := 5) (by decide)))
      have hb9 : (upd H9 sa (.ins A.State dx (fState (iN st.day) .non (.ref ctA) (.ref fl.ix) (.ref fl.dl) (.ref fl.bl) (.ref fl.pa)))) b = some (.ins A.Selection bdx (fSelection (.ref na) (iN (s.totalValue s.bestSelection)) (.ref ta) (.ref ra))) := by
        rw [upd_ne (fun z => by rw [z, hr.at_] at hb0; cases hb0)]
        exact e9 _ _ hsel8.at_
      have hn9 : (upd H9 sa (.ins A.State dx (fState (iN st.day) .non (.ref ctA) (.ref fl.ix) (.ref fl.dl) (.ref fl.bl) (.ref fl.pa)))) na = some (.lst (iL s.bestSelection)) := by
        rw [upd_ne (fun z => by rw [z, hr.at_] at hb1; cases hb1)]
        exact e9 _ _ hsel8.nums
      refine op_done (st' := { st with sale := none, contracts := st.contracts ++ s.bestSelection.map (s.contract st.day) }) (is := [(s.bestSelection.length : Int), (st.contracts.length : Int)]) k kp ⟨dx, .non, ctA, cas', fl, das, bls, ⟨hr.ok.day, ?_, fun c hc => ?_, hr.ok.rest.more (by rw [List.length_append]; omega)⟩, hst8.2, upd_same, rfl, tct8, (f9.same hct tct8 (by decide)).1, hall.imp fun j _ _ _ _ r => r.frm f9 (by decide) (by omega), (((hr.rest.frm fN (by omega) (by omega) (by omega) (by omega) (by omega) (by intro t ht z; omega)).frm f8 (by omega) (by omega) (by omega) (by omega) (by omega) (by intro t ht z; omega)).frm f9 (by omega) (by omega) (by omega) (by omega) (by omega) (by intro t ht z; omega)).more hr.ok.rest (fun i hi => bd_app hi), ((hr.tab.frm fN (by omega) (by omega)).frm f8 (by omega) (by omega)).frm f9 (by omega) (by omega)⟩ (el_lst (ea_cons (ev_len (K := K) (ev_fld (ev_var rfl) hb9 T.cl_Selection T.n_Selection_numbers lk_Selection_numbers) (sq_of hn9)) (ea_cons (ev_var rfl) ea_nil)) (by show 2 ≤ 100000; decide)) (stp ?_) ?_
      · show (st.contracts ++ _).length ≤ 24
        rw [List.length_append, List.length_map]
        omega
      · rcases List.mem_append.mp hc with h | h
        · exact hr.ok.con c h
        · obtain ⟨n, hn, rfl⟩ := List.mem_map.mp h
          have hnl := best_lt s hn
          have hbd : s.bids[n]? = some s.bids[n] := List.getElem?_eq_getElem hnl
          have o := ok.bidAt hbd
          obtain ⟨f1, f2, f3⟩ := factor_ok ok hnl
          have eb := bid_at hbd
          unfold Sale.contract
          rw [eb]
          exact ⟨hr.ok.day, ok.adv, tot_len _ _, fun v hv => Nat.le_trans (tot_le (fun l hl v hv => (ok.lot l hl).2.2 v hv) o.lotsLen.2 v hv) (by decide), grade_len _, byGrade_le o.prLe, o.bdLt, o.bdNd, o.bdLen, f1, f2, f3⟩
      · rw [if_neg acc, if_neg g1]
      · rw [iL_len]
        rfl
end
end TB

namespace TB
open PySem PySem.Spec PyProof.Rows L2 Evl TimberAuction TBM AuctionSpec
open C8 (pe_c pe_mk pe_mt pe_mt0)
theorem val_kv : ∀ {m : List (Nat × Nat)} {e : Nat × Nat}, (m.map (·.1)).Nodup → e ∈ m → valV (m.map kvN) (Sum.inl (e.1 : Int)) = some (iN e.2)
  | [], _, _, h => by cases h
  | x :: m, e, nd, h => by
    obtain ⟨n1, n2⟩ := List.nodup_cons.mp nd
    by_cases z : x.1 = e.1
    · rcases List.mem_cons.mp h with rfl | h
      · exact valV_pos rfl
      · exact absurd (List.mem_map.mpr ⟨e, h, z.symm⟩) n1
    · rcases List.mem_cons.mp h with rfl | h
      · exact absurd rfl z
      · rw [List.map_cons, valV_neg (fun q => z (by have := Sum.inl.inj q; exact_mod_cast this))]
        exact val_kv n2 h
theorem val_none : ∀ {m : List (Nat × Nat)} {d : Nat}, (∀ e ∈ m, e.1 ≠ d) → valV (m.map kvN) (Sum.inl (d : Int)) = none
  | [], _, _ => valV_nil
  | x :: m, d, h => by
    rw [List.map_cons, valV_neg (fun q => h x List.mem_cons_self (by have := Sum.inl.inj q; exact_mod_cast this))]
    exact val_none fun e he => h e (List.mem_cons_of_mem _ he)
section
variable {K : PySem.W.Frag} {σ : L2.St} {H : Hp} {td te : TE} {tt : TT} {d : Addr}
theorem el_keysM {m : List (Nat × Nat)} {j : Nat} {vs : List Nat} (p : Nat × Nat → Bool) (g : Nat × Nat → V) (hd : H d = some (.dK (m.map kvN))) (hz : m.length ≤ 40000) (hw : ∀ x, wipe ((wipe σ vs).set j (some x)) vs = wipe σ vs)
    (h : ∀ H0 od, Ex H H0 → Ev td σ (upd H0 d (.frz od (.dK (m.map kvN)))) (.ref d))
    (ht : ∀ e H1, e ∈ m → EvT tt ((wipe σ vs).set j (some (iN e.1))) H1 (p e)) (he : ∀ e H1, e ∈ m → p e = true → Ev te ((wipe σ vs).set j (some (iN e.1))) H1 (g e)) :
    EvL (tLockE (tLc (iKeys td) (gName j) tt te vs)) σ H ((m.filter p).map g) := by
  rw [← given_of]
  have hl : (m.map kvN).length = m.length := List.length_map ..
  have := el_lcKeys (kvs := m.map kvN) (td := td) (tt := tt) (te := te) (j := j) (vs := vs) (fun i => (m[i]?).elim false p) (fun i => (m[i]?).elim .non g) hd (by rw [hl]; exact hz) hw h (fun i k x H1 hk => ?_) (fun i k x H1 hk hf => ?_)
  · rw [hl] at this
    exact this
  · rw [List.getElem?_map] at hk
    cases hm : m[i]? with
    | none => rw [hm] at hk; cases hk
    | some e =>
      rw [hm] at hk
      cases hk
      exact ht e H1 (List.mem_of_getElem? hm)
  · rw [List.getElem?_map] at hk
    cases hm : m[i]? with
    | none => rw [hm] at hk; cases hk
    | some e =>
      rw [hm] at hk
      cases hk
      refine he e H1 (List.mem_of_getElem? hm) ?_
      have hf : (m[i]?).elim false p = true := hf
      rw [hm] at hf
      exact hf
end
section
variable {P : Program} {w : World} {K : PySem.W.Frag} {mg : Str → Option Value} {base : Heap} {A : Ad}
/-! ### nearest -/
def R_nearest : List V → Hp → V → Prop := fun vs H z => ∃ p a b, vs = [.ref p] ∧ FracAt H p a b ∧ 0 < b ∧ b < 2 ^ 8000 ∧ z = iN (rnd a b)
theorem c_nearest (T : Txt K mg A) : C8.Cal P w K mg base 1 "nearest" (spV R_nearest) [] := by
  refine calOf T.d_nearest sc_nearest (fun _ _ _ _ _ _ us hl => match us, hl with | [_], _ => rfl) (fun vs H Q E h => ?_) (fun f cdv Ar outer s0 H vs Q E hr h => ?_)
  · obtain ⟨_, ⟨p, a, b, rfl, _⟩, _⟩ := h
    rfl
  · obtain ⟨_, ⟨p, a, b, rfl, hp, hb0, hbs, rfl⟩, kQ⟩ := h
    refine ⟨_, (pss_one (ps_ret (pe_op op_fdivW (pe_op op_add (pe_op op_mul pe_int (pe_ix ix_tup (pv 0) pe_int (fun _ _ => rfl))) (pe_ix ix_tup (pv 0) pe_int (fun _ _ => rfl))) (pe_op op_mul pe_int (pe_ix ix_tup (pv 0) pe_int (fun _ _ => rfl)))))), ?_⟩
    have hw : CDivW (2 * (a : Int) + (b : Int)) (2 * (b : Int)) := wide_div (b := 8001) (by omega) (by
      have : (2 * (b : Int)).natAbs = 2 * b := by omega
      rw [this, Nat.pow_succ]
      omega) (by decide) (by decide)
    have ix0 : ∀ {σ : L2.St}, Ev (tVar 0) [some (V.ref p)] H (.ref p) := ev_var rfl
    refine rt_ret (ev_is (ev_op (ev_op (ev_op ev_c (ev_op (ev_var rfl) ev_c (rv_ixT (K := K) (st_of hp) (atI_nat (j := 0) rfl))) (rv_I (.inl ⟨by decide, by decide⟩))) (ev_op (ev_var rfl) ev_c (rv_ixT (K := K) (st_of hp) (atI_nat (j := 1) rfl))) rv_I0) (ev_op ev_c (ev_op (ev_var rfl) ev_c (rv_ixT (K := K) (st_of hp) (atI_nat (j := 1) rfl))) (rv_I (.inl ⟨by decide, by decide⟩))) (rv_I hw)) ?_) kQ
    show V.int ((2 * (a : Int) + (b : Int)) / (2 * (b : Int))) = V.int ((rnd a b : Nat) : Int)
    unfold rnd
    rw [Int.natCast_ediv]
    rfl
/-! ### index_of -/
theorem ev_maxV {σ : L2.St} {H : Hp} {ta : TE} {p : Addr} {ns : List Int} {m : Int} (ha : Ev ta σ H (.ref p)) (hp : H p = some (.lst (ns.map V.int))) (hn : 0 < ns.length) (hm : ∀ x ∈ ns, (∀ y ∈ ns, y ≤ x) → x = m) : Ev (tCB (rMax K) (tCons ta tNil)) σ H (.int m) :=
  ev_cb (ea_cons ha ea_nil) fun H1 e Q q => ⟨p, ns, rfl, sq_of (e _ _ hp), hn, fun x hx hy => by
    rw [hm x hx hy]
    exact q H1 (Ex.refl _)⟩
theorem ix_ne {τ : Tg} {H : Hp} {sa a dx : Addr} {fs : List (Str × V)} {C : Addr} {m : List (Key × V)} (h : H sa = some (.ins C dx fs)) (g : H a = some (.dK m)) : sa ≠ a := ne_of h g (by intro z; cases z)
def R_index_of (A : Ad) : List V → Hp → V → Prop := fun vs H z => ∃ sa τ st d, vs = [.ref sa, iN d] ∧ StAt A τ H sa st ∧ z = iN (indexOn st.indexes d)
theorem c_index_of (T : Txt K mg A) : C8.Cal P w K mg base 1 "index_of" (spV (R_index_of A)) [] := by
  refine calOf T.d_index_of sc_index_of (fun _ _ _ _ _ _ us hl => match us, hl with | [_, _], _ => rfl) (fun vs H Q E h => ?_) (fun f cdv Ar outer s0 H vs Q E hr h => ?_)
  · obtain ⟨_, ⟨sa, τ, st, d, rfl, _⟩, _⟩ := h
    rfl
  · obtain ⟨_, ⟨sa, τ, st, d, rfl, hst, rfl⟩, kQ⟩ := h
    have hu := hu_of hr
    refine ⟨_, (pss_cons (ps_lock (ps_setLc (i := 2) (own := [("known", 3)])  rfl sc_index_of.nd rfl rfl (sw_true rfl rfl rfl (by decide +kernel)) (pi_keys (pe_fld (pv 0) rfl)) (blkOk_by (own := [("known", 3)]) (N := ["state", "day", "days", "known"]) (sc := defScope s_index_of) (by decide +kernel)) (fun _ _ _ _ _ => (pg_name (i := 3) sc_index_of.nd rfl (Or.inl rfl))) (fun _ _ _ _ _ => (pts_one (pt_cmpR op_le (pv 3) (pv 1) (nomark _)))) (fun _ _ _ _ _ => (pv 3))))
        (pss_cons (ps_if (pt_cmpR op_eq (pe_callB call_len_seq (by rfl) T.b_len boot_len (pa_cons (pv 2) pa_nil)) pe_int (nomark _)) (pss_one (ps_ret (pe_gi (by rfl) T.k_INDEX_AT_FIRST))) pss_nil)
        (pss_one (ps_ret (pe_dget hu (pe_fld (pv 0) rfl) (pe_callB (cr_max (by rfl)) (by rfl) T.b_max boot_max (pa_cons (pv 2) pa_nil)) (fun _ _ => rfl)))))), ?_⟩
    obtain ⟨dx, sv, ctA, cas, fl, das, bls, hs⟩ := id hst
    obtain ⟨m, tix, hix, hpm⟩ := hs.rest.ix
    have nd : (m.map (·.1)).Nodup := (hpm.map _).nodup_iff.mpr hs.ok.rest.ixNd
    have hlen : m.length ≤ 16 := by
      rw [hpm.length_eq]
      exact hs.ok.rest.ixLen
    refine q_lockAsgL (el_keysM (fun e => decide (e.1 ≤ d)) (fun e => iN e.1) hix (by omega) (fun _ => rfl) (fun H0 od e0 => ev_fld (ev_var rfl) (by rw [upd_ne (ix_ne (τ := τ) hs.at_ hix)]; exact e0 _ _ hs.at_) T.cl_State T.n_State_index_values lk_State_index_values)
      (fun e H1 he => et_is (et_test (ev_op (ev_var rfl) (ev_var rfl) rv_I0)) (decide_eq_decide.mpr Int.ofNat_le)) fun e H1 he _ => ev_var rfl) fun p H1 np e1 hp => ?_
    have hpe : ((m.filter fun e => decide (e.1 ≤ d)).map fun e => iN e.1) = ((m.filter fun e => decide (e.1 ≤ d)).map fun e => (e.1 : Int)).map V.int := by
      rw [List.map_map]
      rfl
    rw [hpe] at hp
    refine q_when (et_test (ev_op (ev_len (K := K) (ev_var rfl) (sq_of hp)) ev_c (rv_eq rfl))) (fun hb H2 e2 => ?_) (fun hb H2 e2 => ?_)
    · have h0 := V.int.inj (yes hb)
      have h0 : (m.filter fun e => decide (e.1 ≤ d)) = [] := by
        rw [List.length_map, List.length_map] at h0
        exact List.length_eq_zero_iff.mp (by omega)
      refine rt_ret (ev_is ev_c ?_) (RetV.mono kQ (e1.trans e2))
      rcases indexOn_is st.indexes d with ⟨_, h⟩ | ⟨e, he, hd, _⟩
      · rw [h]
        rfl
      · have := List.filter_eq_nil_iff.mp h0 e (hpm.mem_iff.mpr he)
        simp only [decide_eq_true_eq] at this
        exact absurd hd this
    · rcases indexOn_is st.indexes d with ⟨hno, h⟩ | ⟨e, he, hd, hmax, h⟩
      · exfalso
        have : (m.filter fun e => decide (e.1 ≤ d)) = [] := List.filter_eq_nil_iff.mpr fun e he => by
          simp only [decide_eq_true_eq]
          exact hno e (hpm.mem_iff.mp he)
        rw [this] at hb
        exact no hb rfl
      · rw [h] at kQ
        have hme := hpm.mem_iff.mpr he
        have hin : e ∈ m.filter fun e => decide (e.1 ≤ d) := List.mem_filter.mpr ⟨hme, decide_eq_true hd⟩
        refine rt_ret (ev_dget (kvs := m.map kvN) (k := Sum.inl (e.1 : Int)) (ev_fld (ev_var rfl) ((e1.trans e2) _ _ hs.at_) T.cl_State T.n_State_index_values lk_State_index_values) (ev_maxV (K := K) (ev_var rfl) (e2 _ _ hp) ?_ fun x hx hy => ?_) ((e1.trans e2) _ _ hix) (val_kv nd hme)) (RetV.mono kQ (e1.trans e2))
        · rw [List.length_map]
          exact List.length_pos_iff.mpr fun z => by
            rw [z] at hin
            cases hin
        · obtain ⟨y, hy1, rfl⟩ := List.mem_map.mp hx
          obtain ⟨hy2, hy3⟩ := List.mem_filter.mp hy1
          have h1 := hmax y (hpm.mem_iff.mp hy2) (of_decide_eq_true hy3)
          have h2 := hy (e.1 : Int) (List.mem_map.mpr ⟨e, hin, rfl⟩)
          omega
end
end TB

namespace TB
open PySem PySem.Spec PyProof.Rows L2 Evl TimberAuction TBM AuctionSpec
open C8 (pe_c pe_mk pe_mt pe_mt0)
def RatAt (H : Hp) (p : Addr) (q : Rat) : Prop := H p = some (.tup [.int q.num, iN q.den])
theorem price_le {c : Contract} (ok : ConOk c) (g : Nat) : c.prices.getD g 0 ≤ 1000000 := by
  rw [List.getD_eq_getElem?_getD]
  cases h : c.prices[g]? with
  | none => exact Nat.zero_le _
  | some v => exact ok.prLe v (List.mem_of_getElem? h)
theorem cval_le {c : Contract} (ok : ConOk c) : valueOf c.volumes c.prices ≤ 10 ^ 14 := Nat.le_trans (valueOf_le (m := 10000000) (n := 1000000) ok.volLe ok.prLe) (by decide)
section
variable {P : Program} {w : World} {K : PySem.W.Frag} {mg : Str → Option Value} {base : Heap} {A : Ad}
/-! ### estimate_of -/
def R_estimate_of (A : Ad) : List V → Hp → (V → Hp → Prop) → Prop := fun vs H Pz => ∃ a τ j c, vs = [.ref a] ∧ ConAt A τ H j a c ∧ ConOk c ∧ Pz = fun v H2 => ∃ p, v = .ref p ∧ H p = none ∧ RatAt H2 p (estimate c)
theorem c_estimate_of (T : Txt K mg A) : C8.Cal P w K mg base 4 "estimate_of" (spP (R_estimate_of A)) [] := by
  have c_lowest_terms : C8.Cal P w K mg base 3 "lowest_terms" (spP R_lowest_terms) [] := c_lowest_terms T
  refine calOf T.d_estimate_of sc_estimate_of (fun _ _ _ _ _ _ us hl => match us, hl with | [_], _ => rfl) (fun vs H Q E h => ?_) (fun f cdv Ar outer s0 H vs Q E hr h => ?_)
  · obtain ⟨_, ⟨a, τ, j, c, rfl, _⟩, _⟩ := h
    rfl
  · obtain ⟨_, ⟨a, τ, j, c, rfl, ⟨dx, va, pa, ba, fa, hc⟩, ok, rfl⟩, kQ⟩ := h
    refine ⟨_, (pss_cons (ps_set (i := 1) sc_estimate_of.nd rfl (Or.inl rfl) (pe_fld (pv 0) rfl))
        (pss_one (ps_ret (pe_c c_lowest_terms hr (by decide) (by rfl) (pa_cons (pe_op op_mul (pe_fld (pv 0) rfl) (pe_ix ix_tup (pv 1) pe_int (fun _ _ => rfl))) (pa_cons (pe_op op_mul (pe_gi (by rfl) T.k_MILLICENTS) (pe_ix ix_tup (pv 1) pe_int (fun _ _ => rfl))) pa_nil)))))), ?_⟩
    have hv := cval_le ok
    have f0 := ok.f0
    have fN := ok.fN
    have fD := ok.fD
    have fpos := c.factor.den_pos
    obtain ⟨fn, hfn⟩ : ∃ fn : Nat, c.factor.num = (fn : Int) := ⟨c.factor.num.toNat, (Int.toNat_of_nonneg f0).symm⟩
    have hfa := hc.fa
    rw [hfn] at hfa
    refine q_asg (ev_fld (ev_var rfl) hc.at_ T.cl_Contract T.n_Contract_factor lk_Contract_factor) fun H1 e1 => ?_
    refine ret_run (call_run (ea_cons (x := iN (valueOf c.volumes c.prices * fn)) (ev_is (ev_op (ev_fld (ev_var rfl) (e1 _ _ hc.at_) T.cl_Contract T.n_Contract_value lk_Contract_value) (ev_op (ev_var rfl) ev_c (rv_ixT (K := K) (st_of (e1 _ _ hfa)) (atI_nat (j := 0) rfl))) (rv_I (.inl (by omega)))) (by show V.int _ = V.int _; rw [Int.natCast_mul])) (ea_cons (x := iN (1000 * c.factor.den)) (ev_is (ev_op ev_c (ev_op (ev_var rfl) ev_c (rv_ixT (K := K) (st_of (e1 _ _ hfa)) (atI_nat (j := 1) rfl))) (rv_I (.inl ⟨by decide, by decide⟩))) (by show V.int _ = V.int _; rw [Int.natCast_mul]; rfl)) ea_nil) H1 (Ex.refl _) _ fun H2 e2 => ⟨_, ⟨_, _, rfl, by omega, by omega, rfl⟩, fun v H3 e3 hv => ?_⟩))
    obtain ⟨p, rfl, np, hp⟩ := hv
    refine kQ _ H3 ((e1.trans e2).trans e3) ⟨p, rfl, fresh_back (e1.trans e2) np, ?_⟩
    unfold RatAt
    have hpos : 0 < 1000 * c.factor.den := by omega
    obtain ⟨g1, g2⟩ := frac_b (a := valueOf c.volumes c.prices * fn) hpos
    rw [estim_is f0, hfn, Int.toNat_natCast, g1, g2]
    exact hp
/-! ### deliveries_of -/
def DelsAt (A : Ad) (τ : Tg) (H : Hp) (p : Addr) (ds : List Delivery) : Prop := ∃ zs : List (Addr × Delivery), H p = some (.lst (zs.map fun y => .ref y.1)) ∧ zs.map (·.2) = ds ∧ ∀ y ∈ zs, ∃ k, DelAt A τ H k y.1 y.2
theorem DelAt.ex {τ : Tg} {H H' : Hp} {k : Nat} {a : Addr} {d : Delivery} (h : DelAt A τ H k a d) (e : Ex H H') : DelAt A τ H' k a d := by
  obtain ⟨dx, h1, h2⟩ := h
  exact ⟨dx, h1, e _ _ h2⟩
theorem DelsAt.ex {τ : Tg} {H H' : Hp} {p : Addr} {ds : List Delivery} (h : DelsAt A τ H p ds) (e : Ex H H') : DelsAt A τ H' p ds := by
  obtain ⟨zs, h1, h2, h3⟩ := h
  exact ⟨zs, e _ _ h1, h2, fun y hy => let ⟨k, r⟩ := h3 y hy; ⟨k, r.ex e⟩⟩
def R_deliveries_of (A : Ad) : List V → Hp → (V → Hp → Prop) → Prop := fun vs H Pz => ∃ sa τ st n, vs = [.ref sa, iN n] ∧ StAt A τ H sa st ∧ Pz = fun v H2 => ∃ p, v = .ref p ∧ H p = none ∧ DelsAt A τ H2 p (st.deliveries.filter fun (d : Delivery) => d.contract == n)
theorem c_deliveries_of (T : Txt K mg A) : C8.Cal P w K mg base 1 "deliveries_of" (spP (R_deliveries_of A)) [] := by
  refine calOf T.d_deliveries_of sc_deliveries_of (fun _ _ _ _ _ _ us hl => match us, hl with | [_, _], _ => rfl) (fun vs H Q E h => ?_) (fun f cdv Ar outer s0 H vs Q E hr h => ?_)
  · obtain ⟨_, ⟨sa, τ, st, n, rfl, _⟩, _⟩ := h
    rfl
  · obtain ⟨_, ⟨sa, τ, st, n, rfl, hst, rfl⟩, kQ⟩ := h
    refine ⟨_, (pss_one (ps_ret (pe_lc (own := [("delivery", 2)])  rfl sc_deliveries_of.nd (pi_list (pe_fld (pv 0) rfl)) (blkOk_by (own := [("delivery", 2)]) (N := ["state", "number", "delivery"]) (sc := defScope s_deliveries_of) (by decide +kernel)) (fun _ _ _ _ _ => (pg_name (i := 2) sc_deliveries_of.nd rfl (Or.inl rfl))) (fun _ _ _ _ _ => (pts_one (pt_cmpR op_eq (pe_fldB (K := K) (by rfl) (pv 2) (by rfl)) (pv 1) (nomark _)))) (fun _ _ _ _ _ => (pv 2))))), ?_⟩
    obtain ⟨dx, sv, ctA, cas, fl, das, bls, hs⟩ := id hst
    have hlen := hs.rest.dels.1
    have hle := hs.ok.rest.dlLen
    have hzl : (das.zip st.deliveries).length = das.length := by rw [List.length_zip, hlen, Nat.min_self]
    have look : ∀ {i : Nat} {x : V} {y : Addr × Delivery}, (rL das)[i]? = some x → (das.zip st.deliveries)[i]? = some y → x = .ref y.1 ∧ DelAt A τ H i y.1 y.2 := fun {i x y} hx hy => by
      obtain ⟨a, ha, rfl⟩ := rL_inv hx
      obtain ⟨h1, h2⟩ := List.getElem?_zip_eq_some.mp hy
      rw [ha] at h1
      cases h1
      exact ⟨rfl, hs.rest.dels.2 i _ _ ha h2⟩
    refine s_retL (el_comp (K := K) (das.zip st.deliveries) (fun y => y.2.contract == n) (fun y => .ref y.1) (ev_fld (ev_var rfl) hs.at_ T.cl_State T.n_State_deliveries lk_State_deliveries) (sq_of hs.rest.dl) (by rw [rL_len, hzl]) (by rw [rL_len]; omega) (fun _ => rfl)
      (fun i x y H1 e1 hx hy => ?_) (fun i x y H1 e1 hx hy _ => ?_)) fun p H1 np e1 hp => ?_
    · obtain ⟨rfl, ddx, _, hd⟩ := look hx hy
      refine et_is (et_test (ev_op (ev_fld (ev_var rfl) (e1 _ _ hd) T.cl_Delivery T.n_Delivery_contract lk_Delivery_contract) (ev_var rfl) (rv_eq rfl))) ?_
      show decide (V.int _ = V.int _) = (y.2.contract == n)
      rw [Bool.eq_iff_iff]
      simp only [decide_eq_true_eq, beq_iff_eq, V.int.injEq]
      omega
    · obtain ⟨rfl, _⟩ := look hx hy
      exact ev_var rfl
    · refine kQ _ H1 e1 ⟨p, rfl, np, (das.zip st.deliveries).filter (fun y => y.2.contract == n), hp, ?_, fun y hy => ?_⟩
      · have : (fun (y : Addr × Delivery) => y.2.contract == n) = (fun (d : Delivery) => d.contract == n) ∘ (fun y : Addr × Delivery => y.2) := rfl
        rw [this, ← List.filter_map]
        congr 1
        exact List.map_snd_zip (by omega)
      · obtain ⟨i, hi⟩ := List.mem_iff_getElem?.mp (List.mem_filter.mp hy).1
        obtain ⟨h1, h2⟩ := List.getElem?_zip_eq_some.mp hi
        exact ⟨i, (hs.rest.dels.2 i _ _ h1 h2).ex e1⟩
end
end TB

namespace TB
open PySem PySem.Spec PyProof.Rows L2 Evl TimberAuction TBM AuctionSpec
open C8 (pe_c pe_mk pe_mt pe_mt0)
section
variable {K : PySem.W.Frag} {σ : L2.St} {H : Hp} {D : Ends} {tu tz : TS} {tl te : TE} {j : Nat} {Pc : Hp → V → Hp → Prop}
/-- for x in e: .., e a list that is made -/
theorem q_forN (h : EvN tl σ H Pc) (k : ∀ v H1, Ex H H1 → Pc H v H1 → ∃ (a : Addr) (xs : List V) (Pv : Nat → L2.St → Hp → Prop), v = .ref a ∧ SqL K H1 a xs ∧ Pv 0 σ H1 ∧ (∀ i σ' H', i ≤ xs.length → Pv i σ' H' → SqL K H' a xs) ∧
      (∀ i x σ' H', xs[i]? = some x → Pv i σ' H' → ∀ D' : Ends, D'.nx = Pv (i + 1) → tu D' (σ'.set j (some x)) H') ∧ (∀ σ' H', Pv xs.length σ' H' → tz D σ' H')) : tSeq (tFor (iList K tl) (gName j) tu) tz D σ H :=
  h H (Ex.refl H) _ fun v H1 e p => by
    obtain ⟨a, xs, Pv, h1, h2, h3, h4, h5, h6⟩ := k v H1 e p
    exact ⟨a, h1, ⟨xs, h2⟩, for_it (walk_list (K := K) (a := a) (xs := xs)) Pv h3 (fun i σ' H' hi p => h4 i σ' H' hi p) (fun i x σ' H' H2 hi p ⟨e2, hx⟩ => by
      subst e2
      exact h5 i x σ' _ hx p _ rfl) h6⟩
theorem nat_get {l : List Nat} {i n : Nat} (hl : l.length = n) (hi : i < n) : l[i]? = some (l.getD i 0) := by
  rw [List.getD_eq_getElem?_getD, List.getElem?_eq_getElem (by omega)]
  rfl
end
section
variable {P : Program} {w : World} {K : PySem.W.Frag} {mg : Str → Option Value} {base : Heap} {A : Ad}
/-! ### delivered_of -/
def R_delivered_of (A : Ad) : List V → Hp → (V → Hp → Prop) → Prop := fun vs H Pz => ∃ sa τ st n c, vs = [.ref sa, iN n] ∧ StAt A τ H sa st ∧ st.contracts[n]? = some c ∧ Pz = fun v H2 => ∃ p, v = .ref p ∧ H p = none ∧ RatAt H2 p (deliveredValue st.indexes st.deliveries n c)
theorem c_delivered_of (T : Txt K mg A) : C8.Cal P w K mg base 4 "delivered_of" (spP (R_delivered_of A)) [] := by
  have c_lowest_terms : C8.Cal P w K mg base 3 "lowest_terms" (spP R_lowest_terms) [] := c_lowest_terms T
  have c_index_of : C8.Cal P w K mg base 1 "index_of" (spV (R_index_of A)) [] := c_index_of T
  have c_deliveries_of : C8.Cal P w K mg base 1 "deliveries_of" (spP (R_deliveries_of A)) [] := c_deliveries_of T
  refine calOf T.d_delivered_of sc_delivered_of (fun _ _ _ _ _ _ us hl => match us, hl with | [_, _], _ => rfl) (fun vs H Q E h => ?_) (fun f cdv Ar outer s0 H vs Q E hr h => ?_)
  · obtain ⟨_, ⟨sa, τ, st, n, c, rfl, _⟩, _⟩ := h
    rfl
  · obtain ⟨_, ⟨sa, τ, st, n, c, rfl, hst, hcn, rfl⟩, kQ⟩ := h
    refine ⟨_, (pss_cons (ps_set (i := 2) sc_delivered_of.nd rfl (Or.inl rfl) (pe_ix ix_list (pe_fld (pv 0) rfl) (pv 1) (fun _ _ => rfl)))
        (pss_cons (ps_set (i := 3) sc_delivered_of.nd rfl (Or.inl rfl) (pe_fld (pv 2) rfl))
        (pss_cons (ps_set (i := 4) sc_delivered_of.nd rfl (Or.inl rfl) pe_int)
        (pss_cons (ps_for PassesOwn.never rfl (pi_list (pe_c c_deliveries_of hr (by decide) (by rfl) (pa_cons (pv 0) (pa_cons (pv 1) pa_nil)))) (pg_name (i := 5) sc_delivered_of.nd rfl (Or.inl rfl)) (pss_one (ps_aug (i := 4) sc_delivered_of.nd rfl (Or.inl rfl) (pe_op op_mul (pe_op op_mul (pe_fld (pv 5) rfl) (pe_ix ix_list (pe_fld (pv 2) rfl) (pe_fld (pv 5) rfl) (fun _ _ => rfl))) (pe_c c_index_of hr (by decide) (by rfl) (pa_cons (pv 0) (pa_cons (pe_fld (pv 5) rfl) pa_nil)))) ip_add)))
        (pss_one (ps_ret (pe_c c_lowest_terms hr (by decide) (by rfl) (pa_cons (pe_op op_mul (pv 4) (pe_ix ix_tup (pv 3) pe_int (fun _ _ => rfl))) (pa_cons (pe_op op_mul (pe_op op_mul (pe_c c_index_of hr (by decide) (by rfl) (pa_cons (pv 0) (pa_cons (pe_fld (pv 2) rfl) pa_nil))) (pe_ix ix_tup (pv 3) pe_int (fun _ _ => rfl))) (pe_gi (by rfl) T.k_MILLICENTS)) pa_nil))))))))), ?_⟩
    obtain ⟨dx, sv, ctA, cas, fl, das, bls, hs⟩ := id hst
    obtain ⟨ca, hca, cdx, va, pa, ba, fa, hc⟩ := hs.cts.get hcn
    have ok := hs.ok.con c (List.mem_of_getElem? hcn)
    have f0 := ok.f0
    have fN := ok.fN
    have fD := ok.fD
    have fpos := c.factor.den_pos
    obtain ⟨fn, hfn⟩ : ∃ fn : Nat, c.factor.num = (fn : Int) := ⟨c.factor.num.toNat, (Int.toNat_of_nonneg f0).symm⟩
    have hfa := hc.fa
    rw [hfn] at hfa
    have ilo : ∀ d, 0 < indexOn st.indexes d := index_pos fun e he => by have := hs.ok.rest.ixLe e he; omega
    have ihi : ∀ d, indexOn st.indexes d ≤ 10000 := index_le fun e he => (hs.ok.rest.ixLe e he).2.2
    refine q_asg (v := .ref ca) (ev_ixL (K := K) (ev_fld (ev_var rfl) hs.at_ T.cl_State T.n_State_contracts lk_State_contracts) (ev_var rfl) (sq_of hs.ct) (rL_get hca)) fun H1 e1 => ?_
    refine q_asg (ev_fld (ev_var rfl) (e1 _ _ hc.at_) T.cl_Contract T.n_Contract_factor lk_Contract_factor) fun H2 e2 => ?_
    refine q_asg ev_c fun H3 e3 => ?_
    have e13 := (e1.trans e2).trans e3
    refine q_forN (Pc := fun H0 v H4 => ∃ p, v = .ref p ∧ H0 p = none ∧ DelsAt A τ H4 p (st.deliveries.filter fun (d : Delivery) => d.contract == n)) (en_callX (ea_cons (ev_var rfl) (ea_cons (ev_var rfl) ea_nil)) fun H0 H4 e0 e4 => ⟨_, ⟨sa, τ, st, n, rfl, hst.ex (e13.trans (e0.trans e4)), rfl⟩, fun v H5 e5 ⟨p, hv, np, hd⟩ => ⟨p, hv, fresh_back e4 np, hd⟩⟩) fun v H4 e4 hv => ?_
    obtain ⟨p, rfl, np, zs, hp, hzs, hzd⟩ := hv
    have e14 := e13.trans e4
    refine ⟨p, _, fun i σ' H' => ∃ y5, σ' = [some (.ref sa), some (iN n), some (.ref ca), some (.ref fa), some (iN (delSum st.indexes c ((zs.take i).map (·.2)))), y5] ∧ Ex H4 H', rfl, sq_of hp, ⟨none, rfl, Ex.refl _⟩, fun i σ' H' _ ⟨_, _, e⟩ => sq_of (e _ _ hp), fun i x σ' H' hx ⟨y5, es, e5⟩ D' hD => ?_, fun σ' H' ⟨y5, es, e5⟩ => ?_⟩
    · subst es
      obtain ⟨y, hy, rfl⟩ : ∃ y, zs[i]? = some y ∧ x = .ref y.1 := by
        rw [List.getElem?_map] at hx
        obtain ⟨y, h1, h2⟩ := Option.map_eq_some_iff.mp hx
        exact ⟨y, h1, h2.symm⟩
      obtain ⟨k, hdel⟩ := hzd y (List.mem_of_getElem? hy)
      obtain ⟨ddx, _, hd⟩ := hdel.ex e5
      have hmem : y.2 ∈ st.deliveries := by
        have : y.2 ∈ zs.map (·.2) := List.mem_map.mpr ⟨y, List.mem_of_getElem? hy, rfl⟩
        rw [hzs] at this
        exact (List.mem_filter.mp this).1
      have hle := hs.ok.rest.dlLe y.2 hmem
      have hpr : c.prices[y.2.grade]? = some (c.prices.getD y.2.grade 0) := nat_get ok.prLen (by omega)
      have hp6 := price_le ok y.2.grade
      have hprod : y.2.volume * c.prices.getD y.2.grade 0 ≤ 1000000 * 1000000 := Nat.mul_le_mul hle.2.2.2 hp6
      have e15 := e14.trans e5
      refine s_aug (D := D') (a := ((delSum st.indexes c ((zs.take i).map (·.2)) : Nat) : Int)) (b := ((y.2.volume * c.prices.getD y.2.grade 0 * indexOn st.indexes y.2.day : Nat) : Int)) rfl (ev_is (ev_op (x := iN (y.2.volume * c.prices.getD y.2.grade 0)) (y := iN (indexOn st.indexes y.2.day)) (ev_is (ev_op (ev_fld (ev_var rfl) hd T.cl_Delivery T.n_Delivery_volume lk_Delivery_volume) (ev_ixL (K := K) (ev_fld (ev_var rfl) (e15 _ _ hc.at_) T.cl_Contract T.n_Contract_prices lk_Contract_prices) (ev_fld (ev_var rfl) hd T.cl_Delivery T.n_Delivery_grade lk_Delivery_grade) (sq_of (e15 _ _ hc.prices.2)) (iL_get hpr)) (rv_I (.inl ⟨by omega, by omega⟩))) (by show V.int _ = V.int _; rw [Int.natCast_mul]))
        (ev_callV (ea_cons (ev_var rfl) (ea_cons (ev_fld (ev_var rfl) hd T.cl_Delivery T.n_Delivery_day lk_Delivery_day) ea_nil)) fun H6 e6 => ⟨sa, τ, st, y.2.day, rfl, hst.ex (e15.trans e6), rfl⟩) (rv_I (.inl ⟨by omega, by omega⟩))) (by show V.int _ = V.int _; rw [Int.natCast_mul (y.2.volume * c.prices.getD y.2.grade 0)])) fun H6 e6 => ?_
      rw [hD]
      refine ⟨some (.ref y.1), ?_, e5.trans e6⟩
      rw [take_snoc hy, List.map_append, List.map_singleton, delSum_snoc]
      rfl
    · subst es
      rw [List.length_map, List.take_length, hzs]
      have e15 := e14.trans e5
      have hsum : delSum st.indexes c (st.deliveries.filter fun (d : Delivery) => d.contract == n) ≤ 64 * 10000000000000000 := by
        have h1 := delSum_le (ixs := st.indexes) (c := c) (fun g => price_le ok g) ihi (l := st.deliveries.filter fun (d : Delivery) => d.contract == n) fun d hd => (hs.ok.rest.dlLe d (List.mem_filter.mp hd).1).2.2.2
        have h2 := List.length_filter_le (fun (d : Delivery) => d.contract == n) st.deliveries
        have h3 := hs.ok.rest.dlLen
        refine Nat.le_trans h1 (Nat.mul_le_mul_right _ (by omega))
      have hi0 := ilo c.day
      have hi1 := ihi c.day
      have hden : 0 < indexOn st.indexes c.day * c.factor.den * 1000 := Nat.mul_pos (Nat.mul_pos hi0 fpos) (by decide)
      have hden2 : indexOn st.indexes c.day * c.factor.den * 1000 ≤ 10000 * 2 ^ 64 * 1000 := Nat.mul_le_mul_right _ (Nat.mul_le_mul hi1 (Nat.le_of_lt fD))
      have e15c := e15 _ _ hc.at_
      refine ret_run (call_run (ea_cons (x := iN (delSum st.indexes c (st.deliveries.filter fun (d : Delivery) => d.contract == n) * fn)) (ev_is (ev_op (ev_var rfl) (ev_op (ev_var rfl) ev_c (rv_ixT (K := K) (st_of (e15 _ _ hfa)) (atI_nat (j := 0) rfl))) (rv_I (.inl ⟨by omega, by omega⟩))) (by show V.int _ = V.int _; rw [Int.natCast_mul]))
        (ea_cons (x := iN (indexOn st.indexes c.day * c.factor.den * 1000)) (ev_is (ev_op (x := iN (indexOn st.indexes c.day * c.factor.den)) (ev_is (ev_op (ev_callV (z := iN (indexOn st.indexes c.day)) (ea_cons (ev_var rfl) (ea_cons (ev_fld (ev_var rfl) e15c T.cl_Contract T.n_Contract_day lk_Contract_day) ea_nil)) fun H6 e6 => ⟨sa, τ, st, c.day, rfl, hst.ex (e15.trans e6), rfl⟩) (ev_op (ev_var rfl) ev_c (rv_ixT (K := K) (st_of (e15 _ _ hfa)) (atI_nat (j := 1) rfl))) (rv_I (.inl ⟨by omega, by omega⟩))) (by show V.int _ = V.int _; rw [Int.natCast_mul])) ev_c (rv_I (.inr ⟨by decide, by decide⟩))) (by show V.int _ = V.int _; rw [Int.natCast_mul (indexOn st.indexes c.day * c.factor.den)]; rfl)) ea_nil) H' (Ex.refl _) _ fun H6 e6 => ⟨_, ⟨_, _, rfl, hden, Nat.lt_of_le_of_lt hden2 (by decide), rfl⟩, fun v H7 e7 hv => ?_⟩))
      obtain ⟨q, rfl, nq, hq⟩ := hv
      refine kQ _ H7 ((e15.trans e6).trans e7) ⟨q, rfl, fresh_back (e15.trans e6) nq, ?_⟩
      unfold RatAt
      have hdv := deliv_is (ixs := st.indexes) (ds := st.deliveries) (number := n) f0 hi0
      rw [delTop_is, hfn, Int.toNat_natCast, show indexOn st.indexes c.day * (1000 * c.factor.den) = indexOn st.indexes c.day * c.factor.den * 1000 by rw [Nat.mul_comm 1000, Nat.mul_assoc]] at hdv
      obtain ⟨g1, g2⟩ := frac_b (a := delSum st.indexes c (st.deliveries.filter fun (d : Delivery) => d.contract == n) * fn) hden
      rw [hdv, g1, g2]
      exact hq
end
end TB

namespace TB
open PySem PySem.Spec PyProof.Rows L2 Evl TimberAuction TBM AuctionSpec LamX
open C8 (pe_c pe_mk pe_mt pe_mt0)
section
variable {K : PySem.W.Frag} {σ : L2.St} {H : Hp} {te : TE} {z : V}
theorem ev_call1N {R : List V → Hp → V → Prop} {E : XK} {Pc : Hp → V → Hp → Prop} (h : EvN te σ H Pc) (hr : ∀ v H0 H1, Ex H H0 → Ex H0 H1 → Pc H0 v H1 → R [v] H1 z) : Ev (tCall (spV R) [] E (tCons te tNil)) σ H z := fun H1 e Q q =>
  h H1 e _ fun v H2 e2 p => ⟨z, hr v H1 H2 e e2 p, fun H3 e3 => q H3 (e2.trans e3)⟩
theorem ev_call1U {R : List V → Hp → V → Prop} {E : XK} {xs : List V} (h : EvU te σ H xs) (hr : ∀ p H1, Ex H H1 → H1 p = some (.tup xs) → R [.ref p] H1 z) : Ev (tCall (spV R) [] E (tCons te tNil)) σ H z := fun H1 e Q q =>
  h H1 e _ fun p H2 np e2 hp => ⟨z, hr p H2 (e.trans e2) hp, fun H3 e3 => q H3 (e2.trans e3)⟩
theorem ev_sumV {p : Addr} {ns : List Int} (ha : Ev te σ H (.ref p)) (hp : H p = some (.lst (ns.map V.int))) : Ev (tCB (rSum K) (tCons te tNil)) σ H (.int ns.sum) :=
  ev_cb (ea_cons ha ea_nil) fun H1 e Q q => ⟨p, ns, rfl, sq_of (e _ _ hp), q H1 (Ex.refl _)⟩
end
theorem ConAt.ex {A : Ad} {τ : Tg} {H H' : Hp} {j : Nat} {a : Addr} {c : Contract} (h : ConAt A τ H j a c) (e : Ex H H') : ConAt A τ H' j a c := h.frm (S := fun _ => False) (.ex e) (fun z => z) fun z => z
section
variable {P : Program} {w : World} {K : PySem.W.Frag} {mg : Str → Option Value} {base : Heap} {A : Ad}
/-! ### due_of -/
theorem big1 : 10000 * (1000 * 2 ^ 64) < 2 ^ 8000 := by decide +kernel
theorem big2 {x : Nat} (h : x ≤ 1000 * 2 ^ 64) : x * 1000 < 2 ^ 8000 := Nat.lt_of_le_of_lt (Nat.mul_le_mul_right 1000 h) (by decide +kernel)
def R_due_of (A : Ad) : List V → Hp → V → Prop := fun vs H z => ∃ sa τ st n c, vs = [.ref sa, iN n] ∧ StAt A τ H sa st ∧ st.contracts[n]? = some c ∧ z = iN (amountDue st.indexes st.deliveries n c)
theorem c_due_of (T : Txt K mg A) : C8.Cal P w K mg base 5 "due_of" (spV (R_due_of A)) [] := by
  have c_nearest : C8.Cal P w K mg base 1 "nearest" (spV R_nearest) [] := c_nearest T
  have c_estimate_of : C8.Cal P w K mg base 4 "estimate_of" (spP (R_estimate_of A)) [] := c_estimate_of T
  have c_delivered_of : C8.Cal P w K mg base 4 "delivered_of" (spP (R_delivered_of A)) [] := c_delivered_of T
  refine calOf T.d_due_of sc_due_of (fun _ _ _ _ _ _ us hl => match us, hl with | [_, _], _ => rfl) (fun vs H Q E h => ?_) (fun f cdv Ar outer s0 H vs Q E hr h => ?_)
  · obtain ⟨_, ⟨sa, τ, st, n, c, rfl, _⟩, _⟩ := h
    rfl
  · obtain ⟨_, ⟨sa, τ, st, n, c, rfl, hst, hcn, rfl⟩, kQ⟩ := h
    refine ⟨_, (pss_cons (ps_set (i := 2) sc_due_of.nd rfl (Or.inl rfl) (pe_ix ix_list (pe_fld (pv 0) rfl) (pv 1) (fun _ _ => rfl)))
        (pss_cons (ps_set (i := 3) sc_due_of.nd rfl (Or.inl rfl) (pe_c c_nearest hr (by decide) (by rfl) (pa_cons (pe_c c_delivered_of hr (by decide) (by rfl) (pa_cons (pv 0) (pa_cons (pv 1) pa_nil))) pa_nil)))
        (pss_cons (ps_if (pt_val (pe_fld (pv 2) rfl)) (pss_one (ps_ret (pv 3))) pss_nil)
        (pss_cons (ps_set (i := 4) sc_due_of.nd rfl (Or.inl rfl) (pe_c c_estimate_of hr (by decide) (by rfl) (pa_cons (pv 2) pa_nil)))
        (pss_one (ps_ret (pe_callB (call_max2 (by rfl)) (by rfl) T.b_max boot_max (pa_cons (pv 3) (pa_cons (pe_c c_nearest hr (by decide) (by rfl) (pa_cons (pe_tup (pa_cons (pe_op op_mul (pe_ix ix_tup (pv 4) pe_int (fun _ _ => rfl)) (pe_fld (pv 2) rfl)) (pa_cons (pe_op op_mul (pe_ix ix_tup (pv 4) pe_int (fun _ _ => rfl)) (pe_gi (by rfl) T.k_THOUSANDTHS)) pa_nil))) pa_nil)) pa_nil))))))))), ?_⟩
    obtain ⟨dx, sv, ctA, cas, fl, das, bls, hs⟩ := id hst
    obtain ⟨ca, hca, cdx, va, pa, ba, fa, hc⟩ := hs.cts.get hcn
    have ok := hs.ok.con c (List.mem_of_getElem? hcn)
    have fD := ok.fD
    have ilo : 0 < indexOn st.indexes c.day := index_pos (fun e he => by have := hs.ok.rest.ixLe e he; omega) _
    have ihi : indexOn st.indexes c.day ≤ 10000 := index_le (fun e he => (hs.ok.rest.ixLe e he).2.2) _
    obtain ⟨d0, d1⟩ := del_bd (ixs := st.indexes) (ds := st.deliveries) (n := n) ok.f0 ilo
    obtain ⟨s0', s1⟩ := est_bd (c := c) ok.f0
    have d2 : indexOn st.indexes c.day * (1000 * c.factor.den) ≤ 10000 * (1000 * 2 ^ 64) := Nat.mul_le_mul ihi (by omega)
    have due := due_near d0 s0'
    have epos := (estimate c).den_pos
    have dpos := (deliveredValue st.indexes st.deliveries n c).den_pos
    have adv := ok.adv
    refine q_asg (v := .ref ca) (ev_ixL (K := K) (ev_fld (ev_var rfl) hs.at_ T.cl_State T.n_State_contracts lk_State_contracts) (ev_var rfl) (sq_of hs.ct) (rL_get hca)) fun H1 e1 => ?_
    refine q_asg (v := iN (rnd (deliveredValue st.indexes st.deliveries n c).num.toNat (deliveredValue st.indexes st.deliveries n c).den)) (ev_call1N (Pc := fun _ v H2 => ∃ p, v = .ref p ∧ RatAt H2 p (deliveredValue st.indexes st.deliveries n c)) (en_callX (ea_cons (ev_var rfl) (ea_cons (ev_var rfl) ea_nil)) fun H0 H2 e0 e2 => ⟨_, ⟨sa, τ, st, n, c, rfl, hst.ex (e1.trans (e0.trans e2)), hcn, rfl⟩, fun v H3 e3 ⟨p, hv, _, hp⟩ => ⟨p, hv, hp⟩⟩) fun v H0 H2 e0 e2 hv => ?_) fun H2 e2 => ?_
    · obtain ⟨p, rfl, hp⟩ := hv
      refine ⟨p, _, _, rfl, ?_, dpos, Nat.lt_of_le_of_lt (Nat.le_trans d1 d2) big1, rfl⟩
      unfold FracAt
      rw [show iN (deliveredValue st.indexes st.deliveries n c).num.toNat = .int (deliveredValue st.indexes st.deliveries n c).num from congrArg V.int (Int.toNat_of_nonneg d0)]
      exact hp
    have e12 := e1.trans e2
    refine q_when (et_B (ev_fld (ev_var rfl) (e12 _ _ hc.at_) T.cl_Contract T.n_Contract_closed lk_Contract_closed)) (fun hb H3 e3 => ?_) (fun hb H3 e3 => ?_)
    · refine rt_ret (ev_is (ev_var rfl) ?_) (RetV.mono kQ (e12.trans e3))
      rw [due, if_pos hb]
    · have e13 := e12.trans e3
      refine q_asgN (P := fun _ v H4 => ∃ p, v = .ref p ∧ RatAt H4 p (estimate c)) (en_callX (ea_cons (ev_var rfl) ea_nil) fun H0 H4 e0 e4 => ⟨_, ⟨ca, τ, n, c, rfl, ConAt.ex ⟨cdx, va, pa, ba, fa, hc⟩ (e13.trans (e0.trans e4)), ok, rfl⟩, fun v H5 e5 ⟨p, hv, _, hp⟩ => ⟨p, hv, hp⟩⟩) fun v H4 e4 ⟨p, hv, hp⟩ => ?_
      subst hv
      have e14 := e13.trans e4
      have hp' : FracAt H4 p (estimate c).num.toNat (estimate c).den := by
        unfold FracAt
        rw [show iN (estimate c).num.toNat = .int (estimate c).num from congrArg V.int (Int.toNat_of_nonneg s0')]
        exact hp
      have hmax := ev_max2 (i := ((rnd (deliveredValue st.indexes st.deliveries n c).num.toNat (deliveredValue st.indexes st.deliveries n c).den : Nat) : Int)) (j := ((rnd ((estimate c).num.toNat * c.advance) ((estimate c).den * 1000) : Nat) : Int)) (H := H4) (σ := [some (.ref sa), some (iN n), some (.ref ca), some (iN (rnd (deliveredValue st.indexes st.deliveries n c).num.toNat (deliveredValue st.indexes st.deliveries n c).den)), some (.ref p)]) (ta := tVar 3) (ev_var rfl) (ev_call1U (R := R_nearest) (E := fun _ _ _ => False) (xs := [iN ((estimate c).num.toNat * c.advance), iN ((estimate c).den * 1000)])
        (eu_tup (ea_cons (ev_is (ev_op (ev_op (ev_var (i := 4) rfl) ev_c (rv_ixT (K := K) (st_of hp') (atI_nat (j := 0) rfl))) (ev_fld (ev_var (i := 2) rfl) (e14 _ _ hc.at_) T.cl_Contract T.n_Contract_advance lk_Contract_advance) (rv_I (C := CMul) (g := fun i j => .int (i * j)) (.inr ⟨by omega, by omega⟩))) (by show V.int _ = V.int _; rw [Int.natCast_mul])) (ea_cons (ev_is (ev_op (ev_op (ev_var (i := 4) rfl) ev_c (rv_ixT (K := K) (st_of hp') (atI_nat (j := 1) rfl))) ev_c (rv_I (C := CMul) (g := fun i j => .int (i * j)) (i := (((estimate c).den : Nat) : Int)) (j := 1000) (.inr ⟨by decide, by decide⟩))) (by show V.int _ = V.int _; rw [Int.natCast_mul]; rfl)) ea_nil)) (by show 2 ≤ 100000; decide)) fun q H5 e5 hq => ⟨q, _, _, rfl, hq, by omega, big2 (by omega), rfl⟩)
      refine rt_ret (ev_is hmax ?_) (RetV.mono kQ e14)
      rw [if_neg (by rw [hb]; exact Bool.false_ne_true)] at due
      rw [due]
      refine congrArg V.int ?_
      generalize rnd (deliveredValue st.indexes st.deliveries n c).num.toNat (deliveredValue st.indexes st.deliveries n c).den = x
      generalize rnd ((estimate c).num.toNat * c.advance) ((estimate c).den * 1000) = y
      split <;> omega
end
end TB

namespace TB
open PySem PySem.Spec PyProof.Rows L2 Evl TimberAuction TBM AuctionSpec LamX
open C8 (pe_c pe_mk pe_mt pe_mt0)
theorem cut_pre {l : List Nat} {n : Nat} : cutV (iL l) none (some (n : Int)) = iL (l.take n) := by
  unfold cutV
  have h0 : HT.sIx (iL l).length 0 none = 0 := rfl
  have h1 : HT.sIx (iL l).length (iL l).length (some (n : Int)) = min n l.length := by
    rw [iL_len]
    unfold HT.sIx
    dsimp only
    split <;> omega
  rw [h0, h1, List.drop_zero, Nat.sub_zero]
  unfold iL
  rw [← List.map_take]
  congr 1
  rw [List.take_eq_take_iff]
  omega
theorem key_is {due tot : Nat} {ws : List Nat} {i : Nat} : keyN (due : Int) (tot : Int) ws i = -((due * ws.getD i 0 % tot : Nat) : Int) := by
  unfold keyN
  rw [Int.fmod_eq_emod_of_nonneg _ (Int.natCast_nonneg _), Int.natCast_emod, Int.natCast_mul]
section
variable {K : PySem.W.Frag} {σ : L2.St} {H : Hp} {te : TE} {Q : VK} {P : Addr} {q : Str} {i1 i2 i3 : Nat}
theorem en_range {n : Nat} (h : Ev te σ H (iN n)) : EvN (tCB (fun vs H Q => ∃ j : Int, vs = [V.int j] ∧ ∀ p, H p = none → Q (.ref p) (upd H p (.rng 0 j))) (tCons te tNil)) σ H fun _ v H1 => ∃ r, v = .ref r ∧ H1 r = some (.rng 0 (n : Int)) := fun H1 e Q q =>
  h H1 e _ fun H2 e2 => ⟨(n : Int), rfl, fun p hp => q _ _ (e2.trans (Ex.new hp)) ⟨p, rfl, upd_same⟩⟩
theorem sortL_run {ws : List Nat} {due tot : Int} {wa : Addr} {Bk : Addr → Prop} (h : EvN te σ H fun _ v H1 => ∃ r, v = .ref r ∧ H1 r = some (.rng 0 (ws.length : Int))) (hn : ws.length ≤ 60000) (g1 : σ[i1]? = some (some (.int due))) (g2 : σ[i2]? = some (some (.ref wa))) (g3 : σ[i3]? = some (some (.int tot)))
    (hwa : H wa = some (.lst (iL ws))) (h0 : tot ≠ 0) (hm : ∀ w ∈ ws, IntMulOk due (w : Int)) (tb : TabX Bk H P q)
    (k : ∀ H2 p, (∀ b o, H b = some o → b ≠ P → H2 b = some o) → TabX (fun c => Bk c ∨ H c = none) H2 P q → (∀ b, H2 b = none → H b = none) → H p = none → H2 p = some (.lst (iL (sortN due tot ws))) → Q (.ref p) H2) :
    tSortL P q i1 i2 i3 (tCons te tNil) σ H Q := h H (Ex.refl H) _ fun v H1 e ⟨r, hv, hr⟩ => by
  obtain ⟨ps, z1, z2, z3⟩ := tb
  refine ⟨Bk, r, wa, ws, due, tot, by rw [hv], hr, hn, g1, g2, g3, e _ _ hwa, h0, hm, ⟨ps, e _ _ z1, z2, fun p cv y => ?_⟩, fun H2 p old tb2 back np hp => k H2 p (fun b o hb n => old b o (e _ _ hb) n) ?_ (fun b n => fresh_back e (back b n)) (fresh_back e np) hp⟩
  · obtain ⟨c, y1, y2, y3⟩ := z3 p cv y
    exact ⟨c, y1, y2, e _ _ y3⟩
  · obtain ⟨ps2, x1, x2, x3⟩ := tb2
    refine ⟨ps2, x1, x2, fun p cv y => ?_⟩
    obtain ⟨c, y1, y2, y3⟩ := x3 p cv y
    exact ⟨c, y1, y2.imp id fun n => fresh_back e n, y3⟩
end
theorem parts_free : ∀ y ∈ ([("place", NameKind.local), ("due", NameKind.free), ("total", NameKind.free), ("weights", NameKind.free)] : List (Str × NameKind)), y.2 = NameKind.free → (defScope s_parts_of).names.lookup y.1 = some NameKind.cell ∨ (defScope s_parts_of).names.lookup y.1 = some NameKind.free := by decide +kernel
section
variable {P : Program} {w : World} {K : PySem.W.Frag} {mg : Str → Option Value} {base : Heap} {A : Ad}
/-! ### parts_of -/
def sp_parts_of (A : Ad) : Sp := fun vs H Q _ => ∃ τ wp due ws, vs = [iN due, .ref wp] ∧ H wp = some (.lst (iL ws)) ∧ TabAt A τ H ∧ 1 ≤ ws.length ∧ ws.length ≤ 4 ∧ (∀ w ∈ ws, 1 ≤ w ∧ w ≤ 1000) ∧
  ∀ τ' H' p, Frm (fun t => t = 12) τ H τ' H' → TabAt A τ' H' → (∀ b, H b = none → τ' b = 0) → H p = none → H' p = some (.lst (iL (Amounts.distribute due ws))) → Q (.ref p) H'
theorem c_parts_of (T : Txt K mg A) (BT : TabB base mg A.code A.tab) : C8.Cal P w K mg base 2 "parts_of" (sp_parts_of A) [] := by
  refine calOfC T.d_parts_of sc_parts_of (fun _ _ _ _ _ _ us hl => match us, hl with | [_, _], _ => rfl) (fun vs H Q E h => ?_) (fun f Ar outer s0 H vs Q E hr h => ?_)
  · obtain ⟨τ, wp, due, ws, rfl, _⟩ := h
    rfl
  · obtain ⟨τ, wp, due, ws, rfl, hwp, htab, l1, l4, hws, kQ⟩ := h
    have code : (cxOf CX0 P w K mg base ["due", "weights", "parts", "remaining", "places", "place", "total", "weight"] "parts_of" (defScope s_parts_of) f (.ref A.code) Ar outer s0 H E).nox.env.code = .ref A.code := rfl
    refine ⟨_, (pss_cons (ps_set (i := 6) sc_parts_of.nd rfl (Or.inr rfl) (pe_callB (cr_sum (by rfl)) (by rfl) T.b_sum boot_sum (pa_cons (pv 1) pa_nil)))
        (pss_cons (ps_setLc (i := 2) (own := [("weight", 7)]) (tt := tYes) rfl sc_parts_of.nd rfl rfl (sw_true rfl rfl rfl (by decide +kernel)) (pi_list (pv 1)) (blkOk_by (own := [("weight", 7)]) (N := ["due", "weights", "parts", "remaining", "places", "place", "total", "weight"]) (sc := defScope s_parts_of) (by decide +kernel)) (fun _ _ _ _ _ => (pg_name (i := 7) sc_parts_of.nd rfl (Or.inl rfl))) (fun _ _ _ _ _ => pts_nil) (fun _ _ _ _ _ => (pe_op op_fdivW (pe_op op_mul (pv 0) (pv 7)) (pv 6))))
        (pss_cons (ps_set (i := 3) sc_parts_of.nd rfl (Or.inl rfl) (pe_op op_sub (pv 0) (pe_callB (cr_sum (by rfl)) (by rfl) T.b_sum boot_sum (pa_cons (pv 2) pa_nil))))
        (pss_cons (ps_set (i := 4) sc_parts_of.nd rfl (Or.inl rfl) (pe_sortLam (c := A.code) (P := A.tab) (i1 := 0) (i2 := 1) (i3 := 6) hr (by rfl) T.b_sorted (pa_cons (pe_callTy cr_range1 (by rfl) T.b_range (by decide +kernel) (pa_cons (pe_callB call_len_seq (by rfl) T.b_len boot_len (pa_cons (pv 1) pa_nil)) pa_nil)) pa_nil) BT code rfl rfl rfl rfl (by decide +kernel) parts_free (by decide +kernel) rfl rfl rfl rfl rfl (fun _ _ _ _ _ _ _ => rfl)))
        (pss_cons (ps_for PassesOwn.never rfl (pi_list (pe_slice sl_list (pv 4) po_none (po_some (pv 3)))) (pg_name (i := 5) sc_parts_of.nd rfl (Or.inl rfl)) (pss_one (ps_augAdd (pv 2) (pv 5) pe_int)))
        (pss_one (ps_ret (pv 2)))))))), ?_⟩
    have hW : 0 < Amounts.sum ws := by
      match ws, l1 with
      | x :: r, _ =>
        have := (hws x List.mem_cons_self).1
        show 0 < x + Amounts.sum r
        omega
    have hW2 : Amounts.sum ws ≤ 4000 := by
      have := sum_le (m := 1000) fun x hx => (hws x hx).2
      omega
    have hfl := floors (due := due) hW
    refine q_asg (v := iN (Amounts.sum ws)) (ev_is (ev_sumV (K := K) (ns := toI ws) (ev_var rfl) (by rw [← iL_ints]; exact hwp)) (by show V.int _ = V.int _; rw [sum_cast]; rfl)) fun H1 e1 => ?_
    refine q_asgL (el_comp (K := K) ws (fun _ => true) (fun x => iN (due * x / Amounts.sum ws)) (ev_var rfl) (sq_of (e1 _ _ hwp)) (by rw [iL_len]) (by rw [iL_len]; omega) (fun _ => rfl) (fun _ _ _ _ _ _ _ => et_yes) (fun i x y H2 e2 hx hy _ => ?_)) fun pp H2 np e2 hpp => ?_
    · obtain rfl : iN y = x := by
        rw [iL_get hy] at hx
        exact Option.some.inj hx
      have hy' := hws y (List.mem_of_getElem? hy)
      refine ev_is (ev_op (x := iN (due * y)) (y := iN (Amounts.sum ws)) (ev_is (ev_op (ev_var rfl) (ev_var rfl) (rv_I (.inr ⟨by omega, by omega⟩))) (by show V.int _ = V.int _; rw [Int.natCast_mul])) (ev_var rfl) (rv_I (wide_div (b := 64) (by omega) (by rw [Int.natAbs_natCast]; omega) (by decide) (by decide)))) ?_
      show V.int _ = V.int _
      rw [Int.natCast_ediv]
    have hpp : H2 pp = some (.lst (iL (ws.map fun x => due * x / Amounts.sum ws))) := by
      rw [hpp, List.filter_eq_self.mpr (fun _ _ => rfl)]
      unfold iL
      rw [List.map_map]
      rfl
    have np0 : H pp = none := fresh_back e1 np
    refine q_asg (v := iN (due - Amounts.sum (ws.map fun x => due * x / Amounts.sum ws))) (ev_is (ev_op (ev_var rfl) (ev_sumV (K := K) (ns := toI (ws.map fun x => due * x / Amounts.sum ws)) (ev_var rfl) (by rw [← iL_ints]; exact hpp)) rv_I0) ?_) fun H3 e3 => ?_
    · show V.int ((due : Int) - (toI (ws.map fun x => due * x / Amounts.sum ws)).sum) = V.int _
      refine congrArg V.int ?_
      have := sum_cast (ws.map fun x => due * x / Amounts.sum ws)
      unfold toI
      rw [← this]
      omega
    have e13 := (e1.trans e2).trans e3
    have hpp3 := e3 _ _ hpp
    obtain ⟨t12, ps, hP, z2, z3⟩ := htab
    refine seq_run (asg_run (sortL_run (Bk := fun c => τ c = 0) (ws := ws) (due := (due : Int)) (tot := ((Amounts.sum ws : Nat) : Int)) (wa := wp) (en_range (ev_len (K := K) (ev_var rfl) (sq_of (e13 _ _ hwp)) |> fun h => ev_is h (by show V.int _ = V.int _; rw [iL_len]))) (by omega) rfl rfl rfl (e13 _ _ hwp) (by omega) (fun x hx => (show CMul (due : Int) (x : Int) from .inr ⟨by have := hws x hx; omega, by have := hws x hx; omega⟩).ok) ⟨ps, e13 _ _ hP, z2, fun p cv y => ?_⟩ fun H4 p4 old tb4 back np4 hp4 => ?_))
    · obtain ⟨c, y1, y2, y3⟩ := z3 p cv y
      exact ⟨c, y1, y2, e13 _ _ y3⟩
    -- behind the sort: only the table may have changed
    obtain ⟨W, hWe⟩ : ∃ W, W = Amounts.sum ws := ⟨_, rfl⟩
    obtain ⟨order, hord⟩ : ∃ order, order = sortN (due : Int) ((Amounts.sum ws : Nat) : Int) ws := ⟨_, rfl⟩
    obtain ⟨rem, hrem⟩ : ∃ rem, rem = due - Amounts.sum (ws.map fun x => due * x / Amounts.sum ws) := ⟨_, rfl⟩
    obtain ⟨p0, hp0⟩ : ∃ p0, p0 = ws.map fun x => due * x / Amounts.sum ws := ⟨_, rfl⟩
    rw [← hord] at hp4
    rw [← hp0] at hpp3
    have hol : order.length = ws.length := by
      rw [hord]
      unfold sortN
      rw [List.length_mergeSort, List.length_range]
    have hperm : order.Perm (List.range ws.length) := by
      rw [hord]
      exact List.mergeSort_perm _ _
    have ond : order.Nodup := hperm.nodup_iff.mpr List.nodup_range
    have olt : ∀ k ∈ order, k < ws.length := fun k hk => List.mem_range.mp (hperm.mem_iff.mp hk)
    have neP : ∀ b o, H3 b = some o → (∀ ps, o ≠ .tbl ps) → b ≠ A.tab := fun b o e n z => by
      rw [z, e13 _ _ hP] at e
      exact n ps (Option.some.inj e).symm
    have hpp4 : H4 pp = some (.lst (iL p0)) := old _ _ hpp3 (neP _ _ hpp3 fun ps z => by cases z)
    have hP4 := tb4
    let τ2 : Tg := newTag τ H fun _ => 0
    have f4 : Frm (fun t => t = 12) τ H τ2 H4 := ⟨fun b o hb n => old b o (e13 b o hb) fun z => n (by rw [z]; exact t12), fun b o hb => newTag_old hb, fun b n => fresh_back e13 (back b n)⟩
    have tab4 : TabAt A τ2 H4 := by
      obtain ⟨ps4, x1, x2, x3⟩ := tb4
      refine ⟨(newTag_old hP).trans t12, ps4, x1, x2, fun pos cv y => ?_⟩
      obtain ⟨c, y1, y2, y3⟩ := x3 pos cv y
      refine ⟨c, y1, ?_, y3⟩
      cases hc : H c with
      | none => exact newTag_new hc
      | some o =>
        rw [show τ2 c = τ c from newTag_old hc]
        rcases y2 with y2 | y2
        · exact y2
        · rw [e13 _ _ hc] at y2
          cases y2
    refine nx_run ?_
    have hstep : ∀ (i k : Nat) (r : List Nat), r = putAt (fun n => p0.getD n 0 + 1) ((order.take rem).take i) p0 → (order.take rem)[i]? = some k → k < r.length ∧ r[k]? = some (p0.getD k 0) ∧ putAt (fun n => p0.getD n 0 + 1) ((order.take rem).take (i + 1)) p0 = r.set k (p0.getD k 0 + 1) := fun i k r hr hk => by
      have hm : k ∈ order := List.mem_of_mem_take (List.mem_of_getElem? hk)
      have hl := olt k hm
      have hnot : k ∉ (order.take rem).take i := fun z => by
        obtain ⟨j, hj⟩ := List.mem_iff_getElem?.mp z
        have hji : j < i := by
          have := (List.getElem?_eq_some_iff.mp hj).1
          rw [List.length_take] at this
          omega
        rw [List.getElem?_take_of_lt hji] at hj
        have := nd_ix (ond.sublist (List.take_sublist rem order)) hj hk
        omega
      have hp0l : p0.length = ws.length := by rw [hp0, List.length_map]
      refine ⟨by rw [hr, putAt_len, hp0l]; exact hl, ?_, ?_⟩
      · rw [hr, putAt_get (by rw [hp0l]; exact hl), if_neg hnot]
        exact nat_get hp0l hl
      · rw [take_snoc hk, putAt_snoc, hr]
    refine q_forNLn (K := K) (xs := iL (order.take rem)) (by
        have := el_sl (K := K) (σ := [some (iN due), some (.ref wp), some (.ref pp), some (iN (due - Amounts.sum (ws.map fun x => due * x / Amounts.sum ws))), some (.ref p4), none, some (iN (Amounts.sum ws)), none]) (H := H4) (te := tVar 4) (tl := tNoPart) (th := tPart (tVar 3)) (ev_var rfl) eo_none (eo_some (i := ((due - Amounts.sum (ws.map fun x => due * x / Amounts.sum ws) : Nat) : Int)) (ev_var rfl)) (sq_of hp4)
        rw [cut_pre] at this
        rw [hrem]
        exact this)
      (fun p i σ' H' => ∃ y5, σ' = [some (iN due), some (.ref wp), some (.ref pp), some (iN rem), some (.ref p4), y5, some (iN W), none] ∧ p ≠ pp ∧ ExB pp H4 H' ∧ H' p = some (.lst (iL (order.take rem))) ∧ H' pp = some (.lst (iL (putAt (fun n => p0.getD n 0 + 1) ((order.take rem).take i) p0))))
      (fun p H5 np5 e5 hp5 => ⟨none, by rw [hWe, hrem]; rfl, fun z => ?_, ExB.of e5, hp5, ?_⟩) (fun p i σ' H' _ ⟨_, _, _, _, h, _⟩ => sq_of h) ?_ ?_
    · rw [z, hpp4] at np5
      cases np5
    · rw [List.take_zero]
      exact e5 _ _ hpp4
    · rintro p i x σ' H' hx ⟨y5, rfl, nep, eb, hpl, hcur⟩
      obtain ⟨k, hk, rfl⟩ := iL_inv hx
      obtain ⟨s1, s2, s3⟩ := hstep i k _ rfl hk
      refine ⟨_, rfl, _, rfl, pp, _, _, k, rfl, rfl, sq_of hcur, iL_get s2, ?_⟩
      refine ⟨((p0.getD k 0 : Nat) : Int), 1, rfl, rfl, pp, _, _, k, rfl, rfl, hcur, ixN_nat (by rw [iL_len]; exact s1), ?_⟩
      refine ⟨some (iN k), rfl, nep, eb.upd (Ex.refl _), by rw [upd_ne nep]; exact hpl, ?_⟩
      rw [upd_same, s3]
      exact congrArg (fun z => some (HO.lst z)) iL_set
    · rintro p σ' H' ⟨y5, rfl, nep, eb, hpl, hcur⟩
      rw [iL_len, List.take_length] at hcur
      refine rt_ret (ev_var rfl) fun H5 e5 => ?_
      have keep : ∀ b o, H4 b = some o → b ≠ pp → H5 b = some o := fun b o h n => e5 _ _ (eb b o h n)
      have nePp : ∀ b o, H b = some o → b ≠ pp := fun b o h => ne_of_none h np0
      refine kQ τ2 H5 pp ⟨fun b o hb n => keep b o (f4.kp b o hb n) (nePp b o hb), f4.tag, fun b n => ?_⟩ ?_ (fun b hb => newTag_new hb) np0 ?_
      · cases hb : H b with
        | none => rfl
        | some o =>
          obtain ⟨o', h'⟩ := f4.there hb
          rw [keep b o' h' (nePp b o hb)] at n
          cases n
      · obtain ⟨a1, ps4, a2, a3, a4⟩ := tab4
        refine ⟨a1, ps4, keep _ _ a2 (nePp _ _ hP), a3, fun pos cv y => ?_⟩
        obtain ⟨c, b1, b2, b3⟩ := a4 pos cv y
        exact ⟨c, b1, b2, keep _ _ b3 (ne_of b3 hpp4 (by intro z; unfold CodeO at z; cases z))⟩
      · rw [e5 _ _ hcur]
        have hd := distribute_is (due := due) (ws := ws) (keyN (due : Int) ((Amounts.sum ws : Nat) : Int) ws) fun j _ => key_is
        rw [hd, ← hrem]
        congr 3
        have hp0l : p0.length = ws.length := by rw [hp0, List.length_map]
        apply List.ext_getElem?
        intro i
        by_cases hi : i < ws.length
        · rw [putAt_get (by rw [hp0l]; exact hi), List.getElem?_map, List.getElem?_range hi]
          have hpi : p0[i]? = some (due * ws.getD i 0 / Amounts.sum ws) := by
            rw [hp0, List.getElem?_map, nat_get rfl hi]
            rfl
          have hpg : p0.getD i 0 = due * ws.getD i 0 / Amounts.sum ws := by
            rw [List.getD_eq_getElem?_getD, hpi]
            rfl
          rw [hpi, hpg]
          unfold partAt
          have ho2 : (List.range ws.length).mergeSort (fun a b => decide (keyN (due : Int) ((Amounts.sum ws : Nat) : Int) ws a ≤ keyN (due : Int) ((Amounts.sum ws : Nat) : Int) ws b)) = order := by
            rw [hord]
            rfl
          rw [ho2]
          show _ = some (due * ws.getD i 0 / Amounts.sum ws + if i ∈ order.take rem then 1 else 0)
          split <;> rfl
        · rw [List.getElem?_eq_none (by rw [putAt_len, hp0l]; omega), List.getElem?_eq_none (by rw [List.length_map, List.length_range]; omega)]
end
end TB

namespace TB
open PySem PySem.Spec PyProof.Rows L2 Evl TimberAuction TBM AuctionSpec
open C8 (pe_c pe_mk pe_mt pe_mt0)
/-! ### values that are lists -/
def LstN (te : TE) (σ : L2.St) (H : Hp) (xs : List V) : Prop := EvN te σ H fun _ v H1 => ∃ q, v = .ref q ∧ H1 q = some (.lst xs)
section
variable {K : PySem.W.Frag} {σ : L2.St} {H : Hp} {ta tb te : TE} {xs ys : List V} {a : Addr}
theorem ln_el (h : EvL te σ H xs) : LstN te σ H xs := fun H1 e Q q => h H1 e _ fun p H2 _ e2 h2 => q _ H2 e2 ⟨p, rfl, h2⟩
theorem ln_ev (h : Ev te σ H (.ref a)) (ha : H a = some (.lst xs)) : LstN te σ H xs := fun H1 e Q q => h H1 e _ fun H2 e2 => q _ H2 e2 ⟨a, rfl, (e.trans e2) _ _ ha⟩
theorem el_cat2 (ha : LstN ta σ H xs) (hb : LstN tb σ H ys) (hz : xs.length + ys.length ≤ 100000) : EvL (tOp rCat ta tb) σ H (xs ++ ys) := fun H1 e Q q =>
  ha H1 e _ fun v H2 e2 ⟨p, hv, h2⟩ => hb H2 (e.trans e2) _ fun w H3 e3 ⟨b, hw, h3⟩ => ⟨p, b, xs, ys, hv, hw, e3 _ _ h2, h3, sz_of hz, fun r hr => q r _ (fresh_back (e2.trans e3) hr) ((e2.trans e3).trans (Ex.new hr)) upd_same⟩
end
section
variable {st : State} {n : Nat} {c : Contract} {f : Contract → State × AuctionSpec.Result}
theorem withc_none (h : st.contracts.length ≤ n) : withContract st n f = (st, [-3]) := by
  unfold withContract
  rw [List.getElem?_eq_none h]
  rfl
theorem withc_some (h : st.contracts[n]? = some c) : withContract st n f = f c := by
  unfold withContract
  rw [h]
end
theorem not_lt_of {n m : Nat} (h : (!decide (n < m)) = true) : m ≤ n := by
  simp only [Bool.not_eq_true', decide_eq_false_iff_not] at h
  omega
theorem lt_of_not {n m : Nat} (h : (!decide (n < m)) = false) : n < m := by
  simp only [Bool.not_eq_false', decide_eq_true_eq] at h
  exact h
theorem toI_len (l : List Nat) : (toI l).length = l.length := by simp [toI]
section
variable {P : Program} {w : World} {K : PySem.W.Frag} {mg : Str → Option Value} {base : Heap} {A : Ad}
/-! ### Delivery(..), Bill(..) -/
def fDelL : List V → List (Str × V)
  | [a, b, c, d] => fDelivery a b c d
  | _ => []
theorem m_Delivery (T : Txt K mg A) : C8.Mak P w K mg base 1 "Delivery" A.Delivery (spInit A.Delivery 4 fDelL) [] := by
  refine makOf T.m_Delivery sc_Delivery___init__ (fun _ _ _ _ _ _ us hl => match us, hl with | [_, _, _, _, _], _ => rfl) (fun vs H Q E h => ?_) (fun f cdv Ar outer st H vs Q E hr h => ?_)
  · obtain ⟨p, dx, args, rfl, hn, _⟩ := h
    simp [hn]
  · obtain ⟨p, dx, args, rfl, hn, hp, kQ⟩ := h
    obtain ⟨v0, v1, v2, v3, rfl⟩ : ∃ a b c d, args = [a, b, c, d] := by
      match args, hn with
      | [a, b, c, d], _ => exact ⟨a, b, c, d, rfl⟩
    refine ⟨_, (pss_cons (ps_fld (pv 0) (pv 1) rfl)
        (pss_cons (ps_fld (pv 0) (pv 2) rfl)
        (pss_cons (ps_fld (pv 0) (pv 3) rfl)
        (pss_one (ps_fld (pv 0) (pv 4) rfl))))), ?_⟩
    refine ⟨_, rfl, _, rfl, p, A.Delivery, dx, _, rfl, hp, T.cl_Delivery, T.n_Delivery_contract, (by show 0 < 1000; decide), ?_⟩
    refine ⟨_, rfl, _, rfl, p, A.Delivery, dx, _, rfl, upd_same, T.cl_Delivery, T.n_Delivery_day, (by show 1 < 1000; decide), ?_⟩
    rw [upd_upd]
    refine ⟨_, rfl, _, rfl, p, A.Delivery, dx, _, rfl, upd_same, T.cl_Delivery, T.n_Delivery_grade, (by show 2 < 1000; decide), ?_⟩
    rw [upd_upd]
    refine ⟨_, rfl, _, rfl, p, A.Delivery, dx, _, rfl, upd_same, T.cl_Delivery, T.n_Delivery_volume, (by show 3 < 1000; decide), ?_⟩
    rw [upd_upd]
    exact kQ
def fBillL : List V → List (Str × V)
  | [a, b, c] => fBill a b c
  | _ => []
theorem m_Bill (T : Txt K mg A) : C8.Mak P w K mg base 1 "Bill" A.Bill (spInit A.Bill 3 fBillL) [] := by
  refine makOf T.m_Bill sc_Bill___init__ (fun _ _ _ _ _ _ us hl => match us, hl with | [_, _, _, _], _ => rfl) (fun vs H Q E h => ?_) (fun f cdv Ar outer st H vs Q E hr h => ?_)
  · obtain ⟨p, dx, args, rfl, hn, _⟩ := h
    simp [hn]
  · obtain ⟨p, dx, args, rfl, hn, hp, kQ⟩ := h
    obtain ⟨v0, v1, v2, rfl⟩ : ∃ a b c, args = [a, b, c] := by
      match args, hn with
      | [a, b, c], _ => exact ⟨a, b, c, rfl⟩
    refine ⟨_, (pss_cons (ps_fld (pv 0) (pv 1) rfl)
        (pss_cons (ps_fld (pv 0) (pv 2) rfl)
        (pss_one (ps_fld (pv 0) (pv 3) rfl)))), ?_⟩
    refine ⟨_, rfl, _, rfl, p, A.Bill, dx, _, rfl, hp, T.cl_Bill, T.n_Bill_contract, (by show 0 < 1000; decide), ?_⟩
    refine ⟨_, rfl, _, rfl, p, A.Bill, dx, _, rfl, upd_same, T.cl_Bill, T.n_Bill_day, (by show 1 < 1000; decide), ?_⟩
    rw [upd_upd]
    refine ⟨_, rfl, _, rfl, p, A.Bill, dx, _, rfl, upd_same, T.cl_Bill, T.n_Bill_amounts, (by show 2 < 1000; decide), ?_⟩
    rw [upd_upd]
    exact kQ
/-! ### has_contract -/
def R_has_contract (A : Ad) : List V → Hp → V → Prop := fun vs H z => ∃ sa τ st n, vs = [.ref sa, iN n] ∧ StAt A τ H sa st ∧ z = .bl (decide (n < st.contracts.length))
theorem c_has_contract (T : Txt K mg A) : C8.Cal P w K mg base 1 "has_contract" (spV (R_has_contract A)) [] := by
  refine calOf T.d_has_contract sc_has_contract (fun _ _ _ _ _ _ us hl => match us, hl with | [_, _], _ => rfl) (fun vs H Q E h => ?_) (fun f cdv Ar outer st H vs Q E hr h => ?_)
  · obtain ⟨_, ⟨sa, τ, st, n, rfl, _⟩, _⟩ := h
    rfl
  · obtain ⟨_, ⟨sa, τ, st, n, rfl, ⟨dx, sv, ctA, cas, fl, das, bls, hs⟩, rfl⟩, kQ⟩ := h
    refine ⟨_, (pss_one (ps_ret (pe_cmpR op_lt (pv 1) (pe_callB call_len_seq (by rfl) T.b_len boot_len (pa_cons (pe_fld (pv 0) rfl) pa_nil)) (nomark _)))), ?_⟩
    refine rt_ret (ev_is (ev_op (ev_var rfl) (ev_len (K := K) (ev_fld (ev_var rfl) hs.at_ T.cl_State T.n_State_contracts lk_State_contracts) (sq_of hs.ct)) rv_I0) ?_) kQ
    rw [rL_len, hs.cts.1]
    congr 1
    rw [Bool.eq_iff_iff]
    simp only [decide_eq_true_eq]
    omega
/-! ### get_contract -/
def bdRow (e : Nat × Nat) : List Int := [(e.1 : Int), (e.2 : Int)]
theorem bdRow_len (l : List (Nat × Nat)) : (l.flatMap bdRow).length = 2 * l.length := by
  induction l with
  | nil => rfl
  | cons b l ih =>
    rw [List.flatMap_cons, List.length_append, ih]
    show 2 + 2 * l.length = 2 * (l.length + 1)
    omega
theorem c_get_contract (T : Txt K mg A) : C8.Cal P w K mg base 2 "get_contract" (spOp A (mk_num .getContract)) [] := by
  have c_has_contract : C8.Cal P w K mg base 1 "has_contract" (spV (R_has_contract A)) [] := c_has_contract T
  refine calOf T.d_get_contract sc_get_contract (fun _ _ _ _ _ _ us hl => match us, hl with | [_, _], _ => rfl) (fun vs H Q E h => ?_) (fun f cdv Ar outer s0 H vs Q E hr h => ?_)
  · obtain ⟨sa, τ, st, c, args, rfl, ⟨n, rfl, _⟩, _⟩ := h
    rfl
  · obtain ⟨sa, τ, st, c, args, rfl, ⟨n, rfl, rfl⟩, hst, k⟩ := h
    refine ⟨_, (pss_cons (ps_if (pt_not (pt_val (pe_c c_has_contract hr (by decide) (by rfl) (pa_cons (pv 0) (pa_cons (pv 1) pa_nil))))) (pss_one (ps_ret (pe_lst (pa_cons (pe_gi (by rfl) T.k_MISSING) pa_nil)))) pss_nil)
        (pss_cons (ps_set (i := 2) sc_get_contract.nd rfl (Or.inl rfl) (pe_ix ix_list (pe_fld (pv 0) rfl) (pv 1) (fun _ _ => rfl)))
        (pss_cons (ps_set (i := 3) sc_get_contract.nd rfl (Or.inl rfl) (pe_lst (pa_cons pe_int (pa_cons (pe_fld (pv 2) rfl) (pa_cons (pe_ix ix_tup (pe_fld (pv 2) rfl) pe_int (fun _ _ => rfl)) (pa_cons (pe_ix ix_tup (pe_fld (pv 2) rfl) pe_int (fun _ _ => rfl)) (pa_cons (pe_fld (pv 2) rfl) (pa_cons (pe_ifExp (pt_val (pe_fld (pv 2) rfl)) pe_int pe_int) pa_nil))))))))
        (pss_cons (ps_set (i := 3) sc_get_contract.nd rfl (Or.inl rfl) (pe_op op_cat (pe_op op_cat (pe_op op_cat (pv 3) (pe_fld (pv 2) rfl)) (pe_fld (pv 2) rfl)) (pe_lst (pa_cons (pe_callB call_len_seq (by rfl) T.b_len boot_len (pa_cons (pe_fld (pv 2) rfl) pa_nil)) pa_nil))))
        (pss_cons (ps_for PassesOwn.never rfl (pi_list (pe_fld (pv 2) rfl)) (pg_tup rfl (pgs_cons (pg_name (i := 4) sc_get_contract.nd rfl (Or.inl rfl)) (pgs_cons (pg_name (i := 5) sc_get_contract.nd rfl (Or.inl rfl)) pgs_nil))) (pss_one (ps_expr (pe_bm PySem.F.plainAttrs_list PySem.F.slot_list_extend PySem.F.type_list_extend mt_extend (pv 3) (pa_cons (pe_lst (pa_cons (pv 4) (pa_cons (pv 5) pa_nil))) pa_nil)))))
        (pss_one (ps_ret (pv 3)))))))), ?_⟩
    obtain ⟨dx, sv, ctA, cas, fl, das, bls, hs⟩ := id hst
    refine q_when (et_not (et_B (ev_callV (ea_cons (ev_var rfl) (ea_cons (ev_var rfl) ea_nil)) fun H1 e1 => ⟨sa, τ, st, n, rfl, hst.ex e1, rfl⟩))) (fun hb H1 e1 => ?_) (fun hb H1 e1 => ?_)
    · exact op_same k e1 hst (el_one ev_c) (is := [-3]) (withc_none (not_lt_of hb)) rfl
    have hn := lt_of_not hb
    obtain ⟨c, hcn⟩ : ∃ c, st.contracts[n]? = some c := ⟨_, List.getElem?_eq_getElem hn⟩
    obtain ⟨ca, hca, hcon⟩ := hs.cts.get hcn
    obtain ⟨cdx, va, pa, ba, fa, hc⟩ := id hcon
    have ok := hs.ok.con c (List.mem_of_getElem? hcn)
    obtain ⟨bas, tb, hba, hbas⟩ := hc.bidders
    have hvl := ok.volLen
    have hpl := ok.prLen
    have hbl := ok.bdLen
    refine q_asg (v := .ref ca) (ev_ixL (K := K) (ev_fld (ev_var rfl) (e1 _ _ hs.at_) T.cl_State T.n_State_contracts lk_State_contracts) (ev_var rfl) (sq_of (e1 _ _ hs.ct)) (rL_get hca)) fun H2 e2 => ?_
    have e12 := e1.trans e2
    have hc2 := e12 _ _ hc.at_
    have hf2 := e12 _ _ hc.fa
    have hfac : Ev (tFld K (tVar 2) "factor") [some (.ref sa), some (iN n), some (.ref ca), none, none, none] H2 (.ref fa) := ev_fld (ev_var rfl) hc2 T.cl_Contract T.n_Contract_factor lk_Contract_factor
    refine q_asgL (xs := [.int 0, iN c.day, .int c.factor.num, iN c.factor.den, iN c.advance, .int (if c.closed = true then 1 else 0)]) (el_lst (ea_cons ev_c (ea_cons (ev_fld (ev_var rfl) hc2 T.cl_Contract T.n_Contract_day lk_Contract_day) (ea_cons (ev_op hfac ev_c (rv_ixT (K := K) (st_of hf2) (atI_nat (j := 0) rfl))) (ea_cons (ev_op hfac ev_c (rv_ixT (K := K) (st_of hf2) (atI_nat (j := 1) rfl))) (ea_cons (ev_fld (ev_var rfl) hc2 T.cl_Contract T.n_Contract_advance lk_Contract_advance)
      (ea_cons (ev_if (et_B (ev_fld (ev_var rfl) hc2 T.cl_Contract T.n_Contract_closed lk_Contract_closed)) (fun h => ev_is ev_c (by rw [if_pos h])) (fun h => ev_is ev_c (by rw [if_neg (by rw [h]; exact Bool.false_ne_true)]))) ea_nil)))))) (by show 6 ≤ 100000; decide)) fun p H3 np e3 hp => ?_
    have e13 := e12.trans e3
    have hc3 := e13 _ _ hc.at_
    refine q_asgL (xs := (([.int 0, iN c.day, .int c.factor.num, iN c.factor.den, iN c.advance, .int (if c.closed = true then 1 else 0)] ++ iL c.volumes) ++ iL c.prices) ++ [iN c.bidders.length]) (el_cat2 (ln_el (el_cat2 (ln_el (el_cat2 (ln_ev (ev_var rfl) hp) (ln_ev (ev_fld (ev_var rfl) hc3 T.cl_Contract T.n_Contract_volumes lk_Contract_volumes) (e13 _ _ hc.volumes.2)) ?_)) (ln_ev (ev_fld (ev_var rfl) hc3 T.cl_Contract T.n_Contract_prices lk_Contract_prices) (e13 _ _ hc.prices.2)) ?_)) (ln_el (el_one (ev_is (ev_len (K := K) (ev_fld (ev_var rfl) hc3 T.cl_Contract T.n_Contract_bidders lk_Contract_bidders) (sq_of (e13 _ _ hba))) ?_))) ?_) fun q H4 nq e4 hq => ?_
    · rw [iL_len, hvl]
      show 6 + 10 ≤ 100000
      decide
    · rw [List.length_append, iL_len, iL_len, hvl, hpl]
      show 6 + 10 + 10 ≤ 100000
      decide
    · rw [rL_len, hbas.1]
      rfl
    · rw [List.length_append, List.length_append, iL_len, iL_len, hvl, hpl]
      show 6 + 10 + 10 + 1 ≤ 100000
      decide
    have e14 := e13.trans e4
    obtain ⟨base, hbase⟩ : ∃ base : List Int, base = 0 :: ([(c.day : Int)] ++ Amounts.encodeFraction c.factor ++ [(c.advance : Int), if c.closed = true then 1 else 0] ++ toInts c.volumes ++ toInts c.prices ++ [(c.bidders.length : Int)]) := ⟨_, rfl⟩
    have hq : H4 q = some (.lst (base.map V.int)) := by
      rw [hq, hbase]
      congr 2
      rw [List.map_cons]
      simp only [List.map_append, List.append_assoc]
      rw [iL_ints, iL_ints]
      rfl
    have hbl2 : base.length = 27 := by
      rw [hbase]
      simp only [List.length_cons, List.length_append, toInts, List.length_map, hvl, hpl]
      rfl
    have np0 : H q = none := fresh_back e13 nq
    refine q_forL (xs := rL bas) (ev_fld (ev_var rfl) (e14 _ _ hc.at_) T.cl_Contract T.n_Contract_bidders lk_Contract_bidders) (sq_of (e14 _ _ hba))
      (fun i σ' H' => ∃ y4 y5, σ' = [some (.ref sa), some (iN n), some (.ref ca), some (.ref q), y4, y5] ∧ Ex H H' ∧ H' q = some (.lst ((base ++ (c.bidders.take i).flatMap bdRow).map V.int))) (fun H5 e5 => ⟨none, none, rfl, e14.trans e5, ?_⟩) (fun i σ' H' _ ⟨_, _, _, e, _⟩ => ex_l e (sq_of hba)) ?_ ?_
    · rw [List.take_zero, List.flatMap_nil, List.append_nil]
      exact e5 _ _ hq
    · rintro i x σ' H5 hx ⟨y4, y5, rfl, e5, h5⟩
      obtain ⟨pa', hpa', rfl⟩ := rL_inv hx
      obtain ⟨e, he, tp, hpe⟩ := hbas.getL hpa'
      refine ⟨pa', _, rfl, st_of (e5 _ _ hpe), rfl, iN e.1, [iN e.2], rfl, iN e.2, [], rfl, rfl, ?_⟩
      refine s_ext (xs := (base ++ (c.bidders.take i).flatMap bdRow).map V.int) (ys := (bdRow e).map V.int) h5 (ev_var rfl) (el_lst (ea_cons (ev_var rfl) (ea_cons (ev_var rfl) ea_nil)) (by show 2 ≤ 100000; decide)) ?_ fun H6 e6 => nx_run ⟨_, _, rfl, (e5.trans e6).mut np0, ?_⟩
      · rw [List.length_map, List.length_append, bdRow_len, List.length_take, hbl2]
        show _ + 2 ≤ _
        omega
      · rw [upd_same, take_snoc he, List.flatMap_append, ← List.append_assoc, List.map_append (l₁ := base ++ _)]
        rfl
    · rintro σ' H5 ⟨y4, y5, rfl, e5, h5⟩
      refine rt_ret (ev_var rfl) fun H6 e6 => ?_
      have hstep : step st (.getContract n) = (st, 0 :: contractFields c) := withc_some hcn
      refine k τ H6 q (.ex (e5.trans e6)) ?_ np0 ?_
      · rw [hstep]
        exact hst.ex (e5.trans e6)
      · rw [hstep, e6 _ _ h5, rL_len, hbas.1, List.take_length, hbase]
        rfl
end
end TB

namespace TB
open PySem PySem.Spec PyProof.Rows L2 Evl TimberAuction TBM AuctionSpec
open C8 (pe_c pe_mk pe_mt pe_mt0)
/-! ### the index is set -/
theorem rep_perm {d i : Nat} : ∀ {m : List (Nat × Nat)}, (m.map (·.1)).Nodup → (∃ e ∈ m, e.1 = d) → (m.map fun e => if e.1 = d then (e.1, i) else e).Perm ((m.filter fun (e : Nat × Nat) => e.1 != d) ++ [(d, i)])
  | [], _, h => by
    obtain ⟨e, he, _⟩ := h
    cases he
  | x :: m, nd, h => by
    obtain ⟨n1, n2⟩ := List.nodup_cons.mp nd
    by_cases z : x.1 = d
    · have hne : ∀ e ∈ m, e.1 ≠ d := fun e he q => n1 (List.mem_map.mpr ⟨e, he, q.trans z.symm⟩)
      have h1 : (m.map fun e => if e.1 = d then (e.1, i) else e) = m := by
        refine (List.map_congr_left fun e he => ?_).trans (List.map_id m)
        rw [if_neg (hne e he)]
        rfl
      have h2 : (m.filter fun (e : Nat × Nat) => e.1 != d) = m := List.filter_eq_self.mpr fun e he => by simpa using hne e he
      rw [List.map_cons, List.filter_cons, if_pos z, if_neg (by simp [z]), h1, h2, z]
      exact (List.perm_append_singleton _ _).symm
    · have ih := rep_perm (d := d) (i := i) n2 (by
        obtain ⟨e, he, q⟩ := h
        rcases List.mem_cons.mp he with rfl | he
        · exact absurd q z
        · exact ⟨e, he, q⟩)
      rw [List.map_cons, List.filter_cons, if_neg z, if_pos (by simp [z]), List.cons_append]
      exact ih.cons x
theorem put_perm {m l : List (Nat × Nat)} {d i : Nat} (h : m.Perm l) (nd : (m.map (·.1)).Nodup) : ∃ m' : List (Nat × Nat), putK (m.map kvN) (Sum.inl (d : Int)) (iN i) = m'.map kvN ∧ m'.Perm (replaceIndex l d i) := by
  by_cases z : ∃ e ∈ m, e.1 = d
  · refine ⟨m.map fun e => if e.1 = d then (e.1, i) else e, ?_, (rep_perm nd z).trans ?_⟩
    · unfold putK
      rw [if_pos, List.map_map, List.map_map]
      · refine List.map_congr_left fun e _ => ?_
        show (if (kvN e).1 = Sum.inl (d : Int) then ((kvN e).1, iN i) else kvN e) = kvN (if e.1 = d then (e.1, i) else e)
        by_cases q : e.1 = d
        · rw [if_pos (by rw [← q]; rfl), if_pos q]
          rfl
        · rw [if_neg (fun z => q (by have := Sum.inl.inj z; exact_mod_cast this)), if_neg q]
      · obtain ⟨e, he, q⟩ := z
        exact List.any_eq_true.mpr ⟨kvN e, List.mem_map.mpr ⟨e, he, rfl⟩, decide_eq_true (by rw [← q]; rfl)⟩
    · exact (h.filter _).append_right _
  · have hne : ∀ e ∈ m, e.1 ≠ d := fun e he q => z ⟨e, he, q⟩
    refine ⟨m ++ [(d, i)], ?_, ?_⟩
    · rw [putK_new _ (val_none hne), List.map_append]
      rfl
    · refine (h.append_right _).trans ?_
      unfold replaceIndex
      rw [List.filter_eq_self.mpr fun e he => by simpa using hne e (h.mem_iff.mpr he)]
theorem rep_nd {l : List (Nat × Nat)} {d i : Nat} (nd : (l.map (·.1)).Nodup) : ((replaceIndex l d i).map (·.1)).Nodup := by
  unfold replaceIndex
  rw [List.map_append]
  refine List.nodup_append.mpr ⟨nd.sublist (List.filter_sublist.map _), by simp, fun a ha b hb => ?_⟩
  obtain ⟨e, he, rfl⟩ := List.mem_map.mp ha
  have h1 := (List.mem_filter.mp he).2
  have h2 : b = d := by simpa using hb
  rw [h2]
  simpa using h1
theorem lim_iff {l : List (Nat × Nat)} {d : Nat} (nd : (l.map (·.1)).Nodup) (hl : l.length ≤ 16) : 16 ≤ (l.filter fun (e : Nat × Nat) => e.1 != d).length ↔ ((∀ e ∈ l, e.1 ≠ d) ∧ l.length = 16) := by
  have h1 := List.length_filter_le (fun (e : Nat × Nat) => e.1 != d) l
  constructor
  · intro h
    refine ⟨fun e he q => ?_, by omega⟩
    have := (List.length_filter_eq_length_iff (p := fun (e : Nat × Nat) => e.1 != d) (l := l)).mp (by omega) e he
    rw [q] at this
    simp at this
  · rintro ⟨h2, h3⟩
    rw [List.filter_eq_self.mpr fun e he => by simpa using h2 e he]
    omega
section
variable {P : Program} {w : World} {K : PySem.W.Frag} {mg : Str → Option Value} {base : Heap} {A : Ad}
def mk_num2 (f : Nat → Nat → Call) : Tg → Hp → List V → Call → Prop := fun _ _ args c => ∃ (a b : Nat), args = [iN a, iN b] ∧ c = f a b
/-! ### set_index -/
theorem c_set_index (T : Txt K mg A) : C8.Cal P w K mg base 1 "set_index" (spOp A (mk_num2 .setIndex)) [] := by
  refine calOf T.d_set_index sc_set_index (fun _ _ _ _ _ _ us hl => match us, hl with | [_, _, _], _ => rfl) (fun vs H Q E h => ?_) (fun f cdv Ar outer s0 H vs Q E hr h => ?_)
  · obtain ⟨sa, τ, st, c, args, rfl, ⟨d, i, rfl, _⟩, _⟩ := h
    rfl
  · obtain ⟨sa, τ, st, c, args, rfl, ⟨d, i, rfl, rfl⟩, hst, k⟩ := h
    have hu := hu_of hr
    refine ⟨_, (pss_cons (ps_if (PW.pt (pw_or (pt_cmpR op_gt (pv 1) (pe_gi (by rfl) T.k_MAX_DAY) (nomark _)) (pw_or (pt_cmpR op_lt (pv 2) (pe_gi (by rfl) T.k_MIN_INDEX) (nomark _)) (pw_or1 (pt_cmpR op_gt (pv 2) (pe_gi (by rfl) T.k_MAX_INDEX) (nomark _)))))) (pss_one (ps_ret (pe_lst (pa_cons (pe_gi (by rfl) T.k_OUT_OF_RANGE) pa_nil)))) pss_nil)
        (pss_cons (ps_if (PW.pt (pw_and (pt_cmp (pc_dnotin hu (pv 1) (pe_fld (pv 0) rfl)) (by with_unfolding_all rfl)) (pw_and1 (pt_cmpR op_eq (pe_callB call_lenD (by rfl) T.b_len boot_len (pa_cons (pe_fld (pv 0) rfl) pa_nil)) (pe_gi (by rfl) T.k_MAX_INDEX_DAYS) (nomark _))))) (pss_one (ps_ret (pe_lst (pa_cons (pe_gi (by rfl) T.k_FULL) pa_nil)))) pss_nil)
        (pss_cons (ps_dput hu (pe_fld (pv 0) rfl) (pv 1) (pv 2) rfl)
        (pss_one (ps_ret (pe_lst (pa_cons pe_int pa_nil))))))), ?_⟩
    obtain ⟨dx, sv, ctA, cas, fl, das, bls, hs⟩ := id hst
    obtain ⟨m, tix, hix, hpm⟩ := hs.rest.ix
    have okr := hs.ok.rest
    have nd : (m.map (·.1)).Nodup := (hpm.map _).nodup_iff.mpr okr.ixNd
    have hlen : m.length ≤ 16 := by
      rw [hpm.length_eq]
      exact okr.ixLen
    refine q_when (et_or (et_test (ev_op (ev_var rfl) ev_c rv_I0)) fun _ => et_or (et_test (ev_op (ev_var rfl) ev_c rv_I0)) fun _ => et_test (ev_op (ev_var rfl) ev_c rv_I0)) (fun hb H1 e1 => ?_) (fun hb H1 e1 => ?_)
    · refine op_same k e1 hst (el_one ev_c) (is := [-1]) ?_ rfl
      show (if maxDay < d ∨ inRange 1 10000 i = false then _ else _) = _
      rw [if_pos]
      · rfl
      · unfold maxDay inRange
        rcases or_yes hb with h | h
        · have := yes h
          exact .inl (by omega)
        · right
          rw [Bool.and_eq_false_iff, decide_eq_false_iff_not, decide_eq_false_iff_not]
          rcases or_yes h with h | h
          · have := yes h
            exact .inl (by omega)
          · have := yes h
            exact .inr (by omega)
    obtain ⟨hb1, hb23⟩ := or_no hb
    obtain ⟨hb2, hb3⟩ := or_no hb23
    have g1 := no hb1
    have g2 := no hb2
    have g3 := no hb3
    have gg : ¬ (maxDay < d ∨ inRange 1 10000 i = false) := by
      unfold maxDay inRange
      rintro (h | h)
      · omega
      · rw [Bool.and_eq_false_iff, decide_eq_false_iff_not, decide_eq_false_iff_not] at h
        omega
    have lim := lim_iff (d := d) okr.ixNd okr.ixLen
    have hnone : (valV (m.map kvN) (Sum.inl (d : Int))).isSome = false ↔ ∀ e ∈ st.indexes, e.1 ≠ d := by
      constructor
      · intro h e he q
        have := val_kv nd (hpm.mem_iff.mpr he)
        rw [q] at this
        rw [this] at h
        cases h
      · intro h
        rw [val_none fun e he => h e (hpm.mem_iff.mp he)]
        rfl
    refine q_when (et_and (et_notinD (k := Sum.inl (d : Int)) (ev_var rfl) (ev_fld (ev_var rfl) (e1 _ _ hs.at_) T.cl_State T.n_State_index_values lk_State_index_values) (e1 _ _ hix)) fun _ => et_test (ev_op (ev_lenD (ev_fld (ev_var rfl) (e1 _ _ hs.at_) T.cl_State T.n_State_index_values lk_State_index_values) (e1 _ _ hix)) ev_c (rv_eq rfl))) (fun hb H2 e2 => ?_) (fun hb H2 e2 => ?_)
    · refine op_same k (e1.trans e2) hst (el_one ev_c) (is := [-9]) ?_ rfl
      show (if maxDay < d ∨ inRange 1 10000 i = false then _ else if 16 ≤ _ then _ else _) = _
      rw [if_neg gg, if_pos]
      · rfl
      · obtain ⟨h1, h2⟩ := (Bool.and_eq_true _ _).mp hb
        refine lim.mpr ⟨hnone.mp (by simpa using h1), ?_⟩
        have h2 := V.int.inj (yes h2)
        rw [List.length_map, hpm.length_eq] at h2
        omega
    have g4 : ¬ 16 ≤ (st.indexes.filter fun (e : Nat × Nat) => e.1 != d).length := by
      intro z
      obtain ⟨h1, h2⟩ := lim.mp z
      rw [hnone.mpr h1] at hb
      have hb : decide (V.int (((m.map kvN).length : Nat) : Int) = V.int 16) = false := hb
      refine no hb ?_
      rw [List.length_map, hpm.length_eq, h2]
      rfl
    have e12 := e1.trans e2
    refine q_dput (k := Sum.inl (d : Int)) (v := iN i) (ev_var rfl) (ev_fld (ev_var rfl) (e12 _ _ hs.at_) T.cl_State T.n_State_index_values lk_State_index_values) (ev_var rfl) (e12 _ _ hix) (by rw [List.length_map]; omega) fun H3 e3 => ?_
    have e := e12.trans e3
    obtain ⟨m', hm', hpm'⟩ := put_perm (d := d) (i := i) hpm nd
    rw [hm']
    have hs3 := hs.ex e
    have f : Frm (fun t => t = 6) τ H3 τ (upd H3 fl.ix (.dK (m'.map kvN))) := .upd (e _ _ hix) tix
    have kp := (Frm.ex (S := SK) (τ := τ) e).trans (f.mono (sk_of (k := 6) (by decide)))
    have g := f.same hs3.at_ hs3.tg (by decide)
    have g2' := f.same hs3.ct hs3.tct (by decide)
    have r := hs3.rest
    have d1 := f.same r.dl r.tdl (by decide)
    have d2 := f.same r.bl r.tbl (by decide)
    have d3 := f.same r.pa r.tpa (by decide)
    refine op_done (st' := { st with indexes := replaceIndex st.indexes d i }) (is := [0]) k kp ⟨dx, sv, ctA, cas, fl, das, bls, ⟨hs.ok.day, hs.ok.conLen, hs.ok.con, ?_⟩, g.2, g.1, hs3.sale.frm f (by decide) (by decide) (by decide) (by decide) (fun i _ => by omega), g2'.2, g2'.1, hs3.cts_frm f (by decide) (by intro t h z; omega),
      ⟨⟨m', tix, upd_same, hpm'⟩, d1.2, d1.1, r.dels_frm f (by intro t h z; omega), d2.2, d2.1, r.bills_frm f (by decide), d3.2, d3.1⟩, hs3.tab.frm f (by decide) (by decide)⟩ (el_one ev_c) ?_ rfl
    · refine ⟨rep_nd okr.ixNd, ?_, fun e he => ?_, okr.dlLen, okr.dlLe, okr.blLen, okr.blLe, okr.paLen⟩
      · show (replaceIndex st.indexes d i).length ≤ 16
        unfold replaceIndex
        rw [List.length_append]
        show _ + 1 ≤ 16
        omega
      · rcases List.mem_append.mp he with h | h
        · exact okr.ixLe e (List.mem_filter.mp h).1
        · have : e = (d, i) := by simpa using h
          rw [this]
          show d ≤ 99999 ∧ 1 ≤ i ∧ i ≤ 10000
          omega
    · show (if maxDay < d ∨ inRange 1 10000 i = false then _ else if 16 ≤ _ then _ else _) = _
      rw [if_neg gg, if_neg g4]
/-! ### correct_delivery -/
theorem c_correct_delivery (T : Txt K mg A) : C8.Cal P w K mg base 1 "correct_delivery" (spOp A (mk_num2 .correctDelivery)) [] := by
  refine calOf T.d_correct_delivery sc_correct_delivery (fun _ _ _ _ _ _ us hl => match us, hl with | [_, _, _], _ => rfl) (fun vs H Q E h => ?_) (fun f cdv Ar outer s0 H vs Q E hr h => ?_)
  · obtain ⟨sa, τ, st, c, args, rfl, ⟨d, i, rfl, _⟩, _⟩ := h
    rfl
  · obtain ⟨sa, τ, st, c, args, rfl, ⟨n, v, rfl, rfl⟩, hst, k⟩ := h
    refine ⟨_, (pss_cons (ps_if (pt_cmpR op_gt (pv 2) (pe_gi (by rfl) T.k_MAX_VOLUME) (nomark _)) (pss_one (ps_ret (pe_lst (pa_cons (pe_gi (by rfl) T.k_OUT_OF_RANGE) pa_nil)))) pss_nil)
        (pss_cons (ps_if (pt_cmpR op_ge (pv 1) (pe_callB call_len_seq (by rfl) T.b_len boot_len (pa_cons (pe_fld (pv 0) rfl) pa_nil)) (nomark _)) (pss_one (ps_ret (pe_lst (pa_cons (pe_gi (by rfl) T.k_MISSING) pa_nil)))) pss_nil)
        (pss_cons (ps_fld (pe_ix ix_list (pe_fld (pv 0) rfl) (pv 1) (fun _ _ => rfl)) (pv 2) rfl)
        (pss_one (ps_ret (pe_lst (pa_cons pe_int pa_nil))))))), ?_⟩
    obtain ⟨dx, sv, ctA, cas, fl, das, bls, hs⟩ := id hst
    have okr := hs.ok.rest
    refine q_when (et_test (ev_op (ev_var rfl) ev_c rv_I0)) (fun hb H1 e1 => ?_) (fun hb H1 e1 => ?_)
    · refine op_same k e1 hst (el_one ev_c) (is := [-1]) ?_ rfl
      show (if maxQuantity < v then _ else _) = _
      rw [if_pos]
      · rfl
      · unfold maxQuantity
        have := yes hb
        omega
    have g1 : ¬ maxQuantity < v := by
      unfold maxQuantity
      have := no hb
      omega
    have g1' : v ≤ 1000000 := by
      have := no hb
      omega
    refine q_when (et_test (ev_op (ev_var rfl) (ev_len (K := K) (ev_fld (ev_var rfl) (e1 _ _ hs.at_) T.cl_State T.n_State_deliveries lk_State_deliveries) (sq_of (e1 _ _ hs.rest.dl))) rv_I0)) (fun hb H2 e2 => ?_) (fun hb H2 e2 => ?_)
    · have := yes hb
      rw [rL_len, hs.rest.dels.1] at this
      refine op_same k (e1.trans e2) hst (el_one ev_c) (is := [-3]) ?_ rfl
      show (if maxQuantity < v then _ else match st.deliveries[n]? with | none => _ | some delivery => _) = _
      rw [if_neg g1, List.getElem?_eq_none (by omega)]
      rfl
    have hn : n < st.deliveries.length := by
      have := no hb
      rw [rL_len, hs.rest.dels.1] at this
      omega
    obtain ⟨d, hd⟩ : ∃ d, st.deliveries[n]? = some d := ⟨_, List.getElem?_eq_getElem hn⟩
    obtain ⟨da, hda, ddx, dtg, hdat⟩ := hs.rest.dels.get hd
    have e12 := e1.trans e2
    have hn64 : n < 64 := Nat.lt_of_lt_of_le hn okr.dlLen
    refine q_fldV (y := iN v) (ev_var rfl) (ev_ixL (K := K) (ev_fld (ev_var rfl) (e12 _ _ hs.at_) T.cl_State T.n_State_deliveries lk_State_deliveries) (ev_var rfl) (sq_of (e12 _ _ hs.rest.dl)) (rL_get hda)) (e12 _ _ hdat) T.cl_Delivery T.n_Delivery_volume (by show 4 < 1000; decide) fun H3 e3 => ?_
    rw [put_Delivery_volume]
    have e := e12.trans e3
    have hs3 := hs.ex e
    have f : Frm (fun t => t = 200 + n) τ H3 τ (upd H3 da (.ins A.Delivery ddx (fDelivery (iN d.contract) (iN d.day) (iN d.grade) (iN v)))) := .upd (e _ _ hdat) dtg
    have kp := (Frm.ex (S := SK) (τ := τ) e).trans (f.mono (sk_of (k := 200 + n) ⟨by omega, by omega, by omega⟩))
    have g := f.same hs3.at_ hs3.tg (by omega)
    have g2' := f.same hs3.ct hs3.tct (by omega)
    have r := hs3.rest
    have d1 := f.same r.dl r.tdl (by omega)
    have d2 := f.same r.bl r.tbl (by omega)
    have d3 := f.same r.pa r.tpa (by omega)
    refine op_done (st' := { st with deliveries := st.deliveries.set n { d with volume := v } }) (is := [0]) k kp ⟨dx, sv, ctA, cas, fl, das, bls, ⟨hs.ok.day, hs.ok.conLen, hs.ok.con, ?_⟩, g.2, g.1, hs3.sale.frm f (by omega) (by omega) (by omega) (by omega) (fun i _ => by omega), g2'.2, g2'.1, hs3.cts.imp fun j _ _ _ hj r => r.frm f (by omega) (by have := (List.getElem?_eq_some_iff.mp hj).1; have := hs.ok.conLen; omega),
      ⟨r.ix.frm f (by omega), d1.2, d1.1, ?_, d2.2, d2.1, r.bills_frm f (by omega), d3.2, d3.1⟩, hs3.tab.frm f (by omega) (by omega)⟩ (el_one ev_c) ?_ rfl
    · refine ⟨okr.ixNd, okr.ixLen, okr.ixLe, ?_, fun d' hd' => ?_, okr.blLen, okr.blLe, okr.paLen⟩
      · show (st.deliveries.set n _).length ≤ 64
        rw [List.length_set]
        exact okr.dlLen
      · rcases List.mem_or_eq_of_mem_set hd' with h | h
        · exact okr.dlLe d' h
        · have := okr.dlLe d (List.mem_of_getElem? hd)
          rw [h]
          exact ⟨this.1, this.2.1, this.2.2.1, g1'⟩
    · refine ⟨by show das.length = (st.deliveries.set n _).length; rw [List.length_set, r.dels.1], fun i a' d' ha' hd' => ?_⟩
      have hd' : (st.deliveries.set n { d with volume := v })[i]? = some d' := hd'
      by_cases hi : i = n
      · subst hi
        rw [List.getElem?_set_self hn] at hd'
        cases hd'
        rw [hda] at ha'
        cases ha'
        exact ⟨ddx, dtg, upd_same⟩
      · rw [List.getElem?_set_ne (Ne.symm hi)] at hd'
        exact (r.dels.2 i a' d' ha' hd').frm f (by omega)
    · show (if maxQuantity < v then _ else match st.deliveries[n]? with | none => _ | some delivery => _) = _
      rw [if_neg g1, hd]
/-! ### close_contract -/
theorem bd_set {cs : List Contract} {n : Nat} {c c' : Contract} (hc : cs[n]? = some c) (hb : c'.bidders = c.bidders) (i : Nat) : bdOf (cs.set n c') i = bdOf cs i := by
  unfold bdOf
  by_cases z : i = n
  · subst z
    rw [List.getElem?_set_self (List.getElem?_eq_some_iff.mp hc).1, hc]
    exact hb
  · rw [List.getElem?_set_ne (Ne.symm z)]
theorem c_close_contract (T : Txt K mg A) : C8.Cal P w K mg base 2 "close_contract" (spOp A (mk_num .closeContract)) [] := by
  have c_has_contract : C8.Cal P w K mg base 1 "has_contract" (spV (R_has_contract A)) [] := c_has_contract T
  refine calOf T.d_close_contract sc_close_contract (fun _ _ _ _ _ _ us hl => match us, hl with | [_, _], _ => rfl) (fun vs H Q E h => ?_) (fun f cdv Ar outer s0 H vs Q E hr h => ?_)
  · obtain ⟨sa, τ, st, c, args, rfl, ⟨n, rfl, _⟩, _⟩ := h
    rfl
  · obtain ⟨sa, τ, st, c, args, rfl, ⟨n, rfl, rfl⟩, hst, k⟩ := h
    refine ⟨_, (pss_cons (ps_if (pt_not (pt_val (pe_c c_has_contract hr (by decide) (by rfl) (pa_cons (pv 0) (pa_cons (pv 1) pa_nil))))) (pss_one (ps_ret (pe_lst (pa_cons (pe_gi (by rfl) T.k_MISSING) pa_nil)))) pss_nil)
        (pss_cons (ps_if (pt_val (pe_fld (pe_ix ix_list (pe_fld (pv 0) rfl) (pv 1) (fun _ _ => rfl)) rfl)) (pss_one (ps_ret (pe_lst (pa_cons (pe_gi (by rfl) T.k_ALREADY_DONE) pa_nil)))) pss_nil)
        (pss_cons (ps_fld (pe_ix ix_list (pe_fld (pv 0) rfl) (pv 1) (fun _ _ => rfl)) pe_bl rfl)
        (pss_one (ps_ret (pe_lst (pa_cons pe_int pa_nil))))))), ?_⟩
    obtain ⟨dx, sv, ctA, cas, fl, das, bls, hs⟩ := id hst
    refine q_when (et_not (et_B (ev_callV (ea_cons (ev_var rfl) (ea_cons (ev_var rfl) ea_nil)) fun H1 e1 => ⟨sa, τ, st, n, rfl, hst.ex e1, rfl⟩))) (fun hb H1 e1 => ?_) (fun hb H1 e1 => ?_)
    · exact op_same k e1 hst (el_one ev_c) (is := [-3]) (withc_none (not_lt_of hb)) rfl
    have hn := lt_of_not hb
    obtain ⟨c, hcn⟩ : ∃ c, st.contracts[n]? = some c := ⟨_, List.getElem?_eq_getElem hn⟩
    obtain ⟨ca, hca, cdx, va, pa, ba, fa, hc⟩ := hs.cts.get hcn
    have stp : ∀ {x}, (if c.closed = true then (st, errorAlready) else ({ st with contracts := st.contracts.set n { c with closed := true } }, [0])) = x → step st (.closeContract n) = x := fun {x} h => (withc_some hcn).trans h
    refine q_when (et_B (ev_fld (ev_ixL (K := K) (ev_fld (ev_var rfl) (e1 _ _ hs.at_) T.cl_State T.n_State_contracts lk_State_contracts) (ev_var rfl) (sq_of (e1 _ _ hs.ct)) (rL_get hca)) (e1 _ _ hc.at_) T.cl_Contract T.n_Contract_closed lk_Contract_closed)) (fun hb H2 e2 => ?_) (fun hb H2 e2 => ?_)
    · refine op_same k (e1.trans e2) hst (el_one ev_c) (is := [-8]) (stp ?_) rfl
      rw [if_pos hb]
      rfl
    have nc : ¬ c.closed = true := by rw [hb]; exact Bool.false_ne_true
    have e12 := e1.trans e2
    refine q_fldV (y := .bl true) ev_c (ev_ixL (K := K) (ev_fld (ev_var rfl) (e12 _ _ hs.at_) T.cl_State T.n_State_contracts lk_State_contracts) (ev_var rfl) (sq_of (e12 _ _ hs.ct)) (rL_get hca)) (e12 _ _ hc.at_) T.cl_Contract T.n_Contract_closed (by show 8 < 1000; decide) fun H3 e3 => ?_
    rw [put_Contract_closed]
    have e := e12.trans e3
    have hs3 := hs.ex e
    have hn24 : n < 24 := Nat.lt_of_lt_of_le hn hs.ok.conLen
    have f : Frm (fun t => t = 100 + n) τ H3 τ (upd H3 ca (.ins A.Contract cdx (fContract (iN (valueOf c.volumes c.prices)) (.ref va) (.ref pa) (.ref ba) (iN c.day) (iN c.advance) (.ref fa) (.bl true)))) := .upd (e _ _ hc.at_) hc.tg
    have kp := (Frm.ex (S := SK) (τ := τ) e).trans (f.mono (sk_of (k := 100 + n) ⟨by omega, by omega, by omega⟩))
    have g := f.same hs3.at_ hs3.tg (by omega)
    have g2' := f.same hs3.ct hs3.tct (by omega)
    refine op_done (st' := { st with contracts := st.contracts.set n { c with closed := true } }) (is := [0]) k kp ⟨dx, sv, ctA, cas, fl, das, bls, ⟨hs.ok.day, ?_, fun c' hc' => ?_, hs.ok.rest.more (by rw [List.length_set]; exact Nat.le_refl _)⟩, g.2, g.1, hs3.sale.frm f (by omega) (by omega) (by omega) (by omega) (fun i _ => by omega), g2'.2, g2'.1, ?_,
      (hs3.rest.frm f (by omega) (by omega) (by omega) (by omega) (by omega) (by intro t ht z; omega)).more hs.ok.rest (fun i _ => bd_set (c' := { c with closed := true }) hcn rfl i), hs3.tab.frm f (by omega) (by omega)⟩ (el_one ev_c) (stp ?_) rfl
    · show (st.contracts.set n _).length ≤ 24
      rw [List.length_set]
      exact hs.ok.conLen
    · rcases List.mem_or_eq_of_mem_set hc' with h | h
      · exact hs.ok.con c' h
      · have o := hs.ok.con c (List.mem_of_getElem? hcn)
        rw [h]
        exact ⟨o.day, o.adv, o.volLen, o.volLe, o.prLen, o.prLe, o.bdLt, o.bdNd, o.bdLen, o.f0, o.fN, o.fD⟩
    · refine ⟨by show cas.length = (st.contracts.set n _).length; rw [List.length_set, hs.cts.1], fun i a' c' ha' hc' => ?_⟩
      have hc' : (st.contracts.set n { c with closed := true })[i]? = some c' := hc'
      by_cases hi : i = n
      · subst hi
        rw [List.getElem?_set_self hn] at hc'
        cases hc'
        rw [hca] at ha'
        cases ha'
        have eS := (Stp.ex (τ := τ) e)
        have fS := f.stp (by omega)
        have g3 := f.same (e _ _ hc.fa) hc.tfa (by omega)
        exact ⟨cdx, va, pa, ba, fa, hc.tg, upd_same, (hc.volumes.go eS).go fS, (hc.prices.go eS).go fS, (hc.bidders.go eS).go fS, g3.2, g3.1⟩
      · rw [List.getElem?_set_ne (Ne.symm hi)] at hc'
        exact (hs3.cts.2 i a' c' ha' hc').frm f (by omega) (by omega)
    · rw [if_neg nc]
end
end TB

namespace TB
open PySem PySem.Spec PyProof.Rows L2 Evl TimberAuction TBM AuctionSpec
open C8 (pe_c pe_mk pe_mt pe_mt0)
section
variable {K : PySem.W.Frag} {σ : L2.St} {H : Hp} {D : Ends} {u : TS} {ta tb te : TE}
theorem q_augAt {l : Addr} {xs : List V} {j : Nat} {f : Int → Int → Int} {a b : Int} (hl : H l = some (.lst xs)) (hx : xs[j]? = some (.int a)) (ho : Ev ta σ H (.ref l)) (hi : Ev tb σ H (.int (j : Int))) (h : Ev te σ H (.int b)) (k : ∀ H1, Ex H H1 → u D σ (upd H1 l (.lst (xs.set j (.int (f a b)))))) :
    tSeq (tAugS ta tb te (rGetL K) (ipI f) rSetL) u D σ H :=
  ho H (Ex.refl H) _ fun H1 e1 => hi H1 e1 _ fun H2 e2 => ⟨l, xs, .int a, j, rfl, rfl, sq_of ((e1.trans e2) _ _ hl), hx, h H2 (e1.trans e2) _ fun H3 e3 =>
    ⟨a, b, rfl, rfl, l, xs, (j : Int), j, rfl, rfl, ((e1.trans e2).trans e3) _ _ hl, ixN_nat (List.getElem?_eq_some_iff.mp hx).1, k H3 ((e1.trans e2).trans e3)⟩⟩
end
section
variable {P : Program} {w : World} {K : PySem.W.Frag} {mg : Str → Option Value} {base : Heap} {A : Ad}
/-! ### record_payment -/
theorem c_record_payment (T : Txt K mg A) : C8.Cal P w K mg base 1 "record_payment" (spOp A (mk_num2 .recordPayment)) [] := by
  refine calOf T.d_record_payment sc_record_payment (fun _ _ _ _ _ _ us hl => match us, hl with | [_, _, _], _ => rfl) (fun vs H Q E h => ?_) (fun f cdv Ar outer s0 H vs Q E hr h => ?_)
  · obtain ⟨sa, τ, st, c, args, rfl, ⟨d, i, rfl, _⟩, _⟩ := h
    rfl
  · obtain ⟨sa, τ, st, c, args, rfl, ⟨b, v, rfl, rfl⟩, hst, k⟩ := h
    refine ⟨_, (pss_cons (ps_if (PW.pt (pw_or (pt_cmpR op_gt (pv 1) (pe_gi (by rfl) T.k_MAX_BIDDER) (nomark _)) (pw_or1 (pt_cmpR op_gt (pv 2) (pe_gi (by rfl) T.k_MAX_AMOUNT) (nomark _))))) (pss_one (ps_ret (pe_lst (pa_cons (pe_gi (by rfl) T.k_OUT_OF_RANGE) pa_nil)))) pss_nil)
        (pss_cons (ps_augAdd (pe_fld (pv 0) rfl) (pv 1) (pv 2))
        (pss_one (ps_ret (pe_lst (pa_cons pe_int pa_nil)))))), ?_⟩
    obtain ⟨dx, sv, ctA, cas, fl, das, bls, hs⟩ := id hst
    have okr := hs.ok.rest
    refine q_when (et_or (et_test (ev_op (ev_var rfl) ev_c rv_I0)) fun _ => et_test (ev_op (ev_var rfl) ev_c rv_I0)) (fun hb H1 e1 => ?_) (fun hb H1 e1 => ?_)
    · refine op_same k e1 hst (el_one ev_c) (is := [-1]) ?_ rfl
      show (if 15 < b ∨ maxAmount < v then _ else _) = _
      rw [if_pos]
      · rfl
      · unfold maxAmount
        rcases or_yes hb with h | h
        · have := yes h
          omega
        · have := yes h
          omega
    obtain ⟨hb1, hb2⟩ := or_no hb
    have g1 := no hb1
    have g2 := no hb2
    have gg : ¬ (15 < b ∨ maxAmount < v) := by
      unfold maxAmount
      omega
    have hbl : b < st.payments.length := by
      rw [okr.paLen]
      omega
    refine q_augAt (l := fl.pa) (xs := iL st.payments) (j := b) (a := ((st.payments.getD b 0 : Nat) : Int)) (b := (v : Int)) (e1 _ _ hs.rest.pa) (iL_get (nat_get rfl hbl)) (ev_fld (ev_var rfl) (e1 _ _ hs.at_) T.cl_State T.n_State_paid lk_State_paid) (ev_var rfl) (ev_var rfl) fun H2 e2 => ?_
    have e := e1.trans e2
    have hs3 := hs.ex e
    rw [show (V.int (((st.payments.getD b 0 : Nat) : Int) + (v : Int))) = iN (st.payments.getD b 0 + v) from rfl, iL_set]
    have f : Frm (fun t => t = 11) τ H2 τ (upd H2 fl.pa (.lst (iL (st.payments.set b (st.payments.getD b 0 + v))))) := .upd (e _ _ hs.rest.pa) hs.rest.tpa
    have kp := (Frm.ex (S := SK) (τ := τ) e).trans (f.mono (sk_of (k := 11) (by decide)))
    have g := f.same hs3.at_ hs3.tg (by decide)
    have g2' := f.same hs3.ct hs3.tct (by decide)
    have r := hs3.rest
    have d1 := f.same r.dl r.tdl (by decide)
    have d2 := f.same r.bl r.tbl (by decide)
    refine op_done (st' := { st with payments := st.payments.set b (st.payments.getD b 0 + v) }) (is := [0]) k kp ⟨dx, sv, ctA, cas, fl, das, bls, ⟨hs.ok.day, hs.ok.conLen, hs.ok.con, ?_⟩, g.2, g.1, hs3.sale.frm f (by decide) (by decide) (by decide) (by decide) (fun i _ => by omega), g2'.2, g2'.1, hs3.cts_frm f (by decide) (by intro t h z; omega),
      ⟨r.ix.frm f (by decide), d1.2, d1.1, r.dels_frm f (by intro t h z; omega), d2.2, d2.1, r.bills_frm f (by decide), hs.rest.tpa, upd_same⟩, hs3.tab.frm f (by decide) (by decide)⟩ (el_one ev_c) ?_ rfl
    · exact ⟨okr.ixNd, okr.ixLen, okr.ixLe, okr.dlLen, okr.dlLe, okr.blLen, okr.blLe, by rw [List.length_set]; exact okr.paLen⟩
    · exact if_neg gg
/-! ### record_delivery -/
def mk_num4 (f : Nat → Nat → Nat → Nat → Call) : Tg → Hp → List V → Call → Prop := fun _ _ args c => ∃ (a b d e : Nat), args = [iN a, iN b, iN d, iN e] ∧ c = f a b d e
theorem c_record_delivery (T : Txt K mg A) : C8.Cal P w K mg base 3 "record_delivery" (spOp A (mk_num4 .recordDelivery)) [] := by
  have c_has_contract : C8.Cal P w K mg base 1 "has_contract" (spV (R_has_contract A)) [] := c_has_contract T
  have m_Delivery : C8.Mak P w K mg base 1 "Delivery" A.Delivery (spInit A.Delivery 4 fDelL) [] := m_Delivery T
  refine calOf T.d_record_delivery sc_record_delivery (fun _ _ _ _ _ _ us hl => match us, hl with | [_, _, _, _, _], _ => rfl) (fun vs H Q E h => ?_) (fun f cdv Ar outer s0 H vs Q E hr h => ?_)
  · obtain ⟨sa, τ, st, c, args, rfl, ⟨a, b, d, e, rfl, _⟩, _⟩ := h
    rfl
  · obtain ⟨sa, τ, st, c, args, rfl, ⟨n, d, g, v, rfl, rfl⟩, hst, k⟩ := h
    refine ⟨_, (pss_cons (ps_if (PW.pt (pw_or (pt_cmpR op_gt (pv 2) (pe_gi (by rfl) T.k_MAX_DAY) (nomark _)) (pw_or (pt_cmpR op_gt (pv 3) (pe_gi (by rfl) T.k_MAX_GRADE) (nomark _)) (pw_or1 (pt_cmpR op_gt (pv 4) (pe_gi (by rfl) T.k_MAX_VOLUME) (nomark _)))))) (pss_one (ps_ret (pe_lst (pa_cons (pe_gi (by rfl) T.k_OUT_OF_RANGE) pa_nil)))) pss_nil)
        (pss_cons (ps_if (pt_not (pt_val (pe_c c_has_contract hr (by decide) (by rfl) (pa_cons (pv 0) (pa_cons (pv 1) pa_nil))))) (pss_one (ps_ret (pe_lst (pa_cons (pe_gi (by rfl) T.k_MISSING) pa_nil)))) pss_nil)
        (pss_cons (ps_set (i := 5) sc_record_delivery.nd rfl (Or.inl rfl) (pe_ix ix_list (pe_fld (pv 0) rfl) (pv 1) (fun _ _ => rfl)))
        (pss_cons (ps_if (pt_val (pe_fld (pv 5) rfl)) (pss_one (ps_ret (pe_lst (pa_cons (pe_gi (by rfl) T.k_ALREADY_DONE) pa_nil)))) pss_nil)
        (pss_cons (ps_if (PW.pt (pw_or (pt_cmpR op_lt (pv 2) (pe_fld (pv 5) rfl) (nomark _)) (pw_or1 (pt_cmpR op_gt (pv 2) (pe_fld (pv 0) rfl) (nomark _))))) (pss_one (ps_ret (pe_lst (pa_cons (pe_gi (by rfl) T.k_NOT_POSSIBLE) pa_nil)))) pss_nil)
        (pss_cons (ps_if (pt_cmpR op_eq (pe_callB call_len_seq (by rfl) T.b_len boot_len (pa_cons (pe_fld (pv 0) rfl) pa_nil)) (pe_gi (by rfl) T.k_MAX_DELIVERIES) (nomark _)) (pss_one (ps_ret (pe_lst (pa_cons (pe_gi (by rfl) T.k_FULL) pa_nil)))) pss_nil)
        (pss_cons (ps_expr (pe_bm PySem.F.plainAttrs_list PySem.F.slot_list_append PySem.F.type_list_append mt_append (pe_fld (pv 0) rfl) (pa_cons (pe_mk m_Delivery hr (by decide) (by rfl) (pa_cons (pv 1) (pa_cons (pv 2) (pa_cons (pv 3) (pa_cons (pv 4) pa_nil))))) pa_nil)))
        (pss_one (ps_ret (pe_lst (pa_cons (pe_op op_sub (pe_callB call_len_seq (by rfl) T.b_len boot_len (pa_cons (pe_fld (pv 0) rfl) pa_nil)) pe_int) pa_nil))))))))))), ?_⟩
    obtain ⟨dx, sv, ctA, cas, fl, das, bls, hs⟩ := id hst
    have okr := hs.ok.rest
    refine q_when (et_or (et_test (ev_op (ev_var rfl) ev_c rv_I0)) fun _ => et_or (et_test (ev_op (ev_var rfl) ev_c rv_I0)) fun _ => et_test (ev_op (ev_var rfl) ev_c rv_I0)) (fun hb H1 e1 => ?_) (fun hb H1 e1 => ?_)
    · refine op_same k e1 hst (el_one ev_c) (is := [-1]) ?_ rfl
      show (if maxDay < d ∨ 9 < g ∨ maxQuantity < v then _ else _) = _
      rw [if_pos]
      · rfl
      · unfold maxDay maxQuantity
        rcases or_yes hb with h | h
        · have := yes h
          omega
        · rcases or_yes h with h | h
          · have := yes h
            omega
          · have := yes h
            omega
    obtain ⟨hb1, hb23⟩ := or_no hb
    obtain ⟨hb2, hb3⟩ := or_no hb23
    have g1 := no hb1
    have g2 := no hb2
    have g3 := no hb3
    have gg : ¬ (maxDay < d ∨ 9 < g ∨ maxQuantity < v) := by
      unfold maxDay maxQuantity
      omega
    have stp0 : ∀ {x}, withContract st n (fun (contract : Contract) => if contract.closed = true then (st, errorAlready) else
      if d < contract.day ∨ st.day < d then (st, errorNotPossible) else if 64 ≤ st.deliveries.length then (st, errorCapacity) else
      ({ st with deliveries := st.deliveries ++ [⟨n, d, g, v⟩] }, [(st.deliveries.length : Int)])) = x → step st (.recordDelivery n d g v) = x := fun {x} h => (if_neg gg).trans h
    refine q_when (et_not (et_B (ev_callV (ea_cons (ev_var rfl) (ea_cons (ev_var rfl) ea_nil)) fun H2 e2 => ⟨sa, τ, st, n, rfl, hst.ex (e1.trans e2), rfl⟩))) (fun hb H2 e2 => ?_) (fun hb H2 e2 => ?_)
    · exact op_same k (e1.trans e2) hst (el_one ev_c) (is := [-3]) (stp0 (withc_none (not_lt_of hb))) rfl
    have hn := lt_of_not hb
    obtain ⟨c, hcn⟩ : ∃ c, st.contracts[n]? = some c := ⟨_, List.getElem?_eq_getElem hn⟩
    obtain ⟨ca, hca, cdx, va, pa, ba, fa, hc⟩ := hs.cts.get hcn
    have stp : ∀ {x}, (if c.closed = true then (st, errorAlready) else
      if d < c.day ∨ st.day < d then (st, errorNotPossible) else if 64 ≤ st.deliveries.length then (st, errorCapacity) else
      ({ st with deliveries := st.deliveries ++ [⟨n, d, g, v⟩] }, [(st.deliveries.length : Int)])) = x → step st (.recordDelivery n d g v) = x := fun {x} h => stp0 ((withc_some hcn).trans h)
    have e12 := e1.trans e2
    refine q_asg (v := .ref ca) (ev_ixL (K := K) (ev_fld (ev_var rfl) (e12 _ _ hs.at_) T.cl_State T.n_State_contracts lk_State_contracts) (ev_var rfl) (sq_of (e12 _ _ hs.ct)) (rL_get hca)) fun H3 e3 => ?_
    have e13 := e12.trans e3
    refine q_when (et_B (ev_fld (ev_var rfl) (e13 _ _ hc.at_) T.cl_Contract T.n_Contract_closed lk_Contract_closed)) (fun hb H4 e4 => ?_) (fun hb H4 e4 => ?_)
    · refine op_same k (e13.trans e4) hst (el_one ev_c) (is := [-8]) (stp ?_) rfl
      rw [if_pos hb]
      rfl
    have nc : ¬ c.closed = true := by rw [hb]; exact Bool.false_ne_true
    have e14 := e13.trans e4
    refine q_when (et_or (et_test (ev_op (ev_var rfl) (ev_fld (ev_var rfl) (e14 _ _ hc.at_) T.cl_Contract T.n_Contract_day lk_Contract_day) rv_I0)) fun _ => et_test (ev_op (ev_var rfl) (ev_fld (ev_var rfl) (e14 _ _ hs.at_) T.cl_State T.n_State_day lk_State_day) rv_I0)) (fun hb H5 e5 => ?_) (fun hb H5 e5 => ?_)
    · refine op_same k (e14.trans e5) hst (el_one ev_c) (is := [-4]) (stp ?_) rfl
      rw [if_neg nc, if_pos]
      · rfl
      · rcases or_yes hb with h | h
        · have := yes h
          omega
        · have := yes h
          omega
    have g4 : ¬ (d < c.day ∨ st.day < d) := by
      obtain ⟨h1, h2⟩ := or_no hb
      have := no h1
      have := no h2
      omega
    have e15 := e14.trans e5
    refine q_when (et_test (ev_op (ev_len (K := K) (ev_fld (ev_var rfl) (e15 _ _ hs.at_) T.cl_State T.n_State_deliveries lk_State_deliveries) (sq_of (e15 _ _ hs.rest.dl))) ev_c (rv_eq rfl))) (fun hb H6 e6 => ?_) (fun hb H6 e6 => ?_)
    · refine op_same k (e15.trans e6) hst (el_one ev_c) (is := [-9]) (stp ?_) rfl
      have := V.int.inj (yes hb)
      rw [rL_len, hs.rest.dels.1] at this
      rw [if_neg nc, if_neg g4, if_pos (by omega)]
      rfl
    have g5 : ¬ 64 ≤ st.deliveries.length := by
      intro z
      refine no hb ?_
      have := okr.dlLen
      rw [rL_len, hs.rest.dels.1, show st.deliveries.length = 64 by omega]
      rfl
    have e16 := e15.trans e6
    refine q_appN (l := fl.dl) (xs := rL das) (P := fun H0 w H7 => ∃ x xdx, w = .ref x ∧ H0 x = none ∧ H7 x = some (.ins A.Delivery xdx (fDelivery (iN n) (iN d) (iN g) (iN v)))) (e16 _ _ hs.rest.dl) (ev_fld (ev_var rfl) (e16 _ _ hs.at_) T.cl_State T.n_State_deliveries lk_State_deliveries)
      (fun H7 e7 Q' q' => ev_make (ea_cons (ev_var rfl) (ea_cons (ev_var rfl) (ea_cons (ev_var rfl) (ea_cons (ev_var rfl) ea_nil)))) rfl fun x xdx H8 nx e8 h8 => q' _ _ e8 ⟨x, xdx, rfl, nx, h8⟩) (by rw [rL_len, hs.rest.dels.1]; omega) ?_
    rintro w H0 H7 e7 e8 ⟨x, xdx, rfl, nx, hx⟩
    have e0 : Ex H H0 := e16.trans e7
    have e := e0.trans e8
    have nx0 : H x = none := fresh_back e0 nx
    have fN : Frm SK τ H (newTag τ H fun _ => 200 + das.length) H7 := .exN e
    have hs5 : StR A (newTag τ H fun _ => 200 + das.length) H7 sa st dx sv ctA cas fl das bls := hs.frm (S := fun _ => False) (.exN e) fun _ _ z => z
    have f : Frm (fun t => t = 7) (newTag τ H fun _ => 200 + das.length) H7 (newTag τ H fun _ => 200 + das.length) (upd H7 fl.dl (.lst (rL das ++ [.ref x]))) := .upd hs5.rest.dl hs5.rest.tdl
    have kp := fN.trans (f.mono (sk_of (k := 7) (by decide)))
    have gs := f.same hs5.at_ hs5.tg (by decide)
    have gc := f.same hs5.ct hs5.tct (by decide)
    have r := hs5.rest
    have d2 := f.same r.bl r.tbl (by decide)
    have d3 := f.same r.pa r.tpa (by decide)
    have hlen := hs.rest.dels.1
    refine op_done (st' := { st with deliveries := st.deliveries ++ [⟨n, d, g, v⟩] }) (is := [(st.deliveries.length : Int)]) k kp ⟨dx, sv, ctA, cas, fl, das ++ [x], bls, ⟨hs.ok.day, hs.ok.conLen, hs.ok.con, ?_⟩, gs.2, gs.1, hs5.sale.frm f (by decide) (by decide) (by decide) (by decide) (fun i _ => by omega), gc.2, gc.1, hs5.cts_frm f (by decide) (by intro t h z; omega),
      ⟨r.ix.frm f (by decide), r.tdl, ?_, ?_, d2.2, d2.1, r.bills_frm f (by decide), d3.2, d3.1⟩, hs5.tab.frm f (by decide) (by decide)⟩ (el_one (ev_op (ev_len (K := K) (ev_fld (ev_var rfl) gs.1 T.cl_State T.n_State_deliveries lk_State_deliveries) (sq_of upd_same)) ev_c rv_I0)) (stp ?_) ?_
    · refine ⟨okr.ixNd, okr.ixLen, okr.ixLe, ?_, fun d' hd' => ?_, okr.blLen, okr.blLe, okr.paLen⟩
      · rw [List.length_append]
        show _ + 1 ≤ 64
        omega
      · rcases List.mem_append.mp hd' with h | h
        · exact okr.dlLe d' h
        · have : d' = ⟨n, d, g, v⟩ := by simpa using h
          rw [this]
          show n < st.contracts.length ∧ d ≤ 99999 ∧ g ≤ 9 ∧ v ≤ 1000000
          omega
    · rw [upd_same]
      unfold rL
      rw [List.map_append]
      rfl
    · refine All2.snoc (r.dels_frm f (by intro t h z; omega)) ⟨xdx, newTag_new nx0, ?_⟩
      rw [upd_ne (fun z => by rw [z, hs.rest.dl] at nx0; cases nx0)]
      exact hx
    · rw [if_neg nc, if_neg g4, if_neg g5]
    · rw [List.length_append, rL_len, hlen]
      show [V.int (((st.deliveries.length + 1 : Nat) : Int) - 1)] = [V.int _]
      congr 2
      omega
/-! ### contract_value -/
theorem c_contract_value (T : Txt K mg A) : C8.Cal P w K mg base 6 "contract_value" (spOp A (mk_num .contractValue)) [] := by
  have c_has_contract : C8.Cal P w K mg base 1 "has_contract" (spV (R_has_contract A)) [] := c_has_contract T
  have c_estimate_of : C8.Cal P w K mg base 4 "estimate_of" (spP (R_estimate_of A)) [] := c_estimate_of T
  have c_delivered_of : C8.Cal P w K mg base 4 "delivered_of" (spP (R_delivered_of A)) [] := c_delivered_of T
  have c_due_of : C8.Cal P w K mg base 5 "due_of" (spV (R_due_of A)) [] := c_due_of T
  refine calOf T.d_contract_value sc_contract_value (fun _ _ _ _ _ _ us hl => match us, hl with | [_, _], _ => rfl) (fun vs H Q E h => ?_) (fun f cdv Ar outer s0 H vs Q E hr h => ?_)
  · obtain ⟨sa, τ, st, c, args, rfl, ⟨n, rfl, _⟩, _⟩ := h
    rfl
  · obtain ⟨sa, τ, st, c, args, rfl, ⟨n, rfl, rfl⟩, hst, k⟩ := h
    refine ⟨_, (pss_cons (ps_if (pt_not (pt_val (pe_c c_has_contract hr (by decide) (by rfl) (pa_cons (pv 0) (pa_cons (pv 1) pa_nil))))) (pss_one (ps_ret (pe_lst (pa_cons (pe_gi (by rfl) T.k_MISSING) pa_nil)))) pss_nil)
        (pss_cons (ps_set (i := 2) sc_contract_value.nd rfl (Or.inl rfl) (pe_c c_estimate_of hr (by decide) (by rfl) (pa_cons (pe_ix ix_list (pe_fld (pv 0) rfl) (pv 1) (fun _ _ => rfl)) pa_nil)))
        (pss_cons (ps_set (i := 3) sc_contract_value.nd rfl (Or.inl rfl) (pe_c c_delivered_of hr (by decide) (by rfl) (pa_cons (pv 0) (pa_cons (pv 1) pa_nil))))
        (pss_one (ps_ret (pe_lst (pa_cons pe_int (pa_cons (pe_ix ix_tup (pv 2) pe_int (fun _ _ => rfl)) (pa_cons (pe_ix ix_tup (pv 2) pe_int (fun _ _ => rfl)) (pa_cons (pe_ix ix_tup (pv 3) pe_int (fun _ _ => rfl)) (pa_cons (pe_ix ix_tup (pv 3) pe_int (fun _ _ => rfl)) (pa_cons (pe_c c_due_of hr (by decide) (by rfl) (pa_cons (pv 0) (pa_cons (pv 1) pa_nil))) pa_nil)))))))))))), ?_⟩
    obtain ⟨dx, sv, ctA, cas, fl, das, bls, hs⟩ := id hst
    refine q_when (et_not (et_B (ev_callV (ea_cons (ev_var rfl) (ea_cons (ev_var rfl) ea_nil)) fun H1 e1 => ⟨sa, τ, st, n, rfl, hst.ex e1, rfl⟩))) (fun hb H1 e1 => ?_) (fun hb H1 e1 => ?_)
    · exact op_same k e1 hst (el_one ev_c) (is := [-3]) (withc_none (not_lt_of hb)) rfl
    have hn := lt_of_not hb
    obtain ⟨c, hcn⟩ : ∃ c, st.contracts[n]? = some c := ⟨_, List.getElem?_eq_getElem hn⟩
    obtain ⟨ca, hca, hcon⟩ := hs.cts.get hcn
    have ok := hs.ok.con c (List.mem_of_getElem? hcn)
    refine q_asgN (P := fun _ v H2 => ∃ p, v = .ref p ∧ RatAt H2 p (estimate c)) (en_callX (ea_cons (ev_ixL (K := K) (ev_fld (ev_var rfl) (e1 _ _ hs.at_) T.cl_State T.n_State_contracts lk_State_contracts) (ev_var rfl) (sq_of (e1 _ _ hs.ct)) (rL_get hca)) ea_nil) fun H0 H2 e0 e2 => ⟨_, ⟨ca, τ, n, c, rfl, hcon.ex (e1.trans (e0.trans e2)), ok, rfl⟩, fun v H3 e3 ⟨p, hv, _, hp⟩ => ⟨p, hv, hp⟩⟩) fun v H2 e2 ⟨p, hv, hp⟩ => ?_
    subst hv
    have e12 := e1.trans e2
    refine q_asgN (P := fun _ v H3 => ∃ p, v = .ref p ∧ RatAt H3 p (deliveredValue st.indexes st.deliveries n c)) (en_callX (ea_cons (ev_var rfl) (ea_cons (ev_var rfl) ea_nil)) fun H0 H3 e0 e3 => ⟨_, ⟨sa, τ, st, n, c, rfl, hst.ex (e12.trans (e0.trans e3)), hcn, rfl⟩, fun v H4 e4 ⟨p, hv, _, hp⟩ => ⟨p, hv, hp⟩⟩) fun v H3 e3 ⟨q, hv, hq⟩ => ?_
    subst hv
    have e13 := e12.trans e3
    have hp3 := e3 _ _ hp
    refine op_same k e13 hst (el_lst (ea_cons ev_c (ea_cons (ev_op (ev_var rfl) ev_c (rv_ixT (K := K) (st_of hp3) (atI_nat (j := 0) rfl))) (ea_cons (ev_op (ev_var rfl) ev_c (rv_ixT (K := K) (st_of hp3) (atI_nat (j := 1) rfl))) (ea_cons (ev_op (ev_var rfl) ev_c (rv_ixT (K := K) (st_of hq) (atI_nat (j := 0) rfl))) (ea_cons (ev_op (ev_var rfl) ev_c (rv_ixT (K := K) (st_of hq) (atI_nat (j := 1) rfl)))
      (ea_cons (ev_callV (z := iN (amountDue st.indexes st.deliveries n c)) (ea_cons (ev_var rfl) (ea_cons (ev_var rfl) ea_nil)) fun H4 e4 => ⟨sa, τ, st, n, c, rfl, hst.ex (e13.trans e4), hcn, rfl⟩) ea_nil)))))) (by show 6 ≤ 100000; decide)) (withc_some hcn) rfl
/-! ### shortfall -/
theorem c_shortfall (T : Txt K mg A) : C8.Cal P w K mg base 2 "shortfall" (spOp A (mk_num .shortfall)) [] := by
  have c_has_contract : C8.Cal P w K mg base 1 "has_contract" (spV (R_has_contract A)) [] := c_has_contract T
  have c_deliveries_of : C8.Cal P w K mg base 1 "deliveries_of" (spP (R_deliveries_of A)) [] := c_deliveries_of T
  refine calOf T.d_shortfall sc_shortfall (fun _ _ _ _ _ _ us hl => match us, hl with | [_, _], _ => rfl) (fun vs H Q E h => ?_) (fun f cdv Ar outer s0 H vs Q E hr h => ?_)
  · obtain ⟨sa, τ, st, c, args, rfl, ⟨n, rfl, _⟩, _⟩ := h
    rfl
  · obtain ⟨sa, τ, st, c, args, rfl, ⟨n, rfl, rfl⟩, hst, k⟩ := h
    refine ⟨_, (pss_cons (ps_if (pt_not (pt_val (pe_c c_has_contract hr (by decide) (by rfl) (pa_cons (pv 0) (pa_cons (pv 1) pa_nil))))) (pss_one (ps_ret (pe_lst (pa_cons (pe_gi (by rfl) T.k_MISSING) pa_nil)))) pss_nil)
        (pss_cons (ps_set (i := 2) sc_shortfall.nd rfl (Or.inl rfl) (pe_c c_deliveries_of hr (by decide) (by rfl) (pa_cons (pv 0) (pa_cons (pv 1) pa_nil))))
        (pss_cons (ps_set (i := 3) sc_shortfall.nd rfl (Or.inl rfl) (pe_lst (pa_cons pe_int pa_nil)))
        (pss_cons (ps_for PassesOwn.never rfl (pi_range1 (by rfl) T.b_range (pa_cons (pe_gi (by rfl) T.k_GRADES) pa_nil)) (pg_name (i := 4) sc_shortfall.nd rfl (Or.inr rfl)) (pss_cons (ps_set (i := 5) sc_shortfall.nd rfl (Or.inl rfl) (pe_callB (cr_sum (by rfl)) (by rfl) T.b_sum boot_sum (pa_cons (pe_lc (own := [("delivery", 6)])  rfl sc_shortfall.nd (pi_list (pv 2)) (blkOk_by (own := [("delivery", 6)]) (N := ["state", "number", "deliveries", "told", "grade", "measured", "delivery"]) (sc := defScope s_shortfall) (by decide +kernel)) (fun _ _ _ _ _ => (pg_name (i := 6) sc_shortfall.nd rfl (Or.inl rfl))) (fun _ _ _ _ _ => (pts_one (pt_cmpR op_eq (pe_fldB (K := K) (by rfl) (pv 6) (by rfl)) (pv 4) (nomark _)))) (fun _ _ _ _ _ => (pe_fldB (K := K) (by rfl) (pv 6) (by rfl)))) pa_nil)))
        (pss_one (ps_expr (pe_bm PySem.F.plainAttrs_list PySem.F.slot_list_append PySem.F.type_list_append mt_append (pv 3) (pa_cons (pe_op op_sub (pe_ix ix_list (pe_fld (pe_ix ix_list (pe_fld (pv 0) rfl) (pv 1) (fun _ _ => rfl)) rfl) (pv 4) (fun _ _ => rfl)) (pv 5)) pa_nil))))))
        (pss_one (ps_ret (pv 3))))))), ?_⟩
    obtain ⟨dx, sv, ctA, cas, fl, das, bls, hs⟩ := id hst
    refine q_when (et_not (et_B (ev_callV (ea_cons (ev_var rfl) (ea_cons (ev_var rfl) ea_nil)) fun H1 e1 => ⟨sa, τ, st, n, rfl, hst.ex e1, rfl⟩))) (fun hb H1 e1 => ?_) (fun hb H1 e1 => ?_)
    · exact op_same k e1 hst (el_one ev_c) (is := [-3]) (withc_none (not_lt_of hb)) rfl
    have hn := lt_of_not hb
    obtain ⟨c, hcn⟩ : ∃ c, st.contracts[n]? = some c := ⟨_, List.getElem?_eq_getElem hn⟩
    obtain ⟨ca, hca, cdx, va, pa, ba, fa, hc⟩ := hs.cts.get hcn
    have ok := hs.ok.con c (List.mem_of_getElem? hcn)
    refine q_asgN (P := fun _ v H2 => ∃ p, v = .ref p ∧ DelsAt A τ H2 p (st.deliveries.filter fun (d : Delivery) => d.contract == n)) (en_callX (ea_cons (ev_var rfl) (ea_cons (ev_var rfl) ea_nil)) fun H0 H2 e0 e2 => ⟨_, ⟨sa, τ, st, n, rfl, hst.ex (e1.trans (e0.trans e2)), rfl⟩, fun v H3 e3 ⟨p, hv, _, hp⟩ => ⟨p, hv, hp⟩⟩) fun v H2 e2 ⟨p, hv, hdel⟩ => ?_
    subst hv
    obtain ⟨zs, hp, hzs, hzd⟩ := hdel
    have e12 := e1.trans e2
    have hzl : zs.length ≤ 64 := by
      have h1 : zs.length = (st.deliveries.filter fun (d : Delivery) => d.contract == n).length := by rw [← hzs, List.length_map]
      have h2 := List.length_filter_le (fun (d : Delivery) => d.contract == n) st.deliveries
      have := hs.ok.rest.dlLen
      omega
    obtain ⟨short, hshort⟩ : ∃ short : Nat → Int, short = fun (grade : Nat) => ((c.volumes.getD grade 0 : Nat) : Int) - ((Amounts.sum ((st.deliveries.filter fun (delivery : Delivery) => delivery.contract == n && delivery.grade == grade).map fun (delivery : Delivery) => delivery.volume) : Nat) : Int) := ⟨_, rfl⟩
    refine q_asgL (el_one ev_c) fun q H3 nq e3 hq => ?_
    have e13 := e12.trans e3
    refine q_forR1 (n := 10) (ea_cons ev_c ea_nil) (by omega)
      (fun i σ' H' => ∃ y4 y5, σ' = [some (.ref sa), some (iN n), some (.ref p), some (.ref q), y4, y5, none] ∧ Ex H2 H' ∧ H' q = some (.lst ((0 :: (List.range i).map short).map V.int))) (fun H4 e4 => ⟨none, none, rfl, e3.trans e4, e4 _ _ hq⟩) ?_ ?_
    · rintro i σ' H4 hi ⟨y4, y5, rfl, e4, h4⟩
      have hi : i < 10 := by omega
      have e14 := e12.trans e4
      refine q_asg (v := iN (Amounts.sum ((st.deliveries.filter fun (delivery : Delivery) => delivery.contract == n && delivery.grade == i).map fun (delivery : Delivery) => delivery.volume))) (ev_is (ev_sumL (K := K) (ns := (zs.filter fun y => y.2.grade == i).map fun y => ((y.2.volume : Nat) : Int)) ?_) ?_) fun H5 e5 => ?_
      · have hcomp := el_comp (K := K) (σ := [some (.ref sa), some (iN n), some (.ref p), some (.ref q), some (.int (i : Int)), y5, none]) (H := H4) (a := p) (xs := zs.map fun y => V.ref y.1) (j := 6) (vs := [6]) (tl := tVar 2) (t := tTest (tOp rEq (tFld K (tVar 6) "grade") (tVar 4))) (te := tFld K (tVar 6) "volume") zs (fun y => y.2.grade == i) (fun y => .int ((y.2.volume : Nat) : Int)) (ev_var rfl) (sq_of (e4 _ _ hp)) (by rw [List.length_map]) (by rw [List.length_map]; omega) (fun _ => rfl)
          (fun j x y H5 e5 hx hy => ?_) (fun j x y H5 e5 hx hy _ => ?_)
        · rw [List.map_map]
          exact hcomp
        · rw [List.getElem?_map, hy] at hx
          cases hx
          obtain ⟨k', ddx, _, hd⟩ := hzd y (List.mem_of_getElem? hy)
          refine et_is (et_test (ev_op (ev_fld (ev_var rfl) ((e4.trans e5) _ _ hd) T.cl_Delivery T.n_Delivery_grade lk_Delivery_grade) (ev_var rfl) (rv_eq rfl))) ?_
          show decide (V.int _ = V.int _) = (y.2.grade == i)
          rw [Bool.eq_iff_iff]
          simp only [decide_eq_true_eq, beq_iff_eq, V.int.injEq]
          omega
        · rw [List.getElem?_map, hy] at hx
          cases hx
          obtain ⟨k', ddx, _, hd⟩ := hzd y (List.mem_of_getElem? hy)
          exact ev_fld (ev_var rfl) ((e4.trans e5) _ _ hd) T.cl_Delivery T.n_Delivery_volume lk_Delivery_volume
      · refine congrArg V.int ?_
        rw [sum_cast]
        congr 1
        rw [List.map_map]
        have h1 : (st.deliveries.filter fun (delivery : Delivery) => delivery.contract == n && delivery.grade == i) = (zs.filter fun y => y.2.grade == i).map (·.2) := by
          have h2 : (fun (y : Addr × Delivery) => y.2.grade == i) = (fun (d : Delivery) => d.grade == i) ∘ (fun y : Addr × Delivery => y.2) := rfl
          rw [h2, ← List.filter_map, hzs, List.filter_filter]
          exact List.filter_congr fun d _ => Bool.and_comm _ _
        rw [h1, List.map_map]
        rfl
      have hvol : c.volumes[i]? = some (c.volumes.getD i 0) := nat_get ok.volLen hi
      have e15 := e14.trans e5
      refine s_app (v := .int (short i)) (e5 _ _ h4) (ev_var rfl) (ev_is (ev_op (ev_ixL (K := K) (ev_fld (ev_ixL (K := K) (ev_fld (ev_var rfl) (e15 _ _ hs.at_) T.cl_State T.n_State_contracts lk_State_contracts) (ev_var rfl) (sq_of (e15 _ _ hs.ct)) (rL_get hca)) (e15 _ _ hc.at_) T.cl_Contract T.n_Contract_volumes lk_Contract_volumes) (ev_var rfl) (sq_of (e15 _ _ hc.volumes.2)) (iL_get hvol)) (ev_var rfl) rv_I0) ?_) ?_ fun H6 e6 => nx_run ⟨_, _, rfl, ((e4.trans e5).trans e6).mut nq, ?_⟩
      · rw [hshort]
      · rw [List.length_map, List.length_cons, List.length_map, List.length_range]
        omega
      · rw [upd_same, List.range_succ, List.map_append, ← List.cons_append, List.map_append]
        rfl
    · rintro σ' H4 ⟨y4, y5, rfl, e4, h4⟩
      refine rt_ret (ev_var rfl) fun H5 e5 => ?_
      have hstep : step st (.shortfall n) = (st, 0 :: shortfallOf st n c) := withc_some hcn
      have e := (e12.trans e4).trans e5
      refine k τ H5 q (.ex e) ?_ (fresh_back e12 nq) ?_
      · rw [hstep]
        exact hst.ex e
      · rw [hstep, e5 _ _ h4, hshort]
        rfl
end
end TB

namespace TB
open PySem PySem.Spec PyProof.Rows L2 Evl TimberAuction TBM AuctionSpec
open C8 (pe_c pe_mk pe_mt pe_mt0)
/-! ### bills -/
theorem ev_lenE {K : PySem.W.Frag} {σ : L2.St} {H : Hp} {te : TE} {n : Nat} (h : EvN te σ H fun _ v H1 => ∃ (q : Addr) (xs : List V), v = .ref q ∧ H1 q = some (.lst xs) ∧ xs.length = n) :
    Ev (tCB (fun xs H Q => ∃ p ys, xs = [V.ref p] ∧ (SqL K H p ys ∨ SqT K H p ys) ∧ Q (.int ys.length) H) (tCons te tNil)) σ H (iN n) := fun H1 e Q q =>
  h H1 e _ fun v H2 e2 ⟨p, xs, hv, hp, hn⟩ => ⟨p, xs, by rw [hv], .inl (sq_of hp), by rw [hn]; exact q H2 e2⟩
theorem val_look : ∀ {bd : List (Nat × Nat)} {am : List Int} {b : Nat}, (valV ((bd.zip am).map kvI) (Sum.inl (b : Int))).getD (.int 0) = .int (look bd am b)
  | [], _, _ => by simp [look, valV_nil]
  | x :: bd, [], _ => by simp [look, valV_nil]
  | x :: bd, a :: am, b => by
    rw [List.zip_cons_cons, List.map_cons]
    unfold look
    by_cases z : x.1 = b
    · rw [if_pos z, valV_pos (by rw [← z]; rfl)]
      rfl
    · rw [if_neg z, valV_neg (fun q => z (by have := Sum.inl.inj q; exact_mod_cast this))]
      exact val_look
theorem kvI_keys : ∀ {bd : List (Nat × Nat)} {am : List Int}, am.length = bd.length → ((bd.zip am).map kvI).map (·.2) = am.map V.int := by
  intro bd am h
  rw [List.map_map]
  have : ((fun (p : Key × V) => p.2) ∘ kvI) = V.int ∘ (fun e : (Nat × Nat) × Int => e.2) := rfl
  rw [this, ← List.map_map, List.map_snd_zip (by omega)]
section
variable {P : Program} {w : World} {K : PySem.W.Frag} {mg : Str → Option Value} {base : Heap} {A : Ad} {τ τ' : Tg} {H H' : Hp}
def BillsAt (A : Ad) (τ : Tg) (H : Hp) (cs : List Contract) (p : Addr) (bs : List Bill) : Prop := ∃ zs : List (Addr × Bill), H p = some (.lst (zs.map fun y => .ref y.1)) ∧ zs.map (·.2) = bs ∧ ∀ y ∈ zs, BillAt A τ H y.1 y.2 (bdOf cs y.2.contract)
theorem BillAt.ex {a : Addr} {b : Bill} {bs : List (Nat × Nat)} (h : BillAt A τ H a b bs) (e : Ex H H') : BillAt A τ H' a b bs := h.frm (S := fun _ => False) (.ex e) fun z => z
theorem BillsAt.ex {cs : List Contract} {p : Addr} {bs : List Bill} (h : BillsAt A τ H cs p bs) (e : Ex H H') : BillsAt A τ H' cs p bs := by
  obtain ⟨zs, h1, h2, h3⟩ := h
  exact ⟨zs, e _ _ h1, h2, fun y hy => (h3 y hy).ex e⟩
theorem BillsAt.frm {S : Nat → Prop} {cs : List Contract} {p : Addr} {bs : List Bill} (h : BillsAt A τ H cs p bs) (f : Frm S τ H τ' H') (n0 : ¬ S 0) (np : ¬ S (τ p)) : BillsAt A τ' H' cs p bs := by
  obtain ⟨zs, h1, h2, h3⟩ := h
  exact ⟨zs, f.kp _ _ h1 np, h2, fun y hy => (h3 y hy).frm f n0⟩
theorem StR.bills_at {sa : Addr} {st : State} {dx : Addr} {sv : V} {ctA : Addr} {cas : List Addr} {F : Fl} {das bas : List Addr} (h : StR A τ H sa st dx sv ctA cas F das bas) : BillsAt A τ H st.contracts F.bl st.bills := by
  have hl := h.rest.bills.1
  refine ⟨bas.zip st.bills, ?_, ?_, fun y hy => ?_⟩
  · have : (bas.zip st.bills).map (fun y => V.ref y.1) = rL bas := by
      have e : (fun y : Addr × Bill => V.ref y.1) = V.ref ∘ Prod.fst := rfl
      rw [e, ← List.map_map, List.map_fst_zip (by omega)]
      rfl
    rw [this]
    exact h.rest.bl
  · exact List.map_snd_zip (by omega)
  · obtain ⟨i, hi⟩ := List.mem_iff_getElem?.mp hy
    obtain ⟨h1, h2⟩ := List.getElem?_zip_eq_some.mp hi
    exact h.rest.bills.2 i _ _ h1 h2
/-! ### bills_of -/
def R_bills_of (A : Ad) : List V → Hp → (V → Hp → Prop) → Prop := fun vs H Pz => ∃ sa τ st n, vs = [.ref sa, iN n] ∧ StAt A τ H sa st ∧ Pz = fun v H2 => ∃ p, v = .ref p ∧ H p = none ∧ BillsAt A τ H2 st.contracts p (st.bills.filter fun (d : Bill) => d.contract == n)
theorem c_bills_of (T : Txt K mg A) : C8.Cal P w K mg base 1 "bills_of" (spP (R_bills_of A)) [] := by
  refine calOf T.d_bills_of sc_bills_of (fun _ _ _ _ _ _ us hl => match us, hl with | [_, _], _ => rfl) (fun vs H Q E h => ?_) (fun f cdv Ar outer s0 H vs Q E hr h => ?_)
  · obtain ⟨_, ⟨sa, τ, st, n, rfl, _⟩, _⟩ := h
    rfl
  · obtain ⟨_, ⟨sa, τ, st, n, rfl, hst, rfl⟩, kQ⟩ := h
    refine ⟨_, (pss_one (ps_ret (pe_lc (own := [("bill", 2)])  rfl sc_bills_of.nd (pi_list (pe_fld (pv 0) rfl)) (blkOk_by (own := [("bill", 2)]) (N := ["state", "number", "bill"]) (sc := defScope s_bills_of) (by decide +kernel)) (fun _ _ _ _ _ => (pg_name (i := 2) sc_bills_of.nd rfl (Or.inl rfl))) (fun _ _ _ _ _ => (pts_one (pt_cmpR op_eq (pe_fldB (K := K) (by rfl) (pv 2) (by rfl)) (pv 1) (nomark _)))) (fun _ _ _ _ _ => (pv 2))))), ?_⟩
    obtain ⟨dx, sv, ctA, cas, fl, das, bls, hs⟩ := id hst
    obtain ⟨zs, hp, hzs, hzb⟩ := hs.bills_at
    have hle := hs.ok.rest.blLen
    have hzl : zs.length = st.bills.length := by rw [← hzs, List.length_map]
    refine s_retL (el_comp (K := K) zs (fun y => y.2.contract == n) (fun y => .ref y.1) (ev_fld (ev_var rfl) hs.at_ T.cl_State T.n_State_bills lk_State_bills) (sq_of hp) (by rw [List.length_map]) (by rw [List.length_map]; omega) (fun _ => rfl)
      (fun i x y H1 e1 hx hy => ?_) (fun i x y H1 e1 hx hy _ => ?_)) fun p H1 np e1 hp1 => ?_
    · rw [List.getElem?_map, hy] at hx
      cases hx
      obtain ⟨bdx, ma, _, hb, _⟩ := hzb y (List.mem_of_getElem? hy)
      refine et_is (et_test (ev_op (ev_fld (ev_var rfl) (e1 _ _ hb) T.cl_Bill T.n_Bill_contract lk_Bill_contract) (ev_var rfl) (rv_eq rfl))) ?_
      show decide (V.int _ = V.int _) = (y.2.contract == n)
      rw [Bool.eq_iff_iff]
      simp only [decide_eq_true_eq, beq_iff_eq, V.int.injEq]
      omega
    · rw [List.getElem?_map, hy] at hx
      cases hx
      exact ev_var rfl
    · refine kQ _ H1 e1 ⟨p, rfl, np, zs.filter (fun y => y.2.contract == n), hp1, ?_, fun y hy => (hzb y (List.mem_filter.mp hy).1).ex e1⟩
      have : (fun (y : Addr × Bill) => y.2.contract == n) = (fun (d : Bill) => d.contract == n) ∘ (fun y : Addr × Bill => y.2) := rfl
      rw [this, ← List.filter_map, hzs]
/-! ### billed_in -/
def billed (cs : List Contract) (bs : List Bill) (b : Nat) : Int := (bs.map fun (x : Bill) => look (bdOf cs x.contract) x.amounts b).sum
def R_billed_in (A : Ad) : List V → Hp → V → Prop := fun vs H z => ∃ p τ cs bs b, vs = [.ref p, iN b] ∧ BillsAt A τ H cs p bs ∧ bs.length ≤ 48 ∧ z = .int (billed cs bs b)
theorem c_billed_in (T : Txt K mg A) : C8.Cal P w K mg base 1 "billed_in" (spV (R_billed_in A)) [] := by
  refine calOf T.d_billed_in sc_billed_in (fun _ _ _ _ _ _ us hl => match us, hl with | [_, _], _ => rfl) (fun vs H Q E h => ?_) (fun f cdv Ar outer s0 H vs Q E hr h => ?_)
  · obtain ⟨_, ⟨p, τ, cs, bs, b, rfl, _⟩, _⟩ := h
    rfl
  · obtain ⟨_, ⟨p, τ, cs, bs, b, rfl, ⟨zs, hp, hzs, hzb⟩, hle, rfl⟩, kQ⟩ := h
    have hu := hu_of hr
    refine ⟨_, (pss_one (ps_ret (pe_callB (cr_sum (by rfl)) (by rfl) T.b_sum boot_sum (pa_cons (pe_lc (own := [("bill", 2)]) (tt := tYes) rfl sc_billed_in.nd (pi_list (pv 0)) (blkOk_by (own := [("bill", 2)]) (N := ["bills", "bidder", "bill"]) (sc := defScope s_billed_in) (by decide +kernel)) (fun _ _ _ _ _ => (pg_name (i := 2) sc_billed_in.nd rfl (Or.inl rfl))) (fun _ _ _ _ _ => pts_nil) (fun _ _ _ _ _ => (pe_dget2 hu (pe_fldB (K := K) (by rfl) (pv 2) (by rfl)) (pv 1) pe_int ⟨rfl, rfl, rfl, rfl⟩))) pa_nil)))), ?_⟩
    have hzl : zs.length = bs.length := by rw [← hzs, List.length_map]
    refine rt_ret (ev_is (ev_sumL (K := K) (ns := zs.map fun y => look (bdOf cs y.2.contract) y.2.amounts b) ?_) ?_) kQ
    · have := el_compM (K := K) (σ := [some (.ref p), some (iN b), none]) (H := H) (a := p) (xs := zs.map fun y => V.ref y.1) (j := 2) (vs := [2]) (tl := tVar 0) (te := tDGet2 (tFld K (tVar 2) "amounts") (tVar 1) (tC (.int 0))) zs (fun y => .int (look (bdOf cs y.2.contract) y.2.amounts b)) (ev_var rfl) (sq_of hp) (by rw [List.length_map]) (by rw [List.length_map]; omega) (fun _ => rfl)
        (fun i x y H1 e1 hx hy => ?_)
      · rw [List.map_map]
        exact this
      · rw [List.getElem?_map, hy] at hx
        cases hx
        obtain ⟨bdx, ma, _, hb, _, hm, _⟩ := hzb y (List.mem_of_getElem? hy)
        exact ev_is (ev_dget2 (k := Sum.inl (b : Int)) (z := .int 0) (ev_fld (ev_var rfl) (e1 _ _ hb) T.cl_Bill T.n_Bill_amounts lk_Bill_amounts) (ev_var rfl) ev_c (e1 _ _ hm)) val_look
    · unfold billed
      rw [← hzs, List.map_map]
      rfl
/-! ### balance -/
theorem total_is {st : State} {b : Nat} (hc : ∀ c ∈ st.contracts, ConOk c) (hb : ∀ x ∈ st.bills, x.contract < st.contracts.length ∧ x.amounts.length = (bdOf st.contracts x.contract).length) : totalBilled st b = billed st.contracts st.bills b := by
  unfold totalBilled billed
  rw [sumInt_is]
  congr 1
  refine List.map_congr_left fun x hx => ?_
  obtain ⟨h1, h2⟩ := hb x hx
  have hc' : st.contracts[x.contract]? = some st.contracts[x.contract] := List.getElem?_eq_getElem h1
  have hbd : bdOf st.contracts x.contract = st.contracts[x.contract].bidders := by
    unfold bdOf
    rw [hc']
  rw [hbd] at h2 ⊢
  rw [hc']
  exact look_sum (hc _ (List.getElem_mem h1)).bdNd h2 (List.drop_zero)
theorem StR.bill_len {sa : Addr} {st : State} {dx : Addr} {sv : V} {ctA : Addr} {cas : List Addr} {F : Fl} {das bas : List Addr} (h : StR A τ H sa st dx sv ctA cas F das bas) : ∀ x ∈ st.bills, x.contract < st.contracts.length ∧ x.amounts.length = (bdOf st.contracts x.contract).length := fun x hx => by
  refine ⟨(h.ok.rest.blLe x hx).1, ?_⟩
  obtain ⟨i, hi⟩ := List.mem_iff_getElem?.mp hx
  obtain ⟨a, _, _, _, _, _, _, _, hl⟩ := h.rest.bills.get hi
  exact hl
theorem c_balance (T : Txt K mg A) : C8.Cal P w K mg base 2 "balance" (spOp A (mk_num .balance)) [] := by
  have c_billed_in : C8.Cal P w K mg base 1 "billed_in" (spV (R_billed_in A)) [] := c_billed_in T
  refine calOf T.d_balance sc_balance (fun _ _ _ _ _ _ us hl => match us, hl with | [_, _], _ => rfl) (fun vs H Q E h => ?_) (fun f cdv Ar outer s0 H vs Q E hr h => ?_)
  · obtain ⟨sa, τ, st, c, args, rfl, ⟨n, rfl, _⟩, _⟩ := h
    rfl
  · obtain ⟨sa, τ, st, c, args, rfl, ⟨b, rfl, rfl⟩, hst, k⟩ := h
    refine ⟨_, (pss_cons (ps_if (pt_cmpR op_gt (pv 1) (pe_gi (by rfl) T.k_MAX_BIDDER) (nomark _)) (pss_one (ps_ret (pe_lst (pa_cons (pe_gi (by rfl) T.k_OUT_OF_RANGE) pa_nil)))) pss_nil)
        (pss_one (ps_ret (pe_lst (pa_cons pe_int (pa_cons (pe_op op_sub (pe_c c_billed_in hr (by decide) (by rfl) (pa_cons (pe_fld (pv 0) rfl) (pa_cons (pv 1) pa_nil))) (pe_ix ix_list (pe_fld (pv 0) rfl) (pv 1) (fun _ _ => rfl))) pa_nil)))))), ?_⟩
    obtain ⟨dx, sv, ctA, cas, fl, das, bls, hs⟩ := id hst
    refine q_when (et_test (ev_op (ev_var rfl) ev_c rv_I0)) (fun hb H1 e1 => ?_) (fun hb H1 e1 => ?_)
    · refine op_same k e1 hst (el_one ev_c) (is := [-1]) ?_ rfl
      show (if 15 < b then _ else _) = _
      rw [if_pos (by have := yes hb; omega)]
      rfl
    have g1 : ¬ 15 < b := by
      have := no hb
      omega
    have hbl : b < st.payments.length := by
      rw [hs.ok.rest.paLen]
      omega
    refine op_same k e1 hst (el_lst (ea_cons ev_c (ea_cons (ev_op (ev_callV (z := .int (billed st.contracts st.bills b)) (ea_cons (ev_fld (ev_var rfl) (e1 _ _ hs.at_) T.cl_State T.n_State_bills lk_State_bills) (ea_cons (ev_var rfl) ea_nil)) fun H2 e2 => ⟨fl.bl, τ, st.contracts, st.bills, b, rfl, hs.bills_at.ex (e1.trans e2), hs.ok.rest.blLen, rfl⟩)
      (ev_ixL (K := K) (ev_fld (ev_var rfl) (e1 _ _ hs.at_) T.cl_State T.n_State_paid lk_State_paid) (ev_var rfl) (sq_of (e1 _ _ hs.rest.pa)) (iL_get (nat_get rfl hbl))) rv_I0) ea_nil)) (by show 2 ≤ 100000; decide)) (is := [0, totalBilled st b - ((st.payments.getD b 0 : Nat) : Int)]) (if_neg g1) ?_
    rw [total_is hs.ok.con hs.bill_len]
    rfl
/-! ### list_bills -/
def billRow (e : Bill × Nat) : List Int := [(e.2 : Int), (e.1.day : Int)] ++ e.1.amounts
theorem billRow_len (e : Bill × Nat) : (billRow e).length = 2 + e.1.amounts.length := by
  unfold billRow
  rw [List.length_append]
  rfl
theorem billRows_len {n : Nat} : ∀ {l : List (Bill × Nat)}, (∀ e ∈ l, e.1.amounts.length ≤ n) → (l.flatMap billRow).length ≤ l.length * (n + 2)
  | [], _ => Nat.zero_le _
  | x :: l, h => by
    have ih := billRows_len fun e he => h e (List.mem_cons_of_mem _ he)
    have h1 := h x List.mem_cons_self
    rw [List.flatMap_cons, List.length_append, billRow_len, List.length_cons, Nat.succ_mul]
    omega
theorem c_list_bills (T : Txt K mg A) : C8.Cal P w K mg base 2 "list_bills" (spOp A (mk_num .listBills)) [] := by
  have c_has_contract : C8.Cal P w K mg base 1 "has_contract" (spV (R_has_contract A)) [] := c_has_contract T
  have c_bills_of : C8.Cal P w K mg base 1 "bills_of" (spP (R_bills_of A)) [] := c_bills_of T
  refine calOf T.d_list_bills sc_list_bills (fun _ _ _ _ _ _ us hl => match us, hl with | [_, _], _ => rfl) (fun vs H Q E h => ?_) (fun f cdv Ar outer s0 H vs Q E hr h => ?_)
  · obtain ⟨sa, τ, st, c, args, rfl, ⟨n, rfl, _⟩, _⟩ := h
    rfl
  · obtain ⟨sa, τ, st, c, args, rfl, ⟨n, rfl, rfl⟩, hst, k⟩ := h
    refine ⟨_, (pss_cons (ps_if (pt_not (pt_val (pe_c c_has_contract hr (by decide) (by rfl) (pa_cons (pv 0) (pa_cons (pv 1) pa_nil))))) (pss_one (ps_ret (pe_lst (pa_cons (pe_gi (by rfl) T.k_MISSING) pa_nil)))) pss_nil)
        (pss_cons (ps_set (i := 2) sc_list_bills.nd rfl (Or.inl rfl) (pe_lst (pa_cons (pe_callB call_len_seq (by rfl) T.b_len boot_len (pa_cons (pe_c c_bills_of hr (by decide) (by rfl) (pa_cons (pv 0) (pa_cons (pv 1) pa_nil))) pa_nil)) pa_nil)))
        (pss_cons (ps_for PassesOwn.never rfl (pi_enum (by rfl) T.b_enumerate (pa_cons (pe_fld (pv 0) rfl) pa_nil)) (pg_tup rfl (pgs_cons (pg_name (i := 3) sc_list_bills.nd rfl (Or.inl rfl)) (pgs_cons (pg_name (i := 4) sc_list_bills.nd rfl (Or.inl rfl)) pgs_nil))) (pss_one (ps_if (pt_cmpR op_eq (pe_fld (pv 4) rfl) (pv 1) (nomark _)) (pss_one (ps_expr (pe_bm PySem.F.plainAttrs_list PySem.F.slot_list_extend PySem.F.type_list_extend mt_extend (pv 2) (pa_cons (pe_op op_cat (pe_lst (pa_cons (pv 3) (pa_cons (pe_fld (pv 4) rfl) pa_nil))) (pe_listVals rfl (pe_fld (pv 4) rfl) (by rfl) T.b_list)) pa_nil)))) pss_nil)))
        (pss_one (ps_ret (pv 2)))))), ?_⟩
    obtain ⟨dx, sv, ctA, cas, fl, das, bls, hs⟩ := id hst
    refine q_when (et_not (et_B (ev_callV (ea_cons (ev_var rfl) (ea_cons (ev_var rfl) ea_nil)) fun H1 e1 => ⟨sa, τ, st, n, rfl, hst.ex e1, rfl⟩))) (fun hb H1 e1 => ?_) (fun hb H1 e1 => ?_)
    · exact op_same k e1 hst (el_one ev_c) (is := [-3]) (withc_none (not_lt_of hb)) rfl
    have hn := lt_of_not hb
    obtain ⟨c, hcn⟩ : ∃ c, st.contracts[n]? = some c := ⟨_, List.getElem?_eq_getElem hn⟩
    have okr := hs.ok.rest
    have hbl := hs.rest.bills.1
    have hlen := okr.blLen
    have hfl : (st.bills.filter fun (d : Bill) => d.contract == n).length = (st.bills.zipIdx.filter fun (entry : Bill × Nat) => entry.1.contract == n).length := by
      have h1 : (fun (entry : Bill × Nat) => entry.1.contract == n) = (fun (d : Bill) => d.contract == n) ∘ Prod.fst := rfl
      have h2 : st.bills = st.bills.zipIdx.map Prod.fst := (List.zipIdx_map_fst 0 st.bills).symm
      conv => lhs; rw [h2]
      rw [List.filter_map, List.length_map, h1]
    have bdl : ∀ i, (bdOf st.contracts i).length ≤ 4 := fun i => by
      unfold bdOf
      cases z : st.contracts[i]? with
      | none => exact Nat.zero_le _
      | some c => exact (hs.ok.con c (List.mem_of_getElem? z)).bdLen.2
    have hget : ∀ {i : Nat} {b : Bill}, st.bills[i]? = some b → st.bills.zipIdx[i]? = some (b, i) := fun {i b} h => by
      rw [List.getElem?_zipIdx, h]
      show some (b, 0 + i) = _
      rw [Nat.zero_add]
    have e1' := e1
    refine q_asgL (xs := [iN (st.bills.filter fun (d : Bill) => d.contract == n).length]) (el_one (ev_lenE (K := K) (n := (st.bills.filter fun (d : Bill) => d.contract == n).length) (en_callX (ea_cons (ev_var rfl) (ea_cons (ev_var rfl) ea_nil)) fun H0 H2 e0 e2 => ⟨_, ⟨sa, τ, st, n, rfl, hst.ex (e1.trans (e0.trans e2)), rfl⟩, fun v H3 e3 ⟨p, hv, _, zs, hp, hzs, _⟩ => ⟨p, _, hv, hp, by rw [List.length_map, ← hzs, List.length_map]⟩⟩))) fun q H2 nq e2 hq => ?_
    have e12 := e1.trans e2
    obtain ⟨pr, hpr⟩ : ∃ pr : Bill × Nat → Bool, pr = fun (entry : Bill × Nat) => entry.1.contract == n := ⟨_, rfl⟩
    obtain ⟨len0, hlen0⟩ : ∃ len0 : Int, len0 = (((st.bills.filter fun (d : Bill) => d.contract == n).length : Nat) : Int) := ⟨_, rfl⟩
    refine q_forEnum (xs := rL bls) (ea_cons (ev_fld (ev_var rfl) (e12 _ _ hs.at_) T.cl_State T.n_State_bills lk_State_bills) ea_nil) (sq_of (e12 _ _ hs.rest.bl))
      (fun i σ' H' => ∃ y3 y4, σ' = [some (.ref sa), some (iN n), some (.ref q), y3, y4] ∧ Ex H1 H' ∧ H' q = some (.lst ((len0 :: ((st.bills.zipIdx.take i).filter pr).flatMap billRow).map V.int))) (fun H3 e3 => ⟨none, none, rfl, e2.trans e3, by rw [hlen0]; exact e3 _ _ hq⟩) (fun i σ' H' _ ⟨_, _, _, e, _⟩ => sq_of ((e1.trans e) _ _ hs.rest.bl)) ?_ ?_
    · rintro i x TT σ' H3 hx ⟨y3, y4, rfl, e3, h3⟩ nT
      obtain ⟨ba, hba, rfl⟩ := rL_inv hx
      obtain ⟨b, hb, bdx, ma, tb, hbat, tm, hma, hal⟩ := hs.rest.bills.getL hba
      have eT : Ex H3 (upd H3 TT (.tup [.int (i : Nat), .ref ba])) := Ex.new nT
      refine ⟨TT, _, rfl, st_of upd_same, rfl, .int (i : Nat), [.ref ba], rfl, .ref ba, [], rfl, rfl, ?_⟩
      have e13 := (e1.trans e3).trans eT
      have htk : (st.bills.zipIdx.take (i + 1)).filter pr = (st.bills.zipIdx.take i).filter pr ++ (if b.contract = n then [(b, i)] else []) := by
        rw [take_snoc (hget hb), List.filter_append, List.filter_cons, hpr]
        by_cases z : b.contract = n
        · rw [if_pos (by simpa using z), if_pos z]
          rfl
        · rw [if_neg (by simpa using z), if_neg z]
          rfl
      have h3' := eT _ _ h3
      refine s_when (et_test (ev_op (ev_fld (ev_var rfl) (e13 _ _ hbat) T.cl_Bill T.n_Bill_contract lk_Bill_contract) (ev_var rfl) (rv_eq rfl))) (fun hb' H4 e4 => ?_) (fun hb' H4 e4 => ?_)
      · have hz : b.contract = n := by
          have := V.int.inj (yes hb')
          omega
        refine s_ext (xs := (len0 :: ((st.bills.zipIdx.take i).filter pr).flatMap billRow).map V.int) (ys := (billRow (b, i)).map V.int) (e4 _ _ h3') (ev_var rfl) ?_ ?_ fun H5 e5 => nx_run ⟨_, _, rfl, (((e3.trans eT).trans e4).trans e5).mut nq, ?_⟩
        · have hc := el_cat2 (xs := [.int (i : Nat), iN b.day]) (ys := ((((bdOf st.contracts b.contract).zip b.amounts).map kvI).map (·.2))) (ln_el (el_lst (ea_cons (ev_var (σ := [some (.ref sa), some (iN n), some (.ref q), some (.int (i : Nat)), some (.ref ba)]) (H := H4) (i := 3) rfl) (ea_cons (ev_fld (K := K) (ev_var (i := 4) rfl) ((e13.trans e4) _ _ hbat) T.cl_Bill T.n_Bill_day lk_Bill_day) ea_nil)) (by show 2 ≤ 100000; decide))) (ln_el (ev_listVals (ev_fld (K := K) (ev_var (i := 4) rfl) ((e13.trans e4) _ _ hbat) T.cl_Bill T.n_Bill_amounts lk_Bill_amounts) ((e13.trans e4) _ _ hma))) (by
            rw [kvI_keys hal, List.length_map, hal]
            have := bdl b.contract
            show 2 + _ ≤ _
            omega)
          rw [kvI_keys hal] at hc
          exact hc
        · have h1 := billRows_len (n := 4) (l := (st.bills.zipIdx.take i).filter pr) fun e he => by
            have he2 := List.mem_of_mem_take (List.mem_filter.mp he).1
            have he3 : e.1 ∈ st.bills := by
              rw [← List.zipIdx_map_fst 0 st.bills]
              exact List.mem_map.mpr ⟨e, he2, rfl⟩
            have := hs.bill_len e.1 he3
            have := bdl e.1.contract
            omega
          have h2 := List.length_filter_le pr (st.bills.zipIdx.take i)
          rw [List.length_take, List.length_zipIdx] at h2
          have h4 := bdl b.contract
          rw [List.length_map, List.length_map, List.length_cons, billRow_len]
          show _ + (2 + b.amounts.length) ≤ _
          rw [hal]
          have h5 : ((st.bills.zipIdx.take i).filter pr).length * (4 + 2) ≤ 48 * 6 := Nat.mul_le_mul_right _ (by omega)
          omega
        · rw [upd_same, htk, if_pos hz, List.flatMap_append, ← List.cons_append, List.map_append, List.flatMap_cons, List.flatMap_nil, List.append_nil]
      · refine nx_run ⟨_, _, rfl, (e3.trans eT).trans e4, ?_⟩
        rw [htk, if_neg (fun z => no hb' (by rw [z])), List.append_nil]
        exact e4 _ _ h3'
    · rintro σ' H3 ⟨y3, y4, rfl, e3, h3⟩
      refine rt_ret (ev_var rfl) fun H4 e4 => ?_
      have hstep : step st (.listBills n) = (st, ((st.bills.zipIdx.filter pr).length : Int) :: (st.bills.zipIdx.filter pr).flatMap billRow) := by
        rw [hpr]
        exact withc_some hcn
      have e := (e1.trans e3).trans e4
      refine k τ H4 q (.ex e) ?_ (fresh_back e1 nq) ?_
      · rw [hstep]
        exact hst.ex e
      · rw [hstep, e4 _ _ h3, rL_len, hbl, List.take_of_length_le (by rw [List.length_zipIdx]; exact Nat.le_refl _), hlen0, hfl, ← hpr]
end
end TB

namespace TB
open PySem PySem.Spec PyProof.Rows L2 Evl TimberAuction TBM AuctionSpec LamX
open C8 (pe_c pe_mk pe_mt pe_mt0)
section
variable {K : PySem.W.Frag} {σ : L2.St} {H : Hp} {D : Ends} {u tb : TS} {ta : TA} {te td : TE}
theorem q_forZip {a b : Addr} {xs ys : List V} {j1 j2 : Nat} (n : Nat) (h : EvA ta σ H [.ref a, .ref b]) (hx : SqL K H a xs) (hy : SqL K H b ys) (hl : xs.length = n) (hl2 : ys.length = n) (Pv : Nat → L2.St → Hp → Prop) (h0 : ∀ H1, Ex H H1 → Pv 0 σ H1)
    (hG : ∀ i σ' H', i ≤ n → Pv i σ' H' → SqL K H' a xs ∧ SqL K H' b ys) (hs : ∀ i x y σ' H' T, xs[i]? = some x → ys[i]? = some y → Pv i σ' H' → H' T = none → ∀ D' : Ends, D'.nx = Pv (i + 1) → tb D' ((σ'.set j1 (some x)).set j2 (some y)) (upd H' T (.tup [x, y])))
    (hn : ∀ σ' H', Pv n σ' H' → u D σ' H') : tSeq (tFor (iZip K ta) (gTup K 2 (gCons (gName j1) (gCons (gName j2) gNil))) tb) u D σ H :=
  h H (Ex.refl H) _ fun H1 e1 => ⟨a, b, xs, ys, rfl, ex_l e1 hx, ex_l e1 hy, for_it (walk_zip (K := K) (a := a) (b := b) (xs := xs) (ys := ys) (n := n) (by omega)) Pv (h0 H1 e1) (fun i σ' H' hi p => hG i σ' H' hi p)
    (fun i z σ' H' H2 hi p ⟨T, x, y, e2, hT, e3, hxi, hyi⟩ => by
      subst e2
      subst e3
      exact ⟨T, [x, y], rfl, .inl (.inl upd_same), rfl, x, [y], rfl, y, [], rfl, rfl, hs i x y σ' H' T hxi hyi p hT _ rfl⟩) hn⟩
theorem el_valsM {m : List ((Nat × Nat) × Int)} {j : Nat} {vs : List Nat} {d : Addr} (g : (Nat × Nat) × Int → V) (hd : H d = some (.dK (m.map kvI))) (hz : m.length ≤ 40000) (hw : ∀ x, wipe ((wipe σ vs).set j (some x)) vs = wipe σ vs)
    (h : ∀ H0 od, Ex H H0 → Ev td σ (upd H0 d (.frz od (.dK (m.map kvI)))) (.ref d)) (he : ∀ e H1, e ∈ m → Ev te ((wipe σ vs).set j (some (.int e.2))) H1 (g e)) :
    EvL (tLockE (tLc (iVals td) (gName j) tYes te vs)) σ H (m.map g) := by
  have hl : (m.map kvI).length = m.length := List.length_map ..
  have := el_lcVals (kvs := m.map kvI) (td := td) (tt := tYes) (te := te) (j := j) (vs := vs) (fun _ => true) (fun i => (m[i]?).elim .non g) hd (by rw [hl]; exact hz) hw h (fun i k x H1 hk => et_yes) (fun i k x H1 hk hf => ?_)
  · rw [hl, given_all] at this
    have e : (List.range m.length).map (fun i => (m[i]?).elim V.non g) = m.map g := by
      apply List.ext_getElem?
      intro i
      rw [List.getElem?_map, List.getElem?_map]
      by_cases hi : i < m.length
      · rw [List.getElem?_range hi, List.getElem?_eq_getElem hi]
        show some ((m[i]?).elim V.non g) = some (g m[i])
        rw [List.getElem?_eq_getElem hi]
        rfl
      · rw [List.getElem?_eq_none (by rw [List.length_range]; omega), List.getElem?_eq_none (by omega)]
        rfl
    rw [e] at this
    exact this
  · rw [List.getElem?_map] at hk
    cases hm : m[i]? with
    | none => rw [hm] at hk; cases hk
    | some e =>
      rw [hm] at hk
      cases hk
      exact he e H1 (List.mem_of_getElem? hm)
theorem ex_upd2 {H1 : Hp} {d : Addr} {o : HO} (e : Ex H H1) : Ex (upd H d o) (upd H1 d o) := fun b x h => by
  by_cases z : b = d
  · rw [z, upd_same] at h ⊢
    exact h
  · rw [upd_ne z] at h ⊢
    exact e b x h
end
theorem val_noneI : ∀ {m : List ((Nat × Nat) × Int)} {d : Nat}, (∀ e ∈ m, e.1.1 ≠ d) → valV (m.map kvI) (Sum.inl (d : Int)) = none
  | [], _, _ => valV_nil
  | x :: m, d, h => by
    rw [List.map_cons, valV_neg (fun q => h x List.mem_cons_self (by have := Sum.inl.inj q; exact_mod_cast this))]
    exact val_noneI fun e he => h e (List.mem_cons_of_mem _ he)
theorem next_get {ixs : List (Nat × Nat)} {ds : List Delivery} {bs : List Bill} {n : Nat} {c : Contract} {i : Nat} (hi : i < c.bidders.length) :
    (Amounts.distribute (amountDue ixs ds n c) (c.bidders.map (·.2)))[i]? = some ((Amounts.distribute (amountDue ixs ds n c) (c.bidders.map (·.2))).getD i 0) ∧
    (nextAmounts ixs ds bs n c)[i]? = some (((Amounts.distribute (amountDue ixs ds n c) (c.bidders.map (·.2))).getD i 0 : Int) - billedTotal bs n i) := by
  have hl : (Amounts.distribute (amountDue ixs ds n c) (c.bidders.map (·.2))).length = c.bidders.length := by
    unfold Amounts.distribute
    simp
  have h1 := nat_get (l := Amounts.distribute (amountDue ixs ds n c) (c.bidders.map (·.2))) hl hi
  refine ⟨h1, ?_⟩
  unfold nextAmounts
  rw [List.getElem?_map, List.getElem?_zipIdx, h1]
  show some (_ - billedTotal bs n (0 + i)) = _
  rw [Nat.zero_add]
theorem next_len {ixs : List (Nat × Nat)} {ds : List Delivery} {bs : List Bill} {n : Nat} {c : Contract} : (nextAmounts ixs ds bs n c).length = c.bidders.length := by
  unfold nextAmounts Amounts.distribute
  simp
section
variable {P : Program} {w : World} {K : PySem.W.Frag} {mg : Str → Option Value} {base : Heap} {A : Ad}
theorem BillsAt.tag0 {τ τ' : Tg} {H : Hp} {cs : List Contract} {p : Addr} {bs : List Bill} (h : BillsAt A τ H cs p bs) (k : ∀ b, τ b = 0 → τ' b = 0) : BillsAt A τ' H cs p bs := by
  obtain ⟨zs, h1, h2, h3⟩ := h
  exact ⟨zs, h1, h2, fun y hy => let ⟨dx, ma, a, b, c, d, e⟩ := h3 y hy; ⟨dx, ma, k _ a, b, k _ c, d, e⟩⟩
theorem tot_pos {st : State} {n i : Nat} {c : Contract} {e : Nat × Nat} (hcn : st.contracts[n]? = some c) (ok : ConOk c) (hb : ∀ x ∈ st.bills, x.contract < st.contracts.length ∧ x.amounts.length = (bdOf st.contracts x.contract).length) (he : c.bidders[i]? = some e) :
    billedTotal st.bills n i = billed st.contracts (st.bills.filter fun (d : Bill) => d.contract == n) e.1 := by
  unfold billedTotal billed
  rw [sumInt_is]
  congr 1
  refine List.map_congr_left fun x hx => ?_
  obtain ⟨h1, h2⟩ := List.mem_filter.mp hx
  have h2 : x.contract = n := by simpa using h2
  have hl := (hb x h1).2
  have hbd : bdOf st.contracts x.contract = c.bidders := by
    unfold bdOf
    rw [h2, hcn]
  rw [hbd] at hl ⊢
  exact (look_at ok.bdNd hl he).symm
/-! ### amounts_to_bill -/
def sp_amounts (A : Ad) : Sp := fun vs H Q _ => ∃ sa τ st n c, vs = [.ref sa, iN n] ∧ StAt A τ H sa st ∧ st.contracts[n]? = some c ∧
  ∀ τ' H' p, Frm (fun t => t = 12) τ H τ' H' → TabAt A τ' H' → (∀ b, H b = none → τ' b = 0) → H p = none → H' p = some (.dK ((c.bidders.zip (amountsNow st n c)).map kvI)) → Q (.ref p) H'
theorem c_amounts_to_bill (T : Txt K mg A) (BT : TabB base mg A.code A.tab) : C8.Cal P w K mg base 6 "amounts_to_bill" (sp_amounts A) [] := by
  have c_bills_of : C8.Cal P w K mg base 1 "bills_of" (spP (R_bills_of A)) [] := c_bills_of T
  have c_billed_in : C8.Cal P w K mg base 1 "billed_in" (spV (R_billed_in A)) [] := c_billed_in T
  have c_due_of : C8.Cal P w K mg base 5 "due_of" (spV (R_due_of A)) [] := c_due_of T
  have c_parts_of : C8.Cal P w K mg base 2 "parts_of" (sp_parts_of A) [] := c_parts_of T BT
  refine calOf T.d_amounts_to_bill sc_amounts_to_bill (fun _ _ _ _ _ _ us hl => match us, hl with | [_, _], _ => rfl) (fun vs H Q E h => ?_) (fun f cdv Ar outer s0 H vs Q E hr h => ?_)
  · obtain ⟨sa, τ, st, n, c, rfl, _⟩ := h
    rfl
  · obtain ⟨sa, τ, st, n, c, rfl, hst, hcn, kQ⟩ := h
    have hu := hu_of hr
    refine ⟨_, (pss_cons (ps_set (i := 2) sc_amounts_to_bill.nd rfl (Or.inl rfl) (pe_fld (pe_ix ix_list (pe_fld (pv 0) rfl) (pv 1) (fun _ _ => rfl)) rfl))
        (pss_cons (ps_set (i := 3) sc_amounts_to_bill.nd rfl (Or.inl rfl) (pe_c c_bills_of hr (by decide) (by rfl) (pa_cons (pv 0) (pa_cons (pv 1) pa_nil))))
        (pss_cons (ps_set (i := 5) sc_amounts_to_bill.nd rfl (Or.inl rfl) (pe_c c_parts_of hr (by decide) (by rfl) (pa_cons (pe_c c_due_of hr (by decide) (by rfl) (pa_cons (pv 0) (pa_cons (pv 1) pa_nil))) (pa_cons (pe_lc (own := [("pair", 4)]) (tt := tYes) rfl sc_amounts_to_bill.nd (pi_list (pv 2)) (blkOk_by (own := [("pair", 4)]) (N := ["state", "number", "bidders", "earlier", "pair", "parts", "amounts", "part"]) (sc := defScope s_amounts_to_bill) (by decide +kernel)) (fun _ _ _ _ _ => (pg_name (i := 4) sc_amounts_to_bill.nd rfl (Or.inl rfl))) (fun _ _ _ _ _ => pts_nil) (fun _ _ _ _ _ => (pe_ix (ix_tupB (K := K) (by rfl)) (pv 4) pe_int (fun _ _ => rfl)))) pa_nil))))
        (pss_cons (ps_set (i := 6) sc_amounts_to_bill.nd rfl (Or.inl rfl) pe_dnewK)
        (pss_cons (ps_for PassesOwn.never rfl (pi_zip (by rfl) T.b_zip (pa_cons (pv 2) (pa_cons (pv 5) pa_nil))) (pg_tup rfl (pgs_cons (pg_name (i := 4) sc_amounts_to_bill.nd rfl (Or.inl rfl)) (pgs_cons (pg_name (i := 7) sc_amounts_to_bill.nd rfl (Or.inl rfl)) pgs_nil))) (pss_one (ps_dput hu (pv 6) (pe_ix ix_tup (pv 4) pe_int (fun _ _ => rfl)) (pe_op op_sub (pv 7) (pe_c c_billed_in hr (by decide) (by rfl) (pa_cons (pv 3) (pa_cons (pe_ix ix_tup (pv 4) pe_int (fun _ _ => rfl)) pa_nil)))) rfl)))
        (pss_one (ps_ret (pv 6)))))))), ?_⟩
    obtain ⟨dx, sv, ctA, cas, fl, das, bls, hs⟩ := id hst
    obtain ⟨ca, hca, cdx, va, pa, ba, fa, hc⟩ := hs.cts.get hcn
    have ok := hs.ok.con c (List.mem_of_getElem? hcn)
    have hbl := ok.bdLen
    obtain ⟨bas, tba, hba, hbas⟩ := hc.bidders
    refine q_asg (v := .ref ba) (ev_fld (ev_ixL (K := K) (ev_fld (ev_var rfl) hs.at_ T.cl_State T.n_State_contracts lk_State_contracts) (ev_var rfl) (sq_of hs.ct) (rL_get hca)) hc.at_ T.cl_Contract T.n_Contract_bidders lk_Contract_bidders) fun H1 e1 => ?_
    refine q_asgN (P := fun H0 v H2 => ∃ p, v = .ref p ∧ H0 p = none ∧ BillsAt A τ H2 st.contracts p (st.bills.filter fun (d : Bill) => d.contract == n)) (en_callX (ea_cons (ev_var rfl) (ea_cons (ev_var rfl) ea_nil)) fun H0 H2 e0 e2 => ⟨_, ⟨sa, τ, st, n, rfl, hst.ex (e1.trans (e0.trans e2)), rfl⟩, fun v H3 e3 ⟨p, hv, np, hp⟩ => ⟨p, hv, fresh_back e2 np, hp⟩⟩) fun v H2 e2 ⟨p, hv, np, hbp⟩ => ?_
    subst hv
    have e12 := e1.trans e2
    have np0 : H p = none := fresh_back e1 np
    -- what is new bears 0
    let τ0 : Tg := newTag τ H fun _ => 0
    have hbp0 : BillsAt A τ0 H2 st.contracts p (st.bills.filter fun (d : Bill) => d.contract == n) := hbp.tag0 fun b hb => by
      cases z : H b with
      | none => exact newTag_new z
      | some o => exact (newTag_old z).trans hb
    have hs0 : StR A τ0 H2 sa st dx sv ctA cas fl das bls := hs.frm (S := fun _ => False) (.exN e12) fun _ _ z => z
    refine seq_run (asg_run (call_run (cons_run ((ev_callV (z := iN (amountDue st.indexes st.deliveries n c)) (ea_cons (ev_var rfl) (ea_cons (ev_var rfl) ea_nil)) fun H3 e3 => ⟨sa, τ0, st, n, c, rfl, StAt.ex ⟨dx, sv, ctA, cas, fl, das, bls, hs0⟩ e3, hcn, rfl⟩) H2 (Ex.refl _) _ fun H3 e3 => cons_run ((el_compM (K := K) (a := ba) (xs := rL bas) c.bidders (fun e => iN e.2) (ev_var rfl) (sq_of ((e12.trans e3) _ _ hba)) (by rw [rL_len, hbas.1]) (by rw [rL_len, hbas.1]; omega) (fun _ => rfl) fun i x y H4 e4 hx hy => ?_) H3 (Ex.refl _) _ fun wp H4 nw e4 hwp => nil_run ⟨τ0, wp, amountDue st.indexes st.deliveries n c, c.bidders.map (·.2), rfl, ?_, (hs0.ex (e3.trans e4)).tab, ?_, ?_, ?_, fun τ' H5 q f tab5 new nq hq => ?_⟩)))))
    · obtain ⟨pa', hpa', rfl⟩ := rL_inv hx
      obtain ⟨tp, hpe⟩ := hbas.2 i _ _ hpa' hy
      exact ev_op (ev_var rfl) ev_c (rv_ixT (K := K) (st_of ((e12.trans (e3.trans e4)) _ _ hpe)) (atI_nat (j := 1) rfl))
    · rw [hwp]
      unfold iL
      rw [List.map_map]
      rfl
    · rw [List.length_map]
      exact hbl.1
    · rw [List.length_map]
      exact hbl.2
    · intro x hx
      obtain ⟨e, he, rfl⟩ := List.mem_map.mp hx
      exact (ok.bdLt e he).2
    -- behind parts_of
    have e14 := (e12.trans e3).trans e4
    have e24 := e3.trans e4
    have f4 : Frm (fun t => t = 12) τ H τ0 H4 := .exN e14
    have f5 : Frm (fun t => t = 12) τ H τ' H5 := f4.trans f
    have hb5 : BillsAt A τ' H5 st.contracts p (st.bills.filter fun (d : Bill) => d.contract == n) := (hbp0.ex e24).frm f (by decide) (by
      show ¬ newTag τ H (fun _ => 0) p = 12
      rw [newTag_new np0]
      decide)
    have hba5 : H5 ba = some (.lst (rL bas)) := (f5.same hba tba (by decide)).1
    have hbas5 : All2 (fun _ => PairAt τ' H5) bas c.bidders := hbas.imp fun _ _ _ _ _ r => r.go (f5.stp (by decide))
    refine nx_run (seq_run (asg_run fun d nd => nx_run ?_))
    have nd0 : H d = none := f5.fr d nd
    have hfl : (st.bills.filter fun (d : Bill) => d.contract == n).length ≤ 48 := Nat.le_trans (List.length_filter_le _ _) hs.ok.rest.blLen
    have hdl : (Amounts.distribute (amountDue st.indexes st.deliveries n c) (c.bidders.map (·.2))).length = c.bidders.length := by
      unfold Amounts.distribute
      simp
    obtain ⟨am, ham⟩ : ∃ am, am = amountsNow st n c := ⟨_, rfl⟩
    rw [← ham] at kQ
    have hal : am.length = c.bidders.length := by
      rw [ham]
      exact next_len
    have eD : Ex H5 (upd H5 d (.dK [])) := Ex.new nd
    refine q_forZip (K := K) (a := ba) (b := q) (xs := rL bas) (ys := iL (Amounts.distribute (amountDue st.indexes st.deliveries n c) (c.bidders.map (·.2)))) c.bidders.length (ea_cons (ev_var rfl) (ea_cons (ev_var rfl) ea_nil)) (sq_of (eD _ _ hba5)) (sq_of (eD _ _ hq)) (by rw [rL_len, hbas.1]) (by rw [iL_len, hdl])
      (fun i σ' H' => ∃ y4 y7, σ' = [some (.ref sa), some (iN n), some (.ref ba), some (.ref p), y4, some (.ref q), some (.ref d), y7] ∧ Ex H5 H' ∧ H' d = some (.dK (((c.bidders.zip am).take i).map kvI))) (fun H6 e6 => ⟨none, none, rfl, eD.trans e6, e6 _ _ upd_same⟩) (fun i σ' H' _ ⟨_, _, _, e, _⟩ => ⟨sq_of (e _ _ hba5), sq_of (e _ _ hq)⟩) ?_ ?_
    · rintro i x y σ' H6 TT hx hy ⟨y4, y7, rfl, e6, h6⟩ nT D' hD
      obtain ⟨pa', hpa', rfl⟩ := rL_inv hx
      obtain ⟨e, he, tp, hpe⟩ := hbas5.getL hpa'
      have hi : i < c.bidders.length := (List.getElem?_eq_some_iff.mp he).1
      obtain ⟨hd1, hd2⟩ := next_get (ixs := st.indexes) (ds := st.deliveries) (bs := st.bills) (n := n) (c := c) hi
      rw [iL_get hd1] at hy
      obtain rfl := Option.some.inj hy
      have eT : Ex H6 (upd H6 TT (.tup [.ref pa', iN ((Amounts.distribute (amountDue st.indexes st.deliveries n c) (c.bidders.map (·.2))).getD i 0)])) := Ex.new nT
      have e56 := e6.trans eT
      have hz : (c.bidders.zip am)[i]? = some (e, ((Amounts.distribute (amountDue st.indexes st.deliveries n c) (c.bidders.map (·.2))).getD i 0 : Int) - billedTotal st.bills n i) := by
        refine List.getElem?_zip_eq_some.mpr ⟨he, ?_⟩
        rw [ham]
        exact hd2
      refine s_dput (D := D') (d := d) (k := Sum.inl (e.1 : Int)) (v := .int (((Amounts.distribute (amountDue st.indexes st.deliveries n c) (c.bidders.map (·.2))).getD i 0 : Int) - billedTotal st.bills n i)) (ev_is (ev_op (ev_var rfl) (ev_callV (z := .int (billed st.contracts (st.bills.filter fun (d : Bill) => d.contract == n) e.1)) (ea_cons (ev_var rfl) (ea_cons (ev_op (ev_var rfl) ev_c (rv_ixT (K := K) (st_of (e56 _ _ hpe)) (atI_nat (j := 0) rfl))) ea_nil)) fun H7 e7 => ⟨p, τ', st.contracts, _, e.1, rfl, hb5.ex (e56.trans e7), hfl, rfl⟩) rv_I0) ?_) (ev_var rfl)
        (ev_op (ev_var rfl) ev_c (rv_ixT (K := K) (st_of (e56 _ _ hpe)) (atI_nat (j := 0) rfl))) (eT _ _ h6) ?_ fun H7 e7 => ?_
      · rw [tot_pos hcn ok hs.bill_len he]
      · rw [List.length_map, List.length_take, List.length_zip]
        omega
      · rw [hD]
        refine ⟨_, _, rfl, (e56.trans e7).mut nd, ?_⟩
        rw [upd_same, take_snoc hz, putK_new, List.map_append]
        · rfl
        · refine val_noneI fun x hx q => ?_
          obtain ⟨j, hj⟩ := List.mem_iff_getElem?.mp hx
          have hji : j < i := by
            have := (List.getElem?_eq_some_iff.mp hj).1
            rw [List.length_take] at this
            omega
          rw [List.getElem?_take_of_lt hji] at hj
          have hj1 := (List.getElem?_zip_eq_some.mp hj).1
          have hjk : (c.bidders.map (·.1))[j]? = some e.1 := by
            rw [List.getElem?_map, hj1, ← q]
            rfl
          have hik : (c.bidders.map (·.1))[i]? = some e.1 := by
            rw [List.getElem?_map, he]
            rfl
          have := nd_ix ok.bdNd hjk hik
          omega
    · rintro σ' H6 ⟨y4, y7, rfl, e6, h6⟩
      refine rt_ret (ev_var rfl) fun H7 e7 => ?_
      refine kQ τ' H7 d (f5.trans (.ex (e6.trans e7))) (tab5.frm (S := fun _ => False) (.ex (e6.trans e7)) (fun z => z) fun z => z) (fun b hb => ?_) nd0 ?_
      · cases z : H4 b with
        | none => exact new b z
        | some o => exact (f.tag b o z).trans (newTag_new hb)
      · rw [e7 _ _ h6, List.take_of_length_le (by rw [List.length_zip]; omega)]
end
end TB

namespace TB
open PySem PySem.Spec PyProof.Rows L2 Evl TimberAuction TBM AuctionSpec LamX
open C8 (pe_c pe_mk pe_mt pe_mt0)
def amRow (e : (Nat × Nat) × Int) : List Int := [(e.1.1 : Int), e.2]
theorem amRow_len (l : List ((Nat × Nat) × Int)) : (l.flatMap amRow).length = 2 * l.length := by
  induction l with
  | nil => rfl
  | cons b l ih =>
    rw [List.flatMap_cons, List.length_append, ih]
    show 2 + 2 * l.length = 2 * (l.length + 1)
    omega
section
variable {P : Program} {w : World} {K : PySem.W.Frag} {mg : Str → Option Value} {base : Heap} {A : Ad}
/-! ### create_bill -/
theorem c_create_bill (T : Txt K mg A) (BT : TabB base mg A.code A.tab) : C8.Cal P w K mg base 7 "create_bill" (spOp A (mk_num .createBill)) [] := by
  have c_has_contract : C8.Cal P w K mg base 1 "has_contract" (spV (R_has_contract A)) [] := c_has_contract T
  have c_amounts_to_bill : C8.Cal P w K mg base 6 "amounts_to_bill" (sp_amounts A) [] := c_amounts_to_bill T BT
  have m_Bill : C8.Mak P w K mg base 1 "Bill" A.Bill (spInit A.Bill 3 fBillL) [] := m_Bill T
  refine calOf T.d_create_bill sc_create_bill (fun _ _ _ _ _ _ us hl => match us, hl with | [_, _], _ => rfl) (fun vs H Q E h => ?_) (fun f cdv Ar outer s0 H vs Q E hr h => ?_)
  · obtain ⟨sa, τ, st, c, args, rfl, ⟨n, rfl, _⟩, _⟩ := h
    rfl
  · obtain ⟨sa, τ, st, c, args, rfl, ⟨n, rfl, rfl⟩, hst, k⟩ := h
    have hu := hu_of hr
    refine ⟨_, (pss_cons (ps_if (pt_not (pt_val (pe_c c_has_contract hr (by decide) (by rfl) (pa_cons (pv 0) (pa_cons (pv 1) pa_nil))))) (pss_one (ps_ret (pe_lst (pa_cons (pe_gi (by rfl) T.k_MISSING) pa_nil)))) pss_nil)
        (pss_cons (ps_set (i := 2) sc_create_bill.nd rfl (Or.inl rfl) (pe_c c_amounts_to_bill hr (by decide) (by rfl) (pa_cons (pv 0) (pa_cons (pv 1) pa_nil))))
        (pss_cons (ps_if (pt_val (pe_callB (cr_all (by rfl)) (by rfl) T.b_all boot_all (pa_cons (pe_lock (pe_lc (own := [("amount", 3)]) (tt := tYes) rfl sc_create_bill.nd (pi_values (pv 2)) (blkOk_by (own := [("amount", 3)]) (N := ["state", "number", "amounts", "amount", "told", "bidder"]) (sc := defScope s_create_bill) (by decide +kernel)) (fun _ _ _ _ _ => (pg_name (i := 3) sc_create_bill.nd rfl (Or.inl rfl))) (fun _ _ _ _ _ => pts_nil) (fun _ _ _ _ _ => (pe_cmpR op_eq (pv 3) pe_int (nomark _))))) pa_nil))) (pss_one (ps_ret (pe_lst (pa_cons (pe_gi (by rfl) T.k_ALREADY_DONE) pa_nil)))) pss_nil)
        (pss_cons (ps_if (pt_cmpR op_eq (pe_callB call_len_seq (by rfl) T.b_len boot_len (pa_cons (pe_fld (pv 0) rfl) pa_nil)) (pe_gi (by rfl) T.k_MAX_BILLS) (nomark _)) (pss_one (ps_ret (pe_lst (pa_cons (pe_gi (by rfl) T.k_FULL) pa_nil)))) pss_nil)
        (pss_cons (ps_expr (pe_bm PySem.F.plainAttrs_list PySem.F.slot_list_append PySem.F.type_list_append mt_append (pe_fld (pv 0) rfl) (pa_cons (pe_mk m_Bill hr (by decide) (by rfl) (pa_cons (pv 1) (pa_cons (pe_fld (pv 0) rfl) (pa_cons (pv 2) pa_nil)))) pa_nil)))
        (pss_cons (ps_set (i := 4) sc_create_bill.nd rfl (Or.inl rfl) (pe_lst (pa_cons (pe_op op_sub (pe_callB call_len_seq (by rfl) T.b_len boot_len (pa_cons (pe_fld (pv 0) rfl) pa_nil)) pe_int) pa_nil)))
        (pss_cons (ps_lock (ps_for PassesOwn.never rfl (pi_items (pv 2)) (pg_tup rfl (pgs_cons (pg_name (i := 5) sc_create_bill.nd rfl (Or.inl rfl)) (pgs_cons (pg_name (i := 3) sc_create_bill.nd rfl (Or.inl rfl)) pgs_nil))) (pss_one (ps_expr (pe_bm PySem.F.plainAttrs_list PySem.F.slot_list_extend PySem.F.type_list_extend mt_extend (pv 4) (pa_cons (pe_lst (pa_cons (pv 5) (pa_cons (pv 3) pa_nil))) pa_nil))))))
        (pss_one (ps_ret (pv 4)))))))))), ?_⟩
    obtain ⟨dx, sv, ctA, cas, fl, das, bls, hs⟩ := id hst
    refine q_when (et_not (et_B (ev_callV (ea_cons (ev_var rfl) (ea_cons (ev_var rfl) ea_nil)) fun H1 e1 => ⟨sa, τ, st, n, rfl, hst.ex e1, rfl⟩))) (fun hb H1 e1 => ?_) (fun hb H1 e1 => ?_)
    · exact op_same k e1 hst (el_one ev_c) (is := [-3]) (withc_none (not_lt_of hb)) rfl
    have hn := lt_of_not hb
    obtain ⟨c, hcn⟩ : ∃ c, st.contracts[n]? = some c := ⟨_, List.getElem?_eq_getElem hn⟩
    have ok := hs.ok.con c (List.mem_of_getElem? hcn)
    have hbl := ok.bdLen
    have okr := hs.ok.rest
    have hbd : bdOf st.contracts n = c.bidders := by
      unfold bdOf
      rw [hcn]
    obtain ⟨am, ham⟩ : ∃ am, am = amountsNow st n c := ⟨_, rfl⟩
    have hal : am.length = c.bidders.length := by
      rw [ham]
      exact next_len
    have stp : ∀ {x}, (if am.all (fun (amount : Int) => amount == 0) = true then (st, errorAlready) else if 48 ≤ st.bills.length then (st, errorCapacity) else
      ({ st with bills := st.bills ++ [⟨n, st.day, am⟩] }, (st.bills.length : Int) :: (c.bidders.zip am).flatMap amRow)) = x → step st (.createBill n) = x := fun {x} h => by
        rw [ham] at h
        exact (withc_some hcn).trans h
    refine seq_run (asg_run (call_run ((ea_cons (ev_var rfl) (ea_cons (ev_var rfl) ea_nil)) H1 (Ex.refl _) _ fun H2 e2 => ⟨sa, τ, st, n, c, rfl, hst.ex (e1.trans e2), hcn, fun τ' H3 d f3 tab3 new3 nd hd => nx_run ?_⟩)))
    rw [← ham] at hd
    have e12 := e1.trans e2
    have new0 : ∀ b, H b = none → H2 b = none → τ' b = 0 := fun b _ h => new3 b h
    have hs3 : StR A τ' H3 sa st dx sv ctA cas fl das bls := (hs.ex e12).frmT f3 (fun t ht => by omega) tab3
    have hst3 : StAt A τ' H3 sa st := ⟨dx, sv, ctA, cas, fl, das, bls, hs3⟩
    have kp3 : Keeps τ H τ' H3 := (Frm.ex e12).trans (f3.mono (sk_of (k := 12) (by decide)))
    have td : τ' d = 0 := new3 d nd
    have hall : ((c.bidders.zip am).map fun e => e.2 == 0).all id = am.all fun (amount : Int) => amount == 0 := by
      rw [List.all_map]
      have h1 : am = (c.bidders.zip am).map (·.2) := (List.map_snd_zip (by omega)).symm
      conv => rhs; rw [h1]
      rw [List.all_map]
      rfl
    refine q_when (et_B (ev_allL (K := K) (bs := (c.bidders.zip am).map fun e => e.2 == 0) (by
        rw [List.map_map]
        exact el_valsM (m := c.bidders.zip am) (j := 3) (vs := [3]) (fun e => .bl (e.2 == 0)) hd (by rw [List.length_zip]; omega) (fun _ => rfl) (fun H0 od e0 => ev_var rfl) fun e H4 he => ev_is (ev_op (ev_var rfl) ev_c (rv_eq rfl)) (by
          congr 1
          rw [Bool.eq_iff_iff]
          simp)))) (fun hb H4 e4 => ?_) (fun hb H4 e4 => ?_)
    · refine op_done k (kp3.trans (.ex e4)) (hst3.ex e4) (el_one ev_c) (is := [-8]) (stp ?_) rfl
      rw [← hall, if_pos hb]
      rfl
    have ng : ¬ (am.all fun (amount : Int) => amount == 0) = true := by
      rw [← hall, hb]
      exact Bool.false_ne_true
    refine q_when (et_test (ev_op (ev_len (K := K) (ev_fld (ev_var rfl) (e4 _ _ hs3.at_) T.cl_State T.n_State_bills lk_State_bills) (sq_of (e4 _ _ hs3.rest.bl))) ev_c (rv_eq rfl))) (fun hb H5 e5 => ?_) (fun hb H5 e5 => ?_)
    · refine op_done k (kp3.trans (.ex (e4.trans e5))) (hst3.ex (e4.trans e5)) (el_one ev_c) (is := [-9]) (stp ?_) rfl
      have := V.int.inj (yes hb)
      rw [rL_len, hs3.rest.bills.1] at this
      rw [if_neg ng, if_pos (by omega)]
      rfl
    have g5 : ¬ 48 ≤ st.bills.length := by
      intro z
      refine no hb ?_
      have := okr.blLen
      rw [rL_len, hs3.rest.bills.1, show st.bills.length = 48 by omega]
      rfl
    have e35 := e4.trans e5
    refine q_appN (l := fl.bl) (xs := rL bls) (P := fun H0 w H7 => ∃ x xdx, w = .ref x ∧ H0 x = none ∧ H7 x = some (.ins A.Bill xdx (fBill (iN n) (iN st.day) (.ref d)))) (e35 _ _ hs3.rest.bl) (ev_fld (ev_var rfl) (e35 _ _ hs3.at_) T.cl_State T.n_State_bills lk_State_bills)
      (fun H7 e7 Q' q' => ev_make (ea_cons (ev_var rfl) (ea_cons (ev_fld (ev_var rfl) ((e35.trans e7) _ _ hs3.at_) T.cl_State T.n_State_day lk_State_day) (ea_cons (ev_var rfl) ea_nil))) rfl fun x xdx H8 nx e8 h8 => q' _ _ e8 ⟨x, xdx, rfl, nx, h8⟩) (by rw [rL_len, hs3.rest.bills.1]; omega) ?_
    rintro w H6 H7 e6 e7 ⟨x, xdx, rfl, nx, hx⟩
    have e36 : Ex H3 H6 := e35.trans e6
    have e37 := e36.trans e7
    have nx3 : H3 x = none := fresh_back e36 nx
    have nx2 : H2 x = none := f3.fr x nx3
    have hs7 := hs3.ex e37
    -- the bills are one more
    have f7 : Frm (fun t => t = 10) τ' H7 τ' (upd H7 fl.bl (.lst (rL bls ++ [.ref x]))) := .upd hs7.rest.bl hs7.rest.tbl
    have gs := f7.same hs7.at_ hs7.tg (by decide)
    have gc := f7.same hs7.ct hs7.tct (by decide)
    have r := hs7.rest
    have d1 := f7.same r.dl r.tdl (by decide)
    have d3 := f7.same r.pa r.tpa (by decide)
    have hd8 : (upd H7 fl.bl (.lst (rL bls ++ [.ref x]))) d = some (.dK ((c.bidders.zip am).map kvI)) := (f7.same (e37 _ _ hd) td (by decide)).1
    have hx8 : (upd H7 fl.bl (.lst (rL bls ++ [.ref x]))) x = some (.ins A.Bill xdx (fBill (iN n) (iN st.day) (.ref d))) := by
      rw [upd_ne (fun z => by rw [z, hs3.rest.bl] at nx3; cases nx3)]
      exact hx
    have hbl8 : (upd H7 fl.bl (.lst (rL bls ++ [.ref x]))) fl.bl = some (.lst (rL bls ++ [.ref x])) := upd_same
    have hlen := hs.rest.bills.1
    have hs8 : StR A τ' (upd H7 fl.bl (.lst (rL bls ++ [.ref x]))) sa { st with bills := st.bills ++ [⟨n, st.day, am⟩] } dx sv ctA cas fl das (bls ++ [x]) := by
      refine ⟨⟨hs.ok.day, hs.ok.conLen, hs.ok.con, ?_⟩, gs.2, gs.1, hs7.sale.frm f7 (by decide) (by decide) (by decide) (by decide) (fun i _ => by omega), gc.2, gc.1, hs7.cts_frm f7 (by decide) (by intro t h z; omega),
        ⟨r.ix.frm f7 (by decide), d1.2, d1.1, r.dels_frm f7 (by intro t h z; omega), r.tbl, ?_, ?_, d3.2, d3.1⟩, hs7.tab.frm f7 (by decide) (by decide)⟩
      · refine ⟨okr.ixNd, okr.ixLen, okr.ixLe, okr.dlLen, okr.dlLe, ?_, fun b' hb' => ?_, okr.paLen⟩
        · rw [List.length_append]
          show _ + 1 ≤ 48
          omega
        · rcases List.mem_append.mp hb' with h | h
          · exact okr.blLe b' h
          · have : b' = ⟨n, st.day, am⟩ := by simpa using h
            rw [this]
            exact ⟨hn, hs.ok.day⟩
      · rw [upd_same]
        unfold rL
        rw [List.map_append]
        rfl
      · refine All2.snoc (r.bills_frm f7 (by decide)) ⟨xdx, d, new3 x nx2, hx8, td, ?_, ?_⟩
        · show _ = some (HO.dK (((bdOf st.contracts n).zip am).map kvI))
          rw [hbd]
          exact hd8
        · show am.length = (bdOf st.contracts n).length
          rw [hbd, hal]
    have kp8 : Keeps τ H τ' (upd H7 fl.bl (.lst (rL bls ++ [.ref x]))) := (kp3.trans (.ex e37)).trans (f7.mono (sk_of (k := 10) (by decide)))
    generalize (upd H7 fl.bl (.lst (rL bls ++ [.ref x]))) = G at *
    refine q_asgL (xs := [iN st.bills.length]) (el_one (ev_is (ev_op (ev_len (K := K) (ev_fld (ev_var rfl) hs8.at_ T.cl_State T.n_State_bills lk_State_bills) (sq_of hbl8)) ev_c rv_I0) ?_)) fun q H9 nq e9 hq => ?_
    · rw [List.length_append, rL_len, hlen]
      show V.int (((st.bills.length + 1 : Nat) : Int) - 1) = V.int _
      congr 1
      omega
    have nqd : q ≠ d := fun z => by
      rw [z, hd8] at nq
      cases nq
    have hd9 := e9 _ _ hd8
    refine q_forItems (K := K) (d := d) (kvs := (c.bidders.zip am).map kvI) hd9 (fun H0 od e0 => ev_var rfl)
      (fun od i σ' H' => ∃ y3 y5, σ' = [some (.ref sa), some (iN n), some (.ref d), y3, some (.ref q), y5] ∧ Ex (upd G d (.frz od (.dK ((c.bidders.zip am).map kvI)))) H' ∧ H' q = some (.lst (((st.bills.length : Int) :: ((c.bidders.zip am).take i).flatMap amRow).map V.int)))
      (fun od H' e' => ⟨none, none, rfl, (ex_upd2 e9).trans e', e' _ _ (by rw [upd_ne nqd]; exact hq)⟩) (fun od i σ' H' _ ⟨_, _, _, e, _⟩ => e _ _ upd_same) ?_ ?_
    · rintro od i kk x' σ' H' TT hk ⟨y3, y5, rfl, e', h'⟩ nT D' hD
      have nq' : (upd G d (.frz od (.dK ((c.bidders.zip am).map kvI)))) q = none := by
        rw [upd_ne nqd]
        exact nq
      rw [List.getElem?_map] at hk
      obtain ⟨e, he, hke⟩ := Option.map_eq_some_iff.mp hk
      cases hke
      have eT : Ex H' (upd H' TT (.tup [kV (kvI e).1, V.int e.2])) := Ex.new nT
      refine s_ext (D := D') (xs := ((st.bills.length : Int) :: ((c.bidders.zip am).take i).flatMap amRow).map V.int) (ys := (amRow e).map V.int) (eT _ _ h') (ev_var rfl) (el_lst (ea_cons (ev_var rfl) (ea_cons (ev_var rfl) ea_nil)) (by show 2 ≤ 100000; decide)) ?_ fun H10 e10 => ?_
      · rw [List.length_map, List.length_cons, amRow_len, List.length_take, List.length_zip]
        show _ + 2 ≤ _
        omega
      · rw [hD]
        refine ⟨_, _, rfl, ((e'.trans eT).trans e10).mut nq', ?_⟩
        rw [upd_same, take_snoc he, List.flatMap_append, ← List.cons_append, List.map_append]
        rfl
    · rintro od σ' H' ⟨y3, y5, rfl, e', h'⟩
      refine rt_ret (ev_var rfl) fun H10 e10 => ?_
      have eG : Ex G H10 := (lock_ex hd8 e').trans e10
      have hstep := stp (x := ({ st with bills := st.bills ++ [⟨n, st.day, am⟩] }, (st.bills.length : Int) :: (c.bidders.zip am).flatMap amRow)) (by rw [if_neg ng, if_neg g5])
      refine k τ' H10 q (kp8.trans (.ex eG)) ?_ (kp8.fr q nq) ?_
      · rw [hstep]
        exact StAt.ex ⟨dx, sv, ctA, cas, fl, das, bls ++ [x], hs8⟩ eG
      · rw [hstep, e10 _ _ (by rw [upd_ne nqd]; exact h'), List.length_map, List.take_length]
end
end TB

namespace TB
open PySem PySem.Spec PyProof.Rows L2 Evl TimberAuction TBM AuctionSpec PyWrtbsa
open C8 (pe_c pe_mk pe_mt pe_mt0)
section
variable {σ : L2.St} {H H1 : Hp} {D : Ends} {tu tz : TS} {A : Ad} {τ : Tg} {sa : Addr} {st : State} {c : Call} {t : TA} {args : List V} {mk : Tg → Hp → List V → Call → Prop} {E : XK}
theorem q_op {i : Nat} {p j : Int} (hv : σ[i]? = some (some (.int p))) (h1 : p = j → ∀ H1, Ex H H1 → tu { D with nx := tz D } σ H1) (h2 : p ≠ j → ∀ H1, Ex H H1 → tz D σ H1) : tSeq (tIfS (tTest (tOp rEq (tVar i) (tC (.int j)))) tu tNext) tz D σ H :=
  q_when (et_test (ev_op (ev_var hv) ev_c (rv_eq rfl))) (fun hb H1 e1 => h1 (V.int.inj (yes hb)) H1 e1) (fun hb H1 e1 => h2 (fun z => no hb (by rw [z])) H1 e1)
theorem op_call (k : OpK A τ H sa st c D.rt) (hst : StAt A τ H sa st) (e : Ex H H1) (h : EvA t σ H1 (.ref sa :: args)) (hm : ∀ H2, Ex H H2 → mk τ H2 args c) : tRet (tCall (spOp A mk) [] E t) D σ H1 :=
  h H1 (Ex.refl _) _ fun H2 e2 => ⟨sa, τ, st, c, args, by rw [List.append_nil], hm H2 (e.trans e2), hst.ex (e.trans e2), fun τ' H' p kp hs np hp => k τ' H' p ((Frm.ex (e.trans e2)).trans kp) hs (fresh_back (e.trans e2) np) hp⟩
end
/-- the rows of a call, as they lie -/
def RowsIn (τ : Tg) (H : Hp) (rp : Addr) (rows : List (List Int)) : Prop := ∃ ps : List Addr, H rp = some (.lst (rL ps)) ∧ All2 (fun _ a (x : List Int) => τ a = 0 ∧ H a = some (.lst (x.map V.int))) ps rows
theorem numsAt {τ : Tg} {H : Hp} {a : Addr} {l : List Nat} (h : τ a = 0 ∧ H a = some (.lst ((toI l).map V.int))) : NumsAt τ H a l := ⟨h.1, by rw [iL_ints]; exact h.2⟩
theorem NumsAt.ex {τ : Tg} {H H' : Hp} {a : Addr} {l : List Nat} (h : NumsAt τ H a l) (e : Ex H H') : NumsAt τ H' a l := ⟨h.1, e _ _ h.2⟩
def spCall (A : Ad) : Sp := fun vs H Q _ => ∃ sa τ st p np rp ns rs, vs = [.ref sa, .int p, .ref np, .ref rp] ∧ p < 11 ∧ H np = some (.lst (ns.map V.int)) ∧ RowsIn τ H rp rs ∧ shape p = some (ns.length, rs.length) ∧ AuctionNeutral.asked1 ((p :: ns) :: rs) = true ∧ StAt A τ H sa st ∧ NK A τ H sa st ((p :: ns) :: rs) Q
theorem shape_in {p : Int} {n k : Nat} (h : shape p = some (n, k)) : 0 ≤ p ∧ p ≤ 21 := by
  refine Classical.byContradiction fun z => ?_
  unfold shape at h
  repeat rw [if_neg (by omega)] at h
  cases h
section
variable {P : Program} {w : World} {K : PySem.W.Frag} {mg : Str → Option Value} {base : Heap} {A : Ad}
theorem c_answer_of_sales (T : Txt K mg A) : C8.Cal P w K mg base 13 "answer_of_sales" (spCall A) [] := by
  have c_set_day : C8.Cal P w K mg base 1 "set_day" (spOp A mk_set_day) [] := c_set_day T
  have c_open_sale : C8.Cal P w K mg base 4 "open_sale" (spOp A mk_open_sale) [] := c_open_sale T
  have c_add_lot : C8.Cal P w K mg base 3 "add_lot" (spOp A mk_add_lot) [] := c_add_lot T
  have c_set_limit : C8.Cal P w K mg base 3 "set_limit" (spOp A mk_set_limit) [] := c_set_limit T
  have c_place_bid : C8.Cal P w K mg base 5 "place_bid" (spOp A mk_place_bid) [] := c_place_bid T
  have c_withdraw_bid : C8.Cal P w K mg base 3 "withdraw_bid" (spOp A (mk_num .withdrawBid)) [] := c_withdraw_bid T
  have c_list_bids : C8.Cal P w K mg base 3 "list_bids" (spOp A (mk_none .listBids)) [] := c_list_bids T
  have c_check_selection : C8.Cal P w K mg base 6 "check_selection" (spOp A (mk_nums .checkSelection)) [] := c_check_selection T
  have c_best_selection : C8.Cal P w K mg base 8 "best_selection" (spOp A (mk_none .bestSelection)) [] := c_best_selection T
  have c_threshold : C8.Cal P w K mg base 9 "threshold" (spOp A (mk_num .threshold)) [] := c_threshold T
  have c_award : C8.Cal P w K mg base 11 "award" (spOp A (mk_none .award)) [] := c_award T
  refine calOf T.d_answer_of_sales sc_answer_of_sales (fun _ _ _ _ _ _ us hl => match us, hl with | [_, _, _, _], _ => rfl) (fun vs H Q E h => ?_) (fun f cdv Ar outer s0 H vs Q E hr h => ?_)
  · obtain ⟨sa, τ, st, p, np, rp, ns, rs, rfl, _⟩ := h
    rfl
  · obtain ⟨sa, τ, st, p, np, rp, ns, rs, rfl, h11, hnp, ⟨ps, hrp, hps⟩, hsh, ha, hst, k⟩ := h
    refine ⟨_, (pss_cons (ps_if (pt_cmpR op_eq (pv 1) pe_int (nomark _)) (pss_one (ps_ret (pe_c c_set_day hr (by decide) (by rfl) (pa_cons (pv 0) (pa_cons (pe_ix ix_list (pv 2) pe_int (fun _ _ => rfl)) pa_nil))))) pss_nil)
        (pss_cons (ps_if (pt_cmpR op_eq (pv 1) pe_int (nomark _)) (pss_one (ps_ret (pe_c c_open_sale hr (by decide) (by rfl) (pa_cons (pv 0) (pa_cons (pe_ix ix_list (pv 2) pe_int (fun _ _ => rfl)) (pa_cons (pe_ix ix_list (pv 2) pe_int (fun _ _ => rfl)) (pa_cons (pe_ix ix_list (pv 2) pe_int (fun _ _ => rfl)) pa_nil))))))) pss_nil)
        (pss_cons (ps_if (pt_cmpR op_eq (pv 1) pe_int (nomark _)) (pss_one (ps_ret (pe_c c_add_lot hr (by decide) (by rfl) (pa_cons (pv 0) (pa_cons (pe_ix ix_list (pv 2) pe_int (fun _ _ => rfl)) (pa_cons (pe_ix ix_list (pv 3) pe_int (fun _ _ => rfl)) pa_nil)))))) pss_nil)
        (pss_cons (ps_if (pt_cmpR op_eq (pv 1) pe_int (nomark _)) (pss_one (ps_ret (pe_c c_set_limit hr (by decide) (by rfl) (pa_cons (pv 0) (pa_cons (pe_ix ix_list (pv 2) pe_int (fun _ _ => rfl)) (pa_cons (pe_ix ix_list (pv 2) pe_int (fun _ _ => rfl)) pa_nil)))))) pss_nil)
        (pss_cons (ps_if (pt_cmpR op_eq (pv 1) pe_int (nomark _)) (pss_one (ps_ret (pe_c c_place_bid hr (by decide) (by rfl) (pa_cons (pv 0) (pa_cons (pe_ix ix_list (pv 3) pe_int (fun _ _ => rfl)) (pa_cons (pe_ix ix_list (pv 3) pe_int (fun _ _ => rfl)) (pa_cons (pe_ix ix_list (pv 3) pe_int (fun _ _ => rfl)) pa_nil))))))) pss_nil)
        (pss_cons (ps_if (pt_cmpR op_eq (pv 1) pe_int (nomark _)) (pss_one (ps_ret (pe_c c_withdraw_bid hr (by decide) (by rfl) (pa_cons (pv 0) (pa_cons (pe_ix ix_list (pv 2) pe_int (fun _ _ => rfl)) pa_nil))))) pss_nil)
        (pss_cons (ps_if (pt_cmpR op_eq (pv 1) pe_int (nomark _)) (pss_one (ps_ret (pe_c c_list_bids hr (by decide) (by rfl) (pa_cons (pv 0) pa_nil)))) pss_nil)
        (pss_cons (ps_if (pt_cmpR op_eq (pv 1) pe_int (nomark _)) (pss_one (ps_ret (pe_c c_check_selection hr (by decide) (by rfl) (pa_cons (pv 0) (pa_cons (pe_ix ix_list (pv 3) pe_int (fun _ _ => rfl)) pa_nil))))) pss_nil)
        (pss_cons (ps_if (pt_cmpR op_eq (pv 1) pe_int (nomark _)) (pss_one (ps_ret (pe_c c_best_selection hr (by decide) (by rfl) (pa_cons (pv 0) pa_nil)))) pss_nil)
        (pss_cons (ps_if (pt_cmpR op_eq (pv 1) pe_int (nomark _)) (pss_one (ps_ret (pe_c c_threshold hr (by decide) (by rfl) (pa_cons (pv 0) (pa_cons (pe_ix ix_list (pv 2) pe_int (fun _ _ => rfl)) pa_nil))))) pss_nil)
        (pss_one (ps_ret (pe_c c_award hr (by decide) (by rfl) (pa_cons (pv 0) pa_nil)))))))))))))), ?_⟩
    have len : ∀ {n m : Nat}, some (n, m) = some (ns.length, rs.length) → ns.length = n ∧ rs.length = m := fun h => by
      cases h
      exact ⟨rfl, rfl⟩
    refine q_op rfl (fun hp H1 e1 => ?_) (fun h0 H1 e1 => ?_)
    · subst hp
      obtain ⟨l1, l2⟩ := len hsh
      obtain ⟨x0, rfl, rfl, k⟩ := call_0 k l1 l2 ha
      exact op_call k hst e1 (ea_cons (ev_var rfl) (ea_cons (ev_ixL (K := K) (i := 0) (ev_var rfl) ev_c (sq_of (e1 _ _ hnp)) rfl) ea_nil)) fun H2 e2 => ⟨x0, rfl, rfl⟩
    refine q_op rfl (fun hp H2 e2 => ?_) (fun h1 H2 e2 => ?_)
    · subst hp
      obtain ⟨l1, l2⟩ := len hsh
      obtain ⟨x0, x1, x2, rfl, rfl, k⟩ := call_1 k l1 l2 ha
      have e := e1.trans e2
      exact op_call k hst e (ea_cons (ev_var rfl) (ea_cons (ev_ixL (K := K) (i := 0) (ev_var rfl) ev_c (sq_of (e _ _ hnp)) rfl) (ea_cons (ev_ixL (K := K) (i := 1) (ev_var rfl) ev_c (sq_of (e _ _ hnp)) rfl) (ea_cons (ev_ixL (K := K) (i := 2) (ev_var rfl) ev_c (sq_of (e _ _ hnp)) rfl) ea_nil)))) fun H2 e2 => ⟨x0, x1, x2, rfl, rfl⟩
    have e := e1.trans e2
    refine q_op rfl (fun hp H3 e3 => ?_) (fun h2 H3 e3 => ?_)
    · subst hp
      obtain ⟨l1, l2⟩ := len hsh
      obtain ⟨x0, m0, rfl, rfl, q0, k⟩ := call_2 k l1 l2 ha
      have e := e.trans e3
      obtain ⟨a0, g0, r0⟩ := hps.get (i := 0) rfl
      exact op_call k hst e (ea_cons (ev_var rfl) (ea_cons (ev_ixL (K := K) (i := 0) (ev_var rfl) ev_c (sq_of (e _ _ hnp)) rfl) (ea_cons (ev_ixL (K := K) (i := 0) (ev_var rfl) ev_c (sq_of (e _ _ hrp)) (rL_get g0)) ea_nil))) fun H2 e2 => ⟨x0, a0, m0, rfl, (numsAt r0).ex e2, q0, rfl⟩
    have e := e.trans e3
    refine q_op rfl (fun hp H4 e4 => ?_) (fun h3 H4 e4 => ?_)
    · subst hp
      obtain ⟨l1, l2⟩ := len hsh
      obtain ⟨x0, x1, rfl, rfl, k⟩ := call_3 k l1 l2 ha
      have e := e.trans e4
      exact op_call k hst e (ea_cons (ev_var rfl) (ea_cons (ev_ixL (K := K) (i := 0) (ev_var rfl) ev_c (sq_of (e _ _ hnp)) rfl) (ea_cons (ev_ixL (K := K) (i := 1) (ev_var rfl) ev_c (sq_of (e _ _ hnp)) rfl) ea_nil))) fun H2 e2 => ⟨x0, x1, rfl, rfl⟩
    have e := e.trans e4
    refine q_op rfl (fun hp H5 e5 => ?_) (fun h4 H5 e5 => ?_)
    · subst hp
      obtain ⟨l1, l2⟩ := len hsh
      obtain ⟨m0, m1, m2, rfl, rfl, q0, q1, q2, k⟩ := call_4 k l1 l2 ha
      have e := e.trans e5
      obtain ⟨a0, g0, r0⟩ := hps.get (i := 0) rfl
      obtain ⟨a1, g1, r1⟩ := hps.get (i := 1) rfl
      obtain ⟨a2, g2, r2⟩ := hps.get (i := 2) rfl
      exact op_call k hst e (ea_cons (ev_var rfl) (ea_cons (ev_ixL (K := K) (i := 0) (ev_var rfl) ev_c (sq_of (e _ _ hrp)) (rL_get g0)) (ea_cons (ev_ixL (K := K) (i := 1) (ev_var rfl) ev_c (sq_of (e _ _ hrp)) (rL_get g1)) (ea_cons (ev_ixL (K := K) (i := 2) (ev_var rfl) ev_c (sq_of (e _ _ hrp)) (rL_get g2)) ea_nil)))) fun H2 e2 => ⟨a0, a1, a2, m0, m1, m2, rfl, (numsAt r0).ex e2, (numsAt r1).ex e2, (numsAt r2).ex e2, q0, q1, q2, rfl⟩
    have e := e.trans e5
    refine q_op rfl (fun hp H6 e6 => ?_) (fun h5 H6 e6 => ?_)
    · subst hp
      obtain ⟨l1, l2⟩ := len hsh
      obtain ⟨x0, rfl, rfl, k⟩ := call_5 k l1 l2 ha
      have e := e.trans e6
      exact op_call k hst e (ea_cons (ev_var rfl) (ea_cons (ev_ixL (K := K) (i := 0) (ev_var rfl) ev_c (sq_of (e _ _ hnp)) rfl) ea_nil)) fun H2 e2 => ⟨x0, rfl, rfl⟩
    have e := e.trans e6
    refine q_op rfl (fun hp H7 e7 => ?_) (fun h6 H7 e7 => ?_)
    · subst hp
      obtain ⟨l1, l2⟩ := len hsh
      obtain ⟨rfl, rfl, k⟩ := call_6 k l1 l2 ha
      exact op_call k hst (e.trans e7) (ea_cons (ev_var rfl) ea_nil) fun H2 e2 => ⟨rfl, rfl⟩
    have e := e.trans e7
    refine q_op rfl (fun hp H8 e8 => ?_) (fun h7 H8 e8 => ?_)
    · subst hp
      obtain ⟨l1, l2⟩ := len hsh
      obtain ⟨m0, rfl, rfl, q0, k⟩ := call_7 k l1 l2 ha
      have e := e.trans e8
      obtain ⟨a0, g0, r0⟩ := hps.get (i := 0) rfl
      exact op_call k hst e (ea_cons (ev_var rfl) (ea_cons (ev_ixL (K := K) (i := 0) (ev_var rfl) ev_c (sq_of (e _ _ hrp)) (rL_get g0)) ea_nil)) fun H2 e2 => ⟨a0, m0, rfl, (numsAt r0).ex e2, q0, rfl⟩
    have e := e.trans e8
    refine q_op rfl (fun hp H9 e9 => ?_) (fun h8 H9 e9 => ?_)
    · subst hp
      obtain ⟨l1, l2⟩ := len hsh
      obtain ⟨rfl, rfl, k⟩ := call_8 k l1 l2 ha
      exact op_call k hst (e.trans e9) (ea_cons (ev_var rfl) ea_nil) fun H2 e2 => ⟨rfl, rfl⟩
    have e := e.trans e9
    refine q_op rfl (fun hp H10 e10 => ?_) (fun h9 H10 e10 => ?_)
    · subst hp
      obtain ⟨l1, l2⟩ := len hsh
      obtain ⟨x0, rfl, rfl, k⟩ := call_9 k l1 l2 ha
      have e := e.trans e10
      exact op_call k hst e (ea_cons (ev_var rfl) (ea_cons (ev_ixL (K := K) (i := 0) (ev_var rfl) ev_c (sq_of (e _ _ hnp)) rfl) ea_nil)) fun H2 e2 => ⟨x0, rfl, rfl⟩
    have e := e.trans e10
    have hp : p = 10 := by
      have := shape_in hsh
      omega
    subst hp
    obtain ⟨l1, l2⟩ := len hsh
    obtain ⟨rfl, rfl, k⟩ := call_10 k l1 l2 ha
    exact op_call k hst e (ea_cons (ev_var rfl) ea_nil) fun H2 e2 => ⟨rfl, rfl⟩
/-! ### the operations of contracts -/
def spCallC (A : Ad) : Sp := fun vs H Q _ => ∃ sa τ st p np ns rs, vs = [.ref sa, .int p, .ref np] ∧ 11 ≤ p ∧ H np = some (.lst (ns.map V.int)) ∧ shape p = some (ns.length, rs.length) ∧ AuctionNeutral.asked1 ((p :: ns) :: rs) = true ∧ StAt A τ H sa st ∧ NK A τ H sa st ((p :: ns) :: rs) Q
theorem c_answer_of_contracts (T : Txt K mg A) (BT : LamX.TabB base mg A.code A.tab) : C8.Cal P w K mg base 13 "answer_of_contracts" (spCallC A) [] := by
  have c_get_contract : C8.Cal P w K mg base 2 "get_contract" (spOp A (mk_num .getContract)) [] := c_get_contract T
  have c_set_index : C8.Cal P w K mg base 1 "set_index" (spOp A (mk_num2 .setIndex)) [] := c_set_index T
  have c_record_delivery : C8.Cal P w K mg base 3 "record_delivery" (spOp A (mk_num4 .recordDelivery)) [] := c_record_delivery T
  have c_correct_delivery : C8.Cal P w K mg base 1 "correct_delivery" (spOp A (mk_num2 .correctDelivery)) [] := c_correct_delivery T
  have c_close_contract : C8.Cal P w K mg base 2 "close_contract" (spOp A (mk_num .closeContract)) [] := c_close_contract T
  have c_contract_value : C8.Cal P w K mg base 6 "contract_value" (spOp A (mk_num .contractValue)) [] := c_contract_value T
  have c_create_bill : C8.Cal P w K mg base 7 "create_bill" (spOp A (mk_num .createBill)) [] := c_create_bill T BT
  have c_list_bills : C8.Cal P w K mg base 2 "list_bills" (spOp A (mk_num .listBills)) [] := c_list_bills T
  have c_record_payment : C8.Cal P w K mg base 1 "record_payment" (spOp A (mk_num2 .recordPayment)) [] := c_record_payment T
  have c_balance : C8.Cal P w K mg base 2 "balance" (spOp A (mk_num .balance)) [] := c_balance T
  have c_shortfall : C8.Cal P w K mg base 2 "shortfall" (spOp A (mk_num .shortfall)) [] := c_shortfall T
  refine calOf T.d_answer_of_contracts sc_answer_of_contracts (fun _ _ _ _ _ _ us hl => match us, hl with | [_, _, _], _ => rfl) (fun vs H Q E h => ?_) (fun f cdv Ar outer s0 H vs Q E hr h => ?_)
  · obtain ⟨sa, τ, st, p, np, ns, rs, rfl, _⟩ := h
    rfl
  · obtain ⟨sa, τ, st, p, np, ns, rs, rfl, h11, hnp, hsh, ha, hst, k⟩ := h
    refine ⟨_, (pss_cons (ps_if (pt_cmpR op_eq (pv 1) pe_int (nomark _)) (pss_one (ps_ret (pe_c c_get_contract hr (by decide) (by rfl) (pa_cons (pv 0) (pa_cons (pe_ix ix_list (pv 2) pe_int (fun _ _ => rfl)) pa_nil))))) pss_nil)
        (pss_cons (ps_if (pt_cmpR op_eq (pv 1) pe_int (nomark _)) (pss_one (ps_ret (pe_c c_set_index hr (by decide) (by rfl) (pa_cons (pv 0) (pa_cons (pe_ix ix_list (pv 2) pe_int (fun _ _ => rfl)) (pa_cons (pe_ix ix_list (pv 2) pe_int (fun _ _ => rfl)) pa_nil)))))) pss_nil)
        (pss_cons (ps_if (pt_cmpR op_eq (pv 1) pe_int (nomark _)) (pss_one (ps_ret (pe_c c_record_delivery hr (by decide) (by rfl) (pa_cons (pv 0) (pa_cons (pe_ix ix_list (pv 2) pe_int (fun _ _ => rfl)) (pa_cons (pe_ix ix_list (pv 2) pe_int (fun _ _ => rfl)) (pa_cons (pe_ix ix_list (pv 2) pe_int (fun _ _ => rfl)) (pa_cons (pe_ix ix_list (pv 2) pe_int (fun _ _ => rfl)) pa_nil)))))))) pss_nil)
        (pss_cons (ps_if (pt_cmpR op_eq (pv 1) pe_int (nomark _)) (pss_one (ps_ret (pe_c c_correct_delivery hr (by decide) (by rfl) (pa_cons (pv 0) (pa_cons (pe_ix ix_list (pv 2) pe_int (fun _ _ => rfl)) (pa_cons (pe_ix ix_list (pv 2) pe_int (fun _ _ => rfl)) pa_nil)))))) pss_nil)
        (pss_cons (ps_if (pt_cmpR op_eq (pv 1) pe_int (nomark _)) (pss_one (ps_ret (pe_c c_close_contract hr (by decide) (by rfl) (pa_cons (pv 0) (pa_cons (pe_ix ix_list (pv 2) pe_int (fun _ _ => rfl)) pa_nil))))) pss_nil)
        (pss_cons (ps_if (pt_cmpR op_eq (pv 1) pe_int (nomark _)) (pss_one (ps_ret (pe_c c_contract_value hr (by decide) (by rfl) (pa_cons (pv 0) (pa_cons (pe_ix ix_list (pv 2) pe_int (fun _ _ => rfl)) pa_nil))))) pss_nil)
        (pss_cons (ps_if (pt_cmpR op_eq (pv 1) pe_int (nomark _)) (pss_one (ps_ret (pe_c c_create_bill hr (by decide) (by rfl) (pa_cons (pv 0) (pa_cons (pe_ix ix_list (pv 2) pe_int (fun _ _ => rfl)) pa_nil))))) pss_nil)
        (pss_cons (ps_if (pt_cmpR op_eq (pv 1) pe_int (nomark _)) (pss_one (ps_ret (pe_c c_list_bills hr (by decide) (by rfl) (pa_cons (pv 0) (pa_cons (pe_ix ix_list (pv 2) pe_int (fun _ _ => rfl)) pa_nil))))) pss_nil)
        (pss_cons (ps_if (pt_cmpR op_eq (pv 1) pe_int (nomark _)) (pss_one (ps_ret (pe_c c_record_payment hr (by decide) (by rfl) (pa_cons (pv 0) (pa_cons (pe_ix ix_list (pv 2) pe_int (fun _ _ => rfl)) (pa_cons (pe_ix ix_list (pv 2) pe_int (fun _ _ => rfl)) pa_nil)))))) pss_nil)
        (pss_cons (ps_if (pt_cmpR op_eq (pv 1) pe_int (nomark _)) (pss_one (ps_ret (pe_c c_balance hr (by decide) (by rfl) (pa_cons (pv 0) (pa_cons (pe_ix ix_list (pv 2) pe_int (fun _ _ => rfl)) pa_nil))))) pss_nil)
        (pss_one (ps_ret (pe_c c_shortfall hr (by decide) (by rfl) (pa_cons (pv 0) (pa_cons (pe_ix ix_list (pv 2) pe_int (fun _ _ => rfl)) pa_nil))))))))))))))), ?_⟩
    have len : ∀ {n m : Nat}, some (n, m) = some (ns.length, rs.length) → ns.length = n ∧ rs.length = m := fun h => by
      cases h
      exact ⟨rfl, rfl⟩
    have e := Ex.refl H
    refine q_op rfl (fun hp H1 e1 => ?_) (fun h11 H1 e1 => ?_)
    · subst hp
      obtain ⟨l1, l2⟩ := len hsh
      obtain ⟨x0, rfl, rfl, k⟩ := call_11 k l1 l2 ha
      have e := e.trans e1
      exact op_call k hst e (ea_cons (ev_var rfl) (ea_cons (ev_ixL (K := K) (i := 0) (ev_var rfl) ev_c (sq_of (e _ _ hnp)) rfl) ea_nil)) fun H2 e2 => ⟨x0, rfl, rfl⟩
    have e := e.trans e1
    refine q_op rfl (fun hp H1 e1 => ?_) (fun h12 H1 e1 => ?_)
    · subst hp
      obtain ⟨l1, l2⟩ := len hsh
      obtain ⟨x0, x1, rfl, rfl, k⟩ := call_12 k l1 l2 ha
      have e := e.trans e1
      exact op_call k hst e (ea_cons (ev_var rfl) (ea_cons (ev_ixL (K := K) (i := 0) (ev_var rfl) ev_c (sq_of (e _ _ hnp)) rfl) (ea_cons (ev_ixL (K := K) (i := 1) (ev_var rfl) ev_c (sq_of (e _ _ hnp)) rfl) ea_nil))) fun H2 e2 => ⟨x0, x1, rfl, rfl⟩
    have e := e.trans e1
    refine q_op rfl (fun hp H1 e1 => ?_) (fun h13 H1 e1 => ?_)
    · subst hp
      obtain ⟨l1, l2⟩ := len hsh
      obtain ⟨x0, x1, x2, x3, rfl, rfl, k⟩ := call_13 k l1 l2 ha
      have e := e.trans e1
      exact op_call k hst e (ea_cons (ev_var rfl) (ea_cons (ev_ixL (K := K) (i := 0) (ev_var rfl) ev_c (sq_of (e _ _ hnp)) rfl) (ea_cons (ev_ixL (K := K) (i := 1) (ev_var rfl) ev_c (sq_of (e _ _ hnp)) rfl) (ea_cons (ev_ixL (K := K) (i := 2) (ev_var rfl) ev_c (sq_of (e _ _ hnp)) rfl) (ea_cons (ev_ixL (K := K) (i := 3) (ev_var rfl) ev_c (sq_of (e _ _ hnp)) rfl) ea_nil))))) fun H2 e2 => ⟨x0, x1, x2, x3, rfl, rfl⟩
    have e := e.trans e1
    refine q_op rfl (fun hp H1 e1 => ?_) (fun h14 H1 e1 => ?_)
    · subst hp
      obtain ⟨l1, l2⟩ := len hsh
      obtain ⟨x0, x1, rfl, rfl, k⟩ := call_14 k l1 l2 ha
      have e := e.trans e1
      exact op_call k hst e (ea_cons (ev_var rfl) (ea_cons (ev_ixL (K := K) (i := 0) (ev_var rfl) ev_c (sq_of (e _ _ hnp)) rfl) (ea_cons (ev_ixL (K := K) (i := 1) (ev_var rfl) ev_c (sq_of (e _ _ hnp)) rfl) ea_nil))) fun H2 e2 => ⟨x0, x1, rfl, rfl⟩
    have e := e.trans e1
    refine q_op rfl (fun hp H1 e1 => ?_) (fun h15 H1 e1 => ?_)
    · subst hp
      obtain ⟨l1, l2⟩ := len hsh
      obtain ⟨x0, rfl, rfl, k⟩ := call_15 k l1 l2 ha
      have e := e.trans e1
      exact op_call k hst e (ea_cons (ev_var rfl) (ea_cons (ev_ixL (K := K) (i := 0) (ev_var rfl) ev_c (sq_of (e _ _ hnp)) rfl) ea_nil)) fun H2 e2 => ⟨x0, rfl, rfl⟩
    have e := e.trans e1
    refine q_op rfl (fun hp H1 e1 => ?_) (fun h16 H1 e1 => ?_)
    · subst hp
      obtain ⟨l1, l2⟩ := len hsh
      obtain ⟨x0, rfl, rfl, k⟩ := call_16 k l1 l2 ha
      have e := e.trans e1
      exact op_call k hst e (ea_cons (ev_var rfl) (ea_cons (ev_ixL (K := K) (i := 0) (ev_var rfl) ev_c (sq_of (e _ _ hnp)) rfl) ea_nil)) fun H2 e2 => ⟨x0, rfl, rfl⟩
    have e := e.trans e1
    refine q_op rfl (fun hp H1 e1 => ?_) (fun h17 H1 e1 => ?_)
    · subst hp
      obtain ⟨l1, l2⟩ := len hsh
      obtain ⟨x0, rfl, rfl, k⟩ := call_17 k l1 l2 ha
      have e := e.trans e1
      exact op_call k hst e (ea_cons (ev_var rfl) (ea_cons (ev_ixL (K := K) (i := 0) (ev_var rfl) ev_c (sq_of (e _ _ hnp)) rfl) ea_nil)) fun H2 e2 => ⟨x0, rfl, rfl⟩
    have e := e.trans e1
    refine q_op rfl (fun hp H1 e1 => ?_) (fun h18 H1 e1 => ?_)
    · subst hp
      obtain ⟨l1, l2⟩ := len hsh
      obtain ⟨x0, rfl, rfl, k⟩ := call_18 k l1 l2 ha
      have e := e.trans e1
      exact op_call k hst e (ea_cons (ev_var rfl) (ea_cons (ev_ixL (K := K) (i := 0) (ev_var rfl) ev_c (sq_of (e _ _ hnp)) rfl) ea_nil)) fun H2 e2 => ⟨x0, rfl, rfl⟩
    have e := e.trans e1
    refine q_op rfl (fun hp H1 e1 => ?_) (fun h19 H1 e1 => ?_)
    · subst hp
      obtain ⟨l1, l2⟩ := len hsh
      obtain ⟨x0, x1, rfl, rfl, k⟩ := call_19 k l1 l2 ha
      have e := e.trans e1
      exact op_call k hst e (ea_cons (ev_var rfl) (ea_cons (ev_ixL (K := K) (i := 0) (ev_var rfl) ev_c (sq_of (e _ _ hnp)) rfl) (ea_cons (ev_ixL (K := K) (i := 1) (ev_var rfl) ev_c (sq_of (e _ _ hnp)) rfl) ea_nil))) fun H2 e2 => ⟨x0, x1, rfl, rfl⟩
    have e := e.trans e1
    refine q_op rfl (fun hp H1 e1 => ?_) (fun h20 H1 e1 => ?_)
    · subst hp
      obtain ⟨l1, l2⟩ := len hsh
      obtain ⟨x0, rfl, rfl, k⟩ := call_20 k l1 l2 ha
      have e := e.trans e1
      exact op_call k hst e (ea_cons (ev_var rfl) (ea_cons (ev_ixL (K := K) (i := 0) (ev_var rfl) ev_c (sq_of (e _ _ hnp)) rfl) ea_nil)) fun H2 e2 => ⟨x0, rfl, rfl⟩
    have e := e.trans e1
    have hp : p = 21 := by
      have := shape_in hsh
      omega
    subst hp
    obtain ⟨l1, l2⟩ := len hsh
    obtain ⟨x0, rfl, rfl, k⟩ := call_21 k l1 l2 ha
    exact op_call k hst e (ea_cons (ev_var rfl) (ea_cons (ev_ixL (K := K) (i := 0) (ev_var rfl) ev_c (sq_of (e _ _ hnp)) rfl) ea_nil)) fun H2 e2 => ⟨x0, rfl, rfl⟩
end
end TB

namespace TB
open PySem PySem.Spec PyProof.Rows L2 Evl TimberAuction TBM AuctionSpec PyWrtbsa LamX
open C8 (pe_c pe_mk pe_mt pe_mt0)
abbrev shapesL : List (List Int) := [[1, 0], [3, 0], [1, 1], [2, 0], [0, 3], [1, 0], [0, 0], [0, 1], [0, 0], [1, 0], [0, 0], [1, 0], [2, 0], [4, 0], [2, 0], [1, 0], [1, 0], [1, 0], [1, 0], [2, 0], [1, 0], [1, 0]]
theorem shape_row {p : Int} {n k : Nat} (h : shape p = some (n, k)) : ∃ j : Nat, p = (j : Int) ∧ j < shapesL.length ∧ shapesL[j]? = some [(n : Int), (k : Int)] := by
  obtain ⟨h0, h1⟩ := shape_in h
  have c : p = 0 ∨ p = 1 ∨ p = 2 ∨ p = 3 ∨ p = 4 ∨ p = 5 ∨ p = 6 ∨ p = 7 ∨ p = 8 ∨ p = 9 ∨ p = 10 ∨ p = 11 ∨ p = 12 ∨ p = 13 ∨ p = 14 ∨ p = 15 ∨ p = 16 ∨ p = 17 ∨ p = 18 ∨ p = 19 ∨ p = 20 ∨ p = 21 := by omega
  refine ⟨p.toNat, (Int.toNat_of_nonneg h0).symm, ?_, ?_⟩
  · show p.toNat < 22
    omega
  · rcases c with rfl | rfl | rfl | rfl | rfl | rfl | rfl | rfl | rfl | rfl | rfl | rfl | rfl | rfl | rfl | rfl | rfl | rfl | rfl | rfl | rfl | rfl <;> (cases h; rfl)
section
variable {K : PySem.W.Frag} {σ : L2.St} {H H1 H' : Hp} {te : TE} {l : List (List Int)} {S : Nat → Prop} {τ : Tg} {f : Tg} {r : Addr} {o o' : HO}
theorem ev_lenT2 : Ev (tCB (rLenS K) (tCons (tTupC2 K l) tNil)) σ H (.int (l.length : Int)) := fun H1 e Q q => fun a ht => by
  obtain ⟨as, h1, h2, h3⟩ := ht
  refine ⟨a, _, rfl, .inr (h1 H1), ?_⟩
  rw [List.length_map, h2]
  exact q H1 (Ex.refl _)
theorem en_ixT2 {j : Nat} {ns : List Int} (h : Ev te σ H (.int (j : Int))) (hl : l[j]? = some ns) : EvN (tOp (rIxT K) (tTupC2 K l) te) σ H fun _ v _ => ∃ a, v = .ref a ∧ TupC K a ns := fun H1 e Q q => fun a ht => by
  obtain ⟨as, h1, h2, h3⟩ := ht
  have hj : j < as.length := by
    rw [h2]
    exact (List.getElem?_eq_some_iff.mp hl).1
  have ha : as[j]? = some as[j] := List.getElem?_eq_getElem hj
  refine h H1 e _ fun H2 e2 => ⟨a, _, (j : Int), .ref as[j], rfl, rfl, h1 H2, atI_nat ?_, q _ H2 e2 ⟨as[j], rfl, h3 j _ _ ha hl⟩⟩
  rw [List.getElem?_map, ha]
  rfl
theorem ev_ixC {a : Addr} {ns : List Int} {j : Nat} {z : Int} (ht : TupC K a ns) (h : Ev te σ H (.ref a)) (hz : ns[j]? = some z) : Ev (tOp (rIxT K) te (tC (.int (j : Int)))) σ H (.int z) := fun H1 e Q q =>
  h H1 e _ fun H2 e2 => ⟨a, _, (j : Int), .int z, rfl, rfl, ht H2, atI_nat (by rw [List.getElem?_map, hz]; rfl), q H2 e2⟩
theorem ev_methV {R : List V → Hp → V → Prop} {E : XK} {ta : TE} {a C dx : Addr} {fs : List (Str × V)} {m : Str} {z : V} (ho : Ev ta σ H (.ref a)) (ha : H a = some (.ins C dx fs)) (hm : fs.lookup m = none) (hr : ∀ H1, Ex H H1 → R [.ref a] H1 z) : Ev (tMeth C m (spV R) [] E ta tNil) σ H z := fun H1 e Q q =>
  ho H1 e _ fun H2 e2 => ⟨a, dx, fs, rfl, (e.trans e2) _ _ ha, hm, z, hr H2 (e.trans e2), fun H3 e3 => q H3 (e2.trans e3)⟩
theorem q_appS {D : Ends} {u : TS} {ta : TE} {a : Addr} {xs : List V} {v : V} (hl : H a = some (.lst xs)) (ha : Ev ta σ H (.ref a)) (h : Ev te σ H v) (hz : xs.length < sizeLine) (k : ∀ H1, Ex H H1 → u D σ (upd H1 a (.lst (xs ++ [v])))) : tSeq (tDrop (tBM K "list" rAppend ta (tCons te tNil))) u D σ H :=
  ha H (Ex.refl H) _ fun H1 e1 => ⟨Or.inl ⟨rfl, xs, sq_of (e1 a _ hl)⟩, h H1 e1 _ fun H2 e2 => ⟨a, xs, v, rfl, rfl, e2 a _ (e1 a _ hl), hz, k H2 (e1.trans e2)⟩⟩
/-- all but r kept; what is new bears f -/
theorem Frm.exB (b : ExB r H H') (hr : H r = some o) (hr' : H' r = some o') (hs : S (τ r)) : Frm S τ H (newTag τ H f) H' := by
  refine ⟨fun x u h n => b x u h fun z => n (by rw [z]; exact hs), fun x u h => newTag_old h, fun x h => ?_⟩
  cases z : H x with
  | none => rfl
  | some u =>
    by_cases e : x = r
    · rw [e, hr'] at h
      cases h
    · rw [b x u z e] at h
      cases h
theorem sq_exB {c : Addr} {xs : List V} {C dx : Addr} {fs : List (Str × V)} (h : SqL K H c xs) (hr : H r = some (.ins C dx fs)) (b : ExB r H H') : SqL K H' c xs := by
  rcases h with (h | ⟨o, h⟩) | h
  · exact .inl (.inl (b _ _ h (ne_of h hr (by intro z; cases z))))
  · exact .inl (.inr ⟨o, b _ _ h (ne_of h hr (by intro z; cases z))⟩)
  · exact .inr h
theorem sq_frm {c : Addr} {xs : List V} {τ' : Tg} (h : SqL K H c xs) (ht : ∀ o, H c = some o → τ c = 0) (g : Frm S τ H τ' H') (n0 : ¬ S 0) : SqL K H' c xs ∧ ∀ o, H' c = some o → τ' c = 0 ∨ H c = none := by
  refine ⟨?_, fun o ho => ?_⟩
  · rcases h with (h | ⟨o, h⟩) | h
    · exact .inl (.inl (g.kp _ _ h (by rw [ht _ h]; exact n0)))
    · exact .inl (.inr ⟨o, g.kp _ _ h (by rw [ht _ h]; exact n0)⟩)
    · exact .inr h
  · cases z : H c with
    | none => exact .inr rfl
    | some u => exact .inl (by rw [g.tag _ _ z]; exact ht _ z)
end
theorem shape_k {p : Int} {n k : Nat} (h : shape p = some (n, k)) : k ≤ 3 := by
  obtain ⟨h0, h1⟩ := shape_in h
  have c : p = 0 ∨ p = 1 ∨ p = 2 ∨ p = 3 ∨ p = 4 ∨ p = 5 ∨ p = 6 ∨ p = 7 ∨ p = 8 ∨ p = 9 ∨ p = 10 ∨ p = 11 ∨ p = 12 ∨ p = 13 ∨ p = 14 ∨ p = 15 ∨ p = 16 ∨ p = 17 ∨ p = 18 ∨ p = 19 ∨ p = 20 ∨ p = 21 := by omega
  rcases c with rfl | rfl | rfl | rfl | rfl | rfl | rfl | rfl | rfl | rfl | rfl | rfl | rfl | rfl | rfl | rfl | rfl | rfl | rfl | rfl | rfl | rfl <;> (cases h; decide)
/-- what a call, with its reading, may change -/
def SR (t : Nat) : Prop := t ≠ 0 ∧ t ≠ 9
/-- the list of calls is never written: it is tracked with 0, or stands in the module -/
def CAt (K : PySem.W.Frag) (τ : Tg) (H : Hp) (c : Addr) (l : List Int) : Prop := (∀ H', SqL K H' c (l.map V.int)) ∨ ∃ o, H c = some o ∧ τ c = 0
theorem CAt.frm {K : PySem.W.Frag} {τ τ' : Tg} {H H' : Hp} {c : Addr} {l : List Int} {S : Nat → Prop} (h : CAt K τ H c l) (f : Frm S τ H τ' H') (n0 : ¬ S 0) : CAt K τ' H' c l := by
  rcases h with h | ⟨o, h, t⟩
  · exact .inl h
  · exact .inr ⟨o, f.kp _ _ h (by rw [t]; exact n0), by rw [f.tag _ _ h, t]⟩
theorem CAt.sq {K : PySem.W.Frag} {τ τ' : Tg} {H H' : Hp} {c : Addr} {l : List Int} {S : Nat → Prop} (h : CAt K τ H c l) (hs : SqL K H c (l.map V.int)) (f : Frm S τ H τ' H') (n0 : ¬ S 0) : SqL K H' c (l.map V.int) := by
  rcases h with h | ⟨o, h, t⟩
  · exact h H'
  · exact (sq_frm hs (fun _ _ => t) f n0).1
def spNext (A : Ad) (K : PySem.W.Frag) : Sp := fun vs H Q _ => ∃ sa τ st r c dx l pos p n k xs pos', vs = [.ref sa, .ref r] ∧ ReadAt A K H r c dx l pos ∧ τ r = 8 ∧ CAt K τ H c l ∧ l[pos]? = some p ∧ shape p = some (n, k) ∧ ((l.drop (pos + 1)).take n).length = n ∧ xs.length = k ∧ RowsAt l (pos + 1 + n) xs pos' ∧
  AuctionNeutral.asked1 ((p :: (l.drop (pos + 1)).take n) :: xs) = true ∧ StAt A τ H sa st ∧
  ∀ τ' H' q, Frm SR τ H τ' H' → ReadAt A K H' r c dx l pos' → τ' r = 8 → StAt A τ' H' sa (AuctionNeutral.step st ((p :: (l.drop (pos + 1)).take n) :: xs)).1 → H q = none → H' q = some (.lst ((AuctionNeutral.step st ((p :: (l.drop (pos + 1)).take n) :: xs)).2.map V.int)) → Q (.ref q) H'
section
variable {σ : L2.St} {H : Hp} {Q : VK} {ta : TA} {g : TG} {te : TE} {vs : List Nat}
theorem lc_rng1 {n : Nat} (h : EvA ta σ H [.int (n : Int)]) (hn : n ≤ 40000) (Pv : Addr → Hp → Nat → Hp → Prop) (h0 : ∀ D H1, Ex H H1 → H1 D = none → Pv D H1 0 (upd H1 D (.lst [])))
    (hs : ∀ D H1 i H', Ex H H1 → H1 D = none → i < n → Pv D H1 i H' → g (.int (i : Int)) (wipe σ vs) H' fun σ2 H2 => wipe σ2 vs = wipe σ vs ∧ te σ2 H2 fun y H4 => ∃ acc, H4 D = some (.lst acc) ∧ acc.length < sizeLine ∧ Pv D H1 (i + 1) (upd H4 D (.lst (acc ++ [y]))))
    (hd : ∀ D H1 H', Ex H H1 → H1 D = none → Pv D H1 n H' → Q (.ref D) H') : tLc (iRng1 ta) g tYes te vs σ H Q := h H (Ex.refl H) _ fun H1 e1 => ⟨(n : Int), rfl, by omega, by omega, fun D hD =>
  lc_range (lo := 0) (n := (n : Int).toNat) (Pv D H1) (h0 D H1 e1 hD) (fun i H' hi p => by
    have := hs D H1 i H' e1 hD (by omega) p
    rw [show (0 : Int) + (i : Int) = (i : Int) from Int.zero_add _]
    exact this) (fun H' p => hd D H1 H' e1 hD (by rw [Int.toNat_natCast] at p; exact p))⟩
end
section
variable {P : Program} {w : World} {K : PySem.W.Frag} {mg : Str → Option Value} {base : Heap} {A : Ad}
theorem c_answer_next (T : Txt K mg A) (BT : TabB base mg A.code A.tab) : C8.Cal P w K mg base 15 "answer_next" (spNext A K) [] := by
  have t_next_number : C8.Met P w K mg base 3 A.Reader "next_number" (sp_next_number A K) [] := t_next_number T
  have t_next_numbers : C8.Met P w K mg base 1 A.Reader "next_numbers" (sp_next_numbers A K) [] := t_next_numbers T
  have t_next_row : C8.Met P w K mg base 5 A.Reader "next_row" (sp_next_row A K) [] := t_next_row T
  have c_answer_of_sales : C8.Cal P w K mg base 13 "answer_of_sales" (spCall A) [] := c_answer_of_sales T
  have c_answer_of_contracts : C8.Cal P w K mg base 13 "answer_of_contracts" (spCallC A) [] := c_answer_of_contracts T BT
  refine calOf T.d_answer_next sc_answer_next (fun _ _ _ _ _ _ us hl => match us, hl with | [_, _], _ => rfl) (fun vs H Q E h => ?_) (fun f cdv Ar outer s0 H vs Q E hr h => ?_)
  · obtain ⟨sa, τ, st, r, c, dx, l, pos, p, n, k, xs, pos', rfl, _⟩ := h
    rfl
  · obtain ⟨sa, τ, st, r, c, dx, l, pos, p, n, k, xs, pos', rfl, hrd, htr, hct, hp, hsh, hn, hk, hrows, hask, hst, kQ⟩ := h
    refine ⟨_, (pss_cons (ps_set (i := 2) sc_answer_next.nd rfl (Or.inl rfl) (pe_mt0 t_next_number hr (by decide) (pv 1)))
        (pss_cons (ps_if (pt_cmpR op_ge (pv 2) (pe_callB call_len_seq (by rfl) T.b_len boot_len (pa_cons (pe_gt2 (K := K) (by rfl) (by rfl) T.k_SHAPES) pa_nil)) (nomark _)) (pss_one ps_never) pss_nil)
        (pss_cons (ps_set (i := 3) sc_answer_next.nd rfl (Or.inl rfl) (pe_ix ix_tup (pe_gt2 (K := K) (by rfl) (by rfl) T.k_SHAPES) (pv 2) (fun _ _ => rfl)))
        (pss_cons (ps_set (i := 4) sc_answer_next.nd rfl (Or.inl rfl) (pe_mt t_next_numbers hr (by decide) (pv 1) (pa_cons (pe_ix ix_tup (pv 3) pe_int (fun _ _ => rfl)) pa_nil)))
        (pss_cons (ps_setLc (i := 5) (own := [("row", 6)]) (tt := tYes) rfl sc_answer_next.nd rfl rfl (sw_true rfl rfl rfl (by decide +kernel)) (pi_range1 (by rfl) T.b_range (pa_cons (pe_ix ix_tup (pv 3) pe_int (fun _ _ => rfl)) pa_nil)) (blkOk_by (own := [("row", 6)]) (N := ["state", "reader", "operation", "shape", "numbers", "rows", "row"]) (sc := defScope s_answer_next) (by decide +kernel)) (fun _ _ _ _ _ => (pg_name (i := 6) sc_answer_next.nd rfl (Or.inl rfl))) (fun _ _ _ _ _ => pts_nil) (fun _ _ _ _ _ => (pe_mt0 t_next_row hr (by decide) (pv 1))))
        (pss_cons (ps_if (pt_cmpR op_ge (pv 2) (pe_gi (by rfl) T.k_FIRST_OF_CONTRACTS) (nomark _)) (pss_one (ps_ret (pe_c c_answer_of_contracts hr (by decide) (by rfl) (pa_cons (pv 0) (pa_cons (pv 2) (pa_cons (pv 4) pa_nil)))))) pss_nil)
        (pss_one (ps_ret (pe_c c_answer_of_sales hr (by decide) (by rfl) (pa_cons (pv 0) (pa_cons (pv 2) (pa_cons (pv 4) (pa_cons (pv 5) pa_nil))))))))))))), ?_⟩
    obtain ⟨j, rfl, hjl, hj⟩ := shape_row hsh
    refine seq_run (asg_run ⟨_, rfl, r, dx, _, rfl, hrd.1, nm_Reader_next_number, r, c, dx, l, pos, _, rfl, hrd, hp, fun H1 m1 => ?_⟩)
    refine nx_run ?_
    have r1 := m1.read hrd
    refine q_when (et_test (ev_op (ev_var rfl) ev_lenT2 rv_I0)) (fun hb H2 e2 => ?_) (fun hb H2 e2 => ?_)
    · have : (shapesL.length : Int) ≤ (j : Int) := yes hb
      exact absurd this (by omega)
    have r2 : ReadAt A K H2 r c dx l (pos + 1) := ⟨e2 _ _ r1.1, ex_l e2 r1.2⟩
    refine q_asgN (P := fun _ v _ => ∃ a, v = .ref a ∧ TupC K a [(n : Int), (k : Int)]) (en_ixT2 (ev_var rfl) hj) fun v H3 e3 ⟨ta, hv, hta⟩ => ?_
    subst hv
    have r3 : ReadAt A K H3 r c dx l (pos + 1) := ⟨e3 _ _ r2.1, ex_l e3 r2.2⟩
    refine seq_run (asg_run ⟨_, rfl, r, dx, _, rfl, r3.1, nm_Reader_next_numbers, cons_run ((ev_ixC (j := 0) hta (ev_var rfl) rfl) H3 (Ex.refl _) _ fun H4 e4 => nil_run ⟨r, c, dx, l, pos + 1, n, rfl, ⟨e4 _ _ r3.1, ex_l e4 r3.2⟩, fun np H5 nnp m5 hnp => ?_⟩)⟩)
    refine nx_run ?_
    have hk3 := shape_k hsh
    have r5 : ReadAt A K H5 r c dx l (pos + 1 + n) := m5.read ⟨e4 _ _ r3.1, ex_l e4 r3.2⟩
    have m1b : ExB r H H1 := m1.2
    have m5b : ExB r H4 H5 := m5.2
    have b4 : ExB r H H4 := ((m1b.trans (.of e2)).trans (.of e3)).trans (.of e4)
    have b5 : ExB r H H5 := b4.trans m5b
    have nnp0 : H np = none ∧ np ≠ r := b4.fresh (e4 _ _ r3.1) nnp
    refine seq_run (asg_run (lc_rng1 (n := k) (ea_cons (ev_ixC (j := 1) hta (ev_var rfl) rfl) ea_nil) (by omega) (fun Dl H6 i H' => ∃ pi, RowsAt l (pos + 1 + n) (xs.take i) pi ∧ H' r = some (.ins A.Reader dx (fReader (.ref c) (iN pi))) ∧ ExB r H6 H' ∧ ∃ ps, H' Dl = some (.lst (rL ps)) ∧ All2 (fun _ a (x : List Int) => H6 a = none ∧ a ≠ Dl ∧ a ≠ r ∧ H' a = some (.lst (x.map V.int))) ps (xs.take i)) (fun Dl H6 e6 hD => ⟨pos + 1 + n, by rw [List.take_zero]; rfl, ?_, .of (Ex.new hD), [], upd_same, by rw [List.take_zero]; exact .nil⟩) (fun Dl H6 i H7 e6 hD hi hpv => ?_) (fun Dl H6 H7 e6 hD hpv => ?_)))
    · rw [upd_ne (fun z => by rw [← z, e6 _ _ r5.1] at hD; cases hD)]
      exact e6 _ _ r5.1
    · obtain ⟨pi, hri, hr7, b7, ps, hps, hall⟩ := hpv
      have r6 : ReadAt A K H6 r c dx l (pos + 1 + n) := ⟨e6 _ _ r5.1, ex_l e6 r5.2⟩
      have b6 : ExB r H H6 := b5.trans (.of e6)
      have hDr : Dl ≠ r := fun z => by
        rw [z, r6.1] at hD
        cases hD
      have hx : xs[i]? = some xs[i] := List.getElem?_eq_getElem (by omega)
      obtain ⟨m, d1, d2, d3, d4⟩ := hrows.step hri hx
      refine ⟨rfl, ?_⟩
      refine ⟨_, rfl, r, dx, _, rfl, hr7, nm_Reader_next_row, r, c, dx, l, pi, m, rfl, ⟨hr7, sq_exB r6.2 r6.1 b7⟩, d1, fun q H8 nq m8 hq => ?_⟩
      have b8 : ExB r H7 H8 := fun b o h ne => m8.2 b o h ne
      have hD7 : H8 Dl = some (.lst (rL ps)) := b8 _ _ hps hDr
      have hqr : q ≠ r := fun z => by
        rw [z, hr7] at nq
        cases nq
      have hqD : q ≠ Dl := fun z => by
        rw [z, hps] at nq
        cases nq
      have nq6 : H6 q = none := (b7.fresh hr7 nq).1
      refine ⟨rL ps, hD7, ?_, pi + 1 + m, d4, ?_, ?_, ps ++ [q], ?_, ?_⟩
      · rw [rL_len, hall.1, List.length_take]
        have : (4 : Nat) < sizeLine := by decide
        omega
      · rw [upd_ne (Ne.symm hDr)]
        exact m8.1
      · intro b o h ne
        by_cases z : b = Dl
        · rw [z, hD] at h
          cases h
        · rw [upd_ne z]
          exact b8 b o (b7 b o h ne) ne
      · rw [upd_same]
        unfold rL
        rw [List.map_append]
        rfl
      · rw [take_snoc hx]
        refine All2.snoc (hall.imp fun _ a x _ _ ⟨g1, g2, g3, g4⟩ => ⟨g1, g2, g3, by rw [upd_ne g2]; exact b8 _ _ g4 g3⟩) ⟨nq6, hqD, hqr, ?_⟩
        rw [upd_ne hqD, hq, d2]
    · obtain ⟨pi, hri, hr7, b7, ps, hps, hall⟩ := hpv
      have r6 : ReadAt A K H6 r c dx l (pos + 1 + n) := ⟨e6 _ _ r5.1, ex_l e6 r5.2⟩
      have b6 : ExB r H H6 := b5.trans (.of e6)
      have hDr : Dl ≠ r := fun z => by
        rw [z, r6.1] at hD
        cases hD
      rw [← hk, List.take_length] at hri hall
      have epi : pi = pos' := hri.same hrows
      subst epi
      refine nx_run ?_
      have bH7 : ExB r H H7 := b6.trans b7
      let τ1 : Tg := newTag τ H fun _ => 0
      have fr : Frm (fun t => t = 8) τ H τ1 H7 := .exB bH7 hrd.1 hr7 htr
      have hnp7 : H7 np = some (.lst (((l.drop (pos + 1)).take n).map V.int)) := b7 _ _ (e6 _ _ hnp) nnp0.2
      have hst7 : StAt A τ1 H7 sa st := hst.frm fr fun t ht z => by omega
      have tr7 : τ1 r = 8 := by rw [fr.tag _ _ hrd.1, htr]
      have hc7 : SqL K H7 c (l.map V.int) := sq_exB r6.2 r6.1 b7
      have new0 : ∀ {a : Addr}, H6 a = none → τ1 a = 0 := fun {a} h => newTag_new (b6.fresh r6.1 h).1
      have done : ∀ H8, Ex H7 H8 → NK A τ1 H8 sa st (((j : Int) :: (l.drop (pos + 1)).take n) :: xs) Q := fun H8 e8 τ' H' q kp hs nq hq => by
        have k8 : Frm SK τ1 H7 τ' H' := (Frm.ex e8).trans kp
        have g := fr.mono (S' := SR) fun t ht => by subst ht; exact ⟨by decide, by decide⟩
        have g2 : Frm SR τ H τ' H' := g.trans (k8.mono fun t ht => ⟨ht.1, ht.2.2⟩)
        have hr' := k8.same hr7 tr7 (by intro z; exact z.2.1 rfl)
        refine kQ τ' H' q g2 ⟨hr'.1, hct.sq hrd.2 g2 (by intro z; exact z.1 rfl)⟩ hr'.2 hs (fr.fr q (fresh_back e8 nq)) hq
      refine q_when (et_test (ev_op (ev_var rfl) ev_c rv_I0)) (fun hb H8 e8 => ?_) (fun hb H8 e8 => ?_)
      · have h11 : (11 : Int) ≤ (j : Int) := yes hb
        refine ret_run ((ea_cons (ev_var rfl) (ea_cons (ev_var rfl) (ea_cons (ev_var rfl) ea_nil))) H8 (Ex.refl _) _ fun H9 e9 => ⟨sa, τ1, st, (j : Int), np, (l.drop (pos + 1)).take n, xs, rfl, h11, (e8.trans e9) _ _ hnp7, ?_, hask, hst7.ex (e8.trans e9), done H9 (e8.trans e9)⟩)
        rw [hn, hk]
        exact hsh
      · have h11 : (j : Int) < 11 := by
          have := no hb
          omega
        refine ret_run ((ea_cons (ev_var rfl) (ea_cons (ev_var rfl) (ea_cons (ev_var rfl) (ea_cons (ev_var rfl) ea_nil)))) H8 (Ex.refl _) _ fun H9 e9 => ⟨sa, τ1, st, (j : Int), np, Dl, (l.drop (pos + 1)).take n, xs, rfl, h11, (e8.trans e9) _ _ hnp7, ⟨ps, (e8.trans e9) _ _ hps, hall.imp fun _ a x _ _ ⟨g1, g2, g3, g4⟩ => ⟨new0 g1, (e8.trans e9) _ _ g4⟩⟩, ?_, hask, hst7.ex (e8.trans e9), done H9 (e8.trans e9)⟩)
        rw [hn, hk]
        exact hsh
/-! ### State(), Reader(..) -/
def sp_State (A : Ad) : Sp := fun vs H Q _ => ∃ p dx, vs = [.ref p] ∧ H p = some (.ins A.State dx []) ∧
  ∀ H' p1 p2 p3 p4 p5, [p, p1, p2, p3, p4, p5].Nodup → (∀ x ∈ [p1, p2, p3, p4, p5], H x = none) → H' p = some (.ins A.State dx (fState (iN 0) .non (.ref p1) (.ref p2) (.ref p3) (.ref p4) (.ref p5))) → H' p1 = some (.lst []) → H' p2 = some (.dK []) → H' p3 = some (.lst []) → H' p4 = some (.lst []) → H' p5 = some (.lst (iL (List.replicate 16 0))) → ExB p H H' → Q .non H'
section
variable {K : PySem.W.Frag} {σ : L2.St} {H : Hp} {D : Ends} {u : TS} {ta : TE} {f : Str} {a C dx : Addr} {fs : List (Str × V)}
theorem q_fldD (ho : Ev ta σ H (.ref a)) (ha : H a = some (.ins C dx fs)) (hc : Cls K C) (hn : NoAttr K C f) (hl : fs.length < 1000) (k : ∀ p H1, H p = none → Ex H H1 → H1 p = some (.dK []) → u D σ (upd H1 a (.ins C dx (putF f (.ref p) fs)))) : tSeq (sFld K ta tDNewK f) u D σ H :=
  fun p np => ho _ (Ex.new np) _ fun H2 e2 => ⟨a, C, dx, fs, rfl, ((Ex.new np).trans e2) _ _ ha, hc, hn, hl, k p H2 np ((Ex.new np).trans e2) (e2 _ _ upd_same)⟩
end
theorem m_State (T : Txt K mg A) : C8.Mak P w K mg base 1 "State" A.State (sp_State A) [] := by
  refine makOf T.m_State sc_State___init__ (fun _ _ _ _ _ _ us hl => match us, hl with | [_], _ => rfl) (fun vs H Q E h => ?_) (fun f cdv Ar outer st H vs Q E hr h => ?_)
  · obtain ⟨p, dx, rfl, _⟩ := h
    rfl
  · obtain ⟨p, dx, rfl, hp, kQ⟩ := h
    refine ⟨_, (pss_cons (ps_fld (pv 0) pe_int rfl)
        (pss_cons (ps_fld (pv 0) pe_non rfl)
        (pss_cons (ps_fld (pv 0) (pe_lst pa_nil) rfl)
        (pss_cons (ps_fld (pv 0) pe_dnewK rfl)
        (pss_cons (ps_fld (pv 0) (pe_lst pa_nil) rfl)
        (pss_cons (ps_fld (pv 0) (pe_lst pa_nil) rfl)
        (pss_one (ps_fld (pv 0) (pe_op op_rep (pe_lst (pa_cons pe_int pa_nil)) (pe_gi (by rfl) T.k_BIDDERS)) rfl)))))))), ?_⟩
    have b0 := ExB.refl p H
    have q0 := hp
    refine q_fldV (y := iN 0) (ev_is ev_c rfl) (ev_var rfl) q0 T.cl_State T.n_State_day (by show 0 < 1000; decide) fun H1 e1 => ?_
    have b1 := b0.upd (o := .ins A.State dx (putF "day" (iN 0) [])) e1
    have q1 : (upd H1 p (.ins A.State dx (putF "day" (iN 0) []))) p = some (.ins A.State dx (putF "day" (iN 0) [])) := upd_same
    generalize (upd H1 p (.ins A.State dx (putF "day" (iN 0) []))) = G1 at b1  q1 ⊢
    refine q_fldV ev_c (ev_var rfl) q1 T.cl_State T.n_State_sale (by show 1 < 1000; decide) fun H2 e2 => ?_
    have b2 := b1.upd (o := .ins A.State dx (putF "sale" .non (putF "day" (iN 0) []))) e2
    have q2 : (upd H2 p (.ins A.State dx (putF "sale" .non (putF "day" (iN 0) [])))) p = some (.ins A.State dx (putF "sale" .non (putF "day" (iN 0) []))) := upd_same
    generalize (upd H2 p (.ins A.State dx (putF "sale" .non (putF "day" (iN 0) [])))) = G2 at b2  q2 ⊢
    refine q_fldL (el_lst ea_nil (by show 0 ≤ 100000; decide)) (ev_var rfl) q2 T.cl_State T.n_State_contracts (by show 2 < 1000; decide) fun p1 H3 n1 e3 h1 => ?_
    obtain ⟨f1, ne1⟩ := b2.fresh q2 n1
    have b3 := b2.upd (o := .ins A.State dx (putF "contracts" (.ref p1) (putF "sale" .non (putF "day" (iN 0) [])))) e3
    have g1 : (upd H3 p (.ins A.State dx (putF "contracts" (.ref p1) (putF "sale" .non (putF "day" (iN 0) []))))) p1 = some (.lst []) := by rw [upd_ne ne1]; exact h1
    have q3 : (upd H3 p (.ins A.State dx (putF "contracts" (.ref p1) (putF "sale" .non (putF "day" (iN 0) []))))) p = some (.ins A.State dx (putF "contracts" (.ref p1) (putF "sale" .non (putF "day" (iN 0) [])))) := upd_same
    generalize (upd H3 p (.ins A.State dx (putF "contracts" (.ref p1) (putF "sale" .non (putF "day" (iN 0) []))))) = G3 at b3 g1 q3 ⊢
    refine q_fldD (ev_var rfl) q3 T.cl_State T.n_State_index_values (by show 3 < 1000; decide) fun p2 H4 n2 e4 h2 => ?_
    obtain ⟨f2, ne2⟩ := b3.fresh q3 n2
    have d1_2 := ne_of_none g1 n2
    have b4 := b3.upd (o := .ins A.State dx (putF "index_values" (.ref p2) (putF "contracts" (.ref p1) (putF "sale" .non (putF "day" (iN 0) []))))) e4
    have g1 : (upd H4 p (.ins A.State dx (putF "index_values" (.ref p2) (putF "contracts" (.ref p1) (putF "sale" .non (putF "day" (iN 0) [])))))) p1 = some (.lst []) := by rw [upd_ne ne1]; exact e4 _ _ g1
    have g2 : (upd H4 p (.ins A.State dx (putF "index_values" (.ref p2) (putF "contracts" (.ref p1) (putF "sale" .non (putF "day" (iN 0) [])))))) p2 = some (.dK []) := by rw [upd_ne ne2]; exact h2
    have q4 : (upd H4 p (.ins A.State dx (putF "index_values" (.ref p2) (putF "contracts" (.ref p1) (putF "sale" .non (putF "day" (iN 0) [])))))) p = some (.ins A.State dx (putF "index_values" (.ref p2) (putF "contracts" (.ref p1) (putF "sale" .non (putF "day" (iN 0) []))))) := upd_same
    generalize (upd H4 p (.ins A.State dx (putF "index_values" (.ref p2) (putF "contracts" (.ref p1) (putF "sale" .non (putF "day" (iN 0) [])))))) = G4 at b4 g1 g2 q4 ⊢
    refine q_fldL (el_lst ea_nil (by show 0 ≤ 100000; decide)) (ev_var rfl) q4 T.cl_State T.n_State_deliveries (by show 4 < 1000; decide) fun p3 H5 n3 e5 h3 => ?_
    obtain ⟨f3, ne3⟩ := b4.fresh q4 n3
    have d1_3 := ne_of_none g1 n3
    have d2_3 := ne_of_none g2 n3
    have b5 := b4.upd (o := .ins A.State dx (putF "deliveries" (.ref p3) (putF "index_values" (.ref p2) (putF "contracts" (.ref p1) (putF "sale" .non (putF "day" (iN 0) [])))))) e5
    have g1 : (upd H5 p (.ins A.State dx (putF "deliveries" (.ref p3) (putF "index_values" (.ref p2) (putF "contracts" (.ref p1) (putF "sale" .non (putF "day" (iN 0) []))))))) p1 = some (.lst []) := by rw [upd_ne ne1]; exact e5 _ _ g1
    have g2 : (upd H5 p (.ins A.State dx (putF "deliveries" (.ref p3) (putF "index_values" (.ref p2) (putF "contracts" (.ref p1) (putF "sale" .non (putF "day" (iN 0) []))))))) p2 = some (.dK []) := by rw [upd_ne ne2]; exact e5 _ _ g2
    have g3 : (upd H5 p (.ins A.State dx (putF "deliveries" (.ref p3) (putF "index_values" (.ref p2) (putF "contracts" (.ref p1) (putF "sale" .non (putF "day" (iN 0) []))))))) p3 = some (.lst []) := by rw [upd_ne ne3]; exact h3
    have q5 : (upd H5 p (.ins A.State dx (putF "deliveries" (.ref p3) (putF "index_values" (.ref p2) (putF "contracts" (.ref p1) (putF "sale" .non (putF "day" (iN 0) []))))))) p = some (.ins A.State dx (putF "deliveries" (.ref p3) (putF "index_values" (.ref p2) (putF "contracts" (.ref p1) (putF "sale" .non (putF "day" (iN 0) [])))))) := upd_same
    generalize (upd H5 p (.ins A.State dx (putF "deliveries" (.ref p3) (putF "index_values" (.ref p2) (putF "contracts" (.ref p1) (putF "sale" .non (putF "day" (iN 0) []))))))) = G5 at b5 g1 g2 g3 q5 ⊢
    refine q_fldL (el_lst ea_nil (by show 0 ≤ 100000; decide)) (ev_var rfl) q5 T.cl_State T.n_State_bills (by show 5 < 1000; decide) fun p4 H6 n4 e6 h4 => ?_
    obtain ⟨f4, ne4⟩ := b5.fresh q5 n4
    have d1_4 := ne_of_none g1 n4
    have d2_4 := ne_of_none g2 n4
    have d3_4 := ne_of_none g3 n4
    have b6 := b5.upd (o := .ins A.State dx (putF "bills" (.ref p4) (putF "deliveries" (.ref p3) (putF "index_values" (.ref p2) (putF "contracts" (.ref p1) (putF "sale" .non (putF "day" (iN 0) []))))))) e6
    have g1 : (upd H6 p (.ins A.State dx (putF "bills" (.ref p4) (putF "deliveries" (.ref p3) (putF "index_values" (.ref p2) (putF "contracts" (.ref p1) (putF "sale" .non (putF "day" (iN 0) [])))))))) p1 = some (.lst []) := by rw [upd_ne ne1]; exact e6 _ _ g1
    have g2 : (upd H6 p (.ins A.State dx (putF "bills" (.ref p4) (putF "deliveries" (.ref p3) (putF "index_values" (.ref p2) (putF "contracts" (.ref p1) (putF "sale" .non (putF "day" (iN 0) [])))))))) p2 = some (.dK []) := by rw [upd_ne ne2]; exact e6 _ _ g2
    have g3 : (upd H6 p (.ins A.State dx (putF "bills" (.ref p4) (putF "deliveries" (.ref p3) (putF "index_values" (.ref p2) (putF "contracts" (.ref p1) (putF "sale" .non (putF "day" (iN 0) [])))))))) p3 = some (.lst []) := by rw [upd_ne ne3]; exact e6 _ _ g3
    have g4 : (upd H6 p (.ins A.State dx (putF "bills" (.ref p4) (putF "deliveries" (.ref p3) (putF "index_values" (.ref p2) (putF "contracts" (.ref p1) (putF "sale" .non (putF "day" (iN 0) [])))))))) p4 = some (.lst []) := by rw [upd_ne ne4]; exact h4
    have q6 : (upd H6 p (.ins A.State dx (putF "bills" (.ref p4) (putF "deliveries" (.ref p3) (putF "index_values" (.ref p2) (putF "contracts" (.ref p1) (putF "sale" .non (putF "day" (iN 0) [])))))))) p = some (.ins A.State dx (putF "bills" (.ref p4) (putF "deliveries" (.ref p3) (putF "index_values" (.ref p2) (putF "contracts" (.ref p1) (putF "sale" .non (putF "day" (iN 0) []))))))) := upd_same
    generalize (upd H6 p (.ins A.State dx (putF "bills" (.ref p4) (putF "deliveries" (.ref p3) (putF "index_values" (.ref p2) (putF "contracts" (.ref p1) (putF "sale" .non (putF "day" (iN 0) [])))))))) = G6 at b6 g1 g2 g3 g4 q6 ⊢
    refine s_fldL (el_rep (el_lst (ea_cons ev_c ea_nil) (by show 1 ≤ 100000; decide)) ev_c (by decide) (by decide)) (ev_var rfl) q6 T.cl_State T.n_State_paid (by show 6 < 1000; decide) fun p5 H7 n5 e7 h5 => ?_
    obtain ⟨f5, ne5⟩ := b6.fresh q6 n5
    have d1_5 := ne_of_none g1 n5
    have d2_5 := ne_of_none g2 n5
    have d3_5 := ne_of_none g3 n5
    have d4_5 := ne_of_none g4 n5
    refine kQ _ p1 p2 p3 p4 p5 ?_ ?_ upd_same ?_ ?_ ?_ ?_ ?_ (b6.upd e7)
    · simp only [List.nodup_cons, List.mem_cons, List.not_mem_nil, or_false, not_or, not_false_eq_true, List.nodup_nil, and_true]
      exact ⟨⟨Ne.symm ne1, Ne.symm ne2, Ne.symm ne3, Ne.symm ne4, Ne.symm ne5⟩, ⟨d1_2, d1_3, d1_4, d1_5⟩, ⟨d2_3, d2_4, d2_5⟩, ⟨d3_4, d3_5⟩, d4_5⟩
    · intro x hx
      simp only [List.mem_cons, List.not_mem_nil, or_false] at hx
      rcases hx with rfl | rfl | rfl | rfl | rfl
      · exact f1
      · exact f2
      · exact f3
      · exact f4
      · exact f5
    · rw [upd_ne ne1]
      exact e7 _ _ g1
    · rw [upd_ne ne2]
      exact e7 _ _ g2
    · rw [upd_ne ne3]
      exact e7 _ _ g3
    · rw [upd_ne ne4]
      exact e7 _ _ g4
    · rw [upd_ne ne5, h5]
      unfold iL
      rw [List.map_replicate]
      rfl
def fReaderL : List V → List (Str × V)
  | [a] => fReader a (iN 0)
  | _ => []
theorem m_Reader (T : Txt K mg A) : C8.Mak P w K mg base 1 "Reader" A.Reader (spInit A.Reader 1 fReaderL) [] := by
  refine makOf T.m_Reader sc_Reader___init__ (fun _ _ _ _ _ _ us hl => match us, hl with | [_, _], _ => rfl) (fun vs H Q E h => ?_) (fun f cdv Ar outer st H vs Q E hr h => ?_)
  · obtain ⟨p, dx, args, rfl, hn, _⟩ := h
    simp [hn]
  · obtain ⟨p, dx, args, rfl, hn, hp, kQ⟩ := h
    obtain ⟨v0, rfl⟩ : ∃ a, args = [a] := by
      match args, hn with
      | [a], _ => exact ⟨a, rfl⟩
    refine ⟨_, (pss_cons (ps_fld (pv 0) (pv 1) rfl)
        (pss_one (ps_fld (pv 0) pe_int rfl))), ?_⟩
    refine ⟨_, rfl, _, rfl, p, A.Reader, dx, _, rfl, hp, T.cl_Reader, T.n_Reader_source, (by show 0 < 1000; decide), ?_⟩
    refine ⟨_, rfl, p, A.Reader, dx, _, rfl, upd_same, T.cl_Reader, T.n_Reader_place, (by show 1 < 1000; decide), ?_⟩
    rw [upd_upd]
    exact kQ
/-! ### answers -/
def tagL : List (Addr × Nat) → Addr → Nat
  | [], _ => 0
  | (a, n) :: r, b => if b = a then n else tagL r b
theorem tagL_get : ∀ {l : List (Addr × Nat)} {a : Addr} {n : Nat}, (l.map (·.1)).Nodup → (a, n) ∈ l → tagL l a = n
  | [], _, _, _, h => by cases h
  | (b, m) :: l, a, n, nd, h => by
    obtain ⟨n1, n2⟩ := List.nodup_cons.mp nd
    unfold tagL
    rcases List.mem_cons.mp h with h | h
    · cases h
      rw [if_pos rfl]
    · rw [if_neg (fun z => n1 (List.mem_map.mpr ⟨(a, n), h, z⟩)), tagL_get n2 h]
def spAnswers (P : Addr) (K : PySem.W.Frag) : Sp := fun vs H Q _ => ∃ c l, vs = [.ref c] ∧ TabOnly P H ∧ SqL K H c (l.map V.int) ∧ answers_asked l = true ∧ ∀ H' p, H' p = some (.lst ((PyWrtbsa.answers l).map V.int)) → Q (.ref p) H'
theorem ok_answers {f : Addr} {fd : FuncData} (F : Fun K "answers" "answers" s_answers f fd) (T : Txt K mg A) (BT : TabB base mg A.code A.tab) : FnOk P w K mg base CX0 17 f fd ["calls"] (spAnswers A.tab K) := by
  have m_State : C8.Mak P w K mg base 1 "State" A.State (sp_State A) [] := m_State T
  have m_Reader : C8.Mak P w K mg base 1 "Reader" A.Reader (spInit A.Reader 1 fReaderL) [] := m_Reader T
  have t_at_end : C8.Met P w K mg base 1 A.Reader "at_end" (spV fun vs H z => ∃ r c dx ns pos, vs = [.ref r] ∧ ReadAt A K H r c dx ns pos ∧ z = .bl (decide (ns.length ≤ pos))) [] := t_at_end T
  have c_answer_next : C8.Cal P w K mg base 15 "answer_next" (spNext A K) [] := c_answer_next T BT
  refine F.ok sc_answers (fun vs H Q E h => ?_) (fun cdv Ar outer s0 H vs Q E hr h => ?_)
  · obtain ⟨c, l, rfl, _⟩ := h
    rfl
  · obtain ⟨c, l, rfl, htab, hc, hask, kQ⟩ := h
    refine ⟨_, (pss_cons (ps_set (i := 1) sc_answers.nd rfl (Or.inl rfl) (pe_mk m_Reader hr (by decide) (by rfl) (pa_cons (pv 0) pa_nil)))
        (pss_cons (ps_set (i := 2) sc_answers.nd rfl (Or.inl rfl) (pe_mk0 m_State hr (by decide) (by rfl)))
        (pss_cons (ps_set (i := 3) sc_answers.nd rfl (Or.inl rfl) (pe_lst pa_nil))
        (pss_cons (ps_while PassesOwn.never (pt_not (pt_val (pe_mt0 t_at_end hr (by decide) (pv 1)))) (pss_cons (ps_set (i := 4) sc_answers.nd rfl (Or.inl rfl) (pe_c c_answer_next hr (by decide) (by rfl) (pa_cons (pv 2) (pa_cons (pv 1) pa_nil))))
        (pss_cons (ps_expr (pe_bm PySem.F.plainAttrs_list PySem.F.slot_list_append PySem.F.type_list_append mt_append (pv 3) (pa_cons (pe_callB call_len_seq (by rfl) T.b_len boot_len (pa_cons (pv 4) pa_nil)) pa_nil)))
        (pss_one (ps_expr (pe_bm PySem.F.plainAttrs_list PySem.F.slot_list_extend PySem.F.type_list_extend mt_extend (pv 3) (pa_cons (pv 4) pa_nil)))))))
        (pss_one (ps_ret (pv 3))))))), ?_⟩
    -- what is asked
    obtain ⟨cs, hcs, hall, hshort⟩ : ∃ cs, Rest l 0 cs ∧ (∀ cc ∈ cs, AuctionNeutral.asked1 cc = true) ∧ PyWrtbsa.answers l = PyFlat.told (PyFlat.played AuctionNeutral.step AuctionNeutral.start cs) ∧ (PyWrtbsa.answers l).length ≤ 10000000 := by
      unfold answers_asked at hask
      cases hcl : PyFlat.calls shape l.length l with
      | none =>
        rw [hcl] at hask
        cases hask
      | some cs =>
        rw [hcl] at hask
        simp only [Bool.and_eq_true] at hask
        obtain ⟨⟨_, h4⟩, h5⟩ := hask
        refine ⟨cs, ⟨l.length, hcl⟩, fun cc hcc => ?_, ?_, of_decide_eq_true h5⟩
        · unfold AuctionNeutral.asked at h4
          simp only [Bool.and_eq_true] at h4
          have := List.all_eq_true.mp h4.2.1 (whole cc) (List.mem_map.mpr ⟨cc, hcc, rfl⟩)
          rw [whole_id] at this
          exact this
        · unfold PyWrtbsa.answers
          rw [calls_is, hcl]
    obtain ⟨htold, hshort⟩ := hshort
    have line : (10000000 : Nat) < sizeLine := by decide
    -- the reader, the state, the list of answers
    refine seq_run (asg_run (make_run (cons_run (var_run rfl (nil_run fun r rdx nr nrd ne => mk_run2 (n := 1) (f := fReaderL) (vs := [.ref c]) rfl nr nrd ne fun H1 e1 h1 => ?_)))))
    refine nx_run ?_
    refine seq_run (asg_run (make_run (nil_run fun sa sdx nsa nsd ne2 => ⟨sa, sdx, rfl, upd_same, fun H2 p1 p2 p3 p4 p5 nds nps hsa hp1 hp2 hp3 hp4 hp5 b2 => ⟨rfl, ?_⟩⟩)))
    refine nx_run ?_
    have e2 : Ex H1 H2 := made_ex nsa nsd b2
    have nps1 : ∀ x ∈ [p1, p2, p3, p4, p5], H1 x = none := fun x hx => (made_new (nps x hx)).1
    refine q_asgL (el_lst ea_nil (by show 0 ≤ 100000; decide)) fun tp H3 ntp e3 htp => ?_
    have e13 : Ex H1 H3 := e2.trans e3
    have e : Ex H H3 := e1.trans e13
    have nall : ∀ x ∈ [tp, r, sa, p1, p2, p3, p4, p5], H x = none := fun x hx => by
      rcases List.mem_cons.mp hx with rfl | hx
      · exact fresh_back (e1.trans e2) ntp
      · rcases List.mem_cons.mp hx with rfl | hx
        · exact nr
        · rcases List.mem_cons.mp hx with rfl | hx
          · exact fresh_back e1 nsa
          · exact fresh_back e1 (nps1 x hx)
    have nd : [tp, r, sa, p1, p2, p3, p4, p5].Nodup := by
      refine List.nodup_cons.mpr ⟨fun z => ?_, List.nodup_cons.mpr ⟨fun z => ?_, nds⟩⟩
      · have key : ∀ x o, H2 x = some o → tp ≠ x := fun x o h q => by
          rw [← q, ntp] at h
          cases h
        simp only [List.mem_cons, List.not_mem_nil, or_false] at z
        rcases z with z | z | z | z | z | z | z
        · exact key _ _ (e2 _ _ h1) z
        · exact key _ _ hsa z
        · exact key _ _ hp1 z
        · exact key _ _ hp2 z
        · exact key _ _ hp3 z
        · exact key _ _ hp4 z
        · exact key _ _ hp5 z
      · rcases List.mem_cons.mp z with z | z
        · rw [← z, h1] at nsa
          cases nsa
        · have := nps1 r z
          rw [h1] at this
          cases this
    let tg : List (Addr × Nat) := [(tp, 9), (r, 8), (sa, 5), (p1, 4), (p2, 6), (p3, 7), (p4, 10), (p5, 11)]
    let τ1 : Tg := newTag (fun b => if b = A.tab then 12 else 0) H (tagL tg)
    have tags : ∀ a n, (a, n) ∈ tg → τ1 a = n := fun a n h => by
      have hm : a ∈ tg.map (fun x : Addr × Nat => x.1) := List.mem_map.mpr ⟨(a, n), h, rfl⟩
      show newTag _ H (tagL tg) a = n
      rw [newTag_new (nall a hm)]
      exact tagL_get nd h
    have t_r : τ1 r = 8 := tags _ _ (by simp [tg])
    have t_tp : τ1 tp = 9 := tags _ _ (by simp [tg])
    have hcat : CAt K τ1 H3 c l := by
      have old : ∀ o, H c = some o → (∀ ps, o ≠ .tbl ps) → CAt K τ1 H3 c l := fun o h n => .inr ⟨o, e _ _ h, (newTag_old h).trans (if_neg (fun z => by
        rw [z, htab.tab] at h
        exact n _ (Option.some.inj h).symm))⟩
      rcases hc with (h | ⟨o, h⟩) | h
      · exact old _ h (by intro _ z; cases z)
      · exact old _ h (by intro _ z; cases z)
      · exact .inl fun H' => .inr h
    have hst : StAt A τ1 H3 sa AuctionNeutral.start := by
      refine ⟨sdx, .non, p1, [], ⟨p2, p3, p4, p5⟩, [], [], ⟨Nat.zero_le _, Nat.zero_le _, fun c hc => (by cases hc), ⟨.nil, Nat.zero_le _, fun e he => (by cases he), Nat.zero_le _, fun d hd => (by cases hd), Nat.zero_le _, fun b hb => (by cases hb), rfl⟩⟩, tags _ _ (by simp [tg]), e3 _ _ hsa, rfl, tags _ _ (by simp [tg]), e3 _ _ hp1, .nil,
        ⟨⟨[], tags _ _ (by simp [tg]), e3 _ _ hp2, .refl _⟩, tags _ _ (by simp [tg]), e3 _ _ hp3, .nil, tags _ _ (by simp [tg]), e3 _ _ hp4, .nil, tags _ _ (by simp [tg]), e3 _ _ hp5⟩, (newTag_old htab.tab).trans (if_pos rfl), #[], e _ _ htab.tab, ?_, fun pos cv z => ?_⟩
      · trivial
      · cases z
    refine q_while (fun m σ' H' => ∃ y4 τ' st' pos cur rest, σ' = [some (.ref c), some (.ref r), some (.ref sa), some (.ref tp), y4] ∧ m = rest.length ∧ ReadAt A K H' r c rdx l pos ∧ τ' r = 8 ∧ CAt K τ' H' c l ∧ StAt A τ' H' sa st' ∧ τ' tp = 9 ∧ H' tp = some (.lst (cur.map V.int)) ∧ Rest l pos rest ∧ (∀ cc ∈ rest, AuctionNeutral.asked1 cc = true) ∧
      PyWrtbsa.answers l = cur ++ PyFlat.told (PyFlat.played AuctionNeutral.step st' rest)) cs.length ⟨none, τ1, AuctionNeutral.start, 0, [], cs, rfl, rfl, ⟨e13 _ _ h1, ex_l e hc⟩, t_r, hcat, hst, t_tp, htp, hcs, hall, htold⟩ ?_
    rintro m σ' H4 ⟨y4, τ', st', pos, cur, rest, rfl, rfl, hrd, htr, hcA, hst', htt, htp', hrest, hask', hans⟩
    refine ⟨!decide (l.length ≤ pos), et_not (et_B (ev_methV (ev_var rfl) hrd.1 nm_Reader_at_end fun H5 e5 => ⟨r, c, rdx, l, pos, rfl, ⟨e5 _ _ hrd.1, ex_l e5 hrd.2⟩, rfl⟩)), fun hb H5 e5 => ?_, fun hb H5 e5 => ?_⟩
    · have hlt : ¬ l.length ≤ pos := by simpa using hb
      cases rest with
      | nil => exact absurd hrest.end_ hlt
      | cons cc rest =>
        obtain ⟨p, n, k, xs, pos', g1, g2, g3, g4, g5, g6, g7⟩ := hrest.next
        subst g6
        refine ⟨_, fun _ _ h => h, ?_⟩
        have hcur : cur.length ≤ 10000000 := by
          rw [hans, List.length_append] at hshort
          omega
        refine seq_run (asg_run ((ea_cons (ev_var rfl) (ea_cons (ev_var rfl) ea_nil)) H5 (Ex.refl _) _ fun H6 e6 => ⟨sa, τ', st', r, c, rdx, l, pos, p, n, k, xs, pos', rfl, ⟨(e5.trans e6) _ _ hrd.1, ex_l (e5.trans e6) hrd.2⟩, htr, hcA.frm (S := fun _ => False) (.ex (e5.trans e6)) (fun z => z), g1, g2, g3, g4, g5, hask' _ List.mem_cons_self, hst'.ex (e5.trans e6), fun τ2 H7 q f7 hr7 htr7 hst7 nq hq => ?_⟩))
        refine nx_run ?_
        have htp6 := (e5.trans e6) _ _ htp'
        have htp7 := f7.same htp6 htt (by intro z; exact z.2 rfl)
        have n_qtp : q ≠ tp := Ne.symm (ne_of_none htp6 nq)
        have hcA7 := (hcA.frm (S := fun _ => False) (.ex (e5.trans e6)) (fun z => z)).frm f7 (by intro z; exact z.1 rfl)
        have hlen : cur.length + 1 + (AuctionNeutral.step st' ((p :: (l.drop (pos + 1)).take n) :: xs)).2.length ≤ 10000000 := by
          rw [hans] at hshort
          show _ ≤ _
          have : PyFlat.told (PyFlat.played AuctionNeutral.step st' (((p :: (l.drop (pos + 1)).take n) :: xs) :: rest)) = _ := told_cons _ _
          rw [this, List.length_append, List.length_append, List.length_cons] at hshort
          omega
        refine q_appS (a := tp) htp7.1 (ev_var rfl) (ev_len (K := K) (ev_var rfl) (sq_of hq)) (by rw [List.length_map]; omega) fun H8 e8 => ?_
        refine s_extK (l := tp) (b := q) upd_same (by rw [upd_ne n_qtp]; exact e8 _ _ hq) (ev_var rfl) (ev_var rfl) (by rw [List.length_append, List.length_map, List.length_map]; show cur.length + 1 + _ ≤ _; omega) fun H9 e9 => ?_
        refine nx_run ⟨rest.length, Nat.lt_succ_self _, ?_⟩
        have fa : Frm (fun t => t = 9) τ2 H7 τ2 (upd H8 tp (.lst (cur.map V.int ++ [V.int ((((AuctionNeutral.step st' ((p :: (l.drop (pos + 1)).take n) :: xs)).2.map V.int).length : Nat) : Int)]))) := (Frm.ex e8).trans (.upd (e8 _ _ htp7.1) htp7.2)
        have fb := (fa.trans (.ex e9)).trans (.upd (o := .lst (cur.map V.int ++ [V.int ((((AuctionNeutral.step st' ((p :: (l.drop (pos + 1)).take n) :: xs)).2.map V.int).length : Nat) : Int)] ++ (AuctionNeutral.step st' ((p :: (l.drop (pos + 1)).take n) :: xs)).2.map V.int)) (e9 _ _ upd_same) htp7.2)
        have hr9 := fb.same hr7.1 htr7 (by decide)
        refine ⟨_, τ2, (AuctionNeutral.step st' ((p :: (l.drop (pos + 1)).take n) :: xs)).1, pos', cur ++ ((((AuctionNeutral.step st' ((p :: (l.drop (pos + 1)).take n) :: xs)).2.length : Nat) : Int) :: (AuctionNeutral.step st' ((p :: (l.drop (pos + 1)).take n) :: xs)).2), rest, rfl, rfl, ⟨hr9.1, hcA7.sq hr7.2 fb (by decide)⟩, hr9.2, hcA7.frm fb (by decide), hst7.frm fb (by intro t ht z; omega), htp7.2, ?_, g7, fun cc hcc => hask' cc (List.mem_cons_of_mem _ hcc), ?_⟩
        · rw [upd_same, List.length_map, List.map_append]
          simp
        · rw [hans]
          show cur ++ PyFlat.told (_ :: _) = _
          rw [told_cons, List.append_assoc]
    · have hle : l.length ≤ pos := by simpa using hb
      cases rest with
      | cons cc rest =>
        obtain ⟨p, _, _, _, _, g1, _⟩ := hrest.next
        have := (List.getElem?_eq_some_iff.mp g1).1
        omega
      | nil =>
        refine rt_ret (ev_var rfl) fun H6 e6 => ?_
        refine kQ H6 tp ?_
        rw [e6 _ _ (e5 _ _ htp'), hans]
        show some (HO.lst _) = some (HO.lst ((cur ++ []).map V.int))
        rw [List.append_nil]
end
end TB

namespace TB
open PySem PySem.Spec PyProof.Rows L2 Evl
/-! ### the end: what the top has written -/
section
variable {K : PySem.W.Frag}
theorem tup_mk {a : Addr} {od : Option Addr} {its : Array Value} {n : Nat} {sl : Array (Option Value)} {ns : List Int} (l : K.lookup a = some ⟨.type "tuple", od, .seq its n, sl⟩) (hz : its.size ≤ sizeLine) (h : Vals (ns.map V.int) its.toList) : TupC K a ns := fun _ => .inr ⟨_, its, n, l, rfl, rfl, hz, h⟩
def TupAll (K : PySem.W.Frag) : List Addr → List (List Int) → Prop
  | a :: as, n :: l => TupC K a n ∧ TupAll K as l
  | [], [] => True
  | _, _ => False
theorem tupAll_get : ∀ {as : List Addr} {l : List (List Int)}, TupAll K as l → as.length = l.length ∧ ∀ (i : Nat) (a : Addr) (ns : List Int), as[i]? = some a → l[i]? = some ns → TupC K a ns
  | [], [], _ => ⟨rfl, fun i a ns h => by simp at h⟩
  | [], _ :: _, h => h.elim
  | _ :: _, [], h => h.elim
  | a :: as, n :: l, h => by
    obtain ⟨h1, h2⟩ := tupAll_get h.2
    refine ⟨by simp [h1], fun i b ns hb hn => ?_⟩
    cases i with
    | zero =>
      simp only [List.getElem?_cons_zero, Option.some.injEq] at hb hn
      subst hb
      subst hn
      exact h.1
    | succ i => exact h2 i b ns (by simpa using hb) (by simpa using hn)
theorem tup2_mk {a : Addr} {od : Option Addr} {its : Array Value} {n : Nat} {sl : Array (Option Value)} {as : List Addr} {l : List (List Int)} (h0 : K.lookup a = some ⟨.type "tuple", od, .seq its n, sl⟩) (hz : its.size ≤ sizeLine) (h : Vals (as.map V.ref) its.toList) (ha : TupAll K as l) : TupC2 K a l := ⟨as, fun _ => .inr ⟨_, its, n, h0, rfl, rfl, hz, h⟩, (tupAll_get ha).1, (tupAll_get ha).2⟩
end
theorem all_mk {P : Program} {w : World} {K : PySem.W.Frag} {h : Heap} {mg : Str → Option Value} {fa Ac22 Ac32 Ac32_0 Ac32_1 Ac32_2 Ac32_3 Ac32_4 Ac32_5 Ac32_6 Ac32_7 Ac32_8 Ac32_9 Ac32_10 Ac32_11 Ac32_12 Ac32_13 Ac32_14 Ac32_15 Ac32_16 Ac32_17 Ac32_18 Ac32_19 Ac32_20 Ac32_21 CLot f1 CBid f2 CSale f3 CContract f4 CDelivery f5 CBill f6 CState f7 CSelection f8 CReader f9 f10 f11 f12 f13 f14 f15 f16 f17 f18 f19 f20 f21 f22 f23 f24 f25 f26 f27 f28 f29 f30 f31 f32 f33 f34 f35 f36 f37 f38 f39 f40 f41 f42 f43 f44 f45 f46 f47 f48 f49 f50 f51 f52 f53 f54 f55 f56 f57 f58 f59 f60 f61 f62 f63 f64 f65 f66 f67 f68 f69 f70 f71 f72 f73 : Addr} {o_c22 o_c32 o_c32_0 o_c32_1 o_c32_2 o_c32_3 o_c32_4 o_c32_5 o_c32_6 o_c32_7 o_c32_8 o_c32_9 o_c32_10 o_c32_11 o_c32_12 o_c32_13 o_c32_14 o_c32_15 o_c32_16 o_c32_17 o_c32_18 o_c32_19 o_c32_20 o_c32_21 od1 an1 od2 an2 od3 an3 od4 an4 od5 an5 od6 an6 od7 an7 od8 an8 od9 an9 od10 an10 od11 an11 od12 an12 od13 an13 od14 an14 od15 an15 od16 an16 od17 an17 od18 an18 od19 an19 od20 an20 od21 an21 od22 an22 od23 an23 od24 an24 od25 an25 od26 an26 od27 an27 od28 an28 od29 an29 od30 an30 od31 an31 od32 an32 od33 an33 od34 an34 od35 an35 od36 an36 od37 an37 od38 an38 od39 an39 od40 an40 od41 an41 od42 an42 od43 an43 od44 an44 od45 an45 od46 an46 od47 an47 od48 an48 od49 an49 od50 an50 od51 an51 od52 an52 od53 an53 od54 an54 od55 an55 od56 an56 od57 an57 od58 an58 od59 an59 od60 an60 od61 an61 od62 an62 od63 an63 od64 an64 od65 an65 od66 an66 od67 an67 od68 an68 od69 an69 od70 an70 od71 an71 od72 an72 od73 an73 : Option Addr} {s_c22 s_c32 s_c32_0 s_c32_1 s_c32_2 s_c32_3 s_c32_4 s_c32_5 s_c32_6 s_c32_7 s_c32_8 s_c32_9 s_c32_10 s_c32_11 s_c32_12 s_c32_13 s_c32_14 s_c32_15 s_c32_16 s_c32_17 s_c32_18 s_c32_19 s_c32_20 s_c32_21 sl1 sl2 sl3 sl4 sl5 sl6 sl7 sl8 sl9 sl10 sl11 sl12 sl13 sl14 sl15 sl16 sl17 sl18 sl19 sl20 sl21 sl22 sl23 sl24 sl25 sl26 sl27 sl28 sl29 sl30 sl31 sl32 sl33 sl34 sl35 sl36 sl37 sl38 sl39 sl40 sl41 sl42 sl43 sl44 sl45 sl46 sl47 sl48 sl49 sl50 sl51 sl52 sl53 sl54 sl55 sl56 sl57 sl58 sl59 sl60 sl61 sl62 sl63 sl64 sl65 sl66 sl67 sl68 sl69 sl70 sl71 sl72 sl73 : Array (Option Value)} {oc1 kV1 dc1 pm1 cd1 ct1 oc2 kV2 dc2 pm2 cd2 ct2 oc3 kV3 dc3 pm3 cd3 ct3 oc4 kV4 dc4 pm4 cd4 ct4 oc5 kV5 dc5 pm5 cd5 ct5 oc6 kV6 dc6 pm6 cd6 ct6 oc7 kV7 dc7 pm7 cd7 ct7 oc8 kV8 dc8 pm8 cd8 ct8 oc9 kV9 dc9 pm9 cd9 ct9 oc10 kV10 dc10 pm10 cd10 ct10 oc11 kV11 dc11 pm11 cd11 ct11 oc12 kV12 dc12 pm12 cd12 ct12 oc13 kV13 dc13 pm13 cd13 ct13 oc14 kV14 dc14 pm14 cd14 ct14 oc15 kV15 dc15 pm15 cd15 ct15 oc16 kV16 dc16 pm16 cd16 ct16 oc17 kV17 dc17 pm17 cd17 ct17 oc18 kV18 dc18 pm18 cd18 ct18 oc19 kV19 dc19 pm19 cd19 ct19 oc20 kV20 dc20 pm20 cd20 ct20 oc21 kV21 dc21 pm21 cd21 ct21 oc22 kV22 dc22 pm22 cd22 ct22 oc23 kV23 dc23 pm23 cd23 ct23 oc24 kV24 dc24 pm24 cd24 ct24 oc25 kV25 dc25 pm25 cd25 ct25 oc26 kV26 dc26 pm26 cd26 ct26 oc27 kV27 dc27 pm27 cd27 ct27 oc28 kV28 dc28 pm28 cd28 ct28 oc29 kV29 dc29 pm29 cd29 ct29 oc30 kV30 dc30 pm30 cd30 ct30 oc31 kV31 dc31 pm31 cd31 ct31 oc32 kV32 dc32 pm32 cd32 ct32 oc33 kV33 dc33 pm33 cd33 ct33 oc34 kV34 dc34 pm34 cd34 ct34 oc35 kV35 dc35 pm35 cd35 ct35 oc36 kV36 dc36 pm36 cd36 ct36 oc37 kV37 dc37 pm37 cd37 ct37 oc38 kV38 dc38 pm38 cd38 ct38 oc39 kV39 dc39 pm39 cd39 ct39 oc40 kV40 dc40 pm40 cd40 ct40 oc41 kV41 dc41 pm41 cd41 ct41 oc42 kV42 dc42 pm42 cd42 ct42 oc43 kV43 dc43 pm43 cd43 ct43 oc44 kV44 dc44 pm44 cd44 ct44 oc45 kV45 dc45 pm45 cd45 ct45 oc46 kV46 dc46 pm46 cd46 ct46 oc47 kV47 dc47 pm47 cd47 ct47 oc48 kV48 dc48 pm48 cd48 ct48 oc49 kV49 dc49 pm49 cd49 ct49 oc50 kV50 dc50 pm50 cd50 ct50 oc51 kV51 dc51 pm51 cd51 ct51 oc52 kV52 dc52 pm52 cd52 ct52 oc53 kV53 dc53 pm53 cd53 ct53 oc54 kV54 dc54 pm54 ct54 oc55 kV55 dc55 pm55 cd55 ct55 oc56 kV56 dc56 pm56 cd56 ct56 oc57 kV57 dc57 pm57 cd57 ct57 oc58 kV58 dc58 pm58 cd58 ct58 oc59 kV59 dc59 pm59 cd59 ct59 oc60 kV60 dc60 pm60 cd60 ct60 oc61 kV61 dc61 pm61 cd61 ct61 oc62 kV62 dc62 pm62 cd62 ct62 oc63 kV63 dc63 pm63 cd63 ct63 oc64 kV64 dc64 pm64 cd64 ct64 oc65 kV65 dc65 pm65 cd65 ct65 oc66 kV66 dc66 pm66 cd66 ct66 oc67 kV67 dc67 pm67 cd67 ct67 oc68 kV68 dc68 pm68 cd68 ct68 oc69 kV69 dc69 pm69 cd69 ct69 oc70 kV70 dc70 pm70 cd70 ct70 oc71 kV71 dc71 pm71 cd71 ct71 oc72 kV72 dc72 pm72 cd72 ct72 oc73 kV73 dc73 pm73 cd73 ct73 : Value} {t1 t2 t3 t4 t5 t6 t7 t8 t9 t10 t11 t12 t13 t14 t15 t16 t17 t18 t19 t20 t21 t22 t23 t24 t25 t26 t27 t28 t29 t30 t31 t32 t33 t34 t35 t36 t37 t38 t39 t40 t41 t42 t43 t44 t45 t46 t47 t48 t49 t50 t51 t52 t53 t54 t55 t56 t57 t58 t59 t60 t61 t62 t63 t64 t65 t66 t67 t68 t69 t70 t71 t72 t73 t74 t75 t76 t77 t78 t79 : Tok} {n_c22 n_c32 n_c32_0 n_c32_1 n_c32_2 n_c32_3 n_c32_4 n_c32_5 n_c32_6 n_c32_7 n_c32_8 n_c32_9 n_c32_10 n_c32_11 n_c32_12 n_c32_13 n_c32_14 n_c32_15 n_c32_16 n_c32_17 n_c32_18 n_c32_19 n_c32_20 n_c32_21 : Nat} (X : K.In h) (G : h.Ns mainGlobals mg) (hfa : mg "answers" = some (.ref fa))
    (z1 : PySem.W.nsIn K mainGlobals "OUT_OF_RANGE" = some (some (.int (-1) t1)))
    (z2 : PySem.W.nsIn K mainGlobals "MISSING" = some (some (.int (-3) t2)))
    (z3 : PySem.W.nsIn K mainGlobals "ALREADY_DONE" = some (some (.int (-8) t3)))
    (z4 : PySem.W.nsIn K mainGlobals "NOT_POSSIBLE" = some (some (.int (-4) t4)))
    (z5 : PySem.W.nsIn K mainGlobals "FULL" = some (some (.int (-9) t5)))
    (z6 : PySem.W.nsIn K mainGlobals "GRADES" = some (some (.int 10 t6)))
    (z7 : PySem.W.nsIn K mainGlobals "BIDDERS" = some (some (.int 16 t7)))
    (z8 : PySem.W.nsIn K mainGlobals "MAX_DAY" = some (some (.int 99999 t8)))
    (z9 : PySem.W.nsIn K mainGlobals "MAX_RULE" = some (some (.int 1 t9)))
    (z10 : PySem.W.nsIn K mainGlobals "MAX_ADVANCE" = some (some (.int 1000 t10)))
    (z11 : PySem.W.nsIn K mainGlobals "MAX_RESERVE" = some (some (.int 1000000000 t11)))
    (z12 : PySem.W.nsIn K mainGlobals "MAX_VOLUME" = some (some (.int 1000000 t12)))
    (z13 : PySem.W.nsIn K mainGlobals "MAX_PRICE" = some (some (.int 1000000 t13)))
    (z14 : PySem.W.nsIn K mainGlobals "MAX_BIDDER" = some (some (.int 15 t14)))
    (z15 : PySem.W.nsIn K mainGlobals "MAX_LIMIT" = some (some (.int 12 t15)))
    (z16 : PySem.W.nsIn K mainGlobals "MIN_WEIGHT" = some (some (.int 1 t16)))
    (z17 : PySem.W.nsIn K mainGlobals "MAX_WEIGHT" = some (some (.int 1000 t17)))
    (z18 : PySem.W.nsIn K mainGlobals "MIN_INDEX" = some (some (.int 1 t18)))
    (z19 : PySem.W.nsIn K mainGlobals "MAX_INDEX" = some (some (.int 10000 t19)))
    (z20 : PySem.W.nsIn K mainGlobals "MAX_GRADE" = some (some (.int 9 t20)))
    (z21 : PySem.W.nsIn K mainGlobals "MAX_AMOUNT" = some (some (.int 1000000000 t21)))
    (z22 : PySem.W.nsIn K mainGlobals "BIDDER_ROW_LENGTHS" = some (some (.ref Ac22)))
    (Lc22 : K.lookup Ac22 = some ⟨.type "tuple", o_c22, .seq #[.int 2 t22, .int 4 t23, .int 6 t24, .int 8 t25] n_c22, s_c22⟩)
    (z23 : PySem.W.nsIn K mainGlobals "MAX_LOTS" = some (some (.int 10 t26)))
    (z24 : PySem.W.nsIn K mainGlobals "MAX_BIDS" = some (some (.int 12 t27)))
    (z25 : PySem.W.nsIn K mainGlobals "MAX_CONTRACTS" = some (some (.int 24 t28)))
    (z26 : PySem.W.nsIn K mainGlobals "MAX_INDEX_DAYS" = some (some (.int 16 t29)))
    (z27 : PySem.W.nsIn K mainGlobals "MAX_DELIVERIES" = some (some (.int 64 t30)))
    (z28 : PySem.W.nsIn K mainGlobals "MAX_BILLS" = some (some (.int 48 t31)))
    (z29 : PySem.W.nsIn K mainGlobals "MILLICENTS" = some (some (.int 1000 t32)))
    (z30 : PySem.W.nsIn K mainGlobals "THOUSANDTHS" = some (some (.int 1000 t33)))
    (z31 : PySem.W.nsIn K mainGlobals "INDEX_AT_FIRST" = some (some (.int 1000 t34)))
    (z32 : PySem.W.nsIn K mainGlobals "SHAPES" = some (some (.ref Ac32)))
    (Lc32 : K.lookup Ac32 = some ⟨.type "tuple", o_c32, .seq #[.ref Ac32_0, .ref Ac32_1, .ref Ac32_2, .ref Ac32_3, .ref Ac32_4, .ref Ac32_5, .ref Ac32_6, .ref Ac32_7, .ref Ac32_8, .ref Ac32_9, .ref Ac32_10, .ref Ac32_11, .ref Ac32_12, .ref Ac32_13, .ref Ac32_14, .ref Ac32_15, .ref Ac32_16, .ref Ac32_17, .ref Ac32_18, .ref Ac32_19, .ref Ac32_20, .ref Ac32_21] n_c32, s_c32⟩)
    (Lc32_0 : K.lookup Ac32_0 = some ⟨.type "tuple", o_c32_0, .seq #[.int 1 t35, .int 0 t36] n_c32_0, s_c32_0⟩)
    (Lc32_1 : K.lookup Ac32_1 = some ⟨.type "tuple", o_c32_1, .seq #[.int 3 t37, .int 0 t38] n_c32_1, s_c32_1⟩)
    (Lc32_2 : K.lookup Ac32_2 = some ⟨.type "tuple", o_c32_2, .seq #[.int 1 t39, .int 1 t40] n_c32_2, s_c32_2⟩)
    (Lc32_3 : K.lookup Ac32_3 = some ⟨.type "tuple", o_c32_3, .seq #[.int 2 t41, .int 0 t42] n_c32_3, s_c32_3⟩)
    (Lc32_4 : K.lookup Ac32_4 = some ⟨.type "tuple", o_c32_4, .seq #[.int 0 t43, .int 3 t44] n_c32_4, s_c32_4⟩)
    (Lc32_5 : K.lookup Ac32_5 = some ⟨.type "tuple", o_c32_5, .seq #[.int 1 t45, .int 0 t46] n_c32_5, s_c32_5⟩)
    (Lc32_6 : K.lookup Ac32_6 = some ⟨.type "tuple", o_c32_6, .seq #[.int 0 t47, .int 0 t48] n_c32_6, s_c32_6⟩)
    (Lc32_7 : K.lookup Ac32_7 = some ⟨.type "tuple", o_c32_7, .seq #[.int 0 t49, .int 1 t50] n_c32_7, s_c32_7⟩)
    (Lc32_8 : K.lookup Ac32_8 = some ⟨.type "tuple", o_c32_8, .seq #[.int 0 t51, .int 0 t52] n_c32_8, s_c32_8⟩)
    (Lc32_9 : K.lookup Ac32_9 = some ⟨.type "tuple", o_c32_9, .seq #[.int 1 t53, .int 0 t54] n_c32_9, s_c32_9⟩)
    (Lc32_10 : K.lookup Ac32_10 = some ⟨.type "tuple", o_c32_10, .seq #[.int 0 t55, .int 0 t56] n_c32_10, s_c32_10⟩)
    (Lc32_11 : K.lookup Ac32_11 = some ⟨.type "tuple", o_c32_11, .seq #[.int 1 t57, .int 0 t58] n_c32_11, s_c32_11⟩)
    (Lc32_12 : K.lookup Ac32_12 = some ⟨.type "tuple", o_c32_12, .seq #[.int 2 t59, .int 0 t60] n_c32_12, s_c32_12⟩)
    (Lc32_13 : K.lookup Ac32_13 = some ⟨.type "tuple", o_c32_13, .seq #[.int 4 t61, .int 0 t62] n_c32_13, s_c32_13⟩)
    (Lc32_14 : K.lookup Ac32_14 = some ⟨.type "tuple", o_c32_14, .seq #[.int 2 t63, .int 0 t64] n_c32_14, s_c32_14⟩)
    (Lc32_15 : K.lookup Ac32_15 = some ⟨.type "tuple", o_c32_15, .seq #[.int 1 t65, .int 0 t66] n_c32_15, s_c32_15⟩)
    (Lc32_16 : K.lookup Ac32_16 = some ⟨.type "tuple", o_c32_16, .seq #[.int 1 t67, .int 0 t68] n_c32_16, s_c32_16⟩)
    (Lc32_17 : K.lookup Ac32_17 = some ⟨.type "tuple", o_c32_17, .seq #[.int 1 t69, .int 0 t70] n_c32_17, s_c32_17⟩)
    (Lc32_18 : K.lookup Ac32_18 = some ⟨.type "tuple", o_c32_18, .seq #[.int 1 t71, .int 0 t72] n_c32_18, s_c32_18⟩)
    (Lc32_19 : K.lookup Ac32_19 = some ⟨.type "tuple", o_c32_19, .seq #[.int 2 t73, .int 0 t74] n_c32_19, s_c32_19⟩)
    (Lc32_20 : K.lookup Ac32_20 = some ⟨.type "tuple", o_c32_20, .seq #[.int 1 t75, .int 0 t76] n_c32_20, s_c32_20⟩)
    (Lc32_21 : K.lookup Ac32_21 = some ⟨.type "tuple", o_c32_21, .seq #[.int 1 t77, .int 0 t78] n_c32_21, s_c32_21⟩)
    (z33 : PySem.W.nsIn K mainGlobals "FIRST_OF_CONTRACTS" = some (some (.int 11 t79)))
    (b_all : PySem.W.nsIn K mainGlobals "all" = some none)
    (b_enumerate : PySem.W.nsIn K mainGlobals "enumerate" = some none)
    (b_len : PySem.W.nsIn K mainGlobals "len" = some none)
    (b_list : PySem.W.nsIn K mainGlobals "list" = some none)
    (b_max : PySem.W.nsIn K mainGlobals "max" = some none)
    (b_min : PySem.W.nsIn K mainGlobals "min" = some none)
    (b_range : PySem.W.nsIn K mainGlobals "range" = some none)
    (b_set : PySem.W.nsIn K mainGlobals "set" = some none)
    (b_sorted : PySem.W.nsIn K mainGlobals "sorted" = some none)
    (b_sum : PySem.W.nsIn K mainGlobals "sum" = some none)
    (b_zip : PySem.W.nsIn K mainGlobals "zip" = some none)
    (gLot : PySem.W.nsIn K mainGlobals "Lot" = some (some (.ref CLot)))
    (pgLot : PySem.W.plainGet K CLot Str.empty = true)
    (hdLot : PySem.W.hasDictIn K CLot = true)
    (poLot : PySem.W.plainOver K CLot = true)
    (saLot : PySem.W.findIn K (.ref CLot) "__setattr__" = some (some (.builtin "object.__setattr__")))
    (mkLot : PySem.W.makesIn K CLot = true)
    (kcLot : PySem.W.keepIn K (.ref CLot) = true)
    (nLot_reserve : PySem.W.findIn K (.ref CLot) "reserve" = some none)
    (nLot_volumes : PySem.W.findIn K (.ref CLot) "volumes" = some none)
    (a1 : PySem.W.findIn K (.ref CLot) "__init__" = some (some (.ref f1)))
    (i1 : PySem.W.isFn K (.ref f1) = true)
    (l1 : K.lookup f1 = some ⟨oc1, od1, .func (PySem.W.fnOf "__init__" "Lot.__init__" (defArgs s_Lot___init__) (defBody s_Lot___init__) (defScope s_Lot___init__) .none kV1 dc1 pm1 an1 cd1 ct1), sl1⟩)
    (c1 : PySem.W.codeIn K cd1 "Lot.__init__" = true)
    (k1 : PySem.W.keepIn K (.ref f1) = true)
    (gBid : PySem.W.nsIn K mainGlobals "Bid" = some (some (.ref CBid)))
    (pgBid : PySem.W.plainGet K CBid Str.empty = true)
    (hdBid : PySem.W.hasDictIn K CBid = true)
    (poBid : PySem.W.plainOver K CBid = true)
    (saBid : PySem.W.findIn K (.ref CBid) "__setattr__" = some (some (.builtin "object.__setattr__")))
    (mkBid : PySem.W.makesIn K CBid = true)
    (kcBid : PySem.W.keepIn K (.ref CBid) = true)
    (nBid_lots : PySem.W.findIn K (.ref CBid) "lots" = some none)
    (nBid_prices : PySem.W.findIn K (.ref CBid) "prices" = some none)
    (nBid_bidders : PySem.W.findIn K (.ref CBid) "bidders" = some none)
    (nBid_volumes : PySem.W.findIn K (.ref CBid) "volumes" = some none)
    (nBid_reserve : PySem.W.findIn K (.ref CBid) "reserve" = some none)
    (nBid_value : PySem.W.findIn K (.ref CBid) "value" = some none)
    (nBid_withdrawn : PySem.W.findIn K (.ref CBid) "withdrawn" = some none)
    (a2 : PySem.W.findIn K (.ref CBid) "__init__" = some (some (.ref f2)))
    (i2 : PySem.W.isFn K (.ref f2) = true)
    (l2 : K.lookup f2 = some ⟨oc2, od2, .func (PySem.W.fnOf "__init__" "Bid.__init__" (defArgs s_Bid___init__) (defBody s_Bid___init__) (defScope s_Bid___init__) .none kV2 dc2 pm2 an2 cd2 ct2), sl2⟩)
    (c2 : PySem.W.codeIn K cd2 "Bid.__init__" = true)
    (k2 : PySem.W.keepIn K (.ref f2) = true)
    (gSale : PySem.W.nsIn K mainGlobals "Sale" = some (some (.ref CSale)))
    (pgSale : PySem.W.plainGet K CSale Str.empty = true)
    (hdSale : PySem.W.hasDictIn K CSale = true)
    (poSale : PySem.W.plainOver K CSale = true)
    (saSale : PySem.W.findIn K (.ref CSale) "__setattr__" = some (some (.builtin "object.__setattr__")))
    (mkSale : PySem.W.makesIn K CSale = true)
    (kcSale : PySem.W.keepIn K (.ref CSale) = true)
    (nSale_closing_day : PySem.W.findIn K (.ref CSale) "closing_day" = some none)
    (nSale_rule : PySem.W.findIn K (.ref CSale) "rule" = some none)
    (nSale_advance : PySem.W.findIn K (.ref CSale) "advance" = some none)
    (nSale_lots : PySem.W.findIn K (.ref CSale) "lots" = some none)
    (nSale_bids : PySem.W.findIn K (.ref CSale) "bids" = some none)
    (nSale_limits : PySem.W.findIn K (.ref CSale) "limits" = some none)
    (a3 : PySem.W.findIn K (.ref CSale) "__init__" = some (some (.ref f3)))
    (i3 : PySem.W.isFn K (.ref f3) = true)
    (l3 : K.lookup f3 = some ⟨oc3, od3, .func (PySem.W.fnOf "__init__" "Sale.__init__" (defArgs s_Sale___init__) (defBody s_Sale___init__) (defScope s_Sale___init__) .none kV3 dc3 pm3 an3 cd3 ct3), sl3⟩)
    (c3 : PySem.W.codeIn K cd3 "Sale.__init__" = true)
    (k3 : PySem.W.keepIn K (.ref f3) = true)
    (gContract : PySem.W.nsIn K mainGlobals "Contract" = some (some (.ref CContract)))
    (pgContract : PySem.W.plainGet K CContract Str.empty = true)
    (hdContract : PySem.W.hasDictIn K CContract = true)
    (poContract : PySem.W.plainOver K CContract = true)
    (saContract : PySem.W.findIn K (.ref CContract) "__setattr__" = some (some (.builtin "object.__setattr__")))
    (mkContract : PySem.W.makesIn K CContract = true)
    (kcContract : PySem.W.keepIn K (.ref CContract) = true)
    (nContract_value : PySem.W.findIn K (.ref CContract) "value" = some none)
    (nContract_volumes : PySem.W.findIn K (.ref CContract) "volumes" = some none)
    (nContract_prices : PySem.W.findIn K (.ref CContract) "prices" = some none)
    (nContract_bidders : PySem.W.findIn K (.ref CContract) "bidders" = some none)
    (nContract_day : PySem.W.findIn K (.ref CContract) "day" = some none)
    (nContract_advance : PySem.W.findIn K (.ref CContract) "advance" = some none)
    (nContract_factor : PySem.W.findIn K (.ref CContract) "factor" = some none)
    (nContract_closed : PySem.W.findIn K (.ref CContract) "closed" = some none)
    (a4 : PySem.W.findIn K (.ref CContract) "__init__" = some (some (.ref f4)))
    (i4 : PySem.W.isFn K (.ref f4) = true)
    (l4 : K.lookup f4 = some ⟨oc4, od4, .func (PySem.W.fnOf "__init__" "Contract.__init__" (defArgs s_Contract___init__) (defBody s_Contract___init__) (defScope s_Contract___init__) .none kV4 dc4 pm4 an4 cd4 ct4), sl4⟩)
    (c4 : PySem.W.codeIn K cd4 "Contract.__init__" = true)
    (k4 : PySem.W.keepIn K (.ref f4) = true)
    (gDelivery : PySem.W.nsIn K mainGlobals "Delivery" = some (some (.ref CDelivery)))
    (pgDelivery : PySem.W.plainGet K CDelivery Str.empty = true)
    (hdDelivery : PySem.W.hasDictIn K CDelivery = true)
    (poDelivery : PySem.W.plainOver K CDelivery = true)
    (saDelivery : PySem.W.findIn K (.ref CDelivery) "__setattr__" = some (some (.builtin "object.__setattr__")))
    (mkDelivery : PySem.W.makesIn K CDelivery = true)
    (kcDelivery : PySem.W.keepIn K (.ref CDelivery) = true)
    (nDelivery_contract : PySem.W.findIn K (.ref CDelivery) "contract" = some none)
    (nDelivery_day : PySem.W.findIn K (.ref CDelivery) "day" = some none)
    (nDelivery_grade : PySem.W.findIn K (.ref CDelivery) "grade" = some none)
    (nDelivery_volume : PySem.W.findIn K (.ref CDelivery) "volume" = some none)
    (a5 : PySem.W.findIn K (.ref CDelivery) "__init__" = some (some (.ref f5)))
    (i5 : PySem.W.isFn K (.ref f5) = true)
    (l5 : K.lookup f5 = some ⟨oc5, od5, .func (PySem.W.fnOf "__init__" "Delivery.__init__" (defArgs s_Delivery___init__) (defBody s_Delivery___init__) (defScope s_Delivery___init__) .none kV5 dc5 pm5 an5 cd5 ct5), sl5⟩)
    (c5 : PySem.W.codeIn K cd5 "Delivery.__init__" = true)
    (k5 : PySem.W.keepIn K (.ref f5) = true)
    (gBill : PySem.W.nsIn K mainGlobals "Bill" = some (some (.ref CBill)))
    (pgBill : PySem.W.plainGet K CBill Str.empty = true)
    (hdBill : PySem.W.hasDictIn K CBill = true)
    (poBill : PySem.W.plainOver K CBill = true)
    (saBill : PySem.W.findIn K (.ref CBill) "__setattr__" = some (some (.builtin "object.__setattr__")))
    (mkBill : PySem.W.makesIn K CBill = true)
    (kcBill : PySem.W.keepIn K (.ref CBill) = true)
    (nBill_contract : PySem.W.findIn K (.ref CBill) "contract" = some none)
    (nBill_day : PySem.W.findIn K (.ref CBill) "day" = some none)
    (nBill_amounts : PySem.W.findIn K (.ref CBill) "amounts" = some none)
    (a6 : PySem.W.findIn K (.ref CBill) "__init__" = some (some (.ref f6)))
    (i6 : PySem.W.isFn K (.ref f6) = true)
    (l6 : K.lookup f6 = some ⟨oc6, od6, .func (PySem.W.fnOf "__init__" "Bill.__init__" (defArgs s_Bill___init__) (defBody s_Bill___init__) (defScope s_Bill___init__) .none kV6 dc6 pm6 an6 cd6 ct6), sl6⟩)
    (c6 : PySem.W.codeIn K cd6 "Bill.__init__" = true)
    (k6 : PySem.W.keepIn K (.ref f6) = true)
    (gState : PySem.W.nsIn K mainGlobals "State" = some (some (.ref CState)))
    (pgState : PySem.W.plainGet K CState Str.empty = true)
    (hdState : PySem.W.hasDictIn K CState = true)
    (poState : PySem.W.plainOver K CState = true)
    (saState : PySem.W.findIn K (.ref CState) "__setattr__" = some (some (.builtin "object.__setattr__")))
    (mkState : PySem.W.makesIn K CState = true)
    (kcState : PySem.W.keepIn K (.ref CState) = true)
    (nState_day : PySem.W.findIn K (.ref CState) "day" = some none)
    (nState_sale : PySem.W.findIn K (.ref CState) "sale" = some none)
    (nState_contracts : PySem.W.findIn K (.ref CState) "contracts" = some none)
    (nState_index_values : PySem.W.findIn K (.ref CState) "index_values" = some none)
    (nState_deliveries : PySem.W.findIn K (.ref CState) "deliveries" = some none)
    (nState_bills : PySem.W.findIn K (.ref CState) "bills" = some none)
    (nState_paid : PySem.W.findIn K (.ref CState) "paid" = some none)
    (a7 : PySem.W.findIn K (.ref CState) "__init__" = some (some (.ref f7)))
    (i7 : PySem.W.isFn K (.ref f7) = true)
    (l7 : K.lookup f7 = some ⟨oc7, od7, .func (PySem.W.fnOf "__init__" "State.__init__" (defArgs s_State___init__) (defBody s_State___init__) (defScope s_State___init__) .none kV7 dc7 pm7 an7 cd7 ct7), sl7⟩)
    (c7 : PySem.W.codeIn K cd7 "State.__init__" = true)
    (k7 : PySem.W.keepIn K (.ref f7) = true)
    (gSelection : PySem.W.nsIn K mainGlobals "Selection" = some (some (.ref CSelection)))
    (pgSelection : PySem.W.plainGet K CSelection Str.empty = true)
    (hdSelection : PySem.W.hasDictIn K CSelection = true)
    (poSelection : PySem.W.plainOver K CSelection = true)
    (saSelection : PySem.W.findIn K (.ref CSelection) "__setattr__" = some (some (.builtin "object.__setattr__")))
    (mkSelection : PySem.W.makesIn K CSelection = true)
    (kcSelection : PySem.W.keepIn K (.ref CSelection) = true)
    (nSelection_numbers : PySem.W.findIn K (.ref CSelection) "numbers" = some none)
    (nSelection_value : PySem.W.findIn K (.ref CSelection) "value" = some none)
    (nSelection_taken : PySem.W.findIn K (.ref CSelection) "taken" = some none)
    (nSelection_room : PySem.W.findIn K (.ref CSelection) "room" = some none)
    (a8 : PySem.W.findIn K (.ref CSelection) "__init__" = some (some (.ref f8)))
    (i8 : PySem.W.isFn K (.ref f8) = true)
    (l8 : K.lookup f8 = some ⟨oc8, od8, .func (PySem.W.fnOf "__init__" "Selection.__init__" (defArgs s_Selection___init__) (defBody s_Selection___init__) (defScope s_Selection___init__) .none kV8 dc8 pm8 an8 cd8 ct8), sl8⟩)
    (c8 : PySem.W.codeIn K cd8 "Selection.__init__" = true)
    (k8 : PySem.W.keepIn K (.ref f8) = true)
    (gReader : PySem.W.nsIn K mainGlobals "Reader" = some (some (.ref CReader)))
    (pgReader : PySem.W.plainGet K CReader Str.empty = true)
    (hdReader : PySem.W.hasDictIn K CReader = true)
    (poReader : PySem.W.plainOver K CReader = true)
    (saReader : PySem.W.findIn K (.ref CReader) "__setattr__" = some (some (.builtin "object.__setattr__")))
    (mkReader : PySem.W.makesIn K CReader = true)
    (kcReader : PySem.W.keepIn K (.ref CReader) = true)
    (nReader_source : PySem.W.findIn K (.ref CReader) "source" = some none)
    (nReader_place : PySem.W.findIn K (.ref CReader) "place" = some none)
    (a9 : PySem.W.findIn K (.ref CReader) "__init__" = some (some (.ref f9)))
    (i9 : PySem.W.isFn K (.ref f9) = true)
    (l9 : K.lookup f9 = some ⟨oc9, od9, .func (PySem.W.fnOf "__init__" "Reader.__init__" (defArgs s_Reader___init__) (defBody s_Reader___init__) (defScope s_Reader___init__) .none kV9 dc9 pm9 an9 cd9 ct9), sl9⟩)
    (c9 : PySem.W.codeIn K cd9 "Reader.__init__" = true)
    (k9 : PySem.W.keepIn K (.ref f9) = true)
    (a10 : PySem.W.findIn K (.ref CReader) "at_end" = some (some (.ref f10)))
    (i10 : PySem.W.isFn K (.ref f10) = true)
    (l10 : K.lookup f10 = some ⟨oc10, od10, .func (PySem.W.fnOf "at_end" "Reader.at_end" (defArgs s_Reader_at_end) (defBody s_Reader_at_end) (defScope s_Reader_at_end) .none kV10 dc10 pm10 an10 cd10 ct10), sl10⟩)
    (c10 : PySem.W.codeIn K cd10 "Reader.at_end" = true)
    (k10 : PySem.W.keepIn K (.ref f10) = true)
    (a11 : PySem.W.findIn K (.ref CReader) "next_numbers" = some (some (.ref f11)))
    (i11 : PySem.W.isFn K (.ref f11) = true)
    (l11 : K.lookup f11 = some ⟨oc11, od11, .func (PySem.W.fnOf "next_numbers" "Reader.next_numbers" (defArgs s_Reader_next_numbers) (defBody s_Reader_next_numbers) (defScope s_Reader_next_numbers) .none kV11 dc11 pm11 an11 cd11 ct11), sl11⟩)
    (c11 : PySem.W.codeIn K cd11 "Reader.next_numbers" = true)
    (k11 : PySem.W.keepIn K (.ref f11) = true)
    (a12 : PySem.W.findIn K (.ref CReader) "next_number" = some (some (.ref f12)))
    (i12 : PySem.W.isFn K (.ref f12) = true)
    (l12 : K.lookup f12 = some ⟨oc12, od12, .func (PySem.W.fnOf "next_number" "Reader.next_number" (defArgs s_Reader_next_number) (defBody s_Reader_next_number) (defScope s_Reader_next_number) .none kV12 dc12 pm12 an12 cd12 ct12), sl12⟩)
    (c12 : PySem.W.codeIn K cd12 "Reader.next_number" = true)
    (k12 : PySem.W.keepIn K (.ref f12) = true)
    (a13 : PySem.W.findIn K (.ref CReader) "next_row" = some (some (.ref f13)))
    (i13 : PySem.W.isFn K (.ref f13) = true)
    (l13 : K.lookup f13 = some ⟨oc13, od13, .func (PySem.W.fnOf "next_row" "Reader.next_row" (defArgs s_Reader_next_row) (defBody s_Reader_next_row) (defScope s_Reader_next_row) .none kV13 dc13 pm13 an13 cd13 ct13), sl13⟩)
    (c13 : PySem.W.codeIn K cd13 "Reader.next_row" = true)
    (k13 : PySem.W.keepIn K (.ref f13) = true)
    (a14 : PySem.W.nsIn K mainGlobals "common_divisor" = some (some (.ref f14)))
    (l14 : K.lookup f14 = some ⟨oc14, od14, .func (PySem.W.fnOf "common_divisor" "common_divisor" (defArgs s_common_divisor) (defBody s_common_divisor) (defScope s_common_divisor) .none kV14 dc14 pm14 an14 cd14 ct14), sl14⟩)
    (c14 : PySem.W.codeIn K cd14 "common_divisor" = true)
    (k14 : PySem.W.keepIn K (.ref f14) = true)
    (a15 : PySem.W.nsIn K mainGlobals "lowest_terms" = some (some (.ref f15)))
    (l15 : K.lookup f15 = some ⟨oc15, od15, .func (PySem.W.fnOf "lowest_terms" "lowest_terms" (defArgs s_lowest_terms) (defBody s_lowest_terms) (defScope s_lowest_terms) .none kV15 dc15 pm15 an15 cd15 ct15), sl15⟩)
    (c15 : PySem.W.codeIn K cd15 "lowest_terms" = true)
    (k15 : PySem.W.keepIn K (.ref f15) = true)
    (a16 : PySem.W.nsIn K mainGlobals "nearest" = some (some (.ref f16)))
    (l16 : K.lookup f16 = some ⟨oc16, od16, .func (PySem.W.fnOf "nearest" "nearest" (defArgs s_nearest) (defBody s_nearest) (defScope s_nearest) .none kV16 dc16 pm16 an16 cd16 ct16), sl16⟩)
    (c16 : PySem.W.codeIn K cd16 "nearest" = true)
    (k16 : PySem.W.keepIn K (.ref f16) = true)
    (a17 : PySem.W.nsIn K mainGlobals "is_admissible" = some (some (.ref f17)))
    (l17 : K.lookup f17 = some ⟨oc17, od17, .func (PySem.W.fnOf "is_admissible" "is_admissible" (defArgs s_is_admissible) (defBody s_is_admissible) (defScope s_is_admissible) .none kV17 dc17 pm17 an17 cd17 ct17), sl17⟩)
    (c17 : PySem.W.codeIn K cd17 "is_admissible" = true)
    (k17 : PySem.W.keepIn K (.ref f17) = true)
    (a18 : PySem.W.nsIn K mainGlobals "fits" = some (some (.ref f18)))
    (l18 : K.lookup f18 = some ⟨oc18, od18, .func (PySem.W.fnOf "fits" "fits" (defArgs s_fits) (defBody s_fits) (defScope s_fits) .none kV18 dc18 pm18 an18 cd18 ct18), sl18⟩)
    (c18 : PySem.W.codeIn K cd18 "fits" = true)
    (k18 : PySem.W.keepIn K (.ref f18) = true)
    (a19 : PySem.W.nsIn K mainGlobals "joined" = some (some (.ref f19)))
    (l19 : K.lookup f19 = some ⟨oc19, od19, .func (PySem.W.fnOf "joined" "joined" (defArgs s_joined) (defBody s_joined) (defScope s_joined) .none kV19 dc19 pm19 an19 cd19 ct19), sl19⟩)
    (c19 : PySem.W.codeIn K cd19 "joined" = true)
    (k19 : PySem.W.keepIn K (.ref f19) = true)
    (a20 : PySem.W.nsIn K mainGlobals "all_selections" = some (some (.ref f20)))
    (l20 : K.lookup f20 = some ⟨oc20, od20, .func (PySem.W.fnOf "all_selections" "all_selections" (defArgs s_all_selections) (defBody s_all_selections) (defScope s_all_selections) .none kV20 dc20 pm20 an20 cd20 ct20), sl20⟩)
    (c20 : PySem.W.codeIn K cd20 "all_selections" = true)
    (k20 : PySem.W.keepIn K (.ref f20) = true)
    (a21 : PySem.W.nsIn K mainGlobals "rank" = some (some (.ref f21)))
    (l21 : K.lookup f21 = some ⟨oc21, od21, .func (PySem.W.fnOf "rank" "rank" (defArgs s_rank) (defBody s_rank) (defScope s_rank) .none kV21 dc21 pm21 an21 cd21 ct21), sl21⟩)
    (c21 : PySem.W.codeIn K cd21 "rank" = true)
    (k21 : PySem.W.keepIn K (.ref f21) = true)
    (a22 : PySem.W.nsIn K mainGlobals "best_of" = some (some (.ref f22)))
    (l22 : K.lookup f22 = some ⟨oc22, od22, .func (PySem.W.fnOf "best_of" "best_of" (defArgs s_best_of) (defBody s_best_of) (defScope s_best_of) .none kV22 dc22 pm22 an22 cd22 ct22), sl22⟩)
    (c22 : PySem.W.codeIn K cd22 "best_of" = true)
    (k22 : PySem.W.keepIn K (.ref f22) = true)
    (a23 : PySem.W.nsIn K mainGlobals "threshold_of" = some (some (.ref f23)))
    (l23 : K.lookup f23 = some ⟨oc23, od23, .func (PySem.W.fnOf "threshold_of" "threshold_of" (defArgs s_threshold_of) (defBody s_threshold_of) (defScope s_threshold_of) .none kV23 dc23 pm23 an23 cd23 ct23), sl23⟩)
    (c23 : PySem.W.codeIn K cd23 "threshold_of" = true)
    (k23 : PySem.W.keepIn K (.ref f23) = true)
    (a24 : PySem.W.nsIn K mainGlobals "inadmissible_bid" = some (some (.ref f24)))
    (l24 : K.lookup f24 = some ⟨oc24, od24, .func (PySem.W.fnOf "inadmissible_bid" "inadmissible_bid" (defArgs s_inadmissible_bid) (defBody s_inadmissible_bid) (defScope s_inadmissible_bid) .none kV24 dc24 pm24 an24 cd24 ct24), sl24⟩)
    (c24 : PySem.W.codeIn K cd24 "inadmissible_bid" = true)
    (k24 : PySem.W.keepIn K (.ref f24) = true)
    (a25 : PySem.W.nsIn K mainGlobals "shared_lot" = some (some (.ref f25)))
    (l25 : K.lookup f25 = some ⟨oc25, od25, .func (PySem.W.fnOf "shared_lot" "shared_lot" (defArgs s_shared_lot) (defBody s_shared_lot) (defScope s_shared_lot) .none kV25 dc25 pm25 an25 cd25 ct25), sl25⟩)
    (c25 : PySem.W.codeIn K cd25 "shared_lot" = true)
    (k25 : PySem.W.keepIn K (.ref f25) = true)
    (a26 : PySem.W.nsIn K mainGlobals "takes_part" = some (some (.ref f26)))
    (l26 : K.lookup f26 = some ⟨oc26, od26, .func (PySem.W.fnOf "takes_part" "takes_part" (defArgs s_takes_part) (defBody s_takes_part) (defScope s_takes_part) .none kV26 dc26 pm26 an26 cd26 ct26), sl26⟩)
    (c26 : PySem.W.codeIn K cd26 "takes_part" = true)
    (k26 : PySem.W.keepIn K (.ref f26) = true)
    (a27 : PySem.W.nsIn K mainGlobals "bidder_over_limit" = some (some (.ref f27)))
    (l27 : K.lookup f27 = some ⟨oc27, od27, .func (PySem.W.fnOf "bidder_over_limit" "bidder_over_limit" (defArgs s_bidder_over_limit) (defBody s_bidder_over_limit) (defScope s_bidder_over_limit) .none kV27 dc27 pm27 an27 cd27 ct27), sl27⟩)
    (c27 : PySem.W.codeIn K cd27 "bidder_over_limit" = true)
    (k27 : PySem.W.keepIn K (.ref f27) = true)
    (a28 : PySem.W.nsIn K mainGlobals "status_and_detail" = some (some (.ref f28)))
    (l28 : K.lookup f28 = some ⟨oc28, od28, .func (PySem.W.fnOf "status_and_detail" "status_and_detail" (defArgs s_status_and_detail) (defBody s_status_and_detail) (defScope s_status_and_detail) .none kV28 dc28 pm28 an28 cd28 ct28), sl28⟩)
    (c28 : PySem.W.codeIn K cd28 "status_and_detail" = true)
    (k28 : PySem.W.keepIn K (.ref f28) = true)
    (a29 : PySem.W.nsIn K mainGlobals "is_over" = some (some (.ref f29)))
    (l29 : K.lookup f29 = some ⟨oc29, od29, .func (PySem.W.fnOf "is_over" "is_over" (defArgs s_is_over) (defBody s_is_over) (defScope s_is_over) .none kV29 dc29 pm29 an29 cd29 ct29), sl29⟩)
    (c29 : PySem.W.codeIn K cd29 "is_over" = true)
    (k29 : PySem.W.keepIn K (.ref f29) = true)
    (a30 : PySem.W.nsIn K mainGlobals "has_repeats" = some (some (.ref f30)))
    (l30 : K.lookup f30 = some ⟨oc30, od30, .func (PySem.W.fnOf "has_repeats" "has_repeats" (defArgs s_has_repeats) (defBody s_has_repeats) (defScope s_has_repeats) .none kV30 dc30 pm30 an30 cd30 ct30), sl30⟩)
    (c30 : PySem.W.codeIn K cd30 "has_repeats" = true)
    (k30 : PySem.W.keepIn K (.ref f30) = true)
    (a31 : PySem.W.nsIn K mainGlobals "has_all" = some (some (.ref f31)))
    (l31 : K.lookup f31 = some ⟨oc31, od31, .func (PySem.W.fnOf "has_all" "has_all" (defArgs s_has_all) (defBody s_has_all) (defScope s_has_all) .none kV31 dc31 pm31 an31 cd31 ct31), sl31⟩)
    (c31 : PySem.W.codeIn K cd31 "has_all" = true)
    (k31 : PySem.W.keepIn K (.ref f31) = true)
    (a32 : PySem.W.nsIn K mainGlobals "is_grade_row" = some (some (.ref f32)))
    (l32 : K.lookup f32 = some ⟨oc32, od32, .func (PySem.W.fnOf "is_grade_row" "is_grade_row" (defArgs s_is_grade_row) (defBody s_is_grade_row) (defScope s_is_grade_row) .none kV32 dc32 pm32 an32 cd32 ct32), sl32⟩)
    (c32 : PySem.W.codeIn K cd32 "is_grade_row" = true)
    (k32 : PySem.W.keepIn K (.ref f32) = true)
    (a33 : PySem.W.nsIn K mainGlobals "for_all_grades" = some (some (.ref f33)))
    (l33 : K.lookup f33 = some ⟨oc33, od33, .func (PySem.W.fnOf "for_all_grades" "for_all_grades" (defArgs s_for_all_grades) (defBody s_for_all_grades) (defScope s_for_all_grades) .none kV33 dc33 pm33 an33 cd33 ct33), sl33⟩)
    (c33 : PySem.W.codeIn K cd33 "for_all_grades" = true)
    (k33 : PySem.W.keepIn K (.ref f33) = true)
    (a34 : PySem.W.nsIn K mainGlobals "is_bidder_row" = some (some (.ref f34)))
    (l34 : K.lookup f34 = some ⟨oc34, od34, .func (PySem.W.fnOf "is_bidder_row" "is_bidder_row" (defArgs s_is_bidder_row) (defBody s_is_bidder_row) (defScope s_is_bidder_row) .none kV34 dc34 pm34 an34 cd34 ct34), sl34⟩)
    (c34 : PySem.W.codeIn K cd34 "is_bidder_row" = true)
    (k34 : PySem.W.keepIn K (.ref f34) = true)
    (a35 : PySem.W.nsIn K mainGlobals "grade_volume" = some (some (.ref f35)))
    (l35 : K.lookup f35 = some ⟨oc35, od35, .func (PySem.W.fnOf "grade_volume" "grade_volume" (defArgs s_grade_volume) (defBody s_grade_volume) (defScope s_grade_volume) .none kV35 dc35 pm35 an35 cd35 ct35), sl35⟩)
    (c35 : PySem.W.codeIn K cd35 "grade_volume" = true)
    (k35 : PySem.W.keepIn K (.ref f35) = true)
    (a36 : PySem.W.nsIn K mainGlobals "new_bid" = some (some (.ref f36)))
    (l36 : K.lookup f36 = some ⟨oc36, od36, .func (PySem.W.fnOf "new_bid" "new_bid" (defArgs s_new_bid) (defBody s_new_bid) (defScope s_new_bid) .none kV36 dc36 pm36 an36 cd36 ct36), sl36⟩)
    (c36 : PySem.W.codeIn K cd36 "new_bid" = true)
    (k36 : PySem.W.keepIn K (.ref f36) = true)
    (a37 : PySem.W.nsIn K mainGlobals "set_day" = some (some (.ref f37)))
    (l37 : K.lookup f37 = some ⟨oc37, od37, .func (PySem.W.fnOf "set_day" "set_day" (defArgs s_set_day) (defBody s_set_day) (defScope s_set_day) .none kV37 dc37 pm37 an37 cd37 ct37), sl37⟩)
    (c37 : PySem.W.codeIn K cd37 "set_day" = true)
    (k37 : PySem.W.keepIn K (.ref f37) = true)
    (a38 : PySem.W.nsIn K mainGlobals "open_sale" = some (some (.ref f38)))
    (l38 : K.lookup f38 = some ⟨oc38, od38, .func (PySem.W.fnOf "open_sale" "open_sale" (defArgs s_open_sale) (defBody s_open_sale) (defScope s_open_sale) .none kV38 dc38 pm38 an38 cd38 ct38), sl38⟩)
    (c38 : PySem.W.codeIn K cd38 "open_sale" = true)
    (k38 : PySem.W.keepIn K (.ref f38) = true)
    (a39 : PySem.W.nsIn K mainGlobals "add_lot" = some (some (.ref f39)))
    (l39 : K.lookup f39 = some ⟨oc39, od39, .func (PySem.W.fnOf "add_lot" "add_lot" (defArgs s_add_lot) (defBody s_add_lot) (defScope s_add_lot) .none kV39 dc39 pm39 an39 cd39 ct39), sl39⟩)
    (c39 : PySem.W.codeIn K cd39 "add_lot" = true)
    (k39 : PySem.W.keepIn K (.ref f39) = true)
    (a40 : PySem.W.nsIn K mainGlobals "set_limit" = some (some (.ref f40)))
    (l40 : K.lookup f40 = some ⟨oc40, od40, .func (PySem.W.fnOf "set_limit" "set_limit" (defArgs s_set_limit) (defBody s_set_limit) (defScope s_set_limit) .none kV40 dc40 pm40 an40 cd40 ct40), sl40⟩)
    (c40 : PySem.W.codeIn K cd40 "set_limit" = true)
    (k40 : PySem.W.keepIn K (.ref f40) = true)
    (a41 : PySem.W.nsIn K mainGlobals "place_bid" = some (some (.ref f41)))
    (l41 : K.lookup f41 = some ⟨oc41, od41, .func (PySem.W.fnOf "place_bid" "place_bid" (defArgs s_place_bid) (defBody s_place_bid) (defScope s_place_bid) .none kV41 dc41 pm41 an41 cd41 ct41), sl41⟩)
    (c41 : PySem.W.codeIn K cd41 "place_bid" = true)
    (k41 : PySem.W.keepIn K (.ref f41) = true)
    (a42 : PySem.W.nsIn K mainGlobals "withdraw_bid" = some (some (.ref f42)))
    (l42 : K.lookup f42 = some ⟨oc42, od42, .func (PySem.W.fnOf "withdraw_bid" "withdraw_bid" (defArgs s_withdraw_bid) (defBody s_withdraw_bid) (defScope s_withdraw_bid) .none kV42 dc42 pm42 an42 cd42 ct42), sl42⟩)
    (c42 : PySem.W.codeIn K cd42 "withdraw_bid" = true)
    (k42 : PySem.W.keepIn K (.ref f42) = true)
    (a43 : PySem.W.nsIn K mainGlobals "list_bids" = some (some (.ref f43)))
    (l43 : K.lookup f43 = some ⟨oc43, od43, .func (PySem.W.fnOf "list_bids" "list_bids" (defArgs s_list_bids) (defBody s_list_bids) (defScope s_list_bids) .none kV43 dc43 pm43 an43 cd43 ct43), sl43⟩)
    (c43 : PySem.W.codeIn K cd43 "list_bids" = true)
    (k43 : PySem.W.keepIn K (.ref f43) = true)
    (a44 : PySem.W.nsIn K mainGlobals "check_selection" = some (some (.ref f44)))
    (l44 : K.lookup f44 = some ⟨oc44, od44, .func (PySem.W.fnOf "check_selection" "check_selection" (defArgs s_check_selection) (defBody s_check_selection) (defScope s_check_selection) .none kV44 dc44 pm44 an44 cd44 ct44), sl44⟩)
    (c44 : PySem.W.codeIn K cd44 "check_selection" = true)
    (k44 : PySem.W.keepIn K (.ref f44) = true)
    (a45 : PySem.W.nsIn K mainGlobals "best_selection" = some (some (.ref f45)))
    (l45 : K.lookup f45 = some ⟨oc45, od45, .func (PySem.W.fnOf "best_selection" "best_selection" (defArgs s_best_selection) (defBody s_best_selection) (defScope s_best_selection) .none kV45 dc45 pm45 an45 cd45 ct45), sl45⟩)
    (c45 : PySem.W.codeIn K cd45 "best_selection" = true)
    (k45 : PySem.W.keepIn K (.ref f45) = true)
    (a46 : PySem.W.nsIn K mainGlobals "threshold" = some (some (.ref f46)))
    (l46 : K.lookup f46 = some ⟨oc46, od46, .func (PySem.W.fnOf "threshold" "threshold" (defArgs s_threshold) (defBody s_threshold) (defScope s_threshold) .none kV46 dc46 pm46 an46 cd46 ct46), sl46⟩)
    (c46 : PySem.W.codeIn K cd46 "threshold" = true)
    (k46 : PySem.W.keepIn K (.ref f46) = true)
    (a47 : PySem.W.nsIn K mainGlobals "factor_of" = some (some (.ref f47)))
    (l47 : K.lookup f47 = some ⟨oc47, od47, .func (PySem.W.fnOf "factor_of" "factor_of" (defArgs s_factor_of) (defBody s_factor_of) (defScope s_factor_of) .none kV47 dc47 pm47 an47 cd47 ct47), sl47⟩)
    (c47 : PySem.W.codeIn K cd47 "factor_of" = true)
    (k47 : PySem.W.keepIn K (.ref f47) = true)
    (a48 : PySem.W.nsIn K mainGlobals "award" = some (some (.ref f48)))
    (l48 : K.lookup f48 = some ⟨oc48, od48, .func (PySem.W.fnOf "award" "award" (defArgs s_award) (defBody s_award) (defScope s_award) .none kV48 dc48 pm48 an48 cd48 ct48), sl48⟩)
    (c48 : PySem.W.codeIn K cd48 "award" = true)
    (k48 : PySem.W.keepIn K (.ref f48) = true)
    (a49 : PySem.W.nsIn K mainGlobals "index_of" = some (some (.ref f49)))
    (l49 : K.lookup f49 = some ⟨oc49, od49, .func (PySem.W.fnOf "index_of" "index_of" (defArgs s_index_of) (defBody s_index_of) (defScope s_index_of) .none kV49 dc49 pm49 an49 cd49 ct49), sl49⟩)
    (c49 : PySem.W.codeIn K cd49 "index_of" = true)
    (k49 : PySem.W.keepIn K (.ref f49) = true)
    (a50 : PySem.W.nsIn K mainGlobals "estimate_of" = some (some (.ref f50)))
    (l50 : K.lookup f50 = some ⟨oc50, od50, .func (PySem.W.fnOf "estimate_of" "estimate_of" (defArgs s_estimate_of) (defBody s_estimate_of) (defScope s_estimate_of) .none kV50 dc50 pm50 an50 cd50 ct50), sl50⟩)
    (c50 : PySem.W.codeIn K cd50 "estimate_of" = true)
    (k50 : PySem.W.keepIn K (.ref f50) = true)
    (a51 : PySem.W.nsIn K mainGlobals "deliveries_of" = some (some (.ref f51)))
    (l51 : K.lookup f51 = some ⟨oc51, od51, .func (PySem.W.fnOf "deliveries_of" "deliveries_of" (defArgs s_deliveries_of) (defBody s_deliveries_of) (defScope s_deliveries_of) .none kV51 dc51 pm51 an51 cd51 ct51), sl51⟩)
    (c51 : PySem.W.codeIn K cd51 "deliveries_of" = true)
    (k51 : PySem.W.keepIn K (.ref f51) = true)
    (a52 : PySem.W.nsIn K mainGlobals "delivered_of" = some (some (.ref f52)))
    (l52 : K.lookup f52 = some ⟨oc52, od52, .func (PySem.W.fnOf "delivered_of" "delivered_of" (defArgs s_delivered_of) (defBody s_delivered_of) (defScope s_delivered_of) .none kV52 dc52 pm52 an52 cd52 ct52), sl52⟩)
    (c52 : PySem.W.codeIn K cd52 "delivered_of" = true)
    (k52 : PySem.W.keepIn K (.ref f52) = true)
    (a53 : PySem.W.nsIn K mainGlobals "due_of" = some (some (.ref f53)))
    (l53 : K.lookup f53 = some ⟨oc53, od53, .func (PySem.W.fnOf "due_of" "due_of" (defArgs s_due_of) (defBody s_due_of) (defScope s_due_of) .none kV53 dc53 pm53 an53 cd53 ct53), sl53⟩)
    (c53 : PySem.W.codeIn K cd53 "due_of" = true)
    (k53 : PySem.W.keepIn K (.ref f53) = true)
    (a54 : PySem.W.nsIn K mainGlobals "parts_of" = some (some (.ref f54)))
    (l54 : K.lookup f54 = some ⟨oc54, od54, .func (PySem.W.fnOf "parts_of" "parts_of" (defArgs s_parts_of) (defBody s_parts_of) (defScope s_parts_of) .none kV54 dc54 pm54 an54 (.ref 443) ct54), sl54⟩)
    (c54 : PySem.W.codeIn K (.ref 443) "parts_of" = true)
    (k54 : PySem.W.keepIn K (.ref f54) = true)
    (a55 : PySem.W.nsIn K mainGlobals "has_contract" = some (some (.ref f55)))
    (l55 : K.lookup f55 = some ⟨oc55, od55, .func (PySem.W.fnOf "has_contract" "has_contract" (defArgs s_has_contract) (defBody s_has_contract) (defScope s_has_contract) .none kV55 dc55 pm55 an55 cd55 ct55), sl55⟩)
    (c55 : PySem.W.codeIn K cd55 "has_contract" = true)
    (k55 : PySem.W.keepIn K (.ref f55) = true)
    (a56 : PySem.W.nsIn K mainGlobals "get_contract" = some (some (.ref f56)))
    (l56 : K.lookup f56 = some ⟨oc56, od56, .func (PySem.W.fnOf "get_contract" "get_contract" (defArgs s_get_contract) (defBody s_get_contract) (defScope s_get_contract) .none kV56 dc56 pm56 an56 cd56 ct56), sl56⟩)
    (c56 : PySem.W.codeIn K cd56 "get_contract" = true)
    (k56 : PySem.W.keepIn K (.ref f56) = true)
    (a57 : PySem.W.nsIn K mainGlobals "set_index" = some (some (.ref f57)))
    (l57 : K.lookup f57 = some ⟨oc57, od57, .func (PySem.W.fnOf "set_index" "set_index" (defArgs s_set_index) (defBody s_set_index) (defScope s_set_index) .none kV57 dc57 pm57 an57 cd57 ct57), sl57⟩)
    (c57 : PySem.W.codeIn K cd57 "set_index" = true)
    (k57 : PySem.W.keepIn K (.ref f57) = true)
    (a58 : PySem.W.nsIn K mainGlobals "record_delivery" = some (some (.ref f58)))
    (l58 : K.lookup f58 = some ⟨oc58, od58, .func (PySem.W.fnOf "record_delivery" "record_delivery" (defArgs s_record_delivery) (defBody s_record_delivery) (defScope s_record_delivery) .none kV58 dc58 pm58 an58 cd58 ct58), sl58⟩)
    (c58 : PySem.W.codeIn K cd58 "record_delivery" = true)
    (k58 : PySem.W.keepIn K (.ref f58) = true)
    (a59 : PySem.W.nsIn K mainGlobals "correct_delivery" = some (some (.ref f59)))
    (l59 : K.lookup f59 = some ⟨oc59, od59, .func (PySem.W.fnOf "correct_delivery" "correct_delivery" (defArgs s_correct_delivery) (defBody s_correct_delivery) (defScope s_correct_delivery) .none kV59 dc59 pm59 an59 cd59 ct59), sl59⟩)
    (c59 : PySem.W.codeIn K cd59 "correct_delivery" = true)
    (k59 : PySem.W.keepIn K (.ref f59) = true)
    (a60 : PySem.W.nsIn K mainGlobals "close_contract" = some (some (.ref f60)))
    (l60 : K.lookup f60 = some ⟨oc60, od60, .func (PySem.W.fnOf "close_contract" "close_contract" (defArgs s_close_contract) (defBody s_close_contract) (defScope s_close_contract) .none kV60 dc60 pm60 an60 cd60 ct60), sl60⟩)
    (c60 : PySem.W.codeIn K cd60 "close_contract" = true)
    (k60 : PySem.W.keepIn K (.ref f60) = true)
    (a61 : PySem.W.nsIn K mainGlobals "contract_value" = some (some (.ref f61)))
    (l61 : K.lookup f61 = some ⟨oc61, od61, .func (PySem.W.fnOf "contract_value" "contract_value" (defArgs s_contract_value) (defBody s_contract_value) (defScope s_contract_value) .none kV61 dc61 pm61 an61 cd61 ct61), sl61⟩)
    (c61 : PySem.W.codeIn K cd61 "contract_value" = true)
    (k61 : PySem.W.keepIn K (.ref f61) = true)
    (a62 : PySem.W.nsIn K mainGlobals "bills_of" = some (some (.ref f62)))
    (l62 : K.lookup f62 = some ⟨oc62, od62, .func (PySem.W.fnOf "bills_of" "bills_of" (defArgs s_bills_of) (defBody s_bills_of) (defScope s_bills_of) .none kV62 dc62 pm62 an62 cd62 ct62), sl62⟩)
    (c62 : PySem.W.codeIn K cd62 "bills_of" = true)
    (k62 : PySem.W.keepIn K (.ref f62) = true)
    (a63 : PySem.W.nsIn K mainGlobals "billed_in" = some (some (.ref f63)))
    (l63 : K.lookup f63 = some ⟨oc63, od63, .func (PySem.W.fnOf "billed_in" "billed_in" (defArgs s_billed_in) (defBody s_billed_in) (defScope s_billed_in) .none kV63 dc63 pm63 an63 cd63 ct63), sl63⟩)
    (c63 : PySem.W.codeIn K cd63 "billed_in" = true)
    (k63 : PySem.W.keepIn K (.ref f63) = true)
    (a64 : PySem.W.nsIn K mainGlobals "amounts_to_bill" = some (some (.ref f64)))
    (l64 : K.lookup f64 = some ⟨oc64, od64, .func (PySem.W.fnOf "amounts_to_bill" "amounts_to_bill" (defArgs s_amounts_to_bill) (defBody s_amounts_to_bill) (defScope s_amounts_to_bill) .none kV64 dc64 pm64 an64 cd64 ct64), sl64⟩)
    (c64 : PySem.W.codeIn K cd64 "amounts_to_bill" = true)
    (k64 : PySem.W.keepIn K (.ref f64) = true)
    (a65 : PySem.W.nsIn K mainGlobals "create_bill" = some (some (.ref f65)))
    (l65 : K.lookup f65 = some ⟨oc65, od65, .func (PySem.W.fnOf "create_bill" "create_bill" (defArgs s_create_bill) (defBody s_create_bill) (defScope s_create_bill) .none kV65 dc65 pm65 an65 cd65 ct65), sl65⟩)
    (c65 : PySem.W.codeIn K cd65 "create_bill" = true)
    (k65 : PySem.W.keepIn K (.ref f65) = true)
    (a66 : PySem.W.nsIn K mainGlobals "list_bills" = some (some (.ref f66)))
    (l66 : K.lookup f66 = some ⟨oc66, od66, .func (PySem.W.fnOf "list_bills" "list_bills" (defArgs s_list_bills) (defBody s_list_bills) (defScope s_list_bills) .none kV66 dc66 pm66 an66 cd66 ct66), sl66⟩)
    (c66 : PySem.W.codeIn K cd66 "list_bills" = true)
    (k66 : PySem.W.keepIn K (.ref f66) = true)
    (a67 : PySem.W.nsIn K mainGlobals "record_payment" = some (some (.ref f67)))
    (l67 : K.lookup f67 = some ⟨oc67, od67, .func (PySem.W.fnOf "record_payment" "record_payment" (defArgs s_record_payment) (defBody s_record_payment) (defScope s_record_payment) .none kV67 dc67 pm67 an67 cd67 ct67), sl67⟩)
    (c67 : PySem.W.codeIn K cd67 "record_payment" = true)
    (k67 : PySem.W.keepIn K (.ref f67) = true)
    (a68 : PySem.W.nsIn K mainGlobals "balance" = some (some (.ref f68)))
    (l68 : K.lookup f68 = some ⟨oc68, od68, .func (PySem.W.fnOf "balance" "balance" (defArgs s_balance) (defBody s_balance) (defScope s_balance) .none kV68 dc68 pm68 an68 cd68 ct68), sl68⟩)
    (c68 : PySem.W.codeIn K cd68 "balance" = true)
    (k68 : PySem.W.keepIn K (.ref f68) = true)
    (a69 : PySem.W.nsIn K mainGlobals "shortfall" = some (some (.ref f69)))
    (l69 : K.lookup f69 = some ⟨oc69, od69, .func (PySem.W.fnOf "shortfall" "shortfall" (defArgs s_shortfall) (defBody s_shortfall) (defScope s_shortfall) .none kV69 dc69 pm69 an69 cd69 ct69), sl69⟩)
    (c69 : PySem.W.codeIn K cd69 "shortfall" = true)
    (k69 : PySem.W.keepIn K (.ref f69) = true)
    (a70 : PySem.W.nsIn K mainGlobals "answer_of_sales" = some (some (.ref f70)))
    (l70 : K.lookup f70 = some ⟨oc70, od70, .func (PySem.W.fnOf "answer_of_sales" "answer_of_sales" (defArgs s_answer_of_sales) (defBody s_answer_of_sales) (defScope s_answer_of_sales) .none kV70 dc70 pm70 an70 cd70 ct70), sl70⟩)
    (c70 : PySem.W.codeIn K cd70 "answer_of_sales" = true)
    (k70 : PySem.W.keepIn K (.ref f70) = true)
    (a71 : PySem.W.nsIn K mainGlobals "answer_of_contracts" = some (some (.ref f71)))
    (l71 : K.lookup f71 = some ⟨oc71, od71, .func (PySem.W.fnOf "answer_of_contracts" "answer_of_contracts" (defArgs s_answer_of_contracts) (defBody s_answer_of_contracts) (defScope s_answer_of_contracts) .none kV71 dc71 pm71 an71 cd71 ct71), sl71⟩)
    (c71 : PySem.W.codeIn K cd71 "answer_of_contracts" = true)
    (k71 : PySem.W.keepIn K (.ref f71) = true)
    (a72 : PySem.W.nsIn K mainGlobals "answer_next" = some (some (.ref f72)))
    (l72 : K.lookup f72 = some ⟨oc72, od72, .func (PySem.W.fnOf "answer_next" "answer_next" (defArgs s_answer_next) (defBody s_answer_next) (defScope s_answer_next) .none kV72 dc72 pm72 an72 cd72 ct72), sl72⟩)
    (c72 : PySem.W.codeIn K cd72 "answer_next" = true)
    (k72 : PySem.W.keepIn K (.ref f72) = true)
    (a73 : PySem.W.nsIn K mainGlobals "answers" = some (some (.ref f73)))
    (l73 : K.lookup f73 = some ⟨oc73, od73, .func (PySem.W.fnOf "answers" "answers" (defArgs s_answers) (defBody s_answers) (defScope s_answers) .none kV73 dc73 pm73 an73 cd73 ct73), sl73⟩)
    (c73 : PySem.W.codeIn K cd73 "answers" = true)
    (k73 : PySem.W.keepIn K (.ref f73) = true)
    : ∃ fd : FuncData, (∀ (s : Shared) (us : List Value), us.length = (["calls"] : List Str).length → BindsTo s fd ⟨us, []⟩ ((["calls"] : List Str).zip us)) ∧ ∀ base : Heap, K.In base → base.Ns mainGlobals mg → LamX.TabB base mg 443 441 → FnOk P w K mg base CX0 17 fa fd ["calls"] (spAnswers 441 K) := by
  have e := hfa.symm.trans (PySem.W.mg_of X G a73)
  cases e
  have T : Txt K mg ⟨CLot, CBid, CSale, CContract, CDelivery, CBill, CState, CSelection, CReader, 441, 443⟩ := ⟨⟨_, PySem.W.mg_of X G z1⟩,
    ⟨_, PySem.W.mg_of X G z2⟩,
    ⟨_, PySem.W.mg_of X G z3⟩,
    ⟨_, PySem.W.mg_of X G z4⟩,
    ⟨_, PySem.W.mg_of X G z5⟩,
    ⟨_, PySem.W.mg_of X G z6⟩,
    ⟨_, PySem.W.mg_of X G z7⟩,
    ⟨_, PySem.W.mg_of X G z8⟩,
    ⟨_, PySem.W.mg_of X G z9⟩,
    ⟨_, PySem.W.mg_of X G z10⟩,
    ⟨_, PySem.W.mg_of X G z11⟩,
    ⟨_, PySem.W.mg_of X G z12⟩,
    ⟨_, PySem.W.mg_of X G z13⟩,
    ⟨_, PySem.W.mg_of X G z14⟩,
    ⟨_, PySem.W.mg_of X G z15⟩,
    ⟨_, PySem.W.mg_of X G z16⟩,
    ⟨_, PySem.W.mg_of X G z17⟩,
    ⟨_, PySem.W.mg_of X G z18⟩,
    ⟨_, PySem.W.mg_of X G z19⟩,
    ⟨_, PySem.W.mg_of X G z20⟩,
    ⟨_, PySem.W.mg_of X G z21⟩,
    ⟨_, PySem.W.mg_of X G z22, (tup_mk Lc22 (by show 4 ≤ sizeLine; decide) (.cons ⟨_, rfl⟩ (.cons ⟨_, rfl⟩ (.cons ⟨_, rfl⟩ (.cons ⟨_, rfl⟩ .nil)))))⟩,
    ⟨_, PySem.W.mg_of X G z23⟩,
    ⟨_, PySem.W.mg_of X G z24⟩,
    ⟨_, PySem.W.mg_of X G z25⟩,
    ⟨_, PySem.W.mg_of X G z26⟩,
    ⟨_, PySem.W.mg_of X G z27⟩,
    ⟨_, PySem.W.mg_of X G z28⟩,
    ⟨_, PySem.W.mg_of X G z29⟩,
    ⟨_, PySem.W.mg_of X G z30⟩,
    ⟨_, PySem.W.mg_of X G z31⟩,
    ⟨_, PySem.W.mg_of X G z32, tup2_mk (as := [Ac32_0, Ac32_1, Ac32_2, Ac32_3, Ac32_4, Ac32_5, Ac32_6, Ac32_7, Ac32_8, Ac32_9, Ac32_10, Ac32_11, Ac32_12, Ac32_13, Ac32_14, Ac32_15, Ac32_16, Ac32_17, Ac32_18, Ac32_19, Ac32_20, Ac32_21]) Lc32 (by show 22 ≤ sizeLine; decide) (.cons rfl (.cons rfl (.cons rfl (.cons rfl (.cons rfl (.cons rfl (.cons rfl (.cons rfl (.cons rfl (.cons rfl (.cons rfl (.cons rfl (.cons rfl (.cons rfl (.cons rfl (.cons rfl (.cons rfl (.cons rfl (.cons rfl (.cons rfl (.cons rfl (.cons rfl .nil)))))))))))))))))))))) ⟨(tup_mk Lc32_0 (by show 2 ≤ sizeLine; decide) (.cons ⟨_, rfl⟩ (.cons ⟨_, rfl⟩ .nil))), ⟨(tup_mk Lc32_1 (by show 2 ≤ sizeLine; decide) (.cons ⟨_, rfl⟩ (.cons ⟨_, rfl⟩ .nil))), ⟨(tup_mk Lc32_2 (by show 2 ≤ sizeLine; decide) (.cons ⟨_, rfl⟩ (.cons ⟨_, rfl⟩ .nil))), ⟨(tup_mk Lc32_3 (by show 2 ≤ sizeLine; decide) (.cons ⟨_, rfl⟩ (.cons ⟨_, rfl⟩ .nil))), ⟨(tup_mk Lc32_4 (by show 2 ≤ sizeLine; decide) (.cons ⟨_, rfl⟩ (.cons ⟨_, rfl⟩ .nil))), ⟨(tup_mk Lc32_5 (by show 2 ≤ sizeLine; decide) (.cons ⟨_, rfl⟩ (.cons ⟨_, rfl⟩ .nil))), ⟨(tup_mk Lc32_6 (by show 2 ≤ sizeLine; decide) (.cons ⟨_, rfl⟩ (.cons ⟨_, rfl⟩ .nil))), ⟨(tup_mk Lc32_7 (by show 2 ≤ sizeLine; decide) (.cons ⟨_, rfl⟩ (.cons ⟨_, rfl⟩ .nil))), ⟨(tup_mk Lc32_8 (by show 2 ≤ sizeLine; decide) (.cons ⟨_, rfl⟩ (.cons ⟨_, rfl⟩ .nil))), ⟨(tup_mk Lc32_9 (by show 2 ≤ sizeLine; decide) (.cons ⟨_, rfl⟩ (.cons ⟨_, rfl⟩ .nil))), ⟨(tup_mk Lc32_10 (by show 2 ≤ sizeLine; decide) (.cons ⟨_, rfl⟩ (.cons ⟨_, rfl⟩ .nil))), ⟨(tup_mk Lc32_11 (by show 2 ≤ sizeLine; decide) (.cons ⟨_, rfl⟩ (.cons ⟨_, rfl⟩ .nil))), ⟨(tup_mk Lc32_12 (by show 2 ≤ sizeLine; decide) (.cons ⟨_, rfl⟩ (.cons ⟨_, rfl⟩ .nil))), ⟨(tup_mk Lc32_13 (by show 2 ≤ sizeLine; decide) (.cons ⟨_, rfl⟩ (.cons ⟨_, rfl⟩ .nil))), ⟨(tup_mk Lc32_14 (by show 2 ≤ sizeLine; decide) (.cons ⟨_, rfl⟩ (.cons ⟨_, rfl⟩ .nil))), ⟨(tup_mk Lc32_15 (by show 2 ≤ sizeLine; decide) (.cons ⟨_, rfl⟩ (.cons ⟨_, rfl⟩ .nil))), ⟨(tup_mk Lc32_16 (by show 2 ≤ sizeLine; decide) (.cons ⟨_, rfl⟩ (.cons ⟨_, rfl⟩ .nil))), ⟨(tup_mk Lc32_17 (by show 2 ≤ sizeLine; decide) (.cons ⟨_, rfl⟩ (.cons ⟨_, rfl⟩ .nil))), ⟨(tup_mk Lc32_18 (by show 2 ≤ sizeLine; decide) (.cons ⟨_, rfl⟩ (.cons ⟨_, rfl⟩ .nil))), ⟨(tup_mk Lc32_19 (by show 2 ≤ sizeLine; decide) (.cons ⟨_, rfl⟩ (.cons ⟨_, rfl⟩ .nil))), ⟨(tup_mk Lc32_20 (by show 2 ≤ sizeLine; decide) (.cons ⟨_, rfl⟩ (.cons ⟨_, rfl⟩ .nil))), ⟨(tup_mk Lc32_21 (by show 2 ≤ sizeLine; decide) (.cons ⟨_, rfl⟩ (.cons ⟨_, rfl⟩ .nil))), trivial⟩⟩⟩⟩⟩⟩⟩⟩⟩⟩⟩⟩⟩⟩⟩⟩⟩⟩⟩⟩⟩⟩⟩,
    ⟨_, PySem.W.mg_of X G z33⟩,
    PySem.W.mg_none_of X G b_all,
    PySem.W.mg_none_of X G b_enumerate,
    PySem.W.mg_none_of X G b_len,
    PySem.W.mg_none_of X G b_list,
    PySem.W.mg_none_of X G b_max,
    PySem.W.mg_none_of X G b_min,
    PySem.W.mg_none_of X G b_range,
    PySem.W.mg_none_of X G b_set,
    PySem.W.mg_none_of X G b_sorted,
    PySem.W.mg_none_of X G b_sum,
    PySem.W.mg_none_of X G b_zip,
    ⟨pgLot, hdLot, poLot, saLot⟩,
    nLot_reserve,
    nLot_volumes,
    ⟨_, _, ⟨mkLot, a1, i1, kcLot⟩, fun_mk (st := s_Lot___init__) l1 c1 k1, PySem.W.mg_of X G gLot⟩,
    ⟨pgBid, hdBid, poBid, saBid⟩,
    nBid_lots,
    nBid_prices,
    nBid_bidders,
    nBid_volumes,
    nBid_reserve,
    nBid_value,
    nBid_withdrawn,
    ⟨_, _, ⟨mkBid, a2, i2, kcBid⟩, fun_mk (st := s_Bid___init__) l2 c2 k2, PySem.W.mg_of X G gBid⟩,
    ⟨pgSale, hdSale, poSale, saSale⟩,
    nSale_closing_day,
    nSale_rule,
    nSale_advance,
    nSale_lots,
    nSale_bids,
    nSale_limits,
    ⟨_, _, ⟨mkSale, a3, i3, kcSale⟩, fun_mk (st := s_Sale___init__) l3 c3 k3, PySem.W.mg_of X G gSale⟩,
    ⟨pgContract, hdContract, poContract, saContract⟩,
    nContract_value,
    nContract_volumes,
    nContract_prices,
    nContract_bidders,
    nContract_day,
    nContract_advance,
    nContract_factor,
    nContract_closed,
    ⟨_, _, ⟨mkContract, a4, i4, kcContract⟩, fun_mk (st := s_Contract___init__) l4 c4 k4, PySem.W.mg_of X G gContract⟩,
    ⟨pgDelivery, hdDelivery, poDelivery, saDelivery⟩,
    nDelivery_contract,
    nDelivery_day,
    nDelivery_grade,
    nDelivery_volume,
    ⟨_, _, ⟨mkDelivery, a5, i5, kcDelivery⟩, fun_mk (st := s_Delivery___init__) l5 c5 k5, PySem.W.mg_of X G gDelivery⟩,
    ⟨pgBill, hdBill, poBill, saBill⟩,
    nBill_contract,
    nBill_day,
    nBill_amounts,
    ⟨_, _, ⟨mkBill, a6, i6, kcBill⟩, fun_mk (st := s_Bill___init__) l6 c6 k6, PySem.W.mg_of X G gBill⟩,
    ⟨pgState, hdState, poState, saState⟩,
    nState_day,
    nState_sale,
    nState_contracts,
    nState_index_values,
    nState_deliveries,
    nState_bills,
    nState_paid,
    ⟨_, _, ⟨mkState, a7, i7, kcState⟩, fun_mk (st := s_State___init__) l7 c7 k7, PySem.W.mg_of X G gState⟩,
    ⟨pgSelection, hdSelection, poSelection, saSelection⟩,
    nSelection_numbers,
    nSelection_value,
    nSelection_taken,
    nSelection_room,
    ⟨_, _, ⟨mkSelection, a8, i8, kcSelection⟩, fun_mk (st := s_Selection___init__) l8 c8 k8, PySem.W.mg_of X G gSelection⟩,
    ⟨pgReader, hdReader, poReader, saReader⟩,
    nReader_source,
    nReader_place,
    ⟨_, _, ⟨mkReader, a9, i9, kcReader⟩, fun_mk (st := s_Reader___init__) l9 c9 k9, PySem.W.mg_of X G gReader⟩,
    ⟨_, _, ⟨a10, i10, k10⟩, fun_mk (st := s_Reader_at_end) l10 c10 k10⟩,
    ⟨_, _, ⟨a11, i11, k11⟩, fun_mk (st := s_Reader_next_numbers) l11 c11 k11⟩,
    ⟨_, _, ⟨a12, i12, k12⟩, fun_mk (st := s_Reader_next_number) l12 c12 k12⟩,
    ⟨_, _, ⟨a13, i13, k13⟩, fun_mk (st := s_Reader_next_row) l13 c13 k13⟩,
    ⟨_, _, fun_mk (st := s_common_divisor) l14 c14 k14, PySem.W.mg_of X G a14⟩,
    ⟨_, _, fun_mk (st := s_lowest_terms) l15 c15 k15, PySem.W.mg_of X G a15⟩,
    ⟨_, _, fun_mk (st := s_nearest) l16 c16 k16, PySem.W.mg_of X G a16⟩,
    ⟨_, _, fun_mk (st := s_is_admissible) l17 c17 k17, PySem.W.mg_of X G a17⟩,
    ⟨_, _, fun_mk (st := s_fits) l18 c18 k18, PySem.W.mg_of X G a18⟩,
    ⟨_, _, fun_mk (st := s_joined) l19 c19 k19, PySem.W.mg_of X G a19⟩,
    ⟨_, _, fun_mk (st := s_all_selections) l20 c20 k20, PySem.W.mg_of X G a20⟩,
    ⟨_, _, fun_mk (st := s_rank) l21 c21 k21, PySem.W.mg_of X G a21⟩,
    ⟨_, _, fun_mk (st := s_best_of) l22 c22 k22, PySem.W.mg_of X G a22⟩,
    ⟨_, _, fun_mk (st := s_threshold_of) l23 c23 k23, PySem.W.mg_of X G a23⟩,
    ⟨_, _, fun_mk (st := s_inadmissible_bid) l24 c24 k24, PySem.W.mg_of X G a24⟩,
    ⟨_, _, fun_mk (st := s_shared_lot) l25 c25 k25, PySem.W.mg_of X G a25⟩,
    ⟨_, _, fun_mk (st := s_takes_part) l26 c26 k26, PySem.W.mg_of X G a26⟩,
    ⟨_, _, fun_mk (st := s_bidder_over_limit) l27 c27 k27, PySem.W.mg_of X G a27⟩,
    ⟨_, _, fun_mk (st := s_status_and_detail) l28 c28 k28, PySem.W.mg_of X G a28⟩,
    ⟨_, _, fun_mk (st := s_is_over) l29 c29 k29, PySem.W.mg_of X G a29⟩,
    ⟨_, _, fun_mk (st := s_has_repeats) l30 c30 k30, PySem.W.mg_of X G a30⟩,
    ⟨_, _, fun_mk (st := s_has_all) l31 c31 k31, PySem.W.mg_of X G a31⟩,
    ⟨_, _, fun_mk (st := s_is_grade_row) l32 c32 k32, PySem.W.mg_of X G a32⟩,
    ⟨_, _, fun_mk (st := s_for_all_grades) l33 c33 k33, PySem.W.mg_of X G a33⟩,
    ⟨_, _, fun_mk (st := s_is_bidder_row) l34 c34 k34, PySem.W.mg_of X G a34⟩,
    ⟨_, _, fun_mk (st := s_grade_volume) l35 c35 k35, PySem.W.mg_of X G a35⟩,
    ⟨_, _, fun_mk (st := s_new_bid) l36 c36 k36, PySem.W.mg_of X G a36⟩,
    ⟨_, _, fun_mk (st := s_set_day) l37 c37 k37, PySem.W.mg_of X G a37⟩,
    ⟨_, _, fun_mk (st := s_open_sale) l38 c38 k38, PySem.W.mg_of X G a38⟩,
    ⟨_, _, fun_mk (st := s_add_lot) l39 c39 k39, PySem.W.mg_of X G a39⟩,
    ⟨_, _, fun_mk (st := s_set_limit) l40 c40 k40, PySem.W.mg_of X G a40⟩,
    ⟨_, _, fun_mk (st := s_place_bid) l41 c41 k41, PySem.W.mg_of X G a41⟩,
    ⟨_, _, fun_mk (st := s_withdraw_bid) l42 c42 k42, PySem.W.mg_of X G a42⟩,
    ⟨_, _, fun_mk (st := s_list_bids) l43 c43 k43, PySem.W.mg_of X G a43⟩,
    ⟨_, _, fun_mk (st := s_check_selection) l44 c44 k44, PySem.W.mg_of X G a44⟩,
    ⟨_, _, fun_mk (st := s_best_selection) l45 c45 k45, PySem.W.mg_of X G a45⟩,
    ⟨_, _, fun_mk (st := s_threshold) l46 c46 k46, PySem.W.mg_of X G a46⟩,
    ⟨_, _, fun_mk (st := s_factor_of) l47 c47 k47, PySem.W.mg_of X G a47⟩,
    ⟨_, _, fun_mk (st := s_award) l48 c48 k48, PySem.W.mg_of X G a48⟩,
    ⟨_, _, fun_mk (st := s_index_of) l49 c49 k49, PySem.W.mg_of X G a49⟩,
    ⟨_, _, fun_mk (st := s_estimate_of) l50 c50 k50, PySem.W.mg_of X G a50⟩,
    ⟨_, _, fun_mk (st := s_deliveries_of) l51 c51 k51, PySem.W.mg_of X G a51⟩,
    ⟨_, _, fun_mk (st := s_delivered_of) l52 c52 k52, PySem.W.mg_of X G a52⟩,
    ⟨_, _, fun_mk (st := s_due_of) l53 c53 k53, PySem.W.mg_of X G a53⟩,
    ⟨_, _, _, _, _, _, _, _, _, l54, c54, k54, PySem.W.mg_of X G a54⟩,
    ⟨_, _, fun_mk (st := s_has_contract) l55 c55 k55, PySem.W.mg_of X G a55⟩,
    ⟨_, _, fun_mk (st := s_get_contract) l56 c56 k56, PySem.W.mg_of X G a56⟩,
    ⟨_, _, fun_mk (st := s_set_index) l57 c57 k57, PySem.W.mg_of X G a57⟩,
    ⟨_, _, fun_mk (st := s_record_delivery) l58 c58 k58, PySem.W.mg_of X G a58⟩,
    ⟨_, _, fun_mk (st := s_correct_delivery) l59 c59 k59, PySem.W.mg_of X G a59⟩,
    ⟨_, _, fun_mk (st := s_close_contract) l60 c60 k60, PySem.W.mg_of X G a60⟩,
    ⟨_, _, fun_mk (st := s_contract_value) l61 c61 k61, PySem.W.mg_of X G a61⟩,
    ⟨_, _, fun_mk (st := s_bills_of) l62 c62 k62, PySem.W.mg_of X G a62⟩,
    ⟨_, _, fun_mk (st := s_billed_in) l63 c63 k63, PySem.W.mg_of X G a63⟩,
    ⟨_, _, fun_mk (st := s_amounts_to_bill) l64 c64 k64, PySem.W.mg_of X G a64⟩,
    ⟨_, _, fun_mk (st := s_create_bill) l65 c65 k65, PySem.W.mg_of X G a65⟩,
    ⟨_, _, fun_mk (st := s_list_bills) l66 c66 k66, PySem.W.mg_of X G a66⟩,
    ⟨_, _, fun_mk (st := s_record_payment) l67 c67 k67, PySem.W.mg_of X G a67⟩,
    ⟨_, _, fun_mk (st := s_balance) l68 c68 k68, PySem.W.mg_of X G a68⟩,
    ⟨_, _, fun_mk (st := s_shortfall) l69 c69 k69, PySem.W.mg_of X G a69⟩,
    ⟨_, _, fun_mk (st := s_answer_of_sales) l70 c70 k70, PySem.W.mg_of X G a70⟩,
    ⟨_, _, fun_mk (st := s_answer_of_contracts) l71 c71 k71, PySem.W.mg_of X G a71⟩,
    ⟨_, _, fun_mk (st := s_answer_next) l72 c72 k72, PySem.W.mg_of X G a72⟩,
    ⟨_, _, fun_mk (st := s_answers) l73 c73 k73, PySem.W.mg_of X G a73⟩⟩
  exact ⟨_, fun s us hu => match us, hu with | [_], _ => .of_eq rfl, fun base _ _ BT => ok_answers (fun_mk (st := s_answers) l73 c73 k73) T BT⟩
theorem ints_inj : ∀ {a b : List Int}, a.map PySem.W.WData.int = b.map PySem.W.WData.int → a = b
  | [], [], _ => rfl
  | [], _ :: _, h => by cases h
  | _ :: _, [], h => by cases h
  | x :: a, y :: b, h => by
    rw [PySem.W.WData.int.inj (List.cons.inj h).1, ints_inj (List.cons.inj h).2]
end TB
open PySem PySem.W PyProof.Rows
set_option maxRecDepth 100000 in
set_option maxHeartbeats 8000000 in
theorem PySem.Challenge.cw_timberbids_s01_answers_holds : PySem.Challenge.rw_timberbids_s01_answers.Holds := by
  w_on; k_headS; (case hw => exact ⟨[.list [.int 8]], by decide +kernel, by decide +kernel⟩)
  k_fillS
  refine TB.walk_specT (r := PySem.Challenge.rw_timberbids_s01_answers) (k := 17) (p := "calls") (sp := TB.spAnswers 441) (c := 443) (T := 441) (by decide +kernel) rfl ⟨rfl, by decide, by decide⟩ ?qE (fun w h Y => PySem.W.kIn_of Y) ?qB ?qN ?qF ?qS
  case qE =>
    intro a
    exact ⟨a.1, rfl⟩
  case qB =>
    intro w h loose' mean mg mb T X
    exact PySem.W.tab_of (x := "parts_of") T X rfl (by kernel_rfl)
  case qN =>
    intro w
    kernel_rfl
  case qF =>
    intro w mg fa h Y KX G hmg
    refine' TB.all_mk KX G hmg ?z1 ?z2 ?z3 ?z4 ?z5 ?z6 ?z7 ?z8 ?z9 ?z10 ?z11 ?z12 ?z13 ?z14 ?z15 ?z16 ?z17 ?z18 ?z19 ?z20 ?z21 ?z22 ?Lc22 ?z23 ?z24 ?z25 ?z26 ?z27 ?z28 ?z29 ?z30 ?z31 ?z32 ?Lc32 ?Lc32_0 ?Lc32_1 ?Lc32_2 ?Lc32_3 ?Lc32_4 ?Lc32_5 ?Lc32_6 ?Lc32_7 ?Lc32_8 ?Lc32_9 ?Lc32_10 ?Lc32_11 ?Lc32_12 ?Lc32_13 ?Lc32_14 ?Lc32_15 ?Lc32_16 ?Lc32_17 ?Lc32_18 ?Lc32_19 ?Lc32_20 ?Lc32_21 ?z33 ?b_all ?b_enumerate ?b_len ?b_list ?b_max ?b_min ?b_range ?b_set ?b_sorted ?b_sum ?b_zip ?gLot ?pgLot ?hdLot ?poLot ?saLot ?mkLot ?kcLot ?nLot_reserve ?nLot_volumes ?a1 ?i1 ?l1 ?c1 ?k1 ?gBid ?pgBid ?hdBid ?poBid ?saBid ?mkBid ?kcBid ?nBid_lots ?nBid_prices ?nBid_bidders ?nBid_volumes ?nBid_reserve ?nBid_value ?nBid_withdrawn ?a2 ?i2 ?l2 ?c2 ?k2 ?gSale ?pgSale ?hdSale ?poSale ?saSale ?mkSale ?kcSale ?nSale_closing_day ?nSale_rule ?nSale_advance ?nSale_lots ?nSale_bids ?nSale_limits ?a3 ?i3 ?l3 ?c3 ?k3 ?gContract ?pgContract ?hdContract ?poContract ?saContract ?mkContract ?kcContract ?nContract_value ?nContract_volumes ?nContract_prices ?nContract_bidders ?nContract_day ?nContract_advance ?nContract_factor ?nContract_closed ?a4 ?i4 ?l4 ?c4 ?k4 ?gDelivery ?pgDelivery ?hdDelivery ?poDelivery ?saDelivery ?mkDelivery ?kcDelivery ?nDelivery_contract ?nDelivery_day ?nDelivery_grade ?nDelivery_volume ?a5 ?i5 ?l5 ?c5 ?k5 ?gBill ?pgBill ?hdBill ?poBill ?saBill ?mkBill ?kcBill ?nBill_contract ?nBill_day ?nBill_amounts ?a6 ?i6 ?l6 ?c6 ?k6 ?gState ?pgState ?hdState ?poState ?saState ?mkState ?kcState ?nState_day ?nState_sale ?nState_contracts ?nState_index_values ?nState_deliveries ?nState_bills ?nState_paid ?a7 ?i7 ?l7 ?c7 ?k7 ?gSelection ?pgSelection ?hdSelection ?poSelection ?saSelection ?mkSelection ?kcSelection ?nSelection_numbers ?nSelection_value ?nSelection_taken ?nSelection_room ?a8 ?i8 ?l8 ?c8 ?k8 ?gReader ?pgReader ?hdReader ?poReader ?saReader ?mkReader ?kcReader ?nReader_source ?nReader_place ?a9 ?i9 ?l9 ?c9 ?k9 ?a10 ?i10 ?l10 ?c10 ?k10 ?a11 ?i11 ?l11 ?c11 ?k11 ?a12 ?i12 ?l12 ?c12 ?k12 ?a13 ?i13 ?l13 ?c13 ?k13 ?a14 ?l14 ?c14 ?k14 ?a15 ?l15 ?c15 ?k15 ?a16 ?l16 ?c16 ?k16 ?a17 ?l17 ?c17 ?k17 ?a18 ?l18 ?c18 ?k18 ?a19 ?l19 ?c19 ?k19 ?a20 ?l20 ?c20 ?k20 ?a21 ?l21 ?c21 ?k21 ?a22 ?l22 ?c22 ?k22 ?a23 ?l23 ?c23 ?k23 ?a24 ?l24 ?c24 ?k24 ?a25 ?l25 ?c25 ?k25 ?a26 ?l26 ?c26 ?k26 ?a27 ?l27 ?c27 ?k27 ?a28 ?l28 ?c28 ?k28 ?a29 ?l29 ?c29 ?k29 ?a30 ?l30 ?c30 ?k30 ?a31 ?l31 ?c31 ?k31 ?a32 ?l32 ?c32 ?k32 ?a33 ?l33 ?c33 ?k33 ?a34 ?l34 ?c34 ?k34 ?a35 ?l35 ?c35 ?k35 ?a36 ?l36 ?c36 ?k36 ?a37 ?l37 ?c37 ?k37 ?a38 ?l38 ?c38 ?k38 ?a39 ?l39 ?c39 ?k39 ?a40 ?l40 ?c40 ?k40 ?a41 ?l41 ?c41 ?k41 ?a42 ?l42 ?c42 ?k42 ?a43 ?l43 ?c43 ?k43 ?a44 ?l44 ?c44 ?k44 ?a45 ?l45 ?c45 ?k45 ?a46 ?l46 ?c46 ?k46 ?a47 ?l47 ?c47 ?k47 ?a48 ?l48 ?c48 ?k48 ?a49 ?l49 ?c49 ?k49 ?a50 ?l50 ?c50 ?k50 ?a51 ?l51 ?c51 ?k51 ?a52 ?l52 ?c52 ?k52 ?a53 ?l53 ?c53 ?k53 ?a54 ?l54 ?c54 ?k54 ?a55 ?l55 ?c55 ?k55 ?a56 ?l56 ?c56 ?k56 ?a57 ?l57 ?c57 ?k57 ?a58 ?l58 ?c58 ?k58 ?a59 ?l59 ?c59 ?k59 ?a60 ?l60 ?c60 ?k60 ?a61 ?l61 ?c61 ?k61 ?a62 ?l62 ?c62 ?k62 ?a63 ?l63 ?c63 ?k63 ?a64 ?l64 ?c64 ?k64 ?a65 ?l65 ?c65 ?k65 ?a66 ?l66 ?c66 ?k66 ?a67 ?l67 ?c67 ?k67 ?a68 ?l68 ?c68 ?k68 ?a69 ?l69 ?c69 ?k69 ?a70 ?l70 ?c70 ?k70 ?a71 ?l71 ?c71 ?k71 ?a72 ?l72 ?c72 ?k72 ?a73 ?l73 ?c73 ?k73
    (case z1 => k_is)
    (case z2 => k_is)
    (case z3 => k_is)
    (case z4 => k_is)
    (case z5 => k_is)
    (case z6 => k_is)
    (case z7 => k_is)
    (case z8 => k_is)
    (case z9 => k_is)
    (case z10 => k_is)
    (case z11 => k_is)
    (case z12 => k_is)
    (case z13 => k_is)
    (case z14 => k_is)
    (case z15 => k_is)
    (case z16 => k_is)
    (case z17 => k_is)
    (case z18 => k_is)
    (case z19 => k_is)
    (case z20 => k_is)
    (case z21 => k_is)
    (case z22 => k_is)
    (case Lc22 => k_is)
    (case z23 => k_is)
    (case z24 => k_is)
    (case z25 => k_is)
    (case z26 => k_is)
    (case z27 => k_is)
    (case z28 => k_is)
    (case z29 => k_is)
    (case z30 => k_is)
    (case z31 => k_is)
    (case z32 => k_is)
    (case Lc32 => k_is)
    (case Lc32_0 => k_is)
    (case Lc32_1 => k_is)
    (case Lc32_2 => k_is)
    (case Lc32_3 => k_is)
    (case Lc32_4 => k_is)
    (case Lc32_5 => k_is)
    (case Lc32_6 => k_is)
    (case Lc32_7 => k_is)
    (case Lc32_8 => k_is)
    (case Lc32_9 => k_is)
    (case Lc32_10 => k_is)
    (case Lc32_11 => k_is)
    (case Lc32_12 => k_is)
    (case Lc32_13 => k_is)
    (case Lc32_14 => k_is)
    (case Lc32_15 => k_is)
    (case Lc32_16 => k_is)
    (case Lc32_17 => k_is)
    (case Lc32_18 => k_is)
    (case Lc32_19 => k_is)
    (case Lc32_20 => k_is)
    (case Lc32_21 => k_is)
    (case z33 => k_is)
    (case b_all => k_is)
    (case b_enumerate => k_is)
    (case b_len => k_is)
    (case b_list => k_is)
    (case b_max => k_is)
    (case b_min => k_is)
    (case b_range => k_is)
    (case b_set => k_is)
    (case b_sorted => k_is)
    (case b_sum => k_is)
    (case b_zip => k_is)
    (case gLot => k_is)
    (case pgLot => k_is)
    (case hdLot => k_is)
    (case poLot => k_is)
    (case saLot => k_is)
    (case mkLot => k_is)
    (case kcLot => k_is)
    (case nLot_reserve => k_is)
    (case nLot_volumes => k_is)
    (case a1 => k_is)
    (case i1 => k_is)
    (case l1 => k_is)
    (case c1 => k_is)
    (case k1 => k_is)
    (case gBid => k_is)
    (case pgBid => k_is)
    (case hdBid => k_is)
    (case poBid => k_is)
    (case saBid => k_is)
    (case mkBid => k_is)
    (case kcBid => k_is)
    (case nBid_lots => k_is)
    (case nBid_prices => k_is)
    (case nBid_bidders => k_is)
    (case nBid_volumes => k_is)
    (case nBid_reserve => k_is)
    (case nBid_value => k_is)
    (case nBid_withdrawn => k_is)
    (case a2 => k_is)
    (case i2 => k_is)
    (case l2 => k_is)
    (case c2 => k_is)
    (case k2 => k_is)
    (case gSale => k_is)
    (case pgSale => k_is)
    (case hdSale => k_is)
    (case poSale => k_is)
    (case saSale => k_is)
    (case mkSale => k_is)
    (case kcSale => k_is)
    (case nSale_closing_day => k_is)
    (case nSale_rule => k_is)
    (case nSale_advance => k_is)
    (case nSale_lots => k_is)
    (case nSale_bids => k_is)
    (case nSale_limits => k_is)
    (case a3 => k_is)
    (case i3 => k_is)
    (case l3 => k_is)
    (case c3 => k_is)
    (case k3 => k_is)
    (case gContract => k_is)
    (case pgContract => k_is)
    (case hdContract => k_is)
    (case poContract => k_is)
    (case saContract => k_is)
    (case mkContract => k_is)
    (case kcContract => k_is)
    (case nContract_value => k_is)
    (case nContract_volumes => k_is)
    (case nContract_prices => k_is)
    (case nContract_bidders => k_is)
    (case nContract_day => k_is)
    (case nContract_advance => k_is)
    (case nContract_factor => k_is)
    (case nContract_closed => k_is)
    (case a4 => k_is)
    (case i4 => k_is)
    (case l4 => k_is)
    (case c4 => k_is)
    (case k4 => k_is)
    (case gDelivery => k_is)
    (case pgDelivery => k_is)
    (case hdDelivery => k_is)
    (case poDelivery => k_is)
    (case saDelivery => k_is)
    (case mkDelivery => k_is)
    (case kcDelivery => k_is)
    (case nDelivery_contract => k_is)
    (case nDelivery_day => k_is)
    (case nDelivery_grade => k_is)
    (case nDelivery_volume => k_is)
    (case a5 => k_is)
    (case i5 => k_is)
    (case l5 => k_is)
    (case c5 => k_is)
    (case k5 => k_is)
    (case gBill => k_is)
    (case pgBill => k_is)
    (case hdBill => k_is)
    (case poBill => k_is)
    (case saBill => k_is)
    (case mkBill => k_is)
    (case kcBill => k_is)
    (case nBill_contract => k_is)
    (case nBill_day => k_is)
    (case nBill_amounts => k_is)
    (case a6 => k_is)
    (case i6 => k_is)
    (case l6 => k_is)
    (case c6 => k_is)
    (case k6 => k_is)
    (case gState => k_is)
    (case pgState => k_is)
    (case hdState => k_is)
    (case poState => k_is)
    (case saState => k_is)
    (case mkState => k_is)
    (case kcState => k_is)
    (case nState_day => k_is)
    (case nState_sale => k_is)
    (case nState_contracts => k_is)
    (case nState_index_values => k_is)
    (case nState_deliveries => k_is)
    (case nState_bills => k_is)
    (case nState_paid => k_is)
    (case a7 => k_is)
    (case i7 => k_is)
    (case l7 => k_is)
    (case c7 => k_is)
    (case k7 => k_is)
    (case gSelection => k_is)
    (case pgSelection => k_is)
    (case hdSelection => k_is)
    (case poSelection => k_is)
    (case saSelection => k_is)
    (case mkSelection => k_is)
    (case kcSelection => k_is)
    (case nSelection_numbers => k_is)
    (case nSelection_value => k_is)
    (case nSelection_taken => k_is)
    (case nSelection_room => k_is)
    (case a8 => k_is)
    (case i8 => k_is)
    (case l8 => k_is)
    (case c8 => k_is)
    (case k8 => k_is)
    (case gReader => k_is)
    (case pgReader => k_is)
    (case hdReader => k_is)
    (case poReader => k_is)
    (case saReader => k_is)
    (case mkReader => k_is)
    (case kcReader => k_is)
    (case nReader_source => k_is)
    (case nReader_place => k_is)
    (case a9 => k_is)
    (case i9 => k_is)
    (case l9 => k_is)
    (case c9 => k_is)
    (case k9 => k_is)
    (case a10 => k_is)
    (case i10 => k_is)
    (case l10 => k_is)
    (case c10 => k_is)
    (case k10 => k_is)
    (case a11 => k_is)
    (case i11 => k_is)
    (case l11 => k_is)
    (case c11 => k_is)
    (case k11 => k_is)
    (case a12 => k_is)
    (case i12 => k_is)
    (case l12 => k_is)
    (case c12 => k_is)
    (case k12 => k_is)
    (case a13 => k_is)
    (case i13 => k_is)
    (case l13 => k_is)
    (case c13 => k_is)
    (case k13 => k_is)
    (case a14 => k_is)
    (case l14 => k_is)
    (case c14 => k_is)
    (case k14 => k_is)
    (case a15 => k_is)
    (case l15 => k_is)
    (case c15 => k_is)
    (case k15 => k_is)
    (case a16 => k_is)
    (case l16 => k_is)
    (case c16 => k_is)
    (case k16 => k_is)
    (case a17 => k_is)
    (case l17 => k_is)
    (case c17 => k_is)
    (case k17 => k_is)
    (case a18 => k_is)
    (case l18 => k_is)
    (case c18 => k_is)
    (case k18 => k_is)
    (case a19 => k_is)
    (case l19 => k_is)
    (case c19 => k_is)
    (case k19 => k_is)
    (case a20 => k_is)
    (case l20 => k_is)
    (case c20 => k_is)
    (case k20 => k_is)
    (case a21 => k_is)
    (case l21 => k_is)
    (case c21 => k_is)
    (case k21 => k_is)
    (case a22 => k_is)
    (case l22 => k_is)
    (case c22 => k_is)
    (case k22 => k_is)
    (case a23 => k_is)
    (case l23 => k_is)
    (case c23 => k_is)
    (case k23 => k_is)
    (case a24 => k_is)
    (case l24 => k_is)
    (case c24 => k_is)
    (case k24 => k_is)
    (case a25 => k_is)
    (case l25 => k_is)
    (case c25 => k_is)
    (case k25 => k_is)
    (case a26 => k_is)
    (case l26 => k_is)
    (case c26 => k_is)
    (case k26 => k_is)
    (case a27 => k_is)
    (case l27 => k_is)
    (case c27 => k_is)
    (case k27 => k_is)
    (case a28 => k_is)
    (case l28 => k_is)
    (case c28 => k_is)
    (case k28 => k_is)
    (case a29 => k_is)
    (case l29 => k_is)
    (case c29 => k_is)
    (case k29 => k_is)
    (case a30 => k_is)
    (case l30 => k_is)
    (case c30 => k_is)
    (case k30 => k_is)
    (case a31 => k_is)
    (case l31 => k_is)
    (case c31 => k_is)
    (case k31 => k_is)
    (case a32 => k_is)
    (case l32 => k_is)
    (case c32 => k_is)
    (case k32 => k_is)
    (case a33 => k_is)
    (case l33 => k_is)
    (case c33 => k_is)
    (case k33 => k_is)
    (case a34 => k_is)
    (case l34 => k_is)
    (case c34 => k_is)
    (case k34 => k_is)
    (case a35 => k_is)
    (case l35 => k_is)
    (case c35 => k_is)
    (case k35 => k_is)
    (case a36 => k_is)
    (case l36 => k_is)
    (case c36 => k_is)
    (case k36 => k_is)
    (case a37 => k_is)
    (case l37 => k_is)
    (case c37 => k_is)
    (case k37 => k_is)
    (case a38 => k_is)
    (case l38 => k_is)
    (case c38 => k_is)
    (case k38 => k_is)
    (case a39 => k_is)
    (case l39 => k_is)
    (case c39 => k_is)
    (case k39 => k_is)
    (case a40 => k_is)
    (case l40 => k_is)
    (case c40 => k_is)
    (case k40 => k_is)
    (case a41 => k_is)
    (case l41 => k_is)
    (case c41 => k_is)
    (case k41 => k_is)
    (case a42 => k_is)
    (case l42 => k_is)
    (case c42 => k_is)
    (case k42 => k_is)
    (case a43 => k_is)
    (case l43 => k_is)
    (case c43 => k_is)
    (case k43 => k_is)
    (case a44 => k_is)
    (case l44 => k_is)
    (case c44 => k_is)
    (case k44 => k_is)
    (case a45 => k_is)
    (case l45 => k_is)
    (case c45 => k_is)
    (case k45 => k_is)
    (case a46 => k_is)
    (case l46 => k_is)
    (case c46 => k_is)
    (case k46 => k_is)
    (case a47 => k_is)
    (case l47 => k_is)
    (case c47 => k_is)
    (case k47 => k_is)
    (case a48 => k_is)
    (case l48 => k_is)
    (case c48 => k_is)
    (case k48 => k_is)
    (case a49 => k_is)
    (case l49 => k_is)
    (case c49 => k_is)
    (case k49 => k_is)
    (case a50 => k_is)
    (case l50 => k_is)
    (case c50 => k_is)
    (case k50 => k_is)
    (case a51 => k_is)
    (case l51 => k_is)
    (case c51 => k_is)
    (case k51 => k_is)
    (case a52 => k_is)
    (case l52 => k_is)
    (case c52 => k_is)
    (case k52 => k_is)
    (case a53 => k_is)
    (case l53 => k_is)
    (case c53 => k_is)
    (case k53 => k_is)
    (case a54 => k_is)
    (case l54 => k_is)
    (case c54 => k_is)
    (case k54 => k_is)
    (case a55 => k_is)
    (case l55 => k_is)
    (case c55 => k_is)
    (case k55 => k_is)
    (case a56 => k_is)
    (case l56 => k_is)
    (case c56 => k_is)
    (case k56 => k_is)
    (case a57 => k_is)
    (case l57 => k_is)
    (case c57 => k_is)
    (case k57 => k_is)
    (case a58 => k_is)
    (case l58 => k_is)
    (case c58 => k_is)
    (case k58 => k_is)
    (case a59 => k_is)
    (case l59 => k_is)
    (case c59 => k_is)
    (case k59 => k_is)
    (case a60 => k_is)
    (case l60 => k_is)
    (case c60 => k_is)
    (case k60 => k_is)
    (case a61 => k_is)
    (case l61 => k_is)
    (case c61 => k_is)
    (case k61 => k_is)
    (case a62 => k_is)
    (case l62 => k_is)
    (case c62 => k_is)
    (case k62 => k_is)
    (case a63 => k_is)
    (case l63 => k_is)
    (case c63 => k_is)
    (case k63 => k_is)
    (case a64 => k_is)
    (case l64 => k_is)
    (case c64 => k_is)
    (case k64 => k_is)
    (case a65 => k_is)
    (case l65 => k_is)
    (case c65 => k_is)
    (case k65 => k_is)
    (case a66 => k_is)
    (case l66 => k_is)
    (case c66 => k_is)
    (case k66 => k_is)
    (case a67 => k_is)
    (case l67 => k_is)
    (case c67 => k_is)
    (case k67 => k_is)
    (case a68 => k_is)
    (case l68 => k_is)
    (case c68 => k_is)
    (case k68 => k_is)
    (case a69 => k_is)
    (case l69 => k_is)
    (case c69 => k_is)
    (case k69 => k_is)
    (case a70 => k_is)
    (case l70 => k_is)
    (case c70 => k_is)
    (case k70 => k_is)
    (case a71 => k_is)
    (case l71 => k_is)
    (case c71 => k_is)
    (case k71 => k_is)
    (case a72 => k_is)
    (case l72 => k_is)
    (case c72 => k_is)
    (case k72 => k_is)
    (case a73 => k_is)
    (case l73 => k_is)
    (case c73 => k_is)
    (case k73 => k_is)
  case qS =>
    intro K H x ns a hO hwi hask he hs
    have e : a.1 = ns := TB.ints_inj (PySem.W.WData.list.inj (List.cons.inj he).1)
    subst e
    exact ⟨x, a.1, rfl, hO, hs, hask, fun H' p hp => .lst (L2.SqL.of hp) (L2.dw_ints _)⟩
#print axioms PySem.Challenge.cw_timberbids_s01_answers_holds
