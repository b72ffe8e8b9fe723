/-
  Blocks of a list, as plain functions.
-/
import Derived.Test.YtljjmoeplfcblaaMath
namespace Go.Proofs.Ytljjmoeplfcblaa

/-- the greatest block that begins at i and does not go beyond j, from size s on -/
def gr : Nat → Nat → Nat → Nat → Nat
  | 0, s, _, _ => s
  | f + 1, s, i, j => if i % (2 * s) = 0 ∧ 2 * s ≤ j - i then gr f (2 * s) i j else s
def great (i j : Nat) : Nat := gr (j - i) 1 i j

theorem gr_bound (i j : Nat) : ∀ (f s : Nat), 1 ≤ s → s ≤ j - i → 1 ≤ gr f s i j ∧ gr f s i j ≤ j - i
  | 0, _, h1, h2 => ⟨h1, h2⟩
  | f + 1, s, h1, h2 => by
    unfold gr
    split
    · next h => exact gr_bound i j f (2 * s) (by omega) h.2
    · exact ⟨h1, h2⟩
theorem great_bound {i j : Nat} (h : i < j) : 1 ≤ great i j ∧ great i j ≤ j - i := gr_bound i j _ 1 (Nat.le_refl _) (by omega)
theorem gr_stop {i j s : Nat} (h : ¬ (i % (2 * s) = 0 ∧ 2 * s ≤ j - i)) (f : Nat) : gr f s i j = s := by
  cases f with
  | zero => rfl
  | succ f => unfold gr; rw [if_neg h]
theorem gr_go {i j s f : Nat} (h : i % (2 * s) = 0 ∧ 2 * s ≤ j - i) (hf : j - i < s + f) (hs : 1 ≤ s) : ∃ g, f = g + 1 ∧ gr f s i j = gr g (2 * s) i j ∧ j - i < 2 * s + g := by
  cases f with
  | zero => omega
  | succ g => exact ⟨g, rfl, by rw [gr, if_pos h], by omega⟩

/-- the blocks from i to j: where each begins, and how many strings it has -/
def blk : Nat → Nat → Nat → List (Nat × Nat)
  | 0, _, _ => []
  | f + 1, i, j => if i < j then (i, great i j) :: blk f (i + great i j) j else []
def blocks (i j : Nat) : List (Nat × Nat) := blk (j - i) i j
theorem blk_fuel (j : Nat) : ∀ (f g i : Nat), j - i ≤ f → j - i ≤ g → blk f i j = blk g i j
  | 0, 0, _, _, _ => rfl
  | 0, g + 1, i, h, _ => by unfold blk; rw [if_neg (by omega)]
  | f + 1, 0, i, _, h => by unfold blk; rw [if_neg (by omega)]
  | f + 1, g + 1, i, h1, h2 => by
    unfold blk
    split
    · next h =>
      have := great_bound h
      rw [blk_fuel j f g (i + great i j) (by omega) (by omega)]
    · rfl
theorem blocks_nil {i j : Nat} (h : ¬ i < j) : blocks i j = [] := by
  unfold blocks; rw [show j - i = 0 by omega]; rfl
theorem blocks_cons {i j : Nat} (h : i < j) : blocks i j = (i, great i j) :: blocks (i + great i j) j := by
  have := great_bound h
  unfold blocks
  obtain ⟨d, hd⟩ : ∃ d, j - i = d + 1 := ⟨j - i - 1, by omega⟩
  rw [hd, blk, if_pos h, blk_fuel j d (j - (i + great i j)) _ (by omega) (by omega)]
theorem blocks_len (j : Nat) : ∀ (d i : Nat), j - i ≤ d → (blocks i j).length ≤ j - i
  | 0, i, h => by rw [blocks_nil (by omega)]; exact Nat.zero_le _
  | d + 1, i, h => by
    by_cases hij : i < j
    · have := great_bound hij
      rw [blocks_cons hij, List.length_cons]
      have := blocks_len j d (i + great i j) (by omega)
      omega
    · rw [blocks_nil hij]; exact Nat.zero_le _
theorem blocks_len' (i j : Nat) : (blocks i j).length ≤ j - i := blocks_len j _ i (Nat.le_refl _)
theorem blocks_le (j : Nat) : ∀ (d i : Nat), j - i ≤ d → ∀ b ∈ blocks i j, i ≤ b.1 ∧ 1 ≤ b.2 ∧ b.1 + b.2 ≤ j
  | 0, i, h => by rw [blocks_nil (by omega)]; intro b hb; cases hb
  | d + 1, i, h => by
    by_cases hij : i < j
    · have hg := great_bound hij
      rw [blocks_cons hij]
      intro b hb
      rcases List.mem_cons.1 hb with rfl | hb
      · simp only; omega
      · have := blocks_le j d (i + great i j) (by omega) b hb
        omega
    · rw [blocks_nil hij]; intro b hb; cases hb
theorem blocks_mem {i j : Nat} {b : Nat × Nat} (h : b ∈ blocks i j) : i ≤ b.1 ∧ 1 ≤ b.2 ∧ b.1 + b.2 ≤ j := blocks_le j _ i (Nat.le_refl _) b h

def leafD (s : Str) : Str := dg (3 :: s)
def pairD (a b : Str) : Str := dg (4 :: (a ++ b))
/-- the digest of a block of a list -/
def bsum (l : List Str) : Nat → Nat → Nat → Str
  | 0, b, _ => leafD (l.getD b [])
  | f + 1, b, s => if s = 1 then leafD (l.getD b []) else pairD (bsum l f b (s / 2)) (bsum l f (b + s / 2) (s / 2))
theorem bsum_fuel (l : List Str) : ∀ (f g b s : Nat), 1 ≤ s → s ≤ f + 1 → s ≤ g + 1 → bsum l f b s = bsum l g b s
  | 0, 0, _, _, _, _, _ => rfl
  | 0, g + 1, b, s, h0, h1, _ => by rw [bsum, bsum, if_pos (by omega)]
  | f + 1, 0, b, s, h0, _, h2 => by rw [bsum, bsum, if_pos (by omega)]
  | f + 1, g + 1, b, s, h0, h1, h2 => by
    rw [bsum, bsum]
    split
    · rfl
    · rw [bsum_fuel l f g b (s / 2) (by omega) (by omega) (by omega), bsum_fuel l f g (b + s / 2) (s / 2) (by omega) (by omega) (by omega)]
def sumB (l : List Str) (b : Nat × Nat) : Str := bsum l b.2 b.1 b.2
theorem sumB_one (l : List Str) (b : Nat) : sumB l (b, 1) = leafD (l.getD b []) := by simp [sumB, bsum]
theorem sumB_two (l : List Str) (b s : Nat) (h : 2 ≤ s) : sumB l (b, s) = pairD (sumB l (b, s / 2)) (sumB l (b + s / 2, s / 2)) := by
  obtain ⟨f, rfl⟩ : ∃ f, s = f + 1 := ⟨s - 1, by omega⟩
  unfold sumB
  simp only
  rw [bsum, if_neg (by omega), bsum_fuel l f ((f + 1) / 2) _ _ (by omega) (by omega) (by omega), bsum_fuel l f ((f + 1) / 2) (b + (f + 1) / 2) _ (by omega) (by omega) (by omega)]
def sums (l : List Str) (i j : Nat) : List Str := (blocks i j).map (sumB l)
theorem pairD_len (a b : Str) : (pairD a b).length = 8 := dg_len _
theorem leafD_len (a : Str) : (leafD a).length = 8 := dg_len _
theorem bsum_len (l : List Str) : ∀ (f b s : Nat), (bsum l f b s).length = 8
  | 0, _, _ => leafD_len _
  | f + 1, b, s => by rw [bsum]; split; exact leafD_len _; exact pairD_len _ _
theorem sumB_len (l : List Str) (b : Nat × Nat) : (sumB l b).length = 8 := bsum_len _ _ _ _
end Go.Proofs.Ytljjmoeplfcblaa
