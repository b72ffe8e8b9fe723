/-
  Lists of grades and credits, as mathematics; slices that hold integers.
-/
import Derived.Test.YtcilclbolmijfaaRef2
namespace Go.Proofs.Ytcilclbolmijfaa
open Go.RowKit
def bads (zs : List (Int × Int)) : Bool := zs.any fun x => badB x.1 x.2
def ptsT (zs : List (Int × Int)) (k : Nat) : Int := ((zs.take k).map fun x => x.1 * x.2).sum
def wtsT (zs : List (Int × Int)) (k : Nat) : Int := ((zs.take k).map fun x => x.2).sum
theorem take_one {α : Type} (l : List α) (k : Nat) (x : α) (h : l[k]? = some x) : l.take (k + 1) = l.take k ++ [x] := by
  obtain ⟨hk, rfl⟩ := List.getElem?_eq_some_iff.1 h
  rw [List.take_succ_eq_append_getElem hk]
theorem pts_next {zs : List (Int × Int)} {k : Nat} {g c : Int} (h : zs[k]? = some (g, c)) : ptsT zs (k + 1) = ptsT zs k + g * c := by
  unfold ptsT; rw [take_one zs k _ h, List.map_append, List.sum_append]; simp
theorem wts_next {zs : List (Int × Int)} {k : Nat} {g c : Int} (h : zs[k]? = some (g, c)) : wtsT zs (k + 1) = wtsT zs k + c := by
  unfold wtsT; rw [take_one zs k _ h, List.map_append, List.sum_append]; simp
theorem bads_next {zs : List (Int × Int)} {k : Nat} {g c : Int} (h : zs[k]? = some (g, c)) : bads (zs.take (k + 1)) = (bads (zs.take k) || badB g c) := by
  unfold bads; rw [take_one zs k _ h, List.any_append]; simp
theorem bads_full {zs : List (Int × Int)} {k : Nat} (h : bads (zs.take k) = true) : bads zs = true := by
  unfold bads at *
  rw [List.any_eq_true] at *
  obtain ⟨x, hx, hb⟩ := h
  exact ⟨x, List.mem_of_mem_take hx, hb⟩
theorem bad_no {g c : Int} (h : badB g c = false) : -1000 ≤ g ∧ g ≤ 1000 ∧ 1 ≤ c ∧ c ≤ 60 := by
  unfold badB at h
  have h' : gB g = true ∧ wiB c 1 60 = true := by simpa using h
  have h1 := (g_iff g).1 h'.1
  have h2 := h'.2
  unfold wiB at h2
  simp only [decide_eq_true_eq] at h2
  omega
theorem mul_le60 {g c : Int} (h : -1000 ≤ g ∧ g ≤ 1000 ∧ 1 ≤ c ∧ c ≤ 60) : -60000 ≤ g * c ∧ g * c ≤ 60000 := by
  have h1 : (g * c).natAbs ≤ 1000 * 60 := by
    rw [Int.natAbs_mul]; exact Nat.mul_le_mul (by omega) (by omega)
  omega
theorem sums_le (zs : List (Int × Int)) : ∀ k : Nat, k ≤ zs.length → bads (zs.take k) = false → -60000 * (k : Int) ≤ ptsT zs k ∧ ptsT zs k ≤ 60000 * (k : Int) ∧ (k : Int) ≤ wtsT zs k ∧ wtsT zs k ≤ 60 * (k : Int)
  | 0, _, _ => by simp [ptsT, wtsT]
  | k + 1, hk, h => by
    have hz : zs[k]? = some (zs[k].1, zs[k].2) := List.getElem?_eq_getElem (by omega)
    rw [bads_next hz] at h
    have h' : bads (zs.take k) = false ∧ badB zs[k].1 zs[k].2 = false := by simpa using h
    have ih := sums_le zs k (by omega) h'.1
    rw [pts_next hz, wts_next hz]
    have h2 := bad_no h'.2
    have h3 := mul_le60 h2
    omega
/-- the error of two lists, before their mean is made -/
def mC (gs cs : List Int) : Int := if gs.length ≠ cs.length ∨ gs.length = 0 then 1 else if 2000 < gs.length then 2 else if bads (gs.zip cs) then 3 else 0
def mP (gs cs : List Int) : Int := ptsT (gs.zip cs) gs.length
def mW (gs cs : List Int) : Int := wtsT (gs.zip cs) gs.length
def mE (gs cs : List Int) : Int := if mC gs cs = 0 then ofE (mP gs cs) (mW gs cs) else mC gs cs
def mN (gs cs : List Int) : Int := if mC gs cs = 0 then ofN (mP gs cs) (mW gs cs) else 0
def mD (gs cs : List Int) : Int := if mC gs cs = 0 then ofD (mP gs cs) (mW gs cs) else 0
theorem mC_cases (gs cs : List Int) : (gs.length ≠ cs.length ∨ gs.length = 0) ∧ mC gs cs = 1 ∨ (gs.length = cs.length ∧ 0 < gs.length ∧ 2000 < gs.length ∧ mC gs cs = 2) ∨ (gs.length = cs.length ∧ 0 < gs.length ∧ gs.length ≤ 2000 ∧ bads (gs.zip cs) = true ∧ mC gs cs = 3) ∨ (gs.length = cs.length ∧ 0 < gs.length ∧ gs.length ≤ 2000 ∧ bads (gs.zip cs) = false ∧ mC gs cs = 0) := by
  unfold mC
  by_cases h1 : gs.length ≠ cs.length ∨ gs.length = 0
  · left; rw [if_pos h1]; exact ⟨h1, rfl⟩
  · right
    rw [if_neg h1]
    by_cases h2 : 2000 < gs.length
    · left; rw [if_pos h2]; omega
    · right
      rw [if_neg h2]
      cases h3 : bads (gs.zip cs)
      · right; exact ⟨by omega, by omega, by omega, rfl, rfl⟩
      · left; exact ⟨by omega, by omega, by omega, rfl, rfl⟩
theorem mE_zero {gs cs : List Int} (h : mC gs cs = 0) : mE gs cs = 0 ∧ rightB (mN gs cs) (mD gs cs) = true ∧ mN gs cs * mW gs cs = mP gs cs * mD gs cs ∧ (1 ≤ mW gs cs ∧ mW gs cs ≤ 120000) ∧ -120000000 ≤ mP gs cs ∧ mP gs cs ≤ 120000000 := by
  rcases mC_cases gs cs with ⟨_, h'⟩ | ⟨_, _, _, h'⟩ | ⟨_, _, _, _, h'⟩ | ⟨h1, h2, h3, h4, _⟩
  · omega
  · omega
  · omega
  · have hl : (gs.zip cs).length = gs.length := by rw [List.length_zip]; omega
    have := sums_le (gs.zip cs) gs.length (by omega) (by rw [← hl, List.take_length]; exact h4)
    have hw : 1 ≤ mW gs cs ∧ mW gs cs ≤ 120000 ∧ -120000000 ≤ mP gs cs ∧ mP gs cs ≤ 120000000 := by unfold mW mP; omega
    have hok : okB (mP gs cs) (mW gs cs) = true := by
      have a1 : upN (mP gs cs) (mW gs cs) ≤ _ := upN_le _ _
      have a2 : dnN (mP gs cs) (mW gs cs) ≤ _ := dnN_le _ _
      exact (ok_iff _ _).2 ⟨by omega, by omega, by omega⟩
    obtain ⟨o1, o2⟩ := of_ok hok
    unfold mE mN mD
    rw [if_pos h, if_pos h, if_pos h]
    exact ⟨of_yes hok, o1, o2, ⟨by omega, by omega⟩, by omega, by omega⟩
theorem mE_no {gs cs : List Int} (h : mC gs cs ≠ 0) : mE gs cs = mC gs cs ∧ mN gs cs = 0 ∧ mD gs cs = 0 := by
  unfold mE mN mD; rw [if_neg h, if_neg h, if_neg h]; exact ⟨rfl, rfl, rfl⟩
/-- the slice's cells hold the integers -/
def Nums (w : World) (A : Option Addr) (l : List Int) : Prop := (∀ z ∈ l, i64 z) ∧ (0 < l.length → ∃ ad, A = some ad ∧ ad.block < w.heap.size ∧ ∀ j z, l[j]? = some z → w.cell? (ad.add j) = some (.int .i64 z))
theorem Nums.kept {w w' : World} {A : Option Addr} {l : List Int} (h : Nums w A l) (hg : w.grownBy w' none) : Nums w' A l :=
  ⟨h.1, fun h0 => by
    obtain ⟨ad, e, hb, hc⟩ := h.2 h0
    exact ⟨ad, e, Nat.lt_of_lt_of_le hb hg.size, fun j z hz => gcell hg (hc j z hz)⟩⟩
end Go.Proofs.Ytcilclbolmijfaa
