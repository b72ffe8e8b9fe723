/-
  The laws' example and their current; digits; the laws' sanity, by its contract.
-/
import Derived.Test.YtecobgjkodmaiaaDoorSign
import Derived.Test.YtecobgjkodmaiaaDoorStealR
import Derived.Test.YtecobgjkodmaiaaDoorCurK
namespace Go.Proofs.YtecobgjkodmaiaaDoor
open Go.RowKit
attribute [local go_sem] get_mk extract_mk
def exL : List K := [⟨1, [97], 0, 0⟩, ⟨4, [98], 50, 0⟩]
def exT : List K := [⟨1, [97], 0, 0⟩, ⟨4, [98], 50, 70⟩]
def tx : Str := [116, 101, 120, 116]
def ot : Str := [111, 116, 104, 101, 114]
theorem itoa_digit (u : Nat) (h : u < 10) : Lib.itoa (u : Int) = [UInt8.ofNat (48 + u)] := by rw [itoa_nat, dec_small h]
theorem sgn_tx : sgn 3 4 tx = [51, 32, 52, 32, 116, 101, 120, 116] := by
  unfold sgn
  rw [show Lib.itoa 3 = [51] from itoa_digit 3 (by decide), show Lib.itoa 4 = [52] from itoa_digit 4 (by decide)]
  rfl
theorem sgn_ot : sgn 3 4 ot = [51, 32, 52, 32, 111, 116, 104, 101, 114] := by
  unfold sgn
  rw [show Lib.itoa 3 = [51] from itoa_digit 3 (by decide), show Lib.itoa 4 = [52] from itoa_digit 4 (by decide)]
  rfl
theorem marks_ne : (mark [98] (sgn 3 4 tx) == mark [98] (sgn 3 4 ot)) = false := by
  rw [sgn_tx, sgn_ot]
  kernel_rfl
def mtx : Str := mark [98] (sgn 3 4 tx)
theorem sign_ex : signS 3 exL 4 tx = mtx ∧ signE exL 4 = 0 := ⟨rfl, rfl⟩
theorem steal_a : stealR 3 exL 4 70 = (3, exT, 0) := by decide
theorem steal_b : stealR 3 exL 4 40 = (0, [], 23) := by decide
theorem steal_c : stealR 3 exL 5 70 = (0, [], 5) := by decide
theorem add_a : addR 3 exL ⟨4, [99], 60, 0⟩ = (0, [], 7) := by decide
theorem add_b : addR 3 exL ⟨5, [99], 49, 0⟩ = (0, [], 7) := by decide
theorem valid_a : validV 3 exT 4 tx mtx 60 69 = 0 := by
  have h : ((keyAt exT (idxV exT 4).toNat).sec != [] && mtx == mark (keyAt exT (idxV exT 4).toNat).sec (sgn 3 4 tx)) = true := by
    show (([98] : Str) != [] && mtx == mark [98] (sgn 3 4 tx)) = true
    simp [mtx]
  unfold validV
  rw [h]
  rfl
theorem valid_b : validV 3 exT 4 tx mtx 60 70 = 11 := by
  have h : ((keyAt exT (idxV exT 4).toNat).sec != [] && mtx == mark (keyAt exT (idxV exT 4).toNat).sec (sgn 3 4 tx)) = true := by
    show (([98] : Str) != [] && mtx == mark [98] (sgn 3 4 tx)) = true
    simp [mtx]
  unfold validV
  rw [h]
  rfl
theorem valid_c : validV 3 exT 4 tx mtx 49 49 = 23 := rfl
theorem valid_d : validV 3 exL 4 ot mtx 60 69 = 11 := by
  have h : ((keyAt exL (idxV exL 4).toNat).sec != [] && mtx == mark (keyAt exL (idxV exL 4).toNat).sec (sgn 3 4 ot)) = false := by
    show (([98] : Str) != [] && mtx == mark [98] (sgn 3 4 ot)) = false
    rw [show (mtx == mark [98] (sgn 3 4 ot)) = false from marks_ne]
    rfl
  unfold validV
  rw [h]
  rfl
theorem exL_ok : ∀ x ∈ exL, x.ok := by
  intro x hx
  simp [exL] at hx
  rcases hx with rfl | rfl <;> simp [K.ok, i64]
/-- a row of keys is a slice of them -/
theorem keys_row {W : World} {B : Nat} {l : List K} (h : Row W B 28 (kc l).toArray) (hok : ∀ x ∈ l, x.ok) (hl : l.length ≤ 1000) : Keys W (some ⟨B, 0, none⟩) l.length l.length l :=
  ⟨rfl, Nat.le_refl _, by omega, (fun e => by cases e), hok, fun _ => ⟨_, rfl, h.lt, fun j x hj i v hv => by
    rw [add_two]
    exact h.c (j * 4 + i) (by rw [List.getElem?_toArray]; exact kc_at l j x hj i v hv)⟩⟩
set_option maxRecDepth 100000 in
/-- the laws' example -/
theorem example_k (w : World) : Calls Tryd.prog 26 #[] w fun e w' => ∃ g, e = .returned (.agg #[.int .i64 3, .slice (some ⟨g, 0, none⟩) 2 2]) ∧ Keys w' (some ⟨g, 0, none⟩) 2 2 exL ∧ w.grownBy w' none := by
  go_enter Tryd.func26, Tryd.ntmps26
  go_wp2_with fail
  obtain ⟨w1, e1, HR, g1⟩ := row_of w 34 #[.int .i64 3, .slice (some ⟨w.heap.size + 1, 0, none⟩) 2 2]
  have hs1 : w1.heap.size = w.heap.size + 1 := by rw [e1]; simp
  rw [← e1]
  obtain ⟨w2, e2, HK, g2⟩ := row_of w1 28 #[.int .i64 1, .string ⟨#[97]⟩, .int .i64 0, .int .i64 0, .int .i64 4, .string ⟨#[98]⟩, .int .i64 50, .int .i64 0]
  rw [← e2]
  rw [hs1] at HK
  replace HR := HR.kept g2
  exact bodyPost_ret (v := .agg #[.int .i64 3, .slice (some ⟨w.heap.size + 1, 0, none⟩) 2 2]) (by simp [results, Tryd.results26, go_sem, HR.c 0 rfl, HR.c 1 rfl]) rfl ⟨_, rfl, keys_row (l := exL) HK exL_ok (by decide), g1.trans g2⟩
/-- the laws' current -/
theorem current_c (s : Int) (A : Option Addr) (n c : Nat) (l : List K) (day id : Int) (hday : i64 day) (hid : id ≠ 0) (h1 : curI l day = id) (h2 : curB l day = true) (w : World) (hk : Keys w A n c l) :
    Calls Tryd.prog 27 #[.agg #[.int .i64 s, .slice A n c], .int .i64 day, .int .i64 id] w fun e w' => e = .returned (.bool true) ∧ w.grownBy w' none := by
  have gg := World.grownBy_alloc w (.cells #[.int .i64 s, .slice A n c] 34) none
  have r0 : (w.alloc (.cells #[.int .i64 s, .slice A n c] 34)).cell? ⟨w.heap.size, 0, none⟩ = some (.int .i64 s) := cell_at rfl
  have r1 : (w.alloc (.cells #[.int .i64 s, .slice A n c] 34)).cell? ⟨w.heap.size, 1, none⟩ = some (.slice A n c) := cell_at rfl
  have HK := Lib.hid (hk.kept gg)
  have K := Lib.hid (current_k s A n c l day hday)
  rw [h1, h2] at K
  have h3 : (id != 0) = true := by simpa using hid
  clear hk h1 h2 hid
  go_enter Tryd.func27, Tryd.ntmps27
  go_wp2_with fail
  refine (K.out _ HK.out).mono ?_
  rintro e w2 ⟨rfl, g⟩
  go_wp2_with fail
  go_ret
  exact ⟨rfl, gg.trans g⟩
end Go.Proofs.YtecobgjkodmaiaaDoor
