/-
  The codes of made catalogs.
-/
import Derived.Test.YtnkemoicgadefaaGreatDoorRpt
namespace Go.Proofs.YtnkemoicgadefaaGreatDoor
open Go.RowKit
attribute [local go_sem] get_mk extract_mk
def codesL : List Str := [[65, 49], [66, 49], [66, 50], [67, 49], [68, 49], [69, 57]]
theorem codes_r (w : World) : Calls Tryz.prog 21 #[] w fun e w' => e = .returned (.slice (some ⟨w.heap.size, 0, none⟩) 6 6) ∧ Strs w' (some ⟨w.heap.size, 0, none⟩) 6 6 codesL ∧ w.grownBy w' none := by
  obtain ⟨w1, e1, H, g⟩ := row_of w 9 #[.string ⟨#[65, 49]⟩, .string ⟨#[66, 49]⟩, .string ⟨#[66, 50]⟩, .string ⟨#[67, 49]⟩, .string ⟨#[68, 49]⟩, .string ⟨#[69, 57]⟩]
  have HS := Lib.hid (strs_row (l := codesL) H rfl rfl (by decide) (fun x hx => len8 (by revert x; decide)))
  have G := Lib.hid g
  have E1 := Lib.hid e1
  clear e1 H g
  go_enter Tryz.func21, Tryz.ntmps21
  go_wp2_with fail
  go_ret
  rw [← E1.out]
  exact ⟨rfl, HS.out, G.out⟩
end Go.Proofs.YtnkemoicgadefaaGreatDoor
