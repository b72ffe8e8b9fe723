/-
  The laws' sanity, by its contract.
-/
import Derived.Test.YtljjmoeplfcblaaSame
namespace Go.Proofs.Ytljjmoeplfcblaa
open Go.RowKit Go.Shelf
attribute [local go_sem] get_mk extract_mk

theorem new_strs (l : List Str) (w : World) (n : Nat) (cs : Array Value) (hn : n = l.length) (h1 : n ≤ 1000) (hcs : cs = (l.map fun s => Value.string ⟨s.toArray⟩).toArray) (hl : ∀ s ∈ l, s.length ≤ 4611686018427387904) : Strs (w.alloc (.cells cs 9)) (some ⟨w.heap.size, 0, none⟩) n n l :=
  ⟨hn, Nat.le_refl _, by omega, hl, fun _ => ⟨_, rfl, by simp, fun j s hj => one_cells w cs 9 j _ (by rw [hcs]; simp [hj])⟩⟩
def abc : List Str := [[97], [98], [99]]
def bdf : List Str := [[98], [100], [102]]
theorem f1 : dg [] = [0, 0, 0, 11, 0, 0, 0, 17] := by kernel_rfl
theorem f2 : dg [0] = [0, 11, 175, 136, 0, 11, 238, 24] := by kernel_rfl
theorem f3 : proofL abc 1 2 = [dg [3, 97], dg [3, 99]] := by kernel_rfl
theorem f4 : root abc = dg ([6, 0, 0, 0, 0, 0, 0, 0, 3] ++ dg ([4] ++ dg ([4] ++ dg [3, 97] ++ dg [3, 98]) ++ dg [3, 99])) := by kernel_rfl
theorem f5 : sortedB bdf = true := by kernel_rfl
theorem f6 : arI bdf [99] = 0 ∧ arJ bdf [99] [101] = 3 ∧ arI bdf [120] = 2 ∧ arJ bdf [120] [121] = 3 := ⟨by kernel_rfl, by kernel_rfl, by kernel_rfl, by kernel_rfl⟩
theorem f7 : proofL bdf 0 3 = [] := by kernel_rfl
theorem f8 : verB (root bdf) (3 : Nat) (0 : Nat) bdf [] = true := by kernel_rfl
theorem f9 : verB (root bdf) (3 : Nat) (2 : Nat) [[102]] (proofL bdf 2 3) = true := by kernel_rfl
theorem f10 : (proofL bdf 2 3).length = 1 := by kernel_rfl
theorem f11 : edge1 0 [99] bdf = true ∧ edge2 3 0 [101] bdf = true ∧ edge1 2 [120] [[102]] = true ∧ edge2 3 2 [121] [[102]] = true := ⟨by kernel_rfl, by kernel_rfl, by kernel_rfl, by kernel_rfl⟩
theorem f12 : bdf.filter (between [99] [101]) = [[100]] ∧ ([[102]] : List Str).filter (between [120] [121]) = [] := ⟨by kernel_rfl, by kernel_rfl⟩
theorem f13 : sortedB [[98], [98]] = false ∧ sortedB ([[102]] : List Str) = true := ⟨by kernel_rfl, by kernel_rfl⟩
theorem strs_8 (l : List Str) (h : ∀ s ∈ l, s.length ≤ 8) : ∀ s ∈ l, s.length ≤ 4611686018427387904 := fun s hs => Nat.le_trans (h s hs) (by decide)
theorem pl_8 (l : List Str) (i j : Nat) : ∀ s ∈ proofL l i j, s.length ≤ 8 := fun s hs => by
  rcases List.mem_append.1 hs with h | h
  · exact sums_8 l 0 i s h
  · exact sums_8 l j l.length s h
theorem of_k3 (x y z : Str) (h : (x ++ y ++ z).length ≤ 4611686018427387904) (w : World) : Calls Try.prog 13 #[.string ((⟨x.toArray⟩ : ByteArray) ++ ⟨y.toArray⟩ ++ ⟨z.toArray⟩)] w fun e w' => e = .returned (.string ⟨(dg (x ++ y ++ z)).toArray⟩) ∧ w.grownBy w' none := by
  rw [str_app, str_app]
  exact of_k _ h w
theorem of_k2 (x y : Str) (h : (x ++ y).length ≤ 4611686018427387904) (w : World) : Calls Try.prog 13 #[.string ((⟨x.toArray⟩ : ByteArray) ++ ⟨y.toArray⟩)] w fun e w' => e = .returned (.string ⟨(dg (x ++ y)).toArray⟩) ∧ w.grownBy w' none := by
  rw [str_app]
  exact of_k _ h w
theorem same_yes {A B : Option Addr} {n c m d : Nat} {l : List Str} {w : World} (hl : Strs w A n c l) (hr : Strs w B m d l) : Calls Try.prog 28 #[.slice A n c, .slice B m d] w fun e w' => e = .returned (.bool true) ∧ w.grownBy w' none := by
  have := same_k A B n c m d l l w hl hr
  simpa using this
set_option maxRecDepth 100000 in
set_option maxHeartbeats 4000000 in
/-- quadriviumlaw02.sanity -/
theorem sane_k (w : World) : Calls Try.prog 10 #[] w fun e w' => e = .returned (.bool true) ∧ w.grownBy w' none := by
  have O1 := Lib.hid (fun w => of_k [] (by simp) w)
  have O2 := Lib.hid (fun w => of_k [0] (by simp) w)
  rw [f1] at O1
  rw [f2] at O2
  have Oa := Lib.hid (fun w => of_k [3, 97] (by simp) w)
  have Ob := Lib.hid (fun w => of_k [3, 98] (by simp) w)
  have Oc := Lib.hid (fun w => of_k [3, 99] (by simp) w)
  have F3 := Lib.hid f3
  have F4 := Lib.hid f4
  have ha8 := dg_len [3, 97]
  have hb8 := dg_len [3, 98]
  have hc8 := dg_len [3, 99]
  generalize dg [3, 97] = a at *
  generalize dg [3, 98] = b at *
  generalize dg [3, 99] = c at *
  go_enter Try.func10, Try.ntmps10
  go_wp2_with fail
  refine (O1.out _).mono ?_
  rintro e w1 ⟨rfl, g1⟩
  go_wp2_with fail
  refine (O2.out _).mono ?_
  rintro e w2 ⟨rfl, g2⟩
  go_wp2_with fail
  refine (Oa.out _).mono ?_
  rintro e w3 ⟨rfl, g3⟩
  go_wp2_with fail
  refine (Ob.out _).mono ?_
  rintro e w4 ⟨rfl, g4⟩
  go_wp2_with fail
  refine (Oc.out _).mono ?_
  rintro e w5 ⟨rfl, g5⟩
  have g05 := ((((g1.trans g2).trans g3).trans g4).trans g5)
  clear g1 g2 g3 g4 g5
  have S1 := new_strs abc w5 3 #[.string ⟨#[97]⟩, .string ⟨#[98]⟩, .string ⟨#[99]⟩] rfl (by omega) rfl (by decide)
  have g06 := g05.trans (World.grownBy_alloc w5 (.cells #[.string ⟨#[97]⟩, .string ⟨#[98]⟩, .string ⟨#[99]⟩] 9) none)
  have SL := Lib.hid (fun W (g : (w5.alloc (.cells #[.string ⟨#[97]⟩, .string ⟨#[98]⟩, .string ⟨#[99]⟩] 9)).grownBy W none) => S1.kept g)
  go_wp2_with fail
  refine (show Calls Try.prog 29 #[_, .int .i64 ((1 : Nat) : Int), .int .i64 ((2 : Nat) : Int)] _ _ from prove_k _ 3 3 abc (by omega) 1 2 (by omega) (by omega) _ S1).mono ?_
  rintro e w6 ⟨v6, rfl, o6, g6⟩
  rw [F3.out] at o6
  obtain ⟨A6, c6, rfl, S6⟩ := own_strs o6 (by simp [ha8, hc8])
  go_wp2_with fail
  have gn := World.grownBy_alloc w6 (.cells #[.string ⟨a.toArray⟩, .string ⟨c.toArray⟩] 9) none
  refine (same_yes (S6.kept gn) (new_strs [a, c] w6 2 _ rfl (by omega) rfl (by simp [ha8, hc8]))).mono ?_
  rintro e w7 ⟨rfl, g7⟩
  have g7 := (g6.trans gn).trans g7
  go_wp2_with fail
  refine (root_k _ 3 3 abc (by omega) w7 (SL.out w7 g7)).mono ?_
  rintro e w8 ⟨rfl, g8⟩
  have g8 := g7.trans g8
  rw [F4.out]
  have hd1 := dg_len ([4] ++ a ++ b)
  have OD1 := Lib.hid (fun w => of_k3 [4] a b (by simp [ha8, hb8]) w)
  generalize dg ([4] ++ a ++ b) = d1 at *
  have hd2 := dg_len ([4] ++ d1 ++ c)
  have OD2 := Lib.hid (fun w => of_k3 [4] d1 c (by simp [hd1, hc8]) w)
  generalize dg ([4] ++ d1 ++ c) = d2 at *
  have OD3 := Lib.hid (fun w => of_k2 [6, 0, 0, 0, 0, 0, 0, 0, 3] d2 (by simp [hd2]) w)
  generalize dg ([6, 0, 0, 0, 0, 0, 0, 0, 3] ++ d2) = d3 at *
  go_wp2_with fail
  refine (OD1.out w8).mono ?_
  rintro e w9 ⟨rfl, g9⟩
  have g9 := g8.trans g9
  go_wp2_with fail
  refine (OD2.out w9).mono ?_
  rintro e w10 ⟨rfl, g10⟩
  have g10 := g9.trans g10
  go_wp2_with fail
  refine (OD3.out w10).mono ?_
  rintro e w11 ⟨rfl, g11⟩
  have g11 := g06.trans (g10.trans g11)
  clear g9 g10 g8 g7 g6 gn SL S1 S6 o6 g05 g06 Oa Ob Oc O1 O2 OD1 OD2 OD3 F3 F4
  have S2 := new_strs bdf w11 3 #[.string ⟨#[98]⟩, .string ⟨#[100]⟩, .string ⟨#[102]⟩] rfl (by omega) rfl (by decide)
  have SS := Lib.hid (fun W (g : (w11.alloc (.cells #[.string ⟨#[98]⟩, .string ⟨#[100]⟩, .string ⟨#[102]⟩] 9)).grownBy W none) => S2.kept g)
  have HA := Lib.hid (fun W (g : (w11.alloc (.cells #[.string ⟨#[98]⟩, .string ⟨#[100]⟩, .string ⟨#[102]⟩] 9)).grownBy W none) => around_k (some ⟨w11.heap.size, 0, none⟩) 3 3 bdf [99] [101] (by omega) (by omega) W (SS.out W g) f5)
  have HB := Lib.hid (fun W (g : (w11.alloc (.cells #[.string ⟨#[98]⟩, .string ⟨#[100]⟩, .string ⟨#[102]⟩] 9)).grownBy W none) => around_k (some ⟨w11.heap.size, 0, none⟩) 3 3 bdf [120] [121] (by omega) (by omega) W (SS.out W g) f5)
  rw [f6.1, f6.2.1, f7] at HA
  rw [f6.2.2.1, f6.2.2.2] at HB
  have e1 : (bdf.drop 0).take (3 - 0) = bdf := rfl
  have e2 : (bdf.drop 2).take (3 - 2) = [[102]] := rfl
  rw [e1] at HA
  rw [e2] at HB
  have HR := Lib.hid (fun W (g : (w11.alloc (.cells #[.string ⟨#[98]⟩, .string ⟨#[100]⟩, .string ⟨#[102]⟩] 9)).grownBy W none) => root_k (some ⟨w11.heap.size, 0, none⟩) 3 3 bdf (by omega) W (SS.out W g))
  have HT := Lib.hid (fun W (g : (w11.alloc (.cells #[.string ⟨#[98]⟩, .string ⟨#[100]⟩, .string ⟨#[102]⟩] 9)).grownBy W none) => sorted_k (some ⟨w11.heap.size, 0, none⟩) 3 3 bdf W (SS.out W g))
  rw [f5] at HT
  clear e1 e2 S2
  have gB := World.grownBy_alloc w11 (.cells #[.string ⟨#[98]⟩, .string ⟨#[100]⟩, .string ⟨#[102]⟩] 9) none
  go_wp2_with fail
  refine (HA.out _ (World.grownBy.refl _ _)).mono ?_
  rintro e w12 ⟨x1, x2, rfl, ox1, ox2, g12⟩
  obtain ⟨X1, cx1, rfl, SX1⟩ := own_strs ox1 (by decide)
  obtain ⟨X2, cx2, rfl, SX2⟩ := own_strs ox2 (by simp)
  go_wp2_with fail
  refine (HR.out w12 g12).mono ?_
  rintro e w13 ⟨rfl, g13⟩
  have g13' := g12.trans g13
  have W1 := within_k (root bdf) 3 0 [99] [101] X1 bdf.length cx1 bdf X2 0 cx2 [] (by decide) (by decide) (by decide) (by decide) w13 (SX1.kept g13) (SX2.kept g13) f8 f5 f11.1 f11.2.1
  rw [f12.1] at W1
  have W1 := Lib.hid W1
  go_wp2_with fail
  refine W1.out.mono ?_
  rintro e w14 ⟨y1, rfl, oy1, g14⟩
  obtain ⟨Y1, cy1, rfl, SY1⟩ := own_strs oy1 (by simp)
  have g14' := g13'.trans g14
  go_wp2_with fail
  refine (same_yes (SX1.kept (g13.trans g14)) (SS.out w14 g14')).mono ?_
  rintro e w15 ⟨rfl, g15⟩
  have g15' := g14'.trans g15
  have gY := World.grownBy_alloc w15 (.cells #[.string ⟨#[100]⟩] 9) none
  go_wp2_with fail
  refine (same_yes ((SY1.kept g15).kept gY) (new_strs [[100]] w15 1 _ rfl (by omega) rfl (by simp))).mono ?_
  rintro e w16 ⟨rfl, g16⟩
  have g16' := (g15'.trans gY).trans g16
  clear SX1 SX2 SY1 ox1 ox2 oy1 W1 g15 g14 g13 g12 gY g13' g14' g15'
  go_wp2_with fail
  refine (HB.out w16 g16').mono ?_
  rintro e w17 ⟨z1, z2, rfl, oz1, oz2, g17⟩
  have hz2 := f10
  obtain ⟨Z1, cz1, rfl, SZ1⟩ := own_strs oz1 (by simp)
  obtain ⟨Z2, cz2, rfl, SZ2⟩ := own_strs oz2 (strs_8 _ (pl_8 _ _ _))
  have g17' := g16'.trans g17
  go_wp2_with fail
  refine (HR.out w17 g17').mono ?_
  rintro e w18 ⟨rfl, g18⟩
  have g18' := g17'.trans g18
  have W2 := within_k (root bdf) 3 2 [120] [121] Z1 1 cz1 [[102]] Z2 (proofL bdf 2 3).length cz2 (proofL bdf 2 3) (by decide) (by decide) (by decide) (by rw [f10]; decide) w18 (SZ1.kept g18) (SZ2.kept g18) f9 f13.2 f11.2.2.1 f11.2.2.2
  rw [f12.2] at W2
  have W2 := Lib.hid W2
  go_wp2_with fail
  refine W2.out.mono ?_
  rintro e w19 ⟨y2, rfl, oy2, g19⟩
  obtain ⟨Y2, cy2, rfl, SY2⟩ := own_strs oy2 (by simp)
  have g19' := g18'.trans g19
  go_wp2_with fail
  have gZ := World.grownBy_alloc w19 (.cells #[.string ⟨#[102]⟩] 9) none
  refine (same_yes ((SZ1.kept (g18.trans g19)).kept gZ) (new_strs [[102]] w19 1 _ rfl (by omega) rfl (by simp))).mono ?_
  rintro e w20 ⟨rfl, g20⟩
  have g20' := (g19'.trans gZ).trans g20
  go_wp2_with fail
  refine (HT.out w20 g20').mono ?_
  rintro e w21 ⟨rfl, g21⟩
  have g21' := g20'.trans g21
  go_wp2_with fail
  have gN := World.grownBy_alloc w21 (.cells #[.string ⟨#[98]⟩, .string ⟨#[98]⟩] 9) none
  have hS := sorted_k _ 2 2 [[98], [98]] _ (new_strs [[98], [98]] w21 2 #[.string ⟨#[98]⟩, .string ⟨#[98]⟩] rfl (by omega) rfl (by simp))
  rw [f13.1] at hS
  refine hS.mono ?_
  rintro e w22 ⟨rfl, g22⟩
  go_wp2_with fail
  go_ret
  exact ⟨rfl, (g11.trans gB).trans (g21'.trans (gN.trans g22))⟩
end Go.Proofs.Ytljjmoeplfcblaa
