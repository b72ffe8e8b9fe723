/-
  What is marked, of both; Sign and Valid of both.
-/
import Derived.Test.YtecobgjkodmaiaaDoorDecim
import Derived.Deep.RegionHeld3
namespace Go.Proofs.YtecobgjkodmaiaaDoor
open Go.RowKit
attribute [local go_sem] get_mk extract_mk
/-- what is marked -/
def sgn (s id : Int) (text : Str) : Str := Lib.itoa s ++ 32 :: (Lib.itoa id ++ 32 :: text)
theorem sgn_len {s id : Int} {text : Str} (hs : i64 s) (hid : i64 id) : (sgn s id text).length ≤ 42 + text.length := by
  have l1 := itoa_len hs
  have l2 := itoa_len hid
  unfold sgn
  simp only [List.length_append, List.length_cons]
  omega
set_option maxRecDepth 100000 in
/-- key.signed -/
theorem signed_k (s id : Int) (text : Str) (hs : i64 s) (hid : i64 id) (ht : text.length ≤ 1000000) (w : World) (hb : Base w) :
    Calls Tryd.prog 43 #[.int .i64 s, .int .i64 id, .string ⟨text.toArray⟩] w fun e w' => e = .returned (.string ⟨(sgn s id text).toArray⟩) ∧ w.grownBy w' none := by
  have l1 := itoa_len hs
  have l2 := itoa_len hid
  have n1 : ¬ 9223372036854775807 < (Lib.itoa s).length + 1 := by omega
  have n2 : ¬ 9223372036854775807 < (Lib.itoa s).length + 1 + (Lib.itoa id).length := by omega
  have n3 : ¬ 9223372036854775807 < (Lib.itoa s).length + 1 + (Lib.itoa id).length + 1 := by omega
  have n4 : ¬ 9223372036854775807 < (Lib.itoa s).length + 1 + (Lib.itoa id).length + 1 + text.length := by omega
  have HB := Lib.hid hb
  clear hb
  go_enter Tryd.func43, Tryd.ntmps43
  go_wp2_with fail
  refine (itoa_k s hs _ HB.out).mono ?_
  rintro e w1 ⟨rfl, g1⟩
  go_wp2_with fail
  refine (itoa_k id hid _ (HB.out.none_ g1)).mono ?_
  rintro e w2 ⟨rfl, g2⟩
  go_wp2_with fail
  go_ret
  exact ⟨ret_str (by unfold sgn; apply ByteArray.ext; simp), g1.trans g2⟩
set_option maxRecDepth 100000 in
/-- the reference's whole -/
theorem whole_r (s : Int) (A : Option Addr) (n c : Nat) (id : Int) (text : Str) (hs : i64 s) (hid : i64 id) (ht : text.length ≤ 1000000) (w : World) :
    Calls Tryd.prog 45 #[.agg #[.int .i64 s, .slice A n c], .int .i64 id, .string ⟨text.toArray⟩] w fun e w' => e = .returned (.string ⟨(sgn s id text).toArray⟩) ∧ w.grownBy w' none := by
  have l1 := itoa_len hs
  have l2 := itoa_len hid
  have n1 : ¬ 9223372036854775807 < (Lib.itoa s).length + 1 := by omega
  have n2 : ¬ 9223372036854775807 < (Lib.itoa s).length + 1 + (Lib.itoa id).length := by omega
  have n3 : ¬ 9223372036854775807 < (Lib.itoa s).length + 1 + (Lib.itoa id).length + 1 := by omega
  have n4 : ¬ 9223372036854775807 < (Lib.itoa s).length + 1 + (Lib.itoa id).length + 1 + text.length := by omega
  have gg := World.grownBy_alloc w (.cells #[.int .i64 s, .slice A n c] 34) none
  have r0 : (w.alloc (.cells #[.int .i64 s, .slice A n c] 34)).cell? ⟨w.heap.size, 0, none⟩ = some (.int .i64 s) := cell_at rfl
  go_enter Tryd.func45, Tryd.ntmps45
  go_wp2_with fail
  refine (decimal_r s hs _).mono ?_
  rintro e w1 ⟨rfl, g1⟩
  go_wp2_with fail
  refine (decimal_r id hid _).mono ?_
  rintro e w2 ⟨rfl, g2⟩
  go_wp2_with fail
  go_ret
  exact ⟨ret_str (by unfold sgn; apply ByteArray.ext; simp), (gg.trans g1).trans g2⟩
def signS (s : Int) (l : List K) (id : Int) (text : Str) : Str := if idxV l id < 0 then [] else mark (keyAt l (idxV l id).toNat).sec (sgn s id text)
def signE (l : List K) (id : Int) : Int := if idxV l id < 0 then 5 else 0
def validV (s : Int) (l : List K) (id : Int) (text mrk : Str) (day seen : Int) : Int :=
  if idxV l id < 0 then 5 else if day < (keyAt l (idxV l id).toNat).frm then 23
  else if ((keyAt l (idxV l id).toNat).sec != [] && mrk == mark (keyAt l (idxV l id).toNat).sec (sgn s id text)) = false then 11
  else if stolenB (keyAt l (idxV l id).toNat) seen = true then 11 else 0
set_option maxRecDepth 100000 in
set_option maxHeartbeats 1000000 in
theorem sign_k (s : Int) (A : Option Addr) (n c : Nat) (l : List K) (id : Int) (text : Str) (hs : i64 s) (hid : i64 id) (ht : text.length ≤ 1000000) (w : World) (hb : Base w) (hk : Keys w A n c l) :
    Calls Tryd.prog 20 #[.agg #[.int .i64 s, .slice A n c], .int .i64 id, .string ⟨text.toArray⟩] w fun e w' => e = .returned (.tuple #[.string ⟨(signS s l id text).toArray⟩, .int .i64 (signE l id)]) ∧ w.grownBy w' none := by
  have HL := Lib.hid hk.len
  have HK := Lib.hid (fun W (g : w.grownBy W none) => hk.kept g)
  obtain ⟨w1, e1, HB, gg⟩ := row_of w 34 #[.int .i64 s, .slice A n c]
  have E1 := Lib.hid e1
  clear e1 hk
  have HBs := Lib.hid (fun W (g : w.grownBy W none) => hb.none_ g)
  clear hb
  go_enter Tryd.func20, Tryd.ntmps20
  go_upto_region 1 with fail
  rw [← E1.out]
  clear E1
  generalize w.heap.size = B at *
  have b0 : w1.cell? ⟨B, 0, none⟩ = some (.int .i64 s) := HB.c 0 rfl
  have b1 : w1.cell? ⟨B, 1, none⟩ = some (.slice A n c) := HB.c 1 rfl
  go_wp2_with fail
  refine (index_k A n c l id hid _ (HK.out _ gg)).mono ?_
  rintro e w5 ⟨rfl, g⟩
  replace gg := gg.trans g
  replace HB := HB.kept g
  clear b0 b1 g
  rcases idxV_cases l id with ⟨hi, _⟩ | ⟨j, x, hi, hx, hxi⟩
  · rw [hi]
    have HE : Hid (signS s l id text = [] ∧ signE l id = 5) := Lib.hid (by simp [signS, signE, hi])
    clear hi
    go_wp2_with fail
    exact bodyPost_ret (results_tmp2 rfl _ _ _) rfl ⟨by rw [HE.out.1, HE.out.2]; rfl, gg⟩
  rw [hi]
  have hj := (List.getElem?_eq_some_iff.1 hx).1
  have hjn : j < n := by have := HL.out; omega
  have hcn := (HK.out _ gg).le
  have hcc := (HK.out _ gg).cap
  obtain ⟨ad, y, hy, rfl, hbl, ⟨o1, o2, o3, o4⟩, x0, x1, x2, x3⟩ := (HK.out _ gg).at j hjn
  rw [hx] at hy
  injection hy with hy
  subst hy
  clear hxi
  have hka : keyAt l j = x := by simp [keyAt, hx]
  have HE : Hid (signS s l id text = mark x.sec (sgn s id text) ∧ signE l id = 0) := Lib.hid (by
    unfold signS signE
    rw [hi, if_neg (by omega), if_neg (by omega), Int.toNat_natCast, hka]
    exact ⟨rfl, rfl⟩)
  have hsg := sgn_len (text := text) hs hid
  clear hi hka hx
  have b0 : w5.cell? ⟨B, 0, none⟩ = some (.int .i64 s) := HB.c 0 rfl
  have b1 : w5.cell? ⟨B, 1, none⟩ = some (.slice (some ad) n c) := HB.c 1 rfl
  obtain ⟨xi, xs, xf, xt⟩ := x
  simp only at o4
  go_upto_region 4 with fail
  have gz : w5.grownBy w5.drew none := grown_dr (grown_refl _)
  refine wp_region_noPanic ?_
  refine wp_region_held_drew (S := (fun w' => w5.grownBy w' none)) (by kernel_rfl) ?_ (fun hHeld => ?_)
  · (try dsimp only); (repeat (first | assumption | exact grown_refl _ | refine grown_dr ?_ | refine grown_dn ?_ | refine grown_al ?_))
  refine wpAnyH_take (i := 0) (oi := _) (v := ?_) rfl (by kernel_rfl) (by kernel_rfl) (by kernel_rfl) (fun _ _ _ h => h) (Or.inl ⟨by rfl, ?_⟩) (by assumption) ?_
  rotate_left 1
  · (intro w hSw; (try dsimp only at hSw); go_simp; first | done | with_reducible rfl)
  try go_simp
  refine wpAnyH_take (i := 1) (oi := _) (v := .slice (some ad) n c) rfl (by kernel_rfl) (by kernel_rfl) (by kernel_rfl) (fun _ _ _ h => h) (Or.inl ⟨by kernel_rfl, ?_⟩) (by assumption) ?_
  · (intro w hSw; (try dsimp only at hSw); go_simp; have y0 := gcell hSw b1; clear hSw; go_simp; first | done | with_reducible rfl)
  try go_simp
  refine wpAnyH_take (i := 2) (oi := _) (v := ?_) rfl (by kernel_rfl) (by kernel_rfl) (by kernel_rfl) (fun _ _ _ h => h) (Or.inl ⟨by rfl, ?_⟩) (by assumption) ?_
  rotate_left 1
  · (intro w hSw; (try dsimp only at hSw); go_simp; first | done | with_reducible rfl)
  try go_simp
  refine wpAnyH_take (i := 3) (oi := _) (v := ?_) rfl (by kernel_rfl) (by kernel_rfl) (by kernel_rfl) (fun _ _ _ h => h) (Or.inl ⟨by rfl, ?_⟩) (by assumption) ?_
  rotate_left 1
  · (intro w hSw; (try dsimp only at hSw); go_simp; first | done | with_reducible rfl)
  try go_simp
  refine wpAnyH_take (i := 4) (oi := _) (v := ?_) rfl (by kernel_rfl) (by kernel_rfl) (by kernel_rfl) (fun _ _ _ h => h) (Or.inl ⟨by rfl, ?_⟩) (by assumption) ?_
  rotate_left 1
  · (intro w hSw; (try dsimp only at hSw); go_simp; first | done | with_reducible rfl)
  try go_simp
  refine wpAnyH_take (i := 5) (oi := _) (v := .string ⟨xs.toArray⟩) rfl (by kernel_rfl) (by kernel_rfl) (by kernel_rfl) (fun _ _ _ h => h) (Or.inl ⟨by kernel_rfl, ?_⟩) (by assumption) ?_
  · (intro w hSw; (try dsimp only at hSw); go_simp; have y0 := gcell hSw x1; clear hSw; go_simp; first | done | with_reducible rfl)
  try go_simp
  refine wpAnyH_take (i := 6) (oi := _) (v := ?_) rfl (by kernel_rfl) (by kernel_rfl) (by kernel_rfl) (fun _ _ _ h => h) (Or.inl ⟨by rfl, ?_⟩) (by assumption) ?_
  rotate_left 1
  · (intro w hSw; (try dsimp only at hSw); go_simp; first | done | with_reducible rfl)
  try go_simp
  refine wpAnyH_take (i := 7) (oi := _) (v := .int .i64 s) rfl (by kernel_rfl) (by kernel_rfl) (by kernel_rfl) (fun _ _ _ h => h) (Or.inl ⟨by kernel_rfl, ?_⟩) (by assumption) ?_
  · (intro w hSw; (try dsimp only at hSw); go_simp; have y0 := gcell hSw b0; clear hSw; go_simp; first | done | with_reducible rfl)
  try go_simp
  refine wpAnyH_take (i := 8) (oi := _) (v := ?_) rfl (by kernel_rfl) (by kernel_rfl) (by kernel_rfl) (fun _ _ _ h => h) (Or.inl ⟨by rfl, ?_⟩) (by assumption) ?_
  rotate_left 1
  · (intro w hSw; (try dsimp only at hSw); go_simp; first | done | with_reducible rfl)
  try go_simp
  refine wpAnyH_take (i := 9) (oi := _) (v := ?_) rfl (by kernel_rfl) (by kernel_rfl) (by kernel_rfl) (fun _ _ _ h => h) (Or.inl ⟨by rfl, ?_⟩) (by assumption) ?_
  rotate_left 1
  · (intro w hSw; (try dsimp only at hSw); go_simp; first | done | with_reducible rfl)
  try go_simp
  refine wpAnyH_ready (rs := [10]) (by kernel_rfl) (by simp) ?_
  refine AllReadyH.cons (o := _) rfl (fun K hK => ?_) AllReadyH.nil
  go_simp
  refine (signed_k s id text hs hid ht _ (HBs.out _ (gg.trans gz))).mono ?_
  rintro e w2 ⟨rfl, g⟩
  replace gz := gz.trans g
  clear g
  first | (refine hK.out _ _ ?_ (fun hHeld => ?_)) | (go_wp2_with fail; refine hK.out _ _ ?_ (fun hHeld => ?_))
  · (try dsimp only); (repeat (first | assumption | exact grown_refl _ | refine grown_dr ?_ | refine grown_dn ?_ | refine grown_al ?_))
  clear hK K
  refine wpAnyH_ready (rs := [11]) (by kernel_rfl) (by simp) ?_
  refine AllReadyH.cons (o := _) rfl (fun K hK => ?_) AllReadyH.nil
  go_simp
  refine (mark_k xs (sgn s id text) (by omega) (by omega) _).mono ?_
  rintro e w2 ⟨rfl, g⟩
  replace gz := gz.trans g
  clear g
  first | (refine hK.out _ _ ?_ (fun hHeld => ?_)) | (go_wp2_with fail; refine hK.out _ _ ?_ (fun hHeld => ?_))
  · (try dsimp only); (repeat (first | assumption | exact grown_refl _ | refine grown_dr ?_ | refine grown_dn ?_ | refine grown_al ?_))
  clear hK K
  refine wpAnyH_take (i := 12) (oi := _) (v := ?_) rfl (by kernel_rfl) (by kernel_rfl) (by kernel_rfl) (fun _ _ _ h => h) (Or.inl ⟨by rfl, ?_⟩) (by assumption) ?_
  rotate_left 1
  · (intro w hSw; (try dsimp only at hSw); go_simp; first | done | with_reducible rfl)
  try go_simp
  refine wpAnyH_take (i := 13) (oi := _) (v := ?_) rfl (by kernel_rfl) (by kernel_rfl) (by kernel_rfl) (fun _ _ _ h => h) (Or.inl ⟨by rfl, ?_⟩) (by assumption) ?_
  rotate_left 1
  · (intro w hSw; (try dsimp only at hSw); go_simp; first | done | with_reducible rfl)
  try go_simp
  refine wpAnyH_done (by kernel_rfl) ?_ _
  refine NoPanic.normal ?_
  go_simp
  go_wp2_with fail
  exact bodyPost_ret (results_tmp2 rfl _ _ _) rfl ⟨by rw [HE.out.1, HE.out.2]; rfl, gg.trans gz⟩
set_option maxRecDepth 100000 in
set_option maxHeartbeats 1000000 in
theorem sign_r (s : Int) (A : Option Addr) (n c : Nat) (l : List K) (id : Int) (text : Str) (hs : i64 s) (hid : i64 id) (ht : text.length ≤ 1000000) (w : World) (hk : Keys w A n c l) :
    Calls Tryd.prog 21 #[.agg #[.int .i64 s, .slice A n c], .int .i64 id, .string ⟨text.toArray⟩] w fun e w' => e = .returned (.tuple #[.string ⟨(signS s l id text).toArray⟩, .int .i64 (signE l id)]) ∧ w.grownBy w' none := by
  have HL := Lib.hid hk.len
  have HK := Lib.hid (fun W (g : w.grownBy W none) => hk.kept g)
  obtain ⟨w1, e1, HB, gg⟩ := row_of w 34 #[.int .i64 s, .slice A n c]
  have E1 := Lib.hid e1
  clear e1 hk
  go_enter Tryd.func21, Tryd.ntmps21
  go_upto_region 1 with fail
  rw [← E1.out]
  clear E1
  generalize w.heap.size = B at *
  have b0 : w1.cell? ⟨B, 0, none⟩ = some (.int .i64 s) := HB.c 0 rfl
  have b1 : w1.cell? ⟨B, 1, none⟩ = some (.slice A n c) := HB.c 1 rfl
  go_wp2_with fail
  refine (find_r s A n c l id hid _ (HK.out _ gg)).mono ?_
  rintro e w5 ⟨rfl, g⟩
  replace gg := gg.trans g
  replace HB := HB.kept g
  clear b0 b1 g
  rcases idxV_cases l id with ⟨hi, _⟩ | ⟨j, x, hi, hx, hxi⟩
  · rw [hi]
    have HE : Hid (signS s l id text = [] ∧ signE l id = 5) := Lib.hid (by simp [signS, signE, hi])
    clear hi
    go_wp2_with fail
    exact bodyPost_ret (results_tmp2 rfl _ _ _) rfl ⟨by rw [HE.out.1, HE.out.2]; rfl, gg⟩
  rw [hi]
  have hj := (List.getElem?_eq_some_iff.1 hx).1
  have hjn : j < n := by have := HL.out; omega
  have hcn := (HK.out _ gg).le
  have hcc := (HK.out _ gg).cap
  obtain ⟨ad, y, hy, rfl, hbl, ⟨o1, o2, o3, o4⟩, x0, x1, x2, x3⟩ := (HK.out _ gg).at j hjn
  rw [hx] at hy
  injection hy with hy
  subst hy
  clear hxi
  have hka : keyAt l j = x := by simp [keyAt, hx]
  have HE : Hid (signS s l id text = mark x.sec (sgn s id text) ∧ signE l id = 0) := Lib.hid (by
    unfold signS signE
    rw [hi, if_neg (by omega), if_neg (by omega), Int.toNat_natCast, hka]
    exact ⟨rfl, rfl⟩)
  have hsg := sgn_len (text := text) hs hid
  clear hi hka hx
  have b0 : w5.cell? ⟨B, 0, none⟩ = some (.int .i64 s) := HB.c 0 rfl
  have b1 : w5.cell? ⟨B, 1, none⟩ = some (.slice (some ad) n c) := HB.c 1 rfl
  obtain ⟨xi, xs, xf, xt⟩ := x
  simp only at o4
  go_upto_region 4 with fail
  have gz : w5.grownBy w5.drew none := grown_dr (grown_refl _)
  refine wp_region_noPanic ?_
  refine wp_region_held_drew (S := (fun w' => w5.grownBy w' none)) (by kernel_rfl) ?_ (fun hHeld => ?_)
  · (try dsimp only); (repeat (first | assumption | exact grown_refl _ | refine grown_dr ?_ | refine grown_dn ?_ | refine grown_al ?_))
  refine wpAnyH_take (i := 0) (oi := _) (v := ?_) rfl (by kernel_rfl) (by kernel_rfl) (by kernel_rfl) (fun _ _ _ h => h) (Or.inl ⟨by rfl, ?_⟩) (by assumption) ?_
  rotate_left 1
  · (intro w hSw; (try dsimp only at hSw); go_simp; first | done | with_reducible rfl)
  try go_simp
  refine wpAnyH_take (i := 1) (oi := _) (v := .slice (some ad) n c) rfl (by kernel_rfl) (by kernel_rfl) (by kernel_rfl) (fun _ _ _ h => h) (Or.inl ⟨by kernel_rfl, ?_⟩) (by assumption) ?_
  · (intro w hSw; (try dsimp only at hSw); go_simp; have y0 := gcell hSw b1; clear hSw; go_simp; first | done | with_reducible rfl)
  try go_simp
  refine wpAnyH_take (i := 2) (oi := _) (v := ?_) rfl (by kernel_rfl) (by kernel_rfl) (by kernel_rfl) (fun _ _ _ h => h) (Or.inl ⟨by rfl, ?_⟩) (by assumption) ?_
  rotate_left 1
  · (intro w hSw; (try dsimp only at hSw); go_simp; first | done | with_reducible rfl)
  try go_simp
  refine wpAnyH_take (i := 3) (oi := _) (v := ?_) rfl (by kernel_rfl) (by kernel_rfl) (by kernel_rfl) (fun _ _ _ h => h) (Or.inl ⟨by rfl, ?_⟩) (by assumption) ?_
  rotate_left 1
  · (intro w hSw; (try dsimp only at hSw); go_simp; first | done | with_reducible rfl)
  try go_simp
  refine wpAnyH_take (i := 4) (oi := _) (v := ?_) rfl (by kernel_rfl) (by kernel_rfl) (by kernel_rfl) (fun _ _ _ h => h) (Or.inl ⟨by rfl, ?_⟩) (by assumption) ?_
  rotate_left 1
  · (intro w hSw; (try dsimp only at hSw); go_simp; first | done | with_reducible rfl)
  try go_simp
  refine wpAnyH_take (i := 5) (oi := _) (v := .string ⟨xs.toArray⟩) rfl (by kernel_rfl) (by kernel_rfl) (by kernel_rfl) (fun _ _ _ h => h) (Or.inl ⟨by kernel_rfl, ?_⟩) (by assumption) ?_
  · (intro w hSw; (try dsimp only at hSw); go_simp; have y0 := gcell hSw x1; clear hSw; go_simp; first | done | with_reducible rfl)
  try go_simp
  refine wpAnyH_take (i := 6) (oi := _) (v := .agg #[.int .i64 s, .slice (some ad) n c]) rfl (by kernel_rfl) (by kernel_rfl) (by kernel_rfl) (fun _ _ _ h => h) (Or.inl ⟨by kernel_rfl, ?_⟩) (by assumption) ?_
  · (intro w hSw; (try dsimp only at hSw); go_simp; have y0 := gcell hSw b0; have y1 := gcell hSw b1; clear hSw; go_simp; first | done | with_reducible rfl)
  try go_simp
  refine wpAnyH_take (i := 7) (oi := _) (v := ?_) rfl (by kernel_rfl) (by kernel_rfl) (by kernel_rfl) (fun _ _ _ h => h) (Or.inl ⟨by rfl, ?_⟩) (by assumption) ?_
  rotate_left 1
  · (intro w hSw; (try dsimp only at hSw); go_simp; first | done | with_reducible rfl)
  try go_simp
  refine wpAnyH_take (i := 8) (oi := _) (v := ?_) rfl (by kernel_rfl) (by kernel_rfl) (by kernel_rfl) (fun _ _ _ h => h) (Or.inl ⟨by rfl, ?_⟩) (by assumption) ?_
  rotate_left 1
  · (intro w hSw; (try dsimp only at hSw); go_simp; first | done | with_reducible rfl)
  try go_simp
  refine wpAnyH_ready (rs := [9]) (by kernel_rfl) (by simp) ?_
  refine AllReadyH.cons (o := _) rfl (fun K hK => ?_) AllReadyH.nil
  go_simp
  refine (whole_r s _ n c id text hs hid ht _).mono ?_
  rintro e w2 ⟨rfl, g⟩
  replace gz := gz.trans g
  clear g
  first | (refine hK.out _ _ ?_ (fun hHeld => ?_)) | (go_wp2_with fail; refine hK.out _ _ ?_ (fun hHeld => ?_))
  · (try dsimp only); (repeat (first | assumption | exact grown_refl _ | refine grown_dr ?_ | refine grown_dn ?_ | refine grown_al ?_))
  clear hK K
  refine wpAnyH_ready (rs := [10]) (by kernel_rfl) (by simp) ?_
  refine AllReadyH.cons (o := _) rfl (fun K hK => ?_) AllReadyH.nil
  go_simp
  refine (mark_r xs (sgn s id text) (by omega) (by omega) _).mono ?_
  rintro e w2 ⟨rfl, g⟩
  replace gz := gz.trans g
  clear g
  first | (refine hK.out _ _ ?_ (fun hHeld => ?_)) | (go_wp2_with fail; refine hK.out _ _ ?_ (fun hHeld => ?_))
  · (try dsimp only); (repeat (first | assumption | exact grown_refl _ | refine grown_dr ?_ | refine grown_dn ?_ | refine grown_al ?_))
  clear hK K
  refine wpAnyH_take (i := 11) (oi := _) (v := ?_) rfl (by kernel_rfl) (by kernel_rfl) (by kernel_rfl) (fun _ _ _ h => h) (Or.inl ⟨by rfl, ?_⟩) (by assumption) ?_
  rotate_left 1
  · (intro w hSw; (try dsimp only at hSw); go_simp; first | done | with_reducible rfl)
  try go_simp
  refine wpAnyH_take (i := 12) (oi := _) (v := ?_) rfl (by kernel_rfl) (by kernel_rfl) (by kernel_rfl) (fun _ _ _ h => h) (Or.inl ⟨by rfl, ?_⟩) (by assumption) ?_
  rotate_left 1
  · (intro w hSw; (try dsimp only at hSw); go_simp; first | done | with_reducible rfl)
  try go_simp
  refine wpAnyH_done (by kernel_rfl) ?_ _
  refine NoPanic.normal ?_
  go_simp
  go_wp2_with fail
  exact bodyPost_ret (results_tmp2 rfl _ _ _) rfl ⟨by rw [HE.out.1, HE.out.2]; rfl, gg.trans gz⟩
set_option maxRecDepth 100000 in
set_option maxHeartbeats 2000000 in
theorem valid_k (s : Int) (A : Option Addr) (n c : Nat) (l : List K) (id : Int) (text mrk : Str) (day seen : Int) (hs : i64 s) (hid : i64 id) (hday : i64 day) (hseen : i64 seen) (ht : text.length ≤ 1000000) (w : World) (hb : Base w) (hk : Keys w A n c l) :
    Calls Tryd.prog 22 #[.agg #[.int .i64 s, .slice A n c], .int .i64 id, .string ⟨text.toArray⟩, .string ⟨mrk.toArray⟩, .int .i64 day, .int .i64 seen] w fun e w' => e = .returned (.int .i64 (validV s l id text mrk day seen)) ∧ w.grownBy w' none := by
  have HL := Lib.hid hk.len
  have HK := Lib.hid (fun W (g : w.grownBy W none) => hk.kept g)
  obtain ⟨w1, e1, HB, gg⟩ := row_of w 34 #[.int .i64 s, .slice A n c]
  have E1 := Lib.hid e1
  clear e1 hk
  have HBs := Lib.hid (fun W (g : w.grownBy W none) => hb.none_ g)
  clear hb
  obtain ⟨v1, v2⟩ := (show i64 seen from hseen)
  obtain ⟨v3, v4⟩ := (show i64 day from hday)
  go_enter Tryd.func22, Tryd.ntmps22
  go_upto_region 1 with fail
  rw [← E1.out]
  clear E1
  generalize w.heap.size = B at *
  have b0 : w1.cell? ⟨B, 0, none⟩ = some (.int .i64 s) := HB.c 0 rfl
  have b1 : w1.cell? ⟨B, 1, none⟩ = some (.slice A n c) := HB.c 1 rfl
  go_wp2_with fail
  refine (index_k A n c l id hid _ (HK.out _ gg)).mono ?_
  rintro e w5 ⟨rfl, g⟩
  replace gg := gg.trans g
  replace HB := HB.kept g
  clear b0 b1 g
  rcases idxV_cases l id with ⟨hi, _⟩ | ⟨j, x, hi, hx, hxi⟩
  · rw [hi]
    have HE : Hid (validV s l id text mrk day seen = 5) := Lib.hid (by simp [validV, hi])
    clear hi
    go_wp2_with fail
    go_ret
    exact ⟨by rw [HE.out]; rfl, gg⟩
  rw [hi]
  have hj := (List.getElem?_eq_some_iff.1 hx).1
  have hjn : j < n := by have := HL.out; omega
  have hcn := (HK.out _ gg).le
  have hcc := (HK.out _ gg).cap
  obtain ⟨ad, y, hy, rfl, hbl, ⟨o1, o2, o3, o4⟩, x0, x1, x2, x3⟩ := (HK.out _ gg).at j hjn
  rw [hx] at hy
  injection hy with hy
  subst hy
  clear hxi
  have hka : keyAt l j = x := by simp [keyAt, hx]
  have HV : Hid (validV s l id text mrk day seen = if day < x.frm then 23 else if (x.sec != [] && mrk == mark x.sec (sgn s id text)) = false then 11 else if stolenB x seen = true then 11 else 0) := Lib.hid (by
    unfold validV
    rw [hi, if_neg (by omega), Int.toNat_natCast, hka])
  have hsg := sgn_len (text := text) hs hid
  clear hi hka hx
  have b0 : w5.cell? ⟨B, 0, none⟩ = some (.int .i64 s) := HB.c 0 rfl
  have b1 : w5.cell? ⟨B, 1, none⟩ = some (.slice (some ad) n c) := HB.c 1 rfl
  obtain ⟨xi, xs, xf, xt⟩ := x
  simp only at o2 o3 o4 x0 x1 x2 x3
  go_upto_region 5 with fail
  obtain ⟨w6, e6, HX, g⟩ := row_of w5 28 #[.int .i64 xi, .string ⟨xs.toArray⟩, .int .i64 xf, .int .i64 xt]
  rw [← e6]
  replace gg := gg.trans g
  replace b0 := gcell g b0
  replace b1 := gcell g b1
  clear e6 x0 x1 x2 x3 g HB hbl
  generalize w5.heap.size = X at *
  have z0 : w6.cell? ⟨X, 0, none⟩ = some (.int .i64 xi) := HX.c 0 rfl
  have z1 : w6.cell? ⟨X, 1, none⟩ = some (.string ⟨xs.toArray⟩) := HX.c 1 rfl
  have z2 : w6.cell? ⟨X, 2, none⟩ = some (.int .i64 xf) := HX.c 2 rfl
  have z3 : w6.cell? ⟨X, 3, none⟩ = some (.int .i64 xt) := HX.c 3 rfl
  clear HX
  obtain ⟨q1, q2⟩ := (show i64 xf from o2)
  by_cases c1 : day < xf
  · have HE : Hid (validV s l id text mrk day seen = 23) := Lib.hid (by rw [HV.out, if_pos c1])
    have h1 : decide (day < xf) = true := by simpa using c1
    clear c1
    go_wp2_with fail
    go_ret
    exact ⟨by rw [HE.out]; rfl, gg⟩
  have h1 : decide (day < xf) = false := by simpa using c1
  have CK := Lib.hid (check_k xs (sgn s id text) mrk (by omega) (by omega))
  by_cases c2 : (xs != [] && mrk == mark xs (sgn s id text)) = false
  · have HE : Hid (validV s l id text mrk day seen = 11) := Lib.hid (by rw [HV.out, if_neg c1, if_pos c2])
    rw [c2] at CK
    clear c1 c2
    go_upto_region 7 with fail
    have gz : w6.grownBy w6.drew none := grown_dr (grown_refl _)
    refine wp_region_noPanic ?_
    refine wp_region_held_drew (S := (fun w' => w6.grownBy w' none)) (by kernel_rfl) ?_ (fun hHeld => ?_)
    · (try dsimp only); (repeat (first | assumption | exact grown_refl _ | refine grown_dr ?_ | refine grown_dn ?_ | refine grown_al ?_))
    refine wpAnyH_take (i := 0) (oi := _) (v := ?_) rfl (by kernel_rfl) (by kernel_rfl) (by kernel_rfl) (fun _ _ _ h => h) (Or.inl ⟨by rfl, ?_⟩) (by assumption) ?_
    rotate_left 1
    · (intro w hSw; (try dsimp only at hSw); go_simp; first | done | with_reducible rfl)
    try go_simp
    refine wpAnyH_take (i := 1) (oi := _) (v := .string ⟨xs.toArray⟩) rfl (by kernel_rfl) (by kernel_rfl) (by kernel_rfl) (fun _ _ _ h => h) (Or.inl ⟨by kernel_rfl, ?_⟩) (by assumption) ?_
    · (intro w hSw; (try dsimp only at hSw); go_simp; have y0 := gcell hSw z1; clear hSw; go_simp; first | done | with_reducible rfl)
    try go_simp
    refine wpAnyH_take (i := 2) (oi := _) (v := ?_) rfl (by kernel_rfl) (by kernel_rfl) (by kernel_rfl) (fun _ _ _ h => h) (Or.inl ⟨by rfl, ?_⟩) (by assumption) ?_
    rotate_left 1
    · (intro w hSw; (try dsimp only at hSw); go_simp; first | done | with_reducible rfl)
    try go_simp
    refine wpAnyH_take (i := 3) (oi := _) (v := .int .i64 s) rfl (by kernel_rfl) (by kernel_rfl) (by kernel_rfl) (fun _ _ _ h => h) (Or.inl ⟨by kernel_rfl, ?_⟩) (by assumption) ?_
    · (intro w hSw; (try dsimp only at hSw); go_simp; have y0 := gcell hSw b0; clear hSw; go_simp; first | done | with_reducible rfl)
    try go_simp
    refine wpAnyH_take (i := 4) (oi := _) (v := ?_) rfl (by kernel_rfl) (by kernel_rfl) (by kernel_rfl) (fun _ _ _ h => h) (Or.inl ⟨by rfl, ?_⟩) (by assumption) ?_
    rotate_left 1
    · (intro w hSw; (try dsimp only at hSw); go_simp; first | done | with_reducible rfl)
    try go_simp
    refine wpAnyH_take (i := 5) (oi := _) (v := ?_) rfl (by kernel_rfl) (by kernel_rfl) (by kernel_rfl) (fun _ _ _ h => h) (Or.inl ⟨by rfl, ?_⟩) (by assumption) ?_
    rotate_left 1
    · (intro w hSw; (try dsimp only at hSw); go_simp; first | done | with_reducible rfl)
    try go_simp
    refine wpAnyH_take (i := 7) (oi := _) (v := ?_) rfl (by kernel_rfl) (by kernel_rfl) (by kernel_rfl) (fun _ _ _ h => h) (Or.inl ⟨by rfl, ?_⟩) (by assumption) ?_
    rotate_left 1
    · (intro w hSw; (try dsimp only at hSw); go_simp; first | done | with_reducible rfl)
    try go_simp
    refine wpAnyH_ready (rs := [6]) (by kernel_rfl) (by simp) ?_
    refine AllReadyH.cons (o := _) rfl (fun K hK => ?_) AllReadyH.nil
    go_simp
    refine (signed_k s id text hs hid ht _ (HBs.out _ (gg.trans gz))).mono ?_
    rintro e w2 ⟨rfl, g⟩
    replace gz := gz.trans g
    clear g
    first | (refine hK.out _ _ ?_ (fun hHeld => ?_)) | (go_wp2_with fail; refine hK.out _ _ ?_ (fun hHeld => ?_))
    · (try dsimp only); (repeat (first | assumption | exact grown_refl _ | refine grown_dr ?_ | refine grown_dn ?_ | refine grown_al ?_))
    clear hK K
    refine wpAnyH_ready (rs := [8]) (by kernel_rfl) (by simp) ?_
    refine AllReadyH.cons (o := _) rfl (fun K hK => ?_) AllReadyH.nil
    go_simp
    refine (CK.out _).mono ?_
    rintro e w2 ⟨rfl, g⟩
    replace gz := gz.trans g
    clear g
    first | (refine hK.out _ _ ?_ (fun hHeld => ?_)) | (go_wp2_with fail; refine hK.out _ _ ?_ (fun hHeld => ?_))
    · (try dsimp only); (repeat (first | assumption | exact grown_refl _ | refine grown_dr ?_ | refine grown_dn ?_ | refine grown_al ?_))
    clear hK K
    refine wpAnyH_take (i := 9) (oi := _) (v := ?_) rfl (by kernel_rfl) (by kernel_rfl) (by kernel_rfl) (fun _ _ _ h => h) (Or.inl ⟨by rfl, ?_⟩) (by assumption) ?_
    rotate_left 1
    · (intro w hSw; (try dsimp only at hSw); go_simp; first | done | with_reducible rfl)
    try go_simp
    refine wpAnyH_take (i := 10) (oi := _) (v := ?_) rfl (by kernel_rfl) (by kernel_rfl) (by kernel_rfl) (fun _ _ _ h => h) (Or.inl ⟨by rfl, ?_⟩) (by assumption) ?_
    rotate_left 1
    · (intro w hSw; (try dsimp only at hSw); go_simp; first | done | with_reducible rfl)
    try go_simp
    refine wpAnyH_take (i := 11) (oi := _) (v := undef) rfl (by kernel_rfl) (by kernel_rfl) (by kernel_rfl) (fun _ _ _ h => h) (Or.inr ⟨by kernel_rfl, rfl⟩) (by assumption) ?_
    try go_simp
    refine wpAnyH_take (i := 12) (oi := _) (v := undef) rfl (by kernel_rfl) (by kernel_rfl) (by kernel_rfl) (fun _ _ _ h => h) (Or.inr ⟨by kernel_rfl, rfl⟩) (by assumption) ?_
    try go_simp
    refine wpAnyH_take (i := 13) (oi := _) (v := undef) rfl (by kernel_rfl) (by kernel_rfl) (by kernel_rfl) (fun _ _ _ h => h) (Or.inr ⟨by kernel_rfl, rfl⟩) (by assumption) ?_
    try go_simp
    refine wpAnyH_take (i := 14) (oi := _) (v := ?_) rfl (by kernel_rfl) (by kernel_rfl) (by kernel_rfl) (fun _ _ _ h => h) (Or.inl ⟨by rfl, ?_⟩) (by assumption) ?_
    rotate_left 1
    · (intro w hSw; (try dsimp only at hSw); go_simp; first | done | with_reducible rfl)
    try go_simp
    refine wpAnyH_done (by kernel_rfl) ?_ _
    refine NoPanic.normal ?_
    go_simp
    go_wp2_with fail
    go_ret
    exact ⟨by rw [HE.out]; rfl, gg.trans gz⟩
  have c2t := not_false c2
  rw [c2t] at CK
  clear c2t
  have SK := Lib.hid (stolen_k xi xs xf xt seen o3 hseen)
  by_cases c3 : stolenB ⟨xi, xs, xf, xt⟩ seen = true
  · have HE : Hid (validV s l id text mrk day seen = 11) := Lib.hid (by rw [HV.out, if_neg c1, if_neg c2, if_pos c3])
    rw [c3] at SK
    clear c1 c2 c3
    go_upto_region 7 with fail
    have gz : w6.grownBy w6.drew none := grown_dr (grown_refl _)
    refine wp_region_noPanic ?_
    refine wp_region_held_drew (S := (fun w' => w6.grownBy w' none)) (by kernel_rfl) ?_ (fun hHeld => ?_)
    · (try dsimp only); (repeat (first | assumption | exact grown_refl _ | refine grown_dr ?_ | refine grown_dn ?_ | refine grown_al ?_))
    refine wpAnyH_take (i := 0) (oi := _) (v := ?_) rfl (by kernel_rfl) (by kernel_rfl) (by kernel_rfl) (fun _ _ _ h => h) (Or.inl ⟨by rfl, ?_⟩) (by assumption) ?_
    rotate_left 1
    · (intro w hSw; (try dsimp only at hSw); go_simp; first | done | with_reducible rfl)
    try go_simp
    refine wpAnyH_take (i := 1) (oi := _) (v := .string ⟨xs.toArray⟩) rfl (by kernel_rfl) (by kernel_rfl) (by kernel_rfl) (fun _ _ _ h => h) (Or.inl ⟨by kernel_rfl, ?_⟩) (by assumption) ?_
    · (intro w hSw; (try dsimp only at hSw); go_simp; have y0 := gcell hSw z1; clear hSw; go_simp; first | done | with_reducible rfl)
    try go_simp
    refine wpAnyH_take (i := 2) (oi := _) (v := ?_) rfl (by kernel_rfl) (by kernel_rfl) (by kernel_rfl) (fun _ _ _ h => h) (Or.inl ⟨by rfl, ?_⟩) (by assumption) ?_
    rotate_left 1
    · (intro w hSw; (try dsimp only at hSw); go_simp; first | done | with_reducible rfl)
    try go_simp
    refine wpAnyH_take (i := 3) (oi := _) (v := .int .i64 s) rfl (by kernel_rfl) (by kernel_rfl) (by kernel_rfl) (fun _ _ _ h => h) (Or.inl ⟨by kernel_rfl, ?_⟩) (by assumption) ?_
    · (intro w hSw; (try dsimp only at hSw); go_simp; have y0 := gcell hSw b0; clear hSw; go_simp; first | done | with_reducible rfl)
    try go_simp
    refine wpAnyH_take (i := 4) (oi := _) (v := ?_) rfl (by kernel_rfl) (by kernel_rfl) (by kernel_rfl) (fun _ _ _ h => h) (Or.inl ⟨by rfl, ?_⟩) (by assumption) ?_
    rotate_left 1
    · (intro w hSw; (try dsimp only at hSw); go_simp; first | done | with_reducible rfl)
    try go_simp
    refine wpAnyH_take (i := 5) (oi := _) (v := ?_) rfl (by kernel_rfl) (by kernel_rfl) (by kernel_rfl) (fun _ _ _ h => h) (Or.inl ⟨by rfl, ?_⟩) (by assumption) ?_
    rotate_left 1
    · (intro w hSw; (try dsimp only at hSw); go_simp; first | done | with_reducible rfl)
    try go_simp
    refine wpAnyH_take (i := 7) (oi := _) (v := ?_) rfl (by kernel_rfl) (by kernel_rfl) (by kernel_rfl) (fun _ _ _ h => h) (Or.inl ⟨by rfl, ?_⟩) (by assumption) ?_
    rotate_left 1
    · (intro w hSw; (try dsimp only at hSw); go_simp; first | done | with_reducible rfl)
    try go_simp
    refine wpAnyH_ready (rs := [6]) (by kernel_rfl) (by simp) ?_
    refine AllReadyH.cons (o := _) rfl (fun K hK => ?_) AllReadyH.nil
    go_simp
    refine (signed_k s id text hs hid ht _ (HBs.out _ (gg.trans gz))).mono ?_
    rintro e w2 ⟨rfl, g⟩
    replace gz := gz.trans g
    clear g
    first | (refine hK.out _ _ ?_ (fun hHeld => ?_)) | (go_wp2_with fail; refine hK.out _ _ ?_ (fun hHeld => ?_))
    · (try dsimp only); (repeat (first | assumption | exact grown_refl _ | refine grown_dr ?_ | refine grown_dn ?_ | refine grown_al ?_))
    clear hK K
    refine wpAnyH_ready (rs := [8]) (by kernel_rfl) (by simp) ?_
    refine AllReadyH.cons (o := _) rfl (fun K hK => ?_) AllReadyH.nil
    go_simp
    refine (CK.out _).mono ?_
    rintro e w2 ⟨rfl, g⟩
    replace gz := gz.trans g
    clear g
    first | (refine hK.out _ _ ?_ (fun hHeld => ?_)) | (go_wp2_with fail; refine hK.out _ _ ?_ (fun hHeld => ?_))
    · (try dsimp only); (repeat (first | assumption | exact grown_refl _ | refine grown_dr ?_ | refine grown_dn ?_ | refine grown_al ?_))
    clear hK K
    refine wpAnyH_take (i := 9) (oi := _) (v := ?_) rfl (by kernel_rfl) (by kernel_rfl) (by kernel_rfl) (fun _ _ _ h => h) (Or.inl ⟨by rfl, ?_⟩) (by assumption) ?_
    rotate_left 1
    · (intro w hSw; (try dsimp only at hSw); go_simp; first | done | with_reducible rfl)
    try go_simp
    refine wpAnyH_take (i := 10) (oi := _) (v := ?_) rfl (by kernel_rfl) (by kernel_rfl) (by kernel_rfl) (fun _ _ _ h => h) (Or.inl ⟨by rfl, ?_⟩) (by assumption) ?_
    rotate_left 1
    · (intro w hSw; (try dsimp only at hSw); go_simp; first | done | with_reducible rfl)
    try go_simp
    refine wpAnyH_take (i := 11) (oi := _) (v := .agg #[.int .i64 xi, .string ⟨xs.toArray⟩, .int .i64 xf, .int .i64 xt]) rfl (by kernel_rfl) (by kernel_rfl) (by kernel_rfl) (fun _ _ _ h => h) (Or.inl ⟨by kernel_rfl, ?_⟩) (by assumption) ?_
    · (intro w hSw; (try dsimp only at hSw); go_simp; have y0 := gcell hSw z0; have y1 := gcell hSw z1; have y2 := gcell hSw z2; have y3 := gcell hSw z3; clear hSw; go_simp; first | done | with_reducible rfl)
    try go_simp
    refine wpAnyH_take (i := 12) (oi := _) (v := ?_) rfl (by kernel_rfl) (by kernel_rfl) (by kernel_rfl) (fun _ _ _ h => h) (Or.inl ⟨by kernel_rfl, ?_⟩) (by assumption) ?_
    rotate_left 1
    · (intro w hSw; (try dsimp only at hSw); go_simp; first | done | with_reducible rfl)
    try go_simp
    refine wpAnyH_ready (rs := [13]) (by kernel_rfl) (by simp) ?_
    refine AllReadyH.cons (o := _) rfl (fun K hK => ?_) AllReadyH.nil
    go_simp
    refine (SK.out _).mono ?_
    rintro e w2 ⟨rfl, g⟩
    replace gz := gz.trans g
    clear g
    first | (refine hK.out _ _ ?_ (fun hHeld => ?_)) | (go_wp2_with fail; refine hK.out _ _ ?_ (fun hHeld => ?_))
    · (try dsimp only); (repeat (first | assumption | exact grown_refl _ | refine grown_dr ?_ | refine grown_dn ?_ | refine grown_al ?_))
    clear hK K
    refine wpAnyH_take (i := 14) (oi := _) (v := ?_) rfl (by kernel_rfl) (by kernel_rfl) (by kernel_rfl) (fun _ _ _ h => h) (Or.inl ⟨by rfl, ?_⟩) (by assumption) ?_
    rotate_left 1
    · (intro w hSw; (try dsimp only at hSw); go_simp; first | done | with_reducible rfl)
    try go_simp
    refine wpAnyH_done (by kernel_rfl) ?_ _
    refine NoPanic.normal ?_
    go_simp
    go_wp2_with fail
    go_ret
    exact ⟨by rw [HE.out]; rfl, gg.trans gz⟩
  · have HE : Hid (validV s l id text mrk day seen = 0) := Lib.hid (by rw [HV.out, if_neg c1, if_neg c2, if_neg c3])
    have c3f : stolenB ⟨xi, xs, xf, xt⟩ seen = false := by simpa using c3
    rw [c3f] at SK
    clear c1 c2 c3 c3f
    go_upto_region 7 with fail
    have gz : w6.grownBy w6.drew none := grown_dr (grown_refl _)
    refine wp_region_noPanic ?_
    refine wp_region_held_drew (S := (fun w' => w6.grownBy w' none)) (by kernel_rfl) ?_ (fun hHeld => ?_)
    · (try dsimp only); (repeat (first | assumption | exact grown_refl _ | refine grown_dr ?_ | refine grown_dn ?_ | refine grown_al ?_))
    refine wpAnyH_take (i := 0) (oi := _) (v := ?_) rfl (by kernel_rfl) (by kernel_rfl) (by kernel_rfl) (fun _ _ _ h => h) (Or.inl ⟨by rfl, ?_⟩) (by assumption) ?_
    rotate_left 1
    · (intro w hSw; (try dsimp only at hSw); go_simp; first | done | with_reducible rfl)
    try go_simp
    refine wpAnyH_take (i := 1) (oi := _) (v := .string ⟨xs.toArray⟩) rfl (by kernel_rfl) (by kernel_rfl) (by kernel_rfl) (fun _ _ _ h => h) (Or.inl ⟨by kernel_rfl, ?_⟩) (by assumption) ?_
    · (intro w hSw; (try dsimp only at hSw); go_simp; have y0 := gcell hSw z1; clear hSw; go_simp; first | done | with_reducible rfl)
    try go_simp
    refine wpAnyH_take (i := 2) (oi := _) (v := ?_) rfl (by kernel_rfl) (by kernel_rfl) (by kernel_rfl) (fun _ _ _ h => h) (Or.inl ⟨by rfl, ?_⟩) (by assumption) ?_
    rotate_left 1
    · (intro w hSw; (try dsimp only at hSw); go_simp; first | done | with_reducible rfl)
    try go_simp
    refine wpAnyH_take (i := 3) (oi := _) (v := .int .i64 s) rfl (by kernel_rfl) (by kernel_rfl) (by kernel_rfl) (fun _ _ _ h => h) (Or.inl ⟨by kernel_rfl, ?_⟩) (by assumption) ?_
    · (intro w hSw; (try dsimp only at hSw); go_simp; have y0 := gcell hSw b0; clear hSw; go_simp; first | done | with_reducible rfl)
    try go_simp
    refine wpAnyH_take (i := 4) (oi := _) (v := ?_) rfl (by kernel_rfl) (by kernel_rfl) (by kernel_rfl) (fun _ _ _ h => h) (Or.inl ⟨by rfl, ?_⟩) (by assumption) ?_
    rotate_left 1
    · (intro w hSw; (try dsimp only at hSw); go_simp; first | done | with_reducible rfl)
    try go_simp
    refine wpAnyH_take (i := 5) (oi := _) (v := ?_) rfl (by kernel_rfl) (by kernel_rfl) (by kernel_rfl) (fun _ _ _ h => h) (Or.inl ⟨by rfl, ?_⟩) (by assumption) ?_
    rotate_left 1
    · (intro w hSw; (try dsimp only at hSw); go_simp; first | done | with_reducible rfl)
    try go_simp
    refine wpAnyH_take (i := 7) (oi := _) (v := ?_) rfl (by kernel_rfl) (by kernel_rfl) (by kernel_rfl) (fun _ _ _ h => h) (Or.inl ⟨by rfl, ?_⟩) (by assumption) ?_
    rotate_left 1
    · (intro w hSw; (try dsimp only at hSw); go_simp; first | done | with_reducible rfl)
    try go_simp
    refine wpAnyH_ready (rs := [6]) (by kernel_rfl) (by simp) ?_
    refine AllReadyH.cons (o := _) rfl (fun K hK => ?_) AllReadyH.nil
    go_simp
    refine (signed_k s id text hs hid ht _ (HBs.out _ (gg.trans gz))).mono ?_
    rintro e w2 ⟨rfl, g⟩
    replace gz := gz.trans g
    clear g
    first | (refine hK.out _ _ ?_ (fun hHeld => ?_)) | (go_wp2_with fail; refine hK.out _ _ ?_ (fun hHeld => ?_))
    · (try dsimp only); (repeat (first | assumption | exact grown_refl _ | refine grown_dr ?_ | refine grown_dn ?_ | refine grown_al ?_))
    clear hK K
    refine wpAnyH_ready (rs := [8]) (by kernel_rfl) (by simp) ?_
    refine AllReadyH.cons (o := _) rfl (fun K hK => ?_) AllReadyH.nil
    go_simp
    refine (CK.out _).mono ?_
    rintro e w2 ⟨rfl, g⟩
    replace gz := gz.trans g
    clear g
    first | (refine hK.out _ _ ?_ (fun hHeld => ?_)) | (go_wp2_with fail; refine hK.out _ _ ?_ (fun hHeld => ?_))
    · (try dsimp only); (repeat (first | assumption | exact grown_refl _ | refine grown_dr ?_ | refine grown_dn ?_ | refine grown_al ?_))
    clear hK K
    refine wpAnyH_take (i := 9) (oi := _) (v := ?_) rfl (by kernel_rfl) (by kernel_rfl) (by kernel_rfl) (fun _ _ _ h => h) (Or.inl ⟨by rfl, ?_⟩) (by assumption) ?_
    rotate_left 1
    · (intro w hSw; (try dsimp only at hSw); go_simp; first | done | with_reducible rfl)
    try go_simp
    refine wpAnyH_take (i := 10) (oi := _) (v := ?_) rfl (by kernel_rfl) (by kernel_rfl) (by kernel_rfl) (fun _ _ _ h => h) (Or.inl ⟨by rfl, ?_⟩) (by assumption) ?_
    rotate_left 1
    · (intro w hSw; (try dsimp only at hSw); go_simp; first | done | with_reducible rfl)
    try go_simp
    refine wpAnyH_take (i := 11) (oi := _) (v := .agg #[.int .i64 xi, .string ⟨xs.toArray⟩, .int .i64 xf, .int .i64 xt]) rfl (by kernel_rfl) (by kernel_rfl) (by kernel_rfl) (fun _ _ _ h => h) (Or.inl ⟨by kernel_rfl, ?_⟩) (by assumption) ?_
    · (intro w hSw; (try dsimp only at hSw); go_simp; have y0 := gcell hSw z0; have y1 := gcell hSw z1; have y2 := gcell hSw z2; have y3 := gcell hSw z3; clear hSw; go_simp; first | done | with_reducible rfl)
    try go_simp
    refine wpAnyH_take (i := 12) (oi := _) (v := ?_) rfl (by kernel_rfl) (by kernel_rfl) (by kernel_rfl) (fun _ _ _ h => h) (Or.inl ⟨by kernel_rfl, ?_⟩) (by assumption) ?_
    rotate_left 1
    · (intro w hSw; (try dsimp only at hSw); go_simp; first | done | with_reducible rfl)
    try go_simp
    refine wpAnyH_ready (rs := [13]) (by kernel_rfl) (by simp) ?_
    refine AllReadyH.cons (o := _) rfl (fun K hK => ?_) AllReadyH.nil
    go_simp
    refine (SK.out _).mono ?_
    rintro e w2 ⟨rfl, g⟩
    replace gz := gz.trans g
    clear g
    first | (refine hK.out _ _ ?_ (fun hHeld => ?_)) | (go_wp2_with fail; refine hK.out _ _ ?_ (fun hHeld => ?_))
    · (try dsimp only); (repeat (first | assumption | exact grown_refl _ | refine grown_dr ?_ | refine grown_dn ?_ | refine grown_al ?_))
    clear hK K
    refine wpAnyH_take (i := 14) (oi := _) (v := ?_) rfl (by kernel_rfl) (by kernel_rfl) (by kernel_rfl) (fun _ _ _ h => h) (Or.inl ⟨by rfl, ?_⟩) (by assumption) ?_
    rotate_left 1
    · (intro w hSw; (try dsimp only at hSw); go_simp; first | done | with_reducible rfl)
    try go_simp
    refine wpAnyH_done (by kernel_rfl) ?_ _
    refine NoPanic.normal ?_
    go_simp
    go_wp2_with fail
    go_ret
    exact ⟨by rw [HE.out]; rfl, gg.trans gz⟩
set_option maxRecDepth 100000 in
set_option maxHeartbeats 2000000 in
theorem valid_r (s : Int) (A : Option Addr) (n c : Nat) (l : List K) (id : Int) (text mrk : Str) (day seen : Int) (hs : i64 s) (hid : i64 id) (hday : i64 day) (hseen : i64 seen) (ht : text.length ≤ 1000000) (w : World) (hk : Keys w A n c l) :
    Calls Tryd.prog 23 #[.agg #[.int .i64 s, .slice A n c], .int .i64 id, .string ⟨text.toArray⟩, .string ⟨mrk.toArray⟩, .int .i64 day, .int .i64 seen] w fun e w' => e = .returned (.int .i64 (validV s l id text mrk day seen)) ∧ w.grownBy w' none := by
  have HL := Lib.hid hk.len
  have HK := Lib.hid (fun W (g : w.grownBy W none) => hk.kept g)
  obtain ⟨w1, e1, HB, gg⟩ := row_of w 34 #[.int .i64 s, .slice A n c]
  have E1 := Lib.hid e1
  clear e1 hk
  obtain ⟨v1, v2⟩ := (show i64 seen from hseen)
  obtain ⟨v3, v4⟩ := (show i64 day from hday)
  go_enter Tryd.func23, Tryd.ntmps23
  go_upto_region 1 with fail
  rw [← E1.out]
  clear E1
  generalize w.heap.size = B at *
  have b0 : w1.cell? ⟨B, 0, none⟩ = some (.int .i64 s) := HB.c 0 rfl
  have b1 : w1.cell? ⟨B, 1, none⟩ = some (.slice A n c) := HB.c 1 rfl
  go_wp2_with fail
  refine (find_r s A n c l id hid _ (HK.out _ gg)).mono ?_
  rintro e w5 ⟨rfl, g⟩
  replace gg := gg.trans g
  replace HB := HB.kept g
  clear b0 b1 g
  rcases idxV_cases l id with ⟨hi, _⟩ | ⟨j, x, hi, hx, hxi⟩
  · rw [hi]
    have HE : Hid (validV s l id text mrk day seen = 5) := Lib.hid (by simp [validV, hi])
    clear hi
    go_wp2_with fail
    go_ret
    exact ⟨by rw [HE.out]; rfl, gg⟩
  rw [hi]
  have hj := (List.getElem?_eq_some_iff.1 hx).1
  have hjn : j < n := by have := HL.out; omega
  have hcn := (HK.out _ gg).le
  have hcc := (HK.out _ gg).cap
  obtain ⟨ad, y, hy, rfl, hbl, ⟨o1, o2, o3, o4⟩, x0, x1, x2, x3⟩ := (HK.out _ gg).at j hjn
  rw [hx] at hy
  injection hy with hy
  subst hy
  clear hxi
  have hka : keyAt l j = x := by simp [keyAt, hx]
  have HV : Hid (validV s l id text mrk day seen = if day < x.frm then 23 else if (x.sec != [] && mrk == mark x.sec (sgn s id text)) = false then 11 else if stolenB x seen = true then 11 else 0) := Lib.hid (by
    unfold validV
    rw [hi, if_neg (by omega), Int.toNat_natCast, hka])
  have hsg := sgn_len (text := text) hs hid
  clear hi hka hx
  have b0 : w5.cell? ⟨B, 0, none⟩ = some (.int .i64 s) := HB.c 0 rfl
  have b1 : w5.cell? ⟨B, 1, none⟩ = some (.slice (some ad) n c) := HB.c 1 rfl
  obtain ⟨xi, xs, xf, xt⟩ := x
  simp only at o2 o3 o4 x0 x1 x2 x3
  go_upto_region 5 with fail
  obtain ⟨w6, e6, HX, g⟩ := row_of w5 28 #[.int .i64 xi, .string ⟨xs.toArray⟩, .int .i64 xf, .int .i64 xt]
  rw [← e6]
  replace gg := gg.trans g
  replace b0 := gcell g b0
  replace b1 := gcell g b1
  clear e6 x0 x1 x2 x3 g HB hbl
  generalize w5.heap.size = X at *
  have z0 : w6.cell? ⟨X, 0, none⟩ = some (.int .i64 xi) := HX.c 0 rfl
  have z1 : w6.cell? ⟨X, 1, none⟩ = some (.string ⟨xs.toArray⟩) := HX.c 1 rfl
  have z2 : w6.cell? ⟨X, 2, none⟩ = some (.int .i64 xf) := HX.c 2 rfl
  have z3 : w6.cell? ⟨X, 3, none⟩ = some (.int .i64 xt) := HX.c 3 rfl
  clear HX
  obtain ⟨q1, q2⟩ := (show i64 xf from o2)
  by_cases c1 : day < xf
  · have HE : Hid (validV s l id text mrk day seen = 23) := Lib.hid (by rw [HV.out, if_pos c1])
    have h1 : decide (day < xf) = true := by simpa using c1
    clear c1
    go_wp2_with fail
    go_ret
    exact ⟨by rw [HE.out]; rfl, gg⟩
  have h1 : decide (day < xf) = false := by simpa using c1
  have CK := Lib.hid (check_r xs (sgn s id text) mrk (by omega) (by omega))
  by_cases c2 : (xs != [] && mrk == mark xs (sgn s id text)) = false
  · have HE : Hid (validV s l id text mrk day seen = 11) := Lib.hid (by rw [HV.out, if_neg c1, if_pos c2])
    rw [c2] at CK
    clear c1 c2
    go_upto_region 7 with fail
    have gz : w6.grownBy w6.drew none := grown_dr (grown_refl _)
    refine wp_region_noPanic ?_
    refine wp_region_held_drew (S := (fun w' => w6.grownBy w' none)) (by kernel_rfl) ?_ (fun hHeld => ?_)
    · (try dsimp only); (repeat (first | assumption | exact grown_refl _ | refine grown_dr ?_ | refine grown_dn ?_ | refine grown_al ?_))
    refine wpAnyH_take (i := 0) (oi := _) (v := ?_) rfl (by kernel_rfl) (by kernel_rfl) (by kernel_rfl) (fun _ _ _ h => h) (Or.inl ⟨by rfl, ?_⟩) (by assumption) ?_
    rotate_left 1
    · (intro w hSw; (try dsimp only at hSw); go_simp; first | done | with_reducible rfl)
    try go_simp
    refine wpAnyH_take (i := 1) (oi := _) (v := .string ⟨xs.toArray⟩) rfl (by kernel_rfl) (by kernel_rfl) (by kernel_rfl) (fun _ _ _ h => h) (Or.inl ⟨by kernel_rfl, ?_⟩) (by assumption) ?_
    · (intro w hSw; (try dsimp only at hSw); go_simp; have y0 := gcell hSw z1; clear hSw; go_simp; first | done | with_reducible rfl)
    try go_simp
    refine wpAnyH_take (i := 2) (oi := _) (v := .agg #[.int .i64 s, .slice (some ad) n c]) rfl (by kernel_rfl) (by kernel_rfl) (by kernel_rfl) (fun _ _ _ h => h) (Or.inl ⟨by kernel_rfl, ?_⟩) (by assumption) ?_
    · (intro w hSw; (try dsimp only at hSw); go_simp; have y0 := gcell hSw b0; have y1 := gcell hSw b1; clear hSw; go_simp; first | done | with_reducible rfl)
    try go_simp
    refine wpAnyH_take (i := 3) (oi := _) (v := ?_) rfl (by kernel_rfl) (by kernel_rfl) (by kernel_rfl) (fun _ _ _ h => h) (Or.inl ⟨by rfl, ?_⟩) (by assumption) ?_
    rotate_left 1
    · (intro w hSw; (try dsimp only at hSw); go_simp; first | done | with_reducible rfl)
    try go_simp
    refine wpAnyH_take (i := 4) (oi := _) (v := ?_) rfl (by kernel_rfl) (by kernel_rfl) (by kernel_rfl) (fun _ _ _ h => h) (Or.inl ⟨by rfl, ?_⟩) (by assumption) ?_
    rotate_left 1
    · (intro w hSw; (try dsimp only at hSw); go_simp; first | done | with_reducible rfl)
    try go_simp
    refine wpAnyH_take (i := 6) (oi := _) (v := ?_) rfl (by kernel_rfl) (by kernel_rfl) (by kernel_rfl) (fun _ _ _ h => h) (Or.inl ⟨by rfl, ?_⟩) (by assumption) ?_
    rotate_left 1
    · (intro w hSw; (try dsimp only at hSw); go_simp; first | done | with_reducible rfl)
    try go_simp
    refine wpAnyH_ready (rs := [5]) (by kernel_rfl) (by simp) ?_
    refine AllReadyH.cons (o := _) rfl (fun K hK => ?_) AllReadyH.nil
    go_simp
    refine (whole_r s _ n c id text hs hid ht _).mono ?_
    rintro e w2 ⟨rfl, g⟩
    replace gz := gz.trans g
    clear g
    first | (refine hK.out _ _ ?_ (fun hHeld => ?_)) | (go_wp2_with fail; refine hK.out _ _ ?_ (fun hHeld => ?_))
    · (try dsimp only); (repeat (first | assumption | exact grown_refl _ | refine grown_dr ?_ | refine grown_dn ?_ | refine grown_al ?_))
    clear hK K
    refine wpAnyH_ready (rs := [7]) (by kernel_rfl) (by simp) ?_
    refine AllReadyH.cons (o := _) rfl (fun K hK => ?_) AllReadyH.nil
    go_simp
    refine (CK.out _).mono ?_
    rintro e w2 ⟨rfl, g⟩
    replace gz := gz.trans g
    clear g
    first | (refine hK.out _ _ ?_ (fun hHeld => ?_)) | (go_wp2_with fail; refine hK.out _ _ ?_ (fun hHeld => ?_))
    · (try dsimp only); (repeat (first | assumption | exact grown_refl _ | refine grown_dr ?_ | refine grown_dn ?_ | refine grown_al ?_))
    clear hK K
    refine wpAnyH_take (i := 8) (oi := _) (v := ?_) rfl (by kernel_rfl) (by kernel_rfl) (by kernel_rfl) (fun _ _ _ h => h) (Or.inl ⟨by rfl, ?_⟩) (by assumption) ?_
    rotate_left 1
    · (intro w hSw; (try dsimp only at hSw); go_simp; first | done | with_reducible rfl)
    try go_simp
    refine wpAnyH_done (by kernel_rfl) ?_ _
    refine NoPanic.normal ?_
    go_simp
    go_wp2_with fail
    go_ret
    exact ⟨by rw [HE.out]; rfl, gg.trans gz⟩
  have c2t := not_false c2
  rw [c2t] at CK
  clear c2t
  by_cases c4 : xt = 0
  · have HE : Hid (validV s l id text mrk day seen = 0) := Lib.hid (by rw [HV.out, if_neg c1, if_neg c2, if_neg (by simp [stolenB, c4])])
    have h4 : (xt != 0) = false := by simp [c4]
    clear c1 c2 c4
    go_upto_region 7 with fail
    have gz : w6.grownBy w6.drew none := grown_dr (grown_refl _)
    refine wp_region_noPanic ?_
    refine wp_region_held_drew (S := (fun w' => w6.grownBy w' none)) (by kernel_rfl) ?_ (fun hHeld => ?_)
    · (try dsimp only); (repeat (first | assumption | exact grown_refl _ | refine grown_dr ?_ | refine grown_dn ?_ | refine grown_al ?_))
    refine wpAnyH_take (i := 0) (oi := _) (v := ?_) rfl (by kernel_rfl) (by kernel_rfl) (by kernel_rfl) (fun _ _ _ h => h) (Or.inl ⟨by rfl, ?_⟩) (by assumption) ?_
    rotate_left 1
    · (intro w hSw; (try dsimp only at hSw); go_simp; first | done | with_reducible rfl)
    try go_simp
    refine wpAnyH_take (i := 1) (oi := _) (v := .string ⟨xs.toArray⟩) rfl (by kernel_rfl) (by kernel_rfl) (by kernel_rfl) (fun _ _ _ h => h) (Or.inl ⟨by kernel_rfl, ?_⟩) (by assumption) ?_
    · (intro w hSw; (try dsimp only at hSw); go_simp; have y0 := gcell hSw z1; clear hSw; go_simp; first | done | with_reducible rfl)
    try go_simp
    refine wpAnyH_take (i := 2) (oi := _) (v := .agg #[.int .i64 s, .slice (some ad) n c]) rfl (by kernel_rfl) (by kernel_rfl) (by kernel_rfl) (fun _ _ _ h => h) (Or.inl ⟨by kernel_rfl, ?_⟩) (by assumption) ?_
    · (intro w hSw; (try dsimp only at hSw); go_simp; have y0 := gcell hSw b0; have y1 := gcell hSw b1; clear hSw; go_simp; first | done | with_reducible rfl)
    try go_simp
    refine wpAnyH_take (i := 3) (oi := _) (v := ?_) rfl (by kernel_rfl) (by kernel_rfl) (by kernel_rfl) (fun _ _ _ h => h) (Or.inl ⟨by rfl, ?_⟩) (by assumption) ?_
    rotate_left 1
    · (intro w hSw; (try dsimp only at hSw); go_simp; first | done | with_reducible rfl)
    try go_simp
    refine wpAnyH_take (i := 4) (oi := _) (v := ?_) rfl (by kernel_rfl) (by kernel_rfl) (by kernel_rfl) (fun _ _ _ h => h) (Or.inl ⟨by rfl, ?_⟩) (by assumption) ?_
    rotate_left 1
    · (intro w hSw; (try dsimp only at hSw); go_simp; first | done | with_reducible rfl)
    try go_simp
    refine wpAnyH_take (i := 6) (oi := _) (v := ?_) rfl (by kernel_rfl) (by kernel_rfl) (by kernel_rfl) (fun _ _ _ h => h) (Or.inl ⟨by rfl, ?_⟩) (by assumption) ?_
    rotate_left 1
    · (intro w hSw; (try dsimp only at hSw); go_simp; first | done | with_reducible rfl)
    try go_simp
    refine wpAnyH_ready (rs := [5]) (by kernel_rfl) (by simp) ?_
    refine AllReadyH.cons (o := _) rfl (fun K hK => ?_) AllReadyH.nil
    go_simp
    refine (whole_r s _ n c id text hs hid ht _).mono ?_
    rintro e w2 ⟨rfl, g⟩
    replace gz := gz.trans g
    clear g
    first | (refine hK.out _ _ ?_ (fun hHeld => ?_)) | (go_wp2_with fail; refine hK.out _ _ ?_ (fun hHeld => ?_))
    · (try dsimp only); (repeat (first | assumption | exact grown_refl _ | refine grown_dr ?_ | refine grown_dn ?_ | refine grown_al ?_))
    clear hK K
    refine wpAnyH_ready (rs := [7]) (by kernel_rfl) (by simp) ?_
    refine AllReadyH.cons (o := _) rfl (fun K hK => ?_) AllReadyH.nil
    go_simp
    refine (CK.out _).mono ?_
    rintro e w2 ⟨rfl, g⟩
    replace gz := gz.trans g
    clear g
    first | (refine hK.out _ _ ?_ (fun hHeld => ?_)) | (go_wp2_with fail; refine hK.out _ _ ?_ (fun hHeld => ?_))
    · (try dsimp only); (repeat (first | assumption | exact grown_refl _ | refine grown_dr ?_ | refine grown_dn ?_ | refine grown_al ?_))
    clear hK K
    refine wpAnyH_take (i := 8) (oi := _) (v := ?_) rfl (by kernel_rfl) (by kernel_rfl) (by kernel_rfl) (fun _ _ _ h => h) (Or.inl ⟨by rfl, ?_⟩) (by assumption) ?_
    rotate_left 1
    · (intro w hSw; (try dsimp only at hSw); go_simp; first | done | with_reducible rfl)
    try go_simp
    refine wpAnyH_done (by kernel_rfl) ?_ _
    refine NoPanic.normal ?_
    go_simp
    have t3 := gcell gz z3
    go_wp2_with fail
    go_ret
    exact ⟨by rw [HE.out]; rfl, gg.trans gz⟩
  by_cases c5 : seen < xt
  · have HE : Hid (validV s l id text mrk day seen = 0) := Lib.hid (by rw [HV.out, if_neg c1, if_neg c2, if_neg (by simp [stolenB]; omega)])
    have h4 : (xt != 0) = true := by simpa using c4
    have h5 : decide (xt ≤ seen) = false := by simp; omega
    clear c1 c2 c4 c5
    go_upto_region 7 with fail
    have gz : w6.grownBy w6.drew none := grown_dr (grown_refl _)
    refine wp_region_noPanic ?_
    refine wp_region_held_drew (S := (fun w' => w6.grownBy w' none)) (by kernel_rfl) ?_ (fun hHeld => ?_)
    · (try dsimp only); (repeat (first | assumption | exact grown_refl _ | refine grown_dr ?_ | refine grown_dn ?_ | refine grown_al ?_))
    refine wpAnyH_take (i := 0) (oi := _) (v := ?_) rfl (by kernel_rfl) (by kernel_rfl) (by kernel_rfl) (fun _ _ _ h => h) (Or.inl ⟨by rfl, ?_⟩) (by assumption) ?_
    rotate_left 1
    · (intro w hSw; (try dsimp only at hSw); go_simp; first | done | with_reducible rfl)
    try go_simp
    refine wpAnyH_take (i := 1) (oi := _) (v := .string ⟨xs.toArray⟩) rfl (by kernel_rfl) (by kernel_rfl) (by kernel_rfl) (fun _ _ _ h => h) (Or.inl ⟨by kernel_rfl, ?_⟩) (by assumption) ?_
    · (intro w hSw; (try dsimp only at hSw); go_simp; have y0 := gcell hSw z1; clear hSw; go_simp; first | done | with_reducible rfl)
    try go_simp
    refine wpAnyH_take (i := 2) (oi := _) (v := .agg #[.int .i64 s, .slice (some ad) n c]) rfl (by kernel_rfl) (by kernel_rfl) (by kernel_rfl) (fun _ _ _ h => h) (Or.inl ⟨by kernel_rfl, ?_⟩) (by assumption) ?_
    · (intro w hSw; (try dsimp only at hSw); go_simp; have y0 := gcell hSw b0; have y1 := gcell hSw b1; clear hSw; go_simp; first | done | with_reducible rfl)
    try go_simp
    refine wpAnyH_take (i := 3) (oi := _) (v := ?_) rfl (by kernel_rfl) (by kernel_rfl) (by kernel_rfl) (fun _ _ _ h => h) (Or.inl ⟨by rfl, ?_⟩) (by assumption) ?_
    rotate_left 1
    · (intro w hSw; (try dsimp only at hSw); go_simp; first | done | with_reducible rfl)
    try go_simp
    refine wpAnyH_take (i := 4) (oi := _) (v := ?_) rfl (by kernel_rfl) (by kernel_rfl) (by kernel_rfl) (fun _ _ _ h => h) (Or.inl ⟨by rfl, ?_⟩) (by assumption) ?_
    rotate_left 1
    · (intro w hSw; (try dsimp only at hSw); go_simp; first | done | with_reducible rfl)
    try go_simp
    refine wpAnyH_take (i := 6) (oi := _) (v := ?_) rfl (by kernel_rfl) (by kernel_rfl) (by kernel_rfl) (fun _ _ _ h => h) (Or.inl ⟨by rfl, ?_⟩) (by assumption) ?_
    rotate_left 1
    · (intro w hSw; (try dsimp only at hSw); go_simp; first | done | with_reducible rfl)
    try go_simp
    refine wpAnyH_ready (rs := [5]) (by kernel_rfl) (by simp) ?_
    refine AllReadyH.cons (o := _) rfl (fun K hK => ?_) AllReadyH.nil
    go_simp
    refine (whole_r s _ n c id text hs hid ht _).mono ?_
    rintro e w2 ⟨rfl, g⟩
    replace gz := gz.trans g
    clear g
    first | (refine hK.out _ _ ?_ (fun hHeld => ?_)) | (go_wp2_with fail; refine hK.out _ _ ?_ (fun hHeld => ?_))
    · (try dsimp only); (repeat (first | assumption | exact grown_refl _ | refine grown_dr ?_ | refine grown_dn ?_ | refine grown_al ?_))
    clear hK K
    refine wpAnyH_ready (rs := [7]) (by kernel_rfl) (by simp) ?_
    refine AllReadyH.cons (o := _) rfl (fun K hK => ?_) AllReadyH.nil
    go_simp
    refine (CK.out _).mono ?_
    rintro e w2 ⟨rfl, g⟩
    replace gz := gz.trans g
    clear g
    first | (refine hK.out _ _ ?_ (fun hHeld => ?_)) | (go_wp2_with fail; refine hK.out _ _ ?_ (fun hHeld => ?_))
    · (try dsimp only); (repeat (first | assumption | exact grown_refl _ | refine grown_dr ?_ | refine grown_dn ?_ | refine grown_al ?_))
    clear hK K
    refine wpAnyH_take (i := 8) (oi := _) (v := ?_) rfl (by kernel_rfl) (by kernel_rfl) (by kernel_rfl) (fun _ _ _ h => h) (Or.inl ⟨by rfl, ?_⟩) (by assumption) ?_
    rotate_left 1
    · (intro w hSw; (try dsimp only at hSw); go_simp; first | done | with_reducible rfl)
    try go_simp
    refine wpAnyH_done (by kernel_rfl) ?_ _
    refine NoPanic.normal ?_
    go_simp
    have t3 := gcell gz z3
    go_wp2_with fail
    go_ret
    exact ⟨by rw [HE.out]; rfl, gg.trans gz⟩
  · have HE : Hid (validV s l id text mrk day seen = 11) := Lib.hid (by rw [HV.out, if_neg c1, if_neg c2, if_pos (by simp [stolenB]; omega)])
    have h4 : (xt != 0) = true := by simpa using c4
    have h5 : decide (xt ≤ seen) = true := by simp; omega
    clear c1 c2 c4 c5
    go_upto_region 7 with fail
    have gz : w6.grownBy w6.drew none := grown_dr (grown_refl _)
    refine wp_region_noPanic ?_
    refine wp_region_held_drew (S := (fun w' => w6.grownBy w' none)) (by kernel_rfl) ?_ (fun hHeld => ?_)
    · (try dsimp only); (repeat (first | assumption | exact grown_refl _ | refine grown_dr ?_ | refine grown_dn ?_ | refine grown_al ?_))
    refine wpAnyH_take (i := 0) (oi := _) (v := ?_) rfl (by kernel_rfl) (by kernel_rfl) (by kernel_rfl) (fun _ _ _ h => h) (Or.inl ⟨by rfl, ?_⟩) (by assumption) ?_
    rotate_left 1
    · (intro w hSw; (try dsimp only at hSw); go_simp; first | done | with_reducible rfl)
    try go_simp
    refine wpAnyH_take (i := 1) (oi := _) (v := .string ⟨xs.toArray⟩) rfl (by kernel_rfl) (by kernel_rfl) (by kernel_rfl) (fun _ _ _ h => h) (Or.inl ⟨by kernel_rfl, ?_⟩) (by assumption) ?_
    · (intro w hSw; (try dsimp only at hSw); go_simp; have y0 := gcell hSw z1; clear hSw; go_simp; first | done | with_reducible rfl)
    try go_simp
    refine wpAnyH_take (i := 2) (oi := _) (v := .agg #[.int .i64 s, .slice (some ad) n c]) rfl (by kernel_rfl) (by kernel_rfl) (by kernel_rfl) (fun _ _ _ h => h) (Or.inl ⟨by kernel_rfl, ?_⟩) (by assumption) ?_
    · (intro w hSw; (try dsimp only at hSw); go_simp; have y0 := gcell hSw b0; have y1 := gcell hSw b1; clear hSw; go_simp; first | done | with_reducible rfl)
    try go_simp
    refine wpAnyH_take (i := 3) (oi := _) (v := ?_) rfl (by kernel_rfl) (by kernel_rfl) (by kernel_rfl) (fun _ _ _ h => h) (Or.inl ⟨by rfl, ?_⟩) (by assumption) ?_
    rotate_left 1
    · (intro w hSw; (try dsimp only at hSw); go_simp; first | done | with_reducible rfl)
    try go_simp
    refine wpAnyH_take (i := 4) (oi := _) (v := ?_) rfl (by kernel_rfl) (by kernel_rfl) (by kernel_rfl) (fun _ _ _ h => h) (Or.inl ⟨by rfl, ?_⟩) (by assumption) ?_
    rotate_left 1
    · (intro w hSw; (try dsimp only at hSw); go_simp; first | done | with_reducible rfl)
    try go_simp
    refine wpAnyH_take (i := 6) (oi := _) (v := ?_) rfl (by kernel_rfl) (by kernel_rfl) (by kernel_rfl) (fun _ _ _ h => h) (Or.inl ⟨by rfl, ?_⟩) (by assumption) ?_
    rotate_left 1
    · (intro w hSw; (try dsimp only at hSw); go_simp; first | done | with_reducible rfl)
    try go_simp
    refine wpAnyH_ready (rs := [5]) (by kernel_rfl) (by simp) ?_
    refine AllReadyH.cons (o := _) rfl (fun K hK => ?_) AllReadyH.nil
    go_simp
    refine (whole_r s _ n c id text hs hid ht _).mono ?_
    rintro e w2 ⟨rfl, g⟩
    replace gz := gz.trans g
    clear g
    first | (refine hK.out _ _ ?_ (fun hHeld => ?_)) | (go_wp2_with fail; refine hK.out _ _ ?_ (fun hHeld => ?_))
    · (try dsimp only); (repeat (first | assumption | exact grown_refl _ | refine grown_dr ?_ | refine grown_dn ?_ | refine grown_al ?_))
    clear hK K
    refine wpAnyH_ready (rs := [7]) (by kernel_rfl) (by simp) ?_
    refine AllReadyH.cons (o := _) rfl (fun K hK => ?_) AllReadyH.nil
    go_simp
    refine (CK.out _).mono ?_
    rintro e w2 ⟨rfl, g⟩
    replace gz := gz.trans g
    clear g
    first | (refine hK.out _ _ ?_ (fun hHeld => ?_)) | (go_wp2_with fail; refine hK.out _ _ ?_ (fun hHeld => ?_))
    · (try dsimp only); (repeat (first | assumption | exact grown_refl _ | refine grown_dr ?_ | refine grown_dn ?_ | refine grown_al ?_))
    clear hK K
    refine wpAnyH_take (i := 8) (oi := _) (v := ?_) rfl (by kernel_rfl) (by kernel_rfl) (by kernel_rfl) (fun _ _ _ h => h) (Or.inl ⟨by rfl, ?_⟩) (by assumption) ?_
    rotate_left 1
    · (intro w hSw; (try dsimp only at hSw); go_simp; first | done | with_reducible rfl)
    try go_simp
    refine wpAnyH_done (by kernel_rfl) ?_ _
    refine NoPanic.normal ?_
    go_simp
    have t3 := gcell gz z3
    go_wp2_with fail
    go_ret
    exact ⟨by rw [HE.out]; rfl, gg.trans gz⟩
end Go.Proofs.YtecobgjkodmaiaaDoor
