/-
  The laws' sanity, by its contract.
-/
import Derived.Test.YtecobgjkodmaiaaDoorSane
namespace Go.Proofs.YtecobgjkodmaiaaDoor
open Go.RowKit
attribute [local go_sem] get_mk extract_mk
theorem i64_of {z : Int} (h : decide (-9223372036854775808 ≤ z ∧ z ≤ 9223372036854775807) = true) : i64 z := by
  unfold i64
  exact of_decide_eq_true h
theorem i3 : i64 3 := i64_of (by decide)
theorem i4 : i64 4 := i64_of (by decide)
theorem i5 : i64 5 := i64_of (by decide)
theorem i40 : i64 40 := i64_of (by decide)
theorem i49 : i64 49 := i64_of (by decide)
theorem i50 : i64 50 := i64_of (by decide)
theorem i60 : i64 60 := i64_of (by decide)
theorem i69 : i64 69 := i64_of (by decide)
theorem i70 : i64 70 := i64_of (by decide)
theorem ok4 : K.ok ⟨4, [99], 60, 0⟩ := ⟨i4, i60, i64_of (by decide), by decide⟩
theorem ok5 : K.ok ⟨5, [99], 49, 0⟩ := ⟨i5, i49, i64_of (by decide), by decide⟩
theorem ck_ex : chkR 3 exL = 0 := by decide
set_option maxRecDepth 100000 in
set_option maxHeartbeats 4000000 in
/-- the laws' sanity -/
theorem sane_k (w : World) (hb : Base w) : Calls Tryd.prog 9 #[] w fun e w' => e = .returned (.bool true) ∧ w.grownBy w' none := by
  have HBs := Lib.hid (fun W (g : w.grownBy W none) => hb.none_ g)
  clear hb
  go_enter Tryd.func9, Tryd.ntmps9
  go_wp2_with fail
  refine (example_k w).mono ?_
  rintro e w1 ⟨g0, rfl, hk1, gW⟩
  have HE := Lib.hid (fun W (g : w1.grownBy W none) => hk1.kept g)
  clear hk1
  go_upto_region 2 with fail
  obtain ⟨w2, e2, HR, gg⟩ := row_of w1 34 #[.int .i64 3, .slice (some ⟨g0, 0, none⟩) 2 2]
  rw [← e2]
  replace gW := gW.trans gg
  clear e2
  generalize w1.heap.size = P at *
  have r0 : w2.cell? ⟨P, 0, none⟩ = some (.int .i64 3) := HR.c 0 rfl
  have r1 : w2.cell? ⟨P, 1, none⟩ = some (.slice (some ⟨g0, 0, none⟩) 2 2) := HR.c 1 rfl
  clear HR
  have KA := Lib.hid (fun (W : World) (h : Keys W (some ⟨g0, 0, none⟩) 2 2 exL) => (steal_a ▸ stealring_k 3 (some ⟨g0, 0, none⟩) 2 2 exL 4 70 i3 i4 i70 (by decide) W h : Calls Tryd.prog 15 #[.agg #[.int .i64 3, .slice (some ⟨g0, 0, none⟩) 2 2], .int .i64 4, .int .i64 70] W (RingIs W (3, exT, 0))))
  have KB := Lib.hid (fun (W : World) (h : Keys W (some ⟨g0, 0, none⟩) 2 2 exL) => (steal_b ▸ stealring_k 3 (some ⟨g0, 0, none⟩) 2 2 exL 4 40 i3 i4 i40 (by decide) W h : Calls Tryd.prog 15 #[.agg #[.int .i64 3, .slice (some ⟨g0, 0, none⟩) 2 2], .int .i64 4, .int .i64 40] W (RingIs W (0, [], 23))))
  have KC := Lib.hid (fun (W : World) (h : Keys W (some ⟨g0, 0, none⟩) 2 2 exL) => (steal_c ▸ stealring_k 3 (some ⟨g0, 0, none⟩) 2 2 exL 5 70 i3 i5 i70 (by decide) W h : Calls Tryd.prog 15 #[.agg #[.int .i64 3, .slice (some ⟨g0, 0, none⟩) 2 2], .int .i64 5, .int .i64 70] W (RingIs W (0, [], 5))))
  have KD := Lib.hid (fun (W : World) (h : Keys W (some ⟨g0, 0, none⟩) 2 2 exL) => (add_a ▸ addring_k 3 (some ⟨g0, 0, none⟩) 2 2 exL ⟨4, [99], 60, 0⟩ i3 ok4 (by decide) W h : Calls Tryd.prog 13 #[.agg #[.int .i64 3, .slice (some ⟨g0, 0, none⟩) 2 2], .agg #[.int .i64 4, .string ⟨#[99]⟩, .int .i64 60, .int .i64 0]] W (RingIs W (0, [], 7))))
  have KE := Lib.hid (fun (W : World) (h : Keys W (some ⟨g0, 0, none⟩) 2 2 exL) => (add_b ▸ addring_k 3 (some ⟨g0, 0, none⟩) 2 2 exL ⟨5, [99], 49, 0⟩ i3 ok5 (by decide) W h : Calls Tryd.prog 13 #[.agg #[.int .i64 3, .slice (some ⟨g0, 0, none⟩) 2 2], .agg #[.int .i64 5, .string ⟨#[99]⟩, .int .i64 49, .int .i64 0]] W (RingIs W (0, [], 7))))
  have KF := Lib.hid (fun (W : World) (h : Keys W (some ⟨g0, 0, none⟩) 2 2 exL) => (ck_ex ▸ ringck_k 3 (some ⟨g0, 0, none⟩) 2 2 exL i3 W h : Calls Tryd.prog 11 #[.agg #[.int .i64 3, .slice (some ⟨g0, 0, none⟩) 2 2]] W (fun e w' => e = .returned (.int .i64 0) ∧ W.grownBy w' none)))
  have KS := Lib.hid (fun (W : World) (hb : Base W) (h : Keys W (some ⟨g0, 0, none⟩) 2 2 exL) => (sign_ex.1 ▸ sign_ex.2 ▸ sign_k 3 (some ⟨g0, 0, none⟩) 2 2 exL 4 tx i3 i4 (by decide) W hb h : Calls Tryd.prog 20 #[.agg #[.int .i64 3, .slice (some ⟨g0, 0, none⟩) 2 2], .int .i64 4, .string ⟨tx.toArray⟩] W (fun e w' => e = .returned (.tuple #[.string ⟨mtx.toArray⟩, .int .i64 0]) ∧ W.grownBy w' none)))
  have KV := Lib.hid (fun (W : World) (hb : Base W) (h : Keys W (some ⟨g0, 0, none⟩) 2 2 exL) => (valid_d ▸ valid_k 3 (some ⟨g0, 0, none⟩) 2 2 exL 4 ot mtx 60 69 i3 i4 i60 i69 (by decide) W hb h : Calls Tryd.prog 22 #[.agg #[.int .i64 3, .slice (some ⟨g0, 0, none⟩) 2 2], .int .i64 4, .string ⟨ot.toArray⟩, .string ⟨mtx.toArray⟩, .int .i64 60, .int .i64 69] W (fun e w' => e = .returned (.int .i64 11) ∧ W.grownBy w' none)))
  have tx_e : Hid ((⟨tx.toArray⟩ : ByteArray) = ⟨#[116, 101, 120, 116]⟩) := Lib.hid rfl
  have ot_e : Hid ((⟨ot.toArray⟩ : ByteArray) = ⟨#[111, 116, 104, 101, 114]⟩) := Lib.hid rfl
  rw [tx_e.out] at KS
  rw [ot_e.out] at KV
  have VAh := valid_a
  have VBh := valid_b
  have VCh := valid_c
  generalize mtx = M at *
  have VA := Lib.hid VAh
  have VB := Lib.hid VBh
  have VC := Lib.hid VCh
  clear VAh VBh VCh
  go_wp2_with fail
  refine (KA.out _ (HE.out _ gg)).mono ?_
  rintro e w3 ⟨A2, n2, c2, rfl, hk2, g⟩
  replace gg := gg.trans g
  replace gW := gW.trans g
  replace r0 := gcell g r0
  replace r1 := gcell g r1
  have HT := Lib.hid (fun W (g : w3.grownBy W none) => hk2.kept g)
  clear hk2 g KA
  dsimp only
  go_upto_region 3 with fail
  obtain ⟨w4, e4, HU, g⟩ := row_of w3 34 #[.int .i64 3, .slice A2 n2 c2]
  rw [← e4]
  clear e4
  replace gg := gg.trans g
  replace gW := gW.trans g
  replace r0 := gcell g r0
  replace r1 := gcell g r1
  have g2 := g
  clear g
  generalize w3.heap.size = U at *
  have u0 : w4.cell? ⟨U, 0, none⟩ = some (.int .i64 3) := HU.c 0 rfl
  have u1 : w4.cell? ⟨U, 1, none⟩ = some (.slice A2 n2 c2) := HU.c 1 rfl
  clear HU
  have KT := Lib.hid (fun (mk : Str) (day seen X : Int) (hx : validV 3 exT 4 tx mk day seen = X) (hd : i64 day) (hs : i64 seen) (W : World) (hb : Base W) (h : Keys W A2 n2 c2 exT) => (hx ▸ valid_k 3 A2 n2 c2 exT 4 tx mk day seen i3 i4 hd hs (by decide) W hb h : Calls Tryd.prog 22 #[.agg #[.int .i64 3, .slice A2 n2 c2], .int .i64 4, .string ⟨tx.toArray⟩, .string ⟨mk.toArray⟩, .int .i64 day, .int .i64 seen] W (fun e w' => e = .returned (.int .i64 X) ∧ W.grownBy w' none)))
  rw [tx_e.out] at KT
  go_wp2_with fail
  refine (KF.out _ (HE.out _ gg)).mono ?_
  rintro e v1 ⟨rfl, g⟩
  replace gg := gg.trans g
  replace gW := gW.trans g
  replace g2 := g2.trans g
  replace r0 := gcell g r0
  replace r1 := gcell g r1
  replace u0 := gcell g u0
  replace u1 := gcell g u1
  clear g KF
  go_wp2_with fail
  refine (current_c 3 _ 2 2 exL 49 1 i49 (by decide) rfl rfl _ (HE.out _ gg)).mono ?_
  rintro e v2 ⟨rfl, g⟩
  replace gg := gg.trans g
  replace gW := gW.trans g
  replace g2 := g2.trans g
  replace r0 := gcell g r0
  replace r1 := gcell g r1
  replace u0 := gcell g u0
  replace u1 := gcell g u1
  clear g
  go_wp2_with fail
  refine (current_c 3 _ 2 2 exL 50 4 i50 (by decide) rfl rfl _ (HE.out _ gg)).mono ?_
  rintro e v3 ⟨rfl, g⟩
  replace gg := gg.trans g
  replace gW := gW.trans g
  replace g2 := g2.trans g
  replace r0 := gcell g r0
  replace r1 := gcell g r1
  replace u0 := gcell g u0
  replace u1 := gcell g u1
  clear g
  go_wp2_with fail
  refine (current_c 3 _ n2 c2 exT 69 4 i69 (by decide) rfl rfl _ (HT.out _ g2)).mono ?_
  rintro e v4 ⟨rfl, g⟩
  replace gg := gg.trans g
  replace gW := gW.trans g
  replace g2 := g2.trans g
  replace r0 := gcell g r0
  replace r1 := gcell g r1
  replace u0 := gcell g u0
  replace u1 := gcell g u1
  clear g
  go_wp2_with fail
  refine (current_c 3 _ n2 c2 exT 70 1 i70 (by decide) rfl rfl _ (HT.out _ g2)).mono ?_
  rintro e v5 ⟨rfl, g⟩
  replace gg := gg.trans g
  replace gW := gW.trans g
  replace g2 := g2.trans g
  replace r0 := gcell g r0
  replace r1 := gcell g r1
  replace u0 := gcell g u0
  replace u1 := gcell g u1
  clear g
  go_wp2_with fail
  refine (KB.out _ (HE.out _ gg)).mono ?_
  rintro e v6 ⟨A3, n3, c3, rfl, _, g⟩
  replace gg := gg.trans g
  replace gW := gW.trans g
  replace g2 := g2.trans g
  replace r0 := gcell g r0
  replace r1 := gcell g r1
  replace u0 := gcell g u0
  replace u1 := gcell g u1
  clear g KB
  dsimp only
  go_upto_region 5 with fail
  obtain ⟨y0, ex, _, g⟩ := row_of v6 34 #[.int .i64 0, .slice A3 n3 c3]
  rw [← ex]
  replace gg := gg.trans g
  replace gW := gW.trans g
  replace g2 := g2.trans g
  replace r0 := gcell g r0
  replace r1 := gcell g r1
  replace u0 := gcell g u0
  replace u1 := gcell g u1
  clear g ex
  go_wp2_with fail
  refine (KC.out _ (HE.out _ gg)).mono ?_
  rintro e v7 ⟨A4, n4, c4, rfl, _, g⟩
  replace gg := gg.trans g
  replace gW := gW.trans g
  replace g2 := g2.trans g
  replace r0 := gcell g r0
  replace r1 := gcell g r1
  replace u0 := gcell g u0
  replace u1 := gcell g u1
  clear g KC
  dsimp only
  go_upto_region 6 with fail
  obtain ⟨y1, ex, _, g⟩ := row_of v7 34 #[.int .i64 0, .slice A4 n4 c4]
  rw [← ex]
  replace gg := gg.trans g
  replace gW := gW.trans g
  replace g2 := g2.trans g
  replace r0 := gcell g r0
  replace r1 := gcell g r1
  replace u0 := gcell g u0
  replace u1 := gcell g u1
  clear g ex
  go_wp2_with fail
  refine (KD.out _ (HE.out _ gg)).mono ?_
  rintro e v8 ⟨A5, n5, c5, rfl, _, g⟩
  replace gg := gg.trans g
  replace gW := gW.trans g
  replace g2 := g2.trans g
  replace r0 := gcell g r0
  replace r1 := gcell g r1
  replace u0 := gcell g u0
  replace u1 := gcell g u1
  clear g KD
  dsimp only
  go_upto_region 7 with fail
  obtain ⟨y2, ex, _, g⟩ := row_of v8 34 #[.int .i64 0, .slice A5 n5 c5]
  rw [← ex]
  replace gg := gg.trans g
  replace gW := gW.trans g
  replace g2 := g2.trans g
  replace r0 := gcell g r0
  replace r1 := gcell g r1
  replace u0 := gcell g u0
  replace u1 := gcell g u1
  clear g ex
  go_wp2_with fail
  refine (KE.out _ (HE.out _ gg)).mono ?_
  rintro e v9 ⟨A6, n6, c6, rfl, _, g⟩
  replace gg := gg.trans g
  replace gW := gW.trans g
  replace g2 := g2.trans g
  replace r0 := gcell g r0
  replace r1 := gcell g r1
  replace u0 := gcell g u0
  replace u1 := gcell g u1
  clear g KE
  dsimp only
  go_upto_region 8 with fail
  obtain ⟨y3, ex, _, g⟩ := row_of v9 34 #[.int .i64 0, .slice A6 n6 c6]
  rw [← ex]
  replace gg := gg.trans g
  replace gW := gW.trans g
  replace g2 := g2.trans g
  replace r0 := gcell g r0
  replace r1 := gcell g r1
  replace u0 := gcell g u0
  replace u1 := gcell g u1
  clear g ex
  go_wp2_with fail
  refine (KS.out _ (HBs.out _ gW) (HE.out _ gg)).mono ?_
  rintro e v10 ⟨rfl, g⟩
  replace gg := gg.trans g
  replace gW := gW.trans g
  replace g2 := g2.trans g
  replace r0 := gcell g r0
  replace r1 := gcell g r1
  replace u0 := gcell g u0
  replace u1 := gcell g u1
  clear g KS
  go_wp2_with fail
  refine (KT.out M 60 69 0 VA.out i60 i69 _ (HBs.out _ gW) (HT.out _ g2)).mono ?_
  rintro e v11 ⟨rfl, g⟩
  replace gg := gg.trans g
  replace gW := gW.trans g
  replace g2 := g2.trans g
  replace r0 := gcell g r0
  replace r1 := gcell g r1
  replace u0 := gcell g u0
  replace u1 := gcell g u1
  clear g
  go_wp2_with fail
  refine (KT.out M 60 70 11 VB.out i60 i70 _ (HBs.out _ gW) (HT.out _ g2)).mono ?_
  rintro e v12 ⟨rfl, g⟩
  replace gg := gg.trans g
  replace gW := gW.trans g
  replace g2 := g2.trans g
  replace r0 := gcell g r0
  replace r1 := gcell g r1
  replace u0 := gcell g u0
  replace u1 := gcell g u1
  clear g
  go_wp2_with fail
  refine (KT.out M 49 49 23 VC.out i49 i49 _ (HBs.out _ gW) (HT.out _ g2)).mono ?_
  rintro e v13 ⟨rfl, g⟩
  replace gg := gg.trans g
  replace gW := gW.trans g
  replace g2 := g2.trans g
  replace r0 := gcell g r0
  replace r1 := gcell g r1
  replace u0 := gcell g u0
  replace u1 := gcell g u1
  clear g
  go_wp2_with fail
  refine (KV.out _ (HBs.out _ gW) (HE.out _ gg)).mono ?_
  rintro e v14 ⟨rfl, g⟩
  replace gg := gg.trans g
  replace gW := gW.trans g
  replace g2 := g2.trans g
  replace r0 := gcell g r0
  replace r1 := gcell g r1
  replace u0 := gcell g u0
  replace u1 := gcell g u1
  clear g
  go_wp2_with fail
  go_ret
  exact ⟨rfl, gW⟩
end Go.Proofs.YtecobgjkodmaiaaDoor
