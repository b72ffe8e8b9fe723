/-
  The law RatioTexts.
-/
import Derived.Test.YtekhdcfnpgkodaaDoorPairs
import Derived.Test.YtekhdcfnpgkodaaDoorParW
import Derived.Deep.DeepCutAuto
namespace Go.Proofs.YtekhdcfnpgkodaaDoor
open Go.RowKit
attribute [local go_sem] get_mk extract_mk
theorem row4 (w : World) (p q r s : Int) : ∃ wx : World, wx = w.alloc (.cells #[.int .i64 p, .int .i64 q, .int .i64 r, .int .i64 s] 33) ∧ w.grownBy wx none ∧
    wx.cell? ⟨w.heap.size, 0, none⟩ = some (.int .i64 p) ∧ wx.cell? ⟨w.heap.size, 1, none⟩ = some (.int .i64 q) ∧ wx.cell? ⟨w.heap.size, 2, none⟩ = some (.int .i64 r) ∧ wx.cell? ⟨w.heap.size, 3, none⟩ = some (.int .i64 s) :=
  ⟨_, rfl, World.grownBy_alloc w _ none, cell_at rfl, cell_at rfl, cell_at rfl, cell_at rfl⟩
theorem app_mk (a b : List UInt8) : (⟨a.toArray⟩ ++ ⟨b.toArray⟩ : ByteArray) = ⟨(a ++ b).toArray⟩ := by
  apply ByteArray.ext
  simp
theorem row5 (w : World) (l T : List UInt8) (hl : l.length ≤ 30) (hT : T.length ≤ 41) : ∃ wx : World, wx = w.alloc (.cells #[.string ⟨l.toArray⟩, .string (⟨T.toArray⟩ ++ ⟨l.toArray⟩), .string (⟨l.toArray⟩ ++ ⟨T.toArray⟩), .string (⟨#[48]⟩ ++ ⟨T.toArray⟩), .string (⟨#[45]⟩ ++ ⟨T.toArray⟩)] 9) ∧ w.grownBy wx none ∧
    ∀ j : Nat, j < 5 → ∃ x : List UInt8, wx.cell? ⟨w.heap.size, j, none⟩ = some (.string ⟨x.toArray⟩) ∧ x.length ≤ 1000 := by
  refine ⟨_, rfl, World.grownBy_alloc w _ none, fun j hj => ?_⟩
  rw [cell_at rfl]
  rcases (show j = 0 ∨ j = 1 ∨ j = 2 ∨ j = 3 ∨ j = 4 by omega) with rfl | rfl | rfl | rfl | rfl
  · exact ⟨l, rfl, by omega⟩
  · exact ⟨T ++ l, by rw [← app_mk]; rfl, by rw [List.length_append]; omega⟩
  · exact ⟨l ++ T, by rw [← app_mk]; rfl, by rw [List.length_append]; omega⟩
  · exact ⟨[48] ++ T, by rw [← app_mk]; rfl, by rw [List.length_append]; simp; omega⟩
  · exact ⟨[45] ++ T, by rw [← app_mk]; rfl, by rw [List.length_append]; simp; omega⟩
theorem text_par (p q : Int) : (textV p q = [] ∧ parB (textV p q) = false) ∨ ((textV p q == ([] : List UInt8)) = false ∧ parN (textV p q) = p ∧ parD (textV p q) = q ∧ parB (textV p q) = true) := by
  cases h : rightB p q with
  | true =>
    right
    rw [textV_right h]
    unfold parN parD parB
    rw [par_text h]
    exact ⟨by simpa using textL_ne p q, rfl, rfl, rfl⟩
  | false =>
    left
    have e : textV p q = [] := by unfold textV; rw [h]; rfl
    rw [e]
    refine ⟨rfl, ?_⟩
    unfold parB
    cases hp : parO [] with
    | none => rfl
    | some x => exact absurd (par_some (n := x.1) (d := x.2) hp).2 (textL_ne _ _)
theorem textV_len (p q : Int) (hp : i64 p) (hq : i64 q) : (textV p q).length ≤ 41 := by
  have h1 := itoa_len hp
  have h2 := itoa_len hq
  unfold textV
  split
  · unfold textL
    split
    · omega
    · rw [List.length_append, List.length_cons]; omega
  · simp
set_option maxRecDepth 100000 in
set_option maxHeartbeats 8000000 in
theorem texts_walk (n0 n1 n2 n3 a1 a2 b1 b2 : Int) (hA : i64 a1 ∧ i64 a2) (hB : i64 b1 ∧ i64 b2) (s : List UInt8) (w0 : World) (hb : Base w0) : Calls Tryd.prog 5 #[.agg #[.int .i64 n0, .int .i64 n1, .int .i64 n2, .int .i64 n3, .int .i64 a1, .int .i64 a2, .int .i64 b1, .int .i64 b2], .string ⟨s.toArray⟩] w0 fun e w' => e = .returned (.bool true) ∧ w0.grownBy w' none := by
  have HP : Hid (∀ (i : Nat) v, #[Value.int .i64 n0, .int .i64 n1, .int .i64 n2, .int .i64 n3, .int .i64 a1, .int .i64 a2, .int .i64 b1, .int .i64 b2][i]? = some v → (w0.alloc (.cells #[.int .i64 n0, .int .i64 n1, .int .i64 n2, .int .i64 n3, .int .i64 a1, .int .i64 a2, .int .i64 b1, .int .i64 b2] 26)).cell? ⟨w0.heap.size, i, none⟩ = some v) := Lib.hid fun i v hv => (cell_at rfl).trans hv
  have gg := World.grownBy_alloc w0 (.cells #[.int .i64 n0, .int .i64 n1, .int .i64 n2, .int .i64 n3, .int .i64 a1, .int .i64 a2, .int .i64 b1, .int .i64 b2] 26) none
  have S := Lib.hid (sane_k _ (hb.none_ gg))
  have KP := Lib.hid (pairs_k n0 n1 n2 n3 a1 a2 b1 b2 hA hB)
  have HB := Lib.hid hb
  obtain ⟨m, hm, hm30, hml⟩ : ∃ m : Nat, min (s.length : Int) 30 = (m : Int) ∧ m ≤ 30 ∧ m ≤ s.length := ⟨min s.length 30, by omega, by omega, by omega⟩
  have hl : (s.take m).length ≤ 30 := by rw [List.length_take]; omega
  clear hb hA hB
  go_enter Tryd.func5, Tryd.ntmps5
  go_wp2_with fail
  refine S.out.mono ?_
  rintro e v1 ⟨rfl, g⟩
  have q0 := gcell g (HP.out 0 _ rfl)
  have q1 := gcell g (HP.out 1 _ rfl)
  have q2 := gcell g (HP.out 2 _ rfl)
  have q3 := gcell g (HP.out 3 _ rfl)
  have q4 := gcell g (HP.out 4 _ rfl)
  have q5 := gcell g (HP.out 5 _ rfl)
  have q6 := gcell g (HP.out 6 _ rfl)
  have q7 := gcell g (HP.out 7 _ rfl)
  replace gg := gg.trans g
  clear g HP S
  go_wp2_with fail
  refine (KP.out _).mono ?_
  rintro e vp ⟨B, f, rfl, g, hrow⟩
  have HW := Lib.hid hrow
  replace gg := gg.trans g
  clear g hrow KP q0 q1 q2 q3 q4 q5 q6 q7
  replace HB := Lib.hid (fun W (g : vp.grownBy W none) => HB.out.none_ (gg.trans g))
  generalize s.take m = l at *
  clear hm hml hm30
  go_wp2_with fail
  go_loopw [26] (fun i wx => ∃ k : Nat, k ≤ 6 ∧ i = .int .i64 k ∧ vp.grownBy wx none) (fun i _ => 6 - (intOf i).toNat)
  case atStart => exact ⟨0, by omega, rfl, grown_refl _⟩
  case round =>
    obtain ⟨k, hk, rfl, hg⟩ := hrel
    by_cases hlt : k < 6
    · obtain ⟨j0, i0⟩ := HW.out (k * 4) (by omega)
      obtain ⟨j1, i1⟩ := HW.out (k * 4 + 1) (by omega)
      obtain ⟨j2, i2⟩ := HW.out (k * 4 + 2) (by omega)
      obtain ⟨j3, i3⟩ := HW.out (k * 4 + 3) (by omega)
      replace j0 := gcell hg j0
      replace j1 := gcell hg j1
      replace j2 := gcell hg j2
      replace j3 := gcell hg j3
      generalize f (k * 4) = p at *
      generalize f (k * 4 + 1) = q at *
      generalize f (k * 4 + 2) = r at *
      generalize f (k * 4 + 3) = t at *
      have KT := Lib.hid (text_k p q i0 i1)
      have KR := Lib.hid (text_r p q i0 i1)
      have HT := Lib.hid (text_par p q)
      have hT := textV_len p q i0 i1
      generalize textV p q = T at *
      clear i0 i1 i2 i3
      obtain ⟨wx, hwx, gx, y0, y1, y2, y3⟩ := row4 wr p q r t
      go_upto_region 6 with fail
      rw [← hwx]
      replace hg := hg.trans gx
      clear hwx gx j0 j1 j2 j3
      have j0 := y0
      have j1 := y1
      have j2 := y2
      have j3 := y3
      clear y0 y1 y2 y3
      generalize wr.heap.size = bx at *
      go_wp2_with fail
      refine (KT.out _ (HB.out _ hg)).mono ?_
      rintro e w1 ⟨rfl, g⟩
      replace j0 := gcell g j0
      replace j1 := gcell g j1
      replace j2 := gcell g j2
      replace j3 := gcell g j3
      replace hg := hg.trans g
      clear g KT
      go_wp2_with fail
      refine (parse_k T (by omega) _ (HB.out _ hg)).mono ?_
      rintro e w2 ⟨rfl, g⟩
      generalize parN T = tn at *
      generalize parD T = td at *
      generalize parB T = tb at *
      replace g := g.trans (World.grownBy_alloc w2 (.cells #[.int .i64 tn, .int .i64 td] 24) none)
      have H9 := R2.new w2 tn td
      replace j0 := gcell g j0
      replace j1 := gcell g j1
      replace j2 := gcell g j2
      replace j3 := gcell g j3
      replace hg := hg.trans g
      clear g
      go_upto_region 8 with fail
      obtain ⟨wt, hwt⟩ : ∃ wt : World, wt = w2.alloc (.cells #[.int .i64 tn, .int .i64 td] 24) := ⟨_, rfl⟩
      rw [← hwt] at hg H9 j0 j1 j2 j3 ⊢
      clear hwt
      go_cut [57] (fun u wx => u = .bool false ∧ wt.grownBy wx none)
      case first =>
        have c0 := H9.c0
        have c1 := H9.c1
        rcases HT.out with ⟨rfl, rfl⟩ | ⟨t1, rfl, rfl, rfl⟩
        · go_wp2_with fail
          refine (KR.out _).mono ?_
          rintro e w3 ⟨rfl, g⟩
          go_wp2_with fail
          go_meet
          exact ⟨rfl, g⟩
        · go_wp2_with fail
          refine (KR.out _).mono ?_
          rintro e w3 ⟨rfl, g⟩
          replace j0 := gcell g j0
          replace j1 := gcell g j1
          replace j2 := gcell g j2
          replace j3 := gcell g j3
          replace c0 := gcell g c0
          replace c1 := gcell g c1
          go_wp2_with fail
          go_meet
          exact ⟨rfl, g⟩
      case rest =>
        obtain ⟨rfl, g⟩ := hcut
        replace hg := hg.trans g
        clear g H9 HT KR j0 j1 j2 j3
        generalize wc = we at *
        go_wp2_with fail
        obtain ⟨wz, hwz, gz, hrow⟩ := row5 we l T hl hT
        rw [← hwz]
        have HR := Lib.hid hrow
        replace hg := hg.trans gz
        clear hwz gz hrow
        generalize we.heap.size = bz at *
        go_loopw [71] (fun i wx => ∃ j : Nat, j ≤ 5 ∧ i = .int .i64 j ∧ wz.grownBy wx none) (fun i _ => 5 - (intOf i).toNat)
        case atStart => exact ⟨0, by omega, rfl, grown_refl _⟩
        case round =>
          obtain ⟨j, hj, rfl, hi⟩ := hrel
          by_cases hlt2 : j < 5
          · obtain ⟨x, jx, hx⟩ := HR.out j hlt2
            replace jx := gcell hi jx
            have hx2 : x.length ≤ 4294967280 := by omega
            go_wp2_with fail
            refine (parse_k x hx2 _ (HB.out _ (hg.trans hi))).mono ?_
            rintro e w3 ⟨rfl, g⟩
            have KW := Lib.hid (parr_walk x hx2)
            generalize parN x = xn at *
            generalize parD x = xd at *
            generalize parB x = xb at *
            replace g := g.trans (World.grownBy_alloc w3 (.cells #[.int .i64 xn, .int .i64 xd] 24) none)
            have HX := R2.new w3 xn xd
            replace hi := hi.trans g
            clear g jx hx
            go_wp2_with fail
            refine (KW.out _).mono ?_
            rintro e w4 ⟨rfl, g⟩
            replace g := g.trans (World.grownBy_alloc w4 (.cells #[.int .i64 xn, .int .i64 xd] 24) none)
            have HY := R2.new w4 xn xd
            replace HX := HX.kept g
            replace hi := hi.trans g
            clear g
            have c0 := HX.c0
            have c1 := HX.c1
            have d0 := HY.c0
            have d1 := HY.c1
            go_wp2_with fail
            go_roundw
            case rel => exact ⟨j + 1, by omega, by go_num, hi⟩
            case measure => simp [intOf]; omega
          · obtain rfl : j = 5 := by omega
            go_wp2_with fail
            go_roundw
            case rel => exact ⟨k + 1, by omega, by go_num, hg.trans hi⟩
            case measure => simp [intOf]; omega
    · obtain rfl : k = 6 := by omega
      go_wp2_with fail
      go_ret
      exact ⟨rfl, gg.trans hg⟩
end Go.Proofs.YtekhdcfnpgkodaaDoor
