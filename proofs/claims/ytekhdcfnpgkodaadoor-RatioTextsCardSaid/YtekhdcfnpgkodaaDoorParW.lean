/-
  Parse of the reference, walked.
-/
import Derived.Test.YtekhdcfnpgkodaaDoorParR
namespace Go.Proofs.YtekhdcfnpgkodaaDoor
open Go.RowKit
attribute [local go_sem] get_mk extract_mk
theorem topV_i64 (l : List UInt8) : i64 (topV l) := by
  unfold topV
  obtain ⟨h1, h2⟩ := numV_in (l.take (min (lastAt l l.length) 11)) (by rw [List.length_take]; omega)
  exact ⟨by omega, by omega⟩
theorem botV_i64 (l : List UInt8) : i64 (botV l) := by
  unfold botV
  split
  · obtain ⟨h1, h2⟩ := numV_in ((l.take (min l.length (lastAt l l.length + 12))).drop (lastAt l l.length + 1)) (by rw [List.length_drop, List.length_take]; omega)
    exact ⟨by omega, by omega⟩
  · exact ⟨by decide, by decide⟩
set_option maxRecDepth 100000 in
set_option maxHeartbeats 8000000 in
theorem parr_walk (l : List UInt8) (hs : l.length ≤ 4294967280) (w : World) :
    Calls Tryd.prog 27 #[.string ⟨l.toArray⟩] w fun e w' => e = .returned (.tuple #[.agg #[.int .i64 (parN l), .int .i64 (parD l)], .bool (parB l)]) ∧ w.grownBy w' none := by
  have Rz := R2.new w 0 0
  have gg := World.grownBy_alloc w (.cells #[.int .i64 0, .int .i64 0] 24) none
  go_enter Tryd.func27, Tryd.ntmps27
  go_wp2_with fail
  go_loop [4, 5] (fun a i => ∃ k : Nat, k ≤ l.length ∧ i = .int .i64 k ∧ a = .int .i64 ((lastAt l k : Nat) : Int)) (fun _ i => l.length - (intOf i).toNat)
  case atStart => exact ⟨0, Nat.zero_le _, rfl, rfl⟩
  case round =>
    obtain ⟨k, hk, rfl, rfl⟩ := hrel
    have ha := lastAt_le l k hk
    by_cases hlt : k < l.length
    · by_cases h47 : l[k] = 47
      · have HL := Lib.hid (show lastAt l (k + 1) = k by unfold lastAt; rw [if_pos (by rw [List.getElem?_eq_getElem hlt, h47])])
        have h48 : ((l[k].toNat : Int) == 47) = true := by rw [h47]; rfl
        have H47 := Lib.hid h47
        clear h47 ha
        generalize lastAt l k = a at *
        go_wp2_with fail
        go_round
        case rel => exact ⟨k + 1, by omega, by go_num, by rw [HL.out]⟩
        case measure => simp [intOf]; omega
      · have HL := Lib.hid (show lastAt l (k + 1) = lastAt l k by
          rw [show lastAt l (k + 1) = if l[k]? = some 47 then k else lastAt l k from rfl]
          rw [if_neg (by rw [List.getElem?_eq_getElem hlt]; simpa using h47)])
        have h48 : ((l[k].toNat : Int) == 47) = false := by
          simp only [beq_eq_false_iff_ne, ne_eq]
          intro h
          apply h47
          apply UInt8.toNat_inj.1
          have : (47 : UInt8).toNat = 47 := rfl
          omega
        clear h47 ha
        go_wp2_with fail
        go_round
        case rel => exact ⟨k + 1, by omega, by go_num, by rw [HL.out]⟩
        case measure => simp [intOf]; omega
    · obtain rfl : k = l.length := by omega
      obtain ⟨A, hA⟩ : ∃ A, lastAt l l.length = A := ⟨_, rfl⟩
      rw [hA] at ha ⊢
      have HA := Lib.hid hA
      clear hA hlt hk
      have KT := Lib.hid (text_r (topV l) (botV l) (topV_i64 l) (botV_i64 l))
      have HP := Lib.hid (par_ref l)
      have none_ : parO l = none → parN l = 0 ∧ parD l = 0 ∧ parB l = false := fun h => by unfold parN parD parB; rw [h]; exact ⟨rfl, rfl, rfl⟩
      have some_ : ∀ n d, parO l = some (n, d) → parN l = n ∧ parD l = d ∧ parB l = true := fun n d h => by unfold parN parD parB; rw [h]; exact ⟨rfl, rfl, rfl⟩
      replace none_ := Lib.hid none_
      replace some_ := Lib.hid some_
      by_cases h11 : A ≤ 11
      · have hm : min (A : Int) 11 = (A : Int) := by omega
        by_cases hAl : A = l.length
        · have K1 := Lib.hid (number_k l (by omega))
          have E1 : Hid (topV l = numV l) := Lib.hid (by unfold topV; rw [HA.out, show min A 11 = l.length by omega, List.take_length])
          rw [← E1.out] at K1
          have E2 : Hid (botV l = 1) := Lib.hid (by unfold botV; rw [HA.out, if_neg (by omega)])
          rw [E2.out] at KT HP
          generalize topV l = tv at *
          generalize hT : textV tv 1 = T at *
          clear hT
          subst hAl
          clear ha
          go_wp2_with fail
          refine (K1.out _).mono ?_
          rintro e w' ⟨rfl, rfl⟩
          go_wp2_with fail
          have Ry := R2.new (w.alloc (.cells #[.int .i64 0, .int .i64 0] 24)) tv 1
          have gy := World.grownBy_alloc (w.alloc (.cells #[.int .i64 0, .int .i64 0] 24)) (.cells #[.int .i64 tv, .int .i64 1] 24) none
          have hsz : (w.alloc (.cells #[.int .i64 0, .int .i64 0] 24)).heap.size = w.heap.size + 1 := by simp
          rw [hsz] at Ry
          clear hsz
          have Rz := Rz.kept gy
          have gg := gg.trans gy
          refine (KT.out _).mono ?_
          rintro e w1 ⟨rfl, g⟩
          have Rz := Rz.kept g
          have Ry := Ry.kept g
          have gg := gg.trans g
          clear g gy
          have y0 := Ry.c0
          have y1 := Ry.c1
          have z0 := Rz.c0
          have z1 := Rz.c1
          have zf0 := Rz.f0
          have zf1 := Rz.f1
          have zl := Rz.lt
          have yl := Ry.lt
          rcases HP.out with ⟨p1, p2, p3⟩ | ⟨p1, p3⟩
          · have HV := Lib.hid (some_.out _ _ p3)
            have t1 : (T == l) = true := by simpa using p2
            have t2 : T.isEmpty = false := by simpa using p1
            have t3 : (T == ([] : List UInt8)) = false := by simpa using p1
            clear p1 p2 p3
            go_wp2_with fail
            have Rz := Rz.set tv 1
            exact bodyPost_ret (v := .tuple #[.agg #[.int .i64 tv, .int .i64 1], .bool true]) (by simp [results, Tryd.results27, go_sem, Rz.c0, Rz.c1]) rfl ⟨by rw [HV.out.1, HV.out.2.1, HV.out.2.2], by
              (repeat (first | refine grown_set ?_ (.inl (by first | omega | simp)) | refine grown_al ?_ | refine grown_dn ?_)); exact gg⟩
          · have HV := Lib.hid (none_.out p3)
            by_cases hT : T = []
            · subst hT
              clear p1 p3
              go_wp2_with fail
              have Rz := Rz.set 0 0
              exact bodyPost_ret (v := .tuple #[.agg #[.int .i64 0, .int .i64 0], .bool false]) (by simp [results, Tryd.results27, go_sem, Rz.c0, Rz.c1]) rfl ⟨by rw [HV.out.1, HV.out.2.1, HV.out.2.2], by
                (repeat (first | refine grown_set ?_ (.inl (by first | omega | simp)) | refine grown_al ?_ | refine grown_dn ?_)); exact gg⟩
            · have t1 : (T == l) = false := by
                rcases p1 with p1 | p1
                · exact absurd p1 hT
                · simpa using p1
              have t2 : T.isEmpty = false := by simpa using hT
              have t3 : (T == ([] : List UInt8)) = false := by simpa using hT
              clear p1 p3 hT
              go_wp2_with fail
              have Rz := Rz.set 0 0
              exact bodyPost_ret (v := .tuple #[.agg #[.int .i64 0, .int .i64 0], .bool false]) (by simp [results, Tryd.results27, go_sem, Rz.c0, Rz.c1]) rfl ⟨by rw [HV.out.1, HV.out.2.1, HV.out.2.2], by
                (repeat (first | refine grown_set ?_ (.inl (by first | omega | simp)) | refine grown_al ?_ | refine grown_dn ?_)); exact gg⟩
        · have hAl2 : A < l.length := by omega
          by_cases h12 : l.length ≤ A + 12
          · have hm2 : min (l.length : Int) ((A : Int) + 12) = (l.length : Int) := by omega
            have K1 := Lib.hid (number_k (l.take A) (by rw [List.length_take]; omega))
            have E1 : Hid (topV l = numV (l.take A)) := Lib.hid (by unfold topV; rw [HA.out, show min A 11 = A by omega])
            rw [← E1.out] at K1
            have E2 : Hid (botV l = numV (l.drop (A + 1))) := Lib.hid (by unfold botV; rw [HA.out, if_pos (by omega), show min l.length (A + 12) = l.length by omega, List.take_length])
            have K2 := Lib.hid (number_k (l.drop (A + 1)) (by rw [List.length_drop]; omega))
            rw [← E2.out] at K2
            generalize topV l = tv at *
            generalize botV l = bv at *
            generalize hT : textV tv bv = T at *
            clear hT
            go_wp2_with fail
            refine (K1.out _).mono ?_
            rintro e w' ⟨rfl, rfl⟩
            go_wp2_with fail
            refine (K2.out _).mono ?_
            rintro e w' ⟨rfl, rfl⟩
            go_wp2_with fail
            have Ry := R2.new (w.alloc (.cells #[.int .i64 0, .int .i64 0] 24)) tv bv
            have gy := World.grownBy_alloc (w.alloc (.cells #[.int .i64 0, .int .i64 0] 24)) (.cells #[.int .i64 tv, .int .i64 bv] 24) none
            have hsz : (w.alloc (.cells #[.int .i64 0, .int .i64 0] 24)).heap.size = w.heap.size + 1 := by simp
            rw [hsz] at Ry
            clear hsz
            have Rz := Rz.kept gy
            have gg := gg.trans gy
            refine (KT.out _).mono ?_
            rintro e w1 ⟨rfl, g⟩
            have Rz := Rz.kept g
            have Ry := Ry.kept g
            have gg := gg.trans g
            clear g gy
            have y0 := Ry.c0
            have y1 := Ry.c1
            have z0 := Rz.c0
            have z1 := Rz.c1
            have zf0 := Rz.f0
            have zf1 := Rz.f1
            have zl := Rz.lt
            have yl := Ry.lt
            rcases HP.out with ⟨p1, p2, p3⟩ | ⟨p1, p3⟩
            · have HV := Lib.hid (some_.out _ _ p3)
              have t1 : (T == l) = true := by simpa using p2
              have t2 : T.isEmpty = false := by simpa using p1
              have t3 : (T == ([] : List UInt8)) = false := by simpa using p1
              clear p1 p2 p3
              go_wp2_with fail
              have Rz := Rz.set tv bv
              exact bodyPost_ret (v := .tuple #[.agg #[.int .i64 tv, .int .i64 bv], .bool true]) (by simp [results, Tryd.results27, go_sem, Rz.c0, Rz.c1]) rfl ⟨by rw [HV.out.1, HV.out.2.1, HV.out.2.2], by
                (repeat (first | refine grown_set ?_ (.inl (by first | omega | simp)) | refine grown_al ?_ | refine grown_dn ?_)); exact gg⟩
            · have HV := Lib.hid (none_.out p3)
              by_cases hT : T = []
              · subst hT
                clear p1 p3
                go_wp2_with fail
                have Rz := Rz.set 0 0
                exact bodyPost_ret (v := .tuple #[.agg #[.int .i64 0, .int .i64 0], .bool false]) (by simp [results, Tryd.results27, go_sem, Rz.c0, Rz.c1]) rfl ⟨by rw [HV.out.1, HV.out.2.1, HV.out.2.2], by
                  (repeat (first | refine grown_set ?_ (.inl (by first | omega | simp)) | refine grown_al ?_ | refine grown_dn ?_)); exact gg⟩
              · have t1 : (T == l) = false := by
                  rcases p1 with p1 | p1
                  · exact absurd p1 hT
                  · simpa using p1
                have t2 : T.isEmpty = false := by simpa using hT
                have t3 : (T == ([] : List UInt8)) = false := by simpa using hT
                clear p1 p3 hT
                go_wp2_with fail
                have Rz := Rz.set 0 0
                exact bodyPost_ret (v := .tuple #[.agg #[.int .i64 0, .int .i64 0], .bool false]) (by simp [results, Tryd.results27, go_sem, Rz.c0, Rz.c1]) rfl ⟨by rw [HV.out.1, HV.out.2.1, HV.out.2.2], by
                  (repeat (first | refine grown_set ?_ (.inl (by first | omega | simp)) | refine grown_al ?_ | refine grown_dn ?_)); exact gg⟩
          · have hm2 : min (l.length : Int) ((A : Int) + 12) = (A : Int) + 12 := by omega
            have K1 := Lib.hid (number_k (l.take A) (by rw [List.length_take]; omega))
            have E1 : Hid (topV l = numV (l.take A)) := Lib.hid (by unfold topV; rw [HA.out, show min A 11 = A by omega])
            rw [← E1.out] at K1
            have E2 : Hid (botV l = numV ((l.take (A + 12)).drop (A + 1))) := Lib.hid (by unfold botV; rw [HA.out, if_pos (by omega), show min l.length (A + 12) = A + 12 by omega])
            have K2 := Lib.hid (number_k ((l.take (A + 12)).drop (A + 1)) (by rw [List.length_drop, List.length_take]; omega))
            rw [← E2.out] at K2
            generalize topV l = tv at *
            generalize botV l = bv at *
            generalize hT : textV tv bv = T at *
            clear hT
            go_wp2_with fail
            refine (K1.out _).mono ?_
            rintro e w' ⟨rfl, rfl⟩
            go_wp2_with fail
            refine (K2.out _).mono ?_
            rintro e w' ⟨rfl, rfl⟩
            go_wp2_with fail
            have Ry := R2.new (w.alloc (.cells #[.int .i64 0, .int .i64 0] 24)) tv bv
            have gy := World.grownBy_alloc (w.alloc (.cells #[.int .i64 0, .int .i64 0] 24)) (.cells #[.int .i64 tv, .int .i64 bv] 24) none
            have hsz : (w.alloc (.cells #[.int .i64 0, .int .i64 0] 24)).heap.size = w.heap.size + 1 := by simp
            rw [hsz] at Ry
            clear hsz
            have Rz := Rz.kept gy
            have gg := gg.trans gy
            refine (KT.out _).mono ?_
            rintro e w1 ⟨rfl, g⟩
            have Rz := Rz.kept g
            have Ry := Ry.kept g
            have gg := gg.trans g
            clear g gy
            have y0 := Ry.c0
            have y1 := Ry.c1
            have z0 := Rz.c0
            have z1 := Rz.c1
            have zf0 := Rz.f0
            have zf1 := Rz.f1
            have zl := Rz.lt
            have yl := Ry.lt
            rcases HP.out with ⟨p1, p2, p3⟩ | ⟨p1, p3⟩
            · have HV := Lib.hid (some_.out _ _ p3)
              have t1 : (T == l) = true := by simpa using p2
              have t2 : T.isEmpty = false := by simpa using p1
              have t3 : (T == ([] : List UInt8)) = false := by simpa using p1
              clear p1 p2 p3
              go_wp2_with fail
              have Rz := Rz.set tv bv
              exact bodyPost_ret (v := .tuple #[.agg #[.int .i64 tv, .int .i64 bv], .bool true]) (by simp [results, Tryd.results27, go_sem, Rz.c0, Rz.c1]) rfl ⟨by rw [HV.out.1, HV.out.2.1, HV.out.2.2], by
                (repeat (first | refine grown_set ?_ (.inl (by first | omega | simp)) | refine grown_al ?_ | refine grown_dn ?_)); exact gg⟩
            · have HV := Lib.hid (none_.out p3)
              by_cases hT : T = []
              · subst hT
                clear p1 p3
                go_wp2_with fail
                have Rz := Rz.set 0 0
                exact bodyPost_ret (v := .tuple #[.agg #[.int .i64 0, .int .i64 0], .bool false]) (by simp [results, Tryd.results27, go_sem, Rz.c0, Rz.c1]) rfl ⟨by rw [HV.out.1, HV.out.2.1, HV.out.2.2], by
                  (repeat (first | refine grown_set ?_ (.inl (by first | omega | simp)) | refine grown_al ?_ | refine grown_dn ?_)); exact gg⟩
              · have t1 : (T == l) = false := by
                  rcases p1 with p1 | p1
                  · exact absurd p1 hT
                  · simpa using p1
                have t2 : T.isEmpty = false := by simpa using hT
                have t3 : (T == ([] : List UInt8)) = false := by simpa using hT
                clear p1 p3 hT
                go_wp2_with fail
                have Rz := Rz.set 0 0
                exact bodyPost_ret (v := .tuple #[.agg #[.int .i64 0, .int .i64 0], .bool false]) (by simp [results, Tryd.results27, go_sem, Rz.c0, Rz.c1]) rfl ⟨by rw [HV.out.1, HV.out.2.1, HV.out.2.2], by
                  (repeat (first | refine grown_set ?_ (.inl (by first | omega | simp)) | refine grown_al ?_ | refine grown_dn ?_)); exact gg⟩
      · have hm : min (A : Int) 11 = 11 := by omega
        by_cases hAl : A = l.length
        · have K1 := Lib.hid (number_k (l.take 11) (by rw [List.length_take]; omega))
          have E1 : Hid (topV l = numV (l.take 11)) := Lib.hid (by unfold topV; rw [HA.out, show min A 11 = 11 by omega])
          rw [← E1.out] at K1
          have E2 : Hid (botV l = 1) := Lib.hid (by unfold botV; rw [HA.out, if_neg (by omega)])
          rw [E2.out] at KT HP
          generalize topV l = tv at *
          generalize hT : textV tv 1 = T at *
          clear hT
          subst hAl
          clear ha
          go_wp2_with fail
          refine (K1.out _).mono ?_
          rintro e w' ⟨rfl, rfl⟩
          go_wp2_with fail
          have Ry := R2.new (w.alloc (.cells #[.int .i64 0, .int .i64 0] 24)) tv 1
          have gy := World.grownBy_alloc (w.alloc (.cells #[.int .i64 0, .int .i64 0] 24)) (.cells #[.int .i64 tv, .int .i64 1] 24) none
          have hsz : (w.alloc (.cells #[.int .i64 0, .int .i64 0] 24)).heap.size = w.heap.size + 1 := by simp
          rw [hsz] at Ry
          clear hsz
          have Rz := Rz.kept gy
          have gg := gg.trans gy
          refine (KT.out _).mono ?_
          rintro e w1 ⟨rfl, g⟩
          have Rz := Rz.kept g
          have Ry := Ry.kept g
          have gg := gg.trans g
          clear g gy
          have y0 := Ry.c0
          have y1 := Ry.c1
          have z0 := Rz.c0
          have z1 := Rz.c1
          have zf0 := Rz.f0
          have zf1 := Rz.f1
          have zl := Rz.lt
          have yl := Ry.lt
          rcases HP.out with ⟨p1, p2, p3⟩ | ⟨p1, p3⟩
          · have HV := Lib.hid (some_.out _ _ p3)
            have t1 : (T == l) = true := by simpa using p2
            have t2 : T.isEmpty = false := by simpa using p1
            have t3 : (T == ([] : List UInt8)) = false := by simpa using p1
            clear p1 p2 p3
            go_wp2_with fail
            have Rz := Rz.set tv 1
            exact bodyPost_ret (v := .tuple #[.agg #[.int .i64 tv, .int .i64 1], .bool true]) (by simp [results, Tryd.results27, go_sem, Rz.c0, Rz.c1]) rfl ⟨by rw [HV.out.1, HV.out.2.1, HV.out.2.2], by
              (repeat (first | refine grown_set ?_ (.inl (by first | omega | simp)) | refine grown_al ?_ | refine grown_dn ?_)); exact gg⟩
          · have HV := Lib.hid (none_.out p3)
            by_cases hT : T = []
            · subst hT
              clear p1 p3
              go_wp2_with fail
              have Rz := Rz.set 0 0
              exact bodyPost_ret (v := .tuple #[.agg #[.int .i64 0, .int .i64 0], .bool false]) (by simp [results, Tryd.results27, go_sem, Rz.c0, Rz.c1]) rfl ⟨by rw [HV.out.1, HV.out.2.1, HV.out.2.2], by
                (repeat (first | refine grown_set ?_ (.inl (by first | omega | simp)) | refine grown_al ?_ | refine grown_dn ?_)); exact gg⟩
            · have t1 : (T == l) = false := by
                rcases p1 with p1 | p1
                · exact absurd p1 hT
                · simpa using p1
              have t2 : T.isEmpty = false := by simpa using hT
              have t3 : (T == ([] : List UInt8)) = false := by simpa using hT
              clear p1 p3 hT
              go_wp2_with fail
              have Rz := Rz.set 0 0
              exact bodyPost_ret (v := .tuple #[.agg #[.int .i64 0, .int .i64 0], .bool false]) (by simp [results, Tryd.results27, go_sem, Rz.c0, Rz.c1]) rfl ⟨by rw [HV.out.1, HV.out.2.1, HV.out.2.2], by
                (repeat (first | refine grown_set ?_ (.inl (by first | omega | simp)) | refine grown_al ?_ | refine grown_dn ?_)); exact gg⟩
        · have hAl2 : A < l.length := by omega
          by_cases h12 : l.length ≤ A + 12
          · have hm2 : min (l.length : Int) ((A : Int) + 12) = (l.length : Int) := by omega
            have K1 := Lib.hid (number_k (l.take 11) (by rw [List.length_take]; omega))
            have E1 : Hid (topV l = numV (l.take 11)) := Lib.hid (by unfold topV; rw [HA.out, show min A 11 = 11 by omega])
            rw [← E1.out] at K1
            have E2 : Hid (botV l = numV (l.drop (A + 1))) := Lib.hid (by unfold botV; rw [HA.out, if_pos (by omega), show min l.length (A + 12) = l.length by omega, List.take_length])
            have K2 := Lib.hid (number_k (l.drop (A + 1)) (by rw [List.length_drop]; omega))
            rw [← E2.out] at K2
            generalize topV l = tv at *
            generalize botV l = bv at *
            generalize hT : textV tv bv = T at *
            clear hT
            go_wp2_with fail
            refine (K1.out _).mono ?_
            rintro e w' ⟨rfl, rfl⟩
            go_wp2_with fail
            refine (K2.out _).mono ?_
            rintro e w' ⟨rfl, rfl⟩
            go_wp2_with fail
            have Ry := R2.new (w.alloc (.cells #[.int .i64 0, .int .i64 0] 24)) tv bv
            have gy := World.grownBy_alloc (w.alloc (.cells #[.int .i64 0, .int .i64 0] 24)) (.cells #[.int .i64 tv, .int .i64 bv] 24) none
            have hsz : (w.alloc (.cells #[.int .i64 0, .int .i64 0] 24)).heap.size = w.heap.size + 1 := by simp
            rw [hsz] at Ry
            clear hsz
            have Rz := Rz.kept gy
            have gg := gg.trans gy
            refine (KT.out _).mono ?_
            rintro e w1 ⟨rfl, g⟩
            have Rz := Rz.kept g
            have Ry := Ry.kept g
            have gg := gg.trans g
            clear g gy
            have y0 := Ry.c0
            have y1 := Ry.c1
            have z0 := Rz.c0
            have z1 := Rz.c1
            have zf0 := Rz.f0
            have zf1 := Rz.f1
            have zl := Rz.lt
            have yl := Ry.lt
            rcases HP.out with ⟨p1, p2, p3⟩ | ⟨p1, p3⟩
            · have HV := Lib.hid (some_.out _ _ p3)
              have t1 : (T == l) = true := by simpa using p2
              have t2 : T.isEmpty = false := by simpa using p1
              have t3 : (T == ([] : List UInt8)) = false := by simpa using p1
              clear p1 p2 p3
              go_wp2_with fail
              have Rz := Rz.set tv bv
              exact bodyPost_ret (v := .tuple #[.agg #[.int .i64 tv, .int .i64 bv], .bool true]) (by simp [results, Tryd.results27, go_sem, Rz.c0, Rz.c1]) rfl ⟨by rw [HV.out.1, HV.out.2.1, HV.out.2.2], by
                (repeat (first | refine grown_set ?_ (.inl (by first | omega | simp)) | refine grown_al ?_ | refine grown_dn ?_)); exact gg⟩
            · have HV := Lib.hid (none_.out p3)
              by_cases hT : T = []
              · subst hT
                clear p1 p3
                go_wp2_with fail
                have Rz := Rz.set 0 0
                exact bodyPost_ret (v := .tuple #[.agg #[.int .i64 0, .int .i64 0], .bool false]) (by simp [results, Tryd.results27, go_sem, Rz.c0, Rz.c1]) rfl ⟨by rw [HV.out.1, HV.out.2.1, HV.out.2.2], by
                  (repeat (first | refine grown_set ?_ (.inl (by first | omega | simp)) | refine grown_al ?_ | refine grown_dn ?_)); exact gg⟩
              · have t1 : (T == l) = false := by
                  rcases p1 with p1 | p1
                  · exact absurd p1 hT
                  · simpa using p1
                have t2 : T.isEmpty = false := by simpa using hT
                have t3 : (T == ([] : List UInt8)) = false := by simpa using hT
                clear p1 p3 hT
                go_wp2_with fail
                have Rz := Rz.set 0 0
                exact bodyPost_ret (v := .tuple #[.agg #[.int .i64 0, .int .i64 0], .bool false]) (by simp [results, Tryd.results27, go_sem, Rz.c0, Rz.c1]) rfl ⟨by rw [HV.out.1, HV.out.2.1, HV.out.2.2], by
                  (repeat (first | refine grown_set ?_ (.inl (by first | omega | simp)) | refine grown_al ?_ | refine grown_dn ?_)); exact gg⟩
          · have hm2 : min (l.length : Int) ((A : Int) + 12) = (A : Int) + 12 := by omega
            have K1 := Lib.hid (number_k (l.take 11) (by rw [List.length_take]; omega))
            have E1 : Hid (topV l = numV (l.take 11)) := Lib.hid (by unfold topV; rw [HA.out, show min A 11 = 11 by omega])
            rw [← E1.out] at K1
            have E2 : Hid (botV l = numV ((l.take (A + 12)).drop (A + 1))) := Lib.hid (by unfold botV; rw [HA.out, if_pos (by omega), show min l.length (A + 12) = A + 12 by omega])
            have K2 := Lib.hid (number_k ((l.take (A + 12)).drop (A + 1)) (by rw [List.length_drop, List.length_take]; omega))
            rw [← E2.out] at K2
            generalize topV l = tv at *
            generalize botV l = bv at *
            generalize hT : textV tv bv = T at *
            clear hT
            go_wp2_with fail
            refine (K1.out _).mono ?_
            rintro e w' ⟨rfl, rfl⟩
            go_wp2_with fail
            refine (K2.out _).mono ?_
            rintro e w' ⟨rfl, rfl⟩
            go_wp2_with fail
            have Ry := R2.new (w.alloc (.cells #[.int .i64 0, .int .i64 0] 24)) tv bv
            have gy := World.grownBy_alloc (w.alloc (.cells #[.int .i64 0, .int .i64 0] 24)) (.cells #[.int .i64 tv, .int .i64 bv] 24) none
            have hsz : (w.alloc (.cells #[.int .i64 0, .int .i64 0] 24)).heap.size = w.heap.size + 1 := by simp
            rw [hsz] at Ry
            clear hsz
            have Rz := Rz.kept gy
            have gg := gg.trans gy
            refine (KT.out _).mono ?_
            rintro e w1 ⟨rfl, g⟩
            have Rz := Rz.kept g
            have Ry := Ry.kept g
            have gg := gg.trans g
            clear g gy
            have y0 := Ry.c0
            have y1 := Ry.c1
            have z0 := Rz.c0
            have z1 := Rz.c1
            have zf0 := Rz.f0
            have zf1 := Rz.f1
            have zl := Rz.lt
            have yl := Ry.lt
            rcases HP.out with ⟨p1, p2, p3⟩ | ⟨p1, p3⟩
            · have HV := Lib.hid (some_.out _ _ p3)
              have t1 : (T == l) = true := by simpa using p2
              have t2 : T.isEmpty = false := by simpa using p1
              have t3 : (T == ([] : List UInt8)) = false := by simpa using p1
              clear p1 p2 p3
              go_wp2_with fail
              have Rz := Rz.set tv bv
              exact bodyPost_ret (v := .tuple #[.agg #[.int .i64 tv, .int .i64 bv], .bool true]) (by simp [results, Tryd.results27, go_sem, Rz.c0, Rz.c1]) rfl ⟨by rw [HV.out.1, HV.out.2.1, HV.out.2.2], by
                (repeat (first | refine grown_set ?_ (.inl (by first | omega | simp)) | refine grown_al ?_ | refine grown_dn ?_)); exact gg⟩
            · have HV := Lib.hid (none_.out p3)
              by_cases hT : T = []
              · subst hT
                clear p1 p3
                go_wp2_with fail
                have Rz := Rz.set 0 0
                exact bodyPost_ret (v := .tuple #[.agg #[.int .i64 0, .int .i64 0], .bool false]) (by simp [results, Tryd.results27, go_sem, Rz.c0, Rz.c1]) rfl ⟨by rw [HV.out.1, HV.out.2.1, HV.out.2.2], by
                  (repeat (first | refine grown_set ?_ (.inl (by first | omega | simp)) | refine grown_al ?_ | refine grown_dn ?_)); exact gg⟩
              · have t1 : (T == l) = false := by
                  rcases p1 with p1 | p1
                  · exact absurd p1 hT
                  · simpa using p1
                have t2 : T.isEmpty = false := by simpa using hT
                have t3 : (T == ([] : List UInt8)) = false := by simpa using hT
                clear p1 p3 hT
                go_wp2_with fail
                have Rz := Rz.set 0 0
                exact bodyPost_ret (v := .tuple #[.agg #[.int .i64 0, .int .i64 0], .bool false]) (by simp [results, Tryd.results27, go_sem, Rz.c0, Rz.c1]) rfl ⟨by rw [HV.out.1, HV.out.2.1, HV.out.2.2], by
                  (repeat (first | refine grown_set ?_ (.inl (by first | omega | simp)) | refine grown_al ?_ | refine grown_dn ?_)); exact gg⟩
end Go.Proofs.YtekhdcfnpgkodaaDoor
