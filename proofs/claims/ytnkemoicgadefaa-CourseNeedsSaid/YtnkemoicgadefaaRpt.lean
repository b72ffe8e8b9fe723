/-
  The reference's Put.
-/
import Derived.Test.YtnkemoicgadefaaRsm
namespace Go.Proofs.Ytnkemoicgadefaa
open Go.RowKit
attribute [local go_sem] get_mk extract_mk
theorem Vals.takeV {w : World} {A : Option Addr} {n c : Nat} {vs : List Value} (h : Vals w A n c 1 vs) (k : Nat) (hk : k ≤ n) : Vals w A k c 1 (vs.take k) :=
  ⟨by have := h.len; rw [List.length_take]; omega, by have := h.le; omega, h.cap, h.nil, fun v hv => h.one v (List.mem_of_mem_take hv), fun h0 => by
    obtain ⟨ad, e, hb, hc⟩ := h.cell (by omega)
    exact ⟨ad, e, hb, fun j v hj => hc j v (by
      rw [List.getElem?_take] at hj
      split at hj
      · exact hj
      · cases hj)⟩⟩
theorem Vals.dropV {w : World} {ad : Addr} {n c : Nat} {vs : List Value} (h : Vals w (some ad) n c 1 vs) (k : Nat) (hk : k ≤ n) : Vals w (some (ad.add k)) (n - k) (c - k) 1 (vs.drop k) :=
  ⟨by have := h.len; rw [List.length_drop]; omega, by have := h.le; omega, by have := h.cap; omega, (fun e => by cases e), fun v hv => h.one v (List.mem_of_mem_drop hv), fun h0 => by
    obtain ⟨ad', e, hb, hc⟩ := h.cell (by omega)
    injection e with e
    subst e
    exact ⟨_, rfl, by rw [add_block]; exact hb, fun j v hj => by
      rw [add_add]
      exact hc _ v (by rwa [List.getElem?_drop] at hj)⟩⟩
theorem Vals.dropA {w : World} {ad a6 : Addr} {n c : Nat} {vs : List Value} (h : Vals w (some ad) n c 1 vs) (k : Nat) (hk : k ≤ n) (ha : a6 = if c = k then ad else ad.add k) : Vals w (some a6) (n - k) (c - k) 1 (vs.drop k) := by
  by_cases hc : c = k
  · have h1 := h.le
    have h2 := h.len
    have h3 : n - k = 0 := by omega
    have h4 : c - k = 0 := by omega
    rw [h3, h4, List.drop_eq_nil_of_le (by omega)]
    exact ⟨by simp, Nat.le_refl _, by omega, (fun e => by cases e), (fun _ hv => by cases hv), fun h0 => by omega⟩
  · rw [ha, if_neg hc]
    exact h.dropV k hk
/-- one string more in its place -/
theorem put_math {l : List Str} {s : Str} {k : Nat} (hi : Inc l) (hs : s ∉ l) (h1 : ∀ x ∈ l.drop k, s < x) (h2 : k = 0 ∨ ∃ x, l[k - 1]? = some x ∧ ¬ s < x) : Inc (l.take k ++ [s] ++ l.drop k) ∧ ∀ x, x ∈ l.take k ++ [s] ++ l.drop k ↔ x = s ∨ x ∈ l := by
  have h3 : ∀ x ∈ l.take k, x < s := by
    rcases h2 with rfl | ⟨y, hy, hn⟩
    · intro x hx; simp at hx
    · intro x hx
      have hys : y < s := by
        rcases Classical.em (y < s) with h | h
        · exact h
        · exact absurd (lt_tri s y hn h) (fun e => hs (e ▸ List.mem_of_getElem? hy))
      obtain ⟨j, hj⟩ := List.getElem?_of_mem hx
      rw [List.getElem?_take] at hj
      split at hj
      · rename_i hjk
        by_cases he : j = k - 1
        · subst he
          rw [hy] at hj
          exact (Option.some.inj hj) ▸ hys
        · obtain ⟨p, q⟩ := List.getElem?_eq_some_iff.1 hj
          obtain ⟨p2, q2⟩ := List.getElem?_eq_some_iff.1 hy
          have := List.pairwise_iff_getElem.1 hi j (k - 1) p p2 (by omega)
          rw [q, q2] at this
          exact lt_tr this hys
      · cases hj
  refine ⟨?_, fun x => ?_⟩
  · unfold Inc at hi ⊢
    rw [List.append_assoc, List.pairwise_append]
    refine ⟨hi.sublist (List.take_sublist _ _), ?_, ?_⟩
    · rw [List.singleton_append, List.pairwise_cons]
      exact ⟨h1, hi.sublist (List.drop_sublist _ _)⟩
    · intro a ha b hb
      rcases List.mem_append.1 hb with hb | hb
      · rw [List.mem_singleton.1 hb]; exact h3 a ha
      · exact lt_tr (h3 a ha) (h1 b hb)
  · have hx : x ∈ l ↔ x ∈ l.take k ∨ x ∈ l.drop k := by
      rw [← List.mem_append, List.take_append_drop]
    simp only [List.mem_append, List.mem_singleton, hx]
    constructor
    · rintro ((h | h) | h)
      · exact .inr (.inl h)
      · exact .inl h
      · exact .inr (.inr h)
    · rintro (h | h | h)
      · exact .inl (.inr h)
      · exact .inl (.inl h)
      · exact .inr h
set_option maxRecDepth 100000 in
set_option maxHeartbeats 2000000 in
theorem put_r (A : Option Addr) (n c : Nat) (l : List Str) (s : Str) (hs : s.length ≤ 1152921504606846976) (w : World) (h : Strs w A n c l) (hi : Inc l) (h9 : n ≤ 9999) :
    Calls Try.prog 31 #[.slice A n c, .string ⟨s.toArray⟩] w fun e w' => ∃ (B : Option Addr) (m d : Nat) (D : List Str), e = .returned (.slice B m d) ∧ Strs w' B m d D ∧ Inc D ∧ (∀ x, x ∈ D ↔ x = s ∨ x ∈ l) ∧ m ≤ n + 1 ∧ w.grownBy w' none ∧ ((s ∈ l ∧ B = A) ∨ ∀ ad, B = some ad → w.heap.size ≤ ad.block) := by
  have HA := Lib.hid h
  have HI := Lib.hid hi
  have HN := Lib.hid h.len
  have HL9 := Lib.hid h9
  have HS9 := Lib.hid hs
  have hle := h.v.le
  have hcap := h.v.cap
  clear hi h hs h9
  go_enter Try.func31, Try.ntmps31
  go_wp2_with fail
  refine (has_r A n c l s w HA.out).mono ?_
  rintro e w1 ⟨rfl, rfl⟩
  by_cases hm : s ∈ l
  · have HM := Lib.hid hm
    rw [decide_eq_true hm]
    clear hm
    go_wp2_with fail
    go_ret
    exact ⟨A, n, c, l, rfl, HA.out, HI.out, (fun x => ⟨.inr, fun e => by rcases e with rfl | e; exact HM.out; exact e⟩), by omega, grown_refl _, .inl ⟨HM.out, rfl⟩⟩
  · have HM := Lib.hid hm
    rw [decide_eq_false hm]
    clear hm
    go_wp2_with fail
    go_loopw [5] (fun z wr => ∃ k : Nat, k ≤ n ∧ z = .int .i64 (k : Int) ∧ Hid (∀ x ∈ l.drop k, s < x) ∧ wr = w1) (fun z _ => (intOf z).toNat)
    case atStart => exact ⟨n, Nat.le_refl _, rfl, Lib.hid (by rw [HN.out, List.drop_length]; intro x hx; cases hx), rfl⟩
    case round =>
      obtain ⟨k, hk, rfl, HT, rfl⟩ := hrel
      by_cases hz : k = 0
      · have H2 : Hid (k = 0 ∨ ∃ x, l[k - 1]? = some x ∧ ¬ s < x) := Lib.hid (.inl hz)
        have z1 : decide ((0 : Int) < (k : Int)) = false := decide_eq_false (by omega)
        have z2 : ((0 : Int) < (k : Int)) = False := eq_false (by omega)
        have z3 : (0 < k) = False := eq_false (by omega)
        clear hz
        cases A with
        | none =>
          have HC0 := Lib.hid (HA.out.v.nil rfl)
          have HP := Lib.hid (put_math HI.out HM.out HT.out H2.out)
          clear HT H2 HI HM
          go_upto_region 6 with fail
          have k1 : (0 : Int) ≤ (k : Int) := by omega
          have k2 : (k : Int) ≤ (n : Int) := by omega
          have k3 : (k : Int) ≤ (c : Int) := by omega
          have k4 : k ≤ c := by omega
          have ga := World.grownBy_alloc wr (.cells #[] 9) none
          have HMd : Hid ((wr.alloc (.cells #[] 9)).ownsRow wr.heap.size 9 1 (.slice (some ⟨wr.heap.size, 0, none⟩) 0 0) 0 []) := Lib.hid (World.ownsRow_made (base := wr.heap.size) (e := 9) (size := 1) wr #[] 0 (Nat.le_refl _) (by decide) rfl)
          have HV := Lib.hid ((HA.out.v.takeV k hk).kept ga)
          have hbase : wr.heap.size ≤ (wr.alloc (.cells #[] 9)).heap.size := by simp
          replace ga := Lib.hid ga
          go_upto_region 7 with (at_builtin; first
              | (refine wpList_append_vals elt9 rfl (.tmp 26) (.tmp 29) rfl wr.heap.size _ 0 [] rfl HMd.out none k c _ rfl HV.out (by have := HL9.out; omega) hbase ?_
                 intro v3 w8 ho hg hb hv
                 have G8 := Lib.hid (ga.out.andThen hg (fun r e => .inl (by have e : some wr.heap.size = some r := e; injection e with e; omega)))
                 replace ho := Lib.hid ho
                 clear hg hb hv))
          have gd := G8.out.trans (grown_dr (grown_refl w8))
          have HOd := Lib.hid (World.ownsRow.kept ho.out (grown_dr (grown_refl w8)) (by cases v3.ownBlock with | none => exact .inl rfl | some k => exact .inr (by simp)))
          have HD : Hid (∀ W, wr.grownBy W none → Vals W none (n - k) (c - k) 1 ((l.map fun s => Value.string ⟨s.toArray⟩).drop k)) := Lib.hid (fun W g => (by
            have h0 : c = 0 := HA.out.v.nil rfl
            have h1 : n - k = 0 := by omega
            have h2 : c - k = 0 := by omega
            have h3 : l.length = n := HN.out.symm
            rw [h1, h2, List.drop_eq_nil_of_le (by simp; omega)]
            exact Vals.nil_ W 1))
          have HOK : Hid (∀ x ∈ l.take k ++ [s] ++ l.drop k, x.length ≤ 1152921504606846976) := Lib.hid (fun x hx => by
            rcases (HP.out.2 x).1 hx with rfl | hx
            · exact HS9.out
            · exact HA.out.ok x hx)
          clear ho hbase HV HMd ga
          refine wp_region_noPanic ?_
          refine wp_region_held_drew (S := (fun W => wr.grownBy W none)) (by kernel_rfl) ?_ (fun hHeld => ?_)
          · (try dsimp only); exact gd
          generalize w8.drew = wx at *
          refine wpAnyH_take (i := 0) (oi := _) (v := ?_) rfl (by kernel_rfl) (by kernel_rfl) (by kernel_rfl) (fun _ _ _ h => h) (Or.inl ⟨by rfl, ?_⟩) (by assumption) ?_
          rotate_left 1
          · (intro w hSw; (try dsimp only at hSw); go_simp; first | done | with_reducible rfl)
          try go_simp
          refine wpAnyH_take (i := 1) (oi := _) (v := ?_) rfl (by kernel_rfl) (by kernel_rfl) (by kernel_rfl) (fun _ _ _ h => h) (Or.inl ⟨by rfl, ?_⟩) (by assumption) ?_
          rotate_left 1
          · (intro w hSw; (try dsimp only at hSw); go_simp; first | done | with_reducible rfl)
          try go_simp
          refine wpAnyH_take (i := 4) (oi := _) (v := ?_) rfl (by kernel_rfl) (by kernel_rfl) (by kernel_rfl) (fun _ _ _ h => h) (Or.inl ⟨by rfl, ?_⟩) (by assumption) ?_
          rotate_left 1
          · (intro w hSw; (try dsimp only at hSw); go_simp; first | done | with_reducible rfl)
          try go_simp
          refine wpAnyH_take (i := 5) (oi := _) (v := ?_) rfl (by kernel_rfl) (by kernel_rfl) (by kernel_rfl) (fun _ _ _ h => h) (Or.inl ⟨by rfl, ?_⟩) (by assumption) ?_
          rotate_left 1
          · (intro w hSw; (try dsimp only at hSw); go_simp; first | done | with_reducible rfl)
          try go_simp
          refine wpAnyH_take (i := 6) (oi := _) (v := .slice none (n - k) (c - k)) rfl (by kernel_rfl) (by kernel_rfl) (by kernel_rfl) (fun _ _ _ h => h) (Or.inl ⟨by kernel_rfl, ?_⟩) (by assumption) ?_
          · (intro w hSw; (try dsimp only at hSw); go_simp; first | done | with_reducible rfl | (rw [HA6.out]; split <;> rfl))
          try go_simp
          refine wpAnyH_ready (rs := [2]) (by kernel_rfl) (by simp) ?_
          refine AllReadyH.cons (o := _) rfl (fun K hK => ?_) ?_
          · clear hHeld
            obtain ⟨w3, e3, HN3, g3⟩ := row_of wx 9 #[.string ⟨s.toArray⟩]
            go_simp
            first | (refine hK.out _ _ ?_ (fun hHeld => ?_)) | (go_wp2_with fail; refine hK.out _ _ ?_ (fun hHeld => ?_))
            · (try dsimp only); rw [← e3]; exact gd.trans g3
            clear hK K
            rw [← e3]
            have HV2 := Lib.hid (strs_row (l := [s]) HN3 rfl rfl (by simp) (fun x hx => by rw [List.mem_singleton.1 hx]; exact HS9.out))
            replace HOd := Lib.hid (World.ownsRow.kept HOd.out g3 (by cases v3.ownBlock with | none => exact .inl rfl | some k => exact .inr (by simp)))
            replace gd := gd.trans g3
            clear e3 g3 HN3
            generalize wx.heap.size = Z at *

            refine wpAnyH_ready (rs := [3]) (by kernel_rfl) (by simp) ?_
            refine AllReadyH.cons (o := _) rfl (fun K hK => ?_) ?_
            · clear hHeld
              refine step_append_vals elt9 rfl (.tmp 31) (.tmp 33) rfl wr.heap.size v3 (0 + k) _ rfl HOd.out _ 1 1 _ rfl HV2.out.v (by have := HL9.out; omega) gd.size ?_
              intro v4 w4 ho4 hg hb hv
              replace gd := gd.andThen hg (fun r e => .inl ((World.ownsRow.lt HOd.out r e).1))
              replace ho4 := Lib.hid ho4
              clear hg hb hv
              first | (refine hK.out _ _ ?_ (fun hHeld => ?_)) | (go_wp2_with fail; refine hK.out _ _ ?_ (fun hHeld => ?_))
              · (try dsimp only); exact gd
              clear hK K
              refine wpAnyH_ready (rs := [7]) (by kernel_rfl) (by simp) ?_
              refine AllReadyH.cons (o := _) rfl (fun K hK => ?_) ?_
              · clear hHeld
                refine step_append_vals elt9 rfl (.tmp 34) (.tmp 37) rfl wr.heap.size v4 (0 + k + 1) _ rfl ho4.out none (n - k) (c - k) _ rfl (HD.out _ gd) (by have := HL9.out; omega) gd.size ?_
                intro v5 w5 ho5 hg hb hv
                replace gd := gd.andThen hg (fun r e => .inl ((World.ownsRow.lt ho4.out r e).1))
                replace ho5 := Lib.hid ho5
                clear hg hb hv
                first | (refine hK.out _ _ ?_ (fun hHeld => ?_)) | (go_wp2_with fail; refine hK.out _ _ ?_ (fun hHeld => ?_))
                · (try dsimp only); exact gd
                clear hK K
                refine wpAnyH_take (i := 8) (oi := _) (v := ?_) rfl (by kernel_rfl) (by kernel_rfl) (by kernel_rfl) (fun _ _ _ h => h) (Or.inl ⟨by rfl, ?_⟩) (by assumption) ?_
                rotate_left 1
                · (intro w hSw; (try dsimp only at hSw); go_simp; first | done | with_reducible rfl)
                try go_simp
                refine wpAnyH_done (by kernel_rfl) ?_ _
                refine NoPanic.normal ?_
                go_simp
                go_wp2_with fail
                go_ret
                obtain ⟨B5, d5, rfl, V5, HB5⟩ := own_vals ho5.out (fun u hu => by
                  simp only [List.nil_append, List.mem_append, List.map_cons, List.map_nil, List.mem_singleton] at hu
                  rcases hu with (hu | hu) | hu
                  · obtain ⟨z, _, rfl⟩ := List.mem_map.1 (List.mem_of_mem_take hu); rfl
                  · rw [hu]; rfl
                  · obtain ⟨z, _, rfl⟩ := List.mem_map.1 (List.mem_of_mem_drop hu); rfl)
                exact ⟨B5, _, d5, l.take k ++ [s] ++ l.drop k, rfl, ⟨by simpa [List.map_take, List.map_drop] using V5, HOK.out⟩, HP.out.1, HP.out.2, by omega, gd, .inr HB5⟩
              exact AllReadyH.nil
            exact AllReadyH.nil
          exact AllReadyH.nil
        | some ad =>
          have HP := Lib.hid (put_math HI.out HM.out HT.out H2.out)
          clear HT H2 HI HM
          go_upto_region 6 with fail
          obtain ⟨a6, ha6⟩ : ∃ a6, a6 = if c = k then ad else ad.add k := ⟨_, rfl⟩
          have HA6 := Lib.hid ha6
          clear ha6
          have k1 : (0 : Int) ≤ (k : Int) := by omega
          have k2 : (k : Int) ≤ (n : Int) := by omega
          have k3 : (k : Int) ≤ (c : Int) := by omega
          have k4 : k ≤ c := by omega
          have ga := World.grownBy_alloc wr (.cells #[] 9) none
          have HMd : Hid ((wr.alloc (.cells #[] 9)).ownsRow wr.heap.size 9 1 (.slice (some ⟨wr.heap.size, 0, none⟩) 0 0) 0 []) := Lib.hid (World.ownsRow_made (base := wr.heap.size) (e := 9) (size := 1) wr #[] 0 (Nat.le_refl _) (by decide) rfl)
          have HV := Lib.hid ((HA.out.v.takeV k hk).kept ga)
          have hbase : wr.heap.size ≤ (wr.alloc (.cells #[] 9)).heap.size := by simp
          replace ga := Lib.hid ga
          go_upto_region 7 with (at_builtin; first
              | (refine wpList_append_vals elt9 rfl (.tmp 26) (.tmp 29) rfl wr.heap.size _ 0 [] rfl HMd.out (some ad) k c _ rfl HV.out (by have := HL9.out; omega) hbase ?_
                 intro v3 w8 ho hg hb hv
                 have G8 := Lib.hid (ga.out.andThen hg (fun r e => .inl (by have e : some wr.heap.size = some r := e; injection e with e; omega)))
                 replace ho := Lib.hid ho
                 clear hg hb hv))
          have gd := G8.out.trans (grown_dr (grown_refl w8))
          have HOd := Lib.hid (World.ownsRow.kept ho.out (grown_dr (grown_refl w8)) (by cases v3.ownBlock with | none => exact .inl rfl | some k => exact .inr (by simp)))
          have HD : Hid (∀ W, wr.grownBy W none → Vals W (some a6) (n - k) (c - k) 1 ((l.map fun s => Value.string ⟨s.toArray⟩).drop k)) := Lib.hid (fun W g => (Vals.dropA HA.out.v k hk HA6.out).kept g)
          have HOK : Hid (∀ x ∈ l.take k ++ [s] ++ l.drop k, x.length ≤ 1152921504606846976) := Lib.hid (fun x hx => by
            rcases (HP.out.2 x).1 hx with rfl | hx
            · exact HS9.out
            · exact HA.out.ok x hx)
          clear ho hbase HV HMd ga
          refine wp_region_noPanic ?_
          refine wp_region_held_drew (S := (fun W => wr.grownBy W none)) (by kernel_rfl) ?_ (fun hHeld => ?_)
          · (try dsimp only); exact gd
          generalize w8.drew = wx at *
          refine wpAnyH_take (i := 0) (oi := _) (v := ?_) rfl (by kernel_rfl) (by kernel_rfl) (by kernel_rfl) (fun _ _ _ h => h) (Or.inl ⟨by rfl, ?_⟩) (by assumption) ?_
          rotate_left 1
          · (intro w hSw; (try dsimp only at hSw); go_simp; first | done | with_reducible rfl)
          try go_simp
          refine wpAnyH_take (i := 1) (oi := _) (v := ?_) rfl (by kernel_rfl) (by kernel_rfl) (by kernel_rfl) (fun _ _ _ h => h) (Or.inl ⟨by rfl, ?_⟩) (by assumption) ?_
          rotate_left 1
          · (intro w hSw; (try dsimp only at hSw); go_simp; first | done | with_reducible rfl)
          try go_simp
          refine wpAnyH_take (i := 4) (oi := _) (v := ?_) rfl (by kernel_rfl) (by kernel_rfl) (by kernel_rfl) (fun _ _ _ h => h) (Or.inl ⟨by rfl, ?_⟩) (by assumption) ?_
          rotate_left 1
          · (intro w hSw; (try dsimp only at hSw); go_simp; first | done | with_reducible rfl)
          try go_simp
          refine wpAnyH_take (i := 5) (oi := _) (v := ?_) rfl (by kernel_rfl) (by kernel_rfl) (by kernel_rfl) (fun _ _ _ h => h) (Or.inl ⟨by rfl, ?_⟩) (by assumption) ?_
          rotate_left 1
          · (intro w hSw; (try dsimp only at hSw); go_simp; first | done | with_reducible rfl)
          try go_simp
          refine wpAnyH_take (i := 6) (oi := _) (v := .slice (some a6) (n - k) (c - k)) rfl (by kernel_rfl) (by kernel_rfl) (by kernel_rfl) (fun _ _ _ h => h) (Or.inl ⟨by kernel_rfl, ?_⟩) (by assumption) ?_
          · (intro w hSw; (try dsimp only at hSw); go_simp; first | done | with_reducible rfl | (rw [HA6.out]; split <;> rfl))
          try go_simp
          refine wpAnyH_ready (rs := [2]) (by kernel_rfl) (by simp) ?_
          refine AllReadyH.cons (o := _) rfl (fun K hK => ?_) ?_
          · clear hHeld
            obtain ⟨w3, e3, HN3, g3⟩ := row_of wx 9 #[.string ⟨s.toArray⟩]
            go_simp
            first | (refine hK.out _ _ ?_ (fun hHeld => ?_)) | (go_wp2_with fail; refine hK.out _ _ ?_ (fun hHeld => ?_))
            · (try dsimp only); rw [← e3]; exact gd.trans g3
            clear hK K
            rw [← e3]
            have HV2 := Lib.hid (strs_row (l := [s]) HN3 rfl rfl (by simp) (fun x hx => by rw [List.mem_singleton.1 hx]; exact HS9.out))
            replace HOd := Lib.hid (World.ownsRow.kept HOd.out g3 (by cases v3.ownBlock with | none => exact .inl rfl | some k => exact .inr (by simp)))
            replace gd := gd.trans g3
            clear e3 g3 HN3
            generalize wx.heap.size = Z at *

            refine wpAnyH_ready (rs := [3]) (by kernel_rfl) (by simp) ?_
            refine AllReadyH.cons (o := _) rfl (fun K hK => ?_) ?_
            · clear hHeld
              refine step_append_vals elt9 rfl (.tmp 31) (.tmp 33) rfl wr.heap.size v3 (0 + k) _ rfl HOd.out _ 1 1 _ rfl HV2.out.v (by have := HL9.out; omega) gd.size ?_
              intro v4 w4 ho4 hg hb hv
              replace gd := gd.andThen hg (fun r e => .inl ((World.ownsRow.lt HOd.out r e).1))
              replace ho4 := Lib.hid ho4
              clear hg hb hv
              first | (refine hK.out _ _ ?_ (fun hHeld => ?_)) | (go_wp2_with fail; refine hK.out _ _ ?_ (fun hHeld => ?_))
              · (try dsimp only); exact gd
              clear hK K
              refine wpAnyH_ready (rs := [7]) (by kernel_rfl) (by simp) ?_
              refine AllReadyH.cons (o := _) rfl (fun K hK => ?_) ?_
              · clear hHeld
                refine step_append_vals elt9 rfl (.tmp 34) (.tmp 37) rfl wr.heap.size v4 (0 + k + 1) _ rfl ho4.out (some a6) (n - k) (c - k) _ rfl (HD.out _ gd) (by have := HL9.out; omega) gd.size ?_
                intro v5 w5 ho5 hg hb hv
                replace gd := gd.andThen hg (fun r e => .inl ((World.ownsRow.lt ho4.out r e).1))
                replace ho5 := Lib.hid ho5
                clear hg hb hv
                first | (refine hK.out _ _ ?_ (fun hHeld => ?_)) | (go_wp2_with fail; refine hK.out _ _ ?_ (fun hHeld => ?_))
                · (try dsimp only); exact gd
                clear hK K
                refine wpAnyH_take (i := 8) (oi := _) (v := ?_) rfl (by kernel_rfl) (by kernel_rfl) (by kernel_rfl) (fun _ _ _ h => h) (Or.inl ⟨by rfl, ?_⟩) (by assumption) ?_
                rotate_left 1
                · (intro w hSw; (try dsimp only at hSw); go_simp; first | done | with_reducible rfl)
                try go_simp
                refine wpAnyH_done (by kernel_rfl) ?_ _
                refine NoPanic.normal ?_
                go_simp
                go_wp2_with fail
                go_ret
                obtain ⟨B5, d5, rfl, V5, HB5⟩ := own_vals ho5.out (fun u hu => by
                  simp only [List.nil_append, List.mem_append, List.map_cons, List.map_nil, List.mem_singleton] at hu
                  rcases hu with (hu | hu) | hu
                  · obtain ⟨z, _, rfl⟩ := List.mem_map.1 (List.mem_of_mem_take hu); rfl
                  · rw [hu]; rfl
                  · obtain ⟨z, _, rfl⟩ := List.mem_map.1 (List.mem_of_mem_drop hu); rfl)
                exact ⟨B5, _, d5, l.take k ++ [s] ++ l.drop k, rfl, ⟨by simpa [List.map_take, List.map_drop] using V5, HOK.out⟩, HP.out.1, HP.out.2, by omega, gd, .inr HB5⟩
              exact AllReadyH.nil
            exact AllReadyH.nil
          exact AllReadyH.nil
      · obtain ⟨j, rfl⟩ : ∃ j, k = j + 1 := ⟨k - 1, by omega⟩
        clear hz
        obtain ⟨ad, x, hx, hx9, rfl, hb, cx⟩ := HA.out.at j (by omega)
        have HX := Lib.hid hx
        have j1 : (0 : Int) ≤ (j : Int) := by omega
        have j2 : (j : Int) < (n : Int) := by omega
        have j3 : decide ((0 : Int) < (j : Int) + 1) = true := decide_eq_true (by omega)
        have j4 : IntKind.i64.wrap (j : Int) = (j : Int) := by rw [IntKind.wrap_i64]; omega
        have j5 : IntKind.i64.wrap ((j : Int) + 1 - 1) = (j : Int) := by rw [IntKind.wrap_i64]; omega
        have j6 : ((0 : Int) < (j : Int) + 1) = True := eq_true (by omega)
        clear hx
        by_cases hlt : s < x
        · have c1 : Op.bytesLess x s = false := by rw [bytesLess_eq, decide_eq_false_iff_not]; exact lt_asy hlt
          have c2 : (x == s) = false := by rw [beq_eq_false_iff_ne]; intro e; rw [e] at hlt; exact lt_irr s hlt
          have HT2 : Hid (∀ y ∈ l.drop j, s < y) := Lib.hid (by
            intro y hy
            obtain ⟨i, hi⟩ := List.getElem?_of_mem hy
            rw [List.getElem?_drop] at hi
            cases i with
            | zero =>
              rw [Nat.add_zero, HX.out] at hi
              exact (Option.some.inj hi) ▸ hlt
            | succ i =>
              exact HT.out y (List.mem_of_getElem? (i := i) (by rw [List.getElem?_drop, ← hi]; congr 1; omega)))
          clear HT HX hlt
          go_wp2_with fail
          go_roundw
          case rel => exact ⟨j, by omega, by go_num, HT2, trivial⟩
          case measure => simp [intOf]
        · have hxs : x < s := by
            rcases Classical.em (x < s) with h | h
            · exact h
            · exact absurd (lt_tri x s h hlt) (fun e => HM.out (e ▸ List.mem_of_getElem? HX.out))
          have c1 : Op.bytesLess x s = true := by rw [bytesLess_eq, decide_eq_true_eq]; exact hxs
          clear hxs
          have H2 : Hid (j + 1 = 0 ∨ ∃ x, l[j + 1 - 1]? = some x ∧ ¬ s < x) := Lib.hid (.inr ⟨x, by simpa using HX.out, hlt⟩)
          clear HX hlt
          have HP := Lib.hid (put_math HI.out HM.out HT.out H2.out)
          clear HT H2 HI HM
          go_upto_region 6 with fail
          generalize j + 1 = k at *
          obtain ⟨a6, ha6⟩ : ∃ a6, a6 = if c = k then ad else ad.add k := ⟨_, rfl⟩
          have HA6 := Lib.hid ha6
          clear ha6
          have k1 : (0 : Int) ≤ (k : Int) := by omega
          have k2 : (k : Int) ≤ (n : Int) := by omega
          have k3 : (k : Int) ≤ (c : Int) := by omega
          have k4 : k ≤ c := by omega
          have ga := World.grownBy_alloc wr (.cells #[] 9) none
          have HMd : Hid ((wr.alloc (.cells #[] 9)).ownsRow wr.heap.size 9 1 (.slice (some ⟨wr.heap.size, 0, none⟩) 0 0) 0 []) := Lib.hid (World.ownsRow_made (base := wr.heap.size) (e := 9) (size := 1) wr #[] 0 (Nat.le_refl _) (by decide) rfl)
          have HV := Lib.hid ((HA.out.v.takeV k hk).kept ga)
          have hbase : wr.heap.size ≤ (wr.alloc (.cells #[] 9)).heap.size := by simp
          replace ga := Lib.hid ga
          go_upto_region 7 with (at_builtin; first
              | (refine wpList_append_vals elt9 rfl (.tmp 26) (.tmp 29) rfl wr.heap.size _ 0 [] rfl HMd.out (some ad) k c _ rfl HV.out (by have := HL9.out; omega) hbase ?_
                 intro v3 w8 ho hg hb hv
                 have G8 := Lib.hid (ga.out.andThen hg (fun r e => .inl (by have e : some wr.heap.size = some r := e; injection e with e; omega)))
                 replace ho := Lib.hid ho
                 clear hg hb hv))
          have gd := G8.out.trans (grown_dr (grown_refl w8))
          have HOd := Lib.hid (World.ownsRow.kept ho.out (grown_dr (grown_refl w8)) (by cases v3.ownBlock with | none => exact .inl rfl | some k => exact .inr (by simp)))
          have HD : Hid (∀ W, wr.grownBy W none → Vals W (some a6) (n - k) (c - k) 1 ((l.map fun s => Value.string ⟨s.toArray⟩).drop k)) := Lib.hid (fun W g => (Vals.dropA HA.out.v k hk HA6.out).kept g)
          have HOK : Hid (∀ x ∈ l.take k ++ [s] ++ l.drop k, x.length ≤ 1152921504606846976) := Lib.hid (fun x hx => by
            rcases (HP.out.2 x).1 hx with rfl | hx
            · exact HS9.out
            · exact HA.out.ok x hx)
          clear ho hbase HV HMd ga
          refine wp_region_noPanic ?_
          refine wp_region_held_drew (S := (fun W => wr.grownBy W none)) (by kernel_rfl) ?_ (fun hHeld => ?_)
          · (try dsimp only); exact gd
          generalize w8.drew = wx at *
          refine wpAnyH_take (i := 0) (oi := _) (v := ?_) rfl (by kernel_rfl) (by kernel_rfl) (by kernel_rfl) (fun _ _ _ h => h) (Or.inl ⟨by rfl, ?_⟩) (by assumption) ?_
          rotate_left 1
          · (intro w hSw; (try dsimp only at hSw); go_simp; first | done | with_reducible rfl)
          try go_simp
          refine wpAnyH_take (i := 1) (oi := _) (v := ?_) rfl (by kernel_rfl) (by kernel_rfl) (by kernel_rfl) (fun _ _ _ h => h) (Or.inl ⟨by rfl, ?_⟩) (by assumption) ?_
          rotate_left 1
          · (intro w hSw; (try dsimp only at hSw); go_simp; first | done | with_reducible rfl)
          try go_simp
          refine wpAnyH_take (i := 4) (oi := _) (v := ?_) rfl (by kernel_rfl) (by kernel_rfl) (by kernel_rfl) (fun _ _ _ h => h) (Or.inl ⟨by rfl, ?_⟩) (by assumption) ?_
          rotate_left 1
          · (intro w hSw; (try dsimp only at hSw); go_simp; first | done | with_reducible rfl)
          try go_simp
          refine wpAnyH_take (i := 5) (oi := _) (v := ?_) rfl (by kernel_rfl) (by kernel_rfl) (by kernel_rfl) (fun _ _ _ h => h) (Or.inl ⟨by rfl, ?_⟩) (by assumption) ?_
          rotate_left 1
          · (intro w hSw; (try dsimp only at hSw); go_simp; first | done | with_reducible rfl)
          try go_simp
          refine wpAnyH_take (i := 6) (oi := _) (v := .slice (some a6) (n - k) (c - k)) rfl (by kernel_rfl) (by kernel_rfl) (by kernel_rfl) (fun _ _ _ h => h) (Or.inl ⟨by kernel_rfl, ?_⟩) (by assumption) ?_
          · (intro w hSw; (try dsimp only at hSw); go_simp; first | done | with_reducible rfl | (rw [HA6.out]; split <;> rfl))
          try go_simp
          refine wpAnyH_ready (rs := [2]) (by kernel_rfl) (by simp) ?_
          refine AllReadyH.cons (o := _) rfl (fun K hK => ?_) ?_
          · clear hHeld
            obtain ⟨w3, e3, HN3, g3⟩ := row_of wx 9 #[.string ⟨s.toArray⟩]
            go_simp
            first | (refine hK.out _ _ ?_ (fun hHeld => ?_)) | (go_wp2_with fail; refine hK.out _ _ ?_ (fun hHeld => ?_))
            · (try dsimp only); rw [← e3]; exact gd.trans g3
            clear hK K
            rw [← e3]
            have HV2 := Lib.hid (strs_row (l := [s]) HN3 rfl rfl (by simp) (fun x hx => by rw [List.mem_singleton.1 hx]; exact HS9.out))
            replace HOd := Lib.hid (World.ownsRow.kept HOd.out g3 (by cases v3.ownBlock with | none => exact .inl rfl | some k => exact .inr (by simp)))
            replace gd := gd.trans g3
            clear e3 g3 HN3
            generalize wx.heap.size = Z at *

            refine wpAnyH_ready (rs := [3]) (by kernel_rfl) (by simp) ?_
            refine AllReadyH.cons (o := _) rfl (fun K hK => ?_) ?_
            · clear hHeld
              refine step_append_vals elt9 rfl (.tmp 31) (.tmp 33) rfl wr.heap.size v3 (0 + k) _ rfl HOd.out _ 1 1 _ rfl HV2.out.v (by have := HL9.out; omega) gd.size ?_
              intro v4 w4 ho4 hg hb hv
              replace gd := gd.andThen hg (fun r e => .inl ((World.ownsRow.lt HOd.out r e).1))
              replace ho4 := Lib.hid ho4
              clear hg hb hv
              first | (refine hK.out _ _ ?_ (fun hHeld => ?_)) | (go_wp2_with fail; refine hK.out _ _ ?_ (fun hHeld => ?_))
              · (try dsimp only); exact gd
              clear hK K
              refine wpAnyH_ready (rs := [7]) (by kernel_rfl) (by simp) ?_
              refine AllReadyH.cons (o := _) rfl (fun K hK => ?_) ?_
              · clear hHeld
                refine step_append_vals elt9 rfl (.tmp 34) (.tmp 37) rfl wr.heap.size v4 (0 + k + 1) _ rfl ho4.out (some a6) (n - k) (c - k) _ rfl (HD.out _ gd) (by have := HL9.out; omega) gd.size ?_
                intro v5 w5 ho5 hg hb hv
                replace gd := gd.andThen hg (fun r e => .inl ((World.ownsRow.lt ho4.out r e).1))
                replace ho5 := Lib.hid ho5
                clear hg hb hv
                first | (refine hK.out _ _ ?_ (fun hHeld => ?_)) | (go_wp2_with fail; refine hK.out _ _ ?_ (fun hHeld => ?_))
                · (try dsimp only); exact gd
                clear hK K
                refine wpAnyH_take (i := 8) (oi := _) (v := ?_) rfl (by kernel_rfl) (by kernel_rfl) (by kernel_rfl) (fun _ _ _ h => h) (Or.inl ⟨by rfl, ?_⟩) (by assumption) ?_
                rotate_left 1
                · (intro w hSw; (try dsimp only at hSw); go_simp; first | done | with_reducible rfl)
                try go_simp
                refine wpAnyH_done (by kernel_rfl) ?_ _
                refine NoPanic.normal ?_
                go_simp
                go_wp2_with fail
                go_ret
                obtain ⟨B5, d5, rfl, V5, HB5⟩ := own_vals ho5.out (fun u hu => by
                  simp only [List.nil_append, List.mem_append, List.map_cons, List.map_nil, List.mem_singleton] at hu
                  rcases hu with (hu | hu) | hu
                  · obtain ⟨z, _, rfl⟩ := List.mem_map.1 (List.mem_of_mem_take hu); rfl
                  · rw [hu]; rfl
                  · obtain ⟨z, _, rfl⟩ := List.mem_map.1 (List.mem_of_mem_drop hu); rfl)
                exact ⟨B5, _, d5, l.take k ++ [s] ++ l.drop k, rfl, ⟨by simpa [List.map_take, List.map_drop] using V5, HOK.out⟩, HP.out.1, HP.out.2, by omega, gd, .inr HB5⟩
              exact AllReadyH.nil
            exact AllReadyH.nil
          exact AllReadyH.nil
end Go.Proofs.Ytnkemoicgadefaa
