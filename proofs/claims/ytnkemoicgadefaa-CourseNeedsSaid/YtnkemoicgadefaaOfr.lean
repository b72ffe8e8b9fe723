/-
  The law's offer with times.
-/
import Derived.Test.YtnkemoicgadefaaSan
namespace Go.Proofs.Ytnkemoicgadefaa
open Go.RowKit
attribute [local go_sem] get_mk extract_mk
theorem step_append_vals {T e sz by_ : Nat} {z : Value} (E : Elt T e sz by_ z) {w : World} {ops : Array Oper} {o : Oper} {a : Act} {K' : Act → World → Prop} {Q : Exit → Act → World → Prop} {R : Prop} (hgd : o.guard = none) (s x : Operand)
    (ho : o.op = .call { callee := .builtin .append, args := #[s, x], argTypes := #[T, T] }) (base : Nat) (v : Value) (k : Nat) (D : List Value) (hs : a.eval s = v)
    (hown : w.ownsRow base e sz v k D) (A : Option Addr) (m c : Nat) (l : List Value) (hx : a.eval x = .slice A m c) (hl : Vals w A m c sz l)
    (hb : k + m ≤ 1000000) (hbase : base ≤ w.heap.size)
    (h : ∀ v' w', w'.ownsRow base e sz v' (k + m) (D ++ l) → w.grownBy w' v.ownBlock → (v'.ownBlock = v.ownBlock ∨ v'.ownBlock = some w.heap.size) → (v' = .slice none 0 0 ↔ v = .slice none 0 0 ∧ m = 0) → K' (a.put o.dst v') w') :
    if Region.wanted o (yielded ops a.tmps) = true then Oper.wp Try.prog o a w K' Q else R := by
  have hw : Region.wanted o (yielded ops a.tmps) = true := by simp [Region.wanted, hgd]
  rw [if_pos hw]
  exact wp_append_vals E w s x ho base v k D hs hown A m c l hx hl hb hbase h
theorem own_base {w : World} {b b' e sz n : Nat} {v : Value} {vs : List Value} (h : w.ownsRow b e sz v n vs) (hb : b' ≤ b) : w.ownsRow b' e sz v n vs := by
  unfold World.ownsRow at h ⊢
  refine ⟨h.1, ?_⟩
  rcases h.2 with e | ⟨g, cap, cur, e, h1, h2⟩
  · exact .inl e
  · exact .inr ⟨g, cap, cur, e, Nat.le_trans hb h1, h2⟩
/-- bytes as numbers -/
structure U8s (w : World) (A : Option Addr) (n c : Nat) (l : List Int) : Prop where
  v : Vals w A n c 1 (l.map (Value.int .u8))
  ok : ∀ x ∈ l, 0 ≤ x ∧ x < 256
theorem U8s.kept {w w' : World} {A : Option Addr} {n c : Nat} {l : List Int} (h : U8s w A n c l) (g : w.grownBy w' none) : U8s w' A n c l := ⟨h.v.kept g, h.ok⟩
theorem U8s.len {w : World} {A : Option Addr} {n c : Nat} {l : List Int} (h : U8s w A n c l) : n = l.length := by have := h.v.len; simpa using this
theorem U8s.at {w : World} {A : Option Addr} {n c : Nat} {l : List Int} (h : U8s w A n c l) (j : Nat) (hj : j < n) : ∃ (ad : Addr) (x : Int), l[j]? = some x ∧ (0 ≤ x ∧ x < 256) ∧ A = some ad ∧ ad.block < w.heap.size ∧ w.cell? (ad.add j) = some (.int .u8 x) := by
  obtain ⟨ad, v, e, hv, hb, hc⟩ := h.v.at j hj
  rw [List.getElem?_map] at hv
  obtain ⟨x, hx, rfl⟩ := Option.map_eq_some_iff.1 hv
  exact ⟨ad, x, hx, h.ok x (List.mem_of_getElem? hx), e, hb, hc⟩
/-- the times of an offer -/
def slotsV (l : List Int) : List Int := (l.take 6).map fun z => z % 8 + 1
theorem slots_snoc {l : List Int} {k : Nat} {x : Int} (h : l[k]? = some x) (hk : k < 6) : slotsV (l.take (k + 1)) = slotsV (l.take k) ++ [x % 8 + 1] := by
  unfold slotsV
  rw [List.take_take, List.take_take, Nat.min_eq_right (by omega), Nat.min_eq_right (by omega), take_snoc h]
  simp
set_option maxRecDepth 100000 in
set_option maxHeartbeats 2000000 in
theorem offer_k (A : Option Addr) (n c : Nat) (l : List Int) (w : World) (h : U8s w A n c l) :
    Calls Try.prog 32 #[.slice A n c] w fun e w' => ∃ v, e = .returned (.agg #[.string ⟨#[]⟩, .int .i64 0, .int .i64 0, v, .slice none 0 0]) ∧ OwnI w' w.heap.size v (slotsV l) ∧ w.grownBy w' none := by
  have HA := Lib.hid (fun W (g : w.grownBy W none) => h.kept g)
  have HL := Lib.hid h.len
  have hle := h.v.le
  have hcap := h.v.cap
  clear h
  obtain ⟨w1, e1, HR, g1⟩ := row_of w 35 #[.string ⟨#[]⟩, .int .i64 0, .int .i64 0, .slice none 0 0, .slice none 0 0]
  obtain ⟨w2, e2, HO, g2⟩ := row_of w1 35 #[.string ⟨#[]⟩, .int .i64 0, .int .i64 0, .slice none 0 0, .slice none 0 0]
  have s1 : w1.heap.size = w.heap.size + 1 := by rw [e1]; simp
  rw [s1] at HO
  replace HR := HR.kept g2
  have E1 := Lib.hid e1
  have E2 := Lib.hid e2
  clear e1 e2
  go_enter Try.func32, Try.ntmps32
  go_upto_region 1 with fail
  go_upto_region 2 with fail
  rw [← E1.out, ← E2.out]
  clear E1 E2 s1
  have HG := Lib.hid (g1.trans g2)
  have HRR := Lib.hid HR
  have HOO := Lib.hid HO
  have HSZ : Hid (w.heap.size ≤ w.heap.size + 1 ∧ w.heap.size ≠ w.heap.size + 1) := Lib.hid ⟨by omega, by omega⟩
  have HB := Lib.hid HO.lt
  clear HR HO g1 g2
  generalize w.heap.size + 1 = P at *
  generalize hr : w.heap.size = R at *
  have HRE := Lib.hid hr
  clear hr
  go_wp2_with fail
  go_loopw [4] (fun z wr => ∃ (k : Nat) (v : Value), k ≤ n ∧ k ≤ 6 ∧ z = .int .i64 (k : Int) ∧ Hid (Row wr P 35 #[.string ⟨#[]⟩, .int .i64 0, .int .i64 0, v, .slice none 0 0] ∧ Row wr R 35 #[.string ⟨#[]⟩, .int .i64 0, .int .i64 0, .slice none 0 0, .slice none 0 0] ∧ OwnI wr (P + 1) v (slotsV (l.take k))) ∧ Hid (w.grownBy wr none)) (fun z _ => n - (intOf z).toNat)
  case atStart => exact ⟨0, .slice none 0 0, by omega, by omega, rfl, Lib.hid ⟨HOO.out, HRR.out, World.ownsRow_nil _ _ 3 1⟩, HG⟩
  case round =>
    clear HOO HRR HG HB
    obtain ⟨k, v, hk, hk6, rfl, H, HG⟩ := hrel
    have HP0 := Lib.hid H.out.1
    have HR0 := Lib.hid H.out.2.1
    have HO0 := Lib.hid H.out.2.2
    clear H
    by_cases hlt : k < n
    · by_cases h6 : k < 6
      · obtain ⟨ad, x, hx, ⟨x1, x2⟩, rfl, hb, cx⟩ := (HA.out _ HG.out).at k hlt
        obtain ⟨ad0, x0, hx0, _, e0, hb0, cx0⟩ := (HA.out _ (grown_refl _)).at k hlt
        obtain rfl := Option.some.inj e0
        rw [hx] at hx0
        obtain rfl := Option.some.inj hx0
        have HT := Lib.hid (slots_snoc hx h6)
        have k1 : (0 : Int) ≤ (k : Int) := by omega
        have k2 : (k : Int) < (n : Int) := by omega
        have hm : x.tmod 8 = x % 8 := Int.tmod_eq_emod_of_nonneg x1
        have hw8 : IntKind.u8.wrap (x % 8) = x % 8 := by show (x % 8) % 256 = x % 8; omega
        have hw9 : IntKind.i64.wrap (x % 8) = x % 8 := by rw [IntKind.wrap_i64]; omega
        have HI : Hid (∀ z ∈ [x % 8 + 1], i64 z) := Lib.hid (fun z hz => by rw [List.mem_singleton.1 hz]; unfold i64; omega)
        have hw1 : IntKind.i64.wrap (x % 8 + 1) = x % 8 + 1 := by rw [IntKind.wrap_i64]; omega
        clear hx hb hb0 cx e0
        have HLN : Hid ((slotsV (l.take k)).length ≤ 6) := Lib.hid (by unfold slotsV; simp; omega)
        have HPd := HP0.out.kept (grown_dr (grown_refl _))
        have HRd := Lib.hid (HR0.out.kept (grown_dr (grown_refl _)))
        have HOd := Lib.hid (World.ownsRow.kept HO0.out (grown_dr (grown_refl _)) (by cases v.ownBlock with | none => exact .inl rfl | some k => exact .inr (by simp)))
        have gd := HG.out.trans (grown_dr (grown_refl wr))
        clear HP0 HR0 HO0 HG
        go_upto_region 5 with fail
        refine wp_region_noPanic ?_
        refine wp_region_held_drew (S := (fun W => w.grownBy W none)) (by kernel_rfl) ?_ (fun hHeld => ?_)
        · (try dsimp only); exact gd
        generalize wr.drew = wx at *
        refine wpAnyH_take (i := 0) (oi := _) (v := ?_) rfl (by kernel_rfl) (by kernel_rfl) (by kernel_rfl) (fun _ _ _ h => h) (Or.inl ⟨by rfl, ?_⟩) (by assumption) ?_
        rotate_left 1
        · (intro w hSw; (try dsimp only at hSw); go_simp; first | done | with_reducible rfl)
        try go_simp
        refine wpAnyH_take (i := 2) (oi := _) (v := ?_) rfl (by kernel_rfl) (by kernel_rfl) (by kernel_rfl) (fun _ _ _ h => h) (Or.inl ⟨by rfl, ?_⟩) (by assumption) ?_
        rotate_left 1
        · (intro w hSw; (try dsimp only at hSw); go_simp; first | done | with_reducible rfl)
        try go_simp
        refine wpAnyH_take (i := 3) (oi := _) (v := ?_) rfl (by kernel_rfl) (by kernel_rfl) (by kernel_rfl) (fun _ _ _ h => h) (Or.inl ⟨by rfl, ?_⟩) (by assumption) ?_
        rotate_left 1
        · (intro w hSw; (try dsimp only at hSw); go_simp; first | done | with_reducible rfl)
        try go_simp
        refine wpAnyH_take (i := 4) (oi := _) (v := ?_) rfl (by kernel_rfl) (by kernel_rfl) (by kernel_rfl) (fun _ _ _ h => h) (Or.inl ⟨by rfl, ?_⟩) (by assumption) ?_
        rotate_left 1
        · (intro w hSw; (try dsimp only at hSw); go_simp; first | done | with_reducible rfl)
        try go_simp
        refine wpAnyH_take (i := 5) (oi := _) (v := .int .u8 x) rfl (by kernel_rfl) (by kernel_rfl) (by kernel_rfl) (fun _ _ _ h => h) (Or.inl ⟨by kernel_rfl, ?_⟩) (by assumption) ?_
        · (intro w hSw; (try dsimp only at hSw); go_simp; have y0 := gcell hSw cx0; clear hSw; go_simp; first | done | with_reducible rfl)
        try go_simp
        refine wpAnyH_take (i := 6) (oi := _) (v := ?_) rfl (by kernel_rfl) (by kernel_rfl) (by kernel_rfl) (fun _ _ _ h => h) (Or.inl ⟨by rfl, ?_⟩) (by assumption) ?_
        rotate_left 1
        · (intro w hSw; (try dsimp only at hSw); go_simp; first | done | with_reducible rfl)
        try go_simp
        refine wpAnyH_take (i := 7) (oi := _) (v := ?_) rfl (by kernel_rfl) (by kernel_rfl) (by kernel_rfl) (fun _ _ _ h => h) (Or.inl ⟨by rfl, ?_⟩) (by assumption) ?_
        rotate_left 1
        · (intro w hSw; (try dsimp only at hSw); go_simp; first | done | with_reducible rfl)
        try go_simp
        refine wpAnyH_take (i := 8) (oi := _) (v := ?_) rfl (by kernel_rfl) (by kernel_rfl) (by kernel_rfl) (fun _ _ _ h => h) (Or.inl ⟨by rfl, ?_⟩) (by assumption) ?_
        rotate_left 1
        · (intro w hSw; (try dsimp only at hSw); go_simp; first | done | with_reducible rfl)
        try go_simp
        refine wpAnyH_ready (rs := [1, 9]) (by kernel_rfl) (by simp) ?_
        refine AllReadyH.cons (o := _) rfl (fun K hK => ?_) ?_
        · clear hHeld
          have c3 := HPd.c 3 rfl
          go_simp
          first | (refine hK.out _ _ ?_ (fun hHeld => ?_)) | (go_wp2_with fail; refine hK.out _ _ ?_ (fun hHeld => ?_))
          · (try dsimp only); exact gd
          clear hK K
          clear c3

          refine wpAnyH_ready (rs := [9]) (by kernel_rfl) (by simp) ?_
          refine AllReadyH.cons (o := _) rfl (fun K hK => ?_) ?_
          · clear hHeld
            obtain ⟨w3, e3, HN, g3⟩ := row_of wx 3 #[.int .i64 (x % 8 + 1)]
            go_simp
            first | (refine hK.out _ _ ?_ (fun hHeld => ?_)) | (go_wp2_with fail; refine hK.out _ _ ?_ (fun hHeld => ?_))
            · (try dsimp only); rw [← e3]; exact gd.trans g3
            clear hK K
            rw [← e3]
            have HV := Lib.hid (ints_row (l := [x % 8 + 1]) HN rfl rfl (by simp) (HI.out))
            replace HPd := HPd.kept g3
            replace HRd := Lib.hid (HRd.out.kept g3)
            replace HOd := Lib.hid (World.ownsRow.kept HOd.out g3 (by cases v.ownBlock with | none => exact .inl rfl | some k => exact .inr (by simp)))
            replace gd := gd.trans g3
            clear e3 g3 HN
            generalize wx.heap.size = Z at *

            refine wpAnyH_ready (rs := [10]) (by kernel_rfl) (by simp) ?_
            refine AllReadyH.cons (o := _) rfl (fun K hK => ?_) ?_
            · clear hHeld
              refine step_append_vals elt3 rfl (.tmp 16) (.tmp 24) rfl (P + 1) v (slotsV (l.take k)).length _ rfl HOd.out _ 1 1 _ rfl HV.out.v (by have := HLN.out; omega) HPd.lt ?_
              intro v2 w8 ho hg hb hv
              have hpp : some P ≠ v.ownBlock := fun e => by have := (World.ownsRow.lt HOd.out P e.symm).1; omega
              have hrr : some R ≠ v.ownBlock := fun e => by have := (World.ownsRow.lt HOd.out R e.symm).1; have := HSZ.out.1; omega
              replace HPd := HPd.keptR hg hpp
              replace HRd := Lib.hid (HRd.out.keptR hg hrr)
              replace gd := gd.andThen hg (fun r e => .inl (by have := (World.ownsRow.lt HOd.out r e).1; have := HSZ.out.1; have := HRE.out; omega))
              obtain ⟨A2, n2, c2, rfl⟩ : ∃ A n c, v2 = .slice A n c := by
                obtain ⟨A, c, h, _⟩ := own_vals ho (fun u hu => by
                  rcases List.mem_append.1 hu with hu | hu
                  · obtain ⟨z, _, rfl⟩ := List.mem_map.1 hu; rfl
                  · rw [List.mem_singleton.1 hu]; rfl)
                exact ⟨A, _, c, h⟩
              replace ho := Lib.hid ho
              clear hg hb hv hpp hrr
              first | (refine hK.out _ _ ?_ (fun hHeld => ?_)) | (go_wp2_with fail; refine hK.out _ _ ?_ (fun hHeld => ?_))
              · (try dsimp only); exact gd
              clear hK K
              refine wpAnyH_take (i := 11) (oi := _) (v := ?_) rfl (by kernel_rfl) (by kernel_rfl) (by kernel_rfl) (fun _ _ _ h => h) (Or.inl ⟨by rfl, ?_⟩) (by assumption) ?_
              rotate_left 1
              · (intro w hSw; (try dsimp only at hSw); go_simp; first | done | with_reducible rfl)
              try go_simp
              refine wpAnyH_ready (rs := [12]) (by kernel_rfl) (by simp) ?_
              refine AllReadyH.cons (o := _) rfl (fun K hK => ?_) ?_
              · clear hHeld
                have c3 := HPd.c 3 rfl
                have f3 := HPd.fz 3
                have hsz := HPd.lt
                have RS : Row _ P 35 #[.string ⟨#[]⟩, .int .i64 0, .int .i64 0, .slice A2 n2 c2, .slice none 0 0] := HPd.set 3 (.slice A2 n2 c2)
                have gl := grown_setCell w8 P 3 (.slice A2 n2 c2)
                have gs := gd.andThen gl (by rintro j ⟨⟩; exact .inl (by have := HSZ.out.1; have := HRE.out; omega))
                have RR : Row _ R 35 _ := HRd.out.far (v := .slice A2 n2 c2) (i := 3) (o := P) (fun e => HSZ.out.2 e)
                have RO := World.ownsRow.kept ho.out gl (.inr (fun e => by have := (World.ownsRow.lt ho.out P e).1; omega))
                replace RS := Lib.hid RS
                replace RR := Lib.hid RR
                replace RO := Lib.hid RO
                go_simp
                first | (refine hK.out _ _ ?_ (fun hHeld => ?_)) | (go_wp2_with fail; refine hK.out _ _ ?_ (fun hHeld => ?_))
                · (try dsimp only); exact gs
                clear hK K
                clear c3 f3

                refine wpAnyH_done (by kernel_rfl) ?_ _
                refine NoPanic.normal ?_
                go_simp
                go_wp2_with fail
                refine ⟨⟨k + 1, .slice A2 n2 c2, by omega, by omega, by go_num, Lib.hid ⟨RS.out, RR.out, by rw [HT.out]; unfold OwnI; simpa using RO.out⟩, Lib.hid gs⟩, by simp [intOf]; omega⟩
              exact AllReadyH.nil
            exact AllReadyH.nil
          exact AllReadyH.nil
        refine AllReadyH.cons (o := _) rfl (fun K hK => ?_) ?_
        · clear hHeld
          obtain ⟨w3, e3, HN, g3⟩ := row_of wx 3 #[.int .i64 (x % 8 + 1)]
          go_simp
          first | (refine hK.out _ _ ?_ (fun hHeld => ?_)) | (go_wp2_with fail; refine hK.out _ _ ?_ (fun hHeld => ?_))
          · (try dsimp only); rw [← e3]; exact gd.trans g3
          clear hK K
          rw [← e3]
          have HV := Lib.hid (ints_row (l := [x % 8 + 1]) HN rfl rfl (by simp) (HI.out))
          replace HPd := HPd.kept g3
          replace HRd := Lib.hid (HRd.out.kept g3)
          replace HOd := Lib.hid (World.ownsRow.kept HOd.out g3 (by cases v.ownBlock with | none => exact .inl rfl | some k => exact .inr (by simp)))
          replace gd := gd.trans g3
          clear e3 g3 HN
          generalize wx.heap.size = Z at *

          refine wpAnyH_ready (rs := [1]) (by kernel_rfl) (by simp) ?_
          refine AllReadyH.cons (o := _) rfl (fun K hK => ?_) ?_
          · clear hHeld
            have c3 := HPd.c 3 rfl
            go_simp
            first | (refine hK.out _ _ ?_ (fun hHeld => ?_)) | (go_wp2_with fail; refine hK.out _ _ ?_ (fun hHeld => ?_))
            · (try dsimp only); exact gd
            clear hK K
            clear c3

            refine wpAnyH_ready (rs := [10]) (by kernel_rfl) (by simp) ?_
            refine AllReadyH.cons (o := _) rfl (fun K hK => ?_) ?_
            · clear hHeld
              refine step_append_vals elt3 rfl (.tmp 16) (.tmp 24) rfl (P + 1) v (slotsV (l.take k)).length _ rfl HOd.out _ 1 1 _ rfl HV.out.v (by have := HLN.out; omega) HPd.lt ?_
              intro v2 w8 ho hg hb hv
              have hpp : some P ≠ v.ownBlock := fun e => by have := (World.ownsRow.lt HOd.out P e.symm).1; omega
              have hrr : some R ≠ v.ownBlock := fun e => by have := (World.ownsRow.lt HOd.out R e.symm).1; have := HSZ.out.1; omega
              replace HPd := HPd.keptR hg hpp
              replace HRd := Lib.hid (HRd.out.keptR hg hrr)
              replace gd := gd.andThen hg (fun r e => .inl (by have := (World.ownsRow.lt HOd.out r e).1; have := HSZ.out.1; have := HRE.out; omega))
              obtain ⟨A2, n2, c2, rfl⟩ : ∃ A n c, v2 = .slice A n c := by
                obtain ⟨A, c, h, _⟩ := own_vals ho (fun u hu => by
                  rcases List.mem_append.1 hu with hu | hu
                  · obtain ⟨z, _, rfl⟩ := List.mem_map.1 hu; rfl
                  · rw [List.mem_singleton.1 hu]; rfl)
                exact ⟨A, _, c, h⟩
              replace ho := Lib.hid ho
              clear hg hb hv hpp hrr
              first | (refine hK.out _ _ ?_ (fun hHeld => ?_)) | (go_wp2_with fail; refine hK.out _ _ ?_ (fun hHeld => ?_))
              · (try dsimp only); exact gd
              clear hK K
              refine wpAnyH_take (i := 11) (oi := _) (v := ?_) rfl (by kernel_rfl) (by kernel_rfl) (by kernel_rfl) (fun _ _ _ h => h) (Or.inl ⟨by rfl, ?_⟩) (by assumption) ?_
              rotate_left 1
              · (intro w hSw; (try dsimp only at hSw); go_simp; first | done | with_reducible rfl)
              try go_simp
              refine wpAnyH_ready (rs := [12]) (by kernel_rfl) (by simp) ?_
              refine AllReadyH.cons (o := _) rfl (fun K hK => ?_) ?_
              · clear hHeld
                have c3 := HPd.c 3 rfl
                have f3 := HPd.fz 3
                have hsz := HPd.lt
                have RS : Row _ P 35 #[.string ⟨#[]⟩, .int .i64 0, .int .i64 0, .slice A2 n2 c2, .slice none 0 0] := HPd.set 3 (.slice A2 n2 c2)
                have gl := grown_setCell w8 P 3 (.slice A2 n2 c2)
                have gs := gd.andThen gl (by rintro j ⟨⟩; exact .inl (by have := HSZ.out.1; have := HRE.out; omega))
                have RR : Row _ R 35 _ := HRd.out.far (v := .slice A2 n2 c2) (i := 3) (o := P) (fun e => HSZ.out.2 e)
                have RO := World.ownsRow.kept ho.out gl (.inr (fun e => by have := (World.ownsRow.lt ho.out P e).1; omega))
                replace RS := Lib.hid RS
                replace RR := Lib.hid RR
                replace RO := Lib.hid RO
                go_simp
                first | (refine hK.out _ _ ?_ (fun hHeld => ?_)) | (go_wp2_with fail; refine hK.out _ _ ?_ (fun hHeld => ?_))
                · (try dsimp only); exact gs
                clear hK K
                clear c3 f3

                refine wpAnyH_done (by kernel_rfl) ?_ _
                refine NoPanic.normal ?_
                go_simp
                go_wp2_with fail
                refine ⟨⟨k + 1, .slice A2 n2 c2, by omega, by omega, by go_num, Lib.hid ⟨RS.out, RR.out, by rw [HT.out]; unfold OwnI; simpa using RO.out⟩, Lib.hid gs⟩, by simp [intOf]; omega⟩
              exact AllReadyH.nil
            exact AllReadyH.nil
          exact AllReadyH.nil
        exact AllReadyH.nil
      · obtain rfl : k = 6 := by omega
        have HE : Hid (slotsV (l.take 6) = slotsV l) := Lib.hid (by unfold slotsV; rw [List.take_take]; rfl)
        have c0 := HP0.out.c 0 rfl
        have c1 := HP0.out.c 1 rfl
        have c2 := HP0.out.c 2 rfl
        have c3 := HP0.out.c 3 rfl
        have c4 := HP0.out.c 4 rfl
        have f0 := HR0.out.fz 0
        have f1 := HR0.out.fz 1
        have f2 := HR0.out.fz 2
        have f3 := HR0.out.fz 3
        have f4 := HR0.out.fz 4
        have d0 := HR0.out.c 0 rfl
        have d1 := HR0.out.c 1 rfl
        have d2 := HR0.out.c 2 rfl
        have d3 := HR0.out.c 3 rfl
        have d4 := HR0.out.c 4 rfl
        have hlt1 := HR0.out.lt
        have hlt2 := HP0.out.lt
        obtain ⟨A3, n3, c3_, rfl⟩ : ∃ A n c, v = .slice A n c := by
          obtain ⟨A, c, h, _⟩ := own_vals HO0.out (fun u hu => by obtain ⟨z, _, rfl⟩ := List.mem_map.1 hu; rfl)
          exact ⟨A, _, c, h⟩
        have RS : Row _ R 35 _ := ((((HR0.out.set 0 (.string ⟨#[]⟩)).set 1 (.int .i64 0)).set 2 (.int .i64 0)).set 3 (.slice A3 n3 c3_)).set 4 (.slice none 0 0)
        have gl := (((((grown_setCell wr R 0 (.string ⟨#[]⟩)).trans (grown_setCell _ R 1 (.int .i64 0))).trans (grown_setCell _ R 2 (.int .i64 0))).trans (grown_setCell _ R 3 (.slice A3 n3 c3_))).trans (grown_setCell _ R 4 (.slice none 0 0)))
        have RO := Lib.hid (World.ownsRow.kept HO0.out gl (.inr (fun e => by have := (World.ownsRow.lt HO0.out R e).1; have := HSZ.out.1; omega)))
        have GG := Lib.hid (HG.out.andThen gl (by rintro j ⟨⟩; exact .inl (by have := HRE.out; omega)))
        have RS2 := Lib.hid RS
        clear RS gl
        go_upto_region 6 with fail
        go_wp2_with fail
        exact bodyPost_ret (v := .agg #[.string ⟨#[]⟩, .int .i64 0, .int .i64 0, .slice A3 n3 c3_, .slice none 0 0]) (by simp [results, Try.results32, go_sem, RS2.out.c 0 rfl, RS2.out.c 1 rfl, RS2.out.c 2 rfl, RS2.out.c 3 rfl, RS2.out.c 4 rfl]) rfl ⟨_, rfl, by rw [HRE.out, ← HE.out]; exact own_base RO.out (by have := HSZ.out.1; omega), GG.out⟩
    · obtain rfl : n = k := by omega
      have HE : Hid (slotsV (l.take n) = slotsV l) := Lib.hid (by rw [HL.out, List.take_length])
      have c0 := HP0.out.c 0 rfl
      have c1 := HP0.out.c 1 rfl
      have c2 := HP0.out.c 2 rfl
      have c3 := HP0.out.c 3 rfl
      have c4 := HP0.out.c 4 rfl
      have f0 := HR0.out.fz 0
      have f1 := HR0.out.fz 1
      have f2 := HR0.out.fz 2
      have f3 := HR0.out.fz 3
      have f4 := HR0.out.fz 4
      have d0 := HR0.out.c 0 rfl
      have d1 := HR0.out.c 1 rfl
      have d2 := HR0.out.c 2 rfl
      have d3 := HR0.out.c 3 rfl
      have d4 := HR0.out.c 4 rfl
      have hlt1 := HR0.out.lt
      have hlt2 := HP0.out.lt
      obtain ⟨A3, n3, c3_, rfl⟩ : ∃ A n c, v = .slice A n c := by
        obtain ⟨A, c, h, _⟩ := own_vals HO0.out (fun u hu => by obtain ⟨z, _, rfl⟩ := List.mem_map.1 hu; rfl)
        exact ⟨A, _, c, h⟩
      have RS : Row _ R 35 _ := ((((HR0.out.set 0 (.string ⟨#[]⟩)).set 1 (.int .i64 0)).set 2 (.int .i64 0)).set 3 (.slice A3 n3 c3_)).set 4 (.slice none 0 0)
      have gl := (((((grown_setCell wr R 0 (.string ⟨#[]⟩)).trans (grown_setCell _ R 1 (.int .i64 0))).trans (grown_setCell _ R 2 (.int .i64 0))).trans (grown_setCell _ R 3 (.slice A3 n3 c3_))).trans (grown_setCell _ R 4 (.slice none 0 0)))
      have RO := Lib.hid (World.ownsRow.kept HO0.out gl (.inr (fun e => by have := (World.ownsRow.lt HO0.out R e).1; have := HSZ.out.1; omega)))
      have GG := Lib.hid (HG.out.andThen gl (by rintro j ⟨⟩; exact .inl (by have := HRE.out; omega)))
      have RS2 := Lib.hid RS
      clear RS gl
      go_upto_region 6 with fail
      go_wp2_with fail
      exact bodyPost_ret (v := .agg #[.string ⟨#[]⟩, .int .i64 0, .int .i64 0, .slice A3 n3 c3_, .slice none 0 0]) (by simp [results, Try.results32, go_sem, RS2.out.c 0 rfl, RS2.out.c 1 rfl, RS2.out.c 2 rfl, RS2.out.c 3 rfl, RS2.out.c 4 rfl]) rfl ⟨_, rfl, by rw [HRE.out, ← HE.out]; exact own_base RO.out (by have := HSZ.out.1; omega), GG.out⟩
end Go.Proofs.Ytnkemoicgadefaa
