/-
  The regions of ScaleMeans' law that draw their order, each as a theorem of its own.
-/
import Derived.Test.YtcilclbolmijfaaLong
namespace Go.Proofs.Ytcilclbolmijfaa
open Go.RowKit
/-- the region with this number -/
def findReg (n : Nat) : Code → Option Code
  | .region id ops d => if id = n then some (.region id ops d) else none
  | .seq a b => match findReg n a with
    | some c => some c
    | none => findReg n b
  | .cond _ a b => match findReg n a with
    | some c => some c
    | none => findReg n b
  | .block _ b => findReg n b
  | .loop b => findReg n b
  | .scope b => findReg n b
  | _ => none
noncomputable def rg (n : Nat) : Code := ((Try.f4.body.bind (findReg n)).getD .skip)
theorem nums_row {w : World} {B : Nat} {l : List Int} (h : Row w B 3 (l.map (Value.int .i64)).toArray) (hl : ∀ z ∈ l, i64 z) : Nums w (some ⟨B, 0, none⟩) l :=
  ⟨hl, fun _ => ⟨_, rfl, h.lt, fun j z hz => by
    have e : ((⟨B, 0, none⟩ : Addr).add j) = ⟨B, j, none⟩ := by simp [Addr.add]; omega
    rw [e]
    exact h.c j (by simp [hz])⟩⟩
set_option maxRecDepth 100000 in
set_option maxHeartbeats 4000000 in
theorem rg10 {sl0 sl1 sl2 sl3 sl4 sl6 sl7 sl8 sl9 sl10 sl11 sl12 sl13 sl14 sl15 sl16 sl17 sl18 sl19 sl20 sl21 sl22 sl23 sl24 sl25 sl26 sl27 sl28 sl29 sl30 sl31 sl32 sl33 sl34 sl35 sl36 sl37 sl38 sl39 sl40 sl41 sl42 sl43 sl44 sl45 sl46 sl47 sl48 sl49 sl50 sl51 sl52 sl53 sl54 sl55 sl56 sl57 sl58 sl59 sl60 sl61 sl62 sl63 sl64 sl65 sl66 sl67 sl68 sl69 sl70 sl71 sl72 sl73 sl74 sl75 sl76 sl77 sl78 sl79 sl80 sl81 sl82 sl83 sl84 sl85 sl86 sl87 sl88 sl89 sl90 sl91 sl92 sl93 sl94 sl95 sl96 sl97 sl98 sl99 sl100 sl101 sl102 sl103 sl104 sl105 sl106 sl107 sl108 sl109 sl110 sl111 sl112 sl113 sl114 sl115 sl116 sl117 sl118 sl119 sl120 sl121 sl122 sl123 sl124 sl125 sl126 sl127 sl128 sl129 sl130 sl131 sl132 sl133 sl134 sl135 sl136 sl137 sl138 sl139 sl140 sl141 sl142 sl143 sl144 sl145 sl146 sl147 sl148 sl149 sl150 sl151 sl152 sl153 sl154 sl155 sl156 sl157 sl158 sl159 sl160 sl161 sl162 sl163 sl164 sl165 sl166 sl167 sl168 sl169 sl170 sl171 sl172 sl173 sl174 sl175 sl176 sl177 sl178 sl179 sl180 sl181 sl182 sl183 sl184 sl185 sl186 sl187 sl188 sl189 sl190 sl191 sl192 sl193 sl194 sl195 sl196 sl197 sl198 sl199 sl200 sl201 sl202 sl203 sl204 sl205 sl206 sl207 sl208 sl209 sl210 sl211 sl212 sl213 sl214 sl215 sl216 sl217 sl218 sl219 sl220 sl221 sl222 sl223 sl224 sl225 sl226 sl227 : Value} {Q : Exit → Act → World → Prop} {code : Code} (hcode : rg 10 = code) (wc : World) (rb : Nat) (u cc d r v1 v2 v3 v4 : Int) (r3 : wc.cell? ⟨rb, 3, none⟩ = some (.int .i64 u)) (r4 : wc.cell? ⟨rb, 4, none⟩ = some (.int .i64 cc)) (r5 : wc.cell? ⟨rb, 5, none⟩ = some (.int .i64 d)) (r6 : wc.cell? ⟨rb, 6, none⟩ = some (.int .i64 r))
    (KC : Hid (∀ (V : World), Calls Try.prog 24 #[.agg #[.int .i64 u, .int .i64 cc, .int .i64 d, .int .i64 r]] V fun e w' => e = .returned (.agg #[.int .i64 v1, .int .i64 v2, .int .i64 v3, .int .i64 v4]) ∧ V.grownBy w' none))
    (hQ : ∀ (tl82 tl83 tl84 tl85 tl86 tl87 : Value) (B : Nat) (wx : World), Row wx B 44 #[.int .i64 u, .int .i64 cc, .int .i64 d, .int .i64 r, .int .i64 v1, .int .i64 v2, .int .i64 v3, .int .i64 v4] → wc.grownBy wx none → Q .normal ⟨#[sl0, sl1, sl2, sl3, sl4, .pointer (some ⟨rb, 0, none⟩), sl6, sl7, sl8, sl9, sl10, sl11, .pointer (some ⟨B, 0, none⟩), sl13, sl14, sl15, sl16, sl17, sl18, sl19, sl20, sl21, sl22, sl23, sl24, sl25, sl26, sl27, sl28, sl29, sl30, sl31, sl32, sl33, sl34, sl35, sl36, sl37, sl38, sl39, sl40, sl41, sl42, sl43, sl44, sl45, sl46, sl47, sl48, sl49, sl50, sl51, sl52, sl53, sl54, sl55, sl56, sl57, sl58, sl59, sl60, sl61, sl62, sl63, sl64, sl65, sl66, sl67, sl68, sl69, sl70, sl71, sl72, sl73, sl74, sl75, sl76, sl77, sl78, sl79, sl80, sl81, tl82, tl83, tl84, tl85, tl86, tl87, sl88, sl89, sl90, sl91, sl92, sl93, sl94, sl95, sl96, sl97, sl98, sl99, sl100, sl101, sl102, sl103, sl104, sl105, sl106, sl107, sl108, sl109, sl110, sl111, sl112, sl113, sl114, sl115, sl116, sl117, sl118, sl119, sl120, sl121, sl122, sl123, sl124, sl125, sl126, sl127, sl128, sl129, sl130, sl131, sl132, sl133, sl134, sl135, sl136, sl137, sl138, sl139, sl140, sl141, sl142, sl143, sl144, sl145, sl146, sl147, sl148, sl149, sl150, sl151, sl152, sl153, sl154, sl155, sl156, sl157, sl158, sl159, sl160, sl161, sl162, sl163, sl164, sl165, sl166, sl167, sl168, sl169, sl170, sl171, sl172, sl173, sl174, sl175, sl176, sl177, sl178, sl179, sl180, sl181, sl182, sl183, sl184, sl185, sl186, sl187, sl188, sl189, sl190, sl191, sl192, sl193, sl194, sl195, sl196, sl197, sl198, sl199, sl200, sl201, sl202, sl203, sl204, sl205, sl206, sl207, sl208, sl209, sl210, sl211, sl212, sl213, sl214, sl215, sl216, sl217, sl218, sl219, sl220, sl221, sl222, sl223, sl224, sl225, sl226, sl227], []⟩ wx) :
    Code.wp Try.prog code Q ⟨#[sl0, sl1, sl2, sl3, sl4, .pointer (some ⟨rb, 0, none⟩), sl6, sl7, sl8, sl9, sl10, sl11, sl12, sl13, sl14, sl15, sl16, sl17, sl18, sl19, sl20, sl21, sl22, sl23, sl24, sl25, sl26, sl27, sl28, sl29, sl30, sl31, sl32, sl33, sl34, sl35, sl36, sl37, sl38, sl39, sl40, sl41, sl42, sl43, sl44, sl45, sl46, sl47, sl48, sl49, sl50, sl51, sl52, sl53, sl54, sl55, sl56, sl57, sl58, sl59, sl60, sl61, sl62, sl63, sl64, sl65, sl66, sl67, sl68, sl69, sl70, sl71, sl72, sl73, sl74, sl75, sl76, sl77, sl78, sl79, sl80, sl81, sl82, sl83, sl84, sl85, sl86, sl87, sl88, sl89, sl90, sl91, sl92, sl93, sl94, sl95, sl96, sl97, sl98, sl99, sl100, sl101, sl102, sl103, sl104, sl105, sl106, sl107, sl108, sl109, sl110, sl111, sl112, sl113, sl114, sl115, sl116, sl117, sl118, sl119, sl120, sl121, sl122, sl123, sl124, sl125, sl126, sl127, sl128, sl129, sl130, sl131, sl132, sl133, sl134, sl135, sl136, sl137, sl138, sl139, sl140, sl141, sl142, sl143, sl144, sl145, sl146, sl147, sl148, sl149, sl150, sl151, sl152, sl153, sl154, sl155, sl156, sl157, sl158, sl159, sl160, sl161, sl162, sl163, sl164, sl165, sl166, sl167, sl168, sl169, sl170, sl171, sl172, sl173, sl174, sl175, sl176, sl177, sl178, sl179, sl180, sl181, sl182, sl183, sl184, sl185, sl186, sl187, sl188, sl189, sl190, sl191, sl192, sl193, sl194, sl195, sl196, sl197, sl198, sl199, sl200, sl201, sl202, sl203, sl204, sl205, sl206, sl207, sl208, sl209, sl210, sl211, sl212, sl213, sl214, sl215, sl216, sl217, sl218, sl219, sl220, sl221, sl222, sl223, sl224, sl225, sl226, sl227], []⟩ wc := by
  subst hcode
  conv => arg 2; whnf
  have gz : wc.grownBy wc.drew none := grown_dr (grown_refl _)
  refine wp_region_noPanic ?_
  refine wp_region_held_drew (S := (fun w' => wc.grownBy w' none)) (by kernel_rfl) ?_ (fun hHeld => ?_)
  · (try dsimp only); (repeat (first | assumption | exact grown_refl _ | refine grown_dr ?_ | refine grown_dn ?_ | refine grown_al ?_))
  refine wpAnyH_take (i := 0) (oi := _) (v := ?_) rfl (by kernel_rfl) (by kernel_rfl) (by kernel_rfl) (fun _ _ _ h => h) (Or.inl ⟨by rfl, ?_⟩) (by assumption) ?_
  rotate_left 1
  · (intro w hSw; (try dsimp only at hSw); go_simp; first | done | with_reducible rfl)
  try go_simp
  refine wpAnyH_take (i := 1) (oi := _) (v := .agg #[.int .i64 u, .int .i64 cc, .int .i64 d, .int .i64 r]) rfl (by kernel_rfl) (by kernel_rfl) (by kernel_rfl) (fun _ _ _ h => h) (Or.inl ⟨by kernel_rfl, ?_⟩) (by assumption) ?_
  · (intro w hSw; (try dsimp only at hSw); go_simp; have y0 := gcell hSw r3; have y1 := gcell hSw r4; have y2 := gcell hSw r5; have y3 := gcell hSw r6; clear hSw; go_simp; first | done | with_reducible rfl)
  try go_simp
  refine wpAnyH_take (i := 2) (oi := _) (v := ?_) rfl (by kernel_rfl) (by kernel_rfl) (by kernel_rfl) (fun _ _ _ h => h) (Or.inl ⟨by rfl, ?_⟩) (by assumption) ?_
  rotate_left 1
  · (intro w hSw; (try dsimp only at hSw); go_simp; first | done | with_reducible rfl)
  try go_simp
  refine wpAnyH_take (i := 3) (oi := _) (v := .agg #[.int .i64 u, .int .i64 cc, .int .i64 d, .int .i64 r]) rfl (by kernel_rfl) (by kernel_rfl) (by kernel_rfl) (fun _ _ _ h => h) (Or.inl ⟨by kernel_rfl, ?_⟩) (by assumption) ?_
  · (intro w hSw; (try dsimp only at hSw); go_simp; have y0 := gcell hSw r3; have y1 := gcell hSw r4; have y2 := gcell hSw r5; have y3 := gcell hSw r6; clear hSw; go_simp; first | done | with_reducible rfl)
  try go_simp
  refine wpAnyH_ready (rs := [4, 6]) (by kernel_rfl) (by simp) ?_
  refine AllReadyH.cons (o := _) rfl (fun K hK => ?_) ?_
  · clear hHeld
    go_simp
    refine (KC.out _).mono ?_
    rintro e wq1 ⟨rfl, g⟩
    replace gz := gz.trans g
    clear g
    first | (refine hK.out _ _ ?_ (fun hHeld => ?_)) | (go_wp2_with fail; refine hK.out _ _ ?_ (fun hHeld => ?_))
    · (try dsimp only); (repeat (first | assumption | exact grown_refl _ | refine grown_dr ?_ | refine grown_dn ?_ | refine grown_al ?_))
    clear hK K
    refine wpAnyH_take (i := 5) (oi := _) (v := .agg #[.int .i64 u, .int .i64 cc, .int .i64 d, .int .i64 r, .int .i64 v1, .int .i64 v2, .int .i64 v3, .int .i64 v4]) rfl (by kernel_rfl) (by kernel_rfl) (by kernel_rfl) (fun _ _ _ h => h) (Or.inl ⟨by kernel_rfl, ?_⟩) (by assumption) ?_
    · (intro w hSw; (try dsimp only at hSw); go_simp; first | done | with_reducible rfl)
    try go_simp
    refine wpAnyH_ready (rs := [6]) (by kernel_rfl) (by simp) ?_
    refine AllReadyH.cons (o := _) rfl (fun K hK => ?_) ?_
    · clear hHeld
      go_simp
      obtain ⟨wq2, ea, RA, g⟩ := row_of wq1 44 #[.int .i64 0, .int .i64 0, .int .i64 0, .int .i64 0, .int .i64 0, .int .i64 0, .int .i64 0, .int .i64 0]
      have hBRA : wc.heap.size ≤ wq1.heap.size := gz.size
      replace gz := gz.trans g
      clear g
      first | (refine hK.out _ _ ?_ (fun hHeld => ?_)) | (go_wp2_with fail; refine hK.out _ _ ?_ (fun hHeld => ?_))
      · (try dsimp only); (first | rw [← ea] | skip); exact gz
      clear hK K
      rw [← ea]
      clear ea hHeld
      have hHeld := gz
      refine wpAnyH_ready (rs := [7]) (by kernel_rfl) (by simp) ?_
      refine AllReadyH.cons (o := _) rfl (fun K hK => ?_) ?_
      · clear hHeld
        have k0 := RA.c 0 rfl
        have f0 := RA.fz 0
        have k1 := RA.c 1 rfl
        have f1 := RA.fz 1
        have k2 := RA.c 2 rfl
        have f2 := RA.fz 2
        have k3 := RA.c 3 rfl
        have f3 := RA.fz 3
        have k4 := RA.c 4 rfl
        have f4 := RA.fz 4
        have k5 := RA.c 5 rfl
        have f5 := RA.fz 5
        have k6 := RA.c 6 rfl
        have f6 := RA.fz 6
        have k7 := RA.c 7 rfl
        have f7 := RA.fz 7
        have hsz := RA.lt
        have gst := (grown_set (i := 7) (v := .int .i64 v4) (grown_set (i := 6) (v := .int .i64 v3) (grown_set (i := 5) (v := .int .i64 v2) (grown_set (i := 4) (v := .int .i64 v1) (grown_set (i := 3) (v := .int .i64 r) (grown_set (i := 2) (v := .int .i64 d) (grown_set (i := 1) (v := .int .i64 cc) (grown_set (i := 0) (v := .int .i64 u) gz (.inl hBRA)) (.inl hBRA)) (.inl hBRA)) (.inl hBRA)) (.inl hBRA)) (.inl hBRA)) (.inl hBRA)) (.inl hBRA))
        have RS := ((((((((RA.set 0 (.int .i64 u)).set 1 (.int .i64 cc)).set 2 (.int .i64 d)).set 3 (.int .i64 r)).set 4 (.int .i64 v1)).set 5 (.int .i64 v2)).set 6 (.int .i64 v3)).set 7 (.int .i64 v4))
        go_simp
        first | (refine hK.out _ _ ?_ (fun hHeld => ?_)) | (go_wp2_with fail; refine hK.out _ _ ?_ (fun hHeld => ?_))
        · (try dsimp only); exact gst
        clear hK K
        refine wpAnyH_done (by kernel_rfl) ?_ _
        refine NoPanic.normal ?_
        go_simp
        exact hQ _ _ _ _ _ _ _ _ RS gst
      exact AllReadyH.nil
    exact AllReadyH.nil
  refine AllReadyH.cons (o := _) rfl (fun K hK => ?_) ?_
  · clear hHeld
    go_simp
    obtain ⟨wq1, ea, RA, g⟩ := row_of wc 44 #[.int .i64 0, .int .i64 0, .int .i64 0, .int .i64 0, .int .i64 0, .int .i64 0, .int .i64 0, .int .i64 0]
    have gb : wc.drew.grownBy wq1.drew none := ⟨g.os, g.tape, g.output, g.size, g.block⟩
    have hBRA : wc.heap.size ≤ wc.heap.size := gz.size
    replace RA := RA.kept (grown_dr (grown_refl wq1))
    clear g
    have g := gb
    clear gb
    replace gz := gz.trans g
    clear g
    first | (refine hK.out _ _ ?_ (fun hHeld => ?_)) | (go_wp2_with fail; refine hK.out _ _ ?_ (fun hHeld => ?_))
    · (try dsimp only); (first | rw [← ea] | skip); exact gz
    clear hK K
    rw [← ea]
    clear ea hHeld
    have hHeld := gz
    refine wpAnyH_ready (rs := [4]) (by kernel_rfl) (by simp) ?_
    refine AllReadyH.cons (o := _) rfl (fun K hK => ?_) ?_
    · clear hHeld
      go_simp
      refine (KC.out _).mono ?_
      rintro e wq2 ⟨rfl, g⟩
      replace RA := RA.kept g
      replace gz := gz.trans g
      clear g
      first | (refine hK.out _ _ ?_ (fun hHeld => ?_)) | (go_wp2_with fail; refine hK.out _ _ ?_ (fun hHeld => ?_))
      · (try dsimp only); (repeat (first | assumption | exact grown_refl _ | refine grown_dr ?_ | refine grown_dn ?_ | refine grown_al ?_))
      clear hK K
      refine wpAnyH_take (i := 5) (oi := _) (v := .agg #[.int .i64 u, .int .i64 cc, .int .i64 d, .int .i64 r, .int .i64 v1, .int .i64 v2, .int .i64 v3, .int .i64 v4]) rfl (by kernel_rfl) (by kernel_rfl) (by kernel_rfl) (fun _ _ _ h => h) (Or.inl ⟨by kernel_rfl, ?_⟩) (by assumption) ?_
      · (intro w hSw; (try dsimp only at hSw); go_simp; first | done | with_reducible rfl)
      try go_simp
      refine wpAnyH_ready (rs := [7]) (by kernel_rfl) (by simp) ?_
      refine AllReadyH.cons (o := _) rfl (fun K hK => ?_) ?_
      · clear hHeld
        have k0 := RA.c 0 rfl
        have f0 := RA.fz 0
        have k1 := RA.c 1 rfl
        have f1 := RA.fz 1
        have k2 := RA.c 2 rfl
        have f2 := RA.fz 2
        have k3 := RA.c 3 rfl
        have f3 := RA.fz 3
        have k4 := RA.c 4 rfl
        have f4 := RA.fz 4
        have k5 := RA.c 5 rfl
        have f5 := RA.fz 5
        have k6 := RA.c 6 rfl
        have f6 := RA.fz 6
        have k7 := RA.c 7 rfl
        have f7 := RA.fz 7
        have hsz := RA.lt
        have gst := (grown_set (i := 7) (v := .int .i64 v4) (grown_set (i := 6) (v := .int .i64 v3) (grown_set (i := 5) (v := .int .i64 v2) (grown_set (i := 4) (v := .int .i64 v1) (grown_set (i := 3) (v := .int .i64 r) (grown_set (i := 2) (v := .int .i64 d) (grown_set (i := 1) (v := .int .i64 cc) (grown_set (i := 0) (v := .int .i64 u) gz (.inl hBRA)) (.inl hBRA)) (.inl hBRA)) (.inl hBRA)) (.inl hBRA)) (.inl hBRA)) (.inl hBRA)) (.inl hBRA))
        have RS := ((((((((RA.set 0 (.int .i64 u)).set 1 (.int .i64 cc)).set 2 (.int .i64 d)).set 3 (.int .i64 r)).set 4 (.int .i64 v1)).set 5 (.int .i64 v2)).set 6 (.int .i64 v3)).set 7 (.int .i64 v4))
        go_simp
        first | (refine hK.out _ _ ?_ (fun hHeld => ?_)) | (go_wp2_with fail; refine hK.out _ _ ?_ (fun hHeld => ?_))
        · (try dsimp only); exact gst
        clear hK K
        refine wpAnyH_done (by kernel_rfl) ?_ _
        refine NoPanic.normal ?_
        go_simp
        exact hQ _ _ _ _ _ _ _ _ RS gst
      exact AllReadyH.nil
    exact AllReadyH.nil
  exact AllReadyH.nil
set_option maxRecDepth 100000 in
set_option maxHeartbeats 4000000 in
theorem rg11 {sl0 sl1 sl2 sl3 sl4 sl6 sl7 sl8 sl9 sl10 sl11 sl12 sl13 sl14 sl15 sl16 sl17 sl18 sl19 sl20 sl21 sl22 sl23 sl24 sl25 sl26 sl27 sl28 sl29 sl30 sl31 sl32 sl33 sl34 sl35 sl36 sl37 sl38 sl39 sl40 sl41 sl42 sl43 sl44 sl45 sl46 sl47 sl48 sl49 sl50 sl51 sl52 sl53 sl54 sl55 sl56 sl57 sl58 sl59 sl60 sl61 sl62 sl63 sl64 sl65 sl66 sl67 sl68 sl69 sl70 sl71 sl72 sl73 sl74 sl75 sl76 sl77 sl78 sl79 sl80 sl81 sl82 sl83 sl84 sl85 sl86 sl87 sl88 sl89 sl90 sl91 sl92 sl93 sl94 sl95 sl96 sl97 sl98 sl99 sl100 sl101 sl102 sl103 sl104 sl105 sl106 sl107 sl108 sl109 sl110 sl111 sl112 sl113 sl114 sl115 sl116 sl117 sl118 sl119 sl120 sl121 sl122 sl123 sl124 sl125 sl126 sl127 sl128 sl129 sl130 sl131 sl132 sl133 sl134 sl135 sl136 sl137 sl138 sl139 sl140 sl141 sl142 sl143 sl144 sl145 sl146 sl147 sl148 sl149 sl150 sl151 sl152 sl153 sl154 sl155 sl156 sl157 sl158 sl159 sl160 sl161 sl162 sl163 sl164 sl165 sl166 sl167 sl168 sl169 sl170 sl171 sl172 sl173 sl174 sl175 sl176 sl177 sl178 sl179 sl180 sl181 sl182 sl183 sl184 sl185 sl186 sl187 sl188 sl189 sl190 sl191 sl192 sl193 sl194 sl195 sl196 sl197 sl198 sl199 sl200 sl201 sl202 sl203 sl204 sl205 sl206 sl207 sl208 sl209 sl210 sl211 sl212 sl213 sl214 sl215 sl216 sl217 sl218 sl219 sl220 sl221 sl222 sl223 sl224 sl225 sl226 sl227 : Value} {Q : Exit → Act → World → Prop} {code : Code} (hcode : rg 11 = code) (wc : World) (rb : Nat) (a b p : Int) (r0 : wc.cell? ⟨rb, 0, none⟩ = some (.int .i64 a)) (r1 : wc.cell? ⟨rb, 1, none⟩ = some (.int .i64 b)) (r2 : wc.cell? ⟨rb, 2, none⟩ = some (.int .i64 p)) (HI2 : Hid (∀ z ∈ [a, b, p], i64 z))
    (hQ : ∀ (tl88 tl89 tl90 tl91 tl92 tl93 tl94 tl95 tl96 tl97 tl98 tl99 tl100 tl101 : Value) (B : Nat) (x y z : Int) (wx : World), Row wx B 32 #[.int .i64 a, .int .i64 b, .int .i64 p, .int .i64 x, .int .i64 y, .int .i64 z] → wc.grownBy wx none → Q .normal ⟨#[sl0, sl1, sl2, sl3, sl4, .pointer (some ⟨rb, 0, none⟩), sl6, sl7, sl8, sl9, sl10, sl11, sl12, .pointer (some ⟨B, 0, none⟩), sl14, sl15, sl16, sl17, sl18, sl19, sl20, sl21, sl22, sl23, sl24, sl25, sl26, sl27, sl28, sl29, sl30, sl31, sl32, sl33, sl34, sl35, sl36, sl37, sl38, sl39, sl40, sl41, sl42, sl43, sl44, sl45, sl46, sl47, sl48, sl49, sl50, sl51, sl52, sl53, sl54, sl55, sl56, sl57, sl58, sl59, sl60, sl61, sl62, sl63, sl64, sl65, sl66, sl67, sl68, sl69, sl70, sl71, sl72, sl73, sl74, sl75, sl76, sl77, sl78, sl79, sl80, sl81, sl82, sl83, sl84, sl85, sl86, sl87, tl88, tl89, tl90, tl91, tl92, tl93, tl94, tl95, tl96, tl97, tl98, tl99, tl100, tl101, sl102, sl103, sl104, sl105, sl106, sl107, sl108, sl109, sl110, sl111, sl112, sl113, sl114, sl115, sl116, sl117, sl118, sl119, sl120, sl121, sl122, sl123, sl124, sl125, sl126, sl127, sl128, sl129, sl130, sl131, sl132, sl133, sl134, sl135, sl136, sl137, sl138, sl139, sl140, sl141, sl142, sl143, sl144, sl145, sl146, sl147, sl148, sl149, sl150, sl151, sl152, sl153, sl154, sl155, sl156, sl157, sl158, sl159, sl160, sl161, sl162, sl163, sl164, sl165, sl166, sl167, sl168, sl169, sl170, sl171, sl172, sl173, sl174, sl175, sl176, sl177, sl178, sl179, sl180, sl181, sl182, sl183, sl184, sl185, sl186, sl187, sl188, sl189, sl190, sl191, sl192, sl193, sl194, sl195, sl196, sl197, sl198, sl199, sl200, sl201, sl202, sl203, sl204, sl205, sl206, sl207, sl208, sl209, sl210, sl211, sl212, sl213, sl214, sl215, sl216, sl217, sl218, sl219, sl220, sl221, sl222, sl223, sl224, sl225, sl226, sl227], []⟩ wx) :
    Code.wp Try.prog code Q ⟨#[sl0, sl1, sl2, sl3, sl4, .pointer (some ⟨rb, 0, none⟩), sl6, sl7, sl8, sl9, sl10, sl11, sl12, sl13, sl14, sl15, sl16, sl17, sl18, sl19, sl20, sl21, sl22, sl23, sl24, sl25, sl26, sl27, sl28, sl29, sl30, sl31, sl32, sl33, sl34, sl35, sl36, sl37, sl38, sl39, sl40, sl41, sl42, sl43, sl44, sl45, sl46, sl47, sl48, sl49, sl50, sl51, sl52, sl53, sl54, sl55, sl56, sl57, sl58, sl59, sl60, sl61, sl62, sl63, sl64, sl65, sl66, sl67, sl68, sl69, sl70, sl71, sl72, sl73, sl74, sl75, sl76, sl77, sl78, sl79, sl80, sl81, sl82, sl83, sl84, sl85, sl86, sl87, sl88, sl89, sl90, sl91, sl92, sl93, sl94, sl95, sl96, sl97, sl98, sl99, sl100, sl101, sl102, sl103, sl104, sl105, sl106, sl107, sl108, sl109, sl110, sl111, sl112, sl113, sl114, sl115, sl116, sl117, sl118, sl119, sl120, sl121, sl122, sl123, sl124, sl125, sl126, sl127, sl128, sl129, sl130, sl131, sl132, sl133, sl134, sl135, sl136, sl137, sl138, sl139, sl140, sl141, sl142, sl143, sl144, sl145, sl146, sl147, sl148, sl149, sl150, sl151, sl152, sl153, sl154, sl155, sl156, sl157, sl158, sl159, sl160, sl161, sl162, sl163, sl164, sl165, sl166, sl167, sl168, sl169, sl170, sl171, sl172, sl173, sl174, sl175, sl176, sl177, sl178, sl179, sl180, sl181, sl182, sl183, sl184, sl185, sl186, sl187, sl188, sl189, sl190, sl191, sl192, sl193, sl194, sl195, sl196, sl197, sl198, sl199, sl200, sl201, sl202, sl203, sl204, sl205, sl206, sl207, sl208, sl209, sl210, sl211, sl212, sl213, sl214, sl215, sl216, sl217, sl218, sl219, sl220, sl221, sl222, sl223, sl224, sl225, sl226, sl227], []⟩ wc := by
  subst hcode
  conv => arg 2; whnf
  have gz : wc.grownBy wc.drew none := grown_dr (grown_refl _)
  refine wp_region_noPanic ?_
  refine wp_region_held_drew (S := (fun w' => wc.grownBy w' none)) (by kernel_rfl) ?_ (fun hHeld => ?_)
  · (try dsimp only); (repeat (first | assumption | exact grown_refl _ | refine grown_dr ?_ | refine grown_dn ?_ | refine grown_al ?_))
  refine wpAnyH_take (i := 0) (oi := _) (v := ?_) rfl (by kernel_rfl) (by kernel_rfl) (by kernel_rfl) (fun _ _ _ h => h) (Or.inl ⟨by rfl, ?_⟩) (by assumption) ?_
  rotate_left 1
  · (intro w hSw; (try dsimp only at hSw); go_simp; first | done | with_reducible rfl)
  try go_simp
  refine wpAnyH_take (i := 1) (oi := _) (v := .agg #[.int .i64 a, .int .i64 b, .int .i64 p]) rfl (by kernel_rfl) (by kernel_rfl) (by kernel_rfl) (fun _ _ _ h => h) (Or.inl ⟨by kernel_rfl, ?_⟩) (by assumption) ?_
  · (intro w hSw; (try dsimp only at hSw); go_simp; have y0 := gcell hSw r0; have y1 := gcell hSw r1; have y2 := gcell hSw r2; clear hSw; go_simp; first | done | with_reducible rfl)
  try go_simp
  refine wpAnyH_take (i := 2) (oi := _) (v := ?_) rfl (by kernel_rfl) (by kernel_rfl) (by kernel_rfl) (fun _ _ _ h => h) (Or.inl ⟨by rfl, ?_⟩) (by assumption) ?_
  rotate_left 1
  · (intro w hSw; (try dsimp only at hSw); go_simp; first | done | with_reducible rfl)
  try go_simp
  refine wpAnyH_take (i := 3) (oi := _) (v := ?_) rfl (by kernel_rfl) (by kernel_rfl) (by kernel_rfl) (fun _ _ _ h => h) (Or.inl ⟨by rfl, ?_⟩) (by assumption) ?_
  rotate_left 1
  · (intro w hSw; (try dsimp only at hSw); go_simp; first | done | with_reducible rfl)
  try go_simp
  refine wpAnyH_take (i := 4) (oi := _) (v := .int .i64 a) rfl (by kernel_rfl) (by kernel_rfl) (by kernel_rfl) (fun _ _ _ h => h) (Or.inl ⟨by kernel_rfl, ?_⟩) (by assumption) ?_
  · (intro w hSw; (try dsimp only at hSw); go_simp; have y0 := gcell hSw r0; clear hSw; go_simp; first | done | with_reducible rfl)
  try go_simp
  refine wpAnyH_take (i := 5) (oi := _) (v := ?_) rfl (by kernel_rfl) (by kernel_rfl) (by kernel_rfl) (fun _ _ _ h => h) (Or.inl ⟨by rfl, ?_⟩) (by assumption) ?_
  rotate_left 1
  · (intro w hSw; (try dsimp only at hSw); go_simp; first | done | with_reducible rfl)
  try go_simp
  refine wpAnyH_take (i := 6) (oi := _) (v := ?_) rfl (by kernel_rfl) (by kernel_rfl) (by kernel_rfl) (fun _ _ _ h => h) (Or.inl ⟨by rfl, ?_⟩) (by assumption) ?_
  rotate_left 1
  · (intro w hSw; (try dsimp only at hSw); go_simp; first | done | with_reducible rfl)
  try go_simp
  refine wpAnyH_take (i := 7) (oi := _) (v := .int .i64 b) rfl (by kernel_rfl) (by kernel_rfl) (by kernel_rfl) (fun _ _ _ h => h) (Or.inl ⟨by kernel_rfl, ?_⟩) (by assumption) ?_
  · (intro w hSw; (try dsimp only at hSw); go_simp; have y0 := gcell hSw r1; clear hSw; go_simp; first | done | with_reducible rfl)
  try go_simp
  refine wpAnyH_take (i := 8) (oi := _) (v := ?_) rfl (by kernel_rfl) (by kernel_rfl) (by kernel_rfl) (fun _ _ _ h => h) (Or.inl ⟨by rfl, ?_⟩) (by assumption) ?_
  rotate_left 1
  · (intro w hSw; (try dsimp only at hSw); go_simp; first | done | with_reducible rfl)
  try go_simp
  refine wpAnyH_take (i := 9) (oi := _) (v := ?_) rfl (by kernel_rfl) (by kernel_rfl) (by kernel_rfl) (fun _ _ _ h => h) (Or.inl ⟨by rfl, ?_⟩) (by assumption) ?_
  rotate_left 1
  · (intro w hSw; (try dsimp only at hSw); go_simp; first | done | with_reducible rfl)
  try go_simp
  refine wpAnyH_take (i := 10) (oi := _) (v := .int .i64 p) rfl (by kernel_rfl) (by kernel_rfl) (by kernel_rfl) (fun _ _ _ h => h) (Or.inl ⟨by kernel_rfl, ?_⟩) (by assumption) ?_
  · (intro w hSw; (try dsimp only at hSw); go_simp; have y0 := gcell hSw r2; clear hSw; go_simp; first | done | with_reducible rfl)
  try go_simp
  refine wpAnyH_ready (rs := [11, 14]) (by kernel_rfl) (by simp) ?_
  refine AllReadyH.cons (o := _) rfl (fun K hK => ?_) ?_
  · clear hHeld
    go_simp
    obtain ⟨wq1, ea, RB, g⟩ := row_of wc 3 #[.int .i64 a, .int .i64 b, .int .i64 p]
    have gb : wc.drew.grownBy wq1.drew none := ⟨g.os, g.tape, g.output, g.size, g.block⟩
    have hBRB : wc.heap.size ≤ wc.heap.size := gz.size
    replace RB := RB.kept (grown_dr (grown_refl wq1))
    clear g
    have g := gb
    clear gb
    replace gz := gz.trans g
    clear g
    first | (refine hK.out _ _ ?_ (fun hHeld => ?_)) | (go_wp2_with fail; refine hK.out _ _ ?_ (fun hHeld => ?_))
    · (try dsimp only); (first | rw [← ea] | skip); exact gz
    clear hK K
    rw [← ea]
    clear ea hHeld
    have hHeld := gz
    refine wpAnyH_ready (rs := [12, 14]) (by kernel_rfl) (by simp) ?_
    refine AllReadyH.cons (o := _) rfl (fun K hK => ?_) ?_
    · clear hHeld
      go_simp
      refine (made_k (some ⟨wc.heap.size, 0, none⟩) 3 3 [a, b, p] _ rfl (by unfold maxLen; decide) (nums_row RB HI2.out)).mono ?_
      rintro e wq2 ⟨x, y, z, _, rfl, g⟩
      replace RB := RB.kept g
      replace gz := gz.trans g
      clear g
      first | (refine hK.out _ _ ?_ (fun hHeld => ?_)) | (go_wp2_with fail; refine hK.out _ _ ?_ (fun hHeld => ?_))
      · (try dsimp only); (repeat (first | assumption | exact grown_refl _ | refine grown_dr ?_ | refine grown_dn ?_ | refine grown_al ?_))
      clear hK K
      refine wpAnyH_take (i := 13) (oi := _) (v := .agg #[.int .i64 a, .int .i64 b, .int .i64 p, .int .i64 x, .int .i64 y, .int .i64 z]) rfl (by kernel_rfl) (by kernel_rfl) (by kernel_rfl) (fun _ _ _ h => h) (Or.inl ⟨by kernel_rfl, ?_⟩) (by assumption) ?_
      · (intro w hSw; (try dsimp only at hSw); go_simp; first | done | with_reducible rfl)
      try go_simp
      refine wpAnyH_ready (rs := [14]) (by kernel_rfl) (by simp) ?_
      refine AllReadyH.cons (o := _) rfl (fun K hK => ?_) ?_
      · clear hHeld
        go_simp
        obtain ⟨wq3, ea, RA, g⟩ := row_of wq2 32 #[.int .i64 0, .int .i64 0, .int .i64 0, .int .i64 0, .int .i64 0, .int .i64 0]
        have hBRA : wc.heap.size ≤ wq2.heap.size := gz.size
        replace RB := RB.kept g
        replace gz := gz.trans g
        clear g
        first | (refine hK.out _ _ ?_ (fun hHeld => ?_)) | (go_wp2_with fail; refine hK.out _ _ ?_ (fun hHeld => ?_))
        · (try dsimp only); (first | rw [← ea] | skip); exact gz
        clear hK K
        rw [← ea]
        clear ea hHeld
        have hHeld := gz
        refine wpAnyH_ready (rs := [15]) (by kernel_rfl) (by simp) ?_
        refine AllReadyH.cons (o := _) rfl (fun K hK => ?_) ?_
        · clear hHeld
          have k0 := RA.c 0 rfl
          have f0 := RA.fz 0
          have k1 := RA.c 1 rfl
          have f1 := RA.fz 1
          have k2 := RA.c 2 rfl
          have f2 := RA.fz 2
          have k3 := RA.c 3 rfl
          have f3 := RA.fz 3
          have k4 := RA.c 4 rfl
          have f4 := RA.fz 4
          have k5 := RA.c 5 rfl
          have f5 := RA.fz 5
          have hsz := RA.lt
          have gst := (grown_set (i := 5) (v := .int .i64 z) (grown_set (i := 4) (v := .int .i64 y) (grown_set (i := 3) (v := .int .i64 x) (grown_set (i := 2) (v := .int .i64 p) (grown_set (i := 1) (v := .int .i64 b) (grown_set (i := 0) (v := .int .i64 a) gz (.inl hBRA)) (.inl hBRA)) (.inl hBRA)) (.inl hBRA)) (.inl hBRA)) (.inl hBRA))
          have RS := ((((((RA.set 0 (.int .i64 a)).set 1 (.int .i64 b)).set 2 (.int .i64 p)).set 3 (.int .i64 x)).set 4 (.int .i64 y)).set 5 (.int .i64 z))
          go_simp
          first | (refine hK.out _ _ ?_ (fun hHeld => ?_)) | (go_wp2_with fail; refine hK.out _ _ ?_ (fun hHeld => ?_))
          · (try dsimp only); exact gst
          clear hK K
          refine wpAnyH_done (by kernel_rfl) ?_ _
          refine NoPanic.normal ?_
          go_simp
          exact hQ _ _ _ _ _ _ _ _ _ _ _ _ _ _ _ _ _ _ _ RS gst
        exact AllReadyH.nil
      exact AllReadyH.nil
    refine AllReadyH.cons (o := _) rfl (fun K hK => ?_) ?_
    · clear hHeld
      go_simp
      obtain ⟨wq2, ea, RA, g⟩ := row_of wq1 32 #[.int .i64 0, .int .i64 0, .int .i64 0, .int .i64 0, .int .i64 0, .int .i64 0]
      have gb : wq1.drew.grownBy wq2.drew none := ⟨g.os, g.tape, g.output, g.size, g.block⟩
      have hBRA : wc.heap.size ≤ wq1.heap.size := gz.size
      replace RA := RA.kept (grown_dr (grown_refl wq2))
      clear g
      have g := gb
      clear gb
      replace RB := RB.kept g
      replace gz := gz.trans g
      clear g
      first | (refine hK.out _ _ ?_ (fun hHeld => ?_)) | (go_wp2_with fail; refine hK.out _ _ ?_ (fun hHeld => ?_))
      · (try dsimp only); (first | rw [← ea] | skip); exact gz
      clear hK K
      rw [← ea]
      clear ea hHeld
      have hHeld := gz
      refine wpAnyH_ready (rs := [12]) (by kernel_rfl) (by simp) ?_
      refine AllReadyH.cons (o := _) rfl (fun K hK => ?_) ?_
      · clear hHeld
        go_simp
        refine (made_k (some ⟨wc.heap.size, 0, none⟩) 3 3 [a, b, p] _ rfl (by unfold maxLen; decide) (nums_row RB HI2.out)).mono ?_
        rintro e wq3 ⟨x, y, z, _, rfl, g⟩
        replace RB := RB.kept g
        replace RA := RA.kept g
        replace gz := gz.trans g
        clear g
        first | (refine hK.out _ _ ?_ (fun hHeld => ?_)) | (go_wp2_with fail; refine hK.out _ _ ?_ (fun hHeld => ?_))
        · (try dsimp only); (repeat (first | assumption | exact grown_refl _ | refine grown_dr ?_ | refine grown_dn ?_ | refine grown_al ?_))
        clear hK K
        refine wpAnyH_take (i := 13) (oi := _) (v := .agg #[.int .i64 a, .int .i64 b, .int .i64 p, .int .i64 x, .int .i64 y, .int .i64 z]) rfl (by kernel_rfl) (by kernel_rfl) (by kernel_rfl) (fun _ _ _ h => h) (Or.inl ⟨by kernel_rfl, ?_⟩) (by assumption) ?_
        · (intro w hSw; (try dsimp only at hSw); go_simp; first | done | with_reducible rfl)
        try go_simp
        refine wpAnyH_ready (rs := [15]) (by kernel_rfl) (by simp) ?_
        refine AllReadyH.cons (o := _) rfl (fun K hK => ?_) ?_
        · clear hHeld
          have k0 := RA.c 0 rfl
          have f0 := RA.fz 0
          have k1 := RA.c 1 rfl
          have f1 := RA.fz 1
          have k2 := RA.c 2 rfl
          have f2 := RA.fz 2
          have k3 := RA.c 3 rfl
          have f3 := RA.fz 3
          have k4 := RA.c 4 rfl
          have f4 := RA.fz 4
          have k5 := RA.c 5 rfl
          have f5 := RA.fz 5
          have hsz := RA.lt
          have gst := (grown_set (i := 5) (v := .int .i64 z) (grown_set (i := 4) (v := .int .i64 y) (grown_set (i := 3) (v := .int .i64 x) (grown_set (i := 2) (v := .int .i64 p) (grown_set (i := 1) (v := .int .i64 b) (grown_set (i := 0) (v := .int .i64 a) gz (.inl hBRA)) (.inl hBRA)) (.inl hBRA)) (.inl hBRA)) (.inl hBRA)) (.inl hBRA))
          have RS := ((((((RA.set 0 (.int .i64 a)).set 1 (.int .i64 b)).set 2 (.int .i64 p)).set 3 (.int .i64 x)).set 4 (.int .i64 y)).set 5 (.int .i64 z))
          go_simp
          first | (refine hK.out _ _ ?_ (fun hHeld => ?_)) | (go_wp2_with fail; refine hK.out _ _ ?_ (fun hHeld => ?_))
          · (try dsimp only); exact gst
          clear hK K
          refine wpAnyH_done (by kernel_rfl) ?_ _
          refine NoPanic.normal ?_
          go_simp
          exact hQ _ _ _ _ _ _ _ _ _ _ _ _ _ _ _ _ _ _ _ RS gst
        exact AllReadyH.nil
      exact AllReadyH.nil
    exact AllReadyH.nil
  refine AllReadyH.cons (o := _) rfl (fun K hK => ?_) ?_
  · clear hHeld
    go_simp
    obtain ⟨wq1, ea, RA, g⟩ := row_of wc 32 #[.int .i64 0, .int .i64 0, .int .i64 0, .int .i64 0, .int .i64 0, .int .i64 0]
    have gb : wc.drew.grownBy wq1.drew none := ⟨g.os, g.tape, g.output, g.size, g.block⟩
    have hBRA : wc.heap.size ≤ wc.heap.size := gz.size
    replace RA := RA.kept (grown_dr (grown_refl wq1))
    clear g
    have g := gb
    clear gb
    replace gz := gz.trans g
    clear g
    first | (refine hK.out _ _ ?_ (fun hHeld => ?_)) | (go_wp2_with fail; refine hK.out _ _ ?_ (fun hHeld => ?_))
    · (try dsimp only); (first | rw [← ea] | skip); exact gz
    clear hK K
    rw [← ea]
    clear ea hHeld
    have hHeld := gz
    refine wpAnyH_ready (rs := [11]) (by kernel_rfl) (by simp) ?_
    refine AllReadyH.cons (o := _) rfl (fun K hK => ?_) ?_
    · clear hHeld
      go_simp
      obtain ⟨wq2, ea, RB, g⟩ := row_of wq1 3 #[.int .i64 a, .int .i64 b, .int .i64 p]
      have gb : wq1.drew.grownBy wq2.drew none := ⟨g.os, g.tape, g.output, g.size, g.block⟩
      have hBRB : wc.heap.size ≤ wq1.heap.size := gz.size
      replace RB := RB.kept (grown_dr (grown_refl wq2))
      clear g
      have g := gb
      clear gb
      replace RA := RA.kept g
      replace gz := gz.trans g
      clear g
      first | (refine hK.out _ _ ?_ (fun hHeld => ?_)) | (go_wp2_with fail; refine hK.out _ _ ?_ (fun hHeld => ?_))
      · (try dsimp only); (first | rw [← ea] | skip); exact gz
      clear hK K
      rw [← ea]
      clear ea hHeld
      have hHeld := gz
      refine wpAnyH_ready (rs := [12]) (by kernel_rfl) (by simp) ?_
      refine AllReadyH.cons (o := _) rfl (fun K hK => ?_) ?_
      · clear hHeld
        go_simp
        refine (made_k (some ⟨wq1.heap.size, 0, none⟩) 3 3 [a, b, p] _ rfl (by unfold maxLen; decide) (nums_row RB HI2.out)).mono ?_
        rintro e wq3 ⟨x, y, z, _, rfl, g⟩
        replace RA := RA.kept g
        replace RB := RB.kept g
        replace gz := gz.trans g
        clear g
        first | (refine hK.out _ _ ?_ (fun hHeld => ?_)) | (go_wp2_with fail; refine hK.out _ _ ?_ (fun hHeld => ?_))
        · (try dsimp only); (repeat (first | assumption | exact grown_refl _ | refine grown_dr ?_ | refine grown_dn ?_ | refine grown_al ?_))
        clear hK K
        refine wpAnyH_take (i := 13) (oi := _) (v := .agg #[.int .i64 a, .int .i64 b, .int .i64 p, .int .i64 x, .int .i64 y, .int .i64 z]) rfl (by kernel_rfl) (by kernel_rfl) (by kernel_rfl) (fun _ _ _ h => h) (Or.inl ⟨by kernel_rfl, ?_⟩) (by assumption) ?_
        · (intro w hSw; (try dsimp only at hSw); go_simp; first | done | with_reducible rfl)
        try go_simp
        refine wpAnyH_ready (rs := [15]) (by kernel_rfl) (by simp) ?_
        refine AllReadyH.cons (o := _) rfl (fun K hK => ?_) ?_
        · clear hHeld
          have k0 := RA.c 0 rfl
          have f0 := RA.fz 0
          have k1 := RA.c 1 rfl
          have f1 := RA.fz 1
          have k2 := RA.c 2 rfl
          have f2 := RA.fz 2
          have k3 := RA.c 3 rfl
          have f3 := RA.fz 3
          have k4 := RA.c 4 rfl
          have f4 := RA.fz 4
          have k5 := RA.c 5 rfl
          have f5 := RA.fz 5
          have hsz := RA.lt
          have gst := (grown_set (i := 5) (v := .int .i64 z) (grown_set (i := 4) (v := .int .i64 y) (grown_set (i := 3) (v := .int .i64 x) (grown_set (i := 2) (v := .int .i64 p) (grown_set (i := 1) (v := .int .i64 b) (grown_set (i := 0) (v := .int .i64 a) gz (.inl hBRA)) (.inl hBRA)) (.inl hBRA)) (.inl hBRA)) (.inl hBRA)) (.inl hBRA))
          have RS := ((((((RA.set 0 (.int .i64 a)).set 1 (.int .i64 b)).set 2 (.int .i64 p)).set 3 (.int .i64 x)).set 4 (.int .i64 y)).set 5 (.int .i64 z))
          go_simp
          first | (refine hK.out _ _ ?_ (fun hHeld => ?_)) | (go_wp2_with fail; refine hK.out _ _ ?_ (fun hHeld => ?_))
          · (try dsimp only); exact gst
          clear hK K
          refine wpAnyH_done (by kernel_rfl) ?_ _
          refine NoPanic.normal ?_
          go_simp
          exact hQ _ _ _ _ _ _ _ _ _ _ _ _ _ _ _ _ _ _ _ RS gst
        exact AllReadyH.nil
      exact AllReadyH.nil
    exact AllReadyH.nil
  exact AllReadyH.nil
set_option maxRecDepth 100000 in
set_option maxHeartbeats 4000000 in
theorem rg15 {sl0 sl1 sl2 sl3 sl4 sl5 sl6 sl7 sl8 sl9 sl10 sl12 sl13 sl15 sl16 sl17 sl18 sl19 sl20 sl21 sl22 sl23 sl24 sl25 sl26 sl27 sl28 sl29 sl30 sl31 sl32 sl33 sl34 sl35 sl36 sl37 sl38 sl39 sl40 sl41 sl42 sl43 sl44 sl45 sl46 sl47 sl48 sl49 sl50 sl51 sl52 sl53 sl54 sl55 sl56 sl57 sl58 sl59 sl60 sl61 sl62 sl63 sl64 sl65 sl66 sl67 sl68 sl69 sl70 sl71 sl72 sl73 sl74 sl75 sl76 sl77 sl78 sl79 sl80 sl81 sl82 sl83 sl84 sl85 sl86 sl87 sl88 sl89 sl90 sl91 sl92 sl93 sl94 sl95 sl96 sl97 sl98 sl99 sl100 sl101 sl102 sl103 sl104 sl105 sl106 sl107 sl108 sl109 sl110 sl111 sl112 sl113 sl114 sl115 sl116 sl117 sl118 sl119 sl120 sl121 sl122 sl123 sl124 sl125 sl126 sl127 sl128 sl129 sl130 sl131 sl132 sl133 sl134 sl135 sl136 sl137 sl138 sl139 sl140 sl141 sl142 sl143 sl144 sl145 sl146 sl147 sl148 sl149 sl150 sl151 sl152 sl153 sl154 sl155 sl156 sl157 sl158 sl159 sl160 sl161 sl162 sl163 sl164 sl165 sl166 sl167 sl168 sl169 sl170 sl171 sl172 sl173 sl174 sl175 sl176 sl177 sl178 sl179 sl180 sl181 sl182 sl183 sl184 sl185 sl186 sl187 sl188 sl189 sl190 sl191 sl192 sl193 sl194 sl195 sl196 sl197 sl198 sl199 sl200 sl201 sl202 sl203 sl204 sl205 sl206 sl207 sl208 sl209 sl210 sl211 sl212 sl213 sl214 sl215 sl216 sl217 sl218 sl219 sl220 sl221 sl222 sl223 sl224 sl225 sl226 sl227 : Value} {Q : Exit → Act → World → Prop} {code : Code} (hcode : rg 15 = code) (wo : World) (BL j : Nat) (hlt : j < 3) (B1 B2 : Option Addr) (n1 n2 e1 e2 : Nat) (mn md me : Int) (x1 : wo.cell? ⟨BL, j * 2, none⟩ = some (.slice B1 n1 e1)) (x2 : wo.cell? ⟨BL, j * 2 + 1, none⟩ = some (.slice B2 n2 e2))
    (KM : Hid (∀ (V : World), wo.grownBy V none → Calls Try.prog 25 #[.slice B1 n1 e1, .slice B2 n2 e2] V fun e w' => e = .returned (.tuple #[.agg #[.int .i64 mn, .int .i64 md], .int .i64 me]) ∧ V.grownBy w' none))
    (hQ : ∀ (tl107 tl108 tl109 tl110 tl111 tl112 tl113 tl114 tl115 tl106 tl116 tl117 : Value) (B : Nat) (wx : World), R2 wx B mn md → wo.grownBy wx none → Q .normal ⟨#[sl0, sl1, sl2, sl3, sl4, sl5, sl6, sl7, sl8, sl9, sl10, .pointer (some ⟨BL, 0, none⟩), sl12, sl13, .int .i64 (j : Int), .pointer (some ⟨B, 0, none⟩), .int .i64 me, sl17, sl18, sl19, sl20, sl21, sl22, sl23, sl24, sl25, sl26, sl27, sl28, sl29, sl30, sl31, sl32, sl33, sl34, sl35, sl36, sl37, sl38, sl39, sl40, sl41, sl42, sl43, sl44, sl45, sl46, sl47, sl48, sl49, sl50, sl51, sl52, sl53, sl54, sl55, sl56, sl57, sl58, sl59, sl60, sl61, sl62, sl63, sl64, sl65, sl66, sl67, sl68, sl69, sl70, sl71, sl72, sl73, sl74, sl75, sl76, sl77, sl78, sl79, sl80, sl81, sl82, sl83, sl84, sl85, sl86, sl87, sl88, sl89, sl90, sl91, sl92, sl93, sl94, sl95, sl96, sl97, sl98, sl99, sl100, sl101, sl102, sl103, sl104, sl105, tl106, tl107, tl108, tl109, tl110, tl111, tl112, tl113, tl114, tl115, tl116, tl117, sl118, sl119, sl120, sl121, sl122, sl123, sl124, sl125, sl126, sl127, sl128, sl129, sl130, sl131, sl132, sl133, sl134, sl135, sl136, sl137, sl138, sl139, sl140, sl141, sl142, sl143, sl144, sl145, sl146, sl147, sl148, sl149, sl150, sl151, sl152, sl153, sl154, sl155, sl156, sl157, sl158, sl159, sl160, sl161, sl162, sl163, sl164, sl165, sl166, sl167, sl168, sl169, sl170, sl171, sl172, sl173, sl174, sl175, sl176, sl177, sl178, sl179, sl180, sl181, sl182, sl183, sl184, sl185, sl186, sl187, sl188, sl189, sl190, sl191, sl192, sl193, sl194, sl195, sl196, sl197, sl198, sl199, sl200, sl201, sl202, sl203, sl204, sl205, sl206, sl207, sl208, sl209, sl210, sl211, sl212, sl213, sl214, sl215, sl216, sl217, sl218, sl219, sl220, sl221, sl222, sl223, sl224, sl225, sl226, sl227], []⟩ wx) :
    Code.wp Try.prog code Q ⟨#[sl0, sl1, sl2, sl3, sl4, sl5, sl6, sl7, sl8, sl9, sl10, .pointer (some ⟨BL, 0, none⟩), sl12, sl13, .int .i64 (j : Int), sl15, sl16, sl17, sl18, sl19, sl20, sl21, sl22, sl23, sl24, sl25, sl26, sl27, sl28, sl29, sl30, sl31, sl32, sl33, sl34, sl35, sl36, sl37, sl38, sl39, sl40, sl41, sl42, sl43, sl44, sl45, sl46, sl47, sl48, sl49, sl50, sl51, sl52, sl53, sl54, sl55, sl56, sl57, sl58, sl59, sl60, sl61, sl62, sl63, sl64, sl65, sl66, sl67, sl68, sl69, sl70, sl71, sl72, sl73, sl74, sl75, sl76, sl77, sl78, sl79, sl80, sl81, sl82, sl83, sl84, sl85, sl86, sl87, sl88, sl89, sl90, sl91, sl92, sl93, sl94, sl95, sl96, sl97, sl98, sl99, sl100, sl101, sl102, sl103, sl104, sl105, sl106, sl107, sl108, sl109, sl110, sl111, sl112, sl113, sl114, sl115, sl116, sl117, sl118, sl119, sl120, sl121, sl122, sl123, sl124, sl125, sl126, sl127, sl128, sl129, sl130, sl131, sl132, sl133, sl134, sl135, sl136, sl137, sl138, sl139, sl140, sl141, sl142, sl143, sl144, sl145, sl146, sl147, sl148, sl149, sl150, sl151, sl152, sl153, sl154, sl155, sl156, sl157, sl158, sl159, sl160, sl161, sl162, sl163, sl164, sl165, sl166, sl167, sl168, sl169, sl170, sl171, sl172, sl173, sl174, sl175, sl176, sl177, sl178, sl179, sl180, sl181, sl182, sl183, sl184, sl185, sl186, sl187, sl188, sl189, sl190, sl191, sl192, sl193, sl194, sl195, sl196, sl197, sl198, sl199, sl200, sl201, sl202, sl203, sl204, sl205, sl206, sl207, sl208, sl209, sl210, sl211, sl212, sl213, sl214, sl215, sl216, sl217, sl218, sl219, sl220, sl221, sl222, sl223, sl224, sl225, sl226, sl227], []⟩ wo := by
  subst hcode
  conv => arg 2; whnf
  have hj3 : (j : Int) < 3 := by omega
  have gz : wo.grownBy wo.drew none := grown_dr (grown_refl _)
  refine wp_region_noPanic ?_
  refine wp_region_held_drew (S := (fun w' => wo.grownBy w' none)) (by kernel_rfl) ?_ (fun hHeld => ?_)
  · (try dsimp only); (repeat (first | assumption | exact grown_refl _ | refine grown_dr ?_ | refine grown_dn ?_ | refine grown_al ?_))
  refine wpAnyH_take (i := 0) (oi := _) (v := ?_) rfl (by kernel_rfl) (by kernel_rfl) (by kernel_rfl) (fun _ _ _ h => h) (Or.inl ⟨by rfl, ?_⟩) (by assumption) ?_
  rotate_left 1
  · (intro w hSw; (try dsimp only at hSw); go_simp; first | done | with_reducible rfl)
  try go_simp
  refine wpAnyH_take (i := 1) (oi := _) (v := ?_) rfl (by kernel_rfl) (by kernel_rfl) (by kernel_rfl) (fun _ _ _ h => h) (Or.inl ⟨by rfl, ?_⟩) (by assumption) ?_
  rotate_left 1
  · (intro w hSw; (try dsimp only at hSw); go_simp; first | done | with_reducible rfl)
  try go_simp
  refine wpAnyH_take (i := 2) (oi := _) (v := ?_) rfl (by kernel_rfl) (by kernel_rfl) (by kernel_rfl) (fun _ _ _ h => h) (Or.inl ⟨by rfl, ?_⟩) (by assumption) ?_
  rotate_left 1
  · (intro w hSw; (try dsimp only at hSw); go_simp; first | done | with_reducible rfl)
  try go_simp
  refine wpAnyH_take (i := 3) (oi := _) (v := .slice B1 n1 e1) rfl (by kernel_rfl) (by kernel_rfl) (by kernel_rfl) (fun _ _ _ h => h) (Or.inl ⟨by kernel_rfl, ?_⟩) (by assumption) ?_
  · (intro w hSw; (try dsimp only at hSw); go_simp; have y0 := gcell hSw x1; clear hSw; go_simp; first | done | with_reducible rfl)
  try go_simp
  refine wpAnyH_take (i := 4) (oi := _) (v := ?_) rfl (by kernel_rfl) (by kernel_rfl) (by kernel_rfl) (fun _ _ _ h => h) (Or.inl ⟨by rfl, ?_⟩) (by assumption) ?_
  rotate_left 1
  · (intro w hSw; (try dsimp only at hSw); go_simp; first | done | with_reducible rfl)
  try go_simp
  refine wpAnyH_take (i := 5) (oi := _) (v := ?_) rfl (by kernel_rfl) (by kernel_rfl) (by kernel_rfl) (fun _ _ _ h => h) (Or.inl ⟨by rfl, ?_⟩) (by assumption) ?_
  rotate_left 1
  · (intro w hSw; (try dsimp only at hSw); go_simp; first | done | with_reducible rfl)
  try go_simp
  refine wpAnyH_take (i := 6) (oi := _) (v := ?_) rfl (by kernel_rfl) (by kernel_rfl) (by kernel_rfl) (fun _ _ _ h => h) (Or.inl ⟨by rfl, ?_⟩) (by assumption) ?_
  rotate_left 1
  · (intro w hSw; (try dsimp only at hSw); go_simp; first | done | with_reducible rfl)
  try go_simp
  refine wpAnyH_take (i := 7) (oi := _) (v := .slice B2 n2 e2) rfl (by kernel_rfl) (by kernel_rfl) (by kernel_rfl) (fun _ _ _ h => h) (Or.inl ⟨by kernel_rfl, ?_⟩) (by assumption) ?_
  · (intro w hSw; (try dsimp only at hSw); go_simp; have y0 := gcell hSw x2; clear hSw; go_simp; first | done | with_reducible rfl)
  try go_simp
  refine wpAnyH_ready (rs := [8, 12]) (by kernel_rfl) (by simp) ?_
  refine AllReadyH.cons (o := _) rfl (fun K hK => ?_) ?_
  · clear hHeld
    go_simp
    refine (KM.out _ gz).mono ?_
    rintro e wq1 ⟨rfl, g⟩
    replace gz := gz.trans g
    clear g
    first | (refine hK.out _ _ ?_ (fun hHeld => ?_)) | (go_wp2_with fail; refine hK.out _ _ ?_ (fun hHeld => ?_))
    · (try dsimp only); (repeat (first | assumption | exact grown_refl _ | refine grown_dr ?_ | refine grown_dn ?_ | refine grown_al ?_))
    clear hK K
    refine wpAnyH_take (i := 9) (oi := _) (v := ?_) rfl (by kernel_rfl) (by kernel_rfl) (by kernel_rfl) (fun _ _ _ h => h) (Or.inl ⟨by rfl, ?_⟩) (by assumption) ?_
    rotate_left 1
    · (intro w hSw; (try dsimp only at hSw); go_simp; first | done | with_reducible rfl)
    try go_simp
    refine wpAnyH_take (i := 10) (oi := _) (v := ?_) rfl (by kernel_rfl) (by kernel_rfl) (by kernel_rfl) (fun _ _ _ h => h) (Or.inl ⟨by rfl, ?_⟩) (by assumption) ?_
    rotate_left 1
    · (intro w hSw; (try dsimp only at hSw); go_simp; first | done | with_reducible rfl)
    try go_simp
    refine wpAnyH_take (i := 11) (oi := _) (v := ?_) rfl (by kernel_rfl) (by kernel_rfl) (by kernel_rfl) (fun _ _ _ h => h) (Or.inl ⟨by rfl, ?_⟩) (by assumption) ?_
    rotate_left 1
    · (intro w hSw; (try dsimp only at hSw); go_simp; first | done | with_reducible rfl)
    try go_simp
    refine wpAnyH_ready (rs := [12]) (by kernel_rfl) (by simp) ?_
    refine AllReadyH.cons (o := _) rfl (fun K hK => ?_) ?_
    · clear hHeld
      go_simp
      obtain ⟨wq2, ea, RA, g⟩ := row_of wq1 46 #[.int .i64 0, .int .i64 0]
      have hBRA : wo.heap.size ≤ wq1.heap.size := gz.size
      replace gz := gz.trans g
      clear g
      first | (refine hK.out _ _ ?_ (fun hHeld => ?_)) | (go_wp2_with fail; refine hK.out _ _ ?_ (fun hHeld => ?_))
      · (try dsimp only); (first | rw [← ea] | skip); exact gz
      clear hK K
      rw [← ea]
      clear ea hHeld
      have hHeld := gz
      refine wpAnyH_ready (rs := [13]) (by kernel_rfl) (by simp) ?_
      refine AllReadyH.cons (o := _) rfl (fun K hK => ?_) ?_
      · clear hHeld
        have k0 := RA.c 0 rfl
        have f0 := RA.fz 0
        have k1 := RA.c 1 rfl
        have f1 := RA.fz 1
        have hsz := RA.lt
        have gst := (grown_set (i := 1) (v := .int .i64 md) (grown_set (i := 0) (v := .int .i64 mn) gz (.inl hBRA)) (.inl hBRA))
        have RS := ((RA.set 0 (.int .i64 mn)).set 1 (.int .i64 md))
        go_simp
        first | (refine hK.out _ _ ?_ (fun hHeld => ?_)) | (go_wp2_with fail; refine hK.out _ _ ?_ (fun hHeld => ?_))
        · (try dsimp only); exact gst
        clear hK K
        refine wpAnyH_take (i := 14) (oi := _) (v := ?_) rfl (by kernel_rfl) (by kernel_rfl) (by kernel_rfl) (fun _ _ _ h => h) (Or.inl ⟨by rfl, ?_⟩) (by assumption) ?_
        rotate_left 1
        · (intro w hSw; (try dsimp only at hSw); go_simp; first | done | with_reducible rfl)
        try go_simp
        refine wpAnyH_done (by kernel_rfl) ?_ _
        refine NoPanic.normal ?_
        go_simp
        exact hQ _ _ _ _ _ _ _ _ _ _ _ _ _ _ RS gst
      exact AllReadyH.nil
    exact AllReadyH.nil
  refine AllReadyH.cons (o := _) rfl (fun K hK => ?_) ?_
  · clear hHeld
    go_simp
    obtain ⟨wq1, ea, RA, g⟩ := row_of wo 46 #[.int .i64 0, .int .i64 0]
    have gb : wo.drew.grownBy wq1.drew none := ⟨g.os, g.tape, g.output, g.size, g.block⟩
    have hBRA : wo.heap.size ≤ wo.heap.size := gz.size
    replace RA := RA.kept (grown_dr (grown_refl wq1))
    clear g
    have g := gb
    clear gb
    replace gz := gz.trans g
    clear g
    first | (refine hK.out _ _ ?_ (fun hHeld => ?_)) | (go_wp2_with fail; refine hK.out _ _ ?_ (fun hHeld => ?_))
    · (try dsimp only); (first | rw [← ea] | skip); exact gz
    clear hK K
    rw [← ea]
    clear ea hHeld
    have hHeld := gz
    refine wpAnyH_ready (rs := [8]) (by kernel_rfl) (by simp) ?_
    refine AllReadyH.cons (o := _) rfl (fun K hK => ?_) ?_
    · clear hHeld
      go_simp
      refine (KM.out _ gz).mono ?_
      rintro e wq2 ⟨rfl, g⟩
      replace RA := RA.kept g
      replace gz := gz.trans g
      clear g
      first | (refine hK.out _ _ ?_ (fun hHeld => ?_)) | (go_wp2_with fail; refine hK.out _ _ ?_ (fun hHeld => ?_))
      · (try dsimp only); (repeat (first | assumption | exact grown_refl _ | refine grown_dr ?_ | refine grown_dn ?_ | refine grown_al ?_))
      clear hK K
      refine wpAnyH_take (i := 9) (oi := _) (v := ?_) rfl (by kernel_rfl) (by kernel_rfl) (by kernel_rfl) (fun _ _ _ h => h) (Or.inl ⟨by rfl, ?_⟩) (by assumption) ?_
      rotate_left 1
      · (intro w hSw; (try dsimp only at hSw); go_simp; first | done | with_reducible rfl)
      try go_simp
      refine wpAnyH_take (i := 10) (oi := _) (v := ?_) rfl (by kernel_rfl) (by kernel_rfl) (by kernel_rfl) (fun _ _ _ h => h) (Or.inl ⟨by rfl, ?_⟩) (by assumption) ?_
      rotate_left 1
      · (intro w hSw; (try dsimp only at hSw); go_simp; first | done | with_reducible rfl)
      try go_simp
      refine wpAnyH_take (i := 11) (oi := _) (v := ?_) rfl (by kernel_rfl) (by kernel_rfl) (by kernel_rfl) (fun _ _ _ h => h) (Or.inl ⟨by rfl, ?_⟩) (by assumption) ?_
      rotate_left 1
      · (intro w hSw; (try dsimp only at hSw); go_simp; first | done | with_reducible rfl)
      try go_simp
      refine wpAnyH_ready (rs := [13]) (by kernel_rfl) (by simp) ?_
      refine AllReadyH.cons (o := _) rfl (fun K hK => ?_) ?_
      · clear hHeld
        have k0 := RA.c 0 rfl
        have f0 := RA.fz 0
        have k1 := RA.c 1 rfl
        have f1 := RA.fz 1
        have hsz := RA.lt
        have gst := (grown_set (i := 1) (v := .int .i64 md) (grown_set (i := 0) (v := .int .i64 mn) gz (.inl hBRA)) (.inl hBRA))
        have RS := ((RA.set 0 (.int .i64 mn)).set 1 (.int .i64 md))
        go_simp
        first | (refine hK.out _ _ ?_ (fun hHeld => ?_)) | (go_wp2_with fail; refine hK.out _ _ ?_ (fun hHeld => ?_))
        · (try dsimp only); exact gst
        clear hK K
        refine wpAnyH_take (i := 14) (oi := _) (v := ?_) rfl (by kernel_rfl) (by kernel_rfl) (by kernel_rfl) (fun _ _ _ h => h) (Or.inl ⟨by rfl, ?_⟩) (by assumption) ?_
        rotate_left 1
        · (intro w hSw; (try dsimp only at hSw); go_simp; first | done | with_reducible rfl)
        try go_simp
        refine wpAnyH_done (by kernel_rfl) ?_ _
        refine NoPanic.normal ?_
        go_simp
        exact hQ _ _ _ _ _ _ _ _ _ _ _ _ _ _ RS gst
      exact AllReadyH.nil
    exact AllReadyH.nil
  exact AllReadyH.nil
set_option maxRecDepth 100000 in
set_option maxHeartbeats 4000000 in
theorem rg16 {sl0 sl1 sl2 sl3 sl4 sl5 sl6 sl7 sl8 sl9 sl10 sl12 sl13 sl15 sl16 sl17 sl18 sl19 sl20 sl21 sl22 sl23 sl24 sl25 sl26 sl27 sl28 sl29 sl30 sl31 sl32 sl33 sl34 sl35 sl36 sl37 sl38 sl39 sl40 sl41 sl42 sl43 sl44 sl45 sl46 sl47 sl48 sl49 sl50 sl51 sl52 sl53 sl54 sl55 sl56 sl57 sl58 sl59 sl60 sl61 sl62 sl63 sl64 sl65 sl66 sl67 sl68 sl69 sl70 sl71 sl72 sl73 sl74 sl75 sl76 sl77 sl78 sl79 sl80 sl81 sl82 sl83 sl84 sl85 sl86 sl87 sl88 sl89 sl90 sl91 sl92 sl93 sl94 sl95 sl96 sl97 sl98 sl99 sl100 sl101 sl102 sl103 sl104 sl105 sl106 sl107 sl108 sl109 sl110 sl111 sl112 sl113 sl114 sl115 sl116 sl117 sl118 sl119 sl120 sl121 sl122 sl123 sl124 sl125 sl126 sl127 sl128 sl129 sl130 sl131 sl132 sl133 sl134 sl135 sl136 sl137 sl138 sl139 sl140 sl141 sl142 sl143 sl144 sl145 sl146 sl147 sl148 sl149 sl150 sl151 sl152 sl153 sl154 sl155 sl156 sl157 sl158 sl159 sl160 sl161 sl162 sl163 sl164 sl165 sl166 sl167 sl168 sl169 sl170 sl171 sl172 sl173 sl174 sl175 sl176 sl177 sl178 sl179 sl180 sl181 sl182 sl183 sl184 sl185 sl186 sl187 sl188 sl189 sl190 sl191 sl192 sl193 sl194 sl195 sl196 sl197 sl198 sl199 sl200 sl201 sl202 sl203 sl204 sl205 sl206 sl207 sl208 sl209 sl210 sl211 sl212 sl213 sl214 sl215 sl216 sl217 sl218 sl219 sl220 sl221 sl222 sl223 sl224 sl225 sl226 sl227 : Value} {Q : Exit → Act → World → Prop} {code : Code} (hcode : rg 16 = code) (wo : World) (BL j : Nat) (hlt : j < 3) (B1 B2 : Option Addr) (n1 n2 e1 e2 : Nat) (mn md me : Int) (x1 : wo.cell? ⟨BL, j * 2, none⟩ = some (.slice B1 n1 e1)) (x2 : wo.cell? ⟨BL, j * 2 + 1, none⟩ = some (.slice B2 n2 e2))
    (KM : Hid (∀ (V : World), wo.grownBy V none → Calls Try.prog 26 #[.slice B1 n1 e1, .slice B2 n2 e2] V fun e w' => e = .returned (.tuple #[.agg #[.int .i64 mn, .int .i64 md], .int .i64 me]) ∧ V.grownBy w' none))
    (hQ : ∀ (tl119 tl120 tl121 tl122 tl123 tl124 tl125 tl126 tl127 tl118 tl128 tl129 : Value) (B : Nat) (wx : World), R2 wx B mn md → wo.grownBy wx none → Q .normal ⟨#[sl0, sl1, sl2, sl3, sl4, sl5, sl6, sl7, sl8, sl9, sl10, .pointer (some ⟨BL, 0, none⟩), sl12, sl13, .int .i64 (j : Int), sl15, sl16, .pointer (some ⟨B, 0, none⟩), .int .i64 me, sl19, sl20, sl21, sl22, sl23, sl24, sl25, sl26, sl27, sl28, sl29, sl30, sl31, sl32, sl33, sl34, sl35, sl36, sl37, sl38, sl39, sl40, sl41, sl42, sl43, sl44, sl45, sl46, sl47, sl48, sl49, sl50, sl51, sl52, sl53, sl54, sl55, sl56, sl57, sl58, sl59, sl60, sl61, sl62, sl63, sl64, sl65, sl66, sl67, sl68, sl69, sl70, sl71, sl72, sl73, sl74, sl75, sl76, sl77, sl78, sl79, sl80, sl81, sl82, sl83, sl84, sl85, sl86, sl87, sl88, sl89, sl90, sl91, sl92, sl93, sl94, sl95, sl96, sl97, sl98, sl99, sl100, sl101, sl102, sl103, sl104, sl105, sl106, sl107, sl108, sl109, sl110, sl111, sl112, sl113, sl114, sl115, sl116, sl117, tl118, tl119, tl120, tl121, tl122, tl123, tl124, tl125, tl126, tl127, tl128, tl129, sl130, sl131, sl132, sl133, sl134, sl135, sl136, sl137, sl138, sl139, sl140, sl141, sl142, sl143, sl144, sl145, sl146, sl147, sl148, sl149, sl150, sl151, sl152, sl153, sl154, sl155, sl156, sl157, sl158, sl159, sl160, sl161, sl162, sl163, sl164, sl165, sl166, sl167, sl168, sl169, sl170, sl171, sl172, sl173, sl174, sl175, sl176, sl177, sl178, sl179, sl180, sl181, sl182, sl183, sl184, sl185, sl186, sl187, sl188, sl189, sl190, sl191, sl192, sl193, sl194, sl195, sl196, sl197, sl198, sl199, sl200, sl201, sl202, sl203, sl204, sl205, sl206, sl207, sl208, sl209, sl210, sl211, sl212, sl213, sl214, sl215, sl216, sl217, sl218, sl219, sl220, sl221, sl222, sl223, sl224, sl225, sl226, sl227], []⟩ wx) :
    Code.wp Try.prog code Q ⟨#[sl0, sl1, sl2, sl3, sl4, sl5, sl6, sl7, sl8, sl9, sl10, .pointer (some ⟨BL, 0, none⟩), sl12, sl13, .int .i64 (j : Int), sl15, sl16, sl17, sl18, sl19, sl20, sl21, sl22, sl23, sl24, sl25, sl26, sl27, sl28, sl29, sl30, sl31, sl32, sl33, sl34, sl35, sl36, sl37, sl38, sl39, sl40, sl41, sl42, sl43, sl44, sl45, sl46, sl47, sl48, sl49, sl50, sl51, sl52, sl53, sl54, sl55, sl56, sl57, sl58, sl59, sl60, sl61, sl62, sl63, sl64, sl65, sl66, sl67, sl68, sl69, sl70, sl71, sl72, sl73, sl74, sl75, sl76, sl77, sl78, sl79, sl80, sl81, sl82, sl83, sl84, sl85, sl86, sl87, sl88, sl89, sl90, sl91, sl92, sl93, sl94, sl95, sl96, sl97, sl98, sl99, sl100, sl101, sl102, sl103, sl104, sl105, sl106, sl107, sl108, sl109, sl110, sl111, sl112, sl113, sl114, sl115, sl116, sl117, sl118, sl119, sl120, sl121, sl122, sl123, sl124, sl125, sl126, sl127, sl128, sl129, sl130, sl131, sl132, sl133, sl134, sl135, sl136, sl137, sl138, sl139, sl140, sl141, sl142, sl143, sl144, sl145, sl146, sl147, sl148, sl149, sl150, sl151, sl152, sl153, sl154, sl155, sl156, sl157, sl158, sl159, sl160, sl161, sl162, sl163, sl164, sl165, sl166, sl167, sl168, sl169, sl170, sl171, sl172, sl173, sl174, sl175, sl176, sl177, sl178, sl179, sl180, sl181, sl182, sl183, sl184, sl185, sl186, sl187, sl188, sl189, sl190, sl191, sl192, sl193, sl194, sl195, sl196, sl197, sl198, sl199, sl200, sl201, sl202, sl203, sl204, sl205, sl206, sl207, sl208, sl209, sl210, sl211, sl212, sl213, sl214, sl215, sl216, sl217, sl218, sl219, sl220, sl221, sl222, sl223, sl224, sl225, sl226, sl227], []⟩ wo := by
  subst hcode
  conv => arg 2; whnf
  have hj3 : (j : Int) < 3 := by omega
  have gz : wo.grownBy wo.drew none := grown_dr (grown_refl _)
  refine wp_region_noPanic ?_
  refine wp_region_held_drew (S := (fun w' => wo.grownBy w' none)) (by kernel_rfl) ?_ (fun hHeld => ?_)
  · (try dsimp only); (repeat (first | assumption | exact grown_refl _ | refine grown_dr ?_ | refine grown_dn ?_ | refine grown_al ?_))
  refine wpAnyH_take (i := 0) (oi := _) (v := ?_) rfl (by kernel_rfl) (by kernel_rfl) (by kernel_rfl) (fun _ _ _ h => h) (Or.inl ⟨by rfl, ?_⟩) (by assumption) ?_
  rotate_left 1
  · (intro w hSw; (try dsimp only at hSw); go_simp; first | done | with_reducible rfl)
  try go_simp
  refine wpAnyH_take (i := 1) (oi := _) (v := ?_) rfl (by kernel_rfl) (by kernel_rfl) (by kernel_rfl) (fun _ _ _ h => h) (Or.inl ⟨by rfl, ?_⟩) (by assumption) ?_
  rotate_left 1
  · (intro w hSw; (try dsimp only at hSw); go_simp; first | done | with_reducible rfl)
  try go_simp
  refine wpAnyH_take (i := 2) (oi := _) (v := ?_) rfl (by kernel_rfl) (by kernel_rfl) (by kernel_rfl) (fun _ _ _ h => h) (Or.inl ⟨by rfl, ?_⟩) (by assumption) ?_
  rotate_left 1
  · (intro w hSw; (try dsimp only at hSw); go_simp; first | done | with_reducible rfl)
  try go_simp
  refine wpAnyH_take (i := 3) (oi := _) (v := .slice B1 n1 e1) rfl (by kernel_rfl) (by kernel_rfl) (by kernel_rfl) (fun _ _ _ h => h) (Or.inl ⟨by kernel_rfl, ?_⟩) (by assumption) ?_
  · (intro w hSw; (try dsimp only at hSw); go_simp; have y0 := gcell hSw x1; clear hSw; go_simp; first | done | with_reducible rfl)
  try go_simp
  refine wpAnyH_take (i := 4) (oi := _) (v := ?_) rfl (by kernel_rfl) (by kernel_rfl) (by kernel_rfl) (fun _ _ _ h => h) (Or.inl ⟨by rfl, ?_⟩) (by assumption) ?_
  rotate_left 1
  · (intro w hSw; (try dsimp only at hSw); go_simp; first | done | with_reducible rfl)
  try go_simp
  refine wpAnyH_take (i := 5) (oi := _) (v := ?_) rfl (by kernel_rfl) (by kernel_rfl) (by kernel_rfl) (fun _ _ _ h => h) (Or.inl ⟨by rfl, ?_⟩) (by assumption) ?_
  rotate_left 1
  · (intro w hSw; (try dsimp only at hSw); go_simp; first | done | with_reducible rfl)
  try go_simp
  refine wpAnyH_take (i := 6) (oi := _) (v := ?_) rfl (by kernel_rfl) (by kernel_rfl) (by kernel_rfl) (fun _ _ _ h => h) (Or.inl ⟨by rfl, ?_⟩) (by assumption) ?_
  rotate_left 1
  · (intro w hSw; (try dsimp only at hSw); go_simp; first | done | with_reducible rfl)
  try go_simp
  refine wpAnyH_take (i := 7) (oi := _) (v := .slice B2 n2 e2) rfl (by kernel_rfl) (by kernel_rfl) (by kernel_rfl) (fun _ _ _ h => h) (Or.inl ⟨by kernel_rfl, ?_⟩) (by assumption) ?_
  · (intro w hSw; (try dsimp only at hSw); go_simp; have y0 := gcell hSw x2; clear hSw; go_simp; first | done | with_reducible rfl)
  try go_simp
  refine wpAnyH_ready (rs := [8, 12]) (by kernel_rfl) (by simp) ?_
  refine AllReadyH.cons (o := _) rfl (fun K hK => ?_) ?_
  · clear hHeld
    go_simp
    refine (KM.out _ gz).mono ?_
    rintro e wq1 ⟨rfl, g⟩
    replace gz := gz.trans g
    clear g
    first | (refine hK.out _ _ ?_ (fun hHeld => ?_)) | (go_wp2_with fail; refine hK.out _ _ ?_ (fun hHeld => ?_))
    · (try dsimp only); (repeat (first | assumption | exact grown_refl _ | refine grown_dr ?_ | refine grown_dn ?_ | refine grown_al ?_))
    clear hK K
    refine wpAnyH_take (i := 9) (oi := _) (v := ?_) rfl (by kernel_rfl) (by kernel_rfl) (by kernel_rfl) (fun _ _ _ h => h) (Or.inl ⟨by rfl, ?_⟩) (by assumption) ?_
    rotate_left 1
    · (intro w hSw; (try dsimp only at hSw); go_simp; first | done | with_reducible rfl)
    try go_simp
    refine wpAnyH_take (i := 10) (oi := _) (v := ?_) rfl (by kernel_rfl) (by kernel_rfl) (by kernel_rfl) (fun _ _ _ h => h) (Or.inl ⟨by rfl, ?_⟩) (by assumption) ?_
    rotate_left 1
    · (intro w hSw; (try dsimp only at hSw); go_simp; first | done | with_reducible rfl)
    try go_simp
    refine wpAnyH_take (i := 11) (oi := _) (v := ?_) rfl (by kernel_rfl) (by kernel_rfl) (by kernel_rfl) (fun _ _ _ h => h) (Or.inl ⟨by rfl, ?_⟩) (by assumption) ?_
    rotate_left 1
    · (intro w hSw; (try dsimp only at hSw); go_simp; first | done | with_reducible rfl)
    try go_simp
    refine wpAnyH_ready (rs := [12]) (by kernel_rfl) (by simp) ?_
    refine AllReadyH.cons (o := _) rfl (fun K hK => ?_) ?_
    · clear hHeld
      go_simp
      obtain ⟨wq2, ea, RA, g⟩ := row_of wq1 46 #[.int .i64 0, .int .i64 0]
      have hBRA : wo.heap.size ≤ wq1.heap.size := gz.size
      replace gz := gz.trans g
      clear g
      first | (refine hK.out _ _ ?_ (fun hHeld => ?_)) | (go_wp2_with fail; refine hK.out _ _ ?_ (fun hHeld => ?_))
      · (try dsimp only); (first | rw [← ea] | skip); exact gz
      clear hK K
      rw [← ea]
      clear ea hHeld
      have hHeld := gz
      refine wpAnyH_ready (rs := [13]) (by kernel_rfl) (by simp) ?_
      refine AllReadyH.cons (o := _) rfl (fun K hK => ?_) ?_
      · clear hHeld
        have k0 := RA.c 0 rfl
        have f0 := RA.fz 0
        have k1 := RA.c 1 rfl
        have f1 := RA.fz 1
        have hsz := RA.lt
        have gst := (grown_set (i := 1) (v := .int .i64 md) (grown_set (i := 0) (v := .int .i64 mn) gz (.inl hBRA)) (.inl hBRA))
        have RS := ((RA.set 0 (.int .i64 mn)).set 1 (.int .i64 md))
        go_simp
        first | (refine hK.out _ _ ?_ (fun hHeld => ?_)) | (go_wp2_with fail; refine hK.out _ _ ?_ (fun hHeld => ?_))
        · (try dsimp only); exact gst
        clear hK K
        refine wpAnyH_take (i := 14) (oi := _) (v := ?_) rfl (by kernel_rfl) (by kernel_rfl) (by kernel_rfl) (fun _ _ _ h => h) (Or.inl ⟨by rfl, ?_⟩) (by assumption) ?_
        rotate_left 1
        · (intro w hSw; (try dsimp only at hSw); go_simp; first | done | with_reducible rfl)
        try go_simp
        refine wpAnyH_done (by kernel_rfl) ?_ _
        refine NoPanic.normal ?_
        go_simp
        exact hQ _ _ _ _ _ _ _ _ _ _ _ _ _ _ RS gst
      exact AllReadyH.nil
    exact AllReadyH.nil
  refine AllReadyH.cons (o := _) rfl (fun K hK => ?_) ?_
  · clear hHeld
    go_simp
    obtain ⟨wq1, ea, RA, g⟩ := row_of wo 46 #[.int .i64 0, .int .i64 0]
    have gb : wo.drew.grownBy wq1.drew none := ⟨g.os, g.tape, g.output, g.size, g.block⟩
    have hBRA : wo.heap.size ≤ wo.heap.size := gz.size
    replace RA := RA.kept (grown_dr (grown_refl wq1))
    clear g
    have g := gb
    clear gb
    replace gz := gz.trans g
    clear g
    first | (refine hK.out _ _ ?_ (fun hHeld => ?_)) | (go_wp2_with fail; refine hK.out _ _ ?_ (fun hHeld => ?_))
    · (try dsimp only); (first | rw [← ea] | skip); exact gz
    clear hK K
    rw [← ea]
    clear ea hHeld
    have hHeld := gz
    refine wpAnyH_ready (rs := [8]) (by kernel_rfl) (by simp) ?_
    refine AllReadyH.cons (o := _) rfl (fun K hK => ?_) ?_
    · clear hHeld
      go_simp
      refine (KM.out _ gz).mono ?_
      rintro e wq2 ⟨rfl, g⟩
      replace RA := RA.kept g
      replace gz := gz.trans g
      clear g
      first | (refine hK.out _ _ ?_ (fun hHeld => ?_)) | (go_wp2_with fail; refine hK.out _ _ ?_ (fun hHeld => ?_))
      · (try dsimp only); (repeat (first | assumption | exact grown_refl _ | refine grown_dr ?_ | refine grown_dn ?_ | refine grown_al ?_))
      clear hK K
      refine wpAnyH_take (i := 9) (oi := _) (v := ?_) rfl (by kernel_rfl) (by kernel_rfl) (by kernel_rfl) (fun _ _ _ h => h) (Or.inl ⟨by rfl, ?_⟩) (by assumption) ?_
      rotate_left 1
      · (intro w hSw; (try dsimp only at hSw); go_simp; first | done | with_reducible rfl)
      try go_simp
      refine wpAnyH_take (i := 10) (oi := _) (v := ?_) rfl (by kernel_rfl) (by kernel_rfl) (by kernel_rfl) (fun _ _ _ h => h) (Or.inl ⟨by rfl, ?_⟩) (by assumption) ?_
      rotate_left 1
      · (intro w hSw; (try dsimp only at hSw); go_simp; first | done | with_reducible rfl)
      try go_simp
      refine wpAnyH_take (i := 11) (oi := _) (v := ?_) rfl (by kernel_rfl) (by kernel_rfl) (by kernel_rfl) (fun _ _ _ h => h) (Or.inl ⟨by rfl, ?_⟩) (by assumption) ?_
      rotate_left 1
      · (intro w hSw; (try dsimp only at hSw); go_simp; first | done | with_reducible rfl)
      try go_simp
      refine wpAnyH_ready (rs := [13]) (by kernel_rfl) (by simp) ?_
      refine AllReadyH.cons (o := _) rfl (fun K hK => ?_) ?_
      · clear hHeld
        have k0 := RA.c 0 rfl
        have f0 := RA.fz 0
        have k1 := RA.c 1 rfl
        have f1 := RA.fz 1
        have hsz := RA.lt
        have gst := (grown_set (i := 1) (v := .int .i64 md) (grown_set (i := 0) (v := .int .i64 mn) gz (.inl hBRA)) (.inl hBRA))
        have RS := ((RA.set 0 (.int .i64 mn)).set 1 (.int .i64 md))
        go_simp
        first | (refine hK.out _ _ ?_ (fun hHeld => ?_)) | (go_wp2_with fail; refine hK.out _ _ ?_ (fun hHeld => ?_))
        · (try dsimp only); exact gst
        clear hK K
        refine wpAnyH_take (i := 14) (oi := _) (v := ?_) rfl (by kernel_rfl) (by kernel_rfl) (by kernel_rfl) (fun _ _ _ h => h) (Or.inl ⟨by rfl, ?_⟩) (by assumption) ?_
        rotate_left 1
        · (intro w hSw; (try dsimp only at hSw); go_simp; first | done | with_reducible rfl)
        try go_simp
        refine wpAnyH_done (by kernel_rfl) ?_ _
        refine NoPanic.normal ?_
        go_simp
        exact hQ _ _ _ _ _ _ _ _ _ _ _ _ _ _ RS gst
      exact AllReadyH.nil
    exact AllReadyH.nil
  exact AllReadyH.nil
set_option maxRecDepth 100000 in
set_option maxHeartbeats 4000000 in
theorem rg22 {sl0 sl1 sl2 sl3 sl4 sl5 sl6 sl7 sl8 sl9 sl10 sl15 sl16 sl17 sl18 sl20 sl21 sl22 sl23 sl24 sl25 sl26 sl27 sl28 sl29 sl30 sl31 sl32 sl33 sl34 sl35 sl36 sl37 sl38 sl39 sl40 sl41 sl42 sl43 sl44 sl45 sl46 sl47 sl48 sl49 sl50 sl51 sl52 sl53 sl54 sl55 sl56 sl57 sl58 sl59 sl60 sl61 sl62 sl63 sl64 sl65 sl66 sl67 sl68 sl69 sl70 sl71 sl72 sl73 sl74 sl75 sl76 sl77 sl78 sl79 sl80 sl81 sl82 sl83 sl84 sl85 sl86 sl87 sl88 sl89 sl90 sl91 sl92 sl93 sl94 sl95 sl96 sl97 sl98 sl99 sl100 sl101 sl102 sl103 sl104 sl105 sl106 sl107 sl108 sl109 sl110 sl111 sl112 sl113 sl114 sl115 sl116 sl117 sl118 sl119 sl120 sl121 sl122 sl123 sl124 sl125 sl126 sl127 sl128 sl129 sl130 sl131 sl132 sl133 sl134 sl135 sl136 sl137 sl138 sl139 sl140 sl141 sl142 sl143 sl144 sl145 sl146 sl147 sl148 sl149 sl150 sl151 sl152 sl153 sl154 sl155 sl156 sl157 sl158 sl159 sl160 sl161 sl162 sl163 sl164 sl165 sl166 sl167 sl168 sl169 sl170 sl171 sl172 sl173 sl174 sl175 sl176 sl177 sl178 sl179 sl180 sl181 sl182 sl183 sl184 sl185 sl186 sl187 sl188 sl189 sl190 sl191 sl192 sl193 sl194 sl195 sl196 sl197 sl198 sl199 sl200 sl201 sl202 sl203 sl204 sl205 sl206 sl207 sl208 sl209 sl210 sl211 sl212 sl213 sl214 sl215 sl216 sl217 sl218 sl219 sl220 sl221 sl222 sl223 sl224 sl225 sl226 sl227 : Value} {Q : Exit → Act → World → Prop} {code : Code} (hcode : rg 22 = code) (wr : World) (BL BC BS j q e f : Nat) (hlt : j < 3) (hlq : q < 4) (B1 B2 : Option Addr) (n1 n2 e1 e2 : Nat) (vv ee U U2 U3 U4 X X2 X3 : Int)
    (c0 : wr.cell? ⟨BC, e * 4, none⟩ = some (.int .i64 U)) (c1 : wr.cell? ⟨BC, e * 4 + 1, none⟩ = some (.int .i64 U2)) (c2 : wr.cell? ⟨BC, e * 4 + 2, none⟩ = some (.int .i64 U3)) (c3 : wr.cell? ⟨BC, e * 4 + 3, none⟩ = some (.int .i64 U4))
    (s0 : wr.cell? ⟨BS, f * 3, none⟩ = some (.int .i64 X)) (s1 : wr.cell? ⟨BS, f * 3 + 1, none⟩ = some (.int .i64 X2)) (s2 : wr.cell? ⟨BS, f * 3 + 2, none⟩ = some (.int .i64 X3))
    (z1 : wr.cell? ⟨BL, j * 2, none⟩ = some (.slice B1 n1 e1)) (z2 : wr.cell? ⟨BL, j * 2 + 1, none⟩ = some (.slice B2 n2 e2))
    (k1 : (q : Int).tmod 2 = (e : Int)) (k2 : (q : Int) / 2 = (f : Int)) (eb : (e : Int) < 2) (fb : (f : Int) < 2) (hwf : IntKind.i64.wrap (f : Int) = (f : Int))
    (KK : Hid (∀ (V : World), wr.grownBy V none → Calls Try.prog 27 #[.agg #[.int .i64 U, .int .i64 U2, .int .i64 U3, .int .i64 U4], .agg #[.int .i64 X, .int .i64 X2, .int .i64 X3], .slice B1 n1 e1, .slice B2 n2 e2] V fun e w' => e = .returned (.tuple #[.int .i64 vv, .int .i64 ee]) ∧ V.grownBy w' none))
    (hQ : ∀ (tl143 tl144 tl145 tl146 tl147 tl148 tl149 tl150 tl151 tl152 tl153 tl154 tl155 tl156 tl157 tl158 tl159 tl142 tl160 tl161 : Value)  (wx : World), wr.grownBy wx none → Q .normal ⟨#[sl0, sl1, sl2, sl3, sl4, sl5, sl6, sl7, sl8, sl9, sl10, .pointer (some ⟨BL, 0, none⟩), .pointer (some ⟨BC, 0, none⟩), .pointer (some ⟨BS, 0, none⟩), .int .i64 (j : Int), sl15, sl16, sl17, sl18, .int .i64 (q : Int), .int .i64 vv, .int .i64 ee, sl22, sl23, sl24, sl25, sl26, sl27, sl28, sl29, sl30, sl31, sl32, sl33, sl34, sl35, sl36, sl37, sl38, sl39, sl40, sl41, sl42, sl43, sl44, sl45, sl46, sl47, sl48, sl49, sl50, sl51, sl52, sl53, sl54, sl55, sl56, sl57, sl58, sl59, sl60, sl61, sl62, sl63, sl64, sl65, sl66, sl67, sl68, sl69, sl70, sl71, sl72, sl73, sl74, sl75, sl76, sl77, sl78, sl79, sl80, sl81, sl82, sl83, sl84, sl85, sl86, sl87, sl88, sl89, sl90, sl91, sl92, sl93, sl94, sl95, sl96, sl97, sl98, sl99, sl100, sl101, sl102, sl103, sl104, sl105, sl106, sl107, sl108, sl109, sl110, sl111, sl112, sl113, sl114, sl115, sl116, sl117, sl118, sl119, sl120, sl121, sl122, sl123, sl124, sl125, sl126, sl127, sl128, sl129, sl130, sl131, sl132, sl133, sl134, sl135, sl136, sl137, sl138, sl139, sl140, sl141, tl142, tl143, tl144, tl145, tl146, tl147, tl148, tl149, tl150, tl151, tl152, tl153, tl154, tl155, tl156, tl157, tl158, tl159, tl160, tl161, sl162, sl163, sl164, sl165, sl166, sl167, sl168, sl169, sl170, sl171, sl172, sl173, sl174, sl175, sl176, sl177, sl178, sl179, sl180, sl181, sl182, sl183, sl184, sl185, sl186, sl187, sl188, sl189, sl190, sl191, sl192, sl193, sl194, sl195, sl196, sl197, sl198, sl199, sl200, sl201, sl202, sl203, sl204, sl205, sl206, sl207, sl208, sl209, sl210, sl211, sl212, sl213, sl214, sl215, sl216, sl217, sl218, sl219, sl220, sl221, sl222, sl223, sl224, sl225, sl226, sl227], []⟩ wx) :
    Code.wp Try.prog code Q ⟨#[sl0, sl1, sl2, sl3, sl4, sl5, sl6, sl7, sl8, sl9, sl10, .pointer (some ⟨BL, 0, none⟩), .pointer (some ⟨BC, 0, none⟩), .pointer (some ⟨BS, 0, none⟩), .int .i64 (j : Int), sl15, sl16, sl17, sl18, .int .i64 (q : Int), sl20, sl21, sl22, sl23, sl24, sl25, sl26, sl27, sl28, sl29, sl30, sl31, sl32, sl33, sl34, sl35, sl36, sl37, sl38, sl39, sl40, sl41, sl42, sl43, sl44, sl45, sl46, sl47, sl48, sl49, sl50, sl51, sl52, sl53, sl54, sl55, sl56, sl57, sl58, sl59, sl60, sl61, sl62, sl63, sl64, sl65, sl66, sl67, sl68, sl69, sl70, sl71, sl72, sl73, sl74, sl75, sl76, sl77, sl78, sl79, sl80, sl81, sl82, sl83, sl84, sl85, sl86, sl87, sl88, sl89, sl90, sl91, sl92, sl93, sl94, sl95, sl96, sl97, sl98, sl99, sl100, sl101, sl102, sl103, sl104, sl105, sl106, sl107, sl108, sl109, sl110, sl111, sl112, sl113, sl114, sl115, sl116, sl117, sl118, sl119, sl120, sl121, sl122, sl123, sl124, sl125, sl126, sl127, sl128, sl129, sl130, sl131, sl132, sl133, sl134, sl135, sl136, sl137, sl138, sl139, sl140, sl141, sl142, sl143, sl144, sl145, sl146, sl147, sl148, sl149, sl150, sl151, sl152, sl153, sl154, sl155, sl156, sl157, sl158, sl159, sl160, sl161, sl162, sl163, sl164, sl165, sl166, sl167, sl168, sl169, sl170, sl171, sl172, sl173, sl174, sl175, sl176, sl177, sl178, sl179, sl180, sl181, sl182, sl183, sl184, sl185, sl186, sl187, sl188, sl189, sl190, sl191, sl192, sl193, sl194, sl195, sl196, sl197, sl198, sl199, sl200, sl201, sl202, sl203, sl204, sl205, sl206, sl207, sl208, sl209, sl210, sl211, sl212, sl213, sl214, sl215, sl216, sl217, sl218, sl219, sl220, sl221, sl222, sl223, sl224, sl225, sl226, sl227], []⟩ wr := by
  subst hcode
  conv => arg 2; whnf
  have hj3 : (j : Int) < 3 := by omega
  have hq4 : (q : Int) < 4 := by omega
  have gz : wr.grownBy wr.drew none := grown_dr (grown_refl _)
  refine wp_region_noPanic ?_
  refine wp_region_held_drew (S := (fun w' => wr.grownBy w' none)) (by kernel_rfl) ?_ (fun hHeld => ?_)
  · (try dsimp only); (repeat (first | assumption | exact grown_refl _ | refine grown_dr ?_ | refine grown_dn ?_ | refine grown_al ?_))
  refine wpAnyH_take (i := 0) (oi := _) (v := ?_) rfl (by kernel_rfl) (by kernel_rfl) (by kernel_rfl) (fun _ _ _ h => h) (Or.inl ⟨by rfl, ?_⟩) (by assumption) ?_
  rotate_left 1
  · (intro w hSw; (try dsimp only at hSw); go_simp; first | done | with_reducible rfl)
  try go_simp
  refine wpAnyH_take (i := 1) (oi := _) (v := .int .i64 (e : Int)) rfl (by kernel_rfl) (by kernel_rfl) (by kernel_rfl) (fun _ _ _ h => h) (Or.inl ⟨by kernel_rfl, ?_⟩) (by assumption) ?_
  · (intro w hSw; (try dsimp only at hSw); go_simp; first | done | with_reducible rfl)
  try go_simp
  refine wpAnyH_take (i := 2) (oi := _) (v := ?_) rfl (by kernel_rfl) (by kernel_rfl) (by kernel_rfl) (fun _ _ _ h => h) (Or.inl ⟨by rfl, ?_⟩) (by assumption) ?_
  rotate_left 1
  · (intro w hSw; (try dsimp only at hSw); go_simp; first | done | with_reducible rfl)
  try go_simp
  refine wpAnyH_take (i := 3) (oi := _) (v := .agg #[.int .i64 U, .int .i64 U2, .int .i64 U3, .int .i64 U4]) rfl (by kernel_rfl) (by kernel_rfl) (by kernel_rfl) (fun _ _ _ h => h) (Or.inl ⟨by kernel_rfl, ?_⟩) (by assumption) ?_
  · (intro w hSw; (try dsimp only at hSw); go_simp; have y0 := gcell hSw c0; have y1 := gcell hSw c1; have y2 := gcell hSw c2; have y3 := gcell hSw c3; clear hSw; go_simp; first | done | with_reducible rfl)
  try go_simp
  refine wpAnyH_take (i := 4) (oi := _) (v := ?_) rfl (by kernel_rfl) (by kernel_rfl) (by kernel_rfl) (fun _ _ _ h => h) (Or.inl ⟨by rfl, ?_⟩) (by assumption) ?_
  rotate_left 1
  · (intro w hSw; (try dsimp only at hSw); go_simp; first | done | with_reducible rfl)
  try go_simp
  refine wpAnyH_take (i := 5) (oi := _) (v := .int .i64 (f : Int)) rfl (by kernel_rfl) (by kernel_rfl) (by kernel_rfl) (fun _ _ _ h => h) (Or.inl ⟨by kernel_rfl, ?_⟩) (by assumption) ?_
  · (intro w hSw; (try dsimp only at hSw); go_simp; first | done | with_reducible rfl)
  try go_simp
  refine wpAnyH_take (i := 6) (oi := _) (v := ?_) rfl (by kernel_rfl) (by kernel_rfl) (by kernel_rfl) (fun _ _ _ h => h) (Or.inl ⟨by rfl, ?_⟩) (by assumption) ?_
  rotate_left 1
  · (intro w hSw; (try dsimp only at hSw); go_simp; first | done | with_reducible rfl)
  try go_simp
  refine wpAnyH_take (i := 7) (oi := _) (v := .agg #[.int .i64 X, .int .i64 X2, .int .i64 X3]) rfl (by kernel_rfl) (by kernel_rfl) (by kernel_rfl) (fun _ _ _ h => h) (Or.inl ⟨by kernel_rfl, ?_⟩) (by assumption) ?_
  · (intro w hSw; (try dsimp only at hSw); go_simp; have y0 := gcell hSw s0; have y1 := gcell hSw s1; have y2 := gcell hSw s2; clear hSw; go_simp; first | done | with_reducible rfl)
  try go_simp
  refine wpAnyH_take (i := 8) (oi := _) (v := ?_) rfl (by kernel_rfl) (by kernel_rfl) (by kernel_rfl) (fun _ _ _ h => h) (Or.inl ⟨by rfl, ?_⟩) (by assumption) ?_
  rotate_left 1
  · (intro w hSw; (try dsimp only at hSw); go_simp; first | done | with_reducible rfl)
  try go_simp
  refine wpAnyH_take (i := 9) (oi := _) (v := ?_) rfl (by kernel_rfl) (by kernel_rfl) (by kernel_rfl) (fun _ _ _ h => h) (Or.inl ⟨by rfl, ?_⟩) (by assumption) ?_
  rotate_left 1
  · (intro w hSw; (try dsimp only at hSw); go_simp; first | done | with_reducible rfl)
  try go_simp
  refine wpAnyH_take (i := 10) (oi := _) (v := ?_) rfl (by kernel_rfl) (by kernel_rfl) (by kernel_rfl) (fun _ _ _ h => h) (Or.inl ⟨by rfl, ?_⟩) (by assumption) ?_
  rotate_left 1
  · (intro w hSw; (try dsimp only at hSw); go_simp; first | done | with_reducible rfl)
  try go_simp
  refine wpAnyH_take (i := 11) (oi := _) (v := .slice B1 n1 e1) rfl (by kernel_rfl) (by kernel_rfl) (by kernel_rfl) (fun _ _ _ h => h) (Or.inl ⟨by kernel_rfl, ?_⟩) (by assumption) ?_
  · (intro w hSw; (try dsimp only at hSw); go_simp; have y0 := gcell hSw z1; clear hSw; go_simp; first | done | with_reducible rfl)
  try go_simp
  refine wpAnyH_take (i := 12) (oi := _) (v := ?_) rfl (by kernel_rfl) (by kernel_rfl) (by kernel_rfl) (fun _ _ _ h => h) (Or.inl ⟨by rfl, ?_⟩) (by assumption) ?_
  rotate_left 1
  · (intro w hSw; (try dsimp only at hSw); go_simp; first | done | with_reducible rfl)
  try go_simp
  refine wpAnyH_take (i := 13) (oi := _) (v := ?_) rfl (by kernel_rfl) (by kernel_rfl) (by kernel_rfl) (fun _ _ _ h => h) (Or.inl ⟨by rfl, ?_⟩) (by assumption) ?_
  rotate_left 1
  · (intro w hSw; (try dsimp only at hSw); go_simp; first | done | with_reducible rfl)
  try go_simp
  refine wpAnyH_take (i := 14) (oi := _) (v := ?_) rfl (by kernel_rfl) (by kernel_rfl) (by kernel_rfl) (fun _ _ _ h => h) (Or.inl ⟨by rfl, ?_⟩) (by assumption) ?_
  rotate_left 1
  · (intro w hSw; (try dsimp only at hSw); go_simp; first | done | with_reducible rfl)
  try go_simp
  refine wpAnyH_take (i := 15) (oi := _) (v := .slice B2 n2 e2) rfl (by kernel_rfl) (by kernel_rfl) (by kernel_rfl) (fun _ _ _ h => h) (Or.inl ⟨by kernel_rfl, ?_⟩) (by assumption) ?_
  · (intro w hSw; (try dsimp only at hSw); go_simp; have y0 := gcell hSw z2; clear hSw; go_simp; first | done | with_reducible rfl)
  try go_simp
  refine wpAnyH_ready (rs := [16]) (by kernel_rfl) (by simp) ?_
  refine AllReadyH.cons (o := _) rfl (fun K hK => ?_) ?_
  · clear hHeld
    go_simp
    refine (KK.out _ gz).mono ?_
    rintro e wq1 ⟨rfl, g⟩
    replace gz := gz.trans g
    clear g
    first | (refine hK.out _ _ ?_ (fun hHeld => ?_)) | (go_wp2_with fail; refine hK.out _ _ ?_ (fun hHeld => ?_))
    · (try dsimp only); (repeat (first | assumption | exact grown_refl _ | refine grown_dr ?_ | refine grown_dn ?_ | refine grown_al ?_))
    clear hK K
    refine wpAnyH_take (i := 17) (oi := _) (v := ?_) rfl (by kernel_rfl) (by kernel_rfl) (by kernel_rfl) (fun _ _ _ h => h) (Or.inl ⟨by rfl, ?_⟩) (by assumption) ?_
    rotate_left 1
    · (intro w hSw; (try dsimp only at hSw); go_simp; first | done | with_reducible rfl)
    try go_simp
    refine wpAnyH_take (i := 18) (oi := _) (v := ?_) rfl (by kernel_rfl) (by kernel_rfl) (by kernel_rfl) (fun _ _ _ h => h) (Or.inl ⟨by rfl, ?_⟩) (by assumption) ?_
    rotate_left 1
    · (intro w hSw; (try dsimp only at hSw); go_simp; first | done | with_reducible rfl)
    try go_simp
    refine wpAnyH_take (i := 19) (oi := _) (v := ?_) rfl (by kernel_rfl) (by kernel_rfl) (by kernel_rfl) (fun _ _ _ h => h) (Or.inl ⟨by rfl, ?_⟩) (by assumption) ?_
    rotate_left 1
    · (intro w hSw; (try dsimp only at hSw); go_simp; first | done | with_reducible rfl)
    try go_simp
    refine wpAnyH_take (i := 20) (oi := _) (v := ?_) rfl (by kernel_rfl) (by kernel_rfl) (by kernel_rfl) (fun _ _ _ h => h) (Or.inl ⟨by rfl, ?_⟩) (by assumption) ?_
    rotate_left 1
    · (intro w hSw; (try dsimp only at hSw); go_simp; first | done | with_reducible rfl)
    try go_simp
    refine wpAnyH_take (i := 21) (oi := _) (v := ?_) rfl (by kernel_rfl) (by kernel_rfl) (by kernel_rfl) (fun _ _ _ h => h) (Or.inl ⟨by rfl, ?_⟩) (by assumption) ?_
    rotate_left 1
    · (intro w hSw; (try dsimp only at hSw); go_simp; first | done | with_reducible rfl)
    try go_simp
    refine wpAnyH_done (by kernel_rfl) ?_ _
    refine NoPanic.normal ?_
    go_simp
    exact hQ _ _ _ _ _ _ _ _ _ _ _ _ _ _ _ _ _ _ _ _ _ gz
  exact AllReadyH.nil
set_option maxRecDepth 100000 in
set_option maxHeartbeats 4000000 in
theorem rg23 {sl0 sl1 sl2 sl3 sl4 sl5 sl6 sl7 sl8 sl9 sl10 sl15 sl16 sl17 sl18 sl20 sl21 sl22 sl23 sl24 sl25 sl26 sl27 sl28 sl29 sl30 sl31 sl32 sl33 sl34 sl35 sl36 sl37 sl38 sl39 sl40 sl41 sl42 sl43 sl44 sl45 sl46 sl47 sl48 sl49 sl50 sl51 sl52 sl53 sl54 sl55 sl56 sl57 sl58 sl59 sl60 sl61 sl62 sl63 sl64 sl65 sl66 sl67 sl68 sl69 sl70 sl71 sl72 sl73 sl74 sl75 sl76 sl77 sl78 sl79 sl80 sl81 sl82 sl83 sl84 sl85 sl86 sl87 sl88 sl89 sl90 sl91 sl92 sl93 sl94 sl95 sl96 sl97 sl98 sl99 sl100 sl101 sl102 sl103 sl104 sl105 sl106 sl107 sl108 sl109 sl110 sl111 sl112 sl113 sl114 sl115 sl116 sl117 sl118 sl119 sl120 sl121 sl122 sl123 sl124 sl125 sl126 sl127 sl128 sl129 sl130 sl131 sl132 sl133 sl134 sl135 sl136 sl137 sl138 sl139 sl140 sl141 sl142 sl143 sl144 sl145 sl146 sl147 sl148 sl149 sl150 sl151 sl152 sl153 sl154 sl155 sl156 sl157 sl158 sl159 sl160 sl161 sl162 sl163 sl164 sl165 sl166 sl167 sl168 sl169 sl170 sl171 sl172 sl173 sl174 sl175 sl176 sl177 sl178 sl179 sl180 sl181 sl182 sl183 sl184 sl185 sl186 sl187 sl188 sl189 sl190 sl191 sl192 sl193 sl194 sl195 sl196 sl197 sl198 sl199 sl200 sl201 sl202 sl203 sl204 sl205 sl206 sl207 sl208 sl209 sl210 sl211 sl212 sl213 sl214 sl215 sl216 sl217 sl218 sl219 sl220 sl221 sl222 sl223 sl224 sl225 sl226 sl227 : Value} {Q : Exit → Act → World → Prop} {code : Code} (hcode : rg 23 = code) (wr : World) (BL BC BS j q e f : Nat) (hlt : j < 3) (hlq : q < 4) (B1 B2 : Option Addr) (n1 n2 e1 e2 : Nat) (vv ee U U2 U3 U4 X X2 X3 : Int)
    (c0 : wr.cell? ⟨BC, e * 4, none⟩ = some (.int .i64 U)) (c1 : wr.cell? ⟨BC, e * 4 + 1, none⟩ = some (.int .i64 U2)) (c2 : wr.cell? ⟨BC, e * 4 + 2, none⟩ = some (.int .i64 U3)) (c3 : wr.cell? ⟨BC, e * 4 + 3, none⟩ = some (.int .i64 U4))
    (s0 : wr.cell? ⟨BS, f * 3, none⟩ = some (.int .i64 X)) (s1 : wr.cell? ⟨BS, f * 3 + 1, none⟩ = some (.int .i64 X2)) (s2 : wr.cell? ⟨BS, f * 3 + 2, none⟩ = some (.int .i64 X3))
    (z1 : wr.cell? ⟨BL, j * 2, none⟩ = some (.slice B1 n1 e1)) (z2 : wr.cell? ⟨BL, j * 2 + 1, none⟩ = some (.slice B2 n2 e2))
    (k1 : (q : Int).tmod 2 = (e : Int)) (k2 : (q : Int) / 2 = (f : Int)) (eb : (e : Int) < 2) (fb : (f : Int) < 2) (hwf : IntKind.i64.wrap (f : Int) = (f : Int))
    (KK : Hid (∀ (V : World), wr.grownBy V none → Calls Try.prog 28 #[.agg #[.int .i64 U, .int .i64 U2, .int .i64 U3, .int .i64 U4], .agg #[.int .i64 X, .int .i64 X2, .int .i64 X3], .slice B1 n1 e1, .slice B2 n2 e2] V fun e w' => e = .returned (.tuple #[.int .i64 vv, .int .i64 ee]) ∧ V.grownBy w' none))
    (hQ : ∀ (tl163 tl164 tl165 tl166 tl167 tl168 tl169 tl170 tl171 tl172 tl173 tl174 tl175 tl176 tl177 tl178 tl179 tl162 tl180 tl181 : Value)  (wx : World), wr.grownBy wx none → Q .normal ⟨#[sl0, sl1, sl2, sl3, sl4, sl5, sl6, sl7, sl8, sl9, sl10, .pointer (some ⟨BL, 0, none⟩), .pointer (some ⟨BC, 0, none⟩), .pointer (some ⟨BS, 0, none⟩), .int .i64 (j : Int), sl15, sl16, sl17, sl18, .int .i64 (q : Int), sl20, sl21, .int .i64 vv, .int .i64 ee, sl24, sl25, sl26, sl27, sl28, sl29, sl30, sl31, sl32, sl33, sl34, sl35, sl36, sl37, sl38, sl39, sl40, sl41, sl42, sl43, sl44, sl45, sl46, sl47, sl48, sl49, sl50, sl51, sl52, sl53, sl54, sl55, sl56, sl57, sl58, sl59, sl60, sl61, sl62, sl63, sl64, sl65, sl66, sl67, sl68, sl69, sl70, sl71, sl72, sl73, sl74, sl75, sl76, sl77, sl78, sl79, sl80, sl81, sl82, sl83, sl84, sl85, sl86, sl87, sl88, sl89, sl90, sl91, sl92, sl93, sl94, sl95, sl96, sl97, sl98, sl99, sl100, sl101, sl102, sl103, sl104, sl105, sl106, sl107, sl108, sl109, sl110, sl111, sl112, sl113, sl114, sl115, sl116, sl117, sl118, sl119, sl120, sl121, sl122, sl123, sl124, sl125, sl126, sl127, sl128, sl129, sl130, sl131, sl132, sl133, sl134, sl135, sl136, sl137, sl138, sl139, sl140, sl141, sl142, sl143, sl144, sl145, sl146, sl147, sl148, sl149, sl150, sl151, sl152, sl153, sl154, sl155, sl156, sl157, sl158, sl159, sl160, sl161, tl162, tl163, tl164, tl165, tl166, tl167, tl168, tl169, tl170, tl171, tl172, tl173, tl174, tl175, tl176, tl177, tl178, tl179, tl180, tl181, sl182, sl183, sl184, sl185, sl186, sl187, sl188, sl189, sl190, sl191, sl192, sl193, sl194, sl195, sl196, sl197, sl198, sl199, sl200, sl201, sl202, sl203, sl204, sl205, sl206, sl207, sl208, sl209, sl210, sl211, sl212, sl213, sl214, sl215, sl216, sl217, sl218, sl219, sl220, sl221, sl222, sl223, sl224, sl225, sl226, sl227], []⟩ wx) :
    Code.wp Try.prog code Q ⟨#[sl0, sl1, sl2, sl3, sl4, sl5, sl6, sl7, sl8, sl9, sl10, .pointer (some ⟨BL, 0, none⟩), .pointer (some ⟨BC, 0, none⟩), .pointer (some ⟨BS, 0, none⟩), .int .i64 (j : Int), sl15, sl16, sl17, sl18, .int .i64 (q : Int), sl20, sl21, sl22, sl23, sl24, sl25, sl26, sl27, sl28, sl29, sl30, sl31, sl32, sl33, sl34, sl35, sl36, sl37, sl38, sl39, sl40, sl41, sl42, sl43, sl44, sl45, sl46, sl47, sl48, sl49, sl50, sl51, sl52, sl53, sl54, sl55, sl56, sl57, sl58, sl59, sl60, sl61, sl62, sl63, sl64, sl65, sl66, sl67, sl68, sl69, sl70, sl71, sl72, sl73, sl74, sl75, sl76, sl77, sl78, sl79, sl80, sl81, sl82, sl83, sl84, sl85, sl86, sl87, sl88, sl89, sl90, sl91, sl92, sl93, sl94, sl95, sl96, sl97, sl98, sl99, sl100, sl101, sl102, sl103, sl104, sl105, sl106, sl107, sl108, sl109, sl110, sl111, sl112, sl113, sl114, sl115, sl116, sl117, sl118, sl119, sl120, sl121, sl122, sl123, sl124, sl125, sl126, sl127, sl128, sl129, sl130, sl131, sl132, sl133, sl134, sl135, sl136, sl137, sl138, sl139, sl140, sl141, sl142, sl143, sl144, sl145, sl146, sl147, sl148, sl149, sl150, sl151, sl152, sl153, sl154, sl155, sl156, sl157, sl158, sl159, sl160, sl161, sl162, sl163, sl164, sl165, sl166, sl167, sl168, sl169, sl170, sl171, sl172, sl173, sl174, sl175, sl176, sl177, sl178, sl179, sl180, sl181, sl182, sl183, sl184, sl185, sl186, sl187, sl188, sl189, sl190, sl191, sl192, sl193, sl194, sl195, sl196, sl197, sl198, sl199, sl200, sl201, sl202, sl203, sl204, sl205, sl206, sl207, sl208, sl209, sl210, sl211, sl212, sl213, sl214, sl215, sl216, sl217, sl218, sl219, sl220, sl221, sl222, sl223, sl224, sl225, sl226, sl227], []⟩ wr := by
  subst hcode
  conv => arg 2; whnf
  have hj3 : (j : Int) < 3 := by omega
  have hq4 : (q : Int) < 4 := by omega
  have gz : wr.grownBy wr.drew none := grown_dr (grown_refl _)
  refine wp_region_noPanic ?_
  refine wp_region_held_drew (S := (fun w' => wr.grownBy w' none)) (by kernel_rfl) ?_ (fun hHeld => ?_)
  · (try dsimp only); (repeat (first | assumption | exact grown_refl _ | refine grown_dr ?_ | refine grown_dn ?_ | refine grown_al ?_))
  refine wpAnyH_take (i := 0) (oi := _) (v := ?_) rfl (by kernel_rfl) (by kernel_rfl) (by kernel_rfl) (fun _ _ _ h => h) (Or.inl ⟨by rfl, ?_⟩) (by assumption) ?_
  rotate_left 1
  · (intro w hSw; (try dsimp only at hSw); go_simp; first | done | with_reducible rfl)
  try go_simp
  refine wpAnyH_take (i := 1) (oi := _) (v := .int .i64 (e : Int)) rfl (by kernel_rfl) (by kernel_rfl) (by kernel_rfl) (fun _ _ _ h => h) (Or.inl ⟨by kernel_rfl, ?_⟩) (by assumption) ?_
  · (intro w hSw; (try dsimp only at hSw); go_simp; first | done | with_reducible rfl)
  try go_simp
  refine wpAnyH_take (i := 2) (oi := _) (v := ?_) rfl (by kernel_rfl) (by kernel_rfl) (by kernel_rfl) (fun _ _ _ h => h) (Or.inl ⟨by rfl, ?_⟩) (by assumption) ?_
  rotate_left 1
  · (intro w hSw; (try dsimp only at hSw); go_simp; first | done | with_reducible rfl)
  try go_simp
  refine wpAnyH_take (i := 3) (oi := _) (v := .agg #[.int .i64 U, .int .i64 U2, .int .i64 U3, .int .i64 U4]) rfl (by kernel_rfl) (by kernel_rfl) (by kernel_rfl) (fun _ _ _ h => h) (Or.inl ⟨by kernel_rfl, ?_⟩) (by assumption) ?_
  · (intro w hSw; (try dsimp only at hSw); go_simp; have y0 := gcell hSw c0; have y1 := gcell hSw c1; have y2 := gcell hSw c2; have y3 := gcell hSw c3; clear hSw; go_simp; first | done | with_reducible rfl)
  try go_simp
  refine wpAnyH_take (i := 4) (oi := _) (v := ?_) rfl (by kernel_rfl) (by kernel_rfl) (by kernel_rfl) (fun _ _ _ h => h) (Or.inl ⟨by rfl, ?_⟩) (by assumption) ?_
  rotate_left 1
  · (intro w hSw; (try dsimp only at hSw); go_simp; first | done | with_reducible rfl)
  try go_simp
  refine wpAnyH_take (i := 5) (oi := _) (v := .int .i64 (f : Int)) rfl (by kernel_rfl) (by kernel_rfl) (by kernel_rfl) (fun _ _ _ h => h) (Or.inl ⟨by kernel_rfl, ?_⟩) (by assumption) ?_
  · (intro w hSw; (try dsimp only at hSw); go_simp; first | done | with_reducible rfl)
  try go_simp
  refine wpAnyH_take (i := 6) (oi := _) (v := ?_) rfl (by kernel_rfl) (by kernel_rfl) (by kernel_rfl) (fun _ _ _ h => h) (Or.inl ⟨by rfl, ?_⟩) (by assumption) ?_
  rotate_left 1
  · (intro w hSw; (try dsimp only at hSw); go_simp; first | done | with_reducible rfl)
  try go_simp
  refine wpAnyH_take (i := 7) (oi := _) (v := .agg #[.int .i64 X, .int .i64 X2, .int .i64 X3]) rfl (by kernel_rfl) (by kernel_rfl) (by kernel_rfl) (fun _ _ _ h => h) (Or.inl ⟨by kernel_rfl, ?_⟩) (by assumption) ?_
  · (intro w hSw; (try dsimp only at hSw); go_simp; have y0 := gcell hSw s0; have y1 := gcell hSw s1; have y2 := gcell hSw s2; clear hSw; go_simp; first | done | with_reducible rfl)
  try go_simp
  refine wpAnyH_take (i := 8) (oi := _) (v := ?_) rfl (by kernel_rfl) (by kernel_rfl) (by kernel_rfl) (fun _ _ _ h => h) (Or.inl ⟨by rfl, ?_⟩) (by assumption) ?_
  rotate_left 1
  · (intro w hSw; (try dsimp only at hSw); go_simp; first | done | with_reducible rfl)
  try go_simp
  refine wpAnyH_take (i := 9) (oi := _) (v := ?_) rfl (by kernel_rfl) (by kernel_rfl) (by kernel_rfl) (fun _ _ _ h => h) (Or.inl ⟨by rfl, ?_⟩) (by assumption) ?_
  rotate_left 1
  · (intro w hSw; (try dsimp only at hSw); go_simp; first | done | with_reducible rfl)
  try go_simp
  refine wpAnyH_take (i := 10) (oi := _) (v := ?_) rfl (by kernel_rfl) (by kernel_rfl) (by kernel_rfl) (fun _ _ _ h => h) (Or.inl ⟨by rfl, ?_⟩) (by assumption) ?_
  rotate_left 1
  · (intro w hSw; (try dsimp only at hSw); go_simp; first | done | with_reducible rfl)
  try go_simp
  refine wpAnyH_take (i := 11) (oi := _) (v := .slice B1 n1 e1) rfl (by kernel_rfl) (by kernel_rfl) (by kernel_rfl) (fun _ _ _ h => h) (Or.inl ⟨by kernel_rfl, ?_⟩) (by assumption) ?_
  · (intro w hSw; (try dsimp only at hSw); go_simp; have y0 := gcell hSw z1; clear hSw; go_simp; first | done | with_reducible rfl)
  try go_simp
  refine wpAnyH_take (i := 12) (oi := _) (v := ?_) rfl (by kernel_rfl) (by kernel_rfl) (by kernel_rfl) (fun _ _ _ h => h) (Or.inl ⟨by rfl, ?_⟩) (by assumption) ?_
  rotate_left 1
  · (intro w hSw; (try dsimp only at hSw); go_simp; first | done | with_reducible rfl)
  try go_simp
  refine wpAnyH_take (i := 13) (oi := _) (v := ?_) rfl (by kernel_rfl) (by kernel_rfl) (by kernel_rfl) (fun _ _ _ h => h) (Or.inl ⟨by rfl, ?_⟩) (by assumption) ?_
  rotate_left 1
  · (intro w hSw; (try dsimp only at hSw); go_simp; first | done | with_reducible rfl)
  try go_simp
  refine wpAnyH_take (i := 14) (oi := _) (v := ?_) rfl (by kernel_rfl) (by kernel_rfl) (by kernel_rfl) (fun _ _ _ h => h) (Or.inl ⟨by rfl, ?_⟩) (by assumption) ?_
  rotate_left 1
  · (intro w hSw; (try dsimp only at hSw); go_simp; first | done | with_reducible rfl)
  try go_simp
  refine wpAnyH_take (i := 15) (oi := _) (v := .slice B2 n2 e2) rfl (by kernel_rfl) (by kernel_rfl) (by kernel_rfl) (fun _ _ _ h => h) (Or.inl ⟨by kernel_rfl, ?_⟩) (by assumption) ?_
  · (intro w hSw; (try dsimp only at hSw); go_simp; have y0 := gcell hSw z2; clear hSw; go_simp; first | done | with_reducible rfl)
  try go_simp
  refine wpAnyH_ready (rs := [16]) (by kernel_rfl) (by simp) ?_
  refine AllReadyH.cons (o := _) rfl (fun K hK => ?_) ?_
  · clear hHeld
    go_simp
    refine (KK.out _ gz).mono ?_
    rintro e wq1 ⟨rfl, g⟩
    replace gz := gz.trans g
    clear g
    first | (refine hK.out _ _ ?_ (fun hHeld => ?_)) | (go_wp2_with fail; refine hK.out _ _ ?_ (fun hHeld => ?_))
    · (try dsimp only); (repeat (first | assumption | exact grown_refl _ | refine grown_dr ?_ | refine grown_dn ?_ | refine grown_al ?_))
    clear hK K
    refine wpAnyH_take (i := 17) (oi := _) (v := ?_) rfl (by kernel_rfl) (by kernel_rfl) (by kernel_rfl) (fun _ _ _ h => h) (Or.inl ⟨by rfl, ?_⟩) (by assumption) ?_
    rotate_left 1
    · (intro w hSw; (try dsimp only at hSw); go_simp; first | done | with_reducible rfl)
    try go_simp
    refine wpAnyH_take (i := 18) (oi := _) (v := ?_) rfl (by kernel_rfl) (by kernel_rfl) (by kernel_rfl) (fun _ _ _ h => h) (Or.inl ⟨by rfl, ?_⟩) (by assumption) ?_
    rotate_left 1
    · (intro w hSw; (try dsimp only at hSw); go_simp; first | done | with_reducible rfl)
    try go_simp
    refine wpAnyH_take (i := 19) (oi := _) (v := ?_) rfl (by kernel_rfl) (by kernel_rfl) (by kernel_rfl) (fun _ _ _ h => h) (Or.inl ⟨by rfl, ?_⟩) (by assumption) ?_
    rotate_left 1
    · (intro w hSw; (try dsimp only at hSw); go_simp; first | done | with_reducible rfl)
    try go_simp
    refine wpAnyH_take (i := 20) (oi := _) (v := ?_) rfl (by kernel_rfl) (by kernel_rfl) (by kernel_rfl) (fun _ _ _ h => h) (Or.inl ⟨by rfl, ?_⟩) (by assumption) ?_
    rotate_left 1
    · (intro w hSw; (try dsimp only at hSw); go_simp; first | done | with_reducible rfl)
    try go_simp
    refine wpAnyH_take (i := 21) (oi := _) (v := ?_) rfl (by kernel_rfl) (by kernel_rfl) (by kernel_rfl) (fun _ _ _ h => h) (Or.inl ⟨by rfl, ?_⟩) (by assumption) ?_
    rotate_left 1
    · (intro w hSw; (try dsimp only at hSw); go_simp; first | done | with_reducible rfl)
    try go_simp
    refine wpAnyH_done (by kernel_rfl) ?_ _
    refine NoPanic.normal ?_
    go_simp
    exact hQ _ _ _ _ _ _ _ _ _ _ _ _ _ _ _ _ _ _ _ _ _ gz
  exact AllReadyH.nil
set_option maxRecDepth 100000 in
set_option maxHeartbeats 4000000 in
theorem rg32 {sl0 sl1 sl2 sl3 sl4 sl5 sl6 sl7 sl8 sl9 sl10 sl11 sl12 sl13 sl14 sl15 sl16 sl17 sl18 sl19 sl20 sl21 sl22 sl23 sl25 sl26 sl27 sl28 sl29 sl30 sl31 sl32 sl33 sl34 sl35 sl36 sl37 sl38 sl39 sl40 sl41 sl42 sl43 sl44 sl45 sl46 sl47 sl48 sl49 sl50 sl51 sl52 sl53 sl54 sl55 sl56 sl57 sl58 sl59 sl60 sl61 sl62 sl63 sl64 sl65 sl66 sl67 sl68 sl69 sl70 sl71 sl72 sl73 sl74 sl75 sl76 sl77 sl78 sl79 sl80 sl81 sl82 sl83 sl84 sl85 sl86 sl87 sl88 sl89 sl90 sl91 sl92 sl93 sl94 sl95 sl96 sl97 sl98 sl99 sl100 sl101 sl102 sl103 sl104 sl105 sl106 sl107 sl108 sl109 sl110 sl111 sl112 sl113 sl114 sl115 sl116 sl117 sl118 sl119 sl120 sl121 sl122 sl123 sl124 sl125 sl126 sl127 sl128 sl129 sl130 sl131 sl132 sl133 sl134 sl135 sl136 sl137 sl138 sl139 sl140 sl141 sl142 sl143 sl144 sl145 sl146 sl147 sl148 sl149 sl150 sl151 sl152 sl153 sl154 sl155 sl156 sl157 sl158 sl159 sl160 sl161 sl162 sl163 sl164 sl165 sl166 sl167 sl168 sl169 sl170 sl171 sl172 sl173 sl174 sl175 sl176 sl177 sl178 sl179 sl180 sl181 sl182 sl183 sl184 sl185 sl186 sl187 sl188 sl189 sl190 sl191 sl192 sl193 sl194 sl195 sl196 sl197 sl198 sl199 sl200 sl201 sl202 sl203 sl204 sl205 sl206 sl207 sl208 sl209 sl210 sl211 sl212 sl213 sl214 sl215 sl216 sl217 sl218 sl219 sl220 sl221 sl222 sl223 sl224 sl225 sl226 sl227 : Value} {Q : Exit → Act → World → Prop} {code : Code} (hcode : rg 32 = code) (wr : World) (lb : Nat) (KL : Hid (∀ (V : World), wr.grownBy V none → Calls Try.prog 25 #[.slice (some ⟨lb, 1, none⟩) 2000 2000, .slice (some ⟨lb, 1, none⟩) 2000 2000] V fun e w' => e = .returned (.tuple #[.agg #[.int .i64 1, .int .i64 1], .int .i64 0]) ∧ V.grownBy w' none))
    (hQ : ∀ (tl201 tl202 tl203 tl204 tl205 tl200 tl206 tl207 : Value) (B : Nat) (wx : World), R2 wx B 1 1 → wr.grownBy wx none → Q .normal ⟨#[sl0, sl1, sl2, sl3, sl4, sl5, sl6, sl7, sl8, sl9, sl10, sl11, sl12, sl13, sl14, sl15, sl16, sl17, sl18, sl19, sl20, sl21, sl22, sl23, .slice (some ⟨lb, 0, none⟩) 2001 2001, sl25, .pointer (some ⟨B, 0, none⟩), .int .i64 0, sl28, sl29, sl30, sl31, sl32, sl33, sl34, sl35, sl36, sl37, sl38, sl39, sl40, sl41, sl42, sl43, sl44, sl45, sl46, sl47, sl48, sl49, sl50, sl51, sl52, sl53, sl54, sl55, sl56, sl57, sl58, sl59, sl60, sl61, sl62, sl63, sl64, sl65, sl66, sl67, sl68, sl69, sl70, sl71, sl72, sl73, sl74, sl75, sl76, sl77, sl78, sl79, sl80, sl81, sl82, sl83, sl84, sl85, sl86, sl87, sl88, sl89, sl90, sl91, sl92, sl93, sl94, sl95, sl96, sl97, sl98, sl99, sl100, sl101, sl102, sl103, sl104, sl105, sl106, sl107, sl108, sl109, sl110, sl111, sl112, sl113, sl114, sl115, sl116, sl117, sl118, sl119, sl120, sl121, sl122, sl123, sl124, sl125, sl126, sl127, sl128, sl129, sl130, sl131, sl132, sl133, sl134, sl135, sl136, sl137, sl138, sl139, sl140, sl141, sl142, sl143, sl144, sl145, sl146, sl147, sl148, sl149, sl150, sl151, sl152, sl153, sl154, sl155, sl156, sl157, sl158, sl159, sl160, sl161, sl162, sl163, sl164, sl165, sl166, sl167, sl168, sl169, sl170, sl171, sl172, sl173, sl174, sl175, sl176, sl177, sl178, sl179, sl180, sl181, sl182, sl183, sl184, sl185, sl186, sl187, sl188, sl189, sl190, sl191, sl192, sl193, sl194, sl195, sl196, sl197, sl198, sl199, tl200, tl201, tl202, tl203, tl204, tl205, tl206, tl207, sl208, sl209, sl210, sl211, sl212, sl213, sl214, sl215, sl216, sl217, sl218, sl219, sl220, sl221, sl222, sl223, sl224, sl225, sl226, sl227], []⟩ wx) :
    Code.wp Try.prog code Q ⟨#[sl0, sl1, sl2, sl3, sl4, sl5, sl6, sl7, sl8, sl9, sl10, sl11, sl12, sl13, sl14, sl15, sl16, sl17, sl18, sl19, sl20, sl21, sl22, sl23, .slice (some ⟨lb, 0, none⟩) 2001 2001, sl25, sl26, sl27, sl28, sl29, sl30, sl31, sl32, sl33, sl34, sl35, sl36, sl37, sl38, sl39, sl40, sl41, sl42, sl43, sl44, sl45, sl46, sl47, sl48, sl49, sl50, sl51, sl52, sl53, sl54, sl55, sl56, sl57, sl58, sl59, sl60, sl61, sl62, sl63, sl64, sl65, sl66, sl67, sl68, sl69, sl70, sl71, sl72, sl73, sl74, sl75, sl76, sl77, sl78, sl79, sl80, sl81, sl82, sl83, sl84, sl85, sl86, sl87, sl88, sl89, sl90, sl91, sl92, sl93, sl94, sl95, sl96, sl97, sl98, sl99, sl100, sl101, sl102, sl103, sl104, sl105, sl106, sl107, sl108, sl109, sl110, sl111, sl112, sl113, sl114, sl115, sl116, sl117, sl118, sl119, sl120, sl121, sl122, sl123, sl124, sl125, sl126, sl127, sl128, sl129, sl130, sl131, sl132, sl133, sl134, sl135, sl136, sl137, sl138, sl139, sl140, sl141, sl142, sl143, sl144, sl145, sl146, sl147, sl148, sl149, sl150, sl151, sl152, sl153, sl154, sl155, sl156, sl157, sl158, sl159, sl160, sl161, sl162, sl163, sl164, sl165, sl166, sl167, sl168, sl169, sl170, sl171, sl172, sl173, sl174, sl175, sl176, sl177, sl178, sl179, sl180, sl181, sl182, sl183, sl184, sl185, sl186, sl187, sl188, sl189, sl190, sl191, sl192, sl193, sl194, sl195, sl196, sl197, sl198, sl199, sl200, sl201, sl202, sl203, sl204, sl205, sl206, sl207, sl208, sl209, sl210, sl211, sl212, sl213, sl214, sl215, sl216, sl217, sl218, sl219, sl220, sl221, sl222, sl223, sl224, sl225, sl226, sl227], []⟩ wr := by
  subst hcode
  conv => arg 2; whnf
  have gz : wr.grownBy wr.drew none := grown_dr (grown_refl _)
  refine wp_region_noPanic ?_
  refine wp_region_held_drew (S := (fun w' => wr.grownBy w' none)) (by kernel_rfl) ?_ (fun hHeld => ?_)
  · (try dsimp only); (repeat (first | assumption | exact grown_refl _ | refine grown_dr ?_ | refine grown_dn ?_ | refine grown_al ?_))
  refine wpAnyH_take (i := 0) (oi := _) (v := ?_) rfl (by kernel_rfl) (by kernel_rfl) (by kernel_rfl) (fun _ _ _ h => h) (Or.inl ⟨by rfl, ?_⟩) (by assumption) ?_
  rotate_left 1
  · (intro w hSw; (try dsimp only at hSw); go_simp; first | done | with_reducible rfl)
  try go_simp
  refine wpAnyH_take (i := 1) (oi := _) (v := .slice (some ⟨lb, 1, none⟩) 2000 2000) rfl (by kernel_rfl) (by kernel_rfl) (by kernel_rfl) (fun _ _ _ h => h) (Or.inl ⟨by kernel_rfl, ?_⟩) (by assumption) ?_
  · (intro w hSw; (try dsimp only at hSw); go_simp; first | done | with_reducible rfl)
  try go_simp
  refine wpAnyH_take (i := 2) (oi := _) (v := ?_) rfl (by kernel_rfl) (by kernel_rfl) (by kernel_rfl) (fun _ _ _ h => h) (Or.inl ⟨by rfl, ?_⟩) (by assumption) ?_
  rotate_left 1
  · (intro w hSw; (try dsimp only at hSw); go_simp; first | done | with_reducible rfl)
  try go_simp
  refine wpAnyH_take (i := 3) (oi := _) (v := .slice (some ⟨lb, 1, none⟩) 2000 2000) rfl (by kernel_rfl) (by kernel_rfl) (by kernel_rfl) (fun _ _ _ h => h) (Or.inl ⟨by kernel_rfl, ?_⟩) (by assumption) ?_
  · (intro w hSw; (try dsimp only at hSw); go_simp; first | done | with_reducible rfl)
  try go_simp
  refine wpAnyH_ready (rs := [4, 8]) (by kernel_rfl) (by simp) ?_
  refine AllReadyH.cons (o := _) rfl (fun K hK => ?_) ?_
  · clear hHeld
    go_simp
    refine (KL.out _ gz).mono ?_
    rintro e wq1 ⟨rfl, g⟩
    replace gz := gz.trans g
    clear g
    first | (refine hK.out _ _ ?_ (fun hHeld => ?_)) | (go_wp2_with fail; refine hK.out _ _ ?_ (fun hHeld => ?_))
    · (try dsimp only); (repeat (first | assumption | exact grown_refl _ | refine grown_dr ?_ | refine grown_dn ?_ | refine grown_al ?_))
    clear hK K
    refine wpAnyH_take (i := 5) (oi := _) (v := ?_) rfl (by kernel_rfl) (by kernel_rfl) (by kernel_rfl) (fun _ _ _ h => h) (Or.inl ⟨by rfl, ?_⟩) (by assumption) ?_
    rotate_left 1
    · (intro w hSw; (try dsimp only at hSw); go_simp; first | done | with_reducible rfl)
    try go_simp
    refine wpAnyH_take (i := 6) (oi := _) (v := ?_) rfl (by kernel_rfl) (by kernel_rfl) (by kernel_rfl) (fun _ _ _ h => h) (Or.inl ⟨by rfl, ?_⟩) (by assumption) ?_
    rotate_left 1
    · (intro w hSw; (try dsimp only at hSw); go_simp; first | done | with_reducible rfl)
    try go_simp
    refine wpAnyH_take (i := 7) (oi := _) (v := ?_) rfl (by kernel_rfl) (by kernel_rfl) (by kernel_rfl) (fun _ _ _ h => h) (Or.inl ⟨by rfl, ?_⟩) (by assumption) ?_
    rotate_left 1
    · (intro w hSw; (try dsimp only at hSw); go_simp; first | done | with_reducible rfl)
    try go_simp
    refine wpAnyH_ready (rs := [8]) (by kernel_rfl) (by simp) ?_
    refine AllReadyH.cons (o := _) rfl (fun K hK => ?_) ?_
    · clear hHeld
      go_simp
      obtain ⟨wq2, ea, RA, g⟩ := row_of wq1 46 #[.int .i64 0, .int .i64 0]
      have hBRA : wr.heap.size ≤ wq1.heap.size := gz.size
      replace gz := gz.trans g
      clear g
      first | (refine hK.out _ _ ?_ (fun hHeld => ?_)) | (go_wp2_with fail; refine hK.out _ _ ?_ (fun hHeld => ?_))
      · (try dsimp only); (first | rw [← ea] | skip); exact gz
      clear hK K
      rw [← ea]
      clear ea hHeld
      have hHeld := gz
      refine wpAnyH_ready (rs := [9]) (by kernel_rfl) (by simp) ?_
      refine AllReadyH.cons (o := _) rfl (fun K hK => ?_) ?_
      · clear hHeld
        have k0 := RA.c 0 rfl
        have f0 := RA.fz 0
        have k1 := RA.c 1 rfl
        have f1 := RA.fz 1
        have hsz := RA.lt
        have gst := (grown_set (i := 1) (v := .int .i64 1) (grown_set (i := 0) (v := .int .i64 1) gz (.inl hBRA)) (.inl hBRA))
        have RS := ((RA.set 0 (.int .i64 1)).set 1 (.int .i64 1))
        go_simp
        first | (refine hK.out _ _ ?_ (fun hHeld => ?_)) | (go_wp2_with fail; refine hK.out _ _ ?_ (fun hHeld => ?_))
        · (try dsimp only); exact gst
        clear hK K
        refine wpAnyH_take (i := 10) (oi := _) (v := ?_) rfl (by kernel_rfl) (by kernel_rfl) (by kernel_rfl) (fun _ _ _ h => h) (Or.inl ⟨by rfl, ?_⟩) (by assumption) ?_
        rotate_left 1
        · (intro w hSw; (try dsimp only at hSw); go_simp; first | done | with_reducible rfl)
        try go_simp
        refine wpAnyH_done (by kernel_rfl) ?_ _
        refine NoPanic.normal ?_
        go_simp
        exact hQ _ _ _ _ _ _ _ _ _ _ RS gst
      exact AllReadyH.nil
    exact AllReadyH.nil
  refine AllReadyH.cons (o := _) rfl (fun K hK => ?_) ?_
  · clear hHeld
    go_simp
    obtain ⟨wq1, ea, RA, g⟩ := row_of wr 46 #[.int .i64 0, .int .i64 0]
    have gb : wr.drew.grownBy wq1.drew none := ⟨g.os, g.tape, g.output, g.size, g.block⟩
    have hBRA : wr.heap.size ≤ wr.heap.size := gz.size
    replace RA := RA.kept (grown_dr (grown_refl wq1))
    clear g
    have g := gb
    clear gb
    replace gz := gz.trans g
    clear g
    first | (refine hK.out _ _ ?_ (fun hHeld => ?_)) | (go_wp2_with fail; refine hK.out _ _ ?_ (fun hHeld => ?_))
    · (try dsimp only); (first | rw [← ea] | skip); exact gz
    clear hK K
    rw [← ea]
    clear ea hHeld
    have hHeld := gz
    refine wpAnyH_ready (rs := [4]) (by kernel_rfl) (by simp) ?_
    refine AllReadyH.cons (o := _) rfl (fun K hK => ?_) ?_
    · clear hHeld
      go_simp
      refine (KL.out _ gz).mono ?_
      rintro e wq2 ⟨rfl, g⟩
      replace RA := RA.kept g
      replace gz := gz.trans g
      clear g
      first | (refine hK.out _ _ ?_ (fun hHeld => ?_)) | (go_wp2_with fail; refine hK.out _ _ ?_ (fun hHeld => ?_))
      · (try dsimp only); (repeat (first | assumption | exact grown_refl _ | refine grown_dr ?_ | refine grown_dn ?_ | refine grown_al ?_))
      clear hK K
      refine wpAnyH_take (i := 5) (oi := _) (v := ?_) rfl (by kernel_rfl) (by kernel_rfl) (by kernel_rfl) (fun _ _ _ h => h) (Or.inl ⟨by rfl, ?_⟩) (by assumption) ?_
      rotate_left 1
      · (intro w hSw; (try dsimp only at hSw); go_simp; first | done | with_reducible rfl)
      try go_simp
      refine wpAnyH_take (i := 6) (oi := _) (v := ?_) rfl (by kernel_rfl) (by kernel_rfl) (by kernel_rfl) (fun _ _ _ h => h) (Or.inl ⟨by rfl, ?_⟩) (by assumption) ?_
      rotate_left 1
      · (intro w hSw; (try dsimp only at hSw); go_simp; first | done | with_reducible rfl)
      try go_simp
      refine wpAnyH_take (i := 7) (oi := _) (v := ?_) rfl (by kernel_rfl) (by kernel_rfl) (by kernel_rfl) (fun _ _ _ h => h) (Or.inl ⟨by rfl, ?_⟩) (by assumption) ?_
      rotate_left 1
      · (intro w hSw; (try dsimp only at hSw); go_simp; first | done | with_reducible rfl)
      try go_simp
      refine wpAnyH_ready (rs := [9]) (by kernel_rfl) (by simp) ?_
      refine AllReadyH.cons (o := _) rfl (fun K hK => ?_) ?_
      · clear hHeld
        have k0 := RA.c 0 rfl
        have f0 := RA.fz 0
        have k1 := RA.c 1 rfl
        have f1 := RA.fz 1
        have hsz := RA.lt
        have gst := (grown_set (i := 1) (v := .int .i64 1) (grown_set (i := 0) (v := .int .i64 1) gz (.inl hBRA)) (.inl hBRA))
        have RS := ((RA.set 0 (.int .i64 1)).set 1 (.int .i64 1))
        go_simp
        first | (refine hK.out _ _ ?_ (fun hHeld => ?_)) | (go_wp2_with fail; refine hK.out _ _ ?_ (fun hHeld => ?_))
        · (try dsimp only); exact gst
        clear hK K
        refine wpAnyH_take (i := 10) (oi := _) (v := ?_) rfl (by kernel_rfl) (by kernel_rfl) (by kernel_rfl) (fun _ _ _ h => h) (Or.inl ⟨by rfl, ?_⟩) (by assumption) ?_
        rotate_left 1
        · (intro w hSw; (try dsimp only at hSw); go_simp; first | done | with_reducible rfl)
        try go_simp
        refine wpAnyH_done (by kernel_rfl) ?_ _
        refine NoPanic.normal ?_
        go_simp
        exact hQ _ _ _ _ _ _ _ _ _ _ RS gst
      exact AllReadyH.nil
    exact AllReadyH.nil
  exact AllReadyH.nil
end Go.Proofs.Ytcilclbolmijfaa
