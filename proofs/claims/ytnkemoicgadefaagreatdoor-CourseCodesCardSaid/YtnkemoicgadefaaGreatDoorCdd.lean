/-
  An offer that is read by the program.
  course.Decode.
-/
import Derived.Test.YtnkemoicgadefaaGreatDoorMwd
import Derived.Test.YtnkemoicgadefaaGreatDoorOfr
import Derived.Test.YtnkemoicgadefaaGreatDoorCdm
import Derived.Test.YtnkemoicgadefaaGreatDoorWA
namespace Go.Proofs.YtnkemoicgadefaaGreatDoor
open Go.RowKit
attribute [local go_sem] get_mk extract_mk
theorem lim_far {n : Nat} {st : Option Str} (h : Lim 2000 st) (hn : 2000 ≤ n) : ∀ l, st = some l → l.length ≤ n := fun l e => Nat.le_trans (h l e) hn
set_option maxRecDepth 100000 in
set_option maxHeartbeats 2000000 in
theorem readOffer_k (w : World) (hb : Wire.Base w) (b : Nat) (hb6 : 6 ≤ b) (st : Option Str) (h : Wire.Rd w b st) (hl : Lim 2000 st) :
    Calls Tryz.prog 33 #[.pointer (some ⟨b, 0, none⟩)] w fun e w' => ∃ u : V, e = .returned (.agg u.cells) ∧ VIs w' u (offV st) ∧ OwnI w' w.heap.size (.slice u.sA u.sn u.sc) (offV st).slots ∧ OwnS w' w.heap.size (.slice u.nA u.nn u.nc) (offV st).needs ∧ Wire.Rd w' b (offR st) ∧ w.grownBy w' (some b) := by
  obtain ⟨w1, e1, HP, g1⟩ := row_of w 41 #[.string ⟨#[]⟩, .int .i64 0, .int .i64 0, .slice none 0 0, .slice none 0 0]
  have s1 : w1.heap.size = w.heap.size + 1 := by rw [e1]; simp
  have R1 : Wire.Rd w1 b st := h.grown g1 (by simp)
  have B1 := hb.none_ g1
  have lt := h.lt
  have up : ∀ W W' : World, Wire.Base W → W.grownBy W' (some b) → Wire.Base W' := fun W W' H g => H.grown g (by rintro k ⟨⟩; exact hb6)
  have L0 := Lib.hid hl
  have L1 := Lib.hid (lim1 hl)
  have L2 := Lib.hid (lim2 hl)
  have L3 := Lib.hid (lim3 hl)
  have L4 := Lib.hid (lim4 hl)
  have C1 := Lib.hid (Wire.text_k w1 B1 b st R1 (lim_far hl (by omega)))
  have E1 := Lib.hid e1
  have UP := Lib.hid up
  have BB := Lib.hid B1
  have B6 := Lib.hid hb6
  have LT := Lib.hid lt
  have G1 := Lib.hid g1
  have S1 := Lib.hid s1
  have HB := Lib.hid HP
  have ET := Lib.hid (show Wire.restOf Wire.textP st = rd1 st from rfl)
  have EI := Lib.hid (show Wire.restOf Wire.intP (rd1 st) = rd2 st from rfl)
  have EJ := Lib.hid (show Wire.restOf Wire.intP (rd2 st) = rd3 st from rfl)
  have EK := Lib.hid (show Wire.restOf (Wire.listP Wire.intP) (rd3 st) = rd4 st from rfl)
  have EL := Lib.hid (show Wire.restOf (Wire.listP Wire.textP) (rd4 st) = offR st from rfl)
  clear hl e1 up R1 h hb hb6 B1 lt g1 s1 HP
  go_enter Tryz.func33, Tryz.ntmps33
  go_upto_region 1 with fail
  rw [← E1.out]
  go_wp2_with (first
    | (go_at_call 68; refine C1.out.mono ?_; rintro e w2 ⟨rfl, R2, g2⟩; rw [ET.out] at R2; have B2 := Lib.hid (UP.out _ _ BB.out g2); replace R2 := Lib.hid R2; replace g2 := Lib.hid g2)
    | (go_at_call 31; refine (Wire.int_k _ B3.out b _ R3.out (lim_far L2.out (by omega))).mono ?_; rintro e w4 ⟨rfl, R4, g4⟩; rw [EJ.out] at R4; have B4 := Lib.hid (UP.out _ _ B3.out g4); replace R4 := Lib.hid R4; replace g4 := Lib.hid g4)
    | (go_at_call 31; refine (Wire.int_k _ B2.out b _ R2.out (lim_far L1.out (by omega))).mono ?_; rintro e w3 ⟨rfl, R3, g3⟩; rw [EI.out] at R3; have B3 := Lib.hid (UP.out _ _ B2.out g3); replace R3 := Lib.hid R3; replace g3 := Lib.hid g3)
    | (go_at_call 69; refine (Wire.ints_k _ B4.out b B6.out _ R4.out (lim_far L3.out (by omega))).mono ?_; rintro e w5 ⟨vi, rfl, O5, R5, g5⟩; rw [EK.out] at R5; have B5 := Lib.hid (UP.out _ _ B4.out g5); replace R5 := Lib.hid R5; replace g5 := Lib.hid g5; replace O5 := Lib.hid O5)
    | (go_at_call 70; refine (Wire.texts_k _ B5.out b B6.out _ R5.out (lim_far L4.out (by omega))).mono ?_; rintro e w6 ⟨vt, rfl, O6, R6, g6⟩; rw [EL.out] at R6; obtain ⟨sA, sc, rfl, SI, hsb⟩ := OwnI.ints O5.out (ints_val L3.out).2; obtain ⟨nA, nc, rfl, SS, hnb⟩ := OwnS.strs (O6 : OwnS _ _ _ _) (fun x hx => Nat.le_trans ((texts_val L4.out).2 x hx) (by omega)); have HBx := ((((HB.out.keptR g2.out (by rintro ⟨⟩; have := LT.out; omega)).keptR g3.out (by rintro ⟨⟩; have := LT.out; omega)).keptR g4.out (by rintro ⟨⟩; have := LT.out; omega)).keptR g5.out (by rintro ⟨⟩; have := LT.out; omega)).keptR g6 (by rintro ⟨⟩; have := LT.out; omega); have d0 := HBx.c 0 rfl; have d1 := HBx.c 1 rfl; have d2 := HBx.c 2 rfl; have d3 := HBx.c 3 rfl; have d4 := HBx.c 4 rfl; have f0 := HBx.fz 0; have f1 := HBx.fz 1; have f2 := HBx.fz 2; have f3 := HBx.fz 3; have f4 := HBx.fz 4; replace R6 := Lib.hid R6; replace g6 := Lib.hid g6; replace O6 := Lib.hid O6; replace SI := Lib.hid SI; replace SS := Lib.hid SS; replace hsb := Lib.hid hsb; replace hnb := Lib.hid hnb; replace HBx := Lib.hid HBx)
    )
  have HF := ((((HBx.out.set 0 (.string ⟨(Wire.valOf Wire.textP st).toArray⟩)).set 1 (.int .i64 (Wire.valOf Wire.intP (rd1 st)))).set 2 (.int .i64 (Wire.valOf Wire.intP (rd2 st)))).set 3 (.slice sA (Wire.valOf (Wire.listP Wire.intP) (rd3 st)).length sc)).set 4 (.slice nA (Wire.valOf (Wire.listP Wire.textP) (rd4 st)).length nc)
  have GS : w6.grownBy (((((w6.setCell ⟨w.heap.size, 0, none⟩ (.string ⟨(Wire.valOf Wire.textP st).toArray⟩)).setCell ⟨w.heap.size, 1, none⟩ (.int .i64 (Wire.valOf Wire.intP (rd1 st)))).setCell ⟨w.heap.size, 2, none⟩ (.int .i64 (Wire.valOf Wire.intP (rd2 st)))).setCell ⟨w.heap.size, 3, none⟩ (.slice sA (Wire.valOf (Wire.listP Wire.intP) (rd3 st)).length sc)).setCell ⟨w.heap.size, 4, none⟩ (.slice nA (Wire.valOf (Wire.listP Wire.textP) (rd4 st)).length nc)) (some w.heap.size) :=
    ((((Wire.grown_setCell _ _ _ _).trans (Wire.grown_setCell _ _ _ _)).trans (Wire.grown_setCell _ _ _ _)).trans (Wire.grown_setCell _ _ _ _)).trans (Wire.grown_setCell _ _ _ _)
  generalize (((((w6.setCell ⟨w.heap.size, 0, none⟩ (.string ⟨(Wire.valOf Wire.textP st).toArray⟩)).setCell ⟨w.heap.size, 1, none⟩ (.int .i64 (Wire.valOf Wire.intP (rd1 st)))).setCell ⟨w.heap.size, 2, none⟩ (.int .i64 (Wire.valOf Wire.intP (rd2 st)))).setCell ⟨w.heap.size, 3, none⟩ (.slice sA (Wire.valOf (Wire.listP Wire.intP) (rd3 st)).length sc)).setCell ⟨w.heap.size, 4, none⟩ (.slice nA (Wire.valOf (Wire.listP Wire.textP) (rd4 st)).length nc)) = W at *
  have q0 := HF.c 0 rfl
  have q1 := HF.c 1 rfl
  have q2 := HF.c 2 rfl
  have q3 := HF.c 3 rfl
  have q4 := HF.c 4 rfl
  have z4 : w.heap.size + 1 ≤ w4.heap.size := by
    have := g2.out.size
    have := g3.out.size
    have := g4.out.size
    have := S1.out
    omega
  have z5 := g5.out.size
  have OI : OwnI W (w.heap.size + 1) _ _ := own_keep (own_keep (own_base O5.out z4) g6.out (by rintro j ⟨⟩; have := LT.out; omega)) GS (by rintro j ⟨⟩; omega)
  have OS : OwnS W (w.heap.size + 1) _ _ := own_keep (own_base O6.out (by omega : w.heap.size + 1 ≤ _)) GS (by rintro j ⟨⟩; omega)
  obtain ⟨A', c', e', I', _⟩ := OwnI.ints OI (ints_val L3.out).2
  injection e' with ea _ ec
  subst ea ec
  obtain ⟨A', c', e', I'', _⟩ := OwnS.strs OS (fun x hx => Nat.le_trans ((texts_val L4.out).2 x hx) (by omega))
  injection e' with ea _ ec
  subst ea ec
  have GG : w.grownBy W (some b) := by
    have G2 := ((((g2.out.trans g3.out).trans g4.out).trans g5.out).trans g6.out)
    have g1 := G1.out
    have GT := World.grownBy.trans (⟨g1.os, g1.tape, g1.output, g1.size, fun i hi _ => g1.block i hi (by simp)⟩ : w.grownBy w1 (some b)) G2
    exact ⟨GS.os.trans GT.os, GS.tape.trans GT.tape, GS.output.trans GT.output, Nat.le_trans GT.size GS.size, fun i hi hne => (GS.block i (Nat.lt_of_lt_of_le hi GT.size) (by rintro ⟨⟩; omega)).trans (GT.block i hi hne)⟩
  refine bodyPost_ret (v := .agg (V.cells ⟨Wire.valOf Wire.textP st, Wire.valOf Wire.intP (rd1 st), Wire.valOf Wire.intP (rd2 st), sA, (Wire.valOf (Wire.listP Wire.intP) (rd3 st)).length, sc, nA, (Wire.valOf (Wire.listP Wire.textP) (rd4 st)).length, nc⟩)) (by simp [results, Tryz.results33, q0, q1, q2, q3, q4, go_sem, V.cells]) rfl ⟨_, rfl, ⟨rfl, rfl, rfl, ⟨Nat.le_trans (text_val L0.out) (by omega), int_val _, int_val _⟩, I', I'', ?_⟩, own_base OI (by omega), own_base OS (by omega), ?_, GG⟩
  · have a1 := (ints_val L3.out).1
    have a2 := (texts_val L4.out).1
    exact ⟨by show (Wire.valOf (Wire.listP Wire.intP) (rd3 st)).length ≤ _; omega, by show (Wire.valOf (Wire.listP Wire.textP) (rd4 st)).length ≤ _; omega⟩
  · exact R6.out.grown GS (by rintro ⟨⟩; have := LT.out; omega)
end Go.Proofs.YtnkemoicgadefaaGreatDoor
namespace Go.Proofs.YtnkemoicgadefaaGreatDoor
open Go.RowKit
attribute [local go_sem] get_mk extract_mk
theorem lim_some {s : Str} : Lim s.length (some s) := fun l e => by injection e with e; rw [e]; exact Nat.le_refl _
theorem off_eat {s t : Str} (h : offR (some s) = some t) : t.length + 2 ≤ s.length := by
  cases h1 : rd1 (some s) with
  | none =>
    unfold offR rd4 rd3 rd2 at h
    rw [h1] at h
    cases h
  | some u =>
    have hu : u.length + 2 ≤ s.length := by
      unfold rd1 at h1
      rcases val_cases Wire.textP (some s) with ⟨_, h2⟩ | ⟨x, y, v, hx, h2, _, h3⟩
      · rw [h2] at h1
        cases h1
      · injection hx with hx
        subst hx
        rw [h3] at h1
        injection h1 with h1
        subst h1
        obtain ⟨_, rfl⟩ := (Wire.textD.iff _ _ _).1 h2
        have := serT_two v
        simp only [List.length_append]
        omega
    have h4 : Lim u.length (offR (some s)) := by
      unfold offR rd4 rd3 rd2
      rw [h1]
      exact lim_rest (lim_rest (lim_rest (lim_rest lim_some int_le) int_le) ints_le) texts_le
    have := h4 t h
    omega
/-- what is to do, when k offers are read -/
structure Mid (N : Nat) (st0 : Option Str) (L : List O) (st : Option Str) : Prop where
  lim : Lim 2000 st
  few : 2 * L.length ≤ 2002 ∧ ∀ s, st = some s → 2 * L.length + s.length ≤ 2000
  le : L.length ≤ N
  eq : decL N st0 = (decL (N - L.length) st).map fun (x : List O × Str) => (L ++ x.1, x.2)
theorem mid_start {N : Nat} {st : Option Str} (h : Lim 2000 st) : Mid N st [] st :=
  ⟨h, ⟨by simp, fun s e => by simpa using h s e⟩, Nat.zero_le _, by simp⟩
theorem Mid.next {N : Nat} {st0 st : Option Str} {L : List O} (h : Mid N st0 L st) (hs : st ≠ none) (hN : L.length < N) : Mid N st0 (L ++ [offV st]) (offR st) := by
  cases st with
  | none => exact absurd rfl hs
  | some s =>
    have hf := h.few.2 s rfl
    refine ⟨limR h.lim, ⟨by simp only [List.length_append, List.length_cons, List.length_nil]; omega, fun t e => ?_⟩, by simp only [List.length_append, List.length_cons, List.length_nil]; omega, ?_⟩
    · have := off_eat e
      simp only [List.length_append, List.length_cons, List.length_nil]
      omega
    · have e : N - L.length = (N - (L ++ [offV (some s)]).length) + 1 := by simp only [List.length_append, List.length_cons, List.length_nil]; omega
      rw [h.eq, e, decL_succ, Option.map_map]
      congr 1
      funext x
      simp
theorem decV_eq (s : Str) : decV s = if Wire.valOf Wire.intP (some s) < 0 then none else match decL (Wire.valOf Wire.intP (some s)).toNat (Wire.restOf Wire.intP (some s)) with
    | some (l, []) => some l
    | _ => none := by
  unfold decV
  cases h : Wire.intP s with
  | none =>
    obtain ⟨h1, h2⟩ := val_none h
    rw [h2, decL_none]
    simp
  | some x =>
    obtain ⟨n, t⟩ := x
    obtain ⟨h1, h2⟩ := val_some h
    rw [h1, h2]
    rfl
theorem Mid.bad {N : Nat} {st0 : Option Str} {L : List O} (h : Mid N st0 L none) : decL N st0 = none := by
  rw [h.eq, decL_none]
  rfl
theorem Mid.done {N : Nat} {st0 : Option Str} {s : Str} {L : List O} (h : Mid N st0 L (some s)) (hN : ¬ L.length < N) : decL N st0 = some (L, s) := by
  have : N - L.length = 0 := by omega
  rw [h.eq, this]
  simp [decL]
/-- what Decode hands back, when a string says r -/
def DecOut (r : Option (List O)) (e : Ending) (w : World) : Prop := match r with
  | none => e = .returned (.tuple #[.slice none 0 0, .int .i64 4])
  | some l => ∃ (B : Option Addr) (d : Nat) (us : List V), e = .returned (.tuple #[.slice B l.length d, .int .i64 0]) ∧ Offs w B l.length d us l
set_option maxRecDepth 100000 in
set_option maxHeartbeats 4000000 in
/-- course.Decode -/
theorem decode_k (s : Str) (hs : s.length ≤ 2000) (w : World) (hb : Wire.Base w) :
    Calls Tryz.prog 8 #[.string ⟨s.toArray⟩] w fun e w' => w.grownBy w' none ∧ DecOut (decV s) e w' := by
  have HV := Lib.hid (decV_eq s)
  have HS := Lib.hid hs
  have HB := Lib.hid hb
  have k0 : decide ((s.length : Int) > 262144) = false := by simp; omega
  clear hb hs
  go_enter Tryz.func8, Tryz.ntmps8
  go_wp2_with (first
    | (go_at_call 30; refine (Wire.new_k s _).mono ?_; rintro e w1 ⟨rfl, R1, g1, z1⟩; replace R1 := Lib.hid R1; replace g1 := Lib.hid g1)
    | (go_at_call 31; refine (Wire.int_k _ (HB.out.none_ g1.out) _ _ R1.out (lim_far (fun l e => by injection e with e; subst e; exact HS.out) (by omega))).mono ?_; rintro e w2 ⟨rfl, R2, g2⟩; replace R2 := Lib.hid R2; replace g2 := Lib.hid g2))
  have L0 : Hid (Lim 2000 (Wire.restOf Wire.intP (some s))) := Lib.hid (lim_rest (fun l e => by injection e with e; subst e; exact HS.out) int_le)
  have hn := int_val (some s)
  generalize Wire.valOf Wire.intP (some s) = n at *
  generalize Wire.restOf Wire.intP (some s) = st0 at *
  have G2 : Hid (w.grownBy w2 none) := Lib.hid (g1.out.andThen g2.out (fun j hj => .inl (by injection hj with hj; omega)))
  have B6 := Lib.hid (show 6 ≤ w.heap.size from HB.out.size)
  have Z2 := Lib.hid (show w.heap.size + 1 ≤ w2.heap.size from Nat.lt_of_lt_of_le z1 g2.out.size)
  clear g1 g2 R1 z1 k0
  go_loopw [6] (fun y wr => ∃ (L : List O) (vs : List V) (st : Option Str), Hid (OutIs wr (w.heap.size + 1) y vs L) ∧ Hid (Wire.Rd wr w.heap.size st) ∧ Hid (Mid n.toNat st0 L st) ∧ Hid (w.grownBy wr none)) (fun y _ => n.toNat - (match y with | .slice _ k _ => k | _ => 0))
  case atStart => exact ⟨[], [], st0, Lib.hid (out_nil _ _), R2, Lib.hid (mid_start L0.out), G2⟩
  case round =>
    obtain ⟨L, vs, st, HO, HR, HM, HG⟩ := hrel
    obtain ⟨A, c, e, HF, hfar⟩ := HO.out.offs
    subst e
    have HLT := Lib.hid (fun j (e : (Value.slice A L.length c).ownBlock = some j) => World.ownsRow.lt HO.out.own j e)
    have hz : w.heap.size + 1 ≤ wr.heap.size := by
      have := HR.out.lt
      omega
    have hfew := HM.out.few.1
    have HFF := Lib.hid HF
    clear HF hfar
    by_cases hlt : (L.length : Int) < n
    · have k3 : decide ((L.length : Int) < n) = true := decide_eq_true hlt
      cases st with
      | none =>
        have HD := Lib.hid HM.out.bad
        have HQ := Lib.hid (Wire.Bad_k wr w.heap.size none HR.out)
        have HE : Hid (decV s = none) := Lib.hid (by rw [HV.out, HD.out]; simp)
        by_cases hn0 : n < 0
        · omega
        have k5 : decide (n < 0) = false := decide_eq_false hn0
        go_wp2_with (go_at_call 32; refine HQ.out.mono ?_; rintro e w4 ⟨rfl, rfl⟩)
        go_ret2
        rw [HE.out]
        exact ⟨HG.out, rfl⟩
      | some q =>
        have HQ := Lib.hid (Wire.Bad_k wr w.heap.size (some q) HR.out)
        have HC : Hid (Calls Tryz.prog 33 #[.pointer (some ⟨w.heap.size, 0, none⟩)] wr fun e w' => ∃ (uc : Str) (ur up : Int) (uA : Option Addr) (un ud : Nat) (xA : Option Addr) (xn xd : Nat), e = .returned (.agg #[.string ⟨uc.toArray⟩, .int .i64 ur, .int .i64 up, .slice uA un ud, .slice xA xn xd]) ∧ VIs w' ⟨uc, ur, up, uA, un, ud, xA, xn, xd⟩ (offV (some q)) ∧ OwnI w' wr.heap.size (.slice uA un ud) (offV (some q)).slots ∧ OwnS w' wr.heap.size (.slice xA xn xd) (offV (some q)).needs ∧ Wire.Rd w' w.heap.size (offR (some q)) ∧ wr.grownBy w' (some w.heap.size)) :=
          Lib.hid ((readOffer_k wr (HB.out.none_ HG.out) _ B6.out _ HR.out HM.out.lim).mono (fun e w' ⟨⟨uc, ur, up, uA, un, ud, xA, xn, xd⟩, h⟩ => ⟨uc, ur, up, uA, un, ud, xA, xn, xd, h⟩))
        have HN := Lib.hid (HM.out.next (by simp) (by omega))
        clear hn
        go_wp2_with (first
          | (go_at_call 32; refine HQ.out.mono ?_; rintro e w3 ⟨rfl, rfl⟩)
          | (go_at_call 33; refine HC.out.mono ?_; rintro e w4 ⟨uc, ur, up, uA, un, ud, xA, xn, xd, rfl, hu, hi, hs, R4, g4⟩
             have z4 := g4.size
             have ga := World.grownBy_alloc w4 (.cells #[.string ⟨uc.toArray⟩, .int .i64 ur, .int .i64 up, .slice uA un ud, .slice xA xn xd] 41) none
             have HVA := Lib.hid (hu.kept ga)
             have HOA := Lib.hid (own_keep hi ga (fun _ e => by cases e))
             have HNA := Lib.hid (own_keep hs ga (fun _ e => by cases e))
             have HOW := Lib.hid ((HO.out.kept g4 (by rintro j ⟨⟩; omega)).kept ga (fun _ e => by cases e))
             have HVL := Lib.hid (new_vals5 w4 ⟨uc, ur, up, uA, un, ud, xA, xn, xd⟩)
             have HGa := Lib.hid ((HG.out.andThen g4 (fun j hj => .inl (by injection hj with hj; omega))).trans ga)
             have HRA := Lib.hid (R4.grown ga (by simp))
             have HLB := Lib.hid (show L.length + 1 ≤ 1000000 ∧ w.heap.size + 1 ≤ (w4.alloc (.cells #[.string ⟨uc.toArray⟩, .int .i64 ur, .int .i64 up, .slice uA un ud, .slice xA xn xd] 41)).heap.size from ⟨by omega, by have := ga.size; omega⟩)
             clear hu hi hs R4 g4 ga)
          | (at_builtin
             refine wpList_append_vals elt35 rfl (.tmp 23) (.tmp 26) rfl (w.heap.size + 1) (.slice A L.length c) L.length (vc vs) rfl HOW.out.own _ 1 1 _ rfl HVL.out HLB.out.1 HLB.out.2 ?_
             intro y2 w8 hown hg hb hv
             have HOX := Lib.hid (HOW.out.snoc hown hg hb HVA.out HOA.out HNA.out hz (fun j e => (HLT.out j e).2))
             have HRX := Lib.hid (HRA.out.grown hg (fun e => by have := (HLT.out _ e.symm).1; omega))
             have HGX := Lib.hid (HGa.out.andThen hg (fun r e => .inl (by have := (HLT.out r e).1; omega)))
             clear hown hg hb hv))
        obtain ⟨A2, c2, e2, _, _⟩ := HOX.out.offs
        subst e2
        exact ⟨⟨_, _, _, HOX, HRX, HN, HGX⟩, by simp only [List.length_append, List.length_cons, List.length_nil]; omega⟩
    · have k3 : decide ((L.length : Int) < n) = false := decide_eq_false hlt
      by_cases hn0 : n < 0
      · have k5 : decide (n < 0) = true := decide_eq_true hn0
        have HE : Hid (decV s = none) := Lib.hid (by rw [HV.out, if_pos hn0])
        go_wp2_with fail
        go_ret2
        rw [HE.out]
        exact ⟨HG.out, rfl⟩
      · have k5 : decide (n < 0) = false := decide_eq_false hn0
        have hN : ¬ L.length < n.toNat := by omega
        cases st with
        | none =>
          have HD := Lib.hid HM.out.bad
          have HQ := Lib.hid (Wire.Bad_k wr w.heap.size none HR.out)
          have HE : Hid (decV s = none) := Lib.hid (by rw [HV.out, HD.out]; simp)
          go_wp2_with (go_at_call 32; refine HQ.out.mono ?_; rintro e w4 ⟨rfl, rfl⟩)
          go_ret2
          rw [HE.out]
          exact ⟨HG.out, rfl⟩
        | some q =>
          have HD := Lib.hid (HM.out.done hN)
          have HQ := Lib.hid (Wire.Bad_k wr w.heap.size (some q) HR.out)
          have HL : Hid (Calls Tryz.prog 34 #[.pointer (some ⟨w.heap.size, 0, none⟩)] wr fun e w' => e = .returned (.int .i64 (q.length : Int)) ∧ wr = w') := Lib.hid (Wire.Left_k wr _ (some q) HR.out)
          cases q with
          | nil =>
            have HE : Hid (decV s = some L) := Lib.hid (by rw [HV.out, if_neg hn0, HD.out])
            have k6 : decide ((([] : Str).length : Int) > 0) = false := by simp
            go_wp2_with (first
              | (go_at_call 32; refine HQ.out.mono ?_; rintro e w4 ⟨rfl, rfl⟩)
              | (go_at_call 34; refine HL.out.mono ?_; rintro e w4 ⟨rfl, rfl⟩))
            go_ret2
            rw [HE.out]
            exact ⟨HG.out, A, c, vs, rfl, HFF.out⟩
          | cons x q =>
            have HE : Hid (decV s = none) := Lib.hid (by rw [HV.out, if_neg hn0, HD.out])
            have k6 : decide (((x :: q).length : Int) > 0) = true := decide_eq_true (by simp only [List.length_cons]; omega)
            have k7 : decide (0 < (x :: q).length) = true := decide_eq_true (by simp only [List.length_cons]; omega)
            have k8 : 0 < (x :: q).length := by simp only [List.length_cons]; omega
            generalize x :: q = xq at *
            go_wp2_with (first
              | (go_at_call 32; refine HQ.out.mono ?_; rintro e w4 ⟨rfl, rfl⟩)
              | (go_at_call 34; refine HL.out.mono ?_; rintro e w4 ⟨rfl, rfl⟩))
            go_ret2
            rw [HE.out]
            exact ⟨HG.out, rfl⟩
end Go.Proofs.YtnkemoicgadefaaGreatDoor
