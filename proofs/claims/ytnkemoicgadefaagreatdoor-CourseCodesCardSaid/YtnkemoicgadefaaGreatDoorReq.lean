/-
  Rising lists of numbers and of strings, of the program and of the reference.
  An offer alone: the reference's single; the program's checkNext.
  The program's checkNext.
  course.required: the map of what each code requires.
-/
import Derived.Test.YtnkemoicgadefaaGreatDoorCode
import Derived.BigQuiet
import Derived.Deep.RegionHeld3
namespace Go.Proofs.YtnkemoicgadefaaGreatDoor
open Go.RowKit
attribute [local go_sem] get_mk extract_mk
theorem bytesLess_eq : ∀ (x y : Str), Op.bytesLess x y = decide (x < y)
  | [], [] => by simp [Op.bytesLess]
  | _ :: _, [] => by simp [Op.bytesLess]
  | [], _ :: _ => by simp [Op.bytesLess]
  | a :: x, b :: y => by
    rw [Op.bytesLess, bytesLess_eq x y]
    rw [Bool.eq_iff_iff]
    simp only [Bool.or_eq_true, Bool.and_eq_true, decide_eq_true_eq, beq_iff_eq, List.cons_lt_cons_iff]
theorem incI_iff : ∀ (l : List Int), incI l = true ↔ ∀ (j : Nat) (x y : Int), l[j]? = some x → l[j + 1]? = some y → x < y
  | [] => by simp [incI]
  | [a] => by
    simp only [incI, true_iff]
    intro j x y _ h
    simp at h
  | a :: b :: l => by
    have ih := incI_iff (b :: l)
    simp only [incI, Bool.and_eq_true, decide_eq_true_eq, ih]
    constructor
    · rintro ⟨h1, h2⟩ j x y hx hy
      match j, hx, hy with
      | 0, hx, hy => simp at hx hy; subst hx hy; exact h1
      | j + 1, hx, hy => exact h2 j x y (by simpa using hx) (by simpa using hy)
    · intro h
      exact ⟨h 0 a b rfl rfl, fun j x y hx hy => h (j + 1) x y (by simpa using hx) (by simpa using hy)⟩
theorem incS_iff : ∀ (l : List Str), incS l = true ↔ ∀ (j : Nat) (x y : Str), l[j]? = some x → l[j + 1]? = some y → x < y
  | [] => by simp [incS]
  | [a] => by
    simp only [incS, true_iff]
    intro j x y _ h
    simp at h
  | a :: b :: l => by
    have ih := incS_iff (b :: l)
    simp only [incS, Bool.and_eq_true, decide_eq_true_eq, ih]
    constructor
    · rintro ⟨h1, h2⟩ j x y hx hy
      match j, hx, hy with
      | 0, hx, hy => simp at hx hy; subst hx hy; exact h1
      | j + 1, hx, hy => exact h2 j x y (by simpa using hx) (by simpa using hy)
    · intro h
      exact ⟨h 0 a b rfl rfl, fun j x y hx hy => h (j + 1) x y (by simpa using hx) (by simpa using hy)⟩
theorem incS_inc {l : List Str} (h : Inc l) : incS l = true := by
  rw [incS_iff]
  intro j x y hx hy
  obtain ⟨h1, h2⟩ := List.getElem?_eq_some_iff.1 hx
  obtain ⟨h3, h4⟩ := List.getElem?_eq_some_iff.1 hy
  have := List.pairwise_iff_getElem.1 h j (j + 1) h1 h3 (by omega)
  rw [h2, h4] at this
  exact this
set_option maxRecDepth 100000 in
theorem incI_k (A : Option Addr) (n c : Nat) (l : List Int) (w : World) (hl : Ints w A n c l) : Calls Tryz.prog 78 #[.slice A n c] w fun e w' => e = .returned (.bool (incI l)) ∧ w.grownBy w' none := by
  have HN := Lib.hid hl.len
  have hle := hl.v.le
  have hcap := hl.v.cap
  have HL := Lib.hid (fun W (g : w.grownBy W none) => hl.kept g)
  clear hl
  go_enter Tryz.func78, Tryz.ntmps78
  go_wp2_with fail
  go_loopw [3] (fun z wr => ∃ k : Nat, k ≤ n ∧ z = .int .i64 ((k : Int) + 1) ∧ Hid (∀ (j : Nat) (x y : Int), j < k → l[j]? = some x → l[j + 1]? = some y → x < y) ∧ w.grownBy wr none) (fun z _ => n + 1 - (intOf z).toNat)
  case atStart => exact ⟨0, Nat.zero_le _, rfl, Lib.hid (fun _ _ _ h => by omega), grown_refl _⟩
  case round =>
    obtain ⟨k, hk, rfl, HA, hg⟩ := hrel
    by_cases hlt : k + 1 < n
    · obtain ⟨ad, x, hx, _, rfl, hb, cx⟩ := (HL.out _ hg).at k (by omega)
      obtain ⟨ad2, y, hy, _, e2, _, cy⟩ := (HL.out _ hg).at (k + 1) hlt
      obtain rfl := Option.some.inj e2
      rw [add_at _ (k + 1) (by omega)] at cy
      have r1 : (0 : Int) ≤ (k : Int) := by omega
      have r2 : (k : Int) < (n : Int) := by omega
      have r3 : (k : Int) + 1 < (n : Int) := by omega
      have r4 : (0 : Int) ≤ (k : Int) + 1 := by omega
      have r5 : IntKind.i64.wrap (k : Int) = (k : Int) := by rw [IntKind.wrap_i64]; omega
      have r6 : IntKind.i64.wrap ((k : Int) + 1 + 1) = (k : Int) + 1 + 1 := by rw [IntKind.wrap_i64]; omega
      have r7 : ((k : Int) + 1).toNat = k + 1 := by omega
      have HX := Lib.hid hx
      have HY := Lib.hid hy
      clear hx hy e2 hb
      by_cases hxy : x < y
      · have HA2 : Hid (∀ (j : Nat) (a b : Int), j < k + 1 → l[j]? = some a → l[j + 1]? = some b → a < b) := Lib.hid (fun j a b hj ha hb => by
          by_cases e : j = k
          · subst e
            rw [HX.out] at ha
            rw [HY.out] at hb
            injection ha with ha
            injection hb with hb
            subst ha hb
            exact hxy
          · exact HA.out j a b (by omega) ha hb)
        have c1 : x < y := hxy
        clear HA HX HY HN
        go_wp2_with fail
        go_region
        go_wp2_with fail
        go_roundw
        case rel => exact ⟨k + 1, by omega, by go_num, HA2, grown_dr hg⟩
        case measure => simp [intOf]; omega
      · have HB : Hid (incI l = false) := Lib.hid (by
          rw [Bool.eq_false_iff]
          intro h
          exact hxy ((incI_iff l).1 h k x y HX.out HY.out))
        have c1 : ¬ x < y := hxy
        clear HA HX HY HN
        go_wp2_with fail
        go_region
        go_wp2_with fail
        go_ret
        exact ⟨by rw [HB.out]; rfl, grown_dr hg⟩
    · have HB : Hid (incI l = true) := Lib.hid ((incI_iff l).2 (fun j x y hx hy => by
        have := (List.getElem?_eq_some_iff.1 hy).1
        have hn := HN.out
        exact HA.out j x y (by omega) hx hy))
      clear HA HN
      go_wp2_with fail
      go_ret
      exact ⟨by rw [HB.out]; rfl, hg⟩
set_option maxRecDepth 100000 in
theorem incS_k (A : Option Addr) (n c : Nat) (l : List Str) (w : World) (hl : Strs w A n c l) : Calls Tryz.prog 79 #[.slice A n c] w fun e w' => e = .returned (.bool (incS l)) ∧ w.grownBy w' none := by
  have HN := Lib.hid hl.len
  have hle := hl.v.le
  have hcap := hl.v.cap
  have HL := Lib.hid (fun W (g : w.grownBy W none) => hl.kept g)
  clear hl
  go_enter Tryz.func79, Tryz.ntmps79
  go_wp2_with fail
  go_loopw [3] (fun z wr => ∃ k : Nat, k ≤ n ∧ z = .int .i64 ((k : Int) + 1) ∧ Hid (∀ (j : Nat) (x y : Str), j < k → l[j]? = some x → l[j + 1]? = some y → x < y) ∧ w.grownBy wr none) (fun z _ => n + 1 - (intOf z).toNat)
  case atStart => exact ⟨0, Nat.zero_le _, rfl, Lib.hid (fun _ _ _ h => by omega), grown_refl _⟩
  case round =>
    obtain ⟨k, hk, rfl, HA, hg⟩ := hrel
    by_cases hlt : k + 1 < n
    · obtain ⟨ad, x, hx, _, rfl, hb, cx⟩ := (HL.out _ hg).at k (by omega)
      obtain ⟨ad2, y, hy, _, e2, _, cy⟩ := (HL.out _ hg).at (k + 1) hlt
      obtain rfl := Option.some.inj e2
      rw [add_at _ (k + 1) (by omega)] at cy
      have r1 : (0 : Int) ≤ (k : Int) := by omega
      have r2 : (k : Int) < (n : Int) := by omega
      have r3 : (k : Int) + 1 < (n : Int) := by omega
      have r4 : (0 : Int) ≤ (k : Int) + 1 := by omega
      have r5 : IntKind.i64.wrap (k : Int) = (k : Int) := by rw [IntKind.wrap_i64]; omega
      have r6 : IntKind.i64.wrap ((k : Int) + 1 + 1) = (k : Int) + 1 + 1 := by rw [IntKind.wrap_i64]; omega
      have r7 : ((k : Int) + 1).toNat = k + 1 := by omega
      have HX := Lib.hid hx
      have HY := Lib.hid hy
      clear hx hy e2 hb
      by_cases hxy : x < y
      · have HA2 : Hid (∀ (j : Nat) (a b : Str), j < k + 1 → l[j]? = some a → l[j + 1]? = some b → a < b) := Lib.hid (fun j a b hj ha hb => by
          by_cases e : j = k
          · subst e
            rw [HX.out] at ha
            rw [HY.out] at hb
            injection ha with ha
            injection hb with hb
            subst ha hb
            exact hxy
          · exact HA.out j a b (by omega) ha hb)
        have c1 : Op.bytesLess x y = true := by rw [bytesLess_eq, decide_eq_true_eq]; exact hxy
        have c2 : Op.bytesLess y x = false := by rw [bytesLess_eq, decide_eq_false_iff_not]; exact lt_asy hxy
        have c3 : (y == x) = false := by rw [beq_eq_false_iff_ne]; intro e; rw [e] at hxy; exact lt_irr x hxy
        clear hxy
        clear HA HX HY HN
        go_wp2_with fail
        go_region
        go_wp2_with fail
        go_roundw
        case rel => exact ⟨k + 1, by omega, by go_num, HA2, grown_dr hg⟩
        case measure => simp [intOf]; omega
      · have HB : Hid (incS l = false) := Lib.hid (by
          rw [Bool.eq_false_iff]
          intro h
          exact hxy ((incS_iff l).1 h k x y HX.out HY.out))
        have c1 : Op.bytesLess x y = false := by rw [bytesLess_eq, decide_eq_false_iff_not]; exact hxy
        have c2 : (Op.bytesLess y x || (y == x)) = true := by
          rw [bytesLess_eq, Bool.or_eq_true, decide_eq_true_eq, beq_iff_eq]
          exact Classical.byContradiction fun h => hxy (Classical.byContradiction fun h2 => h (.inr (lt_tri y x (fun h3 => h (.inl h3)) h2)))
        clear hxy
        clear HA HX HY HN
        go_wp2_with fail
        go_region
        go_wp2_with fail
        go_ret
        exact ⟨by rw [HB.out]; rfl, grown_dr hg⟩
    · have HB : Hid (incS l = true) := Lib.hid ((incS_iff l).2 (fun j x y hx hy => by
        have := (List.getElem?_eq_some_iff.1 hy).1
        have hn := HN.out
        exact HA.out j x y (by omega) hx hy))
      clear HA HN
      go_wp2_with fail
      go_ret
      exact ⟨by rw [HB.out]; rfl, hg⟩
end Go.Proofs.YtnkemoicgadefaaGreatDoor
namespace Go.Proofs.YtnkemoicgadefaaGreatDoor
open Go.RowKit
attribute [local go_sem] get_mk extract_mk
theorem all_slot {l : List Int} {k : Nat} {z : Int} (h : l[k]? = some z) : (l.take (k + 1)).all slotB = ((l.take k).all slotB && slotB z) := by
  rw [List.take_add_one, h, List.all_append]
  simp
theorem all_no {l : List Int} {k : Nat} {z : Int} (h : l[k]? = some z) (hz : slotB z = false) : l.all slotB = false := by
  rw [List.all_eq_false]
  exact ⟨z, List.mem_of_getElem? h, by simp [hz]⟩
end Go.Proofs.YtnkemoicgadefaaGreatDoor
namespace Go.Proofs.YtnkemoicgadefaaGreatDoor
open Go.RowKit
attribute [local go_sem] get_mk extract_mk
theorem hasSlot {l : List Int} {A : Option Addr} {n c : Nat} {w : World} (h : Ints w A n c l) : Calls Tryz.prog 59 #[.slice A n c, .func (.func 77) #[] #[]] w fun e w' => e = .returned (.bool (!l.all slotB)) ∧ w.grownBy w' none := by
  have hn := h.len
  refine (hasI58 A n c l (fun k W => w.grownBy W none ∧ (l.take k).all slotB = true) (fun k W => w.grownBy W none ∧ l.all slotB = false) w ⟨grown_refl _, rfl⟩ (fun k W hW => h.kept hW.1) (fun k x W hx hW => ?_)).mono ?_
  · refine (noSlot_k x W).mono ?_
    rintro e W' ⟨rfl, rfl⟩
    exact ⟨_, rfl, fun hb => ⟨hW.1, by rw [all_slot hx, hW.2]; simpa using hb⟩, fun hb => ⟨hW.1, all_no hx (by simpa using hb)⟩⟩
  · rintro e W' (⟨rfl, g, ha⟩ | ⟨k, hk, rfl, g, ha⟩)
    · rw [hn, List.take_length] at ha
      exact ⟨by rw [ha]; rfl, g⟩
    · exact ⟨by rw [ha]; rfl, g⟩
set_option maxRecDepth 100000 in
set_option maxHeartbeats 2000000 in
theorem next_k (u v : V) (p o : O) (w : World) (hp : u.code = p.code ∧ p.code.length ≤ 1152921504606846976) (h : VIs w v o) : Calls Tryz.prog 47 #[.agg u.cells, .agg v.cells] w fun e w' => e = .returned (.int .i64 (nextV p.code o)) ∧ w.grownBy w' none := by
  obtain ⟨vc, vr, vp, sA, sn, sc, nA, nn, nc⟩ := v
  have hcode := h.code
  have hcr := h.cr
  have hpl := h.pl
  simp only at hcode hcr hpl
  subst hcode hcr hpl
  have hol := h.ok.1
  obtain ⟨i1, i2⟩ := h.ok.2.1
  obtain ⟨i3, i4⟩ := h.ok.2.2
  have HSL := Lib.hid (fun W (g : w.grownBy W none) => h.slots.kept g)
  have HND := Lib.hid (fun W (g : w.grownBy W none) => h.needs.kept g)
  have HL2 := Lib.hid h.needs.len
  have hle2 := h.needs.v.le
  have hcap2 := h.needs.v.cap
  clear h
  obtain ⟨oc, cr, pl, sl, nd⟩ := o
  simp only at i1 i2 i3 i4 HL2 HSL HND hol
  obtain ⟨uc, ur, up, uA, un, uc2, xA, xn, xc⟩ := u
  obtain ⟨hp1, hpl⟩ := hp
  simp only at hp1
  obtain ⟨pc, pcr, ppl, psl, pnd⟩ := p
  simp only at hp1 hpl ⊢
  subst hp1
  obtain ⟨w1, e1, HB, gg⟩ := row_of w 41 #[.string ⟨uc.toArray⟩, .int .i64 ur, .int .i64 up, .slice uA un uc2, .slice xA xn xc]
  obtain ⟨w2, e2, HC, g2⟩ := row_of w1 41 #[.string ⟨oc.toArray⟩, .int .i64 cr, .int .i64 pl, .slice sA sn sc, .slice nA nn nc]
  have hs1 : w1.heap.size = w.heap.size + 1 := by rw [e1]; simp
  have E1 := Lib.hid e1
  have E2 := Lib.hid e2
  rw [hs1] at HC
  replace HB := HB.kept g2
  replace gg := gg.trans g2
  clear e1 e2 g2
  simp only [V.cells]
  go_enter Tryz.func47, Tryz.ntmps47
  go_upto_region 1 with fail
  rw [← E1.out, ← E2.out]
  clear E1 E2 hs1
  generalize w.heap.size = B at *
  have b0 := HB.c 0 rfl
  have c0 := HC.c 0 rfl
  have c1 := HC.c 1 rfl
  have c2 := HC.c 2 rfl
  have c3 := HC.c 3 rfl
  have c4 := HC.c 4 rfl
  clear HB HC
  go_wp2_with fail
  refine (code_k oc hol _).mono ?_
  rintro e w3 ⟨rfl, rfl⟩
  cases hcb : codeB oc with
  | false =>
    have HE : Hid (nextV uc ⟨oc, cr, pl, sl, nd⟩ = 12) := Lib.hid (by unfold nextV; rw [if_pos hcb])
    clear hcb
    go_wp2_with fail
    go_ret
    exact ⟨by rw [HE.out]; rfl, gg⟩
  | true =>
  have HV : Hid (nextV uc ⟨oc, cr, pl, sl, nd⟩ = if oc = uc then 6 else if oc < uc then 7 else oneV ⟨oc, cr, pl, sl, nd⟩) := Lib.hid (by unfold nextV; rw [if_neg (by simp [hcb])])
  clear hcb
  by_cases he : oc = uc
  · have HE : Hid (nextV uc ⟨oc, cr, pl, sl, nd⟩ = 6) := Lib.hid (by rw [HV.out, if_pos he])
    have q1 : (oc == uc) = true := by simpa using he
    clear HV he
    go_wp2_with fail
    go_ret
    exact ⟨by rw [HE.out]; rfl, gg⟩
  have q1 : (oc == uc) = false := by simpa using he
  by_cases hlt : oc < uc
  · have HE : Hid (nextV uc ⟨oc, cr, pl, sl, nd⟩ = 7) := Lib.hid (by rw [HV.out, if_neg he, if_pos hlt])
    have q2 : Op.bytesLess oc uc = true := by rw [bytesLess_eq, decide_eq_true_eq]; exact hlt
    clear HV he hlt
    go_wp2_with fail
    go_ret
    exact ⟨by rw [HE.out]; rfl, gg⟩
  have q2 : Op.bytesLess oc uc = false := by rw [bytesLess_eq, decide_eq_false_iff_not]; exact hlt
  have HV2 : Hid (nextV uc ⟨oc, cr, pl, sl, nd⟩ = oneV ⟨oc, cr, pl, sl, nd⟩) := Lib.hid (by rw [HV.out, if_neg he, if_neg hlt])
  clear HV he hlt
  have HV3 : Hid (nextV uc ⟨oc, cr, pl, sl, nd⟩ = if ((decide (1 ≤ cr) && decide (cr ≤ 60)) && (decide (0 ≤ pl) && decide (pl ≤ 200)) && sl.all slotB) = false then 3 else if incI sl = false then 7 else if 5 < nd.length then 2 else if incS nd = false then 7 else 0) := Lib.hid (by
    rw [HV2.out]
    unfold oneV
    simp only [Bool.and_assoc])
  clear HV2
  go_wp2_with fail
  refine (withinI_k cr 1 60 _).mono ?_
  rintro e w4 ⟨rfl, rfl⟩
  generalize (decide (1 ≤ cr) && decide (cr ≤ 60)) = d1 at *
  clear i1 i2
  cases d1 with
  | false =>
    have HE : Hid (nextV uc ⟨oc, cr, pl, sl, nd⟩ = 3) := Lib.hid (by rw [HV3.out, if_pos (by simp)])
    clear HV3
    go_wp2_with fail
    go_ret
    exact ⟨by rw [HE.out]; rfl, gg⟩
  | true =>
  rw [Bool.true_and] at HV3
  go_wp2_with fail
  refine (withinI_k pl 0 200 _).mono ?_
  rintro e w5 ⟨rfl, rfl⟩
  generalize (decide (0 ≤ pl) && decide (pl ≤ 200)) = d2 at *
  clear i3 i4
  cases d2 with
  | false =>
    have HE : Hid (nextV uc ⟨oc, cr, pl, sl, nd⟩ = 3) := Lib.hid (by rw [HV3.out, if_pos (by simp)])
    clear HV3
    go_wp2_with fail
    go_ret
    exact ⟨by rw [HE.out]; rfl, gg⟩
  | true =>
  rw [Bool.true_and] at HV3
  go_wp2_with fail
  refine (hasSlot (HSL.out _ gg)).mono ?_
  rintro e w6 ⟨rfl, g⟩
  replace gg := gg.trans g
  replace c3 := gcell g c3
  replace c4 := gcell g c4
  clear g b0 c0 c1 c2
  generalize sl.all slotB = d3 at *
  cases d3 with
  | false =>
    have HE : Hid (nextV uc ⟨oc, cr, pl, sl, nd⟩ = 3) := Lib.hid (by rw [HV3.out, if_pos (by simp)])
    clear HV3
    go_wp2_with fail
    go_ret
    exact ⟨by rw [HE.out]; rfl, gg⟩
  | true =>
  rw [if_neg (by decide)] at HV3
  go_wp2_with fail
  refine (incI_k sA sn sc sl _ (HSL.out _ gg)).mono ?_
  rintro e w7 ⟨rfl, g⟩
  replace gg := gg.trans g
  replace c4 := gcell g c4
  clear g c3
  generalize incI sl = d4 at *
  cases d4 with
  | false =>
    have HE : Hid (nextV uc ⟨oc, cr, pl, sl, nd⟩ = 7) := Lib.hid (by rw [HV3.out, if_pos (by simp)])
    clear HV3
    go_wp2_with fail
    go_ret
    exact ⟨by rw [HE.out]; rfl, gg⟩
  | true =>
  rw [if_neg (by decide)] at HV3
  by_cases hn : (nn : Int) > 5
  · have HE : Hid (nextV uc ⟨oc, cr, pl, sl, nd⟩ = 2) := Lib.hid (by rw [HV3.out, if_pos (by have := HL2.out; omega)])
    clear HV3
    go_wp2_with fail
    go_ret
    exact ⟨by rw [HE.out]; rfl, gg⟩
  have HV4 : Hid (nextV uc ⟨oc, cr, pl, sl, nd⟩ = if incS nd = false then 7 else 0) := Lib.hid (by rw [HV3.out, if_neg (by have := HL2.out; omega)])
  clear HV3
  go_wp2_with fail
  refine (incS_k nA nn nc nd _ (HND.out _ gg)).mono ?_
  rintro e w8 ⟨rfl, g⟩
  replace gg := gg.trans g
  clear g c4
  generalize incS nd = bi at *
  cases bi <;> (go_wp2_with fail; go_ret; exact ⟨by rw [HV4.out]; rfl, gg⟩)
end Go.Proofs.YtnkemoicgadefaaGreatDoor
namespace Go.Proofs.YtnkemoicgadefaaGreatDoor
open Go.RowKit
attribute [local go_sem] get_mk extract_mk
abbrev Sl := Option Addr × Nat × Nat
def slv (s : Sl) : Value := .slice s.1 s.2.1 s.2.2
/-- block b is a map of lists of strings -/
def Dir (w : World) (b : Nat) (m : List (Str × List Str)) : Prop := ∃ z : List (Str × Sl × List Str), Dict encS w b (z.map fun p => (p.1, slv p.2.1)) ∧ m = z.map (fun p => (p.1, p.2.2)) ∧ ∀ p ∈ z, Strs w p.2.1.1 p.2.1.2.1 p.2.1.2.2 p.2.2 ∧ p.2.2.length ≤ 1000
theorem Dir.map {w : World} {b : Nat} {m : List (Str × List Str)} (h : Dir w b m) : MapAt w b := by
  obtain ⟨z, h, _⟩ := h
  exact h.map
theorem Dir.kept {w w' : World} {b : Nat} {m : List (Str × List Str)} (h : Dir w b m) (g : w.grownBy w' none) : Dir w' b m := by
  obtain ⟨z, h1, h2, h3⟩ := h
  exact ⟨z, h1.kept g, h2, fun p hp => ⟨(h3 p hp).1.kept g, (h3 p hp).2⟩⟩
theorem Dir.keptm {w w' : World} {b x : Nat} {m : List (Str × List Str)} (h : Dir w b m) (hm : MapAt w x) (hx : b ≠ x) (g : w.grownBy w' (some x)) : Dir w' b m := by
  obtain ⟨z, h1, h2, h3⟩ := h
  exact ⟨z, h1.keptR g (by simpa using hx), h2, fun p hp => ⟨(h3 p hp).1.keptm hm g, (h3 p hp).2⟩⟩
theorem und65 : Tryz.prog.underlying 75 = some (.map 9 37) := Tryz.underlying75
theorem und46 : Tryz.prog.underlying 78 = some (.map 9 4) := Tryz.underlying78
theorem und79 : Tryz.prog.underlying 86 = some (.map 3 4) := Tryz.underlying86
theorem zero33 (w : World) : (zeroValue 37).run Tryz.prog w = .ok (.slice none 0 0) w := by kernel_rfl
theorem zero4 (w : World) : (zeroValue 4).run Tryz.prog w = .ok (.bool false) w := by kernel_rfl
/-- direct[k] -/
theorem Dir.look {w : World} {b : Nat} {m : List (Str × List Str)} (h : Dir w b m) (k : Str) :
    ∃ A n c, (Instr.lookup 75 (.map (some b)) (.string ⟨k.toArray⟩) false).run Tryz.prog w = .ok (.slice A n c) w ∧ (Instr.lookup 75 (.map (some b)) (.string ⟨k.toArray⟩) true).run Tryz.prog w = .ok (.tuple #[.slice A n c, .bool (m.lookup k).isSome]) w ∧
      Strs w A n c ((m.lookup k).getD []) ∧ ((m.lookup k).getD []).length ≤ 1000 := by
  obtain ⟨z, h1, h2, h3⟩ := h
  have r1 := h1.look keyS und65 (zero33 w) k false
  have r2 := h1.look keyS und65 (zero33 w) k true
  have e1 : lk (z.map fun p => (p.1, slv p.2.1)) k = (lk z k).map (fun q => slv q.1) := lk_map (fun q : Sl × List Str => slv q.1) z k
  have e2 : m.lookup k = (lk z k).map (·.2) := by rw [lk_lookup, h2]; exact lk_map (fun q : Sl × List Str => q.2) z k
  rw [e1] at r1 r2
  rw [e2]
  cases hz : lk z k with
  | none =>
    rw [hz] at r1 r2
    exact ⟨none, 0, 0, r1, r2, Strs.nil_ w, by simp⟩
  | some q =>
    rw [hz] at r1 r2
    have := h3 _ (mem_of_lk hz)
    exact ⟨_, _, _, r1, r2, this.1, this.2⟩
theorem dir_put {w : World} {b : Nat} {m : List (Str × List Str)} (h : Dir w b m) {k : Str} (hk : (m.lookup k).isSome = false) {A : Option Addr} {n c : Nat} {ns : List Str} (hs : Strs w A n c ns) (hn : ns.length ≤ 1000) :
    ∃ w', (Instr.mapUpdate 75 (.map (some b)) (.string ⟨k.toArray⟩) (.slice A n c)).run Tryz.prog w = .ok () w' ∧ Dir w' b (m ++ [(k, ns)]) ∧ w.grownBy w' (some b) ∧ w'.heap.size = w.heap.size := by
  have hm := h.map
  obtain ⟨z, h1, h2, h3⟩ := h
  obtain ⟨w', r, hd, g, hz⟩ := h1.put keyS und65 k (.slice A n c)
  refine ⟨w', r, ⟨z ++ [(k, (A, n, c), ns)], ?_, by rw [h2, List.map_append]; rfl, fun p hp => ?_⟩, g, hz⟩
  · have hn : fi (z.map fun p => (p.1, slv p.2.1)) k = none := by
      have e := fi_look (z.map fun p => (p.1, slv p.2.1)) k
      rw [lk_map (fun q : Sl × List Str => slv q.1) z k] at e
      rw [lk_lookup, h2, lk_map (fun q : Sl × List Str => q.2) z k] at hk
      cases hz : lk z k with
      | none =>
        rw [hz] at e
        cases hf : fi (z.map fun p => (p.1, slv p.2.1)) k with
        | none => rfl
        | some x => rw [hf] at e; cases e
      | some x => rw [hz] at hk; cases hk
    rw [putL_none _ _ _ hn] at hd
    rw [List.map_append]
    exact hd
  · rcases List.mem_append.1 hp with hp | hp
    · exact ⟨(h3 p hp).1.keptm hm g, (h3 p hp).2⟩
    · obtain rfl := List.mem_singleton.1 hp
      exact ⟨hs.keptm hm g, hn⟩
theorem dirA_snoc : ∀ (l : List O) (m : List (Str × List Str)) (o : O), dirA (l ++ [o]) m = if ((dirA l m).lookup o.code).isSome then dirA l m else dirA l m ++ [(o.code, o.needs)]
  | [], m, o => rfl
  | x :: l, m, o => by
    show dirA (l ++ [o]) _ = _
    rw [dirA_snoc l _ o]
    rfl
theorem take_snoc {α : Type} {l : List α} {k : Nat} {x : α} (h : l[k]? = some x) : l.take (k + 1) = l.take k ++ [x] := by
  rw [List.take_add_one, h]; rfl
set_option maxRecDepth 100000 in
set_option maxHeartbeats 1000000 in
theorem required_k (A : Option Addr) (n c : Nat) (vs : List V) (l : List O) (w : World) (h : Offs w A n c vs l) :
    Calls Tryz.prog 48 #[.slice A n c] w fun e w' => ∃ b, e = .returned (.map (some b)) ∧ w.heap.size ≤ b ∧ Dir w' b (dirV l) ∧ w.grownBy w' none := by
  have HO := Lib.hid (fun W (g : w.grownBy W none) => h.kept g)
  have HL := Lib.hid h.len
  have hle := h.v.le
  have hcap := h.v.cap
  clear h
  have hmm := makeMap_k und65 (n : Int)
  go_enter Tryz.func48, Tryz.ntmps48
  have hg0 := World.grownBy_alloc w (.map #[] 0) none
  have hd0 : Dir (w.alloc (.map #[] 0)) w.heap.size [] := ⟨[], Dict.made w, rfl, (fun _ h => by cases h)⟩
  generalize hw1 : w.alloc (.map #[] 0) = w1 at *
  have hmm2 := hmm w
  rw [hw1] at hmm2
  clear hmm hw1
  generalize hbb : w.heap.size = b at *
  have HBB := Lib.hid hbb
  clear hbb
  go_wp2_with fail
  go_loopw [13] (fun z wr => ∃ k : Nat, k ≤ n ∧ z = .int .i64 (k : Int) ∧ Hid (Dir wr b (dirV (l.take k))) ∧ w.grownBy wr none) (fun z _ => n - (intOf z).toNat)
  case atStart => exact ⟨0, Nat.zero_le _, rfl, Lib.hid hd0, hg0⟩
  case round =>
    obtain ⟨k, hk, rfl, HD, hg⟩ := hrel
    clear hd0 hmm2 hg0
    by_cases hlt : k < n
    · obtain ⟨ad, v, o, ho, _, rfl, hbl, hv, x0, x1, x2, x3, x4⟩ := (HO.out _ hg).at k hlt
      have HT : Hid (dirV (l.take (k + 1)) = if ((dirV (l.take k)).lookup o.code).isSome then dirV (l.take k) else dirV (l.take k) ++ [(o.code, o.needs)]) := Lib.hid (by rw [take_snoc ho]; exact dirA_snoc _ _ _)
      have HV := Lib.hid hv
      have hcd := hv.code
      obtain ⟨vc, vr, vp, sA, sn, sc, nA, nn, nc⟩ := v
      simp only at x0 x1 x2 x3 x4 hcd
      subst hcd
      clear ho hv
      go_upto_region 5 with fail
      obtain ⟨w2, e2, HC, g2⟩ := row_of wr 41 #[.string ⟨o.code.toArray⟩, .int .i64 vr, .int .i64 vp, .slice sA sn sc, .slice nA nn nc]
      rw [← e2]
      replace hg := hg.trans g2
      have HD2 := Lib.hid (HD.out.kept g2)
      have HS := Lib.hid (HV.out.needs.kept g2)
      clear e2 x0 x1 x2 x3 x4 hbl HD
      generalize wr.heap.size = C at *
      have c0 := HC.c 0 rfl
      have c4 := HC.c 4 rfl
      obtain ⟨LA, ln, lc, _, lk2, _, _⟩ := HD2.out.look o.code
      cases hs : ((dirV (l.take k)).lookup o.code).isSome with
      | true =>
        have HD3 : Hid (Dir w2 b (dirV (l.take (k + 1)))) := Lib.hid (by rw [HT.out, hs]; exact HD2.out)
        rw [hs] at lk2
        clear HD2 HT HS HV g2 HC hs
        go_wp2_with fail
        go_roundw
        case rel => exact ⟨k + 1, by omega, by go_num, HD3, hg⟩
        case measure => simp [intOf]; omega
      | false =>
        obtain ⟨w3, r3, hd3, g3, hz3⟩ := dir_put HD2.out hs HS.out HV.out.few.2
        have HD3 : Hid (Dir w3 b (dirV (l.take (k + 1)))) := Lib.hid (by rw [HT.out, hs]; exact hd3)
        rw [hs] at lk2
        have hg3 : w.grownBy w3 none := hg.andThen g3 (by rintro j ⟨⟩; exact .inl (by rw [HBB.out]; exact Nat.le_refl _))
        clear HD2 HT HS HV g2 HC hs hd3 g3 hz3
        go_wp2_with fail
        go_roundw
        case rel => exact ⟨k + 1, by omega, by go_num, HD3, hg3⟩
        case measure => simp [intOf]; omega
    · obtain rfl : n = k := by omega
      have HD2 : Hid (Dir wr b (dirV l)) := Lib.hid (by
        have := HD.out
        rw [HL.out, List.take_length] at this
        exact this)
      clear HD
      go_wp2_with fail
      go_ret
      exact ⟨b, rfl, Nat.le_refl _, HD2.out, hg⟩
end Go.Proofs.YtnkemoicgadefaaGreatDoor
