/-
  course.Encode.
-/
import Derived.Test.YtnkemoicgadefaaGreatDoorCdm
import Derived.Test.YtnkemoicgadefaaGreatDoorRfb
import Derived.Test.YtnkemoicgadefaaGreatDoorWA
import Derived.Shelf.Strings.BuilderK
namespace Go.Proofs.YtnkemoicgadefaaGreatDoor
open Go.RowKit
open Wire (serI serT serL)
attribute [local go_sem] get_mk extract_mk
/-- a builder at b that holds l -/
def Bd (w : World) (B b : Nat) (l : Str) : Prop := Lib.IsBuilderF 58 5 B b (Lib.byteCells l) w
theorem bd_new (w : World) : Bd (w.alloc (.cells #[.pointer none, .slice none 0 0] 58)) w.heap.size w.heap.size [] := Lib.IsBuilderF.of (Wire.builder_new w)
theorem bd_kept {w w' : World} {B b : Nat} {l : Str} (h : Bd w B b l) (hg : w.grownBy w' none) : Bd w' B b l := by
  have one : ∀ p, Lib.BuilderAtF 58 5 B b p (Lib.byteCells l) w → Lib.BuilderAtF 58 5 B b p (Lib.byteCells l) w' := by
    rintro p ⟨hB, v, hb, ho, hn⟩
    refine ⟨hB, v, ?_, ho.kept hg ?_, hn⟩
    · rw [hg.block b (Array.getElem?_eq_some_iff.1 hb).1 (by simp)]
      exact hb
    · cases v.ownBlock with
      | none => exact .inl rfl
      | some k => exact .inr (by simp)
  exact h.elim (fun x => .inl (one _ x)) (fun x => .inr (one _ x))
theorem bd_lt {w : World} {B b : Nat} {l : Str} (h : Bd w B b l) : b < w.heap.size := h.elim (fun x => x.lt) (fun x => x.lt)
theorem bd_write (B b : Nat) (l s : Str) (w : World) (h : Bd w B b l) (hl : l.length + s.length ≤ 2000000) (hB : B ≤ w.heap.size) :
    Calls Tryz.prog 24 #[.pointer (some ⟨b, 0, none⟩), .string ⟨s.toArray⟩] w fun e w' => e = .returned (.tuple #[.int .i64 s.length, .nilIface]) ∧ Bd w' B b (l ++ s) ∧ Below B w w' ∧ Lib.OthersKept 5 (some b) w w' := by
  have hs : (⟨s.toArray⟩ : ByteArray).size = s.length := by show s.toArray.size = _; simp
  refine (Any.Builder_WriteString_k Tryz.lays166 Tryz.Builder_Extra_166 B b _ ⟨s.toArray⟩ w h (by rw [Lib.byteCells_length, hs]; omega) hB).mono fun _ _ ⟨he, hbd, hw, ho⟩ => ⟨by rw [he, hs], .inr ?_, hw, ho⟩
  rw [Lib.byteCells_append]
  rw [Lib.strCells_eq] at hbd
  have hbd' : Lib.BuilderAtF 58 5 B b (.pointer (some ⟨b, 0, none⟩)) (Lib.byteCells l ++ Lib.byteCells (⟨s.toArray⟩ : ByteArray).data.toList) _ := hbd
  simpa using hbd'
theorem bd_string (B b : Nat) (l : Str) (w : World) (h : Bd w B b l) (hB : B ≤ w.heap.size) :
    Calls Tryz.prog 29 #[.pointer (some ⟨b, 0, none⟩)] w fun e w' => e = .returned (.string ⟨l.toArray⟩) ∧ Below B w w' :=
  (Any.Builder_String_any_k Tryz.lays169 Tryz.Builder_Extra_169 B b l w h hB).mono fun _ _ ⟨he, _, hw, _⟩ => ⟨he, hw⟩
theorem row_others {w w' : World} {P b : Nat} {vs : Array Value} (h : Row w P 41 vs) (ho : Lib.OthersKept 5 (some b) w w') (hne : P ≠ b) : Row w' P 41 vs :=
  ho P _ h (by simpa using hne) (fun c fz e => by injection e with _ e; cases e)
theorem wints_of {w : World} {A : Option Addr} {n c : Nat} {l : List Int} (h : Ints w A n c l) (hb : Wire.Base w) (hf : (l.flatMap serI).length < 1000000) :
    Calls Tryz.prog 27 #[.slice A n c] w fun e w' => e = .returned (.string ⟨(serL serI l).toArray⟩) ∧ w.grownBy w' none :=
  Wire.wInts A c n l w hb h.len h.ok hf h.v.le h.v.cap (fun h0 => by
    obtain ⟨ad, e, h1, h2⟩ := h.v.cell h0
    exact ⟨ad, e, h1, fun j x hx => h2 j _ (by rw [List.getElem?_map, hx]; rfl)⟩)
theorem wtexts_of {w : World} {A : Option Addr} {n c : Nat} {l : List Str} (h : Strs w A n c l) (hb : Wire.Base w) (hf : (l.flatMap serT).length < 1000000) :
    Calls Tryz.prog 28 #[.slice A n c] w fun e w' => e = .returned (.string ⟨(serL serT l).toArray⟩) ∧ w.grownBy w' none :=
  Wire.wTexts A c n l w hb h.len (fun x hx => Nat.le_trans (h.ok x hx) (by omega)) hf h.v.le h.v.cap (fun h0 => by
    obtain ⟨ad, e, h1, h2⟩ := h.v.cell h0
    exact ⟨ad, e, h1, fun j x hx => h2 j _ (by rw [List.getElem?_map, hx]; rfl)⟩)
theorem serO_fit {l : List O} {o : O} (h : o ∈ l) {n : Nat} (hl : (serC l).length ≤ n) : (serO o).length ≤ n ∧ o.code.length ≤ n ∧ (o.slots.flatMap serI).length ≤ n ∧ (o.needs.flatMap serT).length ≤ n := by
  have h1 := flat_mem (f := serO) h
  have h2 := serT_two o.code
  simp only [serC, List.length_append] at hl
  have h3 : (serO o).length ≤ n := by omega
  refine ⟨h3, ?_⟩
  simp only [serO, serL, List.length_append, List.length_cons] at h3
  omega
theorem take_ser {l : List O} {k : Nat} {o : O} (h : l[k]? = some o) : (l.take (k + 1)).flatMap serO = (l.take k).flatMap serO ++ serO o := by
  rw [take_snoc h]
  simp
theorem take_fit {l : List O} {n : Nat} (k : Nat) (hl : (serC l).length ≤ n) : (serI l.length).length + ((l.take k).flatMap serO).length ≤ n := by
  have : ((l.take k).flatMap serO).length ≤ (l.flatMap serO).length := Wire.flat_take_le serO l k
  simp only [serC, List.length_append] at hl
  omega
set_option maxRecDepth 100000 in
set_option maxHeartbeats 8000000 in
/-- course.Encode -/
theorem encode_k (A : Option Addr) (n c : Nat) (vs : List V) (l : List O) (w : World) (h : Offs w A n c vs l) (hb : Wire.Base w) (hl : (serC l).length ≤ 2000) :
    Calls Tryz.prog 7 #[.slice A n c] w fun e w' => e = .returned (.string ⟨(serC l).toArray⟩) ∧ w.grownBy w' none := by
  have HA := Lib.hid (fun W (g : w.grownBy W none) => h.kept g)
  have HLN := Lib.hid h.len
  have BS := Lib.hid (fun W (g : Below w.heap.size w W) => hb.none_ (Wire.grown_of_below g))
  have HLL := Lib.hid hl
  have hle := h.v.le
  have hcap := h.v.cap
  have H0 : Hid (Wire.I64 n) := Lib.hid ⟨by omega, by omega⟩
  have HWI := Lib.hid (fun W (g : Below w.heap.size w W) => Wire.wInt n H0.out W (BS.out W g))
  have hB0 : Below w.heap.size w (w.alloc (.cells #[.pointer none, .slice none 0 0] 58)) := (Below.refl _ w).alloc (Nat.le_refl _) _
  have HB0 := Lib.hid hB0
  have HW0 := Lib.hid (bd_new w)
  have HS : Hid ((serI n).length ≤ 2000) := Lib.hid (by have := take_fit 0 hl; rw [← h.len] at this; omega)
  clear h hb hl hB0
  go_enter Tryz.func7, Tryz.ntmps7
  go_wp2_with (first
    | (go_at_call 25; refine (HWI.out _ HB0.out).mono ?_; rintro e w2 ⟨rfl, g2⟩; have HW2 := Lib.hid (bd_kept HW0.out g2); have HB2 := Lib.hid (HB0.out.trans ((Wire.below_of_grown g2).mono HB0.out.size)); clear g2)
    | (go_at_call 24; refine (bd_write _ _ _ _ _ HW2.out (by simp only [List.length_nil]; have := HS.out; omega) HB2.out.size).mono ?_; rintro e w3 ⟨rfl, hw, hb, ho⟩; have HW3 := Lib.hid hw; have HB3 := Lib.hid (HB2.out.trans hb); have HZ3 := Lib.hid (Nat.lt_of_lt_of_le (bd_lt HW3.out) (Nat.le_refl _)); clear hw hb ho))
  clear HB0 HB2 HW2 HW0 HWI
  go_loopw [15] (fun z wr => ∃ k : Nat, k ≤ n ∧ z = .int .i64 (k : Int) ∧ Hid (Bd wr w.heap.size w.heap.size (serI n ++ (l.take k).flatMap serO)) ∧ Hid (Below w.heap.size w wr) ∧ Hid (w.heap.size < wr.heap.size)) (fun z _ => n - (intOf z).toNat)
  case atStart => exact ⟨0, Nat.zero_le _, rfl, Lib.hid (by simpa using HW3.out), HB3, HZ3⟩
  case round =>
    obtain ⟨k, hk, rfl, HWk, HBk, HZk⟩ := hrel
    by_cases hlt : k < n
    · obtain ⟨ad, v, o, ho, hvk, rfl, _, hv, x0, x1, x2, x3, x4⟩ := (HA.out _ (Wire.grown_of_below HBk.out)).at k hlt
      have HV0 := Lib.hid ((HA.out w (grown_refl _)).is k v o hvk ho)
      obtain ⟨vc_, vr, vp, sA, sn, sc, nA, nn, nc⟩ := v
      have hcd := hv.code
      have hcr := hv.cr
      have hpl := hv.pl
      simp only at x0 x1 x2 x3 x4 hcd hcr hpl
      subst hcd hcr hpl
      have hok := hv.ok
      have HSL := Lib.hid HV0.out.slots
      have HND := Lib.hid HV0.out.needs
      have hfit := serO_fit (List.mem_of_getElem? ho) HLL.out
      have HFL : Hid ((o.slots.flatMap serI).length < 1000000 ∧ (o.needs.flatMap serT).length < 1000000) := Lib.hid ⟨by omega, by omega⟩
      have HOK : Hid (o.code.length ≤ 4611686018427387904 ∧ Wire.I64 o.cr ∧ Wire.I64 o.pl) := Lib.hid ⟨by omega, hok.2.1, hok.2.2⟩
      have HTS := Lib.hid (take_ser ho)
      have hsum : (serO o).length = (serT o.code).length + ((serI o.cr).length + ((serI o.pl).length + ((serL serI o.slots).length + (serL serT o.needs).length))) := by simp only [serO, List.length_append]
      have hpre := take_fit k HLL.out
      rw [← HLN.out] at hpre
      have HL0 : Hid ((serI n ++ (l.take k).flatMap serO).length + (serT o.code).length ≤ 2000000) := Lib.hid (by simp only [List.length_append]; omega)
      have HL1 : Hid (((serI n ++ (l.take k).flatMap serO) ++ serT o.code).length + (serI o.cr).length ≤ 2000000) := Lib.hid (by simp only [List.length_append]; omega)
      have HL2 : Hid ((((serI n ++ (l.take k).flatMap serO) ++ serT o.code) ++ serI o.cr).length + (serI o.pl).length ≤ 2000000) := Lib.hid (by simp only [List.length_append]; omega)
      have HL3 : Hid (((((serI n ++ (l.take k).flatMap serO) ++ serT o.code) ++ serI o.cr) ++ serI o.pl).length + (serL serI o.slots).length ≤ 2000000) := Lib.hid (by simp only [List.length_append]; omega)
      have HL4 : Hid ((((((serI n ++ (l.take k).flatMap serO) ++ serT o.code) ++ serI o.cr) ++ serI o.pl) ++ serL serI o.slots).length + (serL serT o.needs).length ≤ 2000000) := Lib.hid (by simp only [List.length_append]; omega)
      clear hv ho hvk hok hfit hsum hpre
      obtain ⟨w6, e6, hp6, g6⟩ := row_of wr 41 #[.string ⟨o.code.toArray⟩, .int .i64 o.cr, .int .i64 o.pl, .slice sA sn sc, .slice nA nn nc]
      have E6 := Lib.hid e6
      have HW0 := Lib.hid (bd_kept HWk.out g6)
      have HB0 := Lib.hid (HBk.out.trans ((Wire.below_of_grown g6).mono (Nat.le_of_lt HZk.out)))
      have HP0 := Lib.hid hp6
      have HPN : Hid (wr.heap.size ≠ w.heap.size) := Lib.hid (by have := HZk.out; omega)
      clear e6 hp6 g6
      go_upto_region 7 with fail
      rw [← E6.out]
      clear E6 x0 x1 x2 x3 x4
      obtain ⟨P, hP⟩ : ∃ P, P = wr.heap.size := ⟨_, rfl⟩
      rw [← hP] at HP0 HPN ⊢
      have HZP : Hid (w.heap.size < P) := Lib.hid (by rw [hP]; exact HZk.out)
      clear hP
      have c := HP0.out.c 0 rfl
      go_upto_region 8 with (first
        | (go_at_call 26; refine (Wire.wText _ HOK.out.1 _ (BS.out _ HB0.out)).mono ?_; rintro e a0 ⟨rfl, ga0⟩; have HBa0 := Lib.hid (bd_kept HW0.out ga0); replace ga0 := Lib.hid ga0; have z := Lib.hid (show w.heap.size ≤ a0.heap.size from Nat.le_trans HB0.out.size ga0.out.size))
        | (go_at_call 24; refine (bd_write _ _ _ _ _ HBa0.out (HL0.out) z.out).mono ?_; rintro e b0 ⟨rfl, hw, hb, ho⟩; replace hw := Lib.hid hw; replace hb := Lib.hid hb; replace ho := Lib.hid ho))
      have HP1 := Lib.hid (row_others (HP0.out.kept ga0.out) ho.out HPN.out)
      have HB1 := Lib.hid ((HB0.out.trans ((Wire.below_of_grown ga0.out).mono HB0.out.size)).trans hb.out)
      have HW1 := hw
      clear c z hw hb ho ga0 HBa0 HP0 HB0 HW0
      have c := HP1.out.c 1 rfl
      go_upto_region 9 with (first
        | (go_at_call 25; refine (Wire.wInt _ HOK.out.2.1 _ (BS.out _ HB1.out)).mono ?_; rintro e a1 ⟨rfl, ga1⟩; have HBa1 := Lib.hid (bd_kept HW1.out ga1); replace ga1 := Lib.hid ga1; have z := Lib.hid (show w.heap.size ≤ a1.heap.size from Nat.le_trans HB1.out.size ga1.out.size))
        | (go_at_call 24; refine (bd_write _ _ _ _ _ HBa1.out (HL1.out) z.out).mono ?_; rintro e b1 ⟨rfl, hw, hb, ho⟩; replace hw := Lib.hid hw; replace hb := Lib.hid hb; replace ho := Lib.hid ho))
      have HP2 := Lib.hid (row_others (HP1.out.kept ga1.out) ho.out HPN.out)
      have HB2 := Lib.hid ((HB1.out.trans ((Wire.below_of_grown ga1.out).mono HB1.out.size)).trans hb.out)
      have HW2 := hw
      clear c z hw hb ho ga1 HBa1 HP1 HB1 HW1
      have c := HP2.out.c 2 rfl
      go_upto_region 10 with (first
        | (go_at_call 25; refine (Wire.wInt _ HOK.out.2.2 _ (BS.out _ HB2.out)).mono ?_; rintro e a2 ⟨rfl, ga2⟩; have HBa2 := Lib.hid (bd_kept HW2.out ga2); replace ga2 := Lib.hid ga2; have z := Lib.hid (show w.heap.size ≤ a2.heap.size from Nat.le_trans HB2.out.size ga2.out.size))
        | (go_at_call 24; refine (bd_write _ _ _ _ _ HBa2.out (HL2.out) z.out).mono ?_; rintro e b2 ⟨rfl, hw, hb, ho⟩; replace hw := Lib.hid hw; replace hb := Lib.hid hb; replace ho := Lib.hid ho))
      have HP3 := Lib.hid (row_others (HP2.out.kept ga2.out) ho.out HPN.out)
      have HB3 := Lib.hid ((HB2.out.trans ((Wire.below_of_grown ga2.out).mono HB2.out.size)).trans hb.out)
      have HW3 := hw
      clear c z hw hb ho ga2 HBa2 HP2 HB2 HW2
      have c := HP3.out.c 3 rfl
      go_upto_region 11 with (first
        | (go_at_call 27; refine (wints_of (HSL.out.kept (Wire.grown_of_below HB3.out)) (BS.out _ HB3.out) HFL.out.1).mono ?_; rintro e a3 ⟨rfl, ga3⟩; have HBa3 := Lib.hid (bd_kept HW3.out ga3); replace ga3 := Lib.hid ga3; have z := Lib.hid (show w.heap.size ≤ a3.heap.size from Nat.le_trans HB3.out.size ga3.out.size))
        | (go_at_call 24; refine (bd_write _ _ _ _ _ HBa3.out (HL3.out) z.out).mono ?_; rintro e b3 ⟨rfl, hw, hb, ho⟩; replace hw := Lib.hid hw; replace hb := Lib.hid hb; replace ho := Lib.hid ho))
      have HP4 := Lib.hid (row_others (HP3.out.kept ga3.out) ho.out HPN.out)
      have HB4 := Lib.hid ((HB3.out.trans ((Wire.below_of_grown ga3.out).mono HB3.out.size)).trans hb.out)
      have HW4 := hw
      clear c z hw hb ho ga3 HBa3 HP3 HB3 HW3
      have c := HP4.out.c 4 rfl
      go_upto_region 12 with (first
        | (go_at_call 28; refine (wtexts_of (HND.out.kept (Wire.grown_of_below HB4.out)) (BS.out _ HB4.out) HFL.out.2).mono ?_; rintro e a4 ⟨rfl, ga4⟩; have HBa4 := Lib.hid (bd_kept HW4.out ga4); replace ga4 := Lib.hid ga4; have z := Lib.hid (show w.heap.size ≤ a4.heap.size from Nat.le_trans HB4.out.size ga4.out.size))
        | (go_at_call 24; refine (bd_write _ _ _ _ _ HBa4.out (HL4.out) z.out).mono ?_; rintro e b4 ⟨rfl, hw, hb, ho⟩; replace hw := Lib.hid hw; replace hb := Lib.hid hb; replace ho := Lib.hid ho))
      have HP5 := Lib.hid (row_others (HP4.out.kept ga4.out) ho.out HPN.out)
      have HB5 := Lib.hid ((HB4.out.trans ((Wire.below_of_grown ga4.out).mono HB4.out.size)).trans hb.out)
      have HW5 := hw
      clear c z hw hb ho ga4 HBa4 HP4 HB4 HW4
      have HWX : Hid (Bd b4 w.heap.size w.heap.size (serI n ++ (l.take (k + 1)).flatMap serO)) := Lib.hid (by
        have h := HW5.out
        rw [HTS.out]
        simpa only [serO, List.append_assoc] using h)
      have HZX : Hid (w.heap.size < b4.heap.size) := Lib.hid (bd_lt HW5.out)
      clear HW5
      go_wp2_with fail
      exact ⟨⟨k + 1, by omega, by go_num, HWX, HB5, HZX⟩, by simp [intOf]; omega⟩
    · obtain rfl : k = n := by omega
      have HT : Hid (serI k ++ (l.take k).flatMap serO = serC l) := Lib.hid (by
        have := HLN.out
        rw [List.take_of_length_le (by omega), this]
        rfl)
      rw [HT.out] at HWk
      go_wp2_with (go_at_call 29; refine (bd_string _ _ _ _ HWk.out (Nat.le_of_lt HZk.out)).mono ?_; rintro e w3 ⟨rfl, hw⟩)
      go_ret
      exact ⟨rfl, Wire.grown_of_below (HBk.out.trans hw)⟩
end Go.Proofs.YtnkemoicgadefaaGreatDoor
