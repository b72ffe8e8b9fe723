/-
  The clocks of date: Now and Hear as functions of the last stamp.
-/
import Derived.Test.YtgfifpbmjkjnpaaHear
namespace Go.Proofs.Ytgfifpbmjkjnpaa
open Go.RowKit
/-- Now on day: the stamp, the error, and the last stamp from then on -/
def nowR (sv d c s day : Int) : Int × Int × Int × Int × Int × Int × Int :=
  if rightB day = true then (if d < day then (day, 0, sv, 0, day, 0, sv) else if 1073741824 ≤ c then (0, 0, 0, 3, d, c, s) else (d, c + 1, sv, 0, d, c + 1, sv)) else (0, 0, 0, 23, d, c, s)
/-- Hear of a stamp on day: the error, and the last stamp from then on -/
def hearR (d c s p q r day : Int) : Int × Int × Int × Int :=
  if rightB day = true then (if rightB p = true then (if p - day ≤ 5 then (if 0 ≤ q then (if q ≤ 1073741824 then (if serverB r = true then (if lessB d c s p q r = true then (0, p, q, r) else (0, d, c, s)) else (3, d, c, s)) else (3, d, c, s)) else (3, d, c, s)) else (23, d, c, s)) else (23, d, c, s)) else (23, d, c, s)
theorem now_k (b : Nat) (sv d c s day x y z er d' c' s' : Int) (w : World) (h : Ck 57 w b sv d c s) (hc : -1 ≤ c) (hz : c ≠ 0 ∨ s ≠ 0) (hN : nowR sv d c s day = (x, y, z, er, d', c', s')) :
    Calls Try.prog 30 #[.pointer (some ⟨b, 0, none⟩), .int .i64 day] w fun e w' => e = .returned (.tuple #[.agg #[.int .i64 x, .int .i64 y, .int .i64 z], .int .i64 er]) ∧ Ck 57 w' b sv d' c' s' ∧ w.grownBy w' (some b) := by
  have hb := h.lt
  have hA := h.kept (World.grownBy_alloc w (.cells #[.int .i64 0, .int .i64 0, .int .i64 0] 39) none)
  refine now_w (some ⟨b, 0, none⟩) (some b) day x y z er w (by simp; omega) (fun w' => Ck 57 w' b sv d' c' s') (fun wx o i v ho hx => hx.far (by omega)) ?_
  by_cases hr : rightB day = true
  · by_cases h1 : d < day
    · simp only [nowR, hr, h1, if_true] at hN
      obtain ⟨rfl, rfl, rfl, rfl, rfl, rfl, rfl⟩ := by simpa using hN
      exact move_okn b _ d c s _ _ hA _ _ _ hr hz (fun w1 g => next_a b _ d c s _ w1 (hA.kept g) h1)
    · by_cases h2 : 1073741824 ≤ c
      · simp only [nowR, hr, h1, h2, if_true, if_false] at hN
        obtain ⟨rfl, rfl, rfl, rfl, rfl, rfl, rfl⟩ := by simpa using hN
        exact (move_ern b _ _ _ _ _ _ hA _ _ _ 3 hr hz rfl (fun w1 g => next_b b _ _ _ _ _ w1 (hA.kept g) (by omega) h2)).mono fun _ _ ⟨he, hg⟩ => ⟨he, hA.kept hg, hg.but _⟩
      · simp only [nowR, hr, h1, h2, if_true, if_false] at hN
        obtain ⟨rfl, rfl, rfl, rfl, rfl, rfl, rfl⟩ := by simpa using hN
        exact move_okn b _ _ c s _ _ hA _ _ _ hr hz (fun w1 g => next_c b _ _ c s _ w1 (hA.kept g) (by omega) hc (by omega))
  · simp only [nowR, hr] at hN
    obtain ⟨rfl, rfl, rfl, rfl, rfl, rfl, rfl⟩ := by simpa using hN
    exact (move_badn b _ _ _ _ _ _ hA (by simpa using hr) hz).mono fun _ _ ⟨he, hg⟩ => ⟨he, hA.kept hg, hg.but _⟩
theorem now_zero (b : Nat) (sv day : Int) (w : World) (h : Ck 57 w b sv 0 0 0) :
    Calls Try.prog 30 #[.pointer (some ⟨b, 0, none⟩), .int .i64 day] w fun e w' => e = .returned (.tuple #[.agg #[.int .i64 0, .int .i64 0, .int .i64 0], .int .i64 1]) ∧ w.grownBy w' none := by
  have hA := h.kept (World.grownBy_alloc w (.cells #[.int .i64 0, .int .i64 0, .int .i64 0] 39) none)
  exact (now_w (some ⟨b, 0, none⟩) none day 0 0 0 1 w (by simp) (fun _ => True) (fun _ _ _ _ _ _ => trivial) ((move_zeron b sv day _ hA).mono fun _ _ ⟨he, hg⟩ => ⟨he, trivial, hg⟩)).mono fun _ _ ⟨he, _, hg⟩ => ⟨he, hg⟩
theorem now_nil (day : Int) (w : World) :
    Calls Try.prog 30 #[.pointer none, .int .i64 day] w fun e w' => e = .returned (.tuple #[.agg #[.int .i64 0, .int .i64 0, .int .i64 0], .int .i64 1]) ∧ w.grownBy w' none :=
  (now_w none none day 0 0 0 1 w (by simp) (fun _ => True) (fun _ _ _ _ _ _ => trivial) ((move_niln none day _).mono fun _ _ ⟨he, hg⟩ => ⟨he, trivial, hg⟩)).mono fun _ _ ⟨he, _, hg⟩ => ⟨he, hg⟩
theorem hear_k (b : Nat) (sv d c s p q r day er d' c' s' : Int) (w : World) (h : Ck 57 w b sv d c s) (hz : c ≠ 0 ∨ s ≠ 0) (hN : hearR d c s p q r day = (er, d', c', s')) :
    Calls Try.prog 28 #[.pointer (some ⟨b, 0, none⟩), .agg #[.int .i64 p, .int .i64 q, .int .i64 r], .int .i64 day] w fun e w' => e = .returned (.int .i64 er) ∧ Ck 57 w' b sv d' c' s' ∧ w.grownBy w' (some b) := by
  have hb := h.lt
  have gA := (World.grownBy_alloc w (.cells #[.pointer (some ⟨b, 0, none⟩)] 34) none).trans (World.grownBy_alloc _ (.cells #[.int .i64 p, .int .i64 q, .int .i64 r] 39) none)
  have hA := h.kept gA
  have hp : ((w.alloc (.cells #[.pointer (some ⟨b, 0, none⟩)] 34)).alloc (.cells #[.int .i64 p, .int .i64 q, .int .i64 r] 39)).cell? ⟨w.heap.size, 0, none⟩ = some (.pointer (some ⟨b, 0, none⟩)) := (cell_pass (by simp)).trans (cell_at rfl)
  have hs := S3.new (w.alloc (.cells #[.pointer (some ⟨b, 0, none⟩)] 34)) p q r
  rw [show (w.alloc (.cells #[.pointer (some ⟨b, 0, none⟩)] 34)).heap.size = w.heap.size + 1 by simp] at hs
  have HF := fun (x y z er : Int) (HL : ∀ w2, ((w.alloc (.cells #[.pointer (some ⟨b, 0, none⟩)] 34)).alloc (.cells #[.int .i64 p, .int .i64 q, .int .i64 r] 39)).grownBy w2 none → Calls Try.prog 40 #[.pointer (some ⟨b, 0, none⟩), .agg #[.int .i64 p, .int .i64 q, .int .i64 r], .int .i64 day] w2 fun e w' => e = .returned (.tuple #[.agg #[.int .i64 x, .int .i64 y, .int .i64 z], .int .i64 er]) ∧ w2.grownBy w' none) =>
    fun w1 (g : ((w.alloc (.cells #[.pointer (some ⟨b, 0, none⟩)] 34)).alloc (.cells #[.int .i64 p, .int .i64 q, .int .i64 r] 39)).grownBy w1 none) => fn_k b w.heap.size (w.heap.size + 1) day p q r x y z er w1 (gcell g hp) (hs.kept g) (fun w2 g2 => HL w2 (g.trans g2))
  have go : ∀ x y z, Calls Try.prog 38 #[.pointer (some ⟨b, 0, none⟩), .int .i64 day, .func (.func 39) #[] #[.pointer (some ⟨w.heap.size, 0, none⟩), .pointer (some ⟨w.heap.size + 1, 0, none⟩)]] ((w.alloc (.cells #[.pointer (some ⟨b, 0, none⟩)] 34)).alloc (.cells #[.int .i64 p, .int .i64 q, .int .i64 r] 39)) (fun e w' => e = .returned (.tuple #[.agg #[.int .i64 x, .int .i64 y, .int .i64 z], .int .i64 er]) ∧ Ck 57 w' b sv d' c' s' ∧ ((w.alloc (.cells #[.pointer (some ⟨b, 0, none⟩)] 34)).alloc (.cells #[.int .i64 p, .int .i64 q, .int .i64 r] 39)).grownBy w' (some b)) →
      Calls Try.prog 28 #[.pointer (some ⟨b, 0, none⟩), .agg #[.int .i64 p, .int .i64 q, .int .i64 r], .int .i64 day] w fun e w' => e = .returned (.int .i64 er) ∧ Ck 57 w' b sv d' c' s' ∧ w.grownBy w' (some b) := fun x y z HM =>
    hear_w (some ⟨b, 0, none⟩) (some b) day p q r x y z er w (fun w' => Ck 57 w' b sv d' c' s') (fun wx o hx => hx.kept (World.grownBy_alloc wx o none)) HM
  generalize ((w.alloc (.cells #[.pointer (some ⟨b, 0, none⟩)] 34)).alloc (.cells #[.int .i64 p, .int .i64 q, .int .i64 r] 39)) = wA at *
  by_cases hr : rightB day = true
  · by_cases h1 : rightB p = true
    · by_cases h2 : p - day ≤ 5
      · by_cases h3 : 0 ≤ q
        · by_cases h4 : q ≤ 1073741824
          · by_cases h5 : serverB r = true
            · by_cases hl : lessB d c s p q r = true
              · simp only [hearR, hr, h1, h2, h3, h4, h5, hl, if_true] at hN
                obtain ⟨rfl, rfl, rfl, rfl⟩ := by simpa using hN
                exact go _ _ _ (move_okh b sv d c s day w.heap.size (w.heap.size + 1) wA hA _ _ _ hr hz (HF _ _ _ _ (fun w2 g => later_a b sv d c s _ _ _ day w2 (hA.kept g) hr h1 h2 h3 h4 h5 hl)))
              · simp only [hearR, hr, h1, h2, h3, h4, h5, hl, if_true] at hN
                obtain ⟨rfl, rfl, rfl, rfl⟩ := by simpa using hN
                exact go _ _ _ (move_okh b sv _ _ _ day w.heap.size (w.heap.size + 1) wA hA _ _ _ hr hz (HF _ _ _ _ (fun w2 g => later_b b sv _ _ _ p q r day w2 (hA.kept g) hr h1 h2 h3 h4 h5 (by simpa using hl))))
            · simp only [hearR, hr, h1, h2, h3, h4, h5, if_true] at hN
              obtain ⟨rfl, rfl, rfl, rfl⟩ := by simpa using hN
              exact go 0 0 0 ((move_erh b sv _ _ _ day w.heap.size (w.heap.size + 1) wA hA 0 0 0 3 hr hz rfl (HF 0 0 0 3 (fun w2 g => later_e5 b sv _ _ _ p q r day w2 (hA.kept g) hr h1 h2 h3 h4 (by simpa using h5)))).mono fun _ _ ⟨he, hg⟩ => ⟨he, hA.kept hg, hg.but _⟩)
          · simp only [hearR, hr, h1, h2, h3, h4, if_true, if_false] at hN
            obtain ⟨rfl, rfl, rfl, rfl⟩ := by simpa using hN
            exact go 0 0 0 ((move_erh b sv _ _ _ day w.heap.size (w.heap.size + 1) wA hA 0 0 0 3 hr hz rfl (HF 0 0 0 3 (fun w2 g => later_e4 b sv _ _ _ p q r day w2 (hA.kept g) hr h1 h2 h3 (by omega)))).mono fun _ _ ⟨he, hg⟩ => ⟨he, hA.kept hg, hg.but _⟩)
        · simp only [hearR, hr, h1, h2, h3, if_true, if_false] at hN
          obtain ⟨rfl, rfl, rfl, rfl⟩ := by simpa using hN
          exact go 0 0 0 ((move_erh b sv _ _ _ day w.heap.size (w.heap.size + 1) wA hA 0 0 0 3 hr hz rfl (HF 0 0 0 3 (fun w2 g => later_e3 b sv _ _ _ p q r day w2 (hA.kept g) hr h1 h2 (by omega)))).mono fun _ _ ⟨he, hg⟩ => ⟨he, hA.kept hg, hg.but _⟩)
      · simp only [hearR, hr, h1, h2, if_true, if_false] at hN
        obtain ⟨rfl, rfl, rfl, rfl⟩ := by simpa using hN
        exact go 0 0 0 ((move_erh b sv _ _ _ day w.heap.size (w.heap.size + 1) wA hA 0 0 0 23 hr hz rfl (HF 0 0 0 23 (fun w2 g => later_e2 b sv _ _ _ p q r day w2 (hA.kept g) hr h1 (by omega)))).mono fun _ _ ⟨he, hg⟩ => ⟨he, hA.kept hg, hg.but _⟩)
    · simp only [hearR, hr, h1, if_true] at hN
      obtain ⟨rfl, rfl, rfl, rfl⟩ := by simpa using hN
      exact go 0 0 0 ((move_erh b sv _ _ _ day w.heap.size (w.heap.size + 1) wA hA 0 0 0 23 hr hz rfl (HF 0 0 0 23 (fun w2 g => later_e1 b sv _ _ _ p q r day w2 (hA.kept g) (by simpa using h1)))).mono fun _ _ ⟨he, hg⟩ => ⟨he, hA.kept hg, hg.but _⟩)
  · simp only [hearR, hr] at hN
    obtain ⟨rfl, rfl, rfl, rfl⟩ := by simpa using hN
    exact go 0 0 0 ((move_badh b sv _ _ _ day w.heap.size (w.heap.size + 1) wA hA (by simpa using hr) hz).mono fun _ _ ⟨he, hg⟩ => ⟨he, hA.kept hg, hg.but _⟩)
theorem hear_zero (b : Nat) (sv p q r day : Int) (w : World) (h : Ck 57 w b sv 0 0 0) :
    Calls Try.prog 28 #[.pointer (some ⟨b, 0, none⟩), .agg #[.int .i64 p, .int .i64 q, .int .i64 r], .int .i64 day] w fun e w' => e = .returned (.int .i64 1) ∧ w.grownBy w' none := by
  have hA := h.kept ((World.grownBy_alloc w (.cells #[.pointer (some ⟨b, 0, none⟩)] 34) none).trans (World.grownBy_alloc _ (.cells #[.int .i64 p, .int .i64 q, .int .i64 r] 39) none))
  exact (hear_w (some ⟨b, 0, none⟩) none day p q r 0 0 0 1 w (fun _ => True) (fun _ _ _ => trivial) ((move_zeroh b sv day _ _ _ hA).mono fun _ _ ⟨he, hg⟩ => ⟨he, trivial, hg⟩)).mono fun _ _ ⟨he, _, hg⟩ => ⟨he, hg⟩
theorem hear_nil (p q r day : Int) (w : World) :
    Calls Try.prog 28 #[.pointer none, .agg #[.int .i64 p, .int .i64 q, .int .i64 r], .int .i64 day] w fun e w' => e = .returned (.int .i64 1) ∧ w.grownBy w' none :=
  (hear_w none none day p q r 0 0 0 1 w (fun _ => True) (fun _ _ _ => trivial) ((move_nilh day _ _ _).mono fun _ _ ⟨he, hg⟩ => ⟨he, trivial, hg⟩)).mono fun _ _ ⟨he, _, hg⟩ => ⟨he, hg⟩
end Go.Proofs.Ytgfifpbmjkjnpaa
