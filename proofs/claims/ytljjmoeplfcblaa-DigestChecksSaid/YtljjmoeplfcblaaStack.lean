/-
  Stacks of blocks, as plain functions: what is put together from blocks that follow each other.
-/
import Derived.Test.YtljjmoeplfcblaaBMath
namespace Go.Proofs.Ytljjmoeplfcblaa

structure Nd where
  b : Nat
  s : Nat
  d : Str

/-- a block behind a stack of blocks (the last one first): it takes the place of its half before it, as long as there is one -/
def push (P : Str → Str → Str) : List Nd → Nd → List Nd
  | [], n => [n]
  | a :: r, n => if a.s = n.s ∧ a.b % (2 * a.s) = 0 then push P r ⟨a.b, 2 * a.s, P a.d n.d⟩ else n :: a :: r

/-- the blocks of a stack follow each other from 0 to k, each at a place that its size divides -/
def ctg : List Nd → Nat → Prop
  | [], k => k = 0
  | a :: r, k => a.b + a.s = k ∧ 0 < a.s ∧ a.b % a.s = 0 ∧ ctg r a.b

theorem push_ctg (P : Str → Str → Str) : ∀ (r : List Nd) (n : Nd), ctg r n.b → 0 < n.s → n.b % n.s = 0 → ctg (push P r n) (n.b + n.s)
  | [], n, h, h0, h1 => ⟨rfl, h0, h1, h⟩
  | a :: r, n, h, h0, h1 => by
    obtain ⟨e1, e2, e3, e4⟩ := h
    unfold push
    split
    · next hc =>
      have := push_ctg P r ⟨a.b, 2 * a.s, P a.d n.d⟩ e4 (by show 0 < 2 * a.s; omega) hc.2
      rw [show n.b + n.s = a.b + 2 * a.s by omega]
      exact this
    · exact ⟨rfl, h0, h1, e1, e2, e3, e4⟩

def whole (b s : Nat) : Nat × Nat := (b - b % (2 * s), 2 * s)
theorem mod_two (b s : Nat) (h : b % s = 0) : b % (2 * s) = 0 ∨ b % (2 * s) = s := by
  obtain ⟨q, rfl⟩ := Nat.dvd_of_mod_eq_zero h
  rw [Nat.mul_comm 2 s, Nat.mul_mod_mul_left]
  have : q % 2 = 0 ∨ q % 2 = 1 := by omega
  rcases this with e | e
  · left; rw [e]; rfl
  · right; rw [e]; omega
theorem whole_iff (b s t : Nat) (hs : 0 < s) (h : b % s = 0) (_h2 : (b + s) % t = 0) : whole b s = whole (b + s) t ↔ s = t ∧ b % (2 * s) = 0 := by
  unfold whole
  constructor
  · intro e
    injection e with e1 e2
    have : s = t := by omega
    subst this
    refine ⟨rfl, ?_⟩
    rcases mod_two b s h with e | e
    · exact e
    · exfalso
      have h3 : (b + s) % (2 * s) = 0 := by
        rw [Nat.add_mod, e, Nat.mod_eq_of_lt (show s < 2 * s by omega), ← Nat.two_mul, Nat.mod_self]
      rw [e, h3] at e1
      have : s ≤ b := by
        have := Nat.mod_le b (2 * s); omega
      omega
  · rintro ⟨rfl, e⟩
    have h3 : (b + s) % (2 * s) = s := by
      rw [Nat.add_mod, e, Nat.mod_eq_of_lt (show s < 2 * s by omega), Nat.zero_add, Nat.mod_eq_of_lt (by omega)]
    rw [e, h3, Nat.add_sub_cancel, Nat.sub_zero]
def pw (s : Nat) : Prop := ∃ e, s = 2 ^ e
theorem pw_pos {s : Nat} (h : pw s) : 0 < s := by obtain ⟨e, rfl⟩ := h; exact Nat.pow_pos (by decide)
theorem pw_two {s : Nat} (h : pw s) : pw (2 * s) := by obtain ⟨e, rfl⟩ := h; exact ⟨e + 1, by rw [Nat.pow_succ, Nat.mul_comm]⟩
theorem pw_lt {s t : Nat} (hs : pw s) (ht : pw t) (h : s < t) : 2 * s ∣ t := by
  obtain ⟨e, rfl⟩ := hs
  obtain ⟨f, rfl⟩ := ht
  have hef : e < f := (Nat.pow_lt_pow_iff_right (by decide)).1 h
  rw [Nat.mul_comm, ← Nat.pow_succ]
  exact Nat.pow_dvd_pow 2 hef
/-- what is left when nothing can be put together any more -/
def irr : List Nd → Nat → Prop
  | [], k => k = 0
  | a :: r, k => a.b + a.s = k ∧ pw a.s ∧ 2 * a.s ∣ a.b ∧ irr r a.b
theorem not_two {s : Nat} (h : 0 < s) (hd : 2 * s ∣ s) : False := by
  have := Nat.le_of_dvd h hd; omega
theorem push_irr (P : Str → Str → Str) : ∀ (r : List Nd) (n : Nd), irr r n.b → pw n.s → n.s ∣ n.b → irr (push P r n) (n.b + n.s)
  | [], n, h, h0, _ => ⟨rfl, h0, by rw [show n.b = 0 from h]; exact Nat.dvd_zero _, h⟩
  | a :: r, n, h, h0, h1 => by
    obtain ⟨e1, e2, e3, e4⟩ := h
    unfold push
    split
    · next hc =>
      have := push_irr P r ⟨a.b, 2 * a.s, P a.d n.d⟩ e4 (pw_two e2) e3
      rw [show n.b + n.s = a.b + 2 * a.s by omega]
      exact this
    · next hc =>
      have hne : a.s ≠ n.s := fun e => hc ⟨e, Nat.mod_eq_zero_of_dvd e3⟩
      refine ⟨rfl, h0, ?_, e1, e2, e3, e4⟩
      rcases Nat.lt_or_gt_of_ne hne with hl | hl
      · exfalso
        have d1 : 2 * a.s ∣ n.b := Nat.dvd_trans (pw_lt e2 h0 hl) h1
        rw [← e1] at d1
        exact not_two (pw_pos e2) ((Nat.dvd_add_right e3).1 d1)
      · have d1 := pw_lt h0 e2 hl
        rw [← e1]
        exact (Nat.dvd_add_right (Nat.dvd_trans (Nat.dvd_trans d1 (Nat.dvd_mul_left _ 2)) e3)).2 d1
theorem irr_one : ∀ (r t : List Nd) (k : Nat), irr r k → irr t k → r.map (fun x => (x.b, x.s)) = t.map (fun x => (x.b, x.s))
  | [], [], _, _, _ => rfl
  | [], a :: t, k, h, h2 => by
    obtain ⟨e1, e2, _, _⟩ := h2
    have := pw_pos e2
    have : k = 0 := h
    omega
  | a :: t, [], k, h2, h => by
    obtain ⟨e1, e2, _, _⟩ := h2
    have := pw_pos e2
    have : k = 0 := h
    omega
  | a :: r, c :: t, k, h, g => by
    obtain ⟨e1, e2, e3, e4⟩ := h
    obtain ⟨f1, f2, f3, f4⟩ := g
    have hs : a.s = c.s := by
      rcases Nat.lt_trichotomy a.s c.s with hl | hl | hl
      · exfalso
        have d := pw_lt e2 f2 hl
        have d2 : 2 * a.s ∣ k := by
          rw [← f1]; exact (Nat.dvd_add_right (Nat.dvd_trans (Nat.dvd_trans d (Nat.dvd_mul_left _ 2)) f3)).2 d
        rw [← e1] at d2
        exact not_two (pw_pos e2) ((Nat.dvd_add_right e3).1 d2)
      · exact hl
      · exfalso
        have d := pw_lt f2 e2 hl
        have d2 : 2 * c.s ∣ k := by
          rw [← e1]; exact (Nat.dvd_add_right (Nat.dvd_trans (Nat.dvd_trans d (Nat.dvd_mul_left _ 2)) e3)).2 d
        rw [← f1] at d2
        exact not_two (pw_pos f2) ((Nat.dvd_add_right f3).1 d2)
    have hb : a.b = c.b := by omega
    rw [← hb] at f4
    simp only [List.map_cons, hs, hb, irr_one r t a.b e4 f4]
/-- each block of a stack has the digest that f tells of it -/
def told (f : Nat × Nat → Str) (r : List Nd) : Prop := ∀ x ∈ r, x.d = f (x.b, x.s)
theorem push_told (P : Str → Str → Str) (f : Nat × Nat → Str) (hf : ∀ b s, 0 < s → f (b, 2 * s) = P (f (b, s)) (f (b + s, s))) :
    ∀ (r : List Nd) (n : Nd), told f r → irr r n.b → n.d = f (n.b, n.s) → told f (push P r n)
  | [], n, _, _, hn => fun x hx => by
    have hx : x ∈ [n] := hx
    rw [List.mem_singleton] at hx; rw [hx, hn]
  | a :: r, n, h, hi, hn => by
    obtain ⟨e1, e2, e3, e4⟩ := hi
    unfold push
    split
    · next hc =>
      refine push_told P f hf r _ (fun x hx => h x (List.mem_cons_of_mem _ hx)) e4 ?_
      show P a.d n.d = f (a.b, 2 * a.s)
      rw [hf _ _ (pw_pos e2), h a List.mem_cons_self, hn, ← hc.1, ← e1]
    · intro x hx
      rcases List.mem_cons.1 hx with rfl | hx
      · exact hn
      · exact h x hx
theorem told_one (f : Nat × Nat → Str) (r t : List Nd) (k : Nat) (h1 : told f r) (h2 : told f t) (h3 : irr r k) (h4 : irr t k) : r = t := by
  have e := irr_one r t k h3 h4
  clear h3 h4
  induction r generalizing t with
  | nil => cases t with
    | nil => rfl
    | cons a t => simp at e
  | cons a r ih => cases t with
    | nil => simp at e
    | cons c t =>
      simp only [List.map_cons, List.cons.injEq, Prod.mk.injEq] at e
      obtain ⟨⟨e1, e2⟩, e3⟩ := e
      have d1 := h1 a List.mem_cons_self
      have d2 := h2 c List.mem_cons_self
      rw [ih t (fun x hx => h1 x (List.mem_cons_of_mem _ hx)) (fun x hx => h2 x (List.mem_cons_of_mem _ hx)) e3]
      have : a = c := by
        cases a; cases c
        simp only at e1 e2 d1 d2
        subst e1; subst e2
        rw [d1, d2]
      rw [this]

theorem gr_pw (i j : Nat) : ∀ (f s : Nat), pw s → s ∣ i → pw (gr f s i j) ∧ gr f s i j ∣ i
  | 0, _, h, d => ⟨h, d⟩
  | f + 1, s, h, d => by
    unfold gr
    split
    · next hc => exact gr_pw i j f (2 * s) (pw_two h) (Nat.dvd_of_mod_eq_zero hc.1)
    · exact ⟨h, d⟩
theorem great_pw (i j : Nat) : pw (great i j) ∧ great i j ∣ i := gr_pw i j _ 1 ⟨0, rfl⟩ (Nat.one_dvd _)
/-- blocks that follow each other from i to j, each at a place that its size divides -/
def chained : List Nd → Nat → Nat → Prop
  | [], i, j => i = j
  | n :: r, i, j => n.b = i ∧ pw n.s ∧ n.s ∣ n.b ∧ chained r (n.b + n.s) j
theorem chained_app : ∀ (r t : List Nd) (i j k : Nat), chained r i j → chained t j k → chained (r ++ t) i k
  | [], t, i, j, k, h, g => by rw [show i = j from h]; exact g
  | n :: r, t, i, j, k, ⟨h1, h2, h3, h4⟩, g => ⟨h1, h2, h3, chained_app r t _ j k h4 g⟩
/-- blocks with their digests -/
def nodes : List (Nat × Nat) → List Str → List Nd
  | b :: r, d :: t => ⟨b.1, b.2, d⟩ :: nodes r t
  | _, _ => []
/-- strings, each as a block of its own -/
def leafs : Nat → List Str → List Nd
  | _, [] => []
  | i, x :: r => ⟨i, 1, leafD x⟩ :: leafs (i + 1) r
theorem nodes_chained (j : Nat) : ∀ (k i : Nat) (ds : List Str), j - i ≤ k → i ≤ j → ds.length = (blocks i j).length → chained (nodes (blocks i j) ds) i j
  | 0, i, ds, hk, hij, hl => by
    rw [blocks_nil (by omega)]
    show i = j
    omega
  | k + 1, i, ds, hk, hij, hl => by
    by_cases h : i < j
    · have hg := great_bound h
      rw [blocks_cons h] at hl ⊢
      cases ds with
      | nil => simp at hl
      | cons d t =>
        obtain ⟨p1, p2⟩ := great_pw i j
        exact ⟨rfl, p1, p2, nodes_chained j k (i + great i j) t (by omega) (by omega) (by simpa using hl)⟩
    · rw [blocks_nil h]
      show i = j
      omega
theorem leafs_chained : ∀ (l : List Str) (i : Nat), chained (leafs i l) i (i + l.length)
  | [], i => rfl
  | x :: r, i => ⟨rfl, ⟨0, rfl⟩, Nat.one_dvd _, by
    have := leafs_chained r (i + 1)
    rw [show i + (x :: r).length = i + 1 + r.length by simp; omega]
    exact this⟩
def pushes (r : List Nd) (l : List Nd) : List Nd := l.foldl (push pairD) r
theorem pushes_app (r l t : List Nd) : pushes r (l ++ t) = pushes (pushes r l) t := List.foldl_append
theorem dvd_mod {a b : Nat} (h : a ∣ b) : b % a = 0 := Nat.mod_eq_zero_of_dvd h
theorem pushes_ctg : ∀ (l r : List Nd) (i j : Nat), ctg r i → chained l i j → ctg (pushes r l) j
  | [], r, i, j, h, g => by rw [← show i = j from g]; exact h
  | n :: l, r, i, j, h, ⟨g1, g2, g3, g4⟩ => pushes_ctg l (push pairD r n) _ j (push_ctg pairD r n (by rw [g1]; exact h) (pw_pos g2) (dvd_mod g3)) g4
theorem pushes_irr : ∀ (l r : List Nd) (i j : Nat), irr r i → chained l i j → irr (pushes r l) j
  | [], r, i, j, h, g => by rw [← show i = j from g]; exact h
  | n :: l, r, i, j, h, ⟨g1, g2, g3, g4⟩ => pushes_irr l (push pairD r n) _ j (push_irr pairD r n (by rw [g1]; exact h) g2 g3) g4
theorem sum_two (l : List Str) (b s : Nat) (h : 0 < s) : sumB l (b, 2 * s) = pairD (sumB l (b, s)) (sumB l (b + s, s)) := by
  rw [sumB_two l b (2 * s) (by omega), show 2 * s / 2 = s by omega]
theorem pushes_told (x : List Str) : ∀ (l r : List Nd) (i j : Nat), told (sumB x) r → told (sumB x) l → irr r i → chained l i j → told (sumB x) (pushes r l)
  | [], _, _, _, h, _, _, _ => h
  | n :: l, r, i, j, h, t, hi, ⟨g1, g2, g3, g4⟩ =>
    pushes_told x l (push pairD r n) _ j (push_told pairD (sumB x) (sum_two x) r n h (by rw [g1]; exact hi) (t n List.mem_cons_self)) (fun y hy => t y (List.mem_cons_of_mem _ hy))
      (push_irr pairD r n (by rw [g1]; exact hi) g2 g3) g4
theorem nodes_told (x : List Str) : ∀ (bs : List (Nat × Nat)), told (sumB x) (nodes bs (bs.map (sumB x)))
  | [] => fun _ h => by cases h
  | b :: r => fun y hy => by
    rcases List.mem_cons.1 hy with rfl | hy
    · rfl
    · exact nodes_told x r y hy
theorem leafs_told (x : List Str) : ∀ (l : List Str) (i : Nat), (∀ k s, l[k]? = some s → x[i + k]? = some s) → told (sumB x) (leafs i l)
  | [], _, _ => fun _ h => by cases h
  | s :: r, i, h => fun y hy => by
    rcases List.mem_cons.1 hy with rfl | hy
    · have := h 0 s rfl
      show leafD s = sumB x (i, 1)
      rw [sumB_one, List.getD_eq_getElem?_getD, show x[i]? = some s from this]
      rfl
    · refine leafs_told x r (i + 1) (fun k t hk => ?_) y hy
      have := h (k + 1) t hk
      rwa [show i + 1 + k = i + (k + 1) by omega]
def topD : List Nd → Str
  | [] => dg [5]
  | a :: r => r.foldl (fun out x => pairD x.d out) a.d
def rootD (n : Nat) (r : List Nd) : Str := dg (6 :: (be n 8 ++ topD r))
/-- the stack of a list -/
def stack (x : List Str) (n : Nat) : List Nd := pushes [] (nodes (blocks 0 n) (sums x 0 n))
def root (x : List Str) : Str := rootD x.length (stack x x.length)
theorem stack_irr (x : List Str) (n : Nat) : irr (stack x n) n := pushes_irr _ [] 0 n rfl (nodes_chained n n 0 _ (by omega) (by omega) (by simp [sums]))
theorem stack_told (x : List Str) (n : Nat) : told (sumB x) (stack x n) := pushes_told x _ [] 0 n (fun _ h => by cases h) (nodes_told x _) rfl (nodes_chained n n 0 _ (by omega) (by omega) (by simp [sums]))
/-- what a claim leads to -/
def ledN (n i : Nat) (leaves proof : List Str) : List Nd :=
  nodes (blocks 0 i) (proof.take (blocks 0 i).length) ++ leafs i leaves ++ nodes (blocks (i + leaves.length) n) (proof.drop (blocks 0 i).length)
def fitsB (n i : Int) (leaves proof : List Str) : Bool :=
  decide (0 ≤ n ∧ n ≤ 1099511627776 ∧ 0 ≤ i ∧ (leaves.length : Int) ≤ n - i) && (proof.length == (blocks 0 i.toNat).length + (blocks (i.toNat + leaves.length) n.toNat).length) && proof.all (fun s => s.length == 8)
def led (n i : Int) (leaves proof : List Str) : Str := rootD n.toNat (pushes [] (ledN n.toNat i.toNat leaves proof))
def verB (r : Str) (n i : Int) (leaves proof : List Str) : Bool := fitsB n i leaves proof && r == led n i leaves proof
/-- a claim of what is in a list leads to the root of the list -/
theorem led_true (x : List Str) (i : Nat) (leaves : List Str) (hn : i + leaves.length ≤ x.length) (hl : ∀ k s, leaves[k]? = some s → x[i + k]? = some s) :
    pushes [] (ledN x.length i leaves (sums x 0 i ++ sums x (i + leaves.length) x.length)) = stack x x.length := by
  have e1 : (sums x 0 i ++ sums x (i + leaves.length) x.length).take (blocks 0 i).length = sums x 0 i := by
    rw [List.take_append_of_le_length (by simp [sums]), List.take_of_length_le (by simp [sums])]
  have e2 : (sums x 0 i ++ sums x (i + leaves.length) x.length).drop (blocks 0 i).length = sums x (i + leaves.length) x.length := by
    rw [show (blocks 0 i).length = (sums x 0 i).length by simp [sums], List.drop_left]
  have hc : chained (ledN x.length i leaves (sums x 0 i ++ sums x (i + leaves.length) x.length)) 0 x.length := by
    unfold ledN
    rw [e1, e2]
    exact chained_app _ _ 0 (i + leaves.length) _ (chained_app _ _ 0 i _ (nodes_chained i i 0 _ (by omega) (by omega) (by simp [sums])) (leafs_chained leaves i)) (nodes_chained x.length _ _ _ (Nat.le_refl _) hn (by simp [sums]))
  have ht : told (sumB x) (ledN x.length i leaves (sums x 0 i ++ sums x (i + leaves.length) x.length)) := by
    unfold ledN
    rw [e1, e2]
    intro y hy
    rcases List.mem_append.1 hy with hy | hy
    · rcases List.mem_append.1 hy with hy | hy
      · exact nodes_told x _ y hy
      · exact leafs_told x leaves i hl y hy
    · exact nodes_told x _ y hy
  exact told_one (sumB x) _ _ x.length (pushes_told x _ [] 0 _ (fun _ h => by cases h) ht rfl hc) (stack_told x _) (pushes_irr _ [] 0 _ rfl hc) (stack_irr x _)
theorem ver_true (x : List Str) (i : Nat) (leaves : List Str) (hn : i + leaves.length ≤ x.length) (h40 : x.length ≤ 1099511627776) (hl : ∀ k s, leaves[k]? = some s → x[i + k]? = some s) :
    verB (root x) x.length i leaves (sums x 0 i ++ sums x (i + leaves.length) x.length) = true := by
  unfold verB fitsB led
  simp only [Int.toNat_natCast, led_true x i leaves hn hl]
  have hp : (sums x 0 i ++ sums x (i + leaves.length) x.length).all (fun s => s.length == 8) = true := by
    rw [List.all_eq_true]
    intro s hs
    have : s.length = 8 := by
      rcases List.mem_append.1 hs with h | h
      · obtain ⟨b, _, rfl⟩ := List.mem_map.1 h; exact sumB_len _ _
      · obtain ⟨b, _, rfl⟩ := List.mem_map.1 h; exact sumB_len _ _
    simp [this]
  rw [hp]
  have hd : decide ((0 : Int) ≤ (x.length : Int) ∧ (x.length : Int) ≤ 1099511627776 ∧ (0 : Int) ≤ (i : Int) ∧ (leaves.length : Int) ≤ (x.length : Int) - (i : Int)) = true := by
    rw [decide_eq_true_iff]; omega
  rw [hd]
  simp [sums, root]
/-- whether a proof shows that m strings are the beginning of n -/
def extB (old : Str) (m : Int) (r : Str) (n : Int) (proof : List Str) : Bool :=
  decide (0 ≤ m ∧ m ≤ n ∧ n ≤ 1099511627776) && (proof.length == (blocks 0 m.toNat).length + (blocks m.toNat n.toNat).length) && proof.all (fun s => s.length == 8)
    && old == rootD m.toNat (pushes [] (nodes (blocks 0 m.toNat) (proof.take (blocks 0 m.toNat).length))) && r == led n m [] proof
theorem bsum_take (x : List Str) (k : Nat) : ∀ (f b s : Nat), 1 ≤ s → b + s ≤ k → bsum (x.take k) f b s = bsum x f b s
  | 0, b, s, h1, h2 => by
    unfold bsum
    rw [List.getD_eq_getElem?_getD, List.getD_eq_getElem?_getD, List.getElem?_take, if_pos (by omega)]
  | f + 1, b, s, h1, h2 => by
    unfold bsum
    split
    · rw [List.getD_eq_getElem?_getD, List.getD_eq_getElem?_getD, List.getElem?_take, if_pos (by omega)]
    · rw [bsum_take x k f b (s / 2) (by omega) (by omega), bsum_take x k f (b + s / 2) (s / 2) (by omega) (by omega)]
theorem sums_take (x : List Str) (k i : Nat) : sums (x.take k) i k = sums x i k := by
  unfold sums
  refine List.map_congr_left (fun b hb => ?_)
  have := blocks_mem hb
  exact bsum_take x k _ _ _ this.2.1 this.2.2
theorem ext_true (x : List Str) (k : Nat) (hk : k ≤ x.length) (h40 : x.length ≤ 1099511627776) : extB (root (x.take k)) k (root x) x.length (sums x 0 k ++ sums x k x.length) = true := by
  have hv := ver_true x k [] hk h40 (fun _ _ h => by cases h)
  unfold verB fitsB at hv
  unfold extB
  simp only [Bool.and_eq_true, decide_eq_true_eq, List.length_nil, Nat.add_zero, Int.toNat_natCast] at hv ⊢
  obtain ⟨⟨⟨h1, h2⟩, h3⟩, h4⟩ := hv
  refine ⟨⟨⟨⟨by omega, h2⟩, h3⟩, ?_⟩, h4⟩
  have e1 : (sums x 0 k ++ sums x k x.length).take (blocks 0 k).length = sums x 0 k := by
    rw [List.take_append_of_le_length (by simp [sums]), List.take_of_length_le (by simp [sums])]
  rw [e1]
  unfold root stack
  rw [List.length_take, Nat.min_eq_left hk, sums_take]
  exact BEq.rfl
end Go.Proofs.Ytljjmoeplfcblaa
