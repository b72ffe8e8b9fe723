/-
  Digests, as plain functions of lists of bytes.
-/
namespace Go.Proofs.YtecobgjkodmaiaaDoor
abbrev Str := List UInt8

/-- n as k bytes, the most significant one first -/
def be (n k : Nat) : Str := (List.range k).map fun j => UInt8.ofNat (n >>> (8 * (k - 1 - j)))
def sx (x : Nat) (c : UInt8) : Nat := (69621 * x + (c.toNat + 1)) % 2147483647
def sy (y : Nat) (c : UInt8) : Nat := (45991 * y + (c.toNat + 1)) % 2147483629
def dx (s : Str) : Nat := s.foldl sx 11
def dy (s : Str) : Nat := s.foldl sy 17
/-- the digest of a string -/
def dg (s : Str) : Str := be (dx s) 4 ++ be (dy s) 4

theorem sx_lt (x : Nat) (c : UInt8) : sx x c < 2147483647 := Nat.mod_lt _ (by decide)
theorem sy_lt (x : Nat) (c : UInt8) : sy x c < 2147483629 := Nat.mod_lt _ (by decide)
theorem fold_lt (f : Nat → UInt8 → Nat) (k : Nat) (hf : ∀ x c, f x c < k) : ∀ (s : Str) (x : Nat), x < k → s.foldl f x < k
  | [], _, h => h
  | c :: s, x, _ => fold_lt f k hf s (f x c) (hf x c)
theorem dx_lt (s : Str) : dx s < 2147483647 := fold_lt _ _ sx_lt s 11 (by decide)
theorem dy_lt (s : Str) : dy s < 2147483629 := fold_lt _ _ sy_lt s 17 (by decide)
theorem dx_snoc (s : Str) (c : UInt8) : dx (s ++ [c]) = sx (dx s) c := by simp [dx]
theorem dy_snoc (s : Str) (c : UInt8) : dy (s ++ [c]) = sy (dy s) c := by simp [dy]
theorem be_len (n k : Nat) : (be n k).length = k := by simp [be]
theorem dg_len (s : Str) : (dg s).length = 8 := by simp [dg, be_len]

theorem take_one {α : Type} (l : List α) (k : Nat) (x : α) (h : l[k]? = some x) : l.take (k + 1) = l.take k ++ [x] := by
  rw [List.take_add_one, h]; rfl

theorem be_4 (n : Nat) : be n 4 = [UInt8.ofNat (n >>> 24), UInt8.ofNat (n >>> 16), UInt8.ofNat (n >>> 8), UInt8.ofNat n] := rfl
theorem be_8 (n : Nat) : be n 8 = [UInt8.ofNat (n >>> 56), UInt8.ofNat (n >>> 48), UInt8.ofNat (n >>> 40), UInt8.ofNat (n >>> 32), UInt8.ofNat (n >>> 24), UInt8.ofNat (n >>> 16), UInt8.ofNat (n >>> 8), UInt8.ofNat n] := rfl
/-- a number below 2^32 has no more than four bytes -/
theorem be_drop (n : Nat) (_h : n < 4294967296) : (be n 8).drop 4 = be n 4 := by rw [be_8, be_4]; rfl
/-- the bytes tell numbers apart -/
theorem be_inj4 (n m : Nat) (hn : n < 4294967296) (hm : m < 4294967296) (h : be n 4 = be m 4) : n = m := by
  rw [be_4, be_4] at h
  simp only [List.cons.injEq, and_true] at h
  obtain ⟨h3, h2, h1, h0⟩ := h
  have g3 := congrArg UInt8.toNat h3
  have g2 := congrArg UInt8.toNat h2
  have g1 := congrArg UInt8.toNat h1
  have g0 := congrArg UInt8.toNat h0
  simp only [UInt8.toNat_ofNat', Nat.shiftRight_eq_div_pow] at g0 g1 g2 g3
  omega
theorem dg_inj {s t : Str} (h : dg s = dg t) : dx s = dx t ∧ dy s = dy t := by
  obtain ⟨h1, h2⟩ := List.append_inj (show be (dx s) 4 ++ be (dy s) 4 = be (dx t) 4 ++ be (dy t) 4 from h) (by rw [be_len, be_len])
  exact ⟨be_inj4 _ _ (by have := dx_lt s; omega) (by have := dx_lt t; omega) h1, be_inj4 _ _ (by have := dy_lt s; omega) (by have := dy_lt t; omega) h2⟩
end Go.Proofs.YtecobgjkodmaiaaDoor
