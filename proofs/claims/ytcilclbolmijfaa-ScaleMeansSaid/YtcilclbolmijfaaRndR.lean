/-
  The reference's rounding, by its contract.
-/
import Derived.Test.YtcilclbolmijfaaRnd5
namespace Go.Proofs.Ytcilclbolmijfaa
open Go.RowKit
set_option maxRecDepth 100000 in
set_option maxHeartbeats 2000000 in
theorem ror1n (n d q L t rv : Int) (hn : n.tdiv d = q) (k1 : n < q * d) (hL : q - 1 = L) (ht : n - L * d = t) (hd : 1 ≤ d) (hd2 : d ≤ 1152921504606846976) (n1 : -4611686018427387904 ≤ n) (n2 : n ≤ 4611686018427387904) (q1 : -4611686018427387904 ≤ q) (q2 : q ≤ 4611686018427387904)
    (p1 : -9223372036854775807 ≤ q * d) (p2 : q * d ≤ 9223372036854775807) (t1 : 0 ≤ t) (t2 : t < d) (hr : rv = L) (w : World) :
    Calls Try.prog 43 #[.int .i64 n, .int .i64 d, .int .i64 1] w fun e w' => e = .returned (.int .i64 rv) ∧ w = w' := by
  have HR := Lib.hid hr
  have d0 : (d == 0) = false := by simp; omega
  have p3 : -9223372036854775807 ≤ L * d := by omega
  have p4 : L * d ≤ 9223372036854775807 := by omega
  clear hr
  obtain rfl : rv = L := HR.out
  clear HR
  go_enter Try.func43, Try.ntmps43
  go_wp2_with fail
  go_ret
  exact ⟨rfl, rfl⟩
set_option maxRecDepth 100000 in
set_option maxHeartbeats 2000000 in
theorem ror1p (n d q L t rv : Int) (hn : n.tdiv d = q) (k1 : q * d ≤ n) (hL : q = L) (ht : n - L * d = t) (hd : 1 ≤ d) (hd2 : d ≤ 1152921504606846976) (n1 : -4611686018427387904 ≤ n) (n2 : n ≤ 4611686018427387904) (q1 : -4611686018427387904 ≤ q) (q2 : q ≤ 4611686018427387904)
    (p1 : -9223372036854775807 ≤ q * d) (p2 : q * d ≤ 9223372036854775807) (t1 : 0 ≤ t) (t2 : t < d) (hr : rv = L) (w : World) :
    Calls Try.prog 43 #[.int .i64 n, .int .i64 d, .int .i64 1] w fun e w' => e = .returned (.int .i64 rv) ∧ w = w' := by
  have HR := Lib.hid hr
  have d0 : (d == 0) = false := by simp; omega
  have p3 : -9223372036854775807 ≤ L * d := by omega
  have p4 : L * d ≤ 9223372036854775807 := by omega
  clear hr
  subst hL
  obtain rfl : rv = q := HR.out
  clear HR
  go_enter Try.func43, Try.ntmps43
  go_wp2_with fail
  go_ret
  exact ⟨rfl, rfl⟩
set_option maxRecDepth 100000 in
set_option maxHeartbeats 2000000 in
theorem ror2n (n d q L t rv : Int) (hn : n.tdiv d = q) (k1 : n < q * d) (hL : q - 1 = L) (ht : n - L * d = t) (hd : 1 ≤ d) (hd2 : d ≤ 1152921504606846976) (n1 : -4611686018427387904 ≤ n) (n2 : n ≤ 4611686018427387904) (q1 : -4611686018427387904 ≤ q) (q2 : q ≤ 4611686018427387904)
    (p1 : -9223372036854775807 ≤ q * d) (p2 : q * d ≤ 9223372036854775807) (t1 : 0 ≤ t) (t2 : t < d) (hr : rv = if t = 0 then L else L + 1) (w : World) :
    Calls Try.prog 43 #[.int .i64 n, .int .i64 d, .int .i64 2] w fun e w' => e = .returned (.int .i64 rv) ∧ w = w' := by
  have HR := Lib.hid hr
  have d0 : (d == 0) = false := by simp; omega
  have p3 : -9223372036854775807 ≤ L * d := by omega
  have p4 : L * d ≤ 9223372036854775807 := by omega
  clear hr
  by_cases t0 : t = 0
  · subst t0
    obtain rfl : rv = L := by
      have := HR.out
      rwa [if_pos rfl] at this
    clear HR
    go_enter Try.func43, Try.ntmps43
    go_wp2_with fail
    go_ret
    exact ⟨rfl, rfl⟩
  · have t1 : 0 < t := by omega
    obtain rfl : rv = L + 1 := by
      have := HR.out
      rwa [if_neg t0] at this
    clear HR
    go_enter Try.func43, Try.ntmps43
    go_wp2_with fail
    go_ret
    exact ⟨rfl, rfl⟩
set_option maxRecDepth 100000 in
set_option maxHeartbeats 2000000 in
theorem ror2p (n d q L t rv : Int) (hn : n.tdiv d = q) (k1 : q * d ≤ n) (hL : q = L) (ht : n - L * d = t) (hd : 1 ≤ d) (hd2 : d ≤ 1152921504606846976) (n1 : -4611686018427387904 ≤ n) (n2 : n ≤ 4611686018427387904) (q1 : -4611686018427387904 ≤ q) (q2 : q ≤ 4611686018427387904)
    (p1 : -9223372036854775807 ≤ q * d) (p2 : q * d ≤ 9223372036854775807) (t1 : 0 ≤ t) (t2 : t < d) (hr : rv = if t = 0 then L else L + 1) (w : World) :
    Calls Try.prog 43 #[.int .i64 n, .int .i64 d, .int .i64 2] w fun e w' => e = .returned (.int .i64 rv) ∧ w = w' := by
  have HR := Lib.hid hr
  have d0 : (d == 0) = false := by simp; omega
  have p3 : -9223372036854775807 ≤ L * d := by omega
  have p4 : L * d ≤ 9223372036854775807 := by omega
  clear hr
  subst hL
  by_cases t0 : t = 0
  · subst t0
    obtain rfl : rv = q := by
      have := HR.out
      rwa [if_pos rfl] at this
    clear HR
    go_enter Try.func43, Try.ntmps43
    go_wp2_with fail
    go_ret
    exact ⟨rfl, rfl⟩
  · have t1 : 0 < t := by omega
    obtain rfl : rv = q + 1 := by
      have := HR.out
      rwa [if_neg t0] at this
    clear HR
    go_enter Try.func43, Try.ntmps43
    go_wp2_with fail
    go_ret
    exact ⟨rfl, rfl⟩
set_option maxRecDepth 100000 in
set_option maxHeartbeats 2000000 in
theorem ror3n (n d q L t rv : Int) (hn : n.tdiv d = q) (k1 : n < q * d) (hL : q - 1 = L) (ht : n - L * d = t) (hd : 1 ≤ d) (hd2 : d ≤ 1152921504606846976) (n1 : -4611686018427387904 ≤ n) (n2 : n ≤ 4611686018427387904) (q1 : -4611686018427387904 ≤ q) (q2 : q ≤ 4611686018427387904)
    (p1 : -9223372036854775807 ≤ q * d) (p2 : q * d ≤ 9223372036854775807) (t1 : 0 ≤ t) (t2 : t < d) (hr : rv = if 2 * t < d then L else L + 1) (w : World) :
    Calls Try.prog 43 #[.int .i64 n, .int .i64 d, .int .i64 3] w fun e w' => e = .returned (.int .i64 rv) ∧ w = w' := by
  have HR := Lib.hid hr
  have d0 : (d == 0) = false := by simp; omega
  have p3 : -9223372036854775807 ≤ L * d := by omega
  have p4 : L * d ≤ 9223372036854775807 := by omega
  clear hr
  by_cases t0 : 2 * t < d
  · obtain rfl : rv = L := by
      have := HR.out
      rwa [if_pos t0] at this
    clear HR
    have t1 : 2 * t ≤ d := by omega
    have t2 : (2 * t == d) = false := by simp; omega
    go_enter Try.func43, Try.ntmps43
    go_wp2_with fail
    go_ret
    exact ⟨rfl, rfl⟩
  · obtain rfl : rv = L + 1 := by
      have := HR.out
      rwa [if_neg t0] at this
    clear HR
    by_cases t1 : d < 2 * t
    · go_enter Try.func43, Try.ntmps43
      go_wp2_with fail
      go_ret
      exact ⟨rfl, rfl⟩
    · have t3 : 2 * t ≤ d := by omega
      have t2 : (2 * t == d) = true := by simp; omega
      go_enter Try.func43, Try.ntmps43
      go_wp2_with fail
      go_ret
      exact ⟨rfl, rfl⟩
set_option maxRecDepth 100000 in
set_option maxHeartbeats 2000000 in
theorem ror3p (n d q L t rv : Int) (hn : n.tdiv d = q) (k1 : q * d ≤ n) (hL : q = L) (ht : n - L * d = t) (hd : 1 ≤ d) (hd2 : d ≤ 1152921504606846976) (n1 : -4611686018427387904 ≤ n) (n2 : n ≤ 4611686018427387904) (q1 : -4611686018427387904 ≤ q) (q2 : q ≤ 4611686018427387904)
    (p1 : -9223372036854775807 ≤ q * d) (p2 : q * d ≤ 9223372036854775807) (t1 : 0 ≤ t) (t2 : t < d) (hr : rv = if 2 * t < d then L else L + 1) (w : World) :
    Calls Try.prog 43 #[.int .i64 n, .int .i64 d, .int .i64 3] w fun e w' => e = .returned (.int .i64 rv) ∧ w = w' := by
  have HR := Lib.hid hr
  have d0 : (d == 0) = false := by simp; omega
  have p3 : -9223372036854775807 ≤ L * d := by omega
  have p4 : L * d ≤ 9223372036854775807 := by omega
  clear hr
  subst hL
  by_cases t0 : 2 * t < d
  · obtain rfl : rv = q := by
      have := HR.out
      rwa [if_pos t0] at this
    clear HR
    have t1 : 2 * t ≤ d := by omega
    have t2 : (2 * t == d) = false := by simp; omega
    go_enter Try.func43, Try.ntmps43
    go_wp2_with fail
    go_ret
    exact ⟨rfl, rfl⟩
  · obtain rfl : rv = q + 1 := by
      have := HR.out
      rwa [if_neg t0] at this
    clear HR
    by_cases t1 : d < 2 * t
    · go_enter Try.func43, Try.ntmps43
      go_wp2_with fail
      go_ret
      exact ⟨rfl, rfl⟩
    · have t3 : 2 * t ≤ d := by omega
      have t2 : (2 * t == d) = true := by simp; omega
      go_enter Try.func43, Try.ntmps43
      go_wp2_with fail
      go_ret
      exact ⟨rfl, rfl⟩
set_option maxRecDepth 100000 in
set_option maxHeartbeats 2000000 in
theorem ror4n (n d q L t rv : Int) (hn : n.tdiv d = q) (k1 : n < q * d) (hL : q - 1 = L) (ht : n - L * d = t) (hd : 1 ≤ d) (hd2 : d ≤ 1152921504606846976) (n1 : -4611686018427387904 ≤ n) (n2 : n ≤ 4611686018427387904) (q1 : -4611686018427387904 ≤ q) (q2 : q ≤ 4611686018427387904)
    (p1 : -9223372036854775807 ≤ q * d) (p2 : q * d ≤ 9223372036854775807) (t1 : 0 ≤ t) (t2 : t < d) (hr : rv = if 2 * t < d ∨ (2 * t = d ∧ L % 2 = 0) then L else L + 1) (w : World) :
    Calls Try.prog 43 #[.int .i64 n, .int .i64 d, .int .i64 4] w fun e w' => e = .returned (.int .i64 rv) ∧ w = w' := by
  have HR := Lib.hid hr
  have d0 : (d == 0) = false := by simp; omega
  have p3 : -9223372036854775807 ≤ L * d := by omega
  have p4 : L * d ≤ 9223372036854775807 := by omega
  clear hr
  by_cases t0 : 2 * t < d
  · obtain rfl : rv = L := by
      have := HR.out
      rwa [if_pos (.inl t0)] at this
    clear HR
    have t1 : 2 * t ≤ d := by omega
    have t2 : (2 * t == d) = false := by simp; omega
    go_enter Try.func43, Try.ntmps43
    go_wp2_with fail
    go_ret
    exact ⟨rfl, rfl⟩
  · by_cases t1 : d < 2 * t
    · obtain rfl : rv = L + 1 := by
        have := HR.out
        rwa [if_neg (by omega)] at this
      clear HR
      go_enter Try.func43, Try.ntmps43
      go_wp2_with fail
      go_ret
      exact ⟨rfl, rfl⟩
    · have t3 : 2 * t ≤ d := by omega
      have t2 : (2 * t == d) = true := by simp; omega
      by_cases t4 : L % 2 = 0
      · have t5 : (L.tmod 2 != 0) = false := by have := odd_iff L; simp; omega
        obtain rfl : rv = L := by
          have := HR.out
          rwa [if_pos (.inr ⟨by omega, t4⟩)] at this
        clear HR
        clear t4
        go_enter Try.func43, Try.ntmps43
        go_wp2_with fail
        go_ret
        exact ⟨rfl, rfl⟩
      · have t5 : (L.tmod 2 != 0) = true := by have := odd_iff L; simp; omega
        obtain rfl : rv = L + 1 := by
          have := HR.out
          rwa [if_neg (by omega)] at this
        clear HR
        clear t4
        go_enter Try.func43, Try.ntmps43
        go_wp2_with fail
        go_ret
        exact ⟨rfl, rfl⟩
set_option maxRecDepth 100000 in
set_option maxHeartbeats 2000000 in
theorem ror4p (n d q L t rv : Int) (hn : n.tdiv d = q) (k1 : q * d ≤ n) (hL : q = L) (ht : n - L * d = t) (hd : 1 ≤ d) (hd2 : d ≤ 1152921504606846976) (n1 : -4611686018427387904 ≤ n) (n2 : n ≤ 4611686018427387904) (q1 : -4611686018427387904 ≤ q) (q2 : q ≤ 4611686018427387904)
    (p1 : -9223372036854775807 ≤ q * d) (p2 : q * d ≤ 9223372036854775807) (t1 : 0 ≤ t) (t2 : t < d) (hr : rv = if 2 * t < d ∨ (2 * t = d ∧ L % 2 = 0) then L else L + 1) (w : World) :
    Calls Try.prog 43 #[.int .i64 n, .int .i64 d, .int .i64 4] w fun e w' => e = .returned (.int .i64 rv) ∧ w = w' := by
  have HR := Lib.hid hr
  have d0 : (d == 0) = false := by simp; omega
  have p3 : -9223372036854775807 ≤ L * d := by omega
  have p4 : L * d ≤ 9223372036854775807 := by omega
  clear hr
  subst hL
  by_cases t0 : 2 * t < d
  · obtain rfl : rv = q := by
      have := HR.out
      rwa [if_pos (.inl t0)] at this
    clear HR
    have t1 : 2 * t ≤ d := by omega
    have t2 : (2 * t == d) = false := by simp; omega
    go_enter Try.func43, Try.ntmps43
    go_wp2_with fail
    go_ret
    exact ⟨rfl, rfl⟩
  · by_cases t1 : d < 2 * t
    · obtain rfl : rv = q + 1 := by
        have := HR.out
        rwa [if_neg (by omega)] at this
      clear HR
      go_enter Try.func43, Try.ntmps43
      go_wp2_with fail
      go_ret
      exact ⟨rfl, rfl⟩
    · have t3 : 2 * t ≤ d := by omega
      have t2 : (2 * t == d) = true := by simp; omega
      by_cases t4 : q % 2 = 0
      · have t5 : (q.tmod 2 != 0) = false := by have := odd_iff q; simp; omega
        obtain rfl : rv = q := by
          have := HR.out
          rwa [if_pos (.inr ⟨by omega, t4⟩)] at this
        clear HR
        clear t4
        go_enter Try.func43, Try.ntmps43
        go_wp2_with fail
        go_ret
        exact ⟨rfl, rfl⟩
      · have t5 : (q.tmod 2 != 0) = true := by have := odd_iff q; simp; omega
        obtain rfl : rv = q + 1 := by
          have := HR.out
          rwa [if_neg (by omega)] at this
        clear HR
        clear t4
        go_enter Try.func43, Try.ntmps43
        go_wp2_with fail
        go_ret
        exact ⟨rfl, rfl⟩
theorem rounded_r (n d how : Int) (hn1 : -4611686018427387904 ≤ n) (hn2 : n ≤ 4611686018427387904) (hd : 1 ≤ d) (hd2 : d ≤ 1152921504606846976) (h1 : 1 ≤ how) (h4 : how ≤ 4) (w : World) :
    Calls Try.prog 43 #[.int .i64 n, .int .i64 d, .int .i64 how] w fun e w' => e = .returned (.int .i64 (roV n d how)) ∧ w = w' := by
  obtain ⟨s1, s2, s3, s4, s5⟩ := split_td n d (by omega)
  have hq : (n.tdiv d).natAbs ≤ n.natAbs := by rw [Int.natAbs_tdiv]; exact Nat.div_le_self _ _
  have hR := Int.emod_nonneg n (b := d) (by omega)
  have hRd := Int.emod_lt_of_pos n (b := d) (by omega)
  have hs : n - n / d * d = n % d := by have := Int.mul_ediv_add_emod n d; rw [Int.mul_comm] at this; omega
  rcases Int.lt_or_le (n.tmod d) 0 with h | h
  · obtain ⟨e1, e2⟩ := s4 h
    rcases (show how = 1 ∨ how = 2 ∨ how = 3 ∨ how = 4 by omega) with rfl | rfl | rfl | rfl
    · exact ror1n n d _ (n / d) (n % d) _ rfl (by omega) e1.symm hs hd hd2 hn1 hn2 (by omega) (by omega) (by omega) (by omega) hR hRd rfl w
    · exact ror2n n d _ (n / d) (n % d) _ rfl (by omega) e1.symm hs hd hd2 hn1 hn2 (by omega) (by omega) (by omega) (by omega) hR hRd rfl w
    · exact ror3n n d _ (n / d) (n % d) _ rfl (by omega) e1.symm hs hd hd2 hn1 hn2 (by omega) (by omega) (by omega) (by omega) hR hRd rfl w
    · exact ror4n n d _ (n / d) (n % d) _ rfl (by omega) e1.symm hs hd hd2 hn1 hn2 (by omega) (by omega) (by omega) (by omega) hR hRd rfl w
  · obtain ⟨e1, e2⟩ := s5 h
    rcases (show how = 1 ∨ how = 2 ∨ how = 3 ∨ how = 4 by omega) with rfl | rfl | rfl | rfl
    · exact ror1p n d _ (n / d) (n % d) _ rfl (by omega) e1.symm hs hd hd2 hn1 hn2 (by omega) (by omega) (by omega) (by omega) hR hRd rfl w
    · exact ror2p n d _ (n / d) (n % d) _ rfl (by omega) e1.symm hs hd hd2 hn1 hn2 (by omega) (by omega) (by omega) (by omega) hR hRd rfl w
    · exact ror3p n d _ (n / d) (n % d) _ rfl (by omega) e1.symm hs hd hd2 hn1 hn2 (by omega) (by omega) (by omega) (by omega) hR hRd rfl w
    · exact ror4p n d _ (n / d) (n % d) _ rfl (by omega) e1.symm hs hd hd2 hn1 hn2 (by omega) (by omega) (by omega) (by omega) hR hRd rfl w
end Go.Proofs.Ytcilclbolmijfaa
