/- guess, takeAway, putBack: the three steps of a long division. -/
import Derived.Test.YtoanomgdkkbbmaaKnuth
namespace Go.Proofs.Ytoanomgdkkbbmaa
open Go.RowKit LM

set_option maxRecDepth 100000 in
set_option maxHeartbeats 1000000 in
theorem guess_any (g i bb bo c cb n : Nat) (ps bs : List Int) (w : World) (hn2 : 2 ≤ n) (hnn : n ≤ 1048577) (hp : ps.length = n + 1) (hb : bs.length = n) (dp : Dig ps) (db : Dig bs) (htop : BB ≤ 2 * bs.getD (n - 1) 0) (hlt : val ps < BB * val bs)
    (hpc : ∀ t, t < n + 1 → w.cell? ⟨g, i + t, none⟩ = some (.int .u32 (ps.getD t 0))) (hbc : ∀ t, t < n → w.cell? ⟨bb, bo + t, none⟩ = some (.int .u32 (bs.getD t 0))) :
    Calls Try.prog 136 #[.slice (some ⟨g, i, none⟩) (n + 1) c, .slice (some ⟨bb, bo, none⟩) n cb] w fun e w' => ∃ d, e = .returned (.int .u32 d) ∧ Guessed (val ps) (val bs) d ∧ ∃ q, w' = w.drewN q := by
  have hin : GuessIn (val ps) (val bs) (bs.getD (n - 1) 0) (bs.getD (n - 2) 0) (ps.getD n 0 * BB + ps.getD (n - 1) 0) (ps.getD (n - 2) 0) (BB ^ (n - 2)) := by
    obtain ⟨k, rfl⟩ : ∃ k, n = k + 2 := ⟨n - 2, by omega⟩
    exact GuessIn.of hp hb dp db htop hlt
  have c1 := hpc n (by omega)
  have c2 := hpc (n - 1) (by omega)
  have c3 := hpc (n - 2) (by omega)
  have c4 := hbc (n - 1) (by omega)
  have c5 := hbc (n - 2) (by omega)
  have b1 := dp.getD n
  have b2 := dp.getD (n - 1)
  have b3 := dp.getD (n - 2)
  have b4 := db.getD (n - 1)
  have b5 := db.getD (n - 2)
  clear hpc hbc hp hb dp db hlt
  generalize ps.getD n 0 = u0 at *
  generalize ps.getD (n - 1) 0 = u1 at *
  generalize ps.getD (n - 2) 0 = u2 at *
  generalize bs.getD (n - 1) 0 = v1 at *
  generalize bs.getD (n - 2) 0 = v2 at *
  generalize val ps = P at *
  generalize val bs = b at *
  generalize BB ^ (n - 2) = W at *
  obtain ⟨T, hT⟩ : ∃ T, u0 * BB + u1 = T := ⟨_, rfl⟩
  rw [hT] at hin
  have htT := hin.top
  have hfirst := hin.first
  have hbound := GuessRel.bound hin hfirst
  have HIN := Lib.hid hin
  have HF := Lib.hid hfirst
  rw [BB_def] at hT b1 b2 b3 b4 b5 htop htT hbound
  have hj := or_join u0 u1 b1.1 b1.2 b2.1 b2.2
  rw [hT] at hj
  have T0 : 0 ≤ T := by omega
  have T1 : T < 18446744073709551616 := by omega
  obtain ⟨b10, b11⟩ := b1
  obtain ⟨b20, b21⟩ := b2
  obtain ⟨b30, b31⟩ := b3
  obtain ⟨b40, b41⟩ := b4
  obtain ⟨b50, b51⟩ := b5
  have d0 : 0 ≤ T / v1 := Int.ediv_nonneg T0 (by omega)
  have r0 : 0 ≤ T % v1 := Int.emod_nonneg _ (by omega)
  have r1 : T % v1 < v1 := Int.emod_lt_of_pos _ (by omega)
  have y0 : (v1 != 0) = true := by simp; omega
  have y1 : (v1 == 0) = false := by simp; omega
  have q1 : (0 : Int) ≤ (n : Int) - 1 := by omega
  have q2 : (n : Int) - 1 < (n : Int) := by omega
  have q3 : ((n : Int) - 1).toNat = n - 1 := by omega
  have q4 : (0 : Int) ≤ (n : Int) - 2 := by omega
  have q5 : (n : Int) - 2 < (n : Int) := by omega
  have q6 : ((n : Int) - 2).toNat = n - 2 := by omega
  have q7 : (n : Int) - 1 < ((n + 1 : Nat) : Int) := by omega
  have q8 : (n : Int) - 2 < ((n + 1 : Nat) : Int) := by omega
  have q9 : (n : Int) < ((n + 1 : Nat) : Int) := by omega
  clear hin hfirst hT
  go_enter Try.func136, Try.ntmps136
  go_wp2_with fail
  go_quiet (fail)
  go_wp2_with fail
  go_quiet (fail)
  go_wp2_with fail
  go_loopw [7, 8] (fun dv rv wr => ∃ d r q, dv = .int .u64 d ∧ rv = .int .u64 r ∧ GuessRel P b v1 T d r ∧ r < 4294967296 ∧ wr = w.drewN q) (fun dv _ _ => (intOf dv).toNat)
  case atStart => exact ⟨_, _, _, rfl, rfl, HF.out, by omega, World.drewN_drewN ..⟩
  case round =>
    obtain ⟨d, r, q, rfl, rfl, hrel, hr, rfl⟩ := hrel
    have hbd := GuessRel.bound HIN.out hrel
    rw [BB_def] at hbd
    have hd0 := hrel.2.2.1
    have hr0 := hrel.2.1
    have HR := Lib.hid hrel
    clear hrel hj
    obtain ⟨z, hz⟩ : ∃ z, r * 4294967296 + u2 = z := ⟨_, rfl⟩
    have hj := or_join r u2 hr0 hr b30 b31
    rw [hz] at hj
    have z0 : 0 ≤ z := by omega
    have HZ := Lib.hid hz
    clear hz
    by_cases hbig : 4294967296 ≤ d
    · have hd1 : (d / 4294967296 != 0) = true := by simp; omega
      have hlow := GuessIn.low HIN.out HR.out (Or.inl hbig)
      have hnext := HR.out.less (by omega) hlow
      have HN := Lib.hid hnext
      have h1d := hlow.1
      clear hnext hlow
      by_cases hbr : 4294967296 ≤ r + v1
      · have hbk : ((r + v1) / 4294967296 != 0) = true := by simp; omega
        have hfin := HIN.out.broken HN.out hbr
        have hf1 := hfin.1.2
        rw [BB_def] at hf1
        have HFIN := Lib.hid hfin
        clear hfin
        go_wp2_with fail
        go_quiet (fail)
        go_wp2_with fail
        go_ret
        exact ⟨_, rfl, HFIN.out, _, rfl⟩
      · have hbk : ((r + v1) / 4294967296 != 0) = false := by simp; omega
        go_wp2_with fail
        go_quiet (fail)
        go_wp2_with fail
        exact ⟨⟨d - 1, r + v1, _, rfl, rfl, HN.out, by omega, rfl⟩, by simp [intOf]; omega⟩
    · have hd1 : (d / 4294967296 != 0) = false := by simp; omega
      have hdv : 0 ≤ d * v2 ∧ d * v2 < 18446744073709551616 := by
        have := mul_bound (x := d) (y := v2) ⟨hd0, by rw [BB_def]; omega⟩ ⟨b50, by rw [BB_def]; omega⟩
        omega
      obtain ⟨hdv0, hdv1⟩ := hdv
      by_cases hgt : z < d * v2
      · have hgd : decide (z < d * v2) = true := by simpa using hgt
        have hlow := GuessIn.low HIN.out HR.out (Or.inr (by rw [BB_def, HZ.out]; exact hgt))
        clear hgt
        have hnext := HR.out.less (by omega) hlow
        have HN := Lib.hid hnext
        have h1d := hlow.1
        clear hnext hlow
        by_cases hbr : 4294967296 ≤ r + v1
        · have hbk : ((r + v1) / 4294967296 != 0) = true := by simp; omega
          have hfin := HIN.out.broken HN.out hbr
          have hf1 := hfin.1.2
          rw [BB_def] at hf1
          have HFIN := Lib.hid hfin
          clear hfin
          go_wp2_with fail
          go_quiet (fail)
          go_wp2_with fail
          go_ret
          exact ⟨_, rfl, HFIN.out, _, rfl⟩
        · have hbk : ((r + v1) / 4294967296 != 0) = false := by simp; omega
          go_wp2_with fail
          go_quiet (fail)
          go_wp2_with fail
          exact ⟨⟨d - 1, r + v1, _, rfl, rfl, HN.out, by omega, rfl⟩, by simp [intOf]; omega⟩
      · have hgd : decide (z < d * v2) = false := by simpa using hgt
        have hfin := GuessIn.high HIN.out HR.out (by rw [BB_def]; omega) (by rw [BB_def, HZ.out]; omega)
        have HFIN := Lib.hid hfin
        clear hfin hgt
        go_wp2_with fail
        go_quiet (fail)
        go_wp2_with fail
        go_ret
        exact ⟨_, rfl, HFIN.out, _, rfl⟩

end Go.Proofs.Ytoanomgdkkbbmaa
