/- fromDigits. -/
import Derived.Test.YtoanomgdkkbbmaaDigs
namespace Go.Proofs.Ytoanomgdkkbbmaa
open Go.RowKit LM

theorem isEmpty_size {T : ByteArray} (h : T.size ≠ 0) : T.toList.isEmpty = false := by
  rw [ByteArray.toList_eq]
  cases hl : T.data.toList with
  | nil =>
    have : T.data.toList.length = T.size := by rw [Array.length_toList]; rfl
    rw [hl] at this
    exact absurd this.symm h
  | cons _ _ => rfl

theorem isEmpty_zero {T : ByteArray} (h : T.size = 0) : T.toList.isEmpty = true := by
  rw [ByteArray.toList_eq]
  have : T.data.toList.length = T.size := by rw [Array.length_toList]; rfl
  rw [h] at this
  rw [List.eq_nil_of_length_eq_zero this]; rfl

theorem PartRel.fits {R : Int} {cs : List Int} {j k : Nat} {p pw : Int} (h : PartRel R cs j p pw) (hR : 2 ≤ R) (hj : j ≤ k) (hk : R ^ k < 4294967296) : (0 ≤ p ∧ p < BB) ∧ (0 ≤ pw ∧ pw < BB) := by
  have h' := h
  obtain ⟨_, _, _, hw, p0, p1⟩ := h
  have hpw : pw < 4294967296 := by
    rcases Nat.eq_or_lt_of_le hj with e | e
    · rw [hw, e]; exact hk
    · have := h'.bound hR e hk
      have h2 : pw * 2 ≤ pw * R := Int.mul_le_mul_of_nonneg_left hR (by omega)
      omega
  rw [BB_def]; omega

set_option maxRecDepth 100000 in
set_option maxHeartbeats 2000000 in
theorem fromDigits_any (S : ByteArray) (R : Int) (w : World) (h0 : 2 ≤ R) (h1 : R ≤ 36) (hS : S.size ≠ 0) (hS2 : S.size ≤ 20000) :
    Calls Try.prog 111 #[.string S, .int .i64 R] w fun e w' => ((∃ v, e = .returned (.tuple #[v, .bool true]) ∧ Num w' v (horner R 0 (bs S)) S.size ∧ AllOk R (bs S)) ∨ (e = .returned (.tuple #[.slice none 0 0, .bool false]) ∧ ¬ AllOk R (bs S))) ∧ Below w.heap.size w w' := by
  have hem : S.toList.isEmpty = false := isEmpty_size hS
  have hRw : IntKind.u32.wrap R = R := by rw [IntKind.wrap_u32]; omega
  go_enter Try.func111, Try.ntmps111
  go_wp2_with fail
  refine (chunk_any R _ h0 h1).mono ?_
  rintro e w1 ⟨⟨k, rfl, hk1, hk2, hp2, hpk⟩, rfl⟩
  have HPK := Lib.hid hpk
  obtain ⟨P, hP⟩ : ∃ P, R ^ k = P := ⟨_, rfl⟩
  rw [hP]
  clear hpk hp2 hP
  go_wp2_with fail
  go_loopw [0, 4] (fun sv lv wr => ∃ (i : Nat) (z : Int) (T : ByteArray), sv = .string T ∧ ReadRel R (bs S) i z (bs T) ∧ Num wr lv z i ∧ Below w.heap.size w wr) (fun sv _ _ => match sv with | .string T => T.size | _ => 0)
  case atStart =>
    refine ⟨0, 0, S, rfl, ⟨Nat.zero_le _, fun c h => by simp at h, by simp [horner], by simp⟩, ?_, Below.refl _ _⟩
    exact ⟨none, 0, 0, [], rfl, Row.nil_, Dig.nil, .inl rfl, rfl, Nat.le_refl _⟩
  case round =>
    obtain ⟨i, z, T, rfl, hr, hn, hb⟩ := hrel
    have HR := Lib.hid hr
    have HN := Lib.hid hn
    have HB := Lib.hid hb
    have hiS : i ≤ 20000 := by have := hr.1; rw [bs_length] at this; omega
    clear hr hn hb
    by_cases hT : T.size = 0
    · have hte := isEmpty_zero hT
      have hbT : bs T = [] := List.eq_nil_of_length_eq_zero (by rw [bs_length]; exact hT)
      have hr := HR.out
      rw [hbT] at hr
      obtain ⟨ho, hz⟩ := hr.all
      have hi := hr.1
      rw [bs_length] at hi
      have hn := HN.out
      rw [hz] at hn
      go_wp2_with fail
      go_ret2
      exact ⟨.inl ⟨_, rfl, hn.mono hi, ho⟩, HB.out⟩
    · have hte := isEmpty_size hT
      by_cases hmin : (T.size : Int) < (k : Int)
      · go_wp2_with fail
        obtain ⟨wo, rfl⟩ : ∃ wo : World, wo = wr := ⟨_, rfl⟩
        obtain ⟨lv, rfl⟩ : ∃ lv, lv = u4 := ⟨_, rfl⟩
        go_loopw [4, 8, 9, 25] (fun lx pv wv jv wx => ∃ (j : Nat) (p pw : Int), lx = lv ∧ pv = .int .u32 p ∧ wv = .int .u32 pw ∧ jv = .int .i64 j ∧ j ≤ T.size ∧ Hid (PartRel R (bs T) j p pw) ∧ wo = wx) (fun _ _ _ jv _ => T.size - (intOf jv).toNat)
        case atStart => exact ⟨0, 0, 1, rfl, rfl, rfl, rfl, Nat.zero_le _, Lib.hid (PartRel.start _ _), rfl⟩
        case round =>
          obtain ⟨j, p, pw, rfl, rfl, rfl, rfl, hjq, HJ, rfl⟩ := hrel
          by_cases hlt : j < T.size
          · have hjT : j < T.size := by omega
            have hbj := bs_byte T j hjT
            obtain ⟨c, hc⟩ : ∃ c, ((T[j].toNat : Int)) = c := ⟨_, rfl⟩
            have hcg : (bs T).getD j 0 = c := by rw [bs_get T j hjT, hc]
            rw [hc] at hbj
            have HC := Lib.hid hcg
            clear hcg
            go_wp2_with fail
            refine (digit_is c _ hbj.1 hbj.2).mono ?_
            rintro e wd ⟨rfl, rfl⟩
            obtain ⟨d, hd⟩ : ∃ d, digVal 99 c = d := ⟨_, rfl⟩
            have hd0 : 0 ≤ d := by rw [← hd]; exact digVal_nonneg (by decide)
            have HD := Lib.hid hd
            rw [hd]
            clear hd
            by_cases hdR : d < R
            · obtain ⟨hn, b0, b1, b2⟩ := HJ.out.step (by rw [bs_length]; exact hjT) h0 HC.out (by rw [HD.out]; exact hdR)
              have b3 := HJ.out.bound h0 (show j < k by omega) HPK.out
              rw [HD.out] at hn b1
              have HNX := Lib.hid hn
              clear hn
              have hw1 : IntKind.u32.wrap (p * R) = p * R := by rw [IntKind.wrap_u32]; omega
              have hw2 : IntKind.u32.wrap d = d := by rw [IntKind.wrap_u32]; omega
              have hw3 : IntKind.u32.wrap (p * R + d) = p * R + d := by rw [IntKind.wrap_u32]; omega
              have hw4 : IntKind.u32.wrap (pw * R) = pw * R := by rw [IntKind.wrap_u32]; omega
              clear b0 b1 b2 b3
              go_wp2_with fail
              go_roundw
              case rel => exact ⟨j + 1, _, _, rfl, rfl, rfl, by go_num, by omega, HNX, trivial⟩
              case measure => simp [intOf]; omega
            · have hbad := HJ.out.bad (by rw [bs_length]; exact hjT) HC.out (by rw [HD.out]; exact hdR)
              have hbad' := HR.out.not hbad
              go_wp2_with fail
              go_ret2
              exact ⟨.inr ⟨rfl, hbad'⟩, HB.out⟩
          · obtain rfl : j = T.size := by omega
            have hpr := HJ.out
            have hpb : (0 ≤ p ∧ p < BB) ∧ (0 ≤ pw ∧ pw < BB) := HJ.out.fits h0 (by omega) HPK.out
            have HPB := Lib.hid hpb
            have HNX := Lib.hid (HR.out.next HJ.out)
            clear hpr hpb
            go_wp2_with fail
            refine (scaled_num _ z pw p i _ HN.out (by omega) HPB.out.2 HPB.out.1).mono ?_
            rintro e wd ⟨lw, rfl, hln, hlb⟩
            have HLN := Lib.hid (hln.mono (show i + 1 ≤ i + T.size by omega))
            have HLB := Lib.hid (HB.out.trans (hlb.mono HB.out.size))
            clear hln hlb
            go_wp2_with fail
            go_roundw
            case rel =>
              refine ⟨i + T.size, z * pw + p, ByteArray.empty, rfl, ?_, HLN.out, HLB.out⟩
              have e0 : bs ByteArray.empty = (bs T).drop T.size := by rw [List.drop_of_length_le (by rw [bs_length]; exact Nat.le_refl _)]; rfl
              rw [e0]
              exact HNX.out
            case measure => simp [ByteArray.size_extract]; omega
      · go_wp2_with fail
        obtain ⟨wo, rfl⟩ : ∃ wo : World, wo = wr := ⟨_, rfl⟩
        obtain ⟨lv, rfl⟩ : ∃ lv, lv = u4 := ⟨_, rfl⟩
        go_loopw [4, 8, 9, 25] (fun lx pv wv jv wx => ∃ (j : Nat) (p pw : Int), lx = lv ∧ pv = .int .u32 p ∧ wv = .int .u32 pw ∧ jv = .int .i64 j ∧ j ≤ k ∧ Hid (PartRel R (bs T) j p pw) ∧ wo = wx) (fun _ _ _ jv _ => k - (intOf jv).toNat)
        case atStart => exact ⟨0, 0, 1, rfl, rfl, rfl, rfl, Nat.zero_le _, Lib.hid (PartRel.start _ _), rfl⟩
        case round =>
          obtain ⟨j, p, pw, rfl, rfl, rfl, rfl, hjq, HJ, rfl⟩ := hrel
          by_cases hlt : j < k
          · have hjT : j < T.size := by omega
            have hbj := bs_byte T j hjT
            obtain ⟨c, hc⟩ : ∃ c, ((T[j].toNat : Int)) = c := ⟨_, rfl⟩
            have hcg : (bs T).getD j 0 = c := by rw [bs_get T j hjT, hc]
            rw [hc] at hbj
            have HC := Lib.hid hcg
            clear hcg
            go_wp2_with fail
            refine (digit_is c _ hbj.1 hbj.2).mono ?_
            rintro e wd ⟨rfl, rfl⟩
            obtain ⟨d, hd⟩ : ∃ d, digVal 99 c = d := ⟨_, rfl⟩
            have hd0 : 0 ≤ d := by rw [← hd]; exact digVal_nonneg (by decide)
            have HD := Lib.hid hd
            rw [hd]
            clear hd
            by_cases hdR : d < R
            · obtain ⟨hn, b0, b1, b2⟩ := HJ.out.step (by rw [bs_length]; exact hjT) h0 HC.out (by rw [HD.out]; exact hdR)
              have b3 := HJ.out.bound h0 (show j < k by omega) HPK.out
              rw [HD.out] at hn b1
              have HNX := Lib.hid hn
              clear hn
              have hw1 : IntKind.u32.wrap (p * R) = p * R := by rw [IntKind.wrap_u32]; omega
              have hw2 : IntKind.u32.wrap d = d := by rw [IntKind.wrap_u32]; omega
              have hw3 : IntKind.u32.wrap (p * R + d) = p * R + d := by rw [IntKind.wrap_u32]; omega
              have hw4 : IntKind.u32.wrap (pw * R) = pw * R := by rw [IntKind.wrap_u32]; omega
              clear b0 b1 b2 b3
              go_wp2_with fail
              go_roundw
              case rel => exact ⟨j + 1, _, _, rfl, rfl, rfl, by go_num, by omega, HNX, trivial⟩
              case measure => simp [intOf]; omega
            · have hbad := HJ.out.bad (by rw [bs_length]; exact hjT) HC.out (by rw [HD.out]; exact hdR)
              have hbad' := HR.out.not hbad
              go_wp2_with fail
              go_ret2
              exact ⟨.inr ⟨rfl, hbad'⟩, HB.out⟩
          · obtain rfl : j = k := by omega
            have hpr := HJ.out
            have hpb : (0 ≤ p ∧ p < BB) ∧ (0 ≤ pw ∧ pw < BB) := HJ.out.fits h0 (by omega) HPK.out
            have HPB := Lib.hid hpb
            have HNX := Lib.hid (HR.out.next HJ.out)
            clear hpr hpb
            go_wp2_with fail
            refine (scaled_num _ z pw p i _ HN.out (by omega) HPB.out.2 HPB.out.1).mono ?_
            rintro e wd ⟨lw, rfl, hln, hlb⟩
            have HLN := Lib.hid (hln.mono (show i + 1 ≤ i + j by omega))
            have HLB := Lib.hid (HB.out.trans (hlb.mono HB.out.size))
            clear hln hlb
            go_wp2_with fail
            go_roundw
            case rel =>
              refine ⟨i + j, z * pw + p, T.extract j T.size, rfl, ?_, HLN.out, HLB.out⟩
              rw [bs_from T _ (by omega)]
              exact HNX.out
            case measure => simp [ByteArray.size_extract]; omega

end Go.Proofs.Ytoanomgdkkbbmaa
