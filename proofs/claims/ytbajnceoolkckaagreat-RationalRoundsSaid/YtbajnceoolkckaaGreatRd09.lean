/- Of the proof of RationalRounds: Down. -/
import Derived.Test.YtbajnceoolkckaaGreatRd08
set_option maxRecDepth 100000
set_option maxHeartbeats 16000000
namespace Go.Proofs.YtbajnceoolkckaaGreat
open Go.RowKit LM
theorem BB_pow2 (r:Nat) (h:r <= 32) : BB = 2 ^ r * 2 ^ (32 - r):=by
 rw [<- Int.pow_add,show r + (32 - r) = 32 from by omega];decide
theorem down_digit {xs:List Int} (hd:Dig xs) (i r:Nat) (hr:r <= 32) : val xs / 2 ^ r / BB ^ i % BB = (xs.getD (i + 1) 0 * 4294967296 + xs.getD i 0) / 2 ^ r % BB:=by
 have hp:=two_pos r
 rw [Int.ediv_ediv_of_nonneg (Int.le_of_lt hp),Int.mul_comm,<- Int.ediv_ediv_of_nonneg (Int.le_of_lt (BB_pos i))]
 have e1:val xs / BB ^ i = xs.getD i 0 + BB * (xs.getD (i + 1) 0) + BB * (BB * val (xs.drop (i + 2))):=by
  by_cases h:i < xs.length
  ·have h1:=val_split xs i (by omega)
   have hb:=val_bounds (hd.take i)
   rw [List.length_take,Nat.min_eq_left (by omega)] at hb
   have h2:val (xs.drop i) = xs.getD i 0 + BB * (xs.getD (i + 1) 0 + BB * val (xs.drop (i + 2))):=by
    rw [drop_cons xs i h,val_cons]
    congr 2
    by_cases h':i + 1 < xs.length
    ·rw [drop_cons xs (i + 1) h',val_cons]
    ·rw [List.drop_of_length_le (by omega),List.drop_of_length_le (by omega),getD_out _ _ (by omega)];simp [val]
   rw [h1,Int.add_mul_ediv_left _ _ (by have:=BB_pos i;omega),Int.ediv_eq_zero_of_lt hb.1 hb.2,Int.zero_add,h2,Int.mul_add];omega
  ·have hb:=val_bounds hd
   have:=pow_le (show xs.length <= i by omega)
   rw [Int.ediv_eq_zero_of_lt hb.1 (by omega),getD_out _ _ (by omega),getD_out _ _ (by omega),List.drop_of_length_le (by omega)];simp [val]
 rw [e1]
 have e2:BB * (BB * val (xs.drop (i + 2))) = 2 ^ r * (BB * (2 ^ (32 - r) * val (xs.drop (i + 2)))):=by
  have:=BB_pow2 r hr
  generalize val (xs.drop (i + 2)) = t
  rw [show BB * (2 ^ (32 - r) * t) = 2 ^ (32 - r) * (BB * t) from by rw [<- Int.mul_assoc,Int.mul_comm BB,Int.mul_assoc],<- Int.mul_assoc (2 ^ r),<- this]
 rw [e2,Int.add_mul_ediv_left _ _ (by omega),Int.add_mul_emod_self_left,BB_def]
 congr 2
 omega
def DownRel (w wr:World) (n r:Nat) (xs:List Int) (i:Nat) : Prop:=
 i <= n /\ Below w.heap.size w wr /\ ∃ ds:List Int,ds.length = i /\ Dig ds /\ val ds = val xs / 2 ^ r % BB ^ i /\ Own wr w.heap.size w.heap.size n (ds ++ List.replicate (n - i) 0)
theorem DownRel.cells {w wr:World} {n r:Nat} {xs:List Int} {i:Nat} (h:DownRel w wr n r xs i) (hi:i < n) :
  (∃ u,wr.cell? ⟨w.heap.size,i,none⟩ = some (.int .u32 u)) /\ wr.frozen? ⟨w.heap.size,i,none⟩ = false:=by
 obtain ⟨_,_,ds,hl,_,_,ho⟩:=h
 exact ⟨⟨_,ho.cell hi⟩,ho.frozen _⟩
theorem DownRel.drew {w wr:World} {n r:Nat} {xs:List Int} {i:Nat} (h:DownRel w wr n r xs i) : DownRel w wr.drew n r xs i:=by
 obtain ⟨a,hb,t⟩:=h
 exact ⟨a,hb.drew,t⟩
theorem DownRel.step {w wr:World} {n r:Nat} {xs:List Int} {i:Nat} {x y z:Int} (h:DownRel w wr n r xs i) (hi:i < n) (hr:r < 32) (hd:Dig xs) (ex:xs.getD i 0 = x) (ey:xs.getD (i + 1) 0 = y)
  (hz:(y * 4294967296 + x) / 2 ^ r % 4294967296 = z) : DownRel w (wr.setCell ⟨w.heap.size,i,none⟩ (.int .u32 z)) n r xs (i + 1):=by
 obtain ⟨_,hb,ds,hl,hds,hv,ho⟩:=h
 have hdig:=down_digit hd i r (by omega)
 rw [ex,ey,BB_def,hz] at hdig
 have hz0:0 <= z /\ z < BB:=by
  rw [<- hz,BB_def];exact ⟨Int.emod_nonneg _ (by decide),Int.emod_lt_of_pos _ (by decide)⟩
 refine ⟨hi,hb.setCell (Nat.le_refl _) _,ds ++ [z],by simp [hl],hds.snoc hz0.1 hz0.2,?_,?_⟩
 ·rw [val_snoc,hl,hv,Int.pow_succ,emod_two_parts _ (BB_pos i) (by decide)]
  rw [show (val xs / 2 ^ r / BB ^ i % BB) = z from by rw [BB_def];exact hdig]
 ·have:=ho.set i z
  rwa [set_zeros ds n i hl hi z] at this
theorem DownRel.done {w wr:World} {n r:Nat} {xs:List Int} (h:DownRel w wr n r xs n) (hd:Dig xs) (hl:xs.length = n) :
  ∃ zs,Dig zs /\ val zs = val xs / 2 ^ r /\ Row .u32 wr (some ⟨w.heap.size,0,none⟩) n n zs /\ Below w.heap.size w wr:=by
 obtain ⟨_,hb,ds,hdl,hds,hv,ho⟩:=h
 rw [Nat.sub_self,List.replicate_zero,List.append_nil] at ho
 refine ⟨ds,hds,?_,ho.row,hb⟩
 have h1:=val_bounds hd
 have hp:=two_pos r
 have h2:0 <= val xs / 2 ^ r:=Int.ediv_nonneg h1.1 (Int.le_of_lt hp)
 have h3:val xs / 2 ^ r <= val xs:=Int.ediv_le_self _ h1.1
 rw [hv,Int.emod_eq_of_lt h2 (by rw [<- hl];omega)]
theorem down_split {xs:List Int} (hd:Dig xs) {sk r N:Nat} (hs:sk <= xs.length) (hN:N = 32 * sk + r) (hr:r <= 32) :
  val xs / 2 ^ N = val (xs.drop sk) / 2 ^ r /\ (val xs % 2 ^ N = val (xs.take sk) + BB ^ sk * (xs.getD sk 0 % 2 ^ r)):=by
 have h1:=val_split xs sk hs
 have hb:=val_bounds (hd.take sk)
 rw [List.length_take,Nat.min_eq_left hs] at hb
 have hp:=BB_pos sk
 have e:val xs / BB ^ sk = val (xs.drop sk):=by
  rw [h1,Int.add_mul_ediv_left _ _ (by omega),Int.ediv_eq_zero_of_lt hb.1 hb.2,Int.zero_add]
 have e2:val xs % BB ^ sk = val (xs.take sk):=by
  rw [h1,Int.add_mul_emod_self_left,Int.emod_eq_of_lt hb.1 hb.2]
 have e3:val (xs.drop sk) % 2 ^ r = xs.getD sk 0 % 2 ^ r:=by
  by_cases h:sk < xs.length
  ·rw [drop_cons xs sk h,val_cons,BB_pow2 r hr,Int.mul_assoc,Int.add_mul_emod_self_left]
  ·rw [List.drop_of_length_le (by omega),getD_out _ _ (by omega)];rfl
 subst hN
 rw [Int.pow_add,<- BB_two]
 refine ⟨?_,?_⟩
 ·rw [<- Int.ediv_ediv_of_nonneg (Int.le_of_lt hp),e]
 ·rw [emod_two_parts _ hp (two_pos r),e,e2,e3]
theorem lost_iff {a p b:Int} (ha:0 <= a) (hp:0 < p) (hb:0 <= b) : (a + p * b ≠ 0) ↔ (a ≠ 0 \/ b ≠ 0):=by
 have h:=Int.mul_nonneg (Int.le_of_lt hp) hb
 constructor
 ·intro h'
  by_cases h0:a = 0
  ·right;intro hb0;apply h';rw [h0,hb0];simp
  ·exact .inl h0
 ·rintro (h' | h') h0
  ·omega
  ·have:=Int.mul_pos hp (show 0 < b by omega)
   omega
theorem and_low {x:Int} {r:Nat} (hr:r < 32) (h0:0 <= x) (h1:x < 4294967296) : bits BinOp.and IntKind.u32 x (2 ^ r - 1) = x % 2 ^ r:=by
 obtain ⟨X,rfl⟩:=Int.eq_ofNat_of_zero_le h0
 have hp:0 < 2 ^ r:=Nat.two_pow_pos r
 have hm:2 ^ r <= 2 ^ 31:=Nat.pow_le_pow_right (by decide) (by omega)
 have e:(2:Int) ^ r - 1 = ((2 ^ r - 1:Nat) : Int):=by rw [Int.natCast_sub hp,Int.natCast_pow];rfl
 have e2:(2:Int) ^ r = ((2 ^ r:Nat) : Int):=by rw [Int.natCast_pow];rfl
 rw [e,u32_and_nat _ _ (by omega) (by omega),Nat.and_two_pow_sub_one_eq_mod,e2];rfl
theorem down_over (A:Option Addr) (n c:Nat) (m:Nat) (w:World) (hm:m <= 9223372036854775807) (hn:n <= m / 32) :
  Calls Tryz.prog 180 #[.slice A n c,.int .i64 m] w fun e w'=>e = .returned (.tuple #[.slice none 0 0,.bool (decide (0 < n))]) /\ w = w':=by
 obtain ⟨k,hk⟩ : ∃ k,m / 32 = k:=⟨_,rfl⟩
 obtain ⟨r,hr⟩ : ∃ r,m % 32 = r:=⟨_,rfl⟩
 have t1:(m:Int).tdiv 32 = (k:Int):=by rw [Int.tdiv_eq_ediv_of_nonneg (by omega)];omega
 have t2:(m:Int).tmod 32 = (r:Int):=by rw [Int.tmod_eq_emod_of_nonneg (by omega)];omega
 have hr32:r < 32:=by omega
 have hkb:(k:Int) <= 9223372036854775807:=by omega
 have hnk:(n:Int) <= (k:Int):=by omega
 clear hk hr hn
 go_enter Tryz.func180,Tryz.ntmps180
 go_wp2_with fail
 go_ret2
 exact ⟨by simp,rfl⟩
theorem down_some (A : Option Addr) (n c : Nat) (xs : List Int) (m : Nat) (w : World) (h : Row .u32 w A n c xs) (hdx : Dig xs) (hm : m ≤ 9223372036854775807) (hmn : m / 32 < n) (hnn : n ≤ 1048576) :
    Calls Tryz.prog 180 #[.slice A n c, .int .i64 m] w fun e w' => ∃ v, e = .returned (.tuple #[v, .bool (decide (val xs % 2 ^ m ≠ 0))]) ∧ Num w' v (val xs / 2 ^ m) (n - m / 32) ∧ Below w.heap.size w w' := by
  obtain ⟨i0, hi, hz0, hz1, hz2⟩ := info_parts Tryz.info135
  obtain ⟨sk, hsk⟩ : ∃ sk, m / 32 = sk := ⟨_, rfl⟩
  obtain ⟨r, hr⟩ : ∃ r, m % 32 = r := ⟨_, rfl⟩
  have t1 : (m : Int).tdiv 32 = (sk : Int) := by rw [Int.tdiv_eq_ediv_of_nonneg (by omega)]; omega
  have t2 : (m : Int).tmod 32 = (r : Int) := by rw [Int.tmod_eq_emod_of_nonneg (by omega)]; omega
  have hr32 : r < 32 := by omega
  rw [hsk] at hmn ⊢
  have hl := h.1
  obtain ⟨hq, hlm⟩ := down_split hdx (sk := sk) (r := r) (N := m) (by omega) (by omega) (by omega)
  have hbt := val_bounds (hdx.take sk)
  obtain ⟨b, o, rfl, hbx, hx⟩ := h.2.2 (by omega)
  obtain ⟨x0, ex0⟩ : ∃ x, xs.getD sk 0 = x := ⟨_, rfl⟩
  have bx := hdx.getD sk
  rw [ex0] at bx hlm
  rw [BB_def] at bx
  have BX := Lib.hid bx
  have hp2 := two_pos r
  have hp31 : (2 : Int) ^ r ≤ 2147483648 := by have := two_mono (show r ≤ 31 by omega); have e : (2 : Int) ^ 31 = 2147483648 := by decide
                                               omega
  have hand := and_low hr32 bx.1 bx.2
  have hw1 : IntKind.u32.wrap (2 ^ r) = 2 ^ r := by rw [IntKind.wrap_u32]; exact Int.emod_eq_of_lt (by omega) (by omega)
  have hw2 : IntKind.u32.wrap (2 ^ r - 1) = 2 ^ r - 1 := by rw [IntKind.wrap_u32]; exact Int.emod_eq_of_lt (by omega) (by omega)
  have HAND := Lib.hid (show bits BinOp.and IntKind.u32 x0 (IntKind.u32.wrap (IntKind.u32.wrap (2 ^ r) - 1)) = x0 % 2 ^ r by rw [hw1, hw2, hand])
  obtain ⟨lst, hls⟩ : ∃ lst, decide (val xs % 2 ^ m ≠ 0) = lst := ⟨_, rfl⟩
  rw [hls]
  have HLS := Lib.hid hls
  have hlow : 0 ≤ x0 % 2 ^ r := Int.emod_nonneg _ (by omega)
  have hiff := lost_iff hbt.1 (BB_pos sk) hlow
  rw [← hlm] at hiff
  have HQ := Lib.hid hq
  have HIFF := Lib.hid hiff
  have HX := Lib.hid hx
  have HX2 : ∀ j x, xs.getD j 0 = x → j < n → w.cell? ⟨b, o + j, none⟩ = some (.int .u32 x) := fun j x e h => by rw [← e]; exact HX.out j h
  have HROW := Lib.hid h
  have HL := Lib.hid hl
  have hc0 : w.cell? ⟨b, o + sk, none⟩ = some (.int .u32 x0) := by rw [← ex0]; exact hx sk (by omega)
  have HT := Lib.hid (fun (w' : World) (hb : Below w.heap.size w w') => (show w'.cell? ⟨b, o + sk, none⟩ = some (.int .u32 x0) ∧ Below w.heap.size w w' from ⟨(hb.cell (p := ⟨b, o + sk, none⟩) hbx).trans hc0, hb⟩))
  have hB0 := (Below.refl w.heap.size w).drew
  have HTK := Lib.hid (h.take (show sk ≤ n by omega))
  have hskn : ¬ (n : Int) ≤ (sk : Int) := by omega
  have hskn2 : (sk : Int) ≤ (n : Int) := by omega
  have hcn : (n : Int) ≤ (c : Int) := by have := h.2.1; omega
  have hskc : sk ≤ c := by have := h.2.1; omega
  have hlt0 : (sk : Int) < (n : Int) := by omega
  clear h hx hq hlm hbt hiff hlow hl hc0 hsk hr hand hw1 hw2 hls hp31 hp2
  go_enter Tryz.func180, Tryz.ntmps180
  go_wp2_with fail
  refine wp_region_held_drew (S := fun w' => w'.cell? ⟨b, o + sk, none⟩ = some (.int .u32 x0) ∧ Below w.heap.size w w') (by kernel_rfl) (HT.out _ hB0) (fun hHeld0 => ?_)
  refine wpAnyH_taken (i := 0) (d := some 23) (v := ?_) rfl rfl (by kernel_rfl) (by kernel_rfl) (by kernel_rfl) (fun _ _ _ h => h) (Or.inl ⟨by rfl, ?_⟩) (by assumption) ?_
  rotate_left 1
  · (intro w hSw; (try dsimp only at hSw); go_simp; try with_reducible rfl)
  try simp only [Act.put, List.setIfInBounds_toArray, List.set_cons_zero, List.set_cons_succ]
  refine wpAnyH_taken (i := 1) (d := some 24) (v := ?_) rfl rfl (by kernel_rfl) (by kernel_rfl) (by kernel_rfl) (fun _ _ _ h => h) (Or.inl ⟨by rfl, ?_⟩) (by assumption) ?_
  rotate_left 1
  · (intro w hSw; (try dsimp only at hSw); go_simp; try with_reducible rfl)
  try simp only [Act.put, List.setIfInBounds_toArray, List.set_cons_zero, List.set_cons_succ]
  refine wpAnyH_taken (i := 2) (d := some 25) (v := ?_) rfl rfl (by kernel_rfl) (by kernel_rfl) (by kernel_rfl) (fun _ _ _ h => h) (Or.inl ⟨by rfl, ?_⟩) (by assumption) ?_
  rotate_left 1
  · (intro w hSw; (try dsimp only at hSw); go_simp; try with_reducible rfl)
  try simp only [Act.put, List.setIfInBounds_toArray, List.set_cons_zero, List.set_cons_succ]
  refine wpAnyH_ready (rs := [3]) (by kernel_rfl) (by simp) ?_
  refine AllReadyH.cons rfl (fun K hK => ?_) AllReadyH.nil
  try simp only [List.getElem_toArray, List.getElem_cons_zero, List.getElem_cons_succ]
  go_simp
  (go_at_call 155; refine (trim_any _ sk c (xs.take sk) _ (HTK.out.below hB0) (by omega)).mono ?_; rintro e w2 ⟨k, hk, rfl, rfl, hvk, htk⟩)
  have HVK := Lib.hid hvk
  have HTR := Lib.hid htk
  clear hvk htk
  refine hK.out _ _ (HT.out _ hB0) (fun hHeld1 => ?_)
  clear hK K hHeld0 
  try simp only [Act.put, List.setIfInBounds_toArray, List.set_cons_zero, List.set_cons_succ]
  refine wpAnyH_taken (i := 4) (d := some 27) (v := ?_) rfl rfl (by kernel_rfl) (by kernel_rfl) (by kernel_rfl) (fun _ _ _ h => h) (Or.inl ⟨by rfl, ?_⟩) (by assumption) ?_
  rotate_left 1
  · (intro w hSw; (try dsimp only at hSw); go_simp; try with_reducible rfl)
  try simp only [Act.put, List.setIfInBounds_toArray, List.set_cons_zero, List.set_cons_succ]
  have hvz : val (xs.take sk) = 0 → k = 0 := fun h0 => by
    rcases Nat.eq_zero_or_pos k with h1 | h1
    · exact h1
    · have hd := (hdx.take sk).take k
      have hge := val_ge hd HTR.out (by rw [List.length_take, List.length_take]; have := HL.out; omega)
      rw [HVK.out, h0] at hge
      have := BB_pos (((xs.take sk).take k).length - 1)
      omega
  have hvt0 : k = 0 → val (xs.take sk) = 0 := fun h0 => by rw [← HVK.out, h0]; rfl
  have HVZ := Lib.hid (And.intro hvz hvt0)
  clear hvz hvt0
  rcases Nat.eq_zero_or_pos k with hk0 | hk0
  · have hvt := HVZ.out.2 hk0
    subst hk0
    have HVT := Lib.hid hvt
    clear hvt
    have hkd : decide (0 < 0) = false := by decide
    refine wpAnyH_taken (i := 5) (d := some 28) (v := ?_) rfl rfl (by kernel_rfl) (by kernel_rfl) (by kernel_rfl) (fun _ _ _ h => h) (Or.inl ⟨by rfl, ?_⟩) (by assumption) ?_
    rotate_left 1
    · (intro w hSw; (try dsimp only at hSw); go_simp; try with_reducible rfl)
    try simp only [Act.put, List.setIfInBounds_toArray, List.set_cons_zero, List.set_cons_succ]
    refine wpAnyH_taken (i := 6) (d := some 29) (v := ?_) rfl rfl (by kernel_rfl) (by kernel_rfl) (by kernel_rfl) (fun _ _ _ h => h) (Or.inl ⟨by rfl, ?_⟩) (by assumption) ?_
    rotate_left 1
    · (intro w hSw; (try dsimp only at hSw); go_simp; try with_reducible rfl)
    try simp only [Act.put, List.setIfInBounds_toArray, List.set_cons_zero, List.set_cons_succ]
    refine wpAnyH_taken (i := 7) (d := some 30) (v := ?_) rfl rfl (by kernel_rfl) (by kernel_rfl) (by kernel_rfl) (fun _ _ _ h => h) (Or.inl ⟨by rfl, ?_⟩) (by assumption) ?_
    rotate_left 1
    · (intro w hSw; (try dsimp only at hSw); go_simp; try with_reducible rfl)
    try simp only [Act.put, List.setIfInBounds_toArray, List.set_cons_zero, List.set_cons_succ]
    refine wpAnyH_taken (i := 8) (d := some 31) (v := ?_) rfl rfl (by kernel_rfl) (by kernel_rfl) (by kernel_rfl) (fun _ _ _ h => h) (Or.inl ⟨by rfl, ?_⟩) (by assumption) ?_
    rotate_left 1
    · (intro w hSw; (try dsimp only at hSw); go_simp; try with_reducible rfl)
    try simp only [Act.put, List.setIfInBounds_toArray, List.set_cons_zero, List.set_cons_succ]
    refine wpAnyH_taken (i := 9) (d := some 32) (v := ?_) rfl rfl (by kernel_rfl) (by kernel_rfl) (by kernel_rfl) (fun _ _ _ h => h) (Or.inl ⟨by rfl, ?_⟩) (by assumption) ?_
    rotate_left 1
    · (intro w hSw; (try dsimp only at hSw); go_simp; try with_reducible rfl)
    try simp only [Act.put, List.setIfInBounds_toArray, List.set_cons_zero, List.set_cons_succ]
    refine wpAnyH_taken (i := 10) (d := some 33) (v := ?_) rfl rfl (by kernel_rfl) (by kernel_rfl) (by kernel_rfl) (fun _ _ _ h => h) (Or.inl ⟨by rfl, ?_⟩) (by assumption) ?_
    rotate_left 1
    · (intro w hSw; (try dsimp only at hSw); go_simp; try with_reducible rfl)
    try simp only [Act.put, List.setIfInBounds_toArray, List.set_cons_zero, List.set_cons_succ]
    refine wpAnyH_taken (i := 11) (d := some 34) (v := ?_) rfl rfl (by kernel_rfl) (by kernel_rfl) (by kernel_rfl) (fun _ _ _ h => h) (Or.inl ⟨by rfl, ?_⟩) (by assumption) ?_
    rotate_left 1
    · (intro w hSw; (try dsimp only at hSw); go_simp; try with_reducible rfl)
    try simp only [Act.put, List.setIfInBounds_toArray, List.set_cons_zero, List.set_cons_succ]
    refine wpAnyH_taken (i := 12) (d := some 35) (v := ?_) rfl rfl (by kernel_rfl) (by kernel_rfl) (by kernel_rfl) (fun _ _ _ h => h) (Or.inl ⟨by rfl, ?_⟩) (by assumption) ?_
    rotate_left 1
    · (intro w hSw; (try dsimp only at hSw); go_simp; try with_reducible rfl)
    try simp only [Act.put, List.setIfInBounds_toArray, List.set_cons_zero, List.set_cons_succ]
    refine wpAnyH_taken (i := 13) (d := some 36) (v := ?_) rfl rfl (by kernel_rfl) (by kernel_rfl) (by kernel_rfl) (fun _ _ _ h => h) (Or.inl ⟨by rfl, ?_⟩) (by assumption) ?_
    rotate_left 1
    · (intro w hSw; (try dsimp only at hSw); go_simp; try with_reducible rfl)
    try simp only [Act.put, List.setIfInBounds_toArray, List.set_cons_zero, List.set_cons_succ]
    refine wpAnyH_taken (i := 14) (d := some 37) (v := ?_) rfl rfl (by kernel_rfl) (by kernel_rfl) (by kernel_rfl) (fun _ _ _ h => h) (Or.inl ⟨by rfl, ?_⟩) (by assumption) ?_
    rotate_left 1
    · (intro w hSw; (try dsimp only at hSw); go_simp; try with_reducible rfl)
    try simp only [Act.put, List.setIfInBounds_toArray, List.set_cons_zero, List.set_cons_succ]
    refine wpAnyH_taken (i := 15) (d := some 38) (v := ?_) rfl rfl (by kernel_rfl) (by kernel_rfl) (by kernel_rfl) (fun _ _ _ h => h) (Or.inl ⟨by rfl, ?_⟩) (by assumption) ?_
    rotate_left 1
    · (intro w hSw; (try dsimp only at hSw); go_simp; try with_reducible rfl)
    try simp only [Act.put, List.setIfInBounds_toArray, List.set_cons_zero, List.set_cons_succ]
    refine wpAnyH_taken (i := 16) (d := some 39) (v := ?_) rfl rfl (by kernel_rfl) (by kernel_rfl) (by kernel_rfl) (fun _ _ _ h => h) (Or.inl ⟨by rfl, ?_⟩) (by assumption) ?_
    rotate_left 1
    · (intro w hSw; (try dsimp only at hSw); go_simp; try with_reducible rfl)
    try simp only [Act.put, List.setIfInBounds_toArray, List.set_cons_zero, List.set_cons_succ]
    refine wpAnyH_taken (i := 17) (d := some 8) (v := ?_) rfl rfl (by kernel_rfl) (by kernel_rfl) (by kernel_rfl) (fun _ _ _ h => h) (Or.inl ⟨by rfl, ?_⟩) (by assumption) ?_
    rotate_left 1
    · (intro w hSw; (try dsimp only at hSw); go_simp; try with_reducible rfl)
    try simp only [Act.put, List.setIfInBounds_toArray, List.set_cons_zero, List.set_cons_succ]
    refine wpAnyH_done (by kernel_rfl) ?_ _
    rw [HAND.out, show (x0 % 2 ^ r != 0) = lst from by rw [← HLS.out]; simp [HIFF.out, HVT.out]; rfl]
    clear hkd
    go_wp2_with (at_make; refine wpList_make_full _ rfl _ _ 22 rfl w.heap.size 135 i0 (.int .u32 0) 1 Tryz.underlying22 hi hz0 hz1 _ _ _ _ (n - sk) rfl rfl (by omega) (by omega) (by rw [hz2]; omega) (by unfold maxLen; omega) (Nat.le_refl _) ?_; intro w1 hown hgrow)
    go_loopw [47] (fun iv wr => ∃ i : Nat, iv = .int .i64 i ∧ DownRel w wr (n - sk) r (xs.drop sk) i) (fun iv _ => (n - sk) - (intOf iv).toNat)
    case atStart =>
      refine ⟨0, rfl, Nat.zero_le _, (hB0.grown hgrow (Nat.le_refl _) (fun _ h => by cases h)), [], rfl, Dig.nil, by simp [val, Int.emod_one], ?_⟩
      rw [zeros_made] at hown
      exact hown
    case round =>
      obtain ⟨i, rfl, hrel⟩ := hrel
      have HR := Lib.hid hrel
      obtain ⟨hk, hb, -⟩ := hrel
      by_cases hlt : i < n - sk
      · obtain ⟨x, ex⟩ : ∃ x, xs.getD (i + sk) 0 = x := ⟨_, rfl⟩
        obtain ⟨y, ey⟩ : ∃ y, xs.getD (i + sk + 1) 0 = y := ⟨_, rfl⟩
        have hx1 : wr.cell? ⟨b, o + (i + sk), none⟩ = some (.int .u32 x) := by rw [← ex]; exact (hb.cell (p := ⟨b, o + (i + sk), none⟩) hbx).trans (HX.out (i + sk) (by omega))
        have bx := hdx.getD (i + sk)
        have by' := hdx.getD (i + sk + 1)
        rw [ex, BB_def] at bx
        rw [ey, BB_def] at by'
        obtain ⟨bx0, bx1⟩ := bx
        obtain ⟨by0, by1⟩ := by'
        obtain ⟨⟨u, hu⟩, hfr⟩ := HR.out.cells hlt
        obtain ⟨vv, hvv⟩ : ∃ vv, y * 4294967296 + x = vv := ⟨_, rfl⟩
        have vv0 : 0 ≤ vv := by omega
        have vv1 : vv < 18446744073709551616 := by omega
        have vr0 : 0 ≤ vv / 2 ^ r := Int.ediv_nonneg vv0 (Int.le_of_lt (two_pos r))
        have vr1 : vv / 2 ^ r ≤ vv := Int.ediv_le_self _ vv0
        have hst := HR.out.drew.step (x := x) (y := y) hlt hr32 (hdx.drop sk) (by rw [← ex]; simp [List.getD, Nat.add_comm]) (by rw [← ey]; simp only [List.getD, List.getElem?_drop]; rw [show sk + (i + 1) = i + sk + 1 from by omega]) (by rw [hvv])
        have HST := Lib.hid hst
        have hsg : ¬ IntKind.u64.signed = true := by decide
        have HOR := Lib.hid (show bits BinOp.or IntKind.u64 (IntKind.u64.wrap (IntKind.u64.wrap y * 4294967296)) (IntKind.u64.wrap x) = vv by
          rw [show IntKind.u64.wrap y = y from by rw [IntKind.wrap_u64]; omega, show IntKind.u64.wrap x = x from by rw [IntKind.wrap_u64]; omega, show IntKind.u64.wrap (y * 4294967296) = y * 4294967296 from by rw [IntKind.wrap_u64]; omega, or64 ⟨by0, by1⟩ ⟨bx0, bx1⟩, hvv])
        have HEY := Lib.hid (show xs.getD ((i : Int) + (sk : Int) + 1).toNat 0 = y by rw [← ey]; congr 1)
        have HT9 := Lib.hid (fun (w' : World) (hb' : Below w.heap.size w w') => (hb'.cell (p := ⟨b, o + (i + sk), none⟩) hbx).trans (HX2 (i + sk) x ex (by omega)))
        have hC0 := hb.drew
        have s1 : IntKind.i64.wrap ((i : Int) + (sk : Int)) = (i : Int) + (sk : Int) := by rw [IntKind.wrap_i64]; omega
        have s2 : IntKind.i64.wrap ((i : Int) + (sk : Int) + 1) = (i : Int) + (sk : Int) + 1 := by rw [IntKind.wrap_i64]; omega
        have s3 : ((i : Int) + (sk : Int)).toNat = i + sk := by omega
        have s4 : (i : Int) + (sk : Int) < (n : Int) := by omega
        have s5 : 0 ≤ (i : Int) + (sk : Int) := by omega
        have hin : (i : Int) < ((n - sk : Nat) : Int) := by omega
        clear hst ex ey hvv
        go_wp2_with fail
        refine wp_region_held_drew (S := fun w' => w'.cell? ⟨b, o + (i + sk), none⟩ = some (.int .u32 x)) (by kernel_rfl) (HT9.out _ hC0) (fun hHeld0 => ?_)
        refine wpAnyH_taken (i := 0) (d := some 50) (v := ?_) rfl rfl (by kernel_rfl) (by kernel_rfl) (by kernel_rfl) (fun _ _ _ h => h) (Or.inl ⟨by rfl, ?_⟩) (by assumption) ?_
        rotate_left 1
        · (intro w hSw; (try dsimp only at hSw); go_simp; try with_reducible rfl)
        try simp only [Act.put, List.setIfInBounds_toArray, List.set_cons_zero, List.set_cons_succ]
        refine wpAnyH_taken (i := 1) (d := some 51) (v := ?_) rfl rfl (by kernel_rfl) (by kernel_rfl) (by kernel_rfl) (fun _ _ _ h => h) (Or.inl ⟨by rfl, ?_⟩) (by assumption) ?_
        rotate_left 1
        · (intro w hSw; (try dsimp only at hSw); go_simp; try with_reducible rfl)
        try simp only [Act.put, List.setIfInBounds_toArray, List.set_cons_zero, List.set_cons_succ]
        refine wpAnyH_taken (i := 2) (d := some 52) (v := ?_) rfl rfl (by kernel_rfl) (by kernel_rfl) (by kernel_rfl) (fun _ _ _ h => h) (Or.inl ⟨by rfl, ?_⟩) (by assumption) ?_
        rotate_left 1
        · (intro w hSw; (try dsimp only at hSw); go_simp; try with_reducible rfl)
        try simp only [Act.put, List.setIfInBounds_toArray, List.set_cons_zero, List.set_cons_succ]
        refine wpAnyH_taken (i := 3) (d := some 53) (v := ?_) rfl rfl (by kernel_rfl) (by kernel_rfl) (by kernel_rfl) (fun _ _ _ h => h) (Or.inl ⟨by rfl, ?_⟩) (by assumption) ?_
        rotate_left 1
        · (intro w hSw; (try dsimp only at hSw); go_simp; try with_reducible rfl)
        try simp only [Act.put, List.setIfInBounds_toArray, List.set_cons_zero, List.set_cons_succ]
        refine wpAnyH_taken (i := 4) (d := some 54) (v := ?_) rfl rfl (by kernel_rfl) (by kernel_rfl) (by kernel_rfl) (fun _ _ _ h => h) (Or.inl ⟨by rfl, ?_⟩) (by assumption) ?_
        rotate_left 1
        · (intro w hSw; (try dsimp only at hSw); go_simp; try with_reducible rfl)
        try simp only [Act.put, List.setIfInBounds_toArray, List.set_cons_zero, List.set_cons_succ]
        refine wpAnyH_taken (i := 8) (d := some 58) (v := ?_) rfl rfl (by kernel_rfl) (by kernel_rfl) (by kernel_rfl) (fun _ _ _ h => h) (Or.inl ⟨by rfl, ?_⟩) (by assumption) ?_
        rotate_left 1
        · (intro w hSw; (try dsimp only at hSw); go_simp; try with_reducible rfl)
        try simp only [Act.put, List.setIfInBounds_toArray, List.set_cons_zero, List.set_cons_succ]
        refine wpAnyH_taken (i := 9) (d := some 59) (v := ?_) rfl rfl (by kernel_rfl) (by kernel_rfl) (by kernel_rfl) (fun _ _ _ h => h) (Or.inl ⟨by rfl, ?_⟩) (by assumption) ?_
        rotate_left 1
        · (intro w hSw; (try dsimp only at hSw); go_simp; try with_reducible rfl)
        try simp only [Act.put, List.setIfInBounds_toArray, List.set_cons_zero, List.set_cons_succ]
        refine wpAnyH_taken (i := 10) (d := some 60) (v := ?_) rfl rfl (by kernel_rfl) (by kernel_rfl) (by kernel_rfl) (fun _ _ _ h => h) (Or.inl ⟨by rfl, ?_⟩) (by assumption) ?_
        rotate_left 1
        · (intro w hSw; (try dsimp only at hSw); go_simp; try with_reducible rfl)
        try simp only [Act.put, List.setIfInBounds_toArray, List.set_cons_zero, List.set_cons_succ]
        refine wpAnyH_taken (i := 11) (d := some 61) (v := ?_) rfl rfl (by kernel_rfl) (by kernel_rfl) (by kernel_rfl) (fun _ _ _ h => h) (Or.inl ⟨by rfl, ?_⟩) (by assumption) ?_
        rotate_left 1
        · (intro w hSw; (try dsimp only at hSw); go_simp; try with_reducible rfl)
        try simp only [Act.put, List.setIfInBounds_toArray, List.set_cons_zero, List.set_cons_succ]
        refine wpAnyH_taken (i := 12) (d := some 62) (v := ?_) rfl rfl (by kernel_rfl) (by kernel_rfl) (by kernel_rfl) (fun _ _ _ h => h) (Or.inl ⟨by rfl, ?_⟩) (by assumption) ?_
        rotate_left 1
        · (intro w hSw; (try dsimp only at hSw); go_simp; try with_reducible rfl)
        try simp only [Act.put, List.setIfInBounds_toArray, List.set_cons_zero, List.set_cons_succ]
        refine wpAnyH_taken (i := 13) (d := some 63) (v := ?_) rfl rfl (by kernel_rfl) (by kernel_rfl) (by kernel_rfl) (fun _ _ _ h => h) (Or.inl ⟨by rfl, ?_⟩) (by assumption) ?_
        rotate_left 1
        · (intro w hSw; (try dsimp only at hSw); go_simp; try with_reducible rfl)
        try simp only [Act.put, List.setIfInBounds_toArray, List.set_cons_zero, List.set_cons_succ]
        refine wpAnyH_taken (i := 14) (d := some 64) (v := ?_) rfl rfl (by kernel_rfl) (by kernel_rfl) (by kernel_rfl) (fun _ _ _ h => h) (Or.inl ⟨by rfl, ?_⟩) (by assumption) ?_
        rotate_left 1
        · (intro w hSw; (try dsimp only at hSw); go_simp; try with_reducible rfl)
        try simp only [Act.put, List.setIfInBounds_toArray, List.set_cons_zero, List.set_cons_succ]
        refine wpAnyH_ready (rs := [5]) (by kernel_rfl) (by simp) ?_
        refine AllReadyH.cons rfl (fun K hK => ?_) AllReadyH.nil
        try simp only [List.getElem_toArray, List.getElem_cons_zero, List.getElem_cons_succ]
        go_simp
        (go_at_call 159; refine (at_is _ n c xs y _ _ (HROW.out.below hC0) (by omega) (by omega) HEY.out).mono ?_; rintro e w3 ⟨rfl, rfl⟩)
        refine hK.out _ _ (HT9.out _ hC0) (fun hHeld1 => ?_)
        clear hK K hHeld0 
        try simp only [Act.put, List.setIfInBounds_toArray, List.set_cons_zero, List.set_cons_succ]
        refine wpAnyH_taken (i := 6) (d := some 56) (v := ?_) rfl rfl (by kernel_rfl) (by kernel_rfl) (by kernel_rfl) (fun _ _ _ h => h) (Or.inl ⟨by rfl, ?_⟩) (by assumption) ?_
        rotate_left 1
        · (intro w hSw; (try dsimp only at hSw); go_simp; try with_reducible rfl)
        try simp only [Act.put, List.setIfInBounds_toArray, List.set_cons_zero, List.set_cons_succ]
        refine wpAnyH_taken (i := 7) (d := some 57) (v := ?_) rfl rfl (by kernel_rfl) (by kernel_rfl) (by kernel_rfl) (fun _ _ _ h => h) (Or.inl ⟨by rfl, ?_⟩) (by assumption) ?_
        rotate_left 1
        · (intro w hSw; (try dsimp only at hSw); go_simp; try with_reducible rfl)
        try simp only [Act.put, List.setIfInBounds_toArray, List.set_cons_zero, List.set_cons_succ]
        refine wpAnyH_taken (i := 15) (d := some 65) (v := ?_) rfl rfl (by kernel_rfl) (by kernel_rfl) (by kernel_rfl) (fun _ _ _ h => h) (Or.inl ⟨by rfl, ?_⟩) (by assumption) ?_
        rotate_left 1
        · (intro w hSw; (try dsimp only at hSw); go_simp; try with_reducible rfl)
        try simp only [Act.put, List.setIfInBounds_toArray, List.set_cons_zero, List.set_cons_succ]
        refine wpAnyH_taken (i := 16) (d := some 11) (v := ?_) rfl rfl (by kernel_rfl) (by kernel_rfl) (by kernel_rfl) (fun _ _ _ h => h) (Or.inl ⟨by rfl, ?_⟩) (by assumption) ?_
        rotate_left 1
        · (intro w hSw; (try dsimp only at hSw); go_simp; try with_reducible rfl)
        try simp only [Act.put, List.setIfInBounds_toArray, List.set_cons_zero, List.set_cons_succ]
        refine wpAnyH_done (by kernel_rfl) ?_ _
        rw [HOR.out]
        clear s1 s2 s3 s4 s5 hHeld1
        go_wp2_with fail
        exact ⟨⟨i + 1, by go_num, HST.out⟩, by simp [intOf]; omega⟩
      · obtain rfl : i = n - sk := by omega
        obtain ⟨zs, hdz, hvz, hrz, hbz⟩ := HR.out.done (hdx.drop sk) (by rw [List.length_drop, HL.out])
        have HZ := Lib.hid hvz
        clear hvz
        go_wp2_with fail
        refine (trim_any _ _ _ zs _ hrz (by omega)).mono ?_
        rintro e w' ⟨j, hj, rfl, rfl, hvj, htj⟩
        have HV := Lib.hid hvj
        clear hvj
        go_wp2
        go_ret2
        exact ⟨_, rfl, ⟨_, _, _, _, rfl, hrz.take hj, hdz.take _, htj, HV.out.trans (HZ.out.trans HQ.out.symm), hj⟩, hbz⟩
  · have hkd : decide (0 < k) = true := by simp; omega
    refine wpAnyH_taken (i := 5) (d := some 28) (v := ?_) rfl rfl (by kernel_rfl) (by kernel_rfl) (by kernel_rfl) (fun _ _ _ h => h) (Or.inl ⟨by rfl, ?_⟩) (by assumption) ?_
    rotate_left 1
    · (intro w hSw; (try dsimp only at hSw); go_simp; try with_reducible rfl)
    try simp only [Act.put, List.setIfInBounds_toArray, List.set_cons_zero, List.set_cons_succ]
    refine wpAnyH_taken (i := 6) (d := some 29) (v := ?_) rfl rfl (by kernel_rfl) (by kernel_rfl) (by kernel_rfl) (fun _ _ _ h => h) (Or.inl ⟨by rfl, ?_⟩) (by assumption) ?_
    rotate_left 1
    · (intro w hSw; (try dsimp only at hSw); go_simp; try with_reducible rfl)
    try simp only [Act.put, List.setIfInBounds_toArray, List.set_cons_zero, List.set_cons_succ]
    refine wpAnyH_taken (i := 7) (d := some 30) (v := undef) rfl rfl (by kernel_rfl) (by kernel_rfl) (by kernel_rfl) (fun _ _ _ h => h) (Or.inr ⟨by rfl, rfl⟩) (by assumption) ?_
    try simp only [Act.put, List.setIfInBounds_toArray, List.set_cons_zero, List.set_cons_succ]
    refine wpAnyH_taken (i := 8) (d := some 31) (v := undef) rfl rfl (by kernel_rfl) (by kernel_rfl) (by kernel_rfl) (fun _ _ _ h => h) (Or.inr ⟨by rfl, rfl⟩) (by assumption) ?_
    try simp only [Act.put, List.setIfInBounds_toArray, List.set_cons_zero, List.set_cons_succ]
    refine wpAnyH_taken (i := 9) (d := some 32) (v := undef) rfl rfl (by kernel_rfl) (by kernel_rfl) (by kernel_rfl) (fun _ _ _ h => h) (Or.inr ⟨by rfl, rfl⟩) (by assumption) ?_
    try simp only [Act.put, List.setIfInBounds_toArray, List.set_cons_zero, List.set_cons_succ]
    refine wpAnyH_taken (i := 10) (d := some 33) (v := undef) rfl rfl (by kernel_rfl) (by kernel_rfl) (by kernel_rfl) (fun _ _ _ h => h) (Or.inr ⟨by rfl, rfl⟩) (by assumption) ?_
    try simp only [Act.put, List.setIfInBounds_toArray, List.set_cons_zero, List.set_cons_succ]
    refine wpAnyH_taken (i := 11) (d := some 34) (v := undef) rfl rfl (by kernel_rfl) (by kernel_rfl) (by kernel_rfl) (fun _ _ _ h => h) (Or.inr ⟨by rfl, rfl⟩) (by assumption) ?_
    try simp only [Act.put, List.setIfInBounds_toArray, List.set_cons_zero, List.set_cons_succ]
    refine wpAnyH_taken (i := 12) (d := some 35) (v := undef) rfl rfl (by kernel_rfl) (by kernel_rfl) (by kernel_rfl) (fun _ _ _ h => h) (Or.inr ⟨by rfl, rfl⟩) (by assumption) ?_
    try simp only [Act.put, List.setIfInBounds_toArray, List.set_cons_zero, List.set_cons_succ]
    refine wpAnyH_taken (i := 13) (d := some 36) (v := undef) rfl rfl (by kernel_rfl) (by kernel_rfl) (by kernel_rfl) (fun _ _ _ h => h) (Or.inr ⟨by rfl, rfl⟩) (by assumption) ?_
    try simp only [Act.put, List.setIfInBounds_toArray, List.set_cons_zero, List.set_cons_succ]
    refine wpAnyH_taken (i := 14) (d := some 37) (v := undef) rfl rfl (by kernel_rfl) (by kernel_rfl) (by kernel_rfl) (fun _ _ _ h => h) (Or.inr ⟨by rfl, rfl⟩) (by assumption) ?_
    try simp only [Act.put, List.setIfInBounds_toArray, List.set_cons_zero, List.set_cons_succ]
    refine wpAnyH_taken (i := 15) (d := some 38) (v := undef) rfl rfl (by kernel_rfl) (by kernel_rfl) (by kernel_rfl) (fun _ _ _ h => h) (Or.inr ⟨by rfl, rfl⟩) (by assumption) ?_
    try simp only [Act.put, List.setIfInBounds_toArray, List.set_cons_zero, List.set_cons_succ]
    refine wpAnyH_taken (i := 16) (d := some 39) (v := ?_) rfl rfl (by kernel_rfl) (by kernel_rfl) (by kernel_rfl) (fun _ _ _ h => h) (Or.inl ⟨by rfl, ?_⟩) (by assumption) ?_
    rotate_left 1
    · (intro w hSw; (try dsimp only at hSw); go_simp; try with_reducible rfl)
    try simp only [Act.put, List.setIfInBounds_toArray, List.set_cons_zero, List.set_cons_succ]
    refine wpAnyH_taken (i := 17) (d := some 8) (v := ?_) rfl rfl (by kernel_rfl) (by kernel_rfl) (by kernel_rfl) (fun _ _ _ h => h) (Or.inl ⟨by rfl, ?_⟩) (by assumption) ?_
    rotate_left 1
    · (intro w hSw; (try dsimp only at hSw); go_simp; try with_reducible rfl)
    try simp only [Act.put, List.setIfInBounds_toArray, List.set_cons_zero, List.set_cons_succ]
    refine wpAnyH_done (by kernel_rfl) ?_ _
    obtain rfl : lst = true := by rw [← HLS.out]; simp; exact HIFF.out.2 (.inl (by intro h0; exact absurd (HVZ.out.1 h0) (by omega)))
    clear hkd
    go_wp2_with (at_make; refine wpList_make_full _ rfl _ _ 22 rfl w.heap.size 135 i0 (.int .u32 0) 1 Tryz.underlying22 hi hz0 hz1 _ _ _ _ (n - sk) rfl rfl (by omega) (by omega) (by rw [hz2]; omega) (by unfold maxLen; omega) (Nat.le_refl _) ?_; intro w1 hown hgrow)
    go_loopw [47] (fun iv wr => ∃ i : Nat, iv = .int .i64 i ∧ DownRel w wr (n - sk) r (xs.drop sk) i) (fun iv _ => (n - sk) - (intOf iv).toNat)
    case atStart =>
      refine ⟨0, rfl, Nat.zero_le _, (hB0.grown hgrow (Nat.le_refl _) (fun _ h => by cases h)), [], rfl, Dig.nil, by simp [val, Int.emod_one], ?_⟩
      rw [zeros_made] at hown
      exact hown
    case round =>
      obtain ⟨i, rfl, hrel⟩ := hrel
      have HR := Lib.hid hrel
      obtain ⟨hk, hb, -⟩ := hrel
      by_cases hlt : i < n - sk
      · obtain ⟨x, ex⟩ : ∃ x, xs.getD (i + sk) 0 = x := ⟨_, rfl⟩
        obtain ⟨y, ey⟩ : ∃ y, xs.getD (i + sk + 1) 0 = y := ⟨_, rfl⟩
        have hx1 : wr.cell? ⟨b, o + (i + sk), none⟩ = some (.int .u32 x) := by rw [← ex]; exact (hb.cell (p := ⟨b, o + (i + sk), none⟩) hbx).trans (HX.out (i + sk) (by omega))
        have bx := hdx.getD (i + sk)
        have by' := hdx.getD (i + sk + 1)
        rw [ex, BB_def] at bx
        rw [ey, BB_def] at by'
        obtain ⟨bx0, bx1⟩ := bx
        obtain ⟨by0, by1⟩ := by'
        obtain ⟨⟨u, hu⟩, hfr⟩ := HR.out.cells hlt
        obtain ⟨vv, hvv⟩ : ∃ vv, y * 4294967296 + x = vv := ⟨_, rfl⟩
        have vv0 : 0 ≤ vv := by omega
        have vv1 : vv < 18446744073709551616 := by omega
        have vr0 : 0 ≤ vv / 2 ^ r := Int.ediv_nonneg vv0 (Int.le_of_lt (two_pos r))
        have vr1 : vv / 2 ^ r ≤ vv := Int.ediv_le_self _ vv0
        have hst := HR.out.drew.step (x := x) (y := y) hlt hr32 (hdx.drop sk) (by rw [← ex]; simp [List.getD, Nat.add_comm]) (by rw [← ey]; simp only [List.getD, List.getElem?_drop]; rw [show sk + (i + 1) = i + sk + 1 from by omega]) (by rw [hvv])
        have HST := Lib.hid hst
        have hsg : ¬ IntKind.u64.signed = true := by decide
        have HOR := Lib.hid (show bits BinOp.or IntKind.u64 (IntKind.u64.wrap (IntKind.u64.wrap y * 4294967296)) (IntKind.u64.wrap x) = vv by
          rw [show IntKind.u64.wrap y = y from by rw [IntKind.wrap_u64]; omega, show IntKind.u64.wrap x = x from by rw [IntKind.wrap_u64]; omega, show IntKind.u64.wrap (y * 4294967296) = y * 4294967296 from by rw [IntKind.wrap_u64]; omega, or64 ⟨by0, by1⟩ ⟨bx0, bx1⟩, hvv])
        have HEY := Lib.hid (show xs.getD ((i : Int) + (sk : Int) + 1).toNat 0 = y by rw [← ey]; congr 1)
        have HT9 := Lib.hid (fun (w' : World) (hb' : Below w.heap.size w w') => (hb'.cell (p := ⟨b, o + (i + sk), none⟩) hbx).trans (HX2 (i + sk) x ex (by omega)))
        have hC0 := hb.drew
        have s1 : IntKind.i64.wrap ((i : Int) + (sk : Int)) = (i : Int) + (sk : Int) := by rw [IntKind.wrap_i64]; omega
        have s2 : IntKind.i64.wrap ((i : Int) + (sk : Int) + 1) = (i : Int) + (sk : Int) + 1 := by rw [IntKind.wrap_i64]; omega
        have s3 : ((i : Int) + (sk : Int)).toNat = i + sk := by omega
        have s4 : (i : Int) + (sk : Int) < (n : Int) := by omega
        have s5 : 0 ≤ (i : Int) + (sk : Int) := by omega
        have hin : (i : Int) < ((n - sk : Nat) : Int) := by omega
        clear hst ex ey hvv
        go_wp2_with fail
        refine wp_region_held_drew (S := fun w' => w'.cell? ⟨b, o + (i + sk), none⟩ = some (.int .u32 x)) (by kernel_rfl) (HT9.out _ hC0) (fun hHeld0 => ?_)
        refine wpAnyH_taken (i := 0) (d := some 50) (v := ?_) rfl rfl (by kernel_rfl) (by kernel_rfl) (by kernel_rfl) (fun _ _ _ h => h) (Or.inl ⟨by rfl, ?_⟩) (by assumption) ?_
        rotate_left 1
        · (intro w hSw; (try dsimp only at hSw); go_simp; try with_reducible rfl)
        try simp only [Act.put, List.setIfInBounds_toArray, List.set_cons_zero, List.set_cons_succ]
        refine wpAnyH_taken (i := 1) (d := some 51) (v := ?_) rfl rfl (by kernel_rfl) (by kernel_rfl) (by kernel_rfl) (fun _ _ _ h => h) (Or.inl ⟨by rfl, ?_⟩) (by assumption) ?_
        rotate_left 1
        · (intro w hSw; (try dsimp only at hSw); go_simp; try with_reducible rfl)
        try simp only [Act.put, List.setIfInBounds_toArray, List.set_cons_zero, List.set_cons_succ]
        refine wpAnyH_taken (i := 2) (d := some 52) (v := ?_) rfl rfl (by kernel_rfl) (by kernel_rfl) (by kernel_rfl) (fun _ _ _ h => h) (Or.inl ⟨by rfl, ?_⟩) (by assumption) ?_
        rotate_left 1
        · (intro w hSw; (try dsimp only at hSw); go_simp; try with_reducible rfl)
        try simp only [Act.put, List.setIfInBounds_toArray, List.set_cons_zero, List.set_cons_succ]
        refine wpAnyH_taken (i := 3) (d := some 53) (v := ?_) rfl rfl (by kernel_rfl) (by kernel_rfl) (by kernel_rfl) (fun _ _ _ h => h) (Or.inl ⟨by rfl, ?_⟩) (by assumption) ?_
        rotate_left 1
        · (intro w hSw; (try dsimp only at hSw); go_simp; try with_reducible rfl)
        try simp only [Act.put, List.setIfInBounds_toArray, List.set_cons_zero, List.set_cons_succ]
        refine wpAnyH_taken (i := 4) (d := some 54) (v := ?_) rfl rfl (by kernel_rfl) (by kernel_rfl) (by kernel_rfl) (fun _ _ _ h => h) (Or.inl ⟨by rfl, ?_⟩) (by assumption) ?_
        rotate_left 1
        · (intro w hSw; (try dsimp only at hSw); go_simp; try with_reducible rfl)
        try simp only [Act.put, List.setIfInBounds_toArray, List.set_cons_zero, List.set_cons_succ]
        refine wpAnyH_taken (i := 8) (d := some 58) (v := ?_) rfl rfl (by kernel_rfl) (by kernel_rfl) (by kernel_rfl) (fun _ _ _ h => h) (Or.inl ⟨by rfl, ?_⟩) (by assumption) ?_
        rotate_left 1
        · (intro w hSw; (try dsimp only at hSw); go_simp; try with_reducible rfl)
        try simp only [Act.put, List.setIfInBounds_toArray, List.set_cons_zero, List.set_cons_succ]
        refine wpAnyH_taken (i := 9) (d := some 59) (v := ?_) rfl rfl (by kernel_rfl) (by kernel_rfl) (by kernel_rfl) (fun _ _ _ h => h) (Or.inl ⟨by rfl, ?_⟩) (by assumption) ?_
        rotate_left 1
        · (intro w hSw; (try dsimp only at hSw); go_simp; try with_reducible rfl)
        try simp only [Act.put, List.setIfInBounds_toArray, List.set_cons_zero, List.set_cons_succ]
        refine wpAnyH_taken (i := 10) (d := some 60) (v := ?_) rfl rfl (by kernel_rfl) (by kernel_rfl) (by kernel_rfl) (fun _ _ _ h => h) (Or.inl ⟨by rfl, ?_⟩) (by assumption) ?_
        rotate_left 1
        · (intro w hSw; (try dsimp only at hSw); go_simp; try with_reducible rfl)
        try simp only [Act.put, List.setIfInBounds_toArray, List.set_cons_zero, List.set_cons_succ]
        refine wpAnyH_taken (i := 11) (d := some 61) (v := ?_) rfl rfl (by kernel_rfl) (by kernel_rfl) (by kernel_rfl) (fun _ _ _ h => h) (Or.inl ⟨by rfl, ?_⟩) (by assumption) ?_
        rotate_left 1
        · (intro w hSw; (try dsimp only at hSw); go_simp; try with_reducible rfl)
        try simp only [Act.put, List.setIfInBounds_toArray, List.set_cons_zero, List.set_cons_succ]
        refine wpAnyH_taken (i := 12) (d := some 62) (v := ?_) rfl rfl (by kernel_rfl) (by kernel_rfl) (by kernel_rfl) (fun _ _ _ h => h) (Or.inl ⟨by rfl, ?_⟩) (by assumption) ?_
        rotate_left 1
        · (intro w hSw; (try dsimp only at hSw); go_simp; try with_reducible rfl)
        try simp only [Act.put, List.setIfInBounds_toArray, List.set_cons_zero, List.set_cons_succ]
        refine wpAnyH_taken (i := 13) (d := some 63) (v := ?_) rfl rfl (by kernel_rfl) (by kernel_rfl) (by kernel_rfl) (fun _ _ _ h => h) (Or.inl ⟨by rfl, ?_⟩) (by assumption) ?_
        rotate_left 1
        · (intro w hSw; (try dsimp only at hSw); go_simp; try with_reducible rfl)
        try simp only [Act.put, List.setIfInBounds_toArray, List.set_cons_zero, List.set_cons_succ]
        refine wpAnyH_taken (i := 14) (d := some 64) (v := ?_) rfl rfl (by kernel_rfl) (by kernel_rfl) (by kernel_rfl) (fun _ _ _ h => h) (Or.inl ⟨by rfl, ?_⟩) (by assumption) ?_
        rotate_left 1
        · (intro w hSw; (try dsimp only at hSw); go_simp; try with_reducible rfl)
        try simp only [Act.put, List.setIfInBounds_toArray, List.set_cons_zero, List.set_cons_succ]
        refine wpAnyH_ready (rs := [5]) (by kernel_rfl) (by simp) ?_
        refine AllReadyH.cons rfl (fun K hK => ?_) AllReadyH.nil
        try simp only [List.getElem_toArray, List.getElem_cons_zero, List.getElem_cons_succ]
        go_simp
        (go_at_call 159; refine (at_is _ n c xs y _ _ (HROW.out.below hC0) (by omega) (by omega) HEY.out).mono ?_; rintro e w3 ⟨rfl, rfl⟩)
        refine hK.out _ _ (HT9.out _ hC0) (fun hHeld1 => ?_)
        clear hK K hHeld0 
        try simp only [Act.put, List.setIfInBounds_toArray, List.set_cons_zero, List.set_cons_succ]
        refine wpAnyH_taken (i := 6) (d := some 56) (v := ?_) rfl rfl (by kernel_rfl) (by kernel_rfl) (by kernel_rfl) (fun _ _ _ h => h) (Or.inl ⟨by rfl, ?_⟩) (by assumption) ?_
        rotate_left 1
        · (intro w hSw; (try dsimp only at hSw); go_simp; try with_reducible rfl)
        try simp only [Act.put, List.setIfInBounds_toArray, List.set_cons_zero, List.set_cons_succ]
        refine wpAnyH_taken (i := 7) (d := some 57) (v := ?_) rfl rfl (by kernel_rfl) (by kernel_rfl) (by kernel_rfl) (fun _ _ _ h => h) (Or.inl ⟨by rfl, ?_⟩) (by assumption) ?_
        rotate_left 1
        · (intro w hSw; (try dsimp only at hSw); go_simp; try with_reducible rfl)
        try simp only [Act.put, List.setIfInBounds_toArray, List.set_cons_zero, List.set_cons_succ]
        refine wpAnyH_taken (i := 15) (d := some 65) (v := ?_) rfl rfl (by kernel_rfl) (by kernel_rfl) (by kernel_rfl) (fun _ _ _ h => h) (Or.inl ⟨by rfl, ?_⟩) (by assumption) ?_
        rotate_left 1
        · (intro w hSw; (try dsimp only at hSw); go_simp; try with_reducible rfl)
        try simp only [Act.put, List.setIfInBounds_toArray, List.set_cons_zero, List.set_cons_succ]
        refine wpAnyH_taken (i := 16) (d := some 11) (v := ?_) rfl rfl (by kernel_rfl) (by kernel_rfl) (by kernel_rfl) (fun _ _ _ h => h) (Or.inl ⟨by rfl, ?_⟩) (by assumption) ?_
        rotate_left 1
        · (intro w hSw; (try dsimp only at hSw); go_simp; try with_reducible rfl)
        try simp only [Act.put, List.setIfInBounds_toArray, List.set_cons_zero, List.set_cons_succ]
        refine wpAnyH_done (by kernel_rfl) ?_ _
        rw [HOR.out]
        clear s1 s2 s3 s4 s5 hHeld1
        go_wp2_with fail
        exact ⟨⟨i + 1, by go_num, HST.out⟩, by simp [intOf]; omega⟩
      · obtain rfl : i = n - sk := by omega
        obtain ⟨zs, hdz, hvz, hrz, hbz⟩ := HR.out.done (hdx.drop sk) (by rw [List.length_drop, HL.out])
        have HZ := Lib.hid hvz
        clear hvz
        go_wp2_with fail
        refine (trim_any _ _ _ zs _ hrz (by omega)).mono ?_
        rintro e w' ⟨j, hj, rfl, rfl, hvj, htj⟩
        have HV := Lib.hid hvj
        clear hvj
        go_wp2
        go_ret2
        exact ⟨_, rfl, ⟨_, _, _, _, rfl, hrz.take hj, hdz.take _, htj, HV.out.trans (HZ.out.trans HQ.out.symm), hj⟩, hbz⟩
theorem Num.bound {w:World} {u:Value} {z:Int} {L:Nat} (h:Num w u z L) : 0 <= z /\ z < 2 ^ (32 * L):=by
 obtain ⟨A,n,c,xs,rfl,hr,hd,ht,rfl,hn⟩:=h
 have hb:=val_bounds hd
 rw [hr.1,BB_two] at hb
 have:=two_mono (show 32 * n <= 32 * L by omega)
 omega
theorem down_num (u:Value) (z:Int) (L m:Nat) (w:World) (h:Num w u z L) (hL:L <= 1048576) (hm:m <= 9223372036854775807) :
  Calls Tryz.prog 180 #[u,.int .i64 m] w fun e w'=>∃ v,e = .returned (.tuple #[v,.bool (decide (z % 2 ^ m ≠ 0))]) /\ Num w' v (z / 2 ^ m) L /\ Below w.heap.size w w':=by
 have hbn:=h.bound
 obtain ⟨A,n,c,xs,rfl,hr,hd,ht,rfl,hn⟩:=h
 have hb:=val_bounds hd
 rw [hr.1,BB_two] at hb
 by_cases hmn:m / 32 < n
 ·refine (down_some A n c xs m w hr hd hm hmn (by omega)).mono ?_
  rintro e w' ⟨v,he,hv,hb⟩
  exact ⟨v,he,hv.mono (by omega),hb⟩
 ·have h2:=two_mono (show 32 * n <= m by omega)
  refine (down_over A n c m w hm (by omega)).mono ?_
  rintro e w' ⟨he,rfl⟩
  have hq:val xs / 2 ^ m = 0:=Int.ediv_eq_zero_of_lt hb.1 (by omega)
  have hm2:val xs % 2 ^ m = val xs:=Int.emod_eq_of_lt hb.1 (by omega)
  have hdd:decide (0 < n) = decide (val xs % 2 ^ m ≠ 0):=by
   rw [hm2,decide_eq_decide]
   constructor
   ·intro h0 hz
    have:=val_ge hd ht (by rw [hr.1];omega)
    have:=BB_pos (xs.length - 1)
    omega
   ·intro hz
    rcases Nat.eq_zero_or_pos n with h0 | h0
    ·have hnil:xs = []:=List.eq_nil_of_length_eq_zero (by rw [hr.1];exact h0)
     rw [hnil] at hz;exact absurd rfl hz
    ·exact h0
  rw [hdd] at he
  refine ⟨_,he,?_,Below.refl _ _⟩
  ·rw [hq]
   exact ⟨none,0,0,[],rfl,Row.nil_,Dig.nil,.inl rfl,by simp [val],Nat.zero_le _⟩
end Go.Proofs.YtbajnceoolkckaaGreat
