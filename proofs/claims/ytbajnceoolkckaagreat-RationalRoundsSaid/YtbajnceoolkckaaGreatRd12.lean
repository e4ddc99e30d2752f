/- Of the proof of RationalRounds: Lead, Apply. -/
import Derived.Test.YtbajnceoolkckaaGreatRd11
import Derived.Test.YtbajnceoolkckaaGreatRd08
open Go.Lib renaming hid → Hd
set_option maxRecDepth 100000
set_option maxHeartbeats 16000000
namespace Go.Proofs.YtbajnceoolkckaaGreat
open Go.RowKit LM
theorem or_shift {s:Nat} {a b:Int} (ha:0 <= a * 2 ^ s /\ a * 2 ^ s < 18446744073709551616) (ha0:0 <= a) (hb:0 <= b /\ b < 2 ^ s) (hb2:b < 18446744073709551616) : bits BinOp.or IntKind.u64 (a * 2 ^ s) b = a * 2 ^ s + b:=by
 obtain ⟨A,rfl⟩:=Int.eq_ofNat_of_zero_le ha0
 obtain ⟨B,rfl⟩:=Int.eq_ofNat_of_zero_le hb.1
 have hB:B < 2 ^ s:=by have:=hb.2;exact_mod_cast this
 have e:(A:Int) * 2 ^ s = ((2 ^ s * A:Nat) : Int):=by rw [Int.natCast_mul,Int.mul_comm,Int.natCast_pow];rfl
 rw [e] at ha ⊢
 have h1:2 ^ s * A < 18446744073709551616:=by omega
 have h2:B < 18446744073709551616:=by omega
 rw [bits_or_u64_nat _ _ h1 h2,<- Nat.two_pow_add_eq_or_of_lt hB,Int.natCast_add]
theorem lead1_any (A : Option Addr) (n0 c0 : Nat) (xs : List Int) (bn bs n s : Nat) (w : World) (h : Row .u32 w A n0 c0 xs) (hd : Dig xs) (hn : 3 ≤ n) (hnn : n ≤ 1048576) (hl : n0 ≤ n) (hs : s < 32)
    (cn : w.cell? ⟨bn, 0, none⟩ = some (.int .i64 n)) (cs : w.cell? ⟨bs, 0, none⟩ = some (.int .i64 s)) (htop : xs.getD (n - 1) 0 * 2 ^ s < BB) :
    Calls Tryz.prog 181 #[.slice A n0 c0, .pointer (some ⟨bn, 0, none⟩), .pointer (some ⟨bs, 0, none⟩)] w fun e w' => e = .returned (.int .u64 (val xs / (BB ^ (n - 3) * 2 ^ (32 - s)))) ∧ ∃ q, w' = w.drewN q := by
  obtain ⟨t, ht⟩ : ∃ t, 32 - s = t := ⟨_, rfl⟩
  have hts : t + s = 32 := by omega
  have hm := lead_math (n := n - 3) (s := s) hd (by rw [h.1]; omega) hs
  rw [show n - 3 + 2 = n - 1 from by omega, show n - 3 + 1 = n - 2 from by omega] at hm
  rw [ht] at hm ⊢
  obtain ⟨y1, e1⟩ : ∃ y, xs.getD (n - 1) 0 = y := ⟨_, rfl⟩
  obtain ⟨y2, e2⟩ : ∃ y, xs.getD (n - 2) 0 = y := ⟨_, rfl⟩
  obtain ⟨y3, e3⟩ : ∃ y, xs.getD (n - 3) 0 = y := ⟨_, rfl⟩
  have b1 := hd.getD (n - 1)
  have b2 := hd.getD (n - 2)
  have b3 := hd.getD (n - 3)
  rw [e1] at b1 hm htop
  rw [e2] at b2 hm
  rw [e3] at b3 hm
  have A1 := Lib.hid (fun q => (at_is A n0 c0 xs y1 ((n : Int) - 1) (w.drewN q) (h.drewN q) (by omega) (by omega) (by rw [show ((n : Int) - 1).toNat = n - 1 from by omega]; exact e1)).mono fun e w' hh => (⟨hh.1, 0, hh.2.symm⟩ : e = Ending.returned (.int .u32 y1) ∧ ∃ m, w' = (w.drewN q).drewN m))
  have A2 := Lib.hid (fun q => (at_is A n0 c0 xs y2 ((n : Int) - 2) (w.drewN q) (h.drewN q) (by omega) (by omega) (by rw [show ((n : Int) - 2).toNat = n - 2 from by omega]; exact e2)).mono fun e w' hh => (⟨hh.1, 0, hh.2.symm⟩ : e = Ending.returned (.int .u32 y2) ∧ ∃ m, w' = (w.drewN q).drewN m))
  have A3 := Lib.hid (fun q => (at_is A n0 c0 xs y3 ((n : Int) - 3) (w.drewN q) (h.drewN q) (by omega) (by omega) (by rw [show ((n : Int) - 3).toNat = n - 3 from by omega]; exact e3)).mono fun e w' hh => (⟨hh.1, 0, hh.2.symm⟩ : e = Ending.returned (.int .u32 y3) ∧ ∃ m, w' = (w.drewN q).drewN m))
  have hp := two_pos s
  have hp2 := two_pos t
  have e32 : BB = 2 ^ t * 2 ^ s := by rw [← Int.pow_add, hts]; decide
  have hq0 : 0 ≤ y3 / 2 ^ t := Int.ediv_nonneg b3.1 (Int.le_of_lt hp2)
  have hq1 : y3 / 2 ^ t < 2 ^ s := Int.ediv_lt_of_lt_mul hp2 (by rw [Int.mul_comm, ← e32]; exact b3.2)
  have ht0 : 0 ≤ y1 * 4294967296 + y2 := by rw [BB_def] at b1 b2; omega
  have ht1 : (y1 * 4294967296 + y2) * 2 ^ s < 18446744073709551616 := by
    rw [e32] at htop
    have h1 : y1 < 2 ^ t := Int.lt_of_mul_lt_mul_right htop (Int.le_of_lt hp)
    have h2 : (y1 * 4294967296 + y2 + 1) ≤ 2 ^ t * 4294967296 := by
      have : y1 + 1 ≤ 2 ^ t := h1
      rw [BB_def] at b2; omega
    have h3 : (y1 * 4294967296 + y2 + 1) * 2 ^ s ≤ 2 ^ t * 4294967296 * 2 ^ s := Int.mul_le_mul_of_nonneg_right h2 (Int.le_of_lt hp)
    have h4 : 2 ^ t * 4294967296 * 2 ^ s = BB * 4294967296 := by rw [e32]; grind
    rw [Int.add_mul, Int.one_mul, h4, BB_def] at h3
    omega
  have hor1 := or64 (a := y1) (b := y2) (by rw [BB_def] at b1; exact b1) (by rw [BB_def] at b2; exact b2)
  have ht2 : 0 ≤ (y1 * 4294967296 + y2) * 2 ^ s := Int.mul_nonneg ht0 (Int.le_of_lt hp)
  have hq2 : y3 / 2 ^ t < 18446744073709551616 := by have := two_mono (show s ≤ 32 by omega); have e : (2 : Int) ^ 32 = 4294967296 := by decide
                                                     omega
  have hor2 := or_shift (s := s) ⟨ht2, ht1⟩ ht0 ⟨hq0, hq1⟩ hq2
  have HM := Lib.hid hm
  have i4 : (32 : Int) - (s : Int) = (t : Int) := by omega
  rw [BB_def] at b1 b2 b3
  obtain ⟨b10, b11⟩ := b1
  obtain ⟨b20, b21⟩ := b2
  obtain ⟨b30, b31⟩ := b3
  clear hm e1 e2 e3 e32 htop h hd hq1 ht hts
  go_enter Tryz.func181, Tryz.ntmps181
  go_wp2_with fail
  go_quiet ((go_at_call 159; first | with_reducible exact quiet_draw0 (A1.out _) | with_reducible exact quiet_draw0 (A2.out _) | with_reducible exact quiet_draw0 (A3.out _)))
  go_wp2_with fail
  go_ret
  refine ⟨?_, _, rfl⟩
  rw [HM.out, BB_def]
  rfl
def LehOut (A B:Int) (ev:Bool) (u0 v0 u1 v1:Int) : Prop:=
 (0 <= u0 /\ u0 < BB /\ 0 <= v0 /\ v0 < BB) /\ (0 <= u1 /\ u1 < BB /\ 0 <= v1 /\ v1 < BB) /\
  (v0 = 0 \/ (0 <= comb ev u1 A v1 B /\ comb ev u1 A v1 B < B /\ comb ev u1 A v1 B <= comb (!ev) u0 A v0 B /\ comb (!ev) u0 A v0 B <= B /\ Int.gcd (comb (!ev) u0 A v0 B) (comb ev u1 A v1 B) = Int.gcd A B))
def LeadPost (A B:Int) (w:World) (e:Ending) (w':World) : Prop:=
 (∃ ev u0 v0 u1 v1,e = .returned (.agg #[.int .u64 u0,.int .u64 u1,.int .u64 v0,.int .u64 v1,.bool ev]) /\ LehOut A B ev u0 v0 u1 v1) /\ Below w.heap.size w w'
theorem Leh.out {A B K:Int} {ev:Bool} {x y u0 v0 u1 v1 u2 v2:Int} (h:Leh A B K ev x y u0 v0 u1 v1 u2 v2) : LehOut A B ev u0 v0 u1 v1:=⟨h.b0,h.b1,h.p0⟩
theorem alloc_at (w:World) (o:Obj) : (w.alloc o).heap[w.heap.size]? = some o:=Array.getElem?_push_size
def Steps (w:World) (b:Nat) (u0 u1 v0 v1:Int) (ev:Bool) : Prop:=
 w.heap[b]? = some (.cells #[.int .u64 u0,.int .u64 u1,.int .u64 v0,.int .u64 v1,.bool ev] 192 (0,0))
theorem Steps.cells {w:World} {b:Nat} {u0 u1 v0 v1:Int} {ev:Bool} (h:Steps w b u0 u1 v0 v1 ev) :
  w.cell? ⟨b,0,none⟩ = some (.int .u64 u0) /\ w.cell? ⟨b,1,none⟩ = some (.int .u64 u1) /\ w.cell? ⟨b,2,none⟩ = some (.int .u64 v0) /\ w.cell? ⟨b,3,none⟩ = some (.int .u64 v1) /\ w.cell? ⟨b,4,none⟩ = some (.bool ev) /\ (∀ k,w.frozen? ⟨b,k,none⟩ = false) /\ b < w.heap.size:=by
 unfold Steps at h
 refine ⟨?_,?_,?_,?_,?_,fun k=>?_,(Array.getElem?_eq_some_iff.1 h).1⟩
 all_goals simp [World.cell?,World.frozen?,h]
theorem Steps.set {w:World} {b:Nat} {u0 u1 v0 v1:Int} {ev:Bool} (h:Steps w b u0 u1 v0 v1 ev) (a0 a1 c0 c1:Int) (ew:Bool) (q:Nat) :
  Steps ((((((w.drewN q).setCell ⟨b,0,none⟩ (.int .u64 a0)).setCell ⟨b,1,none⟩ (.int .u64 a1)).setCell ⟨b,2,none⟩ (.int .u64 c0)).setCell ⟨b,3,none⟩ (.int .u64 c1)).setCell ⟨b,4,none⟩ (.bool ew)) b a0 a1 c0 c1 ew:=by
 unfold Steps at *
 have h0:(w.drewN q).heap[b]? = _:=h
 have h1:=heap_setCell_same _ b 0 _ 192 (.int .u64 a0) h0
 have h2:=heap_setCell_same _ b 1 _ 192 (.int .u64 a1) h1
 have h3:=heap_setCell_same _ b 2 _ 192 (.int .u64 c0) h2
 have h4:=heap_setCell_same _ b 3 _ 192 (.int .u64 c1) h3
 exact heap_setCell_same _ b 4 _ 192 (.bool ew) h4
theorem lead_any (A B:Option Addr) (n c m d:Nat) (xs ys:List Int) (w:World) (h:Row .u32 w A n c xs) (g:Row .u32 w B m d ys) (hn:3 <= n) (hnn:n <= 1048576) (hm:m <= n)
  (hdx:Dig xs) (htx:Trimmed xs) (hdy:Dig ys) (hge:val ys <= val xs) :
  Calls Tryz.prog 164 #[.slice A n c,.slice B m d] w (LeadPost (val xs) (val ys) w):=by
 have hmf:∀ (fn:Fn) (first cap:Array Value) (w:World),(Instr.makeFunc fn first cap).run Tryz.prog w = .ok (.func fn first cap) w:=fun _ _ _ _=>rfl
 obtain ⟨b,o,rfl,hbx,hx⟩:=h.2.2 (by omega)
 obtain ⟨t,et⟩ : ∃ t,xs.getD (n - 1) 0 = t:=⟨_,rfl⟩
 have hx1:w.cell? ⟨b,o + (n - 1),none⟩ = some (.int .u32 t):=by rw [<- et];exact hx (n - 1) (by omega)
 have ht0:t ≠ 0:=by
  rcases htx with h' | h'
  ·rw [h.1] at h';omega
  ·rw [h.1,et] at h';exact h'
 have bt:=hdx.getD (n - 1)
 rw [et,BB_def] at bt
 obtain ⟨bt0,bt1⟩:=bt
 obtain ⟨hlen,hle⟩:=bitLen_is t (by omega) bt1
 have hbl1:1 <= Lib.bitLen t.toNat:=by
  rcases hlen with h | h
  ·exact absurd h.1 ht0
  ·exact h.1
 obtain ⟨bl,hbl⟩ : ∃ bl,Lib.bitLen t.toNat = bl:=⟨_,rfl⟩
 obtain ⟨s,hs⟩ : ∃ s,s + bl = 32:=⟨32 - bl,by omega⟩
 rw [hbl] at hlen hbl1
 have hs32:s < 32:=by omega
 have es:(32:Int) - (bl:Int) = (s:Int):=by omega
 have htop:t * 2 ^ s < BB:=by
  have e32:BB = 2 ^ bl * 2 ^ s:=by rw [<- Int.pow_add,show bl + s = 32 from by omega];decide
  rw [e32]
  rcases hlen with h | h
  ·exact absurd h.1 ht0
  ·exact Int.mul_lt_mul_of_pos_right h.2.2 (two_pos s)
 have htopy:ys.getD (n - 1) 0 * 2 ^ s < BB:=by
  have hy:ys.getD (n - 1) 0 <= t:=by
   by_cases hle:ys.getD (n - 1) 0 <= t
   ·exact hle
   ·exfalso
    have hmn:ys.length = n:=by
     by_cases hmn:ys.length = n
     ·exact hmn
     ·rw [getD_out ys (n - 1) (by rw [g.1] at hmn ⊢;omega)] at hle;omega
    have:=val_lt_at hdx hdy (n - 1) (by rw [h.1];omega) (by rw [h.1,hmn]) (by rw [List.drop_of_length_le (by rw [h.1];omega),List.drop_of_length_le (by omega)]) (by rw [et];omega)
    omega
  have:=Int.mul_le_mul_of_nonneg_right hy (Int.le_of_lt (two_pos s))
  omega
 have htopx:xs.getD (n - 1) 0 * 2 ^ s < BB:=by rw [et];exact htop
 obtain ⟨K,hK⟩ : ∃ K,BB ^ (n - 3) * 2 ^ (32 - s) = K:=⟨_,rfl⟩
 have hKp:0 < K:=by rw [<- hK];exact Int.mul_pos (BB_pos _) (two_pos _)
 have hX:val xs / K < 18446744073709551616:=by
  have h1:=(val_bounds hdx).2
  rw [h.1] at h1
  refine Int.ediv_lt_of_lt_mul hKp ?_
  have h2:val xs * 2 ^ s < 18446744073709551616 * K * 2 ^ s:=by
   have e1:18446744073709551616 * K * 2 ^ s = BB ^ n:=by
    have e2:(18446744073709551616:Int) = BB * BB:=by decide
    have e3:(2:Int) ^ (32 - s) * 2 ^ s = BB:=by rw [<- Int.pow_add,show 32 - s + s = 32 from by omega];decide
    have e4:BB ^ n = BB ^ (n - 3) * BB * BB * BB:=by rw [<- Int.pow_succ,<- Int.pow_succ,<- Int.pow_succ];congr 1;omega
    rw [e4,<- hK,e2]
    generalize BB ^ (n - 3) = z at *
    have e5:BB * BB * (z * 2 ^ (32 - s)) * 2 ^ s = BB * BB * z * (2 ^ (32 - s) * 2 ^ s):=by grind
    rw [e5,e3]
    grind
   rw [e1]
   have e6:xs.take (n - 1 + 1) = xs:=List.take_of_length_le (by rw [h.1];omega)
   have h6:=val_take_succ xs (n - 1)
   rw [e6,et] at h6
   have h7:=(val_bounds (hdx.take (n - 1))).2
   rw [List.length_take,Nat.min_eq_left (by rw [h.1];omega)] at h7
   have h8:val xs < BB ^ (n - 1) * (t + 1):=by rw [Int.mul_add,Int.mul_one];omega
   have hp:=two_pos s
   have h9:val xs * 2 ^ s < BB ^ (n - 1) * (t + 1) * 2 ^ s:=Int.mul_lt_mul_of_pos_right h8 hp
   have h10:(t + 1) * 2 ^ s <= BB:=by
    have e32:BB = 2 ^ bl * 2 ^ s:=by rw [<- Int.pow_add,show bl + s = 32 from by omega];decide
    rw [e32]
    refine Int.mul_le_mul_of_nonneg_right ?_ (Int.le_of_lt hp)
    rcases hlen with h | h
    ·exact absurd h.1 ht0
    ·exact h.2.2
   have h11:BB ^ (n - 1) * ((t + 1) * 2 ^ s) <= BB ^ (n - 1) * BB:=Int.mul_le_mul_of_nonneg_left h10 (Int.le_of_lt (BB_pos _))
   rw [<- Int.mul_assoc,<- Int.pow_succ,show (n - 1).succ = n from by omega] at h11
   omega
  exact Int.lt_of_mul_lt_mul_right h2 (Int.le_of_lt (two_pos s))
 have hy0:=(val_bounds hdy).1
 have hstart:=Leh.start hy0 hKp hge
 have HST:=Hd hstart
 have HBL:=Hd hbl
 have HES:=Hd es
 have HH:=Hd h
 have HG:=Hd g
 have HK:=Hd hK
 have HX:=Hd hX
 have q1:(0:Int) <= (n:Int) - 1:=by omega
 have q2:(n:Int) - 1 < (n:Int):=by omega
 have q3:((n:Int) - 1).toNat = n - 1:=by omega
 clear hbl es h g hx et hlen hle hK hX hstart htop
 go_enter Tryz.func164,Tryz.ntmps164
 go_wp2_with fail
 refine (Tryz.bits_LeadingZeros32 t _ bt0 (by omega)).mono ?_
 rintro e w1 ⟨rfl,rfl⟩
 rw [HBL.out,HES.out]
 go_wp2_with fail
 have hW3:Below w.heap.size w (((w.alloc (.cells #[.int .u64 0,.int .u64 0,.int .u64 0,.int .u64 0,.bool false] 192)).alloc (.cells #[.int .i64 n] 3)).alloc (.cells #[.int .i64 s] 3)):=below_boxed2 _ _ _ _
 have cn:(((w.alloc (.cells #[.int .u64 0,.int .u64 0,.int .u64 0,.int .u64 0,.bool false] 192)).alloc (.cells #[.int .i64 n] 3)).alloc (.cells #[.int .i64 s] 3)).cell? ⟨w.heap.size + 1,0,none⟩ = some (.int .i64 n):=by
  rw [World.cell?_alloc_past _ _ _ (by simp),World.cell?_alloc_at _ _ _ _ (by simp)];rfl
 have cs:(((w.alloc (.cells #[.int .u64 0,.int .u64 0,.int .u64 0,.int .u64 0,.bool false] 192)).alloc (.cells #[.int .i64 n] 3)).alloc (.cells #[.int .i64 s] 3)).cell? ⟨w.heap.size + 1 + 1,0,none⟩ = some (.int .i64 s):=by
  rw [World.cell?_alloc_at _ _ _ _ (by simp)];rfl
 have CN:=Hd cn
 have CS:=Hd cs
 clear cn cs
 refine (lead1_any _ n c xs _ _ n s _ (HH.out.below hW3) hdx hn hnn (Nat.le_refl _) hs32 CN.out CS.out htopx).mono ?_
 rintro e w1 ⟨rfl,k1,rfl⟩
 rw [HK.out]
 go_wp2_with fail
 refine (lead1_any B m d ys _ _ n s _ ((HG.out.below hW3).drewN k1) hdy hn hnn hm hs32 CN.out CS.out htopy).mono ?_
 rintro e w1 ⟨rfl,k2,rfl⟩
 rw [HK.out]
 have hy1:0 <= val ys / K:=HST.out.y0
 have hy2:val ys / K <= val xs / K:=HST.out.yx
 obtain ⟨X,hXd⟩ : ∃ X,val xs / K = X:=⟨_,rfl⟩
 obtain ⟨Y,hYd⟩ : ∃ Y,val ys / K = Y:=⟨_,rfl⟩
 rw [hXd] at hy2 HX ⊢
 rw [hYd] at hy1 hy2 ⊢
 rw [hXd,hYd] at HST
 have HXD:=Hd hXd
 clear hXd hYd hx1
 go_wp2_with fail
 obtain ⟨W3,hW3d⟩ : ∃ W3,(((w.alloc (.cells #[.int .u64 0,.int .u64 0,.int .u64 0,.int .u64 0,.bool false] 192)).alloc (.cells #[.int .i64 n] 3)).alloc (.cells #[.int .i64 s] 3)).drewN (k1 + k2) = W3:=⟨_,rfl⟩
 have hz3:W3.heap.size = w.heap.size + 1 + 1 + 1:=by rw [<- hW3d];simp
 have hr3:W3.heap[w.heap.size]? = some (.cells #[.int .u64 0,.int .u64 0,.int .u64 0,.int .u64 0,.bool false] 192 (0,0)):=by
  rw [<- hW3d]
  have h1:=((below_alloc w (.cells #[.int .u64 0,.int .u64 0,.int .u64 0,.int .u64 0,.bool false] 192)))
  have hb:=(Below.refl (w.heap.size + 1) (w.alloc (.cells #[.int .u64 0,.int .u64 0,.int .u64 0,.int .u64 0,.bool false] 192))).alloc (by simp) (.cells #[.int .i64 n] 3) |>.alloc (by simp) (.cells #[.int .i64 s] 3)
  show ((((w.alloc (.cells #[.int .u64 0,.int .u64 0,.int .u64 0,.int .u64 0,.bool false] 192)).alloc (.cells #[.int .i64 n] 3)).alloc (.cells #[.int .i64 s] 3))).heap[w.heap.size]? = _
  rw [hb.block w.heap.size (by omega)]
  exact alloc_at w _
 have hb3:Below w.heap.size w W3:=by rw [<- hW3d];exact below_drewN hW3 _
 rw [hW3d]
 have HR3:=Hd hr3
 have hs4:Steps (W3.alloc (.cells #[.int .u64 0,.int .u64 1,.int .u64 0,.int .u64 0,.bool false] 192)) (w.heap.size + 1 + 1 + 1) 0 1 0 0 false:=by
  have h1:=alloc_at W3 (.cells #[.int .u64 0,.int .u64 1,.int .u64 0,.int .u64 0,.bool false] 192)
  rw [hz3] at h1
  exact h1
 have HS4:=Hd hs4
 have hB4:Below (w.heap.size + 1 + 1 + 1) W3 (W3.alloc (.cells #[.int .u64 0,.int .u64 1,.int .u64 0,.int .u64 0,.bool false] 192)):=(Below.refl _ _).alloc (by omega) _
 clear hW3d hr3 hs4 hW3 CN CS HH HG
 go_loopw [8,9,11,12] (fun xv yv uv vv wr=>∃ (x y u2 v2 u0 v0 u1 v1:Int) (ev:Bool),xv = .int .u64 x /\ yv = .int .u64 y /\ uv = .int .u64 u2 /\ vv = .int .u64 v2 /\ Leh (val xs) (val ys) K ev x y u0 v0 u1 v1 u2 v2 /\ Steps wr (w.heap.size + 1 + 1 + 1) u0 u1 v0 v1 ev /\ Below (w.heap.size + 1 + 1 + 1) W3 wr) (fun _ yv _ _ _=>(intOf yv).toNat)
 case atStart=>exact ⟨X,Y,0,1,0,0,1,0,false,rfl,rfl,rfl,rfl,HST.out,HS4.out,hB4⟩
 case round=>
  obtain ⟨x,y,u2,v2,u0,v0,u1,v1,ev,rfl,rfl,rfl,rfl,hL,hst,hbr⟩:=hrel
  have HL:=Hd hL
  have HS:=Hd hst
  obtain ⟨c0,c1,c2,c3,c4,cf,hsb⟩:=hst.cells
  obtain ⟨u20,u2v,v21,v12,v2b⟩:=hL.b2
  obtain ⟨u10,u11,v10,v11⟩:=hL.b1
  have hy0':=hL.y0
  have hyx:=hL.yx
  rw [BB_def] at u11 v11
  have hxX:x < 18446744073709551616:=by
   have h1:=hL.sx
   rw [HXD.out] at h1
   have h2:1 * x <= v2 * x:=Int.mul_le_mul_of_nonneg_right v21 (by omega)
   have h3:0 <= v1 * y:=Int.mul_nonneg v10 hy0'
   have:=HX.out
   omega
  clear hL hst
  by_cases hc1:v2 <= y
  ·have hv2:=HL.out.small (by rw [HXD.out];exact HX.out) hc1
   rw [BB_def] at hv2
   by_cases hc2:v1 + v2 <= x - y
   ·obtain ⟨hq1,⟨hu20,hu21⟩,⟨hv20,hv21⟩,hnext⟩:=HL.out.step hKp (by rw [HXD.out];exact HX.out) hc1 hc2
    have HN:=Hd hnext
    have hq2:x / y < 18446744073709551616:=by
     have h1:x / y * 1 <= x / y * v2:=Int.mul_le_mul_of_nonneg_left v21 (by omega)
     omega
    have hm0:0 <= x % y:=Int.emod_nonneg _ (by omega)
    have hm1:x % y < y:=Int.emod_lt_of_pos _ (by omega)
    have y0:(y != 0) = true:=by simp;omega
    have y1:(y == 0) = false:=by simp;omega
    obtain ⟨q,hqd⟩ : ∃ q,x / y = q:=⟨_,rfl⟩
    rw [hqd] at HN hu20 hu21 hv20 hv21 hq1 hq2
    have f0:=cf 0
    have f1:=cf 1
    have f2:=cf 2
    have f3:=cf 3
    have f4:=cf 4
    have SS:=Hd (fun k=>HS.out.set u1 u2 v1 v2 (!ev) k)
    clear hnext cf
    go_wp2_with fail
    go_quiet (fail)
    go_wp2_with fail
    exact ⟨⟨y,x % y,_,_,u1,v1,u2,v2,!ev,rfl,rfl,rfl,rfl,HN.out,SS.out nq,(((((below_drewN hbr nq).setCell (Nat.le_refl _) _).setCell (Nat.le_refl _) _).setCell (Nat.le_refl _) _).setCell (Nat.le_refl _) _).setCell (Nat.le_refl _) _⟩,by simp [intOf];omega⟩
   ·have hc3:¬ v1 + v2 <= x - y:=hc2
    have hRS:Steps wr w.heap.size 0 0 0 0 false:=(hbr.block w.heap.size (by omega)).trans HR3.out
    obtain ⟨r0,r1,r2,r3,r4,rf,hrb⟩:=hRS.cells
    have g0:=rf 0
    have g1:=rf 1
    have g2:=rf 2
    have g3:=rf 3
    have g4:=rf 4
    have HOUT:=Hd HL.out.out
    have hbw:Below w.heap.size w wr:=hb3.trans (hbr.mono (by omega))
    clear hRS rf cf
    go_wp2_with fail
    refine bodyPost_ret (v:=.agg #[.int .u64 u0,.int .u64 u1,.int .u64 v0,.int .u64 v1,.bool ev]) (by simp [results,Tryz.results164,go_sem,r0,r1,r2,r3,r4]) rfl ⟨⟨ev,u0,v0,u1,v1,rfl,HOUT.out⟩,?_⟩
    exact ((((hbw.setCell (Nat.le_refl _) _).setCell (Nat.le_refl _) _).setCell (Nat.le_refl _) _).setCell (Nat.le_refl _) _).setCell (Nat.le_refl _) _
  ·have hc3:decide (v2 <= y) = false:=by simpa using hc1
   have hRS:Steps wr w.heap.size 0 0 0 0 false:=(hbr.block w.heap.size (by omega)).trans HR3.out
   obtain ⟨r0,r1,r2,r3,r4,rf,hrb⟩:=hRS.cells
   have g0:=rf 0
   have g1:=rf 1
   have g2:=rf 2
   have g3:=rf 3
   have g4:=rf 4
   have HOUT:=Hd HL.out.out
   have hbw:Below w.heap.size w wr:=hb3.trans (hbr.mono (by omega))
   clear hRS rf cf
   go_wp2_with fail
   refine bodyPost_ret (v:=.agg #[.int .u64 u0,.int .u64 u1,.int .u64 v0,.int .u64 v1,.bool ev]) (by simp [results,Tryz.results164,go_sem,r0,r1,r2,r3,r4]) rfl ⟨⟨ev,u0,v0,u1,v1,rfl,HOUT.out⟩,?_⟩
   exact ((((hbw.setCell (Nat.le_refl _) _).setCell (Nat.le_refl _) _).setCell (Nat.le_refl _) _).setCell (Nat.le_refl _) _).setCell (Nat.le_refl _) _
theorem steps_hold {w w':World} {a0 a1 a2 a3:Int} {ev:Bool} (h:Below (w.heap.size + 1) (w.alloc (.cells #[.int .u64 a0,.int .u64 a1,.int .u64 a2,.int .u64 a3,.bool ev] 192)) w') :
  w'.cell? ⟨w.heap.size,0,none⟩ = some (.int .u64 a0) /\ w'.cell? ⟨w.heap.size,1,none⟩ = some (.int .u64 a1) /\ w'.cell? ⟨w.heap.size,2,none⟩ = some (.int .u64 a2) /\ w'.cell? ⟨w.heap.size,3,none⟩ = some (.int .u64 a3) /\ w'.cell? ⟨w.heap.size,4,none⟩ = some (.bool ev) /\
   Below (w.heap.size + 1) (w.alloc (.cells #[.int .u64 a0,.int .u64 a1,.int .u64 a2,.int .u64 a3,.bool ev] 192)) w':=by
 have hs:Steps w' w.heap.size a0 a1 a2 a3 ev:=(h.block w.heap.size (by omega)).trans (alloc_at w _)
 obtain ⟨c0,c1,c2,c3,c4,_,_⟩:=hs.cells
 exact ⟨c0,c1,c2,c3,c4,h⟩
theorem apply_true (a b:Value) (x y u0 v0 u1 v1:Int) (L M:Nat) (w:World) (h:Num w a x L) (g:Num w b y M) (hL:L <= 1048576) (hM:M <= 1048576)
  (b0:0 <= u0 /\ u0 < BB /\ 0 <= v0 /\ v0 < BB) (b1:0 <= u1 /\ u1 < BB /\ 0 <= v1 /\ v1 < BB) (h0:0 <= u0 * x - v0 * y /\ u0 * x - v0 * y <= max x y) (h1:0 <= v1 * y - u1 * x /\ v1 * y - u1 * x <= max y x) :
  Calls Tryz.prog 166 #[.agg #[.int .u64 u0,.int .u64 u1,.int .u64 v0,.int .u64 v1,.bool true],a,b] w fun e w'=>(∃ r s,e = .returned (.tuple #[r,s]) /\ Num w' r (u0 * x - v0 * y) (max L M) /\ Num w' s (v1 * y - u1 * x) (max M L)) /\ Below w.heap.size w w':=by
 have hW:=below_alloc w (.cells #[.int .u64 u0,.int .u64 u1,.int .u64 v0,.int .u64 v1,.bool true] 192)
 have HH:=Hd (h.below hW)
 have HG:=Hd (g.below hW)
 have hB0:=Below.refl (w.heap.size + 1) (w.alloc (.cells #[.int .u64 u0,.int .u64 u1,.int .u64 v0,.int .u64 v1,.bool true] 192))
 have hs0:w.heap.size + 1 <= (w.alloc (.cells #[.int .u64 u0,.int .u64 u1,.int .u64 v0,.int .u64 v1,.bool true] 192)).heap.size:=by simp
 have B0:=Hd b0
 have B1:=Hd b1
 have H0:=Hd h0
 have H1:=Hd h1
 clear h g b0 b1 h0 h1
 go_enter Tryz.func166,Tryz.ntmps166
 go_wp2_with fail
 go_region_held3 (fun w'=>w'.cell? ⟨w.heap.size,0,none⟩ = some (.int .u64 u0) /\ w'.cell? ⟨w.heap.size,1,none⟩ = some (.int .u64 u1) /\ w'.cell? ⟨w.heap.size,2,none⟩ = some (.int .u64 v0) /\ w'.cell? ⟨w.heap.size,3,none⟩ = some (.int .u64 v1) /\ w'.cell? ⟨w.heap.size,4,none⟩ = some (.bool true) /\ Below (w.heap.size + 1) (w.alloc (.cells #[.int .u64 u0,.int .u64 u1,.int .u64 v0,.int .u64 v1,.bool true] 192)) w')
  (first | (with_reducible exact steps_hold (Below.drew hB0)) | (with_reducible exact steps_hold hB1) | (with_reducible exact steps_hold hB2))
  (first
   | (go_at_call 183;refine (difference_num _ _ y x v1 u1 M L _ ((HG.out.below (Below.refl _ _).drew).below hb1) ((HH.out.below (Below.refl _ _).drew).below hb1) (by omega) (by omega) B1.out.2.2 ⟨B1.out.1,B1.out.2.1⟩ H1.out.1 H1.out.2).mono ?_;rintro e w2 ⟨r2,rfl,hr2,hb2⟩;have hB2:=Below.trans hB1 (hb2.mono (Nat.le_trans hs0 hB1.size)))
   | (go_at_call 183;refine (difference_num _ _ x y u0 v0 L M _ (HH.out.below (Below.refl _ _).drew) (HG.out.below (Below.refl _ _).drew) (by omega) (by omega) ⟨B0.out.1,B0.out.2.1⟩ B0.out.2.2 H0.out.1 H0.out.2).mono ?_;rintro e w1 ⟨r1,rfl,hr1,hb1⟩;have hB1:=Below.trans (Below.drew hB0) (hb1.mono (B':=w.heap.size + 1) hs0)))
 go_wp2
 go_ret2
 exact ⟨⟨_,_,rfl,hr1.below hb2,hr2⟩,hW.trans (hB2.mono (by omega))⟩
theorem apply_false (a b:Value) (x y u0 v0 u1 v1:Int) (L M:Nat) (w:World) (h:Num w a x L) (g:Num w b y M) (hL:L <= 1048576) (hM:M <= 1048576)
  (b0:0 <= u0 /\ u0 < BB /\ 0 <= v0 /\ v0 < BB) (b1:0 <= u1 /\ u1 < BB /\ 0 <= v1 /\ v1 < BB) (h0:0 <= v0 * y - u0 * x /\ v0 * y - u0 * x <= max y x) (h1:0 <= u1 * x - v1 * y /\ u1 * x - v1 * y <= max x y) :
  Calls Tryz.prog 166 #[.agg #[.int .u64 u0,.int .u64 u1,.int .u64 v0,.int .u64 v1,.bool false],a,b] w fun e w'=>(∃ r s,e = .returned (.tuple #[r,s]) /\ Num w' r (v0 * y - u0 * x) (max M L) /\ Num w' s (u1 * x - v1 * y) (max L M)) /\ Below w.heap.size w w':=by
 have hW:=below_alloc w (.cells #[.int .u64 u0,.int .u64 u1,.int .u64 v0,.int .u64 v1,.bool false] 192)
 have HH:=Hd (h.below hW)
 have HG:=Hd (g.below hW)
 have hB0:=Below.refl (w.heap.size + 1) (w.alloc (.cells #[.int .u64 u0,.int .u64 u1,.int .u64 v0,.int .u64 v1,.bool false] 192))
 have hs0:w.heap.size + 1 <= (w.alloc (.cells #[.int .u64 u0,.int .u64 u1,.int .u64 v0,.int .u64 v1,.bool false] 192)).heap.size:=by simp
 have B0:=Hd b0
 have B1:=Hd b1
 have H0:=Hd h0
 have H1:=Hd h1
 clear h g b0 b1 h0 h1
 go_enter Tryz.func166,Tryz.ntmps166
 go_wp2_with fail
 go_region_held3 (fun w'=>w'.cell? ⟨w.heap.size,0,none⟩ = some (.int .u64 u0) /\ w'.cell? ⟨w.heap.size,1,none⟩ = some (.int .u64 u1) /\ w'.cell? ⟨w.heap.size,2,none⟩ = some (.int .u64 v0) /\ w'.cell? ⟨w.heap.size,3,none⟩ = some (.int .u64 v1) /\ w'.cell? ⟨w.heap.size,4,none⟩ = some (.bool false) /\ Below (w.heap.size + 1) (w.alloc (.cells #[.int .u64 u0,.int .u64 u1,.int .u64 v0,.int .u64 v1,.bool false] 192)) w')
  (first | (with_reducible exact steps_hold (Below.drew hB0)) | (with_reducible exact steps_hold hB1) | (with_reducible exact steps_hold hB2))
  (first
   | (go_at_call 183;refine (difference_num _ _ x y u1 v1 L M _ ((HH.out.below (Below.refl _ _).drew).below hb1) ((HG.out.below (Below.refl _ _).drew).below hb1) (by omega) (by omega) ⟨B1.out.1,B1.out.2.1⟩ B1.out.2.2 H1.out.1 H1.out.2).mono ?_;rintro e w2 ⟨r2,rfl,hr2,hb2⟩;have hB2:=Below.trans hB1 (hb2.mono (Nat.le_trans hs0 hB1.size)))
   | (go_at_call 183;refine (difference_num _ _ y x v0 u0 M L _ (HG.out.below (Below.refl _ _).drew) (HH.out.below (Below.refl _ _).drew) (by omega) (by omega) B0.out.2.2 ⟨B0.out.1,B0.out.2.1⟩ H0.out.1 H0.out.2).mono ?_;rintro e w1 ⟨r1,rfl,hr1,hb1⟩;have hB1:=Below.trans (Below.drew hB0) (hb1.mono (B':=w.heap.size + 1) hs0)))
 go_wp2
 go_ret2
 exact ⟨⟨_,_,rfl,hr1.below hb2,hr2⟩,hW.trans (hB2.mono (by omega))⟩
theorem apply_any (a b:Value) (x y u0 v0 u1 v1:Int) (ev:Bool) (L:Nat) (w:World) (h:Num w a x L) (g:Num w b y L) (hL:L <= 1048576) (hyx:y <= x) (ho:LehOut x y ev u0 v0 u1 v1) (hv:v0 ≠ 0) :
  Calls Tryz.prog 166 #[.agg #[.int .u64 u0,.int .u64 u1,.int .u64 v0,.int .u64 v1,.bool ev],a,b] w fun e w'=>(∃ r s x' y',e = .returned (.tuple #[r,s]) /\ Num w' r x' L /\ Num w' s y' L /\ 0 <= y' /\ y' <= x' /\ x' <= y /\ y' < y /\ Int.gcd x' y' = Int.gcd x y) /\ Below w.heap.size w w':=by
 obtain ⟨b0,b1,hp⟩:=ho
 rcases hp with hp | ⟨k1,k2,k3,k4,k5⟩
 ·exact absurd hp hv
 ·cases ev with
  | true=>
   have e0:comb (!true) u0 x v0 y = u0 * x - v0 * y:=rfl
   have e1:comb true u1 x v1 y = v1 * y - u1 * x:=rfl
   rw [e0] at k3 k4 k5
   rw [e1] at k1 k2 k3 k5
   refine (apply_true a b x y u0 v0 u1 v1 L L w h g hL hL b0 b1 ⟨by omega,by omega⟩ ⟨by omega,by omega⟩).mono ?_
   rintro e w' ⟨⟨r,s,rfl,hr,hs⟩,hb⟩
   exact ⟨⟨r,s,_,_,rfl,hr.mono (by omega),hs.mono (by omega),k1,k3,k4,k2,k5⟩,hb⟩
  | false=>
   have e0:comb (!false) u0 x v0 y = v0 * y - u0 * x:=rfl
   have e1:comb false u1 x v1 y = u1 * x - v1 * y:=rfl
   rw [e0] at k3 k4 k5
   rw [e1] at k1 k2 k3 k5
   refine (apply_false a b x y u0 v0 u1 v1 L L w h g hL hL b0 b1 ⟨by omega,by omega⟩ ⟨by omega,by omega⟩).mono ?_
   rintro e w' ⟨⟨r,s,rfl,hr,hs⟩,hb⟩
   exact ⟨⟨r,s,_,_,rfl,hr.mono (by omega),hs.mono (by omega),k1,k3,k4,k2,k5⟩,hb⟩
end Go.Proofs.YtbajnceoolkckaaGreat
