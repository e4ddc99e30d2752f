/- Of the proof of RationalRounds: Booles, LowInt, Up. -/
import Derived.Test.YtbajnceoolkckaaGreatRd07
import Derived.Laws.Bits64b
open List renaming set_cons_zero → cZ, set_cons_succ → cS
open Go.Lib renaming hid → Hd
set_option maxRecDepth 100000
set_option maxHeartbeats 16000000
namespace Go.Proofs.YtbajnceoolkckaaGreat
open Go.RowKit LM
theorem patOf_pos (x:Int) : 0 <= patOf x:=by unfold patOf;split <;> omega
theorem flip_div (x:Int) (i:Nat) : (-1 - x) / 2 ^ i = -1 - x / 2 ^ i:=by
 have hp:=two_pos i
 have h1:=Int.emod_add_mul_ediv x (2 ^ i)
 have h2:=Int.emod_nonneg x (show (2:Int) ^ i ≠ 0 by omega)
 have h3:=Int.emod_lt_of_pos x hp
 generalize x / 2 ^ i = q at *
 generalize x % 2 ^ i = r at *
 generalize (2:Int) ^ i = p at *
 have e:-1 - x = (p - 1 - r) + p * (-1 - q):=by rw [<- h1,Int.mul_sub];omega
 rw [e,Int.add_mul_ediv_left _ _ (by omega),Int.ediv_eq_zero_of_lt (by omega) (by omega),Int.zero_add]
theorem bitOf_two (x:Int) (i:Nat) : bitOf x (i:Int) = decide (x / 2 ^ i % 2 = 1):=by
 unfold bitOf
 rw [if_neg (by omega),Int.toNat_natCast]
 by_cases hx:x < 0
 ·rw [patOf_of_neg hx,flip_div,decide_eq_true hx]
  generalize x / 2 ^ i = q
  by_cases hq:q % 2 = 1
  ·have:¬ (-1 - q) % 2 = 1:=by omega
   simp [hq,this]
  ·have:(-1 - q) % 2 = 1:=by omega
   simp [hq,this]
 ·rw [patOf_of_nonneg (by omega),decide_eq_false hx];simp
theorem mod_succ (x:Int) (k:Nat) : x % 2 ^ (k + 1) = x % 2 ^ k + 2 ^ k * (x / 2 ^ k % 2):=by
 have hp:=two_pos k
 have h1:=Int.emod_add_mul_ediv x (2 ^ k)
 have h2:=Int.emod_nonneg x (show (2:Int) ^ k ≠ 0 by omega)
 have h3:=Int.emod_lt_of_pos x hp
 rw [Int.pow_succ]
 generalize x / 2 ^ k = q at *
 generalize x % 2 ^ k = r at *
 generalize (2:Int) ^ k = p at *
 have h4:=Int.emod_add_mul_ediv q 2
 have h5:q % 2 = 0 \/ q % 2 = 1:=by omega
 have e:x = (r + p * (q % 2)) + (p * 2) * (q / 2):=by
  rw [<- h1,Int.mul_assoc,Int.add_assoc,<- Int.mul_add,h4]
 rw [e,Int.add_mul_emod_self_left]
 apply Int.emod_eq_of_lt
 ·rcases h5 with h | h <;> rw [h] <;> omega
 ·rcases h5 with h | h <;> rw [h] <;> omega
theorem mod_ext {x y:Int} (h:∀ i:Nat,x / 2 ^ i % 2 = y / 2 ^ i % 2) (k:Nat) : x % 2 ^ k = y % 2 ^ k:=by
 induction k with
 | zero=>simp [Int.emod_one]
 | succ k ih=>rw [mod_succ,mod_succ,ih,h]
theorem num_le {x y:Int} (hle:y <= x) (h:∀ i:Nat,x / 2 ^ i % 2 = y / 2 ^ i % 2) : x = y:=by
 have hk:=mod_ext h (x - y).natAbs
 have hlt:=Nat.lt_two_pow_self (n:=(x - y).natAbs)
 have e:(((2:Nat) ^ (x - y).natAbs:Nat) : Int) = (2:Int) ^ (x - y).natAbs:=by simp
 have e2:(((x - y).natAbs:Nat) : Int) = x - y:=by omega
 have hz:=Int.emod_eq_emod_iff_emod_sub_eq_zero.1 hk
 rw [Int.emod_eq_of_lt (by omega) (by rw [<- e];omega)] at hz
 omega
theorem num_ext {x y:Int} (h:∀ i:Nat,x / 2 ^ i % 2 = y / 2 ^ i % 2) : x = y:=by
 rcases Int.le_total y x with hl | hl
 ·exact num_le hl h
 ·exact (num_le hl fun i=>(h i).symm).symm
theorem bitOf_ext {x y:Int} (h:∀ i:Nat,bitOf x (i:Int) = bitOf y (i:Int)) : x = y:=by
 refine num_ext fun i=>?_
 have:=h i
 rw [bitOf_two,bitOf_two,decide_eq_decide] at this
 generalize x / 2 ^ i = a at *
 generalize y / 2 ^ i = b at *
 omega
theorem bitOf_high {x:Int} {k i:Nat} (h:patOf x < 2 ^ k) (hi:k <= i) : bitOf x (i:Int) = decide (x < 0):=by
 unfold bitOf;rw [if_neg (by omega),Int.toNat_natCast,bit_high (patOf_pos x) h hi];simp
theorem of_bits {P:Int} (bs:List Bool) (neg:Bool) (h0:0 <= P) (h1:P < 2 ^ bs.length) (hb:∀ i,i < bs.length -> decide (P / 2 ^ i % 2 = 1) = (bs.getD i false != neg)) (i:Nat) :
  bitOf (if neg then -1 - P else P) (i:Int) = if i < bs.length then bs.getD i false else neg:=by
 unfold bitOf;rw [if_neg (by omega),Int.toNat_natCast]
 have e:patOf (if neg then -1 - P else P) = P:=by cases neg <;> simp [patOf] <;> omega
 have s:decide ((if neg then -1 - P else P) < 0) = neg:=by cases neg <;> simp <;> omega
 rw [e,s]
 split
 ·rename_i hi
  rw [hb i hi];cases bs.getD i false <;> cases neg <;> rfl
 ·rw [bit_high h0 h1 (by omega)];cases neg <;> rfl
theorem testBit_int {a:Int} (h:0 <= a) (i:Nat) : a.toNat.testBit i = decide (a / 2 ^ i % 2 = 1):=by
 obtain ⟨n,rfl⟩:=Int.eq_ofNat_of_zero_le h
 rw [Int.toNat_natCast,Nat.testBit_eq_decide_div_mod_eq,decide_eq_decide]
 have e:((n / 2 ^ i % 2:Nat) : Int) = (n:Int) / 2 ^ i % 2:=by simp
 rw [<- e];omega
theorem low_bit (x:Int) {m j:Nat} (hj:j < m) : x % 2 ^ m / 2 ^ j % 2 = x / 2 ^ j % 2:=by
 have h1:=Int.emod_add_mul_ediv x (2 ^ m)
 have e:(2:Int) ^ m = 2 ^ j * (2 * 2 ^ (m - j - 1)):=by
  rw [<- Int.mul_assoc,Int.mul_comm (2 ^ j) 2,Int.mul_assoc,<- Int.pow_add,Int.mul_comm,<- Int.pow_succ];congr 1;omega
 have hq:=two_pos j
 generalize x % 2 ^ m = r at *
 generalize x / 2 ^ m = q at *
 rw [<- h1,e,Int.mul_assoc,Int.add_mul_ediv_left _ _ (by omega),Int.mul_assoc,Int.add_mul_emod_self_left]
theorem booled_bits {op x y z:Int} {k:Nat} (h:Booled op x y (k + 1) z) (h0:0 <= op) (hx:patOf x < 2 ^ (32 * k)) (hy:patOf y < 2 ^ (32 * k)) (i:Nat) :
  bitOf z (i:Int) = chosenOf op (bitOf x (i:Int)) (bitOf y (i:Int)):=by
 obtain ⟨wx,wy,os,lx,ly,lo,dx,dy,dz,vx,vy,hc,hz⟩:=h
 have inside:∀ j:Nat,j < 32 * (k + 1) -> decide (val os / 2 ^ j % 2 = 1) = chosenOf op (bitOf x (j:Int)) (bitOf y (j:Int)):=by
  intro j hj
  have c:=(hc (j / 32) (by omega)).2 (j % 32) (by omega)
  rw [testBit_int (dz.getD _).1,testBit_int (dx.getD _).1,testBit_int (dy.getD _).1,<- bit_val dz j,<- bit_val dx j,<- bit_val dy j,vx,vy,BB_two,low_bit x hj,low_bit y hj,testBit_int h0] at c
  rw [bitOf_two,bitOf_two,c];rfl
 have hb:=val_bounds dz
 rw [lo,BB_two] at hb
 have top:=inside (32 * k + 31) (by omega)
 rw [bitOf_high hx (by omega),bitOf_high hy (by omega),bit_val dz,show (32 * k + 31) / 32 = k from by omega,show (32 * k + 31) % 32 = 31 from by omega] at top
 have hd:=dz.getD k
 rw [BB_def] at hd
 rw [show k + 1 - 1 = k from rfl,BB_two] at hz
 have hs:decide (z < 0) = chosenOf op (decide (x < 0)) (decide (y < 0)):=by
  rw [<- top,decide_eq_decide]
  generalize os.getD k 0 = t at *
  generalize (2:Int) ^ (32 * (k + 1)) = M at *
  have e31:(2:Int) ^ 31 = 2147483648:=by decide
  rw [e31]
  split at hz <;> omega
 have hpz:patOf z < 2 ^ (32 * (k + 1)):=by
  unfold patOf
  generalize (2:Int) ^ (32 * (k + 1)) = M at *
  split at hz <;> split <;> omega
 by_cases hi:i < 32 * (k + 1)
 ·rw [<- inside i hi,bitOf_two]
  have e:z % 2 ^ (32 * (k + 1)) = val os % 2 ^ (32 * (k + 1)):=by
   rw [hz];split
   ·rw [show val os - 2 ^ (32 * (k + 1)) = val os + 2 ^ (32 * (k + 1)) * (-1) from by omega,Int.add_mul_emod_self_left]
   ·rfl
  rw [<- low_bit z hi,e,low_bit _ hi]
 ·rw [bitOf_high hpz (by omega),hs,bitOf_high hx (by omega),bitOf_high hy (by omega)]
theorem boole_same {op x y z P:Int} {k N:Nat} (h:Booled op x y (k + 1) z) (h0:0 <= op) (hx:patOf x < 2 ^ (32 * k)) (hy:patOf y < 2 ^ (32 * k)) (nx:patOf x < 2 ^ N) (ny:patOf y < 2 ^ N)
  (bs:List Bool) (hl:bs.length = N) (hbs:∀ i,i < N -> bs.getD i false = chosenOf op (bitOf x (i:Int)) (bitOf y (i:Int)))
  (p0:0 <= P) (p1:P < 2 ^ N) (hb:∀ i,i < N -> decide (P / 2 ^ i % 2 = 1) = (bs.getD i false != chosenOf op (decide (x < 0)) (decide (y < 0)))) :
  (if chosenOf op (decide (x < 0)) (decide (y < 0)) then -1 - P else P) = z:=by
 subst hl
 refine bitOf_ext fun i=>?_
 rw [of_bits bs _ p0 p1 hb,booled_bits h h0 hx hy]
 split
 ·rename_i hi;exact hbs i hi
 ·rw [bitOf_high nx (by omega),bitOf_high ny (by omega)]
def pB:List Bool -> Bool -> Int
 | [],_=>0
 | b :: bs,s=>(if b != s then 1 else 0) + 2 * pB bs s
theorem pB_nonneg (bs:List Bool) (s:Bool) : 0 <= pB bs s:=by
 induction bs with
 | nil=>exact Int.le_refl _
 | cons b bs ih=>unfold pB;split <;> omega
theorem pB_lt (bs:List Bool) (s:Bool) : pB bs s < 2 ^ bs.length:=by
 induction bs with
 | nil=>simp [pB]
 | cons b bs ih=>unfold pB;rw [List.length_cons,Int.pow_succ];split <;> omega
theorem pB_bit (bs:List Bool) (s:Bool) : ∀ i,i < bs.length -> decide (pB bs s / 2 ^ i % 2 = 1) = (bs.getD i false != s):=by
 induction bs with
 | nil=>intro i hi;simp at hi
 | cons b bs ih=>
  intro i hi
  cases i with
  | zero=>
   unfold pB
   rw [Int.pow_zero,Int.ediv_one,List.getD_cons_zero]
   generalize pB bs s = t
   cases hb:(b != s)
   ·simp
   ·simp [show (1 + 2 * t) % 2 = 1 by omega]
  | succ i=>
   rw [List.getD_cons_succ,<- ih i (by simpa using hi)]
   have e:pB (b :: bs) s / 2 ^ (i + 1) = pB bs s / 2 ^ i:=by
    rw [Int.pow_succ,Int.mul_comm,<- Int.ediv_ediv_of_nonneg (by decide)]
    congr 1
    show ((if b != s then 1 else 0) + 2 * pB bs s) / 2 = pB bs s
    split <;> omega
   rw [e]
theorem emod_two_parts (x:Int) {p s:Int} (hp:0 < p) (hs:0 < s) : x % (p * s) = x % p + p * (x / p % s):=by
 have h1:=Int.emod_add_mul_ediv x p
 have h2:=Int.emod_nonneg x (show p ≠ 0 by omega)
 have h3:=Int.emod_lt_of_pos x hp
 generalize x / p = q at *
 generalize x % p = r at *
 have h4:=Int.emod_add_mul_ediv q s
 have h5:=Int.emod_nonneg q (show s ≠ 0 by omega)
 have h6:=Int.emod_lt_of_pos q hs
 generalize q / s = a at *
 generalize q % s = b at *
 have e:x = (r + p * b) + (p * s) * a:=by rw [<- h1,<- h4,Int.mul_add,Int.mul_assoc];omega
 rw [e,Int.add_mul_emod_self_left]
 have h7:=Int.mul_le_mul_of_nonneg_left (show b <= s - 1 by omega) (Int.le_of_lt hp)
 have h8:=Int.mul_nonneg (Int.le_of_lt hp) h5
 rw [Int.mul_sub] at h7
 exact Int.emod_eq_of_lt (by omega) (by omega)
def dig (P:Int) (m k:Nat) : Int:=P / 2 ^ (max (16 * k) m) % 2 ^ (16 * k + 16 - max (16 * k) m)
theorem dig_range (P:Int) (m k:Nat) : 0 <= dig P m k /\ dig P m k < 65536:=by
 unfold dig
 have hp:=two_pos (16 * k + 16 - max (16 * k) m)
 have hm:=two_mono (show 16 * k + 16 - max (16 * k) m <= 16 by omega)
 have e:(2:Int) ^ 16 = 65536:=by decide
 have h2:=Int.emod_nonneg (P / 2 ^ (max (16 * k) m)) (show (2:Int) ^ (16 * k + 16 - max (16 * k) m) ≠ 0 by omega)
 have h3:=Int.emod_lt_of_pos (P / 2 ^ (max (16 * k) m)) hp
 exact ⟨h2,by omega⟩
def digs (P:Int) (m K:Nat) : List Int:=(List.range K).map (dig P m)
theorem digs_getD (P:Int) (m K k:Nat) (h:k < K) : (digs P m K).getD k 0 = dig P m k:=by simp [digs,List.getD,h]
def Own64 (w:World) (base g n:Nat) (xs:List Int) : Prop:=w.ownsRow base 3 1 (.slice (some ⟨g,0,none⟩) n n) n (xs.map (Value.int .i64))
theorem Own64.length {w:World} {base g n:Nat} {xs:List Int} (h:Own64 w base g n xs) : xs.length = n:=by have:=h.1;simpa using this
theorem Own64.cell {w:World} {base g n:Nat} {xs:List Int} (h:Own64 w base g n xs) {k:Nat} (hk:k < n) : w.cell? ⟨g,k,none⟩ = some (.int .i64 (xs.getD k 0)):=by
 have hl:=h.length
 rw [World.ownsRow.cellAt h k (by omega)]
 simp [List.getD,hl,hk]
theorem Own64.frozen {w:World} {base g n:Nat} {xs:List Int} (h:Own64 w base g n xs) (k:Nat) : w.frozen? ⟨g,k,none⟩ = false:=World.ownsRow.frozenAt h k
theorem Own64.set {w:World} {base g n:Nat} {xs:List Int} (h:Own64 w base g n xs) (k:Nat) (u:Int) : Own64 (w.setCell ⟨g,k,none⟩ (.int .i64 u)) base g n (xs.set k u):=by
 have:=(World.ownsRow.stored h k (.int .i64 u)).1
 rw [<- List.map_set] at this
 exact this
def OfRel (w1 wr:World) (g K n:Nat) (P:Int) (m:Nat) : Prop:=m <= n /\ Own64 wr g g K (digs P m K) /\ Below g w1 wr
theorem OfRel.cells {w1 wr:World} {g K n:Nat} {P:Int} {i:Nat} (h:OfRel w1 wr g K n P (i + 1)) (hK:K = n / 16 + 1) :
  ∃ d,dig P (i + 1) (i / 16) = d /\ (0 <= d /\ d < 65536) /\ wr.cell? ⟨g,i / 16,none⟩ = some (.int .i64 d) /\ wr.frozen? ⟨g,i / 16,none⟩ = false:=by
 obtain ⟨hm,ho,_⟩:=h
 refine ⟨_,rfl,dig_range P _ _,?_,ho.frozen _⟩
 rw [ho.cell (by omega),digs_getD _ _ _ _ (by omega)]
def combOf (op x y:Int) (N:Nat) : List Bool:=(List.range N).map (fun k:Nat=>chosenOf op (bitOf x (k:Int)) (bitOf y (k:Int)))
theorem combOf_getD (op x y:Int) (N i:Nat) (h:i < N) : (combOf op x y N).getD i false = chosenOf op (bitOf x (i:Int)) (bitOf y (i:Int)):=by
 unfold combOf;simp [List.getD,h]
theorem combOf_length (op x y:Int) (N:Nat) : (combOf op x y N).length = N:=by simp [combOf]
def RBooled (op x y z:Int) : Prop:=
 ∃ N:Nat,patOf x < 2 ^ N /\ patOf y < 2 ^ N /\ z = if chosenOf op (decide (x < 0)) (decide (y < 0)) then -1 - pB (combOf op x y N) (chosenOf op (decide (x < 0)) (decide (y < 0))) else pB (combOf op x y N) (chosenOf op (decide (x < 0)) (decide (y < 0)))
theorem RBooled.same {op x y z z':Int} {k:Nat} (h:Booled op x y (k + 1) z) (g:RBooled op x y z') (h0:0 <= op) (hx:patOf x < 2 ^ (32 * k)) (hy:patOf y < 2 ^ (32 * k)) : z' = z:=by
 obtain ⟨N,nx,ny,rfl⟩:=g
 have hl:=combOf_length op x y N
 exact boole_same h h0 hx hy nx ny (combOf op x y N) hl (fun i hi=>combOf_getD op x y N i hi) (pB_nonneg _ _) (by have:=pB_lt (combOf op x y N) (chosenOf op (decide (x < 0)) (decide (y < 0)));rwa [hl] at this) (fun i hi=>pB_bit _ _ i (by rw [hl];exact hi))
def BoolV (op x y z:Int) : Prop:=(op < 0 \/ 15 < op) /\ z = 0 \/ ¬ (op < 0 \/ 15 < op) /\ ∃ k,Booled op x y (k + 1) z /\ patOf x < 2 ^ (32 * k) /\ patOf y < 2 ^ (32 * k)
def RBoolV (op x y z:Int) : Prop:=(op < 0 \/ 15 < op) /\ z = 0 \/ ¬ (op < 0 \/ 15 < op) /\ RBooled op x y z
theorem RBoolV.same {op x y z z':Int} (h:BoolV op x y z) (g:RBoolV op x y z') : z' = z:=by
 rcases h with ⟨a,rfl⟩ | ⟨a,k,h1,h2,h3⟩
 ·rcases g with ⟨_,rfl⟩ | ⟨b,_⟩
  ·rfl
  ·exact absurd a b
 ·rcases g with ⟨b,_⟩ | ⟨_,g⟩
  ·exact absurd b a
  ·exact g.same h1 (by omega) h2 h3
theorem Ival.nought {w:World} {L:Nat} : Ival w (.agg #[.bool false,.slice none 0 0]) 0 L:=
 ⟨false,_,0,rfl,⟨none,0,0,[],rfl,Row.nil_,fun d h=>by simp at h,.inl rfl,rfl,Nat.zero_le _⟩,by omega,by simp [withSign],by simp⟩
theorem Rval.nought {w:World} {L:Nat} : Rval w (.agg #[.bool false,.slice none 0 0]) 0 L:=
 ⟨false,none,0,0,[],rfl,Row.nil_,fun d h=>by simp at h,.inl rfl,rfl,(fun h=>by cases h),Nat.zero_le _⟩
theorem or64 {a b : Int} (ha : 0 ≤ a ∧ a < 4294967296) (hb : 0 ≤ b ∧ b < 4294967296) : bits BinOp.or IntKind.u64 (a * 4294967296) b = a * 4294967296 + b := by
  obtain ⟨A, rfl⟩ := Int.eq_ofNat_of_zero_le ha.1
  obtain ⟨B, rfl⟩ := Int.eq_ofNat_of_zero_le hb.1
  have hB : B < 2 ^ 32 := by have : (2 : Nat) ^ 32 = 4294967296 := by decide
                             omega
  have e : (A : Int) * 4294967296 = ((2 ^ 32 * A : Nat) : Int) := by rw [Int.natCast_mul, Int.mul_comm]; rfl
  have h1 : 2 ^ 32 * A < 18446744073709551616 := by have : (2 : Nat) ^ 32 = 4294967296 := by decide
                                                    omega
  rw [e, bits_or_u64_nat _ _ h1 (by omega), ← Nat.two_pow_add_eq_or_of_lt hB, Int.natCast_add]
theorem low64_num (u:Value) (z:Int) (L:Nat) (w:World) (h:Num w u z L) (hL:L <= 1048576) (hz:z < 18446744073709551616) :
  Calls Tryz.prog 129 #[u] w fun e w'=>e = .returned (.int .u64 z) /\ w = w':=by
 obtain ⟨A,n,c,xs,rfl,hr,hd,ht,hv,hn⟩:=h
 obtain ⟨y0,e0⟩ : ∃ y,xs.getD 0 0 = y:=⟨_,rfl⟩
 obtain ⟨y1,e1⟩ : ∃ y,xs.getD 1 0 = y:=⟨_,rfl⟩
 have b0:=hd.getD 0
 have b1:=hd.getD 1
 rw [e0] at b0
 rw [e1] at b1
 have hval:z = y1 * 4294967296 + y0:=by
  have hlen:xs.length <= 2:=by
   rcases Nat.lt_or_ge 2 xs.length with h | h
   ·have hge:=val_ge hd ht (by omega)
    have:=pow_le (show 2 <= xs.length - 1 by omega)
    have e:BB ^ 2 = 18446744073709551616:=by decide
    omega
   ·exact h
  rw [<- hv]
  match xs,hlen with
  | [],_=>simp at e0 e1;subst e0 e1;rfl
  | [a],_=>simp at e0 e1;subst e0 e1;simp [val]
  | [a,b],_=>simp at e0 e1;subst e0 e1;simp [val,BB_def];omega
 have hor:=or64 (a:=y1) (b:=y0) (by rw [BB_def] at b1;exact b1) (by rw [BB_def] at b0;exact b0)
 have HV:=Hd hval
 have HR:=Hd hr
 have E0:=Hd e0
 have E1:=Hd e1
 rw [BB_def] at b0 b1
 obtain ⟨b00,b01⟩:=b0
 obtain ⟨b10,b11⟩:=b1
 clear hval hr hd ht hv e0 e1 hz
 go_enter Tryz.func129,Tryz.ntmps129
 go_wp2_with fail
 refine (at_is A n c xs y1 1 _ HR.out (by omega) (by decide) E1.out).mono ?_
 rintro e w1 ⟨rfl,rfl⟩
 go_wp2_with fail
 refine (at_is A n c xs y0 0 _ HR.out (by omega) (by decide) E0.out).mono ?_
 rintro e w2 ⟨rfl,rfl⟩
 go_wp2_with fail
 go_ret
 exact ⟨by rw [HV.out];rfl,rfl⟩
def int64Of (x:Int) : Int:=if -9223372036854775808 <= x /\ x <= 9223372036854775807 then x else 0
def fits64 (x:Int) : Bool:=decide (-9223372036854775808 <= x /\ x <= 9223372036854775807)
theorem int64_fit {x:Int} (h:-9223372036854775808 <= x /\ x <= 9223372036854775807) : int64Of x = x /\ fits64 x = true:=⟨if_pos h,decide_eq_true h⟩
theorem int64_not {x:Int} (h:¬ (-9223372036854775808 <= x /\ x <= 9223372036854775807)) : int64Of x = 0 /\ fits64 x = false:=⟨if_neg h,decide_eq_false h⟩
theorem Int64_any (u:Value) (x:Int) (L:Nat) (w:World) (h:Ival w u x L) (hL:L <= 1048576) :
  Calls Tryz.prog 162 #[u] w fun e w'=>e = .returned (.tuple #[.int .i64 (int64Of x),.bool (fits64 x)]) /\ Below w.heap.size w w':=by
 obtain ⟨p,A,n,c,rfl⟩:=h.form
 obtain ⟨a,ha,ha0,hxa,ha1⟩:=h.parts
 have hW:=below_alloc w (.cells #[.bool p,.slice A n c] 31)
 have HA:=Hd (ha.below hW)
 by_cases hbig:(2:Int) < (n:Int)
 ·have hage:18446744073709551616 <= a:=by
   obtain ⟨A',n',c',xs,e,hr,hd,ht,hv,hn⟩:=ha
   simp at e
   have hge:=val_ge hd ht (by rw [hr.1];omega)
   have:=pow_le (show 2 <= xs.length - 1 by rw [hr.1];omega)
   have e:BB ^ 2 = 18446744073709551616:=by decide
   omega
  have hnot:¬ (-9223372036854775808 <= x /\ x <= 9223372036854775807):=by rw [hxa];cases p <;> simp [withSign] <;> omega
  rw [(int64_not hnot).1,(int64_not hnot).2]
  clear h ha ha0 ha1 hxa hage hnot
  go_enter Tryz.func162,Tryz.ntmps162
  go_wp2_with fail
  go_ret2
  exact ⟨rfl,hW⟩
 ·have ha2:a < 18446744073709551616:=by
   obtain ⟨A',n',c',xs,e,hr,hd,ht,hv,hn⟩:=ha
   simp at e
   have hb:=(val_bounds hd).2
   have:=pow_le (show xs.length <= 2 by rw [hr.1];omega)
   have e:BB ^ 2 = 18446744073709551616:=by decide
   omega
  cases p with
  | false=>
   have hx:x = a:=by rw [hxa];simp [withSign]
   subst hx
   by_cases hf:x <= 9223372036854775807
   ·rw [(int64_fit ⟨by omega,hf⟩).1,(int64_fit ⟨by omega,hf⟩).2]
    have q1:IntKind.i64.wrap x = x:=by rw [IntKind.wrap_i64];omega
    clear h ha ha1 hxa
    go_enter Tryz.func162,Tryz.ntmps162
    go_wp2_with fail
    refine (low64_num _ x _ _ HA.out (by omega) ha2).mono ?_
    rintro e w1 ⟨rfl,rfl⟩
    go_wp2_with fail
    go_ret2
    exact ⟨rfl,hW⟩
   ·rw [(int64_not (by omega)).1,(int64_not (by omega)).2]
    clear h ha ha1 hxa
    go_enter Tryz.func162,Tryz.ntmps162
    go_wp2_with fail
    refine (low64_num _ x _ _ HA.out (by omega) ha2).mono ?_
    rintro e w1 ⟨rfl,rfl⟩
    go_wp2_with fail
    go_ret2
    exact ⟨rfl,hW⟩
  | true=>
   have hx:x = -a:=by rw [hxa];simp [withSign]
   have han:=ha1 rfl
   by_cases hf:a <= 9223372036854775808
   ·rw [(int64_fit ⟨by omega,by omega⟩).1,(int64_fit ⟨by omega,by omega⟩).2,hx]
    have q1:IntKind.i64.wrap (IntKind.u64.wrap (-a)) = -a:=by rw [IntKind.wrap_i64,IntKind.wrap_u64];omega
    clear h ha ha1 hxa hx
    go_enter Tryz.func162,Tryz.ntmps162
    go_wp2_with fail
    refine (low64_num _ a _ _ HA.out (by omega) ha2).mono ?_
    rintro e w1 ⟨rfl,rfl⟩
    go_wp2_with fail
    go_ret2
    exact ⟨rfl,hW⟩
   ·rw [(int64_not (by omega)).1,(int64_not (by omega)).2]
    clear h ha ha1 hxa hx
    go_enter Tryz.func162,Tryz.ntmps162
    go_wp2_with fail
    refine (low64_num _ a _ _ HA.out (by omega) ha2).mono ?_
    rintro e w1 ⟨rfl,rfl⟩
    go_wp2_with fail
    go_ret2
    exact ⟨rfl,hW⟩
def UpRel (w wr:World) (n sk r:Nat) (xs:List Int) (i:Nat) (c:Int) : Prop:=
 i <= n /\ (0 <= c /\ c < 2 ^ r) /\ Below w.heap.size w wr /\ ∃ ds:List Int,ds.length = i /\ Dig ds /\ val ds + BB ^ i * c = val (xs.take i) * 2 ^ r /\
  Own wr w.heap.size w.heap.size (n + sk + 1) (List.replicate sk 0 ++ (ds ++ c :: List.replicate (n - i) 0))
theorem UpRel.cells {w wr:World} {n sk r:Nat} {xs:List Int} {i:Nat} {c:Int} (h:UpRel w wr n sk r xs i c) (hi:i < n) :
  wr.cell? ⟨w.heap.size,i + sk,none⟩ = some (.int .u32 c) /\ wr.frozen? ⟨w.heap.size,i + sk,none⟩ = false /\
  (∃ u,wr.cell? ⟨w.heap.size,i + sk + 1,none⟩ = some (.int .u32 u)) /\ wr.frozen? ⟨w.heap.size,i + sk + 1,none⟩ = false:=by
 obtain ⟨_,_,_,ds,hl,_,_,ho⟩:=h
 refine ⟨?_,ho.frozen _,⟨_,ho.cell (by omega)⟩,ho.frozen _⟩
 rw [ho.cell (by omega)]
 congr 2
 simp only [List.getD]
 rw [List.getElem?_append_right (by simp),List.length_replicate,Nat.add_sub_cancel,List.getElem?_append_right (by omega),hl,Nat.sub_self]
 rfl
theorem or_add {r:Nat} {c q:Int} (hr:r < 32) (hc:0 <= c /\ c < 2 ^ r) (hq:0 <= q /\ q < 2 ^ (32 - r)) : bits BinOp.or IntKind.u32 c (2 ^ r * q) = c + 2 ^ r * q:=by
 obtain ⟨C,rfl⟩:=Int.eq_ofNat_of_zero_le hc.1
 obtain ⟨Q,rfl⟩:=Int.eq_ofNat_of_zero_le hq.1
 have e:(2:Int) ^ r * (Q:Int) = ((2 ^ r * Q:Nat) : Int):=by rw [Int.natCast_mul,Int.natCast_pow];rfl
 have hC:C < 2 ^ r:=by have:=hc.2;exact_mod_cast this
 have hQ:Q < 2 ^ (32 - r):=by have:=hq.2;exact_mod_cast this
 have hP:2 ^ r * Q + 2 ^ r <= 4294967296:=by
  have h1:2 ^ r * (Q + 1) <= 2 ^ r * 2 ^ (32 - r):=Nat.mul_le_mul_left _ hQ
  rw [<- Nat.pow_add,show r + (32 - r) = 32 from by omega] at h1
  have:(2:Nat) ^ 32 = 4294967296:=by decide
  rw [Nat.mul_add,Nat.mul_one] at h1;omega
 rw [e,u32_or_nat _ _ (by omega) (by omega),Nat.or_comm,<- Nat.two_pow_add_eq_or_of_lt hC]
 rw [Int.natCast_add];omega
theorem UpRel.step {w wr:World} {n sk r:Nat} {xs:List Int} {i:Nat} {c x:Int} (h:UpRel w wr n sk r xs i c) (hi:i < n) (hr:r < 32) (hx:0 <= x /\ x < BB) (ex:xs.getD i 0 = x) :
  (0 <= x * 2 ^ r /\ x * 2 ^ r < 18446744073709551616) /\ bits BinOp.or IntKind.u32 c (x * 2 ^ r % 4294967296) = c + x * 2 ^ r % 4294967296 /\
  UpRel w ((wr.setCell ⟨w.heap.size,i + sk,none⟩ (.int .u32 (c + x * 2 ^ r % 4294967296))).setCell ⟨w.heap.size,i + sk + 1,none⟩ (.int .u32 (x * 2 ^ r / 4294967296))) n sk r xs (i + 1) (x * 2 ^ r / 4294967296):=by
 obtain ⟨_,hc,hb,ds,hl,hd,hv,ho⟩:=h
 have hp:=two_pos r
 have hp32:(2:Int) ^ r <= 2 ^ 31:=two_mono (by omega)
 have e31:(2:Int) ^ 31 = 2147483648:=by decide
 have v0:0 <= x * 2 ^ r:=Int.mul_nonneg hx.1 (by omega)
 have v1:x * 2 ^ r <= 4294967295 * 2 ^ r:=Int.mul_le_mul_of_nonneg_right (by rw [BB_def] at hx;omega) (by omega)
 -- the low part is a multiple of 2^r
 have e32:(4294967296:Int) = 2 ^ r * 2 ^ (32 - r):=by
  rw [<- Int.pow_add,show r + (32 - r) = 32 from by omega];decide
 have hlow:x * 2 ^ r % 4294967296 = 2 ^ r * (x % 2 ^ (32 - r)):=by
  rw [e32,Int.mul_comm x,Int.mul_emod_mul_of_pos _ _ hp]
 have hq0:0 <= x % 2 ^ (32 - r):=Int.emod_nonneg _ (by have:=two_pos (32 - r);omega)
 have hq1:x % 2 ^ (32 - r) < 2 ^ (32 - r):=Int.emod_lt_of_pos _ (two_pos _)
 have hor:=or_add hr hc ⟨hq0,hq1⟩
 have hsum:c + 2 ^ r * (x % 2 ^ (32 - r)) < 4294967296:=by
  have h1:2 ^ r * (x % 2 ^ (32 - r) + 1) <= 2 ^ r * 2 ^ (32 - r):=Int.mul_le_mul_of_nonneg_left (by omega) (by omega)
  rw [<- e32,Int.mul_add,Int.mul_one] at h1;omega
 have hhi:0 <= x * 2 ^ r / 4294967296 /\ x * 2 ^ r / 4294967296 < 2 ^ r:=⟨Int.ediv_nonneg v0 (by decide),Int.ediv_lt_of_lt_mul (by decide) (by rw [BB_def] at hx;omega)⟩
 rw [<- hlow] at hor hsum
 refine ⟨⟨v0,by omega⟩,hor,hi,hhi,(hb.setCell (Nat.le_refl _) _).setCell (Nat.le_refl _) _,ds ++ [c + x * 2 ^ r % 4294967296],by simp [hl],hd.snoc (by have:=Int.emod_nonneg (x * 2 ^ r) (show (4294967296:Int) ≠ 0 by decide);omega) (by rw [BB_def];omega),?_,?_⟩
 ·rw [val_snoc,hl,val_take_succ,ex,Int.add_mul,<- hv]
  have e1:=pow_split i (x * 2 ^ r % BB) (x * 2 ^ r / BB)
  rw [digit_split] at e1
  have e3:BB ^ i * (c + x * 2 ^ r % BB) = BB ^ i * c + BB ^ i * (x * 2 ^ r % BB):=Int.mul_add _ _ _
  have e4:BB ^ i * x * 2 ^ r = BB ^ i * (x * 2 ^ r):=Int.mul_assoc _ _ _
  rw [show (4294967296:Int) = BB from rfl,e3,e4]
  omega
 ·have s1:=ho.set (i + sk) (c + x * 2 ^ r % 4294967296)
  have s2:=s1.set (i + sk + 1) (x * 2 ^ r / 4294967296)
  have e:((List.replicate sk 0 ++ (ds ++ c :: List.replicate (n - i) 0)).set (i + sk) (c + x * 2 ^ r % 4294967296)).set (i + sk + 1) (x * 2 ^ r / 4294967296) =
    List.replicate sk 0 ++ ((ds ++ [c + x * 2 ^ r % 4294967296]) ++ x * 2 ^ r / 4294967296 :: List.replicate (n - (i + 1)) 0):=by
   have a1:(List.replicate sk 0 ++ (ds ++ c :: List.replicate (n - i) 0)).set (i + sk) (c + x * 2 ^ r % 4294967296) = List.replicate sk 0 ++ (ds ++ (c + x * 2 ^ r % 4294967296) :: List.replicate (n - i) 0):=by
    rw [List.set_append_right _ _ (by rw [List.length_replicate];omega),List.length_replicate,Nat.add_sub_cancel,List.set_append_right _ _ (by omega),hl,Nat.sub_self,cZ]
   rw [a1,show n - i = (n - (i + 1)) + 1 from by omega,List.replicate_succ,List.set_append_right _ _ (by rw [List.length_replicate];omega),List.length_replicate,show i + sk + 1 - sk = i + 1 from by omega,
    List.set_append_right _ _ (by omega),hl,show i + 1 - i = 1 from by omega,cS,cZ]
   simp
  rw [e] at s2
  exact s2
theorem val_skip (sk:Nat) (l:List Int) : val (List.replicate sk 0 ++ l) = BB ^ sk * val l:=by
 rw [val_append,val_zeros,List.length_replicate];simp
theorem UpRel.done {w wr:World} {n sk r:Nat} {xs:List Int} {c:Int} (h:UpRel w wr n sk r xs n c) (hr:r < 32) (hx:xs.length = n) (m:Nat) (hm:m = 32 * sk + r) :
  ∃ zs,Dig zs /\ val zs = val xs * 2 ^ m /\ Row .u32 wr (some ⟨w.heap.size,0,none⟩) (n + sk + 1) (n + sk + 1) zs /\ Below w.heap.size w wr:=by
 obtain ⟨_,hc,hb,ds,hl,hd,hv,ho⟩:=h
 have hc2:c < BB:=by
  have:=two_mono (show r <= 32 by omega)
  have e:(2:Int) ^ 32 = BB:=by rw [BB_def];decide
  omega
 refine ⟨_,?_,?_,ho.row,hb⟩
 ·have z:Dig (List.replicate sk (0:Int)):=by intro i hi;simp at hi;simp [List.getD,hi];decide
  refine z.append (hd.append ?_)
  rw [Dig.cons_iff]
  exact ⟨⟨hc.1,hc2⟩,by rw [Nat.sub_self];exact Dig.nil⟩
 ·rw [val_skip,val_append,val_cons,Nat.sub_self,List.replicate_zero,val_nil,hl]
  simp only [Int.mul_zero,Int.add_zero]
  rw [hv,List.take_of_length_le (by omega),hm,Int.pow_add,BB_two]
  grind
theorem up_some (A:Option Addr) (n c:Nat) (xs:List Int) (m:Nat) (w:World) (h:Row .u32 w A n c xs) (hn:n <= 1048576) (hn0:n ≠ 0) (hm:m <= 1048576) (hdx:Dig xs) :
  Calls Tryz.prog 179 #[.slice A n c,.int .i64 m] w fun e w'=>∃ v,e = .returned v /\ Num w' v (val xs * 2 ^ m) (n + m / 32 + 1) /\ Below w.heap.size w w':=by
 obtain ⟨i0,hi,hz0,hz1,hz2⟩:=info_parts Tryz.info135
 obtain ⟨hl,hc,hcell⟩:=h
 obtain ⟨b,o,rfl,hbx,hx⟩:=hcell hn0
 have HX:=Hd hx
 have HL:=Hd hl
 obtain ⟨sk,hsk⟩ : ∃ sk,m / 32 = sk:=⟨_,rfl⟩
 obtain ⟨r,hr⟩ : ∃ r,m % 32 = r:=⟨_,rfl⟩
 have hr32:r < 32:=by omega
 have HM:=Hd (show m = 32 * sk + r by omega)
 have hsb:sk <= 1048576:=by omega
 have t1:(m:Int).tdiv 32 = (sk:Int):=by rw [Int.tdiv_eq_ediv_of_nonneg (by omega)];omega
 have t2:(m:Int).tmod 32 = (r:Int):=by rw [Int.tmod_eq_emod_of_nonneg (by omega)];omega
 have z1:((n:Int) == 0) = false:=by simp;omega
 rw [hsk]
 clear hl hx hcell hsk hr
 go_enter Tryz.func179,Tryz.ntmps179
 go_wp2_with (at_make;refine wpList_make_full _ rfl _ _ 22 rfl w.heap.size 135 i0 (.int .u32 0) 1 Tryz.underlying22 hi hz0 hz1 _ _ _ _ (n + sk + 1) rfl rfl (by omega) (by omega) (by rw [hz2];omega) (by unfold maxLen;omega) (Nat.le_refl _) ?_;intro w1 hown hgrow)
 go_loopw [26] (fun iv wr=>∃ (i:Nat) (c:Int),iv = .int .i64 i /\ UpRel w wr n sk r xs i c) (fun iv _=>n - (intOf iv).toNat)
 case atStart=>
  refine ⟨0,0,rfl,Nat.zero_le _,⟨Int.le_refl _,two_pos _⟩,(Below.refl _ _).grown hgrow (Nat.le_refl _) (fun _ h=>by cases h),[],rfl,Dig.nil,by simp [val],?_⟩
  rw [zeros_made] at hown
  have e:List.replicate sk (0:Int) ++ ([] ++ 0 :: List.replicate (n - 0) 0) = List.replicate (n + sk + 1) 0:=by
   rw [List.nil_append,Nat.sub_zero,<- List.replicate_succ,List.replicate_append_replicate,show sk + (n + 1) = n + sk + 1 from by omega]
  rw [e]
  exact hown
 case round=>
  obtain ⟨i,cc,rfl,hrel⟩:=hrel
  have HR:=Hd hrel
  obtain ⟨hk,hcc,hb,-⟩:=hrel
  by_cases hlt:i < n
  ·obtain ⟨x,ex⟩ : ∃ x,xs.getD i 0 = x:=⟨_,rfl⟩
   have hx1:wr.cell? ⟨b,o + i,none⟩ = some (.int .u32 x):=by rw [<- ex];exact (hb.cell (p:=⟨b,o + i,none⟩) hbx).trans (HX.out i hlt)
   have bx:=hdx.getD i
   rw [ex] at bx
   obtain ⟨hcl,hfr,⟨u,hu⟩,hfr2⟩:=HR.out.cells hlt
   obtain ⟨⟨v0,v1⟩,hor,hst⟩:=HR.out.step hlt hr32 bx ex
   have HST:=Hd hst
   rw [BB_def] at bx
   obtain ⟨bx0,bx1⟩:=bx
   have hsg:¬ IntKind.u64.signed = true:=by decide
   clear hst ex hcc
   go_wp2_with fail
   exact ⟨⟨i + 1,_,by go_num,HST.out⟩,by simp [intOf];omega⟩
  ·obtain rfl:i = n:=by omega
   obtain ⟨zs,hdz,hvz,hrz,hbz⟩:=HR.out.done hr32 HL.out m HM.out
   have HZ:=Hd hvz
   clear hvz
   go_wp2_with fail
   refine (trim_any _ _ _ zs _ hrz (by omega)).mono ?_
   rintro e w' ⟨j,hj,rfl,rfl,hvj,htj⟩
   have HV:=Hd hvj
   clear hvj
   go_wp2
   go_ret
   exact ⟨_,rfl,⟨_,_,_,_,rfl,hrz.take hj,hdz.take _,htj,HV.out.trans HZ.out,hj⟩,hbz⟩
theorem up_num (u:Value) (z:Int) (L m:Nat) (w:World) (h:Num w u z L) (hL:L <= 1048576) (hm:m <= 1048576) :
  Calls Tryz.prog 179 #[u,.int .i64 m] w fun e w'=>∃ v,e = .returned v /\ Num w' v (z * 2 ^ m) (L + m / 32 + 1) /\ Below w.heap.size w w':=by
 obtain ⟨A,n,c,xs,rfl,hr,hd,ht,rfl,hn⟩:=h
 by_cases hn0:n = 0
 ·have hz:val xs = 0:=by
   have:xs = []:=List.eq_nil_of_length_eq_zero (by rw [hr.1];exact hn0)
   rw [this];rfl
  rw [hz]
  subst hn0
  clear hz hr ht
  go_enter Tryz.func179,Tryz.ntmps179
  go_wp2_with fail
  go_ret
  exact ⟨_,rfl,⟨none,0,0,[],rfl,Row.nil_,Dig.nil,.inl rfl,by simp [val],Nat.zero_le _⟩,Below.refl _ _⟩
 ·refine (up_some A n c xs m w hr (by omega) hn0 hm hd).mono ?_
  rintro e w' ⟨v,he,hv,hb⟩
  exact ⟨v,he,hv.mono (by omega),hb⟩
end Go.Proofs.YtbajnceoolkckaaGreat
