/- Of the proof of RationalRounds: Lehmer, Diff. -/
import Derived.Test.YtbajnceoolkckaaGreatRd04
open Go.Lib renaming hid → Hd
set_option maxRecDepth 100000
set_option maxHeartbeats 16000000
namespace Go.Proofs.YtbajnceoolkckaaGreat
open Go.RowKit LM
theorem floor_split (A K:Int) (hK:0 < K) : A = K * (A / K) + A % K /\ 0 <= A % K /\ A % K < K:=
 ⟨(Int.mul_ediv_add_emod A K).symm,Int.emod_nonneg _ (by omega),Int.emod_lt_of_pos _ hK⟩
def comb (ev:Bool) (u A v B:Int) : Int:=if ev then v * B - u * A else u * A - v * B
theorem comb_not (ev:Bool) (u A v B:Int) : comb (!ev) u A v B = - comb ev u A v B:=by
 cases ev <;> simp [comb] <;> omega
theorem comb_step (ev:Bool) (u1 v1 u2 v2 q A B:Int) : comb ev (u1 + q * u2) A (v1 + q * v2) B = comb ev u1 A v1 B + q * comb ev u2 A v2 B:=by
 cases ev <;> simp [comb] <;> grind
structure Leh (A B K:Int) (ev:Bool) (x y u0 v0 u1 v1 u2 v2:Int) : Prop where
 hx:comb ev u1 (A / K) v1 (B / K) = x
 hy:comb (!ev) u2 (A / K) v2 (B / K) = y
 sx:v2 * x + v1 * y = A / K
 sy:u2 * x + u1 * y = B / K
 y0:0 <= y
 yx:y <= x
 b0:0 <= u0 /\ u0 < BB /\ 0 <= v0 /\ v0 < BB
 b1:0 <= u1 /\ u1 < BB /\ 0 <= v1 /\ v1 < BB
 b2:0 <= u2 /\ u2 <= v2 /\ 1 <= v2 /\ v1 <= v2 /\ v2 < 18446744073709551616
 us:1 <= u1 + u2 /\ u1 + u2 <= v1 + v2
 g2:Int.gcd (comb ev u1 A v1 B) (comb (!ev) u2 A v2 B) = Int.gcd A B
 p1:(v1 = 0 /\ comb (!ev) u2 A v2 B <= B) \/ comb ev u1 A v1 B <= B
 p0:v0 = 0 \/ (0 <= comb ev u1 A v1 B /\ comb ev u1 A v1 B < B /\ comb ev u1 A v1 B <= comb (!ev) u0 A v0 B /\ comb (!ev) u0 A v0 B <= B /\ Int.gcd (comb (!ev) u0 A v0 B) (comb ev u1 A v1 B) = Int.gcd A B)
theorem Leh.start {A B K:Int} (hB:0 <= B) (hK:0 < K) (hAB:B <= A) : Leh A B K false (A / K) (B / K) 0 0 1 0 0 1 where
 hx:=by simp [comb]
 hy:=by simp [comb]
 sx:=by simp
 sy:=by simp
 y0:=Int.ediv_nonneg hB (Int.le_of_lt hK)
 yx:=Int.ediv_le_ediv hK hAB
 b0:=by rw [BB_def];omega
 b1:=by rw [BB_def];omega
 b2:=by omega
 us:=by omega
 g2:=by simp [comb]
 p1:=.inl ⟨rfl,by simp [comb]⟩
 p0:=.inl rfl
theorem comb_floor (ev:Bool) (A B K u v:Int) (hK:0 < K) : comb ev u A v B = K * comb ev u (A / K) v (B / K) + comb ev u (A % K) v (B % K):=by
 obtain ⟨h1,-⟩:=floor_split A K hK
 obtain ⟨h2,-⟩:=floor_split B K hK
 generalize A / K = X at *
 generalize B / K = Y at *
 generalize A % K = a at *
 generalize B % K = b at *
 subst h1 h2
 cases ev <;> simp [comb] <;> grind
theorem comb_low (ev:Bool) (A B K u v V:Int) (hK:0 < K) (hu:0 <= u /\ u <= V) (hv:0 <= v /\ v <= V) : - (K * V) <= comb ev u (A % K) v (B % K) /\ (1 <= V -> - (K * V) < comb ev u (A % K) v (B % K)):=by
 obtain ⟨-,a0,a1⟩:=floor_split A K hK
 obtain ⟨-,c0,c1⟩:=floor_split B K hK
 generalize A % K = a at *
 generalize B % K = b at *
 have h1:0 <= u * a:=Int.mul_nonneg hu.1 a0
 have h2:0 <= v * b:=Int.mul_nonneg hv.1 c0
 have h3:u * a <= V * a:=Int.mul_le_mul_of_nonneg_right hu.2 a0
 have h4:v * b <= V * b:=Int.mul_le_mul_of_nonneg_right hv.2 c0
 have h5:V * a <= V * K:=Int.mul_le_mul_of_nonneg_left (Int.le_of_lt a1) (by omega)
 have h6:V * b <= V * K:=Int.mul_le_mul_of_nonneg_left (Int.le_of_lt c1) (by omega)
 rw [Int.mul_comm K V]
 constructor
 ·cases ev <;> simp [comb] <;> omega
 ·intro hV
  have h7:V * a < V * K:=Int.mul_lt_mul_of_pos_left a1 (by omega)
  have h8:V * b < V * K:=Int.mul_lt_mul_of_pos_left c1 (by omega)
  cases ev <;> simp [comb] <;> omega
theorem Leh.certain {A B K:Int} {ev:Bool} {x y u0 v0 u1 v1 u2 v2:Int} (h:Leh A B K ev x y u0 v0 u1 v1 u2 v2) (hK:0 < K) (c1:v2 <= y) (c2:v1 + v2 <= x - y) :
  0 <= comb (!ev) u2 A v2 B /\ comb (!ev) u2 A v2 B < comb ev u1 A v1 B:=by
 have hb1:=h.b1
 have hb2:=h.b2
 have hus:=h.us
 constructor
 ·rw [comb_floor _ _ _ K _ _ hK,h.hy]
  have h1:=(comb_low (!ev) A B K u2 v2 v2 hK ⟨hb2.1,hb2.2.1⟩ ⟨by omega,Int.le_refl _⟩).1
  have h2:K * v2 <= K * y:=Int.mul_le_mul_of_nonneg_left c1 (Int.le_of_lt hK)
  omega
 ·have e1:=comb_step ev u1 v1 u2 v2 1 A B
  have e2:=comb_step ev u1 v1 u2 v2 1 (A / K) (B / K)
  rw [Int.one_mul,Int.one_mul,Int.one_mul] at e1 e2
  have e3:=comb_not ev u2 A v2 B
  have e4:=comb_not ev u2 (A / K) v2 (B / K)
  have h1:=(comb_low ev A B K (u1 + u2) (v1 + v2) (v1 + v2) hK ⟨by omega,hus.2⟩ ⟨by omega,Int.le_refl _⟩).2 (by omega)
  have h2:=comb_floor ev A B K (u1 + u2) (v1 + v2) hK
  have hx:=h.hx
  have hy:=h.hy
  have h3:K * (v1 + v2) <= K * (comb ev (u1 + u2) (A / K) (v1 + v2) (B / K)):=Int.mul_le_mul_of_nonneg_left (by omega) (Int.le_of_lt hK)
  omega
theorem Leh.small {A B K:Int} {ev:Bool} {x y u0 v0 u1 v1 u2 v2:Int} (h:Leh A B K ev x y u0 v0 u1 v1 u2 v2) (hX:A / K < 18446744073709551616) (c1:v2 <= y) : v2 < BB:=by
 have hb1:=h.b1
 have hb2:=h.b2
 have hs:=h.sx
 have hyx:=h.yx
 have h1:0 <= v1 * y:=Int.mul_nonneg hb1.2.2.1 h.y0
 have h2:v2 * v2 <= v2 * x:=Int.mul_le_mul_of_nonneg_left (by omega) (by omega)
 by_cases hv:v2 < BB
 ·exact hv
 ·exfalso
  have h3:BB * BB <= v2 * v2:=Int.mul_le_mul (by omega) (by omega) (by decide) (by omega)
  generalize v2 * v2 = s at *
  generalize v2 * x = t at *
  generalize v1 * y = r at *
  have h4:BB * BB = 18446744073709551616:=by decide
  omega
theorem Leh.step {A B K:Int} {ev:Bool} {x y u0 v0 u1 v1 u2 v2:Int} (h:Leh A B K ev x y u0 v0 u1 v1 u2 v2) (hK:0 < K) (hX:A / K < 18446744073709551616) (c1:v2 <= y) (c2:v1 + v2 <= x - y) :
  1 <= x / y /\ (0 <= x / y * u2 /\ u1 + x / y * u2 < 18446744073709551616) /\ (0 <= x / y * v2 /\ v1 + x / y * v2 < 18446744073709551616) /\
  Leh A B K (!ev) y (x % y) u1 v1 u2 v2 (u1 + x / y * u2) (v1 + x / y * v2):=by
 have hv2:=h.small hX c1
 obtain ⟨k1,k2⟩:=h.certain hK c1 c2
 have hb1:=h.b1
 have hb2:=h.b2
 have hus:=h.us
 have hyx:=h.yx
 have hp1:=h.p1
 have hy1:0 < y:=by omega
 have hq:1 <= x / y:=by
  have:=Int.ediv_le_ediv hy1 hyx
  rw [Int.ediv_self (by omega)] at this
  exact this
 have hxy:=Int.mul_ediv_add_emod x y
 have hm0:0 <= x % y:=Int.emod_nonneg _ (by omega)
 have hm1:x % y < y:=Int.emod_lt_of_pos _ hy1
 have sx:=h.sx
 have sy:=h.sy
 obtain ⟨q,hqd⟩ : ∃ q,x / y = q:=⟨_,rfl⟩
 obtain ⟨m,hmd⟩ : ∃ m,x % y = m:=⟨_,rfl⟩
 rw [hqd,hmd] at hxy
 rw [hqd] at hq
 rw [hmd] at hm0 hm1
 rw [hqd,hmd]
 have nsx:(v1 + q * v2) * y + v2 * m = A / K:=by rw [<- sx,<- hxy];grind
 have nsy:(u1 + q * u2) * y + u2 * m = B / K:=by rw [<- sy,<- hxy];grind
 have hq2:u2 <= q * u2:=by
  have:1 * u2 <= q * u2:=Int.mul_le_mul_of_nonneg_right hq hb2.1
  omega
 have hq3:v2 <= q * v2:=by
  have:1 * v2 <= q * v2:=Int.mul_le_mul_of_nonneg_right hq (by omega)
  omega
 have hq4:q * u2 - u2 <= q * v2 - v2:=by
  have:(q - 1) * u2 <= (q - 1) * v2:=Int.mul_le_mul_of_nonneg_left hb2.2.1 (by omega)
  rw [Int.sub_mul,Int.sub_mul] at this
  omega
 have hbig:v1 + q * v2 <= A / K:=by
  have h1:(v1 + q * v2) * 1 <= (v1 + q * v2) * y:=Int.mul_le_mul_of_nonneg_left (by omega) (by omega)
  have h2:0 <= v2 * m:=Int.mul_nonneg (by omega) hm0
  omega
 have e1:=comb_step ev u1 v1 u2 v2 q A B
 have e2:=comb_step ev u1 v1 u2 v2 q (A / K) (B / K)
 have n1:=comb_not ev u2 A v2 B
 have n2:=comb_not ev u2 (A / K) v2 (B / K)
 have hx:=h.hx
 have hy:=h.hy
 have hg:=h.g2
 refine ⟨hq,⟨by omega,by omega⟩,⟨by omega,by omega⟩,?_⟩
 refine ⟨hy,?_,nsx,nsy,hm0,by omega,hb1,⟨hb2.1,by omega,by omega,hv2⟩,⟨by omega,by omega,by omega,by omega,by omega⟩,⟨by omega,by omega⟩,?_,?_,?_⟩
 ·rw [Bool.not_not,e2,hx]
  have:comb ev u2 (A / K) v2 (B / K) = - y:=by omega
  rw [this,Int.mul_neg,Int.mul_comm q y];omega
 ·rw [Bool.not_not,e1,<- hg]
  have:comb ev u2 A v2 B = - comb (!ev) u2 A v2 B:=by omega
  rw [this,Int.mul_neg,Int.gcd_comm,<- Int.sub_eq_add_neg,Int.mul_comm q,Int.gcd_sub_mul_left_left]
 ·right
  rcases hp1 with h1 | h1
  ·exact h1.2
  ·omega
 ·rw [Bool.not_not]
  rcases hp1 with h1 | h1
  ·exact .inl h1.1
  ·exact .inr ⟨k1,by omega,Int.le_of_lt k2,h1,hg⟩
theorem diff_step {ds xs ys:List Int} {k:Nat} {u v p m br x y s t:Int} (hl:ds.length = k) (hd:Dig ds) (hu:0 <= u /\ u < BB) (hv:0 <= v /\ v < BB) (hp:0 <= p /\ p < BB) (hm:0 <= m /\ m < BB) (hbr:0 <= br /\ br <= 1)
  (hx:0 <= x /\ x < BB) (hy:0 <= y /\ y < BB) (ex:xs.getD k 0 = x) (ey:ys.getD k 0 = y) (hs:p + u * x = s) (ht:m + v * y = t)
  (he:val ds + BB ^ k * (p - m - br) = u * val (xs.take k) - v * val (ys.take k)) :
  (0 <= s /\ s < 18446744073709551616) /\ (0 <= t /\ t < 18446744073709551616) /\ (0 <= s / BB /\ s / BB < BB) /\ (0 <= t / BB /\ t / BB < BB) /\ (0 <= borrowOf (s % BB) (t % BB) br /\ borrowOf (s % BB) (t % BB) br <= 1) /\ Dig (ds ++ [(s % BB - t % BB - br) % BB]) /\
   val (ds ++ [(s % BB - t % BB - br) % BB]) + BB ^ (k + 1) * (s / BB - t / BB - borrowOf (s % BB) (t % BB) br) = u * val (xs.take (k + 1)) - v * val (ys.take (k + 1)):=by
 have prod:∀ a b:Int,0 <= a /\ a < BB -> 0 <= b /\ b < BB -> 0 <= a * b /\ a * b <= 18446744065119617025:=by
  intro a b ha hb
  refine ⟨Int.mul_nonneg ha.1 hb.1,?_⟩
  rw [BB_def] at ha hb
  have h1:a * b <= 4294967295 * b:=Int.mul_le_mul_of_nonneg_right (by omega) hb.1
  omega
 have q1:=prod u x hu hx
 have q2:=prod v y hv hy
 have h0:0 <= s % BB /\ s % BB < BB:=⟨Int.emod_nonneg _ (by decide),Int.emod_lt_of_pos _ (by decide)⟩
 have h1:0 <= t % BB /\ t % BB < BB:=⟨Int.emod_nonneg _ (by decide),Int.emod_lt_of_pos _ (by decide)⟩
 have hq:(s % BB - t % BB - br) / BB = - borrowOf (s % BB) (t % BB) br:=by
  unfold borrowOf;generalize s % BB = a at *;generalize t % BB = b at *;rw [BB_def] at *;split <;> omega
 have hz:=digit_split (s % BB - t % BB - br)
 rw [hq] at hz
 have es:=digit_split s
 have et:=digit_split t
 refine ⟨by rw [BB_def] at *;omega,by rw [BB_def] at *;omega,by rw [BB_def] at *;omega,by rw [BB_def] at *;omega,?_,hd.snoc (Int.emod_nonneg _ (by decide)) (Int.emod_lt_of_pos _ (by decide)),?_⟩
 ·unfold borrowOf;split <;> omega
 ·rw [val_snoc,hl,val_take_succ,val_take_succ,ex,ey,Int.pow_succ]
  generalize (s % BB - t % BB - br) % BB = d at *
  generalize borrowOf (s % BB) (t % BB) br = br' at *
  generalize s % BB = a at *
  generalize t % BB = b at *
  generalize s / BB = a' at *
  generalize t / BB = b' at *
  have e1:d = a - b - br + BB * br':=by have:=hz;rw [Int.mul_neg] at this;omega
  have e2:a = p + u * x - BB * a':=by omega
  have e3:b = m + v * y - BB * b':=by omega
  have e4:val ds = u * val (xs.take k) - v * val (ys.take k) - BB ^ k * (p - m - br):=by omega
  rw [e1,e2,e3,e4]
  grind
theorem diff_done {ds:List Int} {N:Nat} {D r:Int} (hl:ds.length = N) (hd:Dig ds) (h0:0 <= D) (h1:D < BB ^ N) (he:val ds + BB ^ N * r = D) : val ds = D:=by
 have b:=val_bounds hd
 rw [hl] at b
 have h:r = 0:=by
  by_cases h:r = 0
  ·exact h
  ·exfalso
   rcases Int.lt_or_gt_of_ne h with h | h
   ·have:BB ^ N * r <= BB ^ N * (-1):=Int.mul_le_mul_of_nonneg_left (by omega) (Int.le_of_lt (BB_pos N))
    omega
   ·have:BB ^ N * 1 <= BB ^ N * r:=Int.mul_le_mul_of_nonneg_left (by omega) (Int.le_of_lt (BB_pos N))
    omega
 rw [h] at he;omega
theorem lead_math {l:List Int} {n s:Nat} (hd:Dig l) (hl:l.length <= n + 3) (hs:s < 32) :
  val l / (BB ^ n * 2 ^ (32 - s)) = (l.getD (n + 2) 0 * BB + l.getD (n + 1) 0) * 2 ^ s + l.getD n 0 / 2 ^ (32 - s):=by
 have e:val l = val (l.take n) + BB ^ n * (l.getD n 0 + BB * (l.getD (n + 2) 0 * BB + l.getD (n + 1) 0)):=by
  have h1:=val_take_succ l (n + 2)
  rw [List.take_of_length_le (by omega),val_take_succ,val_take_succ] at h1
  rw [h1,Int.pow_succ,Int.pow_succ]
  grind
 have b:=val_bounds (hd.take n)
 have hb:val (l.take n) < BB ^ n:=by
  have:BB ^ (l.take n).length <= BB ^ n:=pow_le (by rw [List.length_take];omega)
  omega
 have hp:=BB_pos n
 have e32:BB = 2 ^ (32 - s) * 2 ^ s:=by
  rw [<- Int.pow_add,show 32 - s + s = 32 from by omega];decide
 have h2:(0:Int) < 2 ^ (32 - s):=Int.pow_pos (by decide)
 rw [<- Int.ediv_ediv_of_nonneg (Int.le_of_lt hp),e,Int.add_mul_ediv_left _ _ (by omega),Int.ediv_eq_zero_of_lt b.1 hb,Int.zero_add]
 generalize l.getD (n + 2) 0 * BB + l.getD (n + 1) 0 = t
 have e3:BB * t = 2 ^ (32 - s) * (t * 2 ^ s):=by rw [e32];grind
 rw [e3,Int.add_mul_ediv_left _ _ (by omega),Int.add_comm]
def DiffRel (w wr:World) (N:Nat) (xs ys:List Int) (u v:Int) (k:Nat) (p m br:Int) : Prop:=
 k <= N /\ (0 <= p /\ p < BB) /\ (0 <= m /\ m < BB) /\ (0 <= br /\ br <= 1) /\ Below w.heap.size w wr /\ ∃ ds:List Int,ds.length = k /\ Dig ds /\ val ds + BB ^ k * (p - m - br) = u * val (xs.take k) - v * val (ys.take k) /\
  Own wr w.heap.size w.heap.size N (ds ++ List.replicate (N - k) 0)
theorem DiffRel.cells {w wr:World} {N:Nat} {xs ys:List Int} {u v:Int} {k:Nat} {p m br:Int} (h:DiffRel w wr N xs ys u v k p m br) (hk:k < N) :
  (∃ c,wr.cell? ⟨w.heap.size,k,none⟩ = some (.int .u32 c)) /\ wr.frozen? ⟨w.heap.size,k,none⟩ = false:=by
 obtain ⟨_,_,_,_,_,ds,_,_,_,ho⟩:=h
 exact ⟨⟨_,ho.cell hk⟩,ho.frozen k⟩
theorem DiffRel.step {w wr:World} {N:Nat} {xs ys:List Int} {u v:Int} {k:Nat} {p m br x y s t:Int} (h:DiffRel w wr N xs ys u v k p m br) (hk:k < N) (hu:0 <= u /\ u < BB) (hv:0 <= v /\ v < BB)
  (hx:0 <= x /\ x < BB) (hy:0 <= y /\ y < BB) (ex:xs.getD k 0 = x) (ey:ys.getD k 0 = y) (hs:p + u * x = s) (ht:m + v * y = t) :
  (0 <= u * x /\ u * x < 18446744073709551616) /\ (0 <= v * y /\ v * y < 18446744073709551616) /\ (0 <= s /\ s < 18446744073709551616) /\ (0 <= t /\ t < 18446744073709551616) /\ (0 <= s % 4294967296 /\ s % 4294967296 < 4294967296) /\ (0 <= t % 4294967296 /\ t % 4294967296 < 4294967296) /\
   DiffRel w (wr.setCell ⟨w.heap.size,k,none⟩ (.int .u32 ((s % 4294967296 - t % 4294967296 - br) % 4294967296))) N xs ys u v (k + 1) (s / 4294967296) (t / 4294967296) (borrowOf (s % 4294967296) (t % 4294967296) br):=by
 obtain ⟨_,hp,hm,hbr,hb,ds,hl,hd,he,ho⟩:=h
 obtain ⟨h1,h2,h3,h4,h5,h6,h7⟩:=diff_step hl hd hu hv hp hm hbr hx hy ex ey hs ht he
 have hset:=ho.set k ((s % 4294967296 - t % 4294967296 - br) % 4294967296)
 rw [set_zeros ds N k hl hk] at hset
 have hux:0 <= u * x:=Int.mul_nonneg hu.1 hx.1
 have hvy:0 <= v * y:=Int.mul_nonneg hv.1 hy.1
 exact ⟨⟨hux,by omega⟩,⟨hvy,by omega⟩,h1,h2,⟨Int.emod_nonneg _ (by decide),Int.emod_lt_of_pos _ (by decide)⟩,⟨Int.emod_nonneg _ (by decide),Int.emod_lt_of_pos _ (by decide)⟩,hk,h3,h4,h5,hb.setCell (Nat.le_refl _) _,_,by simp [hl],h6,h7,hset⟩
theorem DiffRel.done {w wr:World} {N:Nat} {xs ys:List Int} {u v:Int} {p m br:Int} (h:DiffRel w wr N xs ys u v N p m br) (hx:xs.length <= N) (hy:ys.length <= N) (hD0:0 <= u * val xs - v * val ys) (hD1:u * val xs - v * val ys < BB ^ N) :
  ∃ zs,Dig zs /\ val zs = u * val xs - v * val ys /\ Row .u32 wr (some ⟨w.heap.size,0,none⟩) N N zs /\ Below w.heap.size w wr:=by
 obtain ⟨_,hp,hm,hbr,hb,ds,hl,hd,he,ho⟩:=h
 rw [Nat.sub_self,List.replicate_zero,List.append_nil] at ho
 rw [List.take_of_length_le hx,List.take_of_length_le hy] at he
 exact ⟨ds,hd,diff_done hl hd hD0 hD1 he,ho.row,hb⟩
theorem difference_ge (A B:Option Addr) (n m c d:Nat) (xs ys:List Int) (u v:Int) (w:World) (h:Row .u32 w A n c xs) (g:Row .u32 w B m d ys) (hn:n <= 1048576) (hm:m <= 1048576) (hle:m <= n)
  (hdx:Dig xs) (hdy:Dig ys) (hu:0 <= u /\ u < BB) (hv:0 <= v /\ v < BB) (hD0:0 <= u * val xs - v * val ys) (hD1:u * val xs - v * val ys < BB ^ n) :
  Calls Tryz.prog 183 #[.int .u64 u,.slice A n c,.int .u64 v,.slice B m d] w fun e w'=>∃ r,e = .returned r /\ Num w' r (u * val xs - v * val ys) n /\ Below w.heap.size w w':=by
 obtain ⟨i0,hi,hz0,hz1,hz2⟩:=info_parts Tryz.info135
 have HH:=Hd h
 have HG:=Hd g
 have HL:=Hd h.1
 have GL:=Hd g.1
 have HU:=Hd hu
 have HV:=Hd hv
 have HD0:=Hd hD0
 have HD1:=Hd hD1
 rw [BB_def] at hu hv
 obtain ⟨hu0,hu1⟩:=hu
 obtain ⟨hv0,hv1⟩:=hv
 clear h g hD0 hD1
 go_enter Tryz.func183,Tryz.ntmps183
 go_wp2_with (at_make;refine wpList_make_full _ rfl _ _ 22 rfl w.heap.size 135 i0 (.int .u32 0) 1 Tryz.underlying22 hi hz0 hz1 _ _ _ _ n rfl rfl (by omega) (by omega) (by rw [hz2];omega) (by unfold maxLen;omega) (Nat.le_refl _) ?_;intro w1 hown hgrow)
 go_loopw [10,11,12,22] (fun pv mv bv iv wr=>∃ (k:Nat) (pp mm br:Int),iv = .int .i64 k /\ pv = .int .u64 pp /\ mv = .int .u64 mm /\ bv = .int .u32 br /\ DiffRel w wr n xs ys u v k pp mm br) (fun _ _ _ iv _=>n - (intOf iv).toNat)
 case atStart=>
  refine ⟨0,0,0,0,rfl,rfl,rfl,rfl,Nat.zero_le _,by decide,by decide,by decide,(Below.refl _ _).grown hgrow (Nat.le_refl _) (fun _ h=>by cases h),[],rfl,Dig.nil,by simp [val],?_⟩
  rw [zeros_made] at hown
  exact hown
 case round=>
  obtain ⟨k,pp,mm,br,rfl,rfl,rfl,rfl,hrel⟩:=hrel
  have HR:=Hd hrel
  by_cases hlt:k < n
  ·obtain ⟨⟨cu,hcu⟩,hf⟩:=hrel.cells hlt
   obtain ⟨hk,hp,hmm,hbr,hb,-⟩:=hrel
   obtain ⟨x,ex⟩ : ∃ x,xs.getD k 0 = x:=⟨_,rfl⟩
   obtain ⟨y,ey⟩ : ∃ y,ys.getD k 0 = y:=⟨_,rfl⟩
   have bx:=hdx.getD k
   have by':=hdy.getD k
   rw [ex] at bx
   rw [ey] at by'
   obtain ⟨s,hs⟩ : ∃ s,pp + u * x = s:=⟨_,rfl⟩
   obtain ⟨t,ht⟩ : ∃ t,mm + v * y = t:=⟨_,rfl⟩
   obtain ⟨⟨ux0,ux1⟩,⟨vy0,vy1⟩,⟨s0,s1⟩,⟨t0,t1⟩,⟨sl0,sl1⟩,⟨tl0,tl1⟩,hst⟩:=HR.out.step hlt HU.out HV.out bx by' ex ey hs ht
   have HST:=Hd hst
   have EX:=Hd ex
   have EY:=Hd ey
   rw [BB_def] at bx by' hp hmm
   obtain ⟨bx0,bx1⟩:=bx
   obtain ⟨by0,by1⟩:=by'
   obtain ⟨hp0,hp1⟩:=hp
   obtain ⟨hm0,hm1⟩:=hmm
   obtain ⟨hbr0,hbr1⟩:=hbr
   have HB:=Hd hb
   clear ex ey hst hb
   go_wp2_with fail
   refine (at_is A n c xs x k _ (HH.out.below HB.out) (by omega) (by omega) (by rw [Int.toNat_natCast];exact EX.out)).mono ?_
   rintro e w' ⟨rfl,rfl⟩
   go_wp2_with fail
   refine (at_is B m d ys y k _ (HG.out.below HB.out) (by omega) (by omega) (by rw [Int.toNat_natCast];exact EY.out)).mono ?_
   rintro e w' ⟨rfl,rfl⟩
   go_wp2_with fail
   refine (sub32_any (s % 4294967296) (t % 4294967296) br _ ⟨sl0,sl1⟩ ⟨tl0,tl1⟩ ⟨hbr0,hbr1⟩).mono ?_
   rintro e w' ⟨rfl,rfl⟩
   go_wp2_with fail
   exact ⟨⟨k + 1,_,_,_,by go_num,rfl,rfl,rfl,HST.out⟩,by simp [intOf];omega⟩
  ·obtain ⟨hk,-,-,-,-,-⟩:=hrel
   obtain rfl:k = n:=by omega
   obtain ⟨zs,hdz,hvz,hrz,hbz⟩:=HR.out.done (by rw [HL.out];omega) (by rw [GL.out];omega) HD0.out HD1.out
   have HZ:=Hd hvz
   clear hvz
   go_wp2_with fail
   refine (trim_any _ _ _ zs _ hrz (by omega)).mono ?_
   rintro e w' ⟨j,hj,rfl,rfl,hvj,htj⟩
   have HVJ:=Hd hvj
   clear hvj
   go_wp2
   go_ret
   exact ⟨_,rfl,⟨_,_,_,_,rfl,hrz.take hj,hdz.take _,htj,HVJ.out.trans HZ.out,hj⟩,hbz⟩
theorem difference_lt (A B:Option Addr) (n m c d:Nat) (xs ys:List Int) (u v:Int) (w:World) (h:Row .u32 w A n c xs) (g:Row .u32 w B m d ys) (hn:n <= 1048576) (hm:m <= 1048576) (hle:n < m)
  (hdx:Dig xs) (hdy:Dig ys) (hu:0 <= u /\ u < BB) (hv:0 <= v /\ v < BB) (hD0:0 <= u * val xs - v * val ys) (hD1:u * val xs - v * val ys < BB ^ m) :
  Calls Tryz.prog 183 #[.int .u64 u,.slice A n c,.int .u64 v,.slice B m d] w fun e w'=>∃ r,e = .returned r /\ Num w' r (u * val xs - v * val ys) m /\ Below w.heap.size w w':=by
 obtain ⟨i0,hi,hz0,hz1,hz2⟩:=info_parts Tryz.info135
 have HH:=Hd h
 have HG:=Hd g
 have HL:=Hd h.1
 have GL:=Hd g.1
 have HU:=Hd hu
 have HV:=Hd hv
 have HD0:=Hd hD0
 have HD1:=Hd hD1
 rw [BB_def] at hu hv
 obtain ⟨hu0,hu1⟩:=hu
 obtain ⟨hv0,hv1⟩:=hv
 clear h g hD0 hD1
 go_enter Tryz.func183,Tryz.ntmps183
 go_wp2_with (at_make;refine wpList_make_full _ rfl _ _ 22 rfl w.heap.size 135 i0 (.int .u32 0) 1 Tryz.underlying22 hi hz0 hz1 _ _ _ _ m rfl rfl (by omega) (by omega) (by rw [hz2];omega) (by unfold maxLen;omega) (Nat.le_refl _) ?_;intro w1 hown hgrow)
 go_loopw [10,11,12,22] (fun pv mv bv iv wr=>∃ (k:Nat) (pp mm br:Int),iv = .int .i64 k /\ pv = .int .u64 pp /\ mv = .int .u64 mm /\ bv = .int .u32 br /\ DiffRel w wr m xs ys u v k pp mm br) (fun _ _ _ iv _=>m - (intOf iv).toNat)
 case atStart=>
  refine ⟨0,0,0,0,rfl,rfl,rfl,rfl,Nat.zero_le _,by decide,by decide,by decide,(Below.refl _ _).grown hgrow (Nat.le_refl _) (fun _ h=>by cases h),[],rfl,Dig.nil,by simp [val],?_⟩
  rw [zeros_made] at hown
  exact hown
 case round=>
  obtain ⟨k,pp,mm,br,rfl,rfl,rfl,rfl,hrel⟩:=hrel
  have HR:=Hd hrel
  by_cases hlt:k < m
  ·obtain ⟨⟨cu,hcu⟩,hf⟩:=hrel.cells hlt
   obtain ⟨hk,hp,hmm,hbr,hb,-⟩:=hrel
   obtain ⟨x,ex⟩ : ∃ x,xs.getD k 0 = x:=⟨_,rfl⟩
   obtain ⟨y,ey⟩ : ∃ y,ys.getD k 0 = y:=⟨_,rfl⟩
   have bx:=hdx.getD k
   have by':=hdy.getD k
   rw [ex] at bx
   rw [ey] at by'
   obtain ⟨s,hs⟩ : ∃ s,pp + u * x = s:=⟨_,rfl⟩
   obtain ⟨t,ht⟩ : ∃ t,mm + v * y = t:=⟨_,rfl⟩
   obtain ⟨⟨ux0,ux1⟩,⟨vy0,vy1⟩,⟨s0,s1⟩,⟨t0,t1⟩,⟨sl0,sl1⟩,⟨tl0,tl1⟩,hst⟩:=HR.out.step hlt HU.out HV.out bx by' ex ey hs ht
   have HST:=Hd hst
   have EX:=Hd ex
   have EY:=Hd ey
   rw [BB_def] at bx by' hp hmm
   obtain ⟨bx0,bx1⟩:=bx
   obtain ⟨by0,by1⟩:=by'
   obtain ⟨hp0,hp1⟩:=hp
   obtain ⟨hm0,hm1⟩:=hmm
   obtain ⟨hbr0,hbr1⟩:=hbr
   have HB:=Hd hb
   clear ex ey hst hb
   go_wp2_with fail
   refine (at_is A n c xs x k _ (HH.out.below HB.out) (by omega) (by omega) (by rw [Int.toNat_natCast];exact EX.out)).mono ?_
   rintro e w' ⟨rfl,rfl⟩
   go_wp2_with fail
   refine (at_is B m d ys y k _ (HG.out.below HB.out) (by omega) (by omega) (by rw [Int.toNat_natCast];exact EY.out)).mono ?_
   rintro e w' ⟨rfl,rfl⟩
   go_wp2_with fail
   refine (sub32_any (s % 4294967296) (t % 4294967296) br _ ⟨sl0,sl1⟩ ⟨tl0,tl1⟩ ⟨hbr0,hbr1⟩).mono ?_
   rintro e w' ⟨rfl,rfl⟩
   go_wp2_with fail
   exact ⟨⟨k + 1,_,_,_,by go_num,rfl,rfl,rfl,HST.out⟩,by simp [intOf];omega⟩
  ·obtain ⟨hk,-,-,-,-,-⟩:=hrel
   obtain rfl:k = m:=by omega
   obtain ⟨zs,hdz,hvz,hrz,hbz⟩:=HR.out.done (by rw [HL.out];omega) (by rw [GL.out];omega) HD0.out HD1.out
   have HZ:=Hd hvz
   clear hvz
   go_wp2_with fail
   refine (trim_any _ _ _ zs _ hrz (by omega)).mono ?_
   rintro e w' ⟨j,hj,rfl,rfl,hvj,htj⟩
   have HVJ:=Hd hvj
   clear hvj
   go_wp2
   go_ret
   exact ⟨_,rfl,⟨_,_,_,_,rfl,hrz.take hj,hdz.take _,htj,HVJ.out.trans HZ.out,hj⟩,hbz⟩
theorem difference_num (a b:Value) (x y u v:Int) (L M:Nat) (w:World) (h:Num w a x L) (g:Num w b y M) (hL:L <= 1048576) (hM:M <= 1048576) (hu:0 <= u /\ u < BB) (hv:0 <= v /\ v < BB) (hD0:0 <= u * x - v * y) (hD1:u * x - v * y <= max x y) :
  Calls Tryz.prog 183 #[.int .u64 u,a,.int .u64 v,b] w fun e w'=>∃ r,e = .returned r /\ Num w' r (u * x - v * y) (max L M) /\ Below w.heap.size w w':=by
 obtain ⟨A,n,c,xs,rfl,hr,hd,_,rfl,hn⟩:=h
 obtain ⟨B,m,d,ys,rfl,gr,gd,_,rfl,hm⟩:=g
 have bx:=(val_bounds hd).2
 have by':=(val_bounds gd).2
 rw [hr.1] at bx
 rw [gr.1] at by'
 rcases Nat.lt_or_ge n m with hnm | hnm
 ·have hp:BB ^ n <= BB ^ m:=pow_le (by omega)
  refine (difference_lt A B n m c d xs ys u v w hr gr (by omega) (by omega) hnm hd gd hu hv hD0 (by omega)).mono ?_
  rintro e w' ⟨r,he,hr,hb⟩
  exact ⟨r,he,hr.mono (by omega),hb⟩
 ·have hp:BB ^ m <= BB ^ n:=pow_le hnm
  refine (difference_ge A B n m c d xs ys u v w hr gr (by omega) (by omega) hnm hd gd hu hv hD0 (by omega)).mono ?_
  rintro e w' ⟨r,he,hr,hb⟩
  exact ⟨r,he,hr.mono (by omega),hb⟩
end Go.Proofs.YtbajnceoolkckaaGreat
