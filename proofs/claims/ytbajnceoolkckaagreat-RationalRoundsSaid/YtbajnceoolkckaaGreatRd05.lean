/- Of the proof of RationalRounds: Knuth, Long1. -/
import Derived.Test.YtbajnceoolkckaaGreatRd04
open List renaming set_cons_zero → cZ
open Go.Lib renaming hid → Hd
set_option maxRecDepth 100000
set_option maxHeartbeats 16000000
namespace Go.Proofs.YtbajnceoolkckaaGreat
open Go.RowKit LM
def GuessIn (P b V1 V2 T U2 W:Int) : Prop:=
 0 < W /\ (BB <= 2 * V1 /\ V1 < BB) /\ (0 <= V2 /\ V2 < BB) /\ 0 <= T /\ (0 <= U2 /\ U2 < BB) /\ (V1 * BB + V2) * W <= b /\ b <= (V1 * BB + V2 + 1) * W /\
  (T * BB + U2) * W <= P /\ P < (T * BB + U2 + 1) * W /\ P < BB * b
theorem GuessIn.top {P b V1 V2 T U2 W:Int} (h:GuessIn P b V1 V2 T U2 W) : T <= V1 * BB + V2:=by
 obtain ⟨hW,hV1,hV2,hT,hU2,hb1,hb2,hP1,hP2,hq⟩:=h
 have h1:BB * b <= BB * ((V1 * BB + V2 + 1) * W):=Int.mul_le_mul_of_nonneg_left hb2 (by decide)
 rw [<- Int.mul_assoc] at h1
 have h2:(T * BB + U2) * W < BB * (V1 * BB + V2 + 1) * W:=by omega
 have h3:=Int.lt_of_mul_lt_mul_right h2 (Int.le_of_lt hW)
 rw [BB_def] at *
 omega
def GuessRel (P b V1 T d r:Int) : Prop:=d * V1 + r = T /\ 0 <= r /\ 0 <= d /\ P < (d + 1) * b
theorem GuessIn.first {P b V1 V2 T U2 W:Int} (h:GuessIn P b V1 V2 T U2 W) : GuessRel P b V1 T (T / V1) (T % V1):=by
 obtain ⟨hW,hV1,hV2,hT,hU2,hb1,hb2,hP1,hP2,hq⟩:=h
 have hv:0 < V1:=by rw [BB_def] at *;omega
 have hd:0 <= T / V1:=Int.ediv_nonneg hT (by omega)
 refine ⟨by rw [Int.mul_comm];exact Int.mul_ediv_add_emod T V1,Int.emod_nonneg _ (by omega),hd,?_⟩
 have h1:=Int.lt_ediv_add_one_mul_self T hv
 generalize T / V1 = d at *
 have h2:T * BB + U2 + 1 <= (d + 1) * (V1 * BB + V2):=by
  have h3:(d + 1) * (V1 * BB + V2) = (d + 1) * V1 * BB + (d + 1) * V2:=by rw [Int.mul_add,Int.mul_assoc]
  have h4:0 <= (d + 1) * V2:=Int.mul_nonneg (by omega) hV2.1
  generalize (d + 1) * V1 = s at *
  rw [BB_def] at *
  omega
 have h5:(T * BB + U2 + 1) * W <= (d + 1) * (V1 * BB + V2) * W:=Int.mul_le_mul_of_nonneg_right h2 (Int.le_of_lt hW)
 have h6:(d + 1) * ((V1 * BB + V2) * W) <= (d + 1) * b:=Int.mul_le_mul_of_nonneg_left hb1 (by omega)
 rw [<- Int.mul_assoc] at h6
 omega
theorem GuessIn.low {P b V1 V2 T U2 W d r:Int} (h:GuessIn P b V1 V2 T U2 W) (g:GuessRel P b V1 T d r) (hc:BB <= d \/ r * BB + U2 < d * V2) : 1 <= d /\ P < d * b:=by
 obtain ⟨hW,hV1,hV2,hT,hU2,hb1,hb2,hP1,hP2,hq⟩:=h
 obtain ⟨g1,g2,g3,g4⟩:=g
 have hb0:0 <= b:=by
  have:0 <= (V1 * BB + V2) * W:=Int.mul_nonneg (by rw [BB_def] at *;omega) (Int.le_of_lt hW)
  omega
 rcases hc with hc | hc
 ·refine ⟨by rw [BB_def] at *;omega,?_⟩
  have h1:BB * b <= d * b:=Int.mul_le_mul_of_nonneg_right hc hb0
  omega
 ·have hd:1 <= d:=by
   rcases Int.lt_or_eq_of_le g3 with h | h
   ·omega
   ·subst h;rw [BB_def] at *;omega
  refine ⟨hd,?_⟩
  have h1:T * BB + U2 + 1 <= d * (V1 * BB + V2):=by
   have h2:d * (V1 * BB + V2) = d * V1 * BB + d * V2:=by rw [Int.mul_add,Int.mul_assoc]
   generalize d * V1 = s at *
   rw [BB_def] at *
   omega
  have h5:(T * BB + U2 + 1) * W <= d * (V1 * BB + V2) * W:=Int.mul_le_mul_of_nonneg_right h1 (Int.le_of_lt hW)
  have h6:d * ((V1 * BB + V2) * W) <= d * b:=Int.mul_le_mul_of_nonneg_left hb1 (by omega)
  rw [<- Int.mul_assoc] at h6
  omega
theorem GuessRel.less {P b V1 T d r:Int} (g:GuessRel P b V1 T d r) (hV:0 <= V1) (h:1 <= d /\ P < d * b) : GuessRel P b V1 T (d - 1) (r + V1):=by
 obtain ⟨g1,g2,g3,g4⟩:=g
 refine ⟨?_,by omega,by omega,by rw [Int.sub_add_cancel];exact h.2⟩
 rw [Int.sub_mul];omega
def Guessed (P b d:Int) : Prop:=(0 <= d /\ d < BB) /\ (d - 1) * b <= P /\ P < (d + 1) * b
theorem GuessIn.high {P b V1 V2 T U2 W d r:Int} (h:GuessIn P b V1 V2 T U2 W) (g:GuessRel P b V1 T d r) (hd:d < BB) (hc:d * V2 <= r * BB + U2) : Guessed P b d:=by
 obtain ⟨hW,hV1,hV2,hT,hU2,hb1,hb2,hP1,hP2,hq⟩:=h
 obtain ⟨g1,g2,g3,g4⟩:=g
 refine ⟨⟨g3,hd⟩,?_,g4⟩
 have h1:d * (V1 * BB + V2) <= T * BB + U2:=by
  have h2:d * (V1 * BB + V2) = d * V1 * BB + d * V2:=by rw [Int.mul_add,Int.mul_assoc]
  generalize d * V1 = s at *
  rw [BB_def] at *
  omega
 have h2:d * W <= b:=by
  have h3:d * W <= (V1 * BB + V2) * W:=Int.mul_le_mul_of_nonneg_right (by rw [BB_def] at *;omega) (Int.le_of_lt hW)
  omega
 have h3:d * b <= d * ((V1 * BB + V2 + 1) * W):=Int.mul_le_mul_of_nonneg_left hb2 g3
 have h4:d * ((V1 * BB + V2 + 1) * W) = d * (V1 * BB + V2) * W + d * W:=by
  rw [Int.add_mul,Int.one_mul,Int.mul_add,Int.mul_assoc]
 have h5:d * (V1 * BB + V2) * W <= (T * BB + U2) * W:=Int.mul_le_mul_of_nonneg_right h1 (Int.le_of_lt hW)
 have h6:(d - 1) * b = d * b - b:=by rw [Int.sub_mul,Int.one_mul]
 omega
theorem GuessIn.broken {P b V1 V2 T U2 W d r:Int} (h:GuessIn P b V1 V2 T U2 W) (g:GuessRel P b V1 T d r) (hr:BB <= r) : Guessed P b d:=by
 have ht:=h.top
 have hd:d < BB:=by
  obtain ⟨hW,hV1,hV2,hT,hU2,-⟩:=h
  obtain ⟨g1,g2,g3,g4⟩:=g
  by_cases h:d < BB
  ·exact h
  ·exfalso
   have h:=Int.not_lt.1 h
   have h1:BB * V1 <= d * V1:=Int.mul_le_mul_of_nonneg_right h (by rw [BB_def] at *;omega)
   generalize d * V1 = s at *
   rw [BB_def] at *
   omega
 refine h.high g hd ?_
 obtain ⟨hW,hV1,hV2,hT,hU2,-⟩:=h
 obtain ⟨g1,g2,g3,g4⟩:=g
 have h1:d * V2 <= BB * V2:=Int.mul_le_mul_of_nonneg_right (Int.le_of_lt hd) hV2.1
 generalize d * V2 = s at *
 rw [BB_def] at *
 omega
theorem GuessRel.bound {P b V1 V2 T U2 W d r:Int} (h:GuessIn P b V1 V2 T U2 W) (g:GuessRel P b V1 T d r) : d <= BB + 1:=by
 have ht:=h.top
 obtain ⟨hW,hV1,hV2,hT,hU2,-⟩:=h
 obtain ⟨g1,g2,g3,g4⟩:=g
 by_cases h:BB + 1 < d
 ·exfalso
  have h1:(BB + 2) * V1 <= d * V1:=Int.mul_le_mul_of_nonneg_right (by omega) (by rw [BB_def] at *;omega)
  generalize d * V1 = s at *
  rw [BB_def] at *
  omega
 ·omega
theorem val_top3 (l:List Int) (k:Nat) (h:l.length = k + 3) : val l = val (l.take k) + BB ^ k * ((l.getD (k + 2) 0 * BB + l.getD (k + 1) 0) * BB + l.getD k 0):=by
 have e:l.take (k + 2 + 1) = l:=List.take_of_length_le (by omega)
 have h1:=val_take_succ l (k + 2)
 rw [e,val_take_succ,val_take_succ] at h1
 rw [h1,Int.pow_succ,Int.pow_succ]
 grind
theorem val_top2 (l:List Int) (k:Nat) (h:l.length = k + 2) : val l = val (l.take k) + BB ^ k * (l.getD (k + 1) 0 * BB + l.getD k 0):=by
 have e:l.take (k + 1 + 1) = l:=List.take_of_length_le (by omega)
 have h1:=val_take_succ l (k + 1)
 rw [e,val_take_succ] at h1
 rw [h1,Int.pow_succ]
 grind
theorem GuessIn.of {ps bs:List Int} {k:Nat} (hp:ps.length = k + 3) (hb:bs.length = k + 2) (dp:Dig ps) (db:Dig bs) (htop:BB <= 2 * bs.getD (k + 1) 0) (hlt:val ps < BB * val bs) :
  GuessIn (val ps) (val bs) (bs.getD (k + 1) 0) (bs.getD k 0) (ps.getD (k + 2) 0 * BB + ps.getD (k + 1) 0) (ps.getD k 0) (BB ^ k):=by
 have e1:=val_top3 ps k hp
 have e2:=val_top2 bs k hb
 have b1:=val_bounds (dp.take k)
 have b2:=val_bounds (db.take k)
 rw [List.length_take,Nat.min_eq_left (by omega)] at b1 b2
 have c0:=dp.getD k
 have c1:=dp.getD (k + 1)
 have c2:=dp.getD (k + 2)
 have d0:=db.getD k
 have d1:=db.getD (k + 1)
 refine ⟨BB_pos k,⟨htop,d1.2⟩,d0,by rw [BB_def] at *;omega,c0,?_,?_,?_,?_,hlt⟩
 ·rw [e2,Int.mul_comm _ (BB ^ k)];omega
 ·rw [e2,Int.mul_comm _ (BB ^ k),Int.mul_add (BB ^ k) _ 1];omega
 ·rw [e1,Int.mul_comm _ (BB ^ k)];omega
 ·rw [e1,Int.mul_comm _ (BB ^ k),Int.mul_add (BB ^ k) _ 1];omega
theorem take_step {ds ps ys:List Int} {k:Nat} {d c br x y s:Int} (hl:ds.length = k) (hd:Dig ds) (hdd:0 <= d /\ d < BB) (hc:0 <= c /\ c < BB) (hbr:0 <= br /\ br <= 1)
  (hx:0 <= x /\ x < BB) (hy:0 <= y /\ y < BB) (ex:ps.getD k 0 = x) (ey:ys.getD k 0 = y) (hs:c + y * d = s)
  (hv:val ds = val (ps.take k) - d * val (ys.take k) + BB ^ k * (c + br)) :
  (0 <= s /\ s < 18446744073709551616) /\ (0 <= s / BB /\ s / BB < BB) /\ (0 <= s % BB /\ s % BB < BB) /\ Dig (ds ++ [(x - s % BB - br) % BB]) /\ (0 <= borrowOf x (s % BB) br /\ borrowOf x (s % BB) br <= 1) /\
   val (ds ++ [(x - s % BB - br) % BB]) = val (ps.take (k + 1)) - d * val (ys.take (k + 1)) + BB ^ (k + 1) * (s / BB + borrowOf x (s % BB) br):=by
 have hp:0 <= y * d /\ y * d <= 18446744065119617025:=by
  refine ⟨Int.mul_nonneg hy.1 hdd.1,?_⟩
  rw [BB_def] at hy hdd
  have h1:y * d <= 4294967295 * d:=Int.mul_le_mul_of_nonneg_right (by omega) hdd.1
  omega
 have h0:0 <= s % BB /\ s % BB < BB:=⟨Int.emod_nonneg _ (by decide),Int.emod_lt_of_pos _ (by decide)⟩
 have hq:(x - s % BB - br) / BB = - borrowOf x (s % BB) br:=by
  unfold borrowOf;generalize s % BB = t at *;rw [BB_def] at *;split <;> omega
 have hz:=digit_split (x - s % BB - br)
 rw [hq] at hz
 have hsp:=digit_split s
 refine ⟨by rw [BB_def] at *;omega,?_,h0,hd.snoc (Int.emod_nonneg _ (by decide)) (Int.emod_lt_of_pos _ (by decide)),?_,?_⟩
 ·rw [BB_def] at *;omega
 ·unfold borrowOf;split <;> omega
 ·rw [val_snoc,hl,val_take_succ,val_take_succ,ex,ey,hv,Int.mul_add d,Int.pow_succ]
  generalize (x - s % BB - br) % BB = t at *
  generalize borrowOf x (s % BB) br = br' at *
  generalize s % BB = lo at *
  generalize s / BB = hi at *
  have e1:t = x - lo - br + BB * br':=by have:=hz;rw [Int.mul_neg] at this;omega
  have e2:lo = c + y * d - BB * hi:=by omega
  rw [e1,e2]
  grind
theorem take_last {ds ps ys:List Int} {k:Nat} {d c br x:Int} (hl:ds.length = k) (hd:Dig ds) (hc:0 <= c /\ c < BB) (hbr:0 <= br /\ br <= 1)
  (hx:0 <= x /\ x < BB) (ex:ps.getD k 0 = x) (hv:val ds = val (ps.take k) - d * val ys + BB ^ k * (c + br)) :
  Dig (ds ++ [(x - c - br) % BB]) /\ (0 <= borrowOf x c br /\ borrowOf x c br <= 1) /\
   val (ds ++ [(x - c - br) % BB]) = val (ps.take (k + 1)) - d * val ys + BB ^ (k + 1) * borrowOf x c br:=by
 have hq:(x - c - br) / BB = - borrowOf x c br:=by
  unfold borrowOf;rw [BB_def] at *;split <;> omega
 have hz:=digit_split (x - c - br)
 rw [hq] at hz
 refine ⟨hd.snoc (Int.emod_nonneg _ (by decide)) (Int.emod_lt_of_pos _ (by decide)),?_,?_⟩
 ·unfold borrowOf;split <;> omega
 ·rw [val_snoc,hl,val_take_succ,ex,hv,Int.pow_succ]
  generalize (x - c - br) % BB = t at *
  generalize borrowOf x c br = br' at *
  have e1:t = x - c - br + BB * br':=by have:=hz;rw [Int.mul_neg] at this;omega
  rw [e1]
  grind
theorem put_step {ds ps ys:List Int} {k:Nat} {c x y s:Int} (hl:ds.length = k) (hd:Dig ds) (hc:0 <= c /\ c <= 1)
  (hx:0 <= x /\ x < BB) (hy:0 <= y /\ y < BB) (ex:ps.getD k 0 = x) (ey:ys.getD k 0 = y) (hs:x + y + c = s)
  (hv:val ds + BB ^ k * c = val (ps.take k) + val (ys.take k)) :
  (0 <= s / BB /\ s / BB <= 1) /\ Dig (ds ++ [s % BB]) /\ val (ds ++ [s % BB]) + BB ^ (k + 1) * (s / BB) = val (ps.take (k + 1)) + val (ys.take (k + 1)):=by
 refine ⟨by rw [BB_def] at *;omega,hd.snoc (Int.emod_nonneg _ (by decide)) (Int.emod_lt_of_pos _ (by decide)),?_⟩
 rw [val_snoc,hl,val_take_succ,val_take_succ,ex,ey,Int.add_assoc,pow_split,digit_split,<- hs,Int.mul_add,Int.mul_add]
 omega
theorem put_last {ds ps ys:List Int} {k:Nat} {c x:Int} (hl:ds.length = k) (hd:Dig ds) (ex:ps.getD k 0 = x)
  (hv:val ds + BB ^ k * c = val (ps.take k) + val ys) :
  Dig (ds ++ [(x + c) % BB]) /\ val (ds ++ [(x + c) % BB]) = (val (ps.take (k + 1)) + val ys) % BB ^ (k + 1):=by
 have hd':Dig (ds ++ [(x + c) % BB]):=hd.snoc (Int.emod_nonneg _ (by decide)) (Int.emod_lt_of_pos _ (by decide))
 refine ⟨hd',?_⟩
 have b:=val_bounds hd'
 rw [List.length_append,hl,List.length_singleton] at b
 have e1:=pow_split k ((x + c) % BB) ((x + c) / BB)
 rw [digit_split] at e1
 have e2:val (ps.take (k + 1)) + val ys = val (ds ++ [(x + c) % BB]) + BB ^ (k + 1) * ((x + c) / BB):=by
  rw [val_snoc,hl,val_take_succ,ex]
  have:=Int.mul_add (BB ^ k) x c
  omega
 rw [e2,Int.add_mul_emod_self_left,Int.emod_eq_of_lt b.1 b.2]
theorem Guessed.taken {P b d Z br B:Int} (hB:b < B) (hP:0 <= P) (g:Guessed P b d) (_hb:0 < b) (hZ:0 <= Z /\ Z < B) (hbr:0 <= br /\ br <= 1) (hv:Z = P - d * b + B * br) :
  (br = 0 /\ 0 <= Z /\ Z < b) \/ (br = 1 /\ 1 <= d /\ (Z + b) % B = P - (d - 1) * b /\ 0 <= P - (d - 1) * b /\ P - (d - 1) * b < b):=by
 obtain ⟨hd,h1,h2⟩:=g
 have e1:(d - 1) * b = d * b - b:=by rw [Int.sub_mul,Int.one_mul]
 have e2:(d + 1) * b = d * b + b:=by rw [Int.add_mul,Int.one_mul]
 rw [e1] at h1
 rw [e2] at h2
 have h3:br = 0 \/ br = 1:=by omega
 rcases h3 with rfl | rfl
 ·left;rw [Int.mul_zero] at hv;refine ⟨rfl,?_,?_⟩ <;> omega
 ·right
  rw [Int.mul_one] at hv
  have hd1:1 <= d:=by
   by_cases h:d = 0
   ·subst h;rw [Int.zero_mul] at *;omega
   ·omega
  refine ⟨rfl,hd1,?_,by omega,by omega⟩
  have e3:Z + b = (P - (d - 1) * b) + B * 1:=by omega
  rw [e3,Int.add_mul_emod_self_left,Int.emod_eq_of_lt (by omega) (by omega)]
def partOf (rs:List Int) (j n:Nat) : List Int:=(rs.drop j).take (n + 1)
theorem partOf.length {rs:List Int} {j n N:Nat} (h:rs.length = N) (hj:j + n + 1 <= N) : (partOf rs j n).length = n + 1:=by
 unfold partOf;rw [List.length_take,List.length_drop];omega
theorem partOf.dig {rs:List Int} (h:Dig rs) (j n:Nat) : Dig (partOf rs j n):=(h.drop j).take _
theorem partOf.getD (rs:List Int) {j n k:Nat} (hk:k < n + 1) : (partOf rs j n).getD k 0 = rs.getD (j + k) 0:=by
 unfold partOf
 simp [List.getD,hk]
theorem long_part {rs:List Int} {n j N:Nat} {b:Int} (hlen:rs.length = N) (hj:j + n + 1 <= N) (dr:Dig rs) (hbn:b <= BB ^ n) (hR:val rs < b * BB ^ (j + 1)) :
  val rs = val (rs.take j) + BB ^ j * val (partOf rs j n) /\ val (partOf rs j n) < BB * b /\ val (rs.drop (j + n + 1)) = 0:=by
 have e1:=val_split rs j (by omega)
 have e2:=val_split (rs.drop j) (n + 1) (by rw [List.length_drop];omega)
 rw [List.drop_drop,show j + (n + 1) = j + n + 1 from rfl] at e2
 have b1:=val_bounds (dr.take j)
 have b2:=val_bounds ((dr.drop j).take (n + 1))
 have b3:=val_bounds (dr.drop (j + n + 1))
 have hp:=BB_pos j
 have hp1:=BB_pos (n + 1)
 have hz:val (rs.drop (j + n + 1)) = 0:=by
  by_cases h:val (rs.drop (j + n + 1)) = 0
  ·exact h
  ·exfalso
   have h1:BB ^ (n + 1) * 1 <= BB ^ (n + 1) * val (rs.drop (j + n + 1)):=Int.mul_le_mul_of_nonneg_left (by omega) (Int.le_of_lt hp1)
   have h2:BB ^ j * BB ^ (n + 1) <= BB ^ j * val (rs.drop j):=Int.mul_le_mul_of_nonneg_left (by omega) (Int.le_of_lt hp)
   have h3:b * BB ^ (j + 1) <= BB ^ n * BB ^ (j + 1):=Int.mul_le_mul_of_nonneg_right hbn (Int.le_of_lt (BB_pos _))
   have h4:BB ^ n * BB ^ (j + 1) = BB ^ j * BB ^ (n + 1):=by rw [<- Int.pow_add,<- Int.pow_add];congr 1;omega
   omega
 rw [hz,Int.mul_zero,Int.add_zero] at e2
 rw [e2] at e1
 refine ⟨e1,?_,hz⟩
 have h5:BB ^ j * val ((rs.drop j).take (n + 1)) < BB ^ j * (BB * b):=by
  have:b * BB ^ (j + 1) = BB ^ j * (BB * b):=by rw [Int.pow_succ];grind
  omega
 exact Int.lt_of_mul_lt_mul_left h5 (Int.le_of_lt hp)
theorem long_step {rs zs:List Int} {n j N:Nat} {a b Q d:Int} (hlen:rs.length = N) (hj:j + n + 1 <= N) (dr:Dig rs) (hbn:b <= BB ^ n) (hR:val rs < b * BB ^ (j + 1))
  (ha:a = b * (BB ^ (j + 1) * Q) + val rs) (hzl:zs.length = n + 1) (dz:Dig zs) (hz:val zs = val (partOf rs j n) - d * b) (hz1:val zs < b) :
  (rs.take j ++ (zs ++ rs.drop (j + n + 1))).length = N /\ Dig (rs.take j ++ (zs ++ rs.drop (j + n + 1))) /\ val (rs.take j ++ (zs ++ rs.drop (j + n + 1))) < b * BB ^ j /\
   a = b * (BB ^ j * (d + BB * Q)) + val (rs.take j ++ (zs ++ rs.drop (j + n + 1))):=by
 obtain ⟨e1,h2,h3⟩:=long_part hlen hj dr hbn hR
 have ht:(rs.take j).length = j:=by rw [List.length_take];omega
 have ev:val (rs.take j ++ (zs ++ rs.drop (j + n + 1))) = val (rs.take j) + BB ^ j * val zs:=by
  rw [val_append,val_append,h3,ht];simp
 have b1:=val_bounds (dr.take j)
 rw [ht] at b1
 have hp:=BB_pos j
 refine ⟨by simp [List.length_drop,ht,hzl];omega,(dr.take j).append (dz.append (dr.drop _)),?_,?_⟩
 ·rw [ev]
  have:BB ^ j * val zs <= BB ^ j * (b - 1):=Int.mul_le_mul_of_nonneg_left (by omega) (Int.le_of_lt hp)
  rw [Int.mul_sub,Int.mul_one,Int.mul_comm _ b] at this
  omega
 ·rw [ev,hz,ha,e1,Int.pow_succ];grind
theorem long_start {a b:Int} {m n:Nat} (ha:a < BB ^ m) (hb:BB ^ (n - 1) <= b) (hn:1 <= n) (hnm:n <= m) {s:Int} (hs:0 < s) : a * s < b * s * BB ^ (m - n + 1):=by
 have h1:BB ^ m = BB ^ (n - 1) * BB ^ (m - n + 1):=by rw [<- Int.pow_add];congr 1;omega
 have h2:BB ^ (n - 1) * BB ^ (m - n + 1) <= b * BB ^ (m - n + 1):=Int.mul_le_mul_of_nonneg_right hb (Int.le_of_lt (BB_pos _))
 have h3:a * s < b * BB ^ (m - n + 1) * s:=Int.mul_lt_mul_of_pos_right (by omega) hs
 rw [Int.mul_right_comm] at h3
 exact h3
theorem long_end {a b Q R s:Int} (hs:0 < s) (hb:0 < b) (hR0:0 <= R) (hR:R < b * s) (h:a * s = b * s * Q + R) : a / b = Q /\ a % b = R / s:=by
 have h1:R = s * (a - b * Q):=by rw [Int.mul_sub];grind
 have h2:R / s = a - b * Q:=by rw [h1,Int.mul_ediv_cancel_left _ (by omega)]
 have h3:0 <= a - b * Q:=by rw [<- h2];exact Int.ediv_nonneg hR0 (Int.le_of_lt hs)
 have h4:a - b * Q < b:=by
  rw [h1,Int.mul_comm b s] at hR
  exact Int.lt_of_mul_lt_mul_left hR (Int.le_of_lt hs)
 rw [h2]
 have h5:a = (a - b * Q) + b * Q:=by omega
 constructor
 ·rw [h5,Int.add_mul_ediv_left _ _ (by omega),Int.ediv_eq_zero_of_lt h3 h4];omega
 ·have h6:=Int.emod_eq_of_lt h3 h4
  have h7:((a - b * Q) + b * Q) % b = (a - b * Q) % b:=Int.add_mul_emod_self_left _ _ _
  rw [<- h5,h6] at h7
  exact h7
theorem grown_cell {w wr:World} {g b:Nat} (hg:w.grownBy wr (some g)) (hb:b < w.heap.size) (hne:b ≠ g) (o:Nat) : wr.cell? ⟨b,o,none⟩ = w.cell? ⟨b,o,none⟩:=
 World.cell?_of_block (hg.block b hb (by simpa using hne))
def Win (w wr:World) (base g N i k:Nat) (xs ds:List Int) : Prop:=
 ds.length = k /\ i + k <= N /\ xs.length = N /\ w.grownBy wr (some g) /\ Own wr base g N (xs.take i ++ (ds ++ xs.drop (i + k)))
theorem Win.start {w:World} {base g N i:Nat} {xs:List Int} (h:Own w base g N xs) (hi:i <= N) : Win w w base g N i 0 xs []:=by
 refine ⟨rfl,by omega,h.length,World.grownBy.refl _ _,?_⟩
 rw [List.nil_append,Nat.add_zero,List.take_append_drop];exact h
theorem Win.cell {w wr:World} {base g N i k:Nat} {xs ds:List Int} (h:Win w wr base g N i k xs ds) (hk:i + k < N) : wr.cell? ⟨g,i + k,none⟩ = some (.int .u32 (xs.getD (i + k) 0)) /\ wr.frozen? ⟨g,i + k,none⟩ = false:=by
 obtain ⟨hl,hi,hx,hg,ho⟩:=h
 refine ⟨?_,ho.frozen _⟩
 rw [ho.cell hk]
 have ht:(xs.take i).length = i:=by rw [List.length_take];omega
 congr 2
 simp only [List.getD]
 rw [List.getElem?_append_right (by omega),ht,Nat.add_sub_cancel_left,List.getElem?_append_right (by omega),hl,Nat.sub_self]
 simp
theorem Win.set {w wr:World} {base g N i k:Nat} {xs ds:List Int} (h:Win w wr base g N i k xs ds) (hk:i + k < N) (u:Int) : Win w (wr.setCell ⟨g,i + k,none⟩ (.int .u32 u)) base g N i (k + 1) xs (ds ++ [u]):=by
 obtain ⟨hl,hi,hx,hg,ho⟩:=h
 have ht:(xs.take i).length = i:=by rw [List.length_take];omega
 refine ⟨by simp [hl],by omega,hx,grown_set hg _ _,?_⟩
 have hs:=ho.set (i + k) u
 rw [List.set_append_right _ _ (by omega),ht,Nat.add_sub_cancel_left,List.set_append_right _ _ (by omega),hl,Nat.sub_self,drop_cons xs (i + k) (by omega),cZ] at hs
 rw [List.append_assoc]
 exact hs
def TakeRel (w wr:World) (base g N i n:Nat) (rs bs:List Int) (d:Int) (k:Nat) (cc br:Int) : Prop:=
 k <= n /\ (0 <= cc /\ cc < BB) /\ (0 <= br /\ br <= 1) /\ ∃ ds,Win w wr base g N i k rs ds /\ Dig ds /\ val ds = val ((partOf rs i n).take k) - d * val (bs.take k) + BB ^ k * (cc + br)
theorem TakeRel.cells {w wr:World} {base g N i n:Nat} {rs bs:List Int} {d:Int} {k:Nat} {cc br:Int} (h:TakeRel w wr base g N i n rs bs d k cc br) (hin:i + n + 1 <= N) :
  wr.cell? ⟨g,i + k,none⟩ = some (.int .u32 (rs.getD (i + k) 0)) /\ wr.frozen? ⟨g,i + k,none⟩ = false /\ w.grownBy wr (some g):=by
 obtain ⟨hk,_,_,ds,hw,_⟩:=h
 exact ⟨(hw.cell (by omega)).1,(hw.cell (by omega)).2,hw.2.2.2.1⟩
theorem TakeRel.step {w wr:World} {base g N i n:Nat} {rs bs:List Int} {d:Int} {k:Nat} {cc br x y s:Int} (h:TakeRel w wr base g N i n rs bs d k cc br) (hin:i + n + 1 <= N) (hk:k < n) (hd:0 <= d /\ d < BB)
  (hx:0 <= x /\ x < BB) (hy:0 <= y /\ y < BB) (ex:rs.getD (i + k) 0 = x) (ey:bs.getD k 0 = y) (hs:cc + y * d = s) :
  (0 <= y * d /\ y * d < 18446744073709551616) /\ (0 <= s /\ s < 18446744073709551616) /\ (0 <= s % 4294967296 /\ s % 4294967296 < 4294967296) /\
   TakeRel w (wr.setCell ⟨g,i + k,none⟩ (.int .u32 ((x - s % 4294967296 - br) % 4294967296))) base g N i n rs bs d (k + 1) (s / 4294967296) (borrowOf x (s % 4294967296) br):=by
 obtain ⟨_,hcc,hbr,ds,hw,hdd,hv⟩:=h
 obtain ⟨h1,h2,h3,h4,h5,h6⟩:=take_step hw.1 hdd hd hcc hbr hx hy (by rw [partOf.getD rs (by omega)];exact ex) ey hs hv
 have hyd:0 <= y * d:=Int.mul_nonneg hy.1 hd.1
 exact ⟨⟨hyd,by omega⟩,h1,h3,hk,h2,h5,_,hw.set (by omega) _,h4,h6⟩
theorem TakeRel.last {w wr:World} {base g N i n:Nat} {rs bs:List Int} {d:Int} {cc br x:Int} (h:TakeRel w wr base g N i n rs bs d n cc br) (hin:i + n + 1 <= N) (hl:bs.length = n)
  (hx:0 <= x /\ x < BB) (ex:rs.getD (i + n) 0 = x) :
  (0 <= borrowOf x cc br /\ borrowOf x cc br <= 1) /\ ∃ zs,zs.length = n + 1 /\ Dig zs /\ val zs = val (partOf rs i n) - d * val bs + BB ^ (n + 1) * borrowOf x cc br /\
   Own (wr.setCell ⟨g,i + n,none⟩ (.int .u32 ((x - cc - br) % 4294967296))) base g N (rs.take i ++ (zs ++ rs.drop (i + n + 1))) /\ w.grownBy (wr.setCell ⟨g,i + n,none⟩ (.int .u32 ((x - cc - br) % 4294967296))) (some g):=by
 obtain ⟨_,hcc,hbr,ds,hw,hdd,hv⟩:=h
 rw [List.take_of_length_le (by omega:bs.length <= n)] at hv
 obtain ⟨h1,h2,h3⟩:=take_last hw.1 hdd hcc hbr hx (by rw [partOf.getD rs (by omega)];exact ex) hv
 have hp:(partOf rs i n).take (n + 1) = partOf rs i n:=List.take_of_length_le (by rw [partOf.length hw.2.2.1 hin];exact Nat.le_refl _)
 rw [hp] at h3
 have hw':=hw.set (by omega) ((x - cc - br) % 4294967296)
 exact ⟨h2,_,hw'.1,h1,h3,hw'.2.2.2.2,hw'.2.2.2.1⟩
def PutRel (w wr:World) (base g N i n:Nat) (rs bs:List Int) (k:Nat) (cc:Int) : Prop:=
 k <= n /\ (0 <= cc /\ cc <= 1) /\ ∃ ds,Win w wr base g N i k rs ds /\ Dig ds /\ val ds + BB ^ k * cc = val ((partOf rs i n).take k) + val (bs.take k)
theorem PutRel.cells {w wr:World} {base g N i n:Nat} {rs bs:List Int} {k:Nat} {cc:Int} (h:PutRel w wr base g N i n rs bs k cc) (hin:i + n + 1 <= N) :
  wr.cell? ⟨g,i + k,none⟩ = some (.int .u32 (rs.getD (i + k) 0)) /\ wr.frozen? ⟨g,i + k,none⟩ = false /\ w.grownBy wr (some g):=by
 obtain ⟨hk,_,ds,hw,_⟩:=h
 exact ⟨(hw.cell (by omega)).1,(hw.cell (by omega)).2,hw.2.2.2.1⟩
theorem PutRel.step {w wr:World} {base g N i n:Nat} {rs bs:List Int} {k:Nat} {cc x y:Int} (h:PutRel w wr base g N i n rs bs k cc) (hin:i + n + 1 <= N) (hk:k < n)
  (hx:0 <= x /\ x < BB) (hy:0 <= y /\ y < BB) (ex:rs.getD (i + k) 0 = x) (ey:bs.getD k 0 = y) :
  PutRel w (wr.setCell ⟨g,i + k,none⟩ (.int .u32 ((x + y + cc) % 4294967296))) base g N i n rs bs (k + 1) ((x + y + cc) / 4294967296):=by
 obtain ⟨_,hcc,ds,hw,hdd,hv⟩:=h
 obtain ⟨h1,h2,h3⟩:=put_step hw.1 hdd hcc hx hy (by rw [partOf.getD rs (by omega)];exact ex) ey rfl hv
 exact ⟨hk,h1,_,hw.set (by omega) _,h2,h3⟩
theorem PutRel.last {w wr:World} {base g N i n:Nat} {rs bs:List Int} {cc x:Int} (h:PutRel w wr base g N i n rs bs n cc) (hin:i + n + 1 <= N) (hl:bs.length = n) (ex:rs.getD (i + n) 0 = x) :
  ∃ zs,zs.length = n + 1 /\ Dig zs /\ val zs = (val (partOf rs i n) + val bs) % BB ^ (n + 1) /\
   Own (wr.setCell ⟨g,i + n,none⟩ (.int .u32 ((x + cc) % 4294967296))) base g N (rs.take i ++ (zs ++ rs.drop (i + n + 1))) /\ w.grownBy (wr.setCell ⟨g,i + n,none⟩ (.int .u32 ((x + cc) % 4294967296))) (some g):=by
 obtain ⟨_,hcc,ds,hw,hdd,hv⟩:=h
 rw [List.take_of_length_le (by omega:bs.length <= n)] at hv
 obtain ⟨h1,h3⟩:=put_last (x:=x) hw.1 hdd (by rw [partOf.getD rs (by omega)];exact ex) hv
 have hp:(partOf rs i n).take (n + 1) = partOf rs i n:=List.take_of_length_le (by rw [partOf.length hw.2.2.1 hin];exact Nat.le_refl _)
 rw [hp] at h3
 have hw':=hw.set (by omega) ((x + cc) % 4294967296)
 exact ⟨_,hw'.1,h1,h3,hw'.2.2.2.2,hw'.2.2.2.1⟩
theorem guess_any (g i bb bo c cb n:Nat) (ps bs:List Int) (w:World) (hn2:2 <= n) (hnn:n <= 1048577) (hp:ps.length = n + 1) (hb:bs.length = n) (dp:Dig ps) (db:Dig bs) (htop:BB <= 2 * bs.getD (n - 1) 0) (hlt:val ps < BB * val bs)
  (hpc:∀ t,t < n + 1 -> w.cell? ⟨g,i + t,none⟩ = some (.int .u32 (ps.getD t 0))) (hbc:∀ t,t < n -> w.cell? ⟨bb,bo + t,none⟩ = some (.int .u32 (bs.getD t 0))) :
  Calls Tryz.prog 190 #[.slice (some ⟨g,i,none⟩) (n + 1) c,.slice (some ⟨bb,bo,none⟩) n cb] w fun e w'=>∃ d,e = .returned (.int .u32 d) /\ Guessed (val ps) (val bs) d /\ ∃ q,w' = w.drewN q:=by
 have hin:GuessIn (val ps) (val bs) (bs.getD (n - 1) 0) (bs.getD (n - 2) 0) (ps.getD n 0 * BB + ps.getD (n - 1) 0) (ps.getD (n - 2) 0) (BB ^ (n - 2)):=by
  obtain ⟨k,rfl⟩ : ∃ k,n = k + 2:=⟨n - 2,by omega⟩
  exact GuessIn.of hp hb dp db htop hlt
 have c1:=hpc n (by omega)
 have c2:=hpc (n - 1) (by omega)
 have c3:=hpc (n - 2) (by omega)
 have c4:=hbc (n - 1) (by omega)
 have c5:=hbc (n - 2) (by omega)
 have b1:=dp.getD n
 have b2:=dp.getD (n - 1)
 have b3:=dp.getD (n - 2)
 have b4:=db.getD (n - 1)
 have b5:=db.getD (n - 2)
 clear hpc hbc hp hb dp db hlt
 generalize ps.getD n 0 = u0 at *
 generalize ps.getD (n - 1) 0 = u1 at *
 generalize ps.getD (n - 2) 0 = u2 at *
 generalize bs.getD (n - 1) 0 = v1 at *
 generalize bs.getD (n - 2) 0 = v2 at *
 generalize val ps = P at *
 generalize val bs = b at *
 generalize BB ^ (n - 2) = W at *
 obtain ⟨T,hT⟩ : ∃ T,u0 * BB + u1 = T:=⟨_,rfl⟩
 rw [hT] at hin
 have htT:=hin.top
 have hfirst:=hin.first
 have hbound:=GuessRel.bound hin hfirst
 have HIN:=Hd hin
 have HF:=Hd hfirst
 rw [BB_def] at hT b1 b2 b3 b4 b5 htop htT hbound
 have hj:=or_join u0 u1 b1.1 b1.2 b2.1 b2.2
 rw [hT] at hj
 have T0:0 <= T:=by omega
 have T1:T < 18446744073709551616:=by omega
 obtain ⟨b10,b11⟩:=b1
 obtain ⟨b20,b21⟩:=b2
 obtain ⟨b30,b31⟩:=b3
 obtain ⟨b40,b41⟩:=b4
 obtain ⟨b50,b51⟩:=b5
 have d0:0 <= T / v1:=Int.ediv_nonneg T0 (by omega)
 have r0:0 <= T % v1:=Int.emod_nonneg _ (by omega)
 have r1:T % v1 < v1:=Int.emod_lt_of_pos _ (by omega)
 have y0:(v1 != 0) = true:=by simp;omega
 have y1:(v1 == 0) = false:=by simp;omega
 have q1:(0:Int) <= (n:Int) - 1:=by omega
 have q2:(n:Int) - 1 < (n:Int):=by omega
 have q3:((n:Int) - 1).toNat = n - 1:=by omega
 have q4:(0:Int) <= (n:Int) - 2:=by omega
 have q5:(n:Int) - 2 < (n:Int):=by omega
 have q6:((n:Int) - 2).toNat = n - 2:=by omega
 have q7:(n:Int) - 1 < ((n + 1:Nat) : Int):=by omega
 have q8:(n:Int) - 2 < ((n + 1:Nat) : Int):=by omega
 have q9:(n:Int) < ((n + 1:Nat) : Int):=by omega
 clear hin hfirst hT
 go_enter Tryz.func190,Tryz.ntmps190
 go_wp2_with fail
 go_quiet (fail)
 go_wp2_with fail
 go_quiet (fail)
 go_wp2_with fail
 go_loopw [7,8] (fun dv rv wr=>∃ d r q,dv = .int .u64 d /\ rv = .int .u64 r /\ GuessRel P b v1 T d r /\ r < 4294967296 /\ wr = w.drewN q) (fun dv _ _=>(intOf dv).toNat)
 case atStart=>exact ⟨_,_,_,rfl,rfl,HF.out,by omega,World.drewN_drewN ..⟩
 case round=>
  obtain ⟨d,r,q,rfl,rfl,hrel,hr,rfl⟩:=hrel
  have hbd:=GuessRel.bound HIN.out hrel
  rw [BB_def] at hbd
  have hd0:=hrel.2.2.1
  have hr0:=hrel.2.1
  have HR:=Hd hrel
  clear hrel hj
  obtain ⟨z,hz⟩ : ∃ z,r * 4294967296 + u2 = z:=⟨_,rfl⟩
  have hj:=or_join r u2 hr0 hr b30 b31
  rw [hz] at hj
  have z0:0 <= z:=by omega
  have HZ:=Hd hz
  clear hz
  by_cases hbig:4294967296 <= d
  ·have hd1:(d / 4294967296 != 0) = true:=by simp;omega
   have hlow:=GuessIn.low HIN.out HR.out (Or.inl hbig)
   have hnext:=HR.out.less (by omega) hlow
   have HN:=Hd hnext
   have h1d:=hlow.1
   clear hnext hlow
   by_cases hbr:4294967296 <= r + v1
   ·have hbk:((r + v1) / 4294967296 != 0) = true:=by simp;omega
    have hfin:=HIN.out.broken HN.out hbr
    have hf1:=hfin.1.2
    rw [BB_def] at hf1
    have HFIN:=Hd hfin
    clear hfin
    go_wp2_with fail
    go_quiet (fail)
    go_wp2_with fail
    go_ret
    exact ⟨_,rfl,HFIN.out,_,rfl⟩
   ·have hbk:((r + v1) / 4294967296 != 0) = false:=by simp;omega
    go_wp2_with fail
    go_quiet (fail)
    go_wp2_with fail
    exact ⟨⟨d - 1,r + v1,_,rfl,rfl,HN.out,by omega,rfl⟩,by simp [intOf];omega⟩
  ·have hd1:(d / 4294967296 != 0) = false:=by simp;omega
   have hdv:0 <= d * v2 /\ d * v2 < 18446744073709551616:=by
    have:=mul_bound (x:=d) (y:=v2) ⟨hd0,by rw [BB_def];omega⟩ ⟨b50,by rw [BB_def];omega⟩
    omega
   obtain ⟨hdv0,hdv1⟩:=hdv
   by_cases hgt:z < d * v2
   ·have hgd:decide (z < d * v2) = true:=by simpa using hgt
    have hlow:=GuessIn.low HIN.out HR.out (Or.inr (by rw [BB_def,HZ.out];exact hgt))
    clear hgt
    have hnext:=HR.out.less (by omega) hlow
    have HN:=Hd hnext
    have h1d:=hlow.1
    clear hnext hlow
    by_cases hbr:4294967296 <= r + v1
    ·have hbk:((r + v1) / 4294967296 != 0) = true:=by simp;omega
     have hfin:=HIN.out.broken HN.out hbr
     have hf1:=hfin.1.2
     rw [BB_def] at hf1
     have HFIN:=Hd hfin
     clear hfin
     go_wp2_with fail
     go_quiet (fail)
     go_wp2_with fail
     go_ret
     exact ⟨_,rfl,HFIN.out,_,rfl⟩
    ·have hbk:((r + v1) / 4294967296 != 0) = false:=by simp;omega
     go_wp2_with fail
     go_quiet (fail)
     go_wp2_with fail
     exact ⟨⟨d - 1,r + v1,_,rfl,rfl,HN.out,by omega,rfl⟩,by simp [intOf];omega⟩
   ·have hgd:decide (z < d * v2) = false:=by simpa using hgt
    have hfin:=GuessIn.high HIN.out HR.out (by rw [BB_def];omega) (by rw [BB_def,HZ.out];omega)
    have HFIN:=Hd hfin
    clear hfin hgt
    go_wp2_with fail
    go_quiet (fail)
    go_wp2_with fail
    go_ret
    exact ⟨_,rfl,HFIN.out,_,rfl⟩
end Go.Proofs.YtbajnceoolkckaaGreat
