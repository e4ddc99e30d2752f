/- Of the proof of RationalRounds: RatO, RatP0. -/
import Derived.Test.YtbajnceoolkckaaGreatRd25
set_option maxRecDepth 100000
set_option maxHeartbeats 16000000
namespace Go.Proofs.YtbajnceoolkckaaGreat
open Go.RowKit LM
def bl:Nat -> Int -> Int -> Int -> Int -> List Int
 | 0,_,_,_,_=>[]
 | k + 1,n,d,m,c=>if n % d = 0 then [n / d] else if n / d < m / c then [n / d + 1] else n / d :: bl k c (m % c) d (n % d)
structure Range (n d m c:Int) : Prop where
 n0:0 < n
 d0:0 < d
 c0:0 < c
 le:n * c <= m * d
structure Simp (n d m c N D:Int) : Prop where
 D0:0 < D
 N0:0 < N
 lo:n * D <= N * d
 hi:N * c <= m * D
 min:∀ p q,0 < q -> n * q <= p * d -> p * c <= m * q -> D <= q /\ N <= p
theorem Range.quo {n d m c:Int} (h:Range n d m c) : n / d <= m / c:=by
 have h1:=Int.mul_ediv_add_emod n d
 have h2:=Int.emod_nonneg n (show d ≠ 0 by have:=h.d0;omega)
 refine Int.le_ediv_of_mul_le h.c0 ?_
 have h3:d * (n / d) * c <= n * c:=Int.mul_le_mul_of_nonneg_right (by omega) (Int.le_of_lt h.c0)
 have h4:d * (n / d * c) <= d * m:=by
  have:=h.le
  rw [Int.mul_comm m d] at this
  rw [<- Int.mul_assoc];omega
 exact Int.le_of_mul_le_mul_left h4 h.d0
theorem Range.next {n d m c:Int} (h:Range n d m c) (hr:n % d ≠ 0) (hq:¬ n / d < m / c) : Range c (m % c) d (n % d) /\ n / d = m / c:=by
 have hqe:n / d = m / c:=Int.le_antisymm h.quo (Int.not_lt.1 hq)
 have h1:=Int.mul_ediv_add_emod n d
 have h2:=Int.mul_ediv_add_emod m c
 have hd:=h.d0
 have hc:=h.c0
 have h3:0 < n % d:=by have:=Int.emod_nonneg n (show d ≠ 0 by omega);omega
 have h4:=Int.emod_nonneg m (show c ≠ 0 by omega)
 rw [<- hqe] at h2
 generalize n / d = a at *
 generalize n % d = r at *
 generalize m % c = s at *
 have h5:r * c <= s * d:=by
  have hle:=h.le
  rw [<- h1,<- h2,Int.add_mul,Int.add_mul] at hle
  have e:d * a * c = c * a * d:=by rw [Int.mul_right_comm,Int.mul_comm d c,Int.mul_right_comm]
  rw [e] at hle
  omega
 have h6:0 < s:=by
  rcases Int.lt_or_eq_of_le h4 with h | h
  ·exact h
  ·exfalso
   rw [<- h,Int.zero_mul] at h5
   have:=Int.mul_pos h3 hc
   omega
 exact ⟨⟨hc,h6,h3,by rw [Int.mul_comm c r,Int.mul_comm d s];exact h5⟩,hqe⟩
theorem Simp.next {n d m c N D:Int} (h:Range n d m c) (hr:n % d ≠ 0) (hq:¬ n / d < m / c) (hs:Simp c (m % c) d (n % d) N D) : Simp n d m c (n / d * N + D) N:=by
 obtain ⟨hR,hqe⟩:=h.next hr hq
 have h1:=Int.mul_ediv_add_emod n d
 have h2:=Int.mul_ediv_add_emod m c
 have hd:=h.d0
 have hc:=h.c0
 have ha:0 <= n / d:=Int.ediv_nonneg (Int.le_of_lt h.n0) (Int.le_of_lt hd)
 rw [<- hqe] at h2
 have hr0:=hR.c0
 generalize n / d = a at *
 generalize n % d = r at *
 generalize m % c = s at *
 have hlo:=hs.lo
 have hhi:=hs.hi
 have hN:=hs.N0
 have hD:=hs.D0
 refine ⟨hN,by have:=Int.mul_nonneg ha (Int.le_of_lt hN);omega,?_,?_,fun p q hq0 h3 h4=>?_⟩
 ·rw [<- h1,Int.add_mul,Int.add_mul]
  have e:d * a * N = a * N * d:=by rw [Int.mul_comm d a,Int.mul_right_comm]
  have e2:r * N = N * r:=Int.mul_comm _ _
  have e3:D * d = d * D:=Int.mul_comm _ _
  rw [e,e2,e3];omega
 ·rw [<- h2,Int.add_mul,Int.add_mul]
  have e:c * a * N = a * N * c:=by rw [Int.mul_comm c a,Int.mul_right_comm]
  have e2:D * c = c * D:=Int.mul_comm _ _
  have e3:s * N = N * s:=Int.mul_comm _ _
  rw [e,e2,e3];omega
 ·obtain ⟨t,rfl⟩ : ∃ t,p = a * q + t:=⟨p - a * q,by omega⟩
  rw [<- h1,Int.add_mul,Int.add_mul] at h3
  rw [<- h2,Int.add_mul,Int.add_mul] at h4
  have e:d * a * q = a * q * d:=by rw [Int.mul_comm d a,Int.mul_right_comm]
  have e2:c * a * q = a * q * c:=by rw [Int.mul_comm c a,Int.mul_right_comm]
  rw [e] at h3
  rw [e2] at h4
  have h5:r * q <= t * d:=by omega
  have h6:t * c <= s * q:=by omega
  have ht:0 < t:=by
   have:=Int.mul_pos hr0 hq0
   rcases Int.lt_or_le 0 t with h | h
   ·exact h
   ·have:=Int.mul_nonpos_of_nonpos_of_nonneg h (Int.le_of_lt hd);omega
  obtain ⟨k1,k2⟩:=hs.min q t ht (by rw [Int.mul_comm c t,Int.mul_comm q s];exact h6) (by rw [Int.mul_comm q r,Int.mul_comm d t];exact h5)
  refine ⟨k2,?_⟩
  have:=Int.mul_le_mul_of_nonneg_left k2 ha
  omega
theorem bl_simp:∀ (k:Nat) (n d m c:Int),Range n d m c -> d + c <= k ->
  Simp n d m c (ctr (bl k n d m c)).1 (ctr (bl k n d m c)).2 /\ (bl k n d m c ≠ []) /\ ∀ t,t < (bl k n d m c).length -> 0 < (ctr ((bl k n d m c).drop t)).1
 | 0,n,d,m,c,h,hk=>by have:=h.d0;have:=h.c0;omega
 | k + 1,n,d,m,c,h,hk=>by
  have hd:=h.d0
  have hc:=h.c0
  have h1:=Int.mul_ediv_add_emod n d
  have hrn:=Int.emod_nonneg n (show d ≠ 0 by omega)
  have hrd:=Int.emod_lt_of_pos n hd
  have one:∀ a:Int,0 < a -> n <= a * d -> a * c <= m -> (∀ p q,0 < q -> n * q <= p * d -> a <= p) -> Simp n d m c (ctr [a]).1 (ctr [a]).2 /\ ([a] : List Int) ≠ [] /\ ∀ t,t < [a].length -> 0 < (ctr ([a].drop t)).1:=fun a ha h2 h3 h4=>by
   have e1:(ctr [a]).1 = a:=by simp [ctr]
   have e2:(ctr [a]).2 = 1:=by simp [ctr]
   refine ⟨⟨by rw [e2];decide,by rw [e1];exact ha,by rw [e1,e2];omega,by rw [e1,e2];omega,fun p q hq hp _=>?_⟩,by simp,fun t ht=>?_⟩
   ·rw [e1,e2]
    exact ⟨hq,h4 p q hq hp⟩
   ·obtain rfl:t = 0:=by simp at ht;exact ht
    rw [List.drop_zero,e1];exact ha
  unfold bl
  by_cases hr:n % d = 0
  ·rw [if_pos hr]
   rw [hr,Int.add_zero] at h1
   have ha:0 < n / d:=by
    rcases Int.lt_or_le 0 (n / d) with h' | h'
    ·exact h'
    ·have:=Int.mul_nonpos_of_nonneg_of_nonpos (Int.le_of_lt hd) h';have:=h.n0;omega
   refine one _ ha (by rw [Int.mul_comm];omega) ?_ fun p q hq hp=>?_
   ·have:=h.quo
    have h3:=Int.mul_ediv_add_emod m c
    have h4:=Int.emod_nonneg m (show c ≠ 0 by omega)
    have h5:n / d * c <= m / c * c:=Int.mul_le_mul_of_nonneg_right this (Int.le_of_lt hc)
    rw [Int.mul_comm (m / c) c] at h5
    omega
   ·have h3:d * (n / d * q) <= d * p:=by rw [<- Int.mul_assoc,h1,Int.mul_comm d p];exact hp
    have h4:=Int.le_of_mul_le_mul_left h3 hd
    have h6:n / d * 1 <= n / d * q:=Int.mul_le_mul_of_nonneg_left hq (Int.le_of_lt ha)
    omega
  ·rw [if_neg hr]
   have hr0:0 < n % d:=by omega
   have ha:0 <= n / d:=Int.ediv_nonneg (Int.le_of_lt h.n0) (Int.le_of_lt hd)
   by_cases hq:n / d < m / c
   ·rw [if_pos hq]
    refine one _ (by omega) ?_ ?_ fun p q hq0 hp=>?_
    ·rw [Int.add_mul,Int.mul_comm (n / d) d];omega
    ·have h3:=Int.mul_ediv_add_emod m c
     have h4:=Int.emod_nonneg m (show c ≠ 0 by omega)
     have h5:(n / d + 1) * c <= m / c * c:=Int.mul_le_mul_of_nonneg_right hq (Int.le_of_lt hc)
     rw [Int.mul_comm (m / c) c] at h5
     omega
    ·have h3:d * (n / d * q) + n % d * q = n * q:=by
      conv=>rhs;rw [<- h1]
      rw [Int.add_mul,Int.mul_assoc]
     have h4:0 < n % d * q:=Int.mul_pos hr0 hq0
     have h5:d * (n / d * q) < d * p:=by rw [Int.mul_comm d p];omega
     have h6:=Int.lt_of_mul_lt_mul_left h5 (Int.le_of_lt hd)
     have h7:n / d * 1 <= n / d * q:=Int.mul_le_mul_of_nonneg_left hq0 ha
     omega
   ·rw [if_neg hq]
    obtain ⟨hR,-⟩:=h.next hr hq
    have hsc:=Int.emod_lt_of_pos m hc
    obtain ⟨i1,i2,i3⟩:=bl_simp k c (m % c) d (n % d) hR (by push_cast at hk;omega)
    refine ⟨?_,by simp,fun t ht=>?_⟩
    ·show Simp n d m c (n / d * (ctr (bl k c (m % c) d (n % d))).1 + (ctr (bl k c (m % c) d (n % d))).2) (ctr (bl k c (m % c) d (n % d))).1
     exact i1.next h hr hq
    ·match t with
     | 0=>
      show 0 < n / d * (ctr (bl k c (m % c) d (n % d))).1 + (ctr (bl k c (m % c) d (n % d))).2
      have:=Int.mul_nonneg ha (Int.le_of_lt i1.N0)
      have:=i1.D0
      omega
     | t + 1=>exact i3 t (by simpa using ht)
theorem bl_length:∀ (e k:Nat) (n d m c:Int),Range n d m c -> d < 2 ^ e -> (bl k n d m c).length <= 2 * e + 1
 | 0,k,n,d,m,c,h,hd=>by have:=h.d0;simp at hd;omega
 | e + 1,0,n,d,m,c,h,hd=>by simp [bl]
 | e + 1,1,n,d,m,c,h,hd=>by
  unfold bl;split
  ·simp
  ·split <;> simp [bl]
 | e + 1,k + 2,n,d,m,c,h,hd=>by
  unfold bl
  by_cases hr:n % d = 0
  ·rw [if_pos hr];simp
  ·rw [if_neg hr]
   by_cases hq:n / d < m / c
   ·rw [if_pos hq];simp
   ·rw [if_neg hq]
    obtain ⟨hR,-⟩:=h.next hr hq
    unfold bl
    by_cases hr2:c % (m % c) = 0
    ·rw [if_pos hr2];simp;omega
    ·rw [if_neg hr2]
     by_cases hq2:c / (m % c) < d / (n % d)
     ·rw [if_pos hq2];simp;omega
     ·rw [if_neg hq2]
      obtain ⟨hR2,-⟩:=hR.next hr2 hq2
      have hd':d % (n % d) < 2 ^ e:=by
       have h1:=hR.c0
       have h2:=Int.emod_lt_of_pos d h1
       have h3:=Int.emod_lt_of_pos n h.d0
       have h4:=Int.mul_ediv_add_emod d (n % d)
       have h5:1 <= d / (n % d):=Int.le_ediv_of_mul_le h1 (by omega)
       have h6:n % d * 1 <= n % d * (d / (n % d)):=Int.mul_le_mul_of_nonneg_left h5 (Int.le_of_lt h1)
       rw [Int.pow_succ] at hd
       omega
      have:=bl_length e k (n % d) (d % (n % d)) (m % c) (c % (m % c)) hR2 hd'
      simp only [List.length_cons]
      omega
theorem Ival.tight {w:World} {v:Value} {z:Int} {L K:Nat} (h:Ival w v z L) (h0:0 <= z) (hz:z < BB ^ K) : Ival w v z K:=by
 obtain ⟨neg,s,a,e,hn,ha,hs,hneg⟩:=h
 have haz:a < BB ^ K:=by
  cases neg with
  | false=>simp [withSign] at hs;omega
  | true=>
   simp [withSign] at hs
   have:=hneg rfl
   omega
 exact ⟨neg,s,a,e,hn.tight haz,ha,hs,hneg⟩
theorem Ival.lt_pow {w:World} {v:Value} {z:Int} {L:Nat} (h:Ival w v z L) : z < BB ^ L:=by
 obtain ⟨neg,s,a,e,hn,ha,hs,hneg⟩:=h
 have:=hn.lt_pow
 cases neg with
 | false=>simp [withSign] at hs;omega
 | true=>simp [withSign] at hs;omega
theorem noInt_bool (g:Bool) : NoInt (.bool g):=fun k d h=>by cases h
theorem noInt_slice (A:Option Addr) (n c:Nat) : NoInt (.slice A n c):=fun k d h=>by cases h
theorem wp_append_int {o:Oper} {a:Act} {w:World} {K:Act -> World -> Prop} {Q:Exit -> Act -> World -> Prop} (s x:Operand)
  (ho:o.op = .call { callee:=.builtin .append,args:=#[s,x],argTypes:=#[78,78] })
  {base:Nat} {v:Value} {zs:List Int} {L:Nat} (hs:a.eval s = v) (hown:OwnInts w base v zs L) {b:Nat} {g:Bool} {A:Option Addr} {n c:Nat} {z:Int} (hx:a.eval x = .slice (some ⟨b,0,none⟩) 1 1)
  (h0:w.cell? ⟨b,0,none⟩ = some (.bool g)) (h1:w.cell? ⟨b,1,none⟩ = some (.slice A n c)) (hz:Ival w (.agg #[.bool g,.slice A n c]) z L) (hlen:zs.length <= 1000000) (hbase:base <= w.heap.size)
  (h:∀ v' w',OwnInts w' base v' (zs ++ [z]) L -> NIrow w v -> w.grownBy w' v.ownBlock -> (∀ g,v.ownBlock = some g -> base <= g) -> K (a.put o.dst v') w') : o.wp Tryz.prog a w K Q:=by
 obtain ⟨i0,hi,hz0,hz1,hz2⟩:=info_parts Tryz.info31
 obtain ⟨vs,hl,ow,hni,hv⟩:=hown
 refine wp_append_ni s x 78 ho base 31 i0 (.agg #[.bool false,.slice none 0 0]) 2 32 Tryz.underlying78 hi hz0 hz1 hz2 rfl (by decide) v zs.length (flat vs) hs ow ⟨b,0,none⟩ 1 1 [.bool g,.slice A n c] hx rfl ?_ ?_ (by unfold maxLen;omega) (by omega) hbase hni ?_ ?_ ?_
 ·intro j u hj
  match j,hj with
  | 0,hj=>simp at hj;subst hj;simpa [Addr.add] using h0
  | 1,hj=>simp at hj;subst hj;simpa [Addr.add] using h1
 ·intro u hu;simp at hu;rcases hu with rfl | rfl <;> rfl
 ·intro y hy;simp [Value.cells] at hy;rcases hy with rfl | rfl
  ·exact noInt_bool _
  ·exact noInt_slice _ _ _
 ·intro y hy;simp at hy;rcases hy with rfl | rfl
  ·exact noInt_bool _
  ·exact noInt_slice _ _ _
 ·intro v' w' ho' hg hn'
  exact h v' w' (OwnInts.snoc hl hv hz hni ho' hg hn') hni hg (fun g hg'=>(ow.lt g hg').1)
theorem wpList_append_int (w:World) {ops:Array Oper} {rest:List Oper} {o:Oper} {a:Act} {Q:Exit -> Act -> World -> Prop} (hgd:o.guard = none) (s x:Operand)
  (ho:o.op = .call { callee:=.builtin .append,args:=#[s,x],argTypes:=#[78,78] })
  {base:Nat} {v:Value} {zs:List Int} {L:Nat} (hs:a.eval s = v) (hown:OwnInts w base v zs L) {b:Nat} {g:Bool} {A:Option Addr} {n c:Nat} {z:Int} (hx:a.eval x = .slice (some ⟨b,0,none⟩) 1 1)
  (h0:w.cell? ⟨b,0,none⟩ = some (.bool g)) (h1:w.cell? ⟨b,1,none⟩ = some (.slice A n c)) (hz:Ival w (.agg #[.bool g,.slice A n c]) z L) (hlen:zs.length <= 1000000) (hbase:base <= w.heap.size)
  (h:∀ v' w',OwnInts w' base v' (zs ++ [z]) L -> NIrow w v -> w.grownBy w' v.ownBlock -> (∀ g,v.ownBlock = some g -> base <= g) -> wpList Tryz.prog ops Q rest (a.put o.dst v') w') : wpList Tryz.prog ops Q (o :: rest) a w:=
 wpList_plain hgd fun _ hK=>wp_append_int s x ho hs hown hx h0 h1 hz hlen hbase fun v' w' h2 h3 h4 h5=>hK _ _ (h v' w' h2 h3 h4 h5)
theorem Fx4.off {w w':World} {v:Value} {b:Nat} {x y z u:Value} (h:Fx4 w b x y z u) (hne:v.ownBlock ≠ some b) (hg:w.grownBy w' v.ownBlock) : Fx4 w' b x y z u:=by
 have hb:=hg.block b h.lt (fun e=>hne e.symm)
 exact ⟨(World.cell?_of_block (a:=⟨b,0,none⟩) hb).trans h.c0,(World.cell?_of_block (a:=⟨b,1,none⟩) hb).trans h.c1,(World.cell?_of_block (a:=⟨b,2,none⟩) hb).trans h.c2,(World.cell?_of_block (a:=⟨b,3,none⟩) hb).trans h.c3,
  (World.frozen?_of_block (a:=⟨b,0,none⟩) hb).trans h.f0,(World.frozen?_of_block (a:=⟨b,1,none⟩) hb).trans h.f1,(World.frozen?_of_block (a:=⟨b,2,none⟩) hb).trans h.f2,(World.frozen?_of_block (a:=⟨b,3,none⟩) hb).trans h.f3,Nat.lt_of_lt_of_le h.lt hg.size⟩
end Go.Proofs.YtbajnceoolkckaaGreat
