/- Of the proof of RationalRounds: Core. -/
import Derived.Test.YtbajnceoolkckaaGreatRows
import Derived.WalkKit
import Derived.WalkSpells
import Derived.WalkLawsBesides
import Derived.Lib.Hide
import Derived.Deep.QuietTactic
import Derived.BigQuiet
import Derived.ProofKit
import Derived.OpenShut
import Derived.ChangeOld
import Derived.ChangeSame
import Derived.Below
import Derived.Lib.SmallJoins
import Derived.Deep.RegionHeld3
open List renaming set_cons_zero → cZ
open Go.Lib renaming hid → Hd
set_option maxRecDepth 100000
set_option maxHeartbeats 16000000
namespace Go.Proofs.YtbajnceoolkckaaGreat.LM
def BB:Int:=4294967296
theorem BB_def:BB = 4294967296:=rfl
def val:List Int -> Int
 | []=>0
 | d :: l=>d + BB * val l
def Dig (l:List Int) : Prop:=∀ i,i < l.length -> 0 <= l.getD i 0 /\ l.getD i 0 < BB
def Trimmed (l:List Int) : Prop:=l.length = 0 \/ l.getD (l.length - 1) 0 ≠ 0
theorem getD_out (l:List Int) (i:Nat) (h:l.length <= i) : l.getD i 0 = 0:=by simp [List.getD,List.getElem?_eq_none h]
theorem BB_pos (n:Nat) : 0 < BB ^ n:=Int.pow_pos (by decide)
theorem Dig.nil:Dig []:=by intro i h;simp at h
theorem Dig.cons_iff {d:Int} {l:List Int} : Dig (d :: l) ↔ (0 <= d /\ d < BB) /\ Dig l:=by
 constructor
 ·intro h
  refine ⟨by simpa using h 0 (by simp),fun i hi=>?_⟩
  simpa using h (i + 1) (by simpa using hi)
 ·rintro ⟨h0,h⟩ i hi
  cases i with
  | zero=>simpa using h0
  | succ i=>simpa using h i (by simpa using hi)
theorem Dig.append {a b:List Int} (ha:Dig a) (hb:Dig b) : Dig (a ++ b):=by
 induction a with
 | nil=>simpa using hb
 | cons d a ih=>
  rw [List.cons_append,Dig.cons_iff]
  rw [Dig.cons_iff] at ha
  exact ⟨ha.1,ih ha.2⟩
theorem Dig.one {d:Int} (h0:0 <= d) (h1:d < BB) : Dig [d]:=by
 rw [Dig.cons_iff];exact ⟨⟨h0,h1⟩,Dig.nil⟩
theorem Dig.take {a:List Int} (h:Dig a) (n:Nat) : Dig (a.take n):=by
 intro i hi
 have h1:i < a.length:=by simp at hi;omega
 have h2:i < n:=by simp at hi;omega
 have:=h i h1
 simpa [List.getD,List.getElem?_take,h2] using this
theorem Dig.drop {a:List Int} (h:Dig a) (n:Nat) : Dig (a.drop n):=by
 intro i hi
 have h1:n + i < a.length:=by simp at hi;omega
 have:=h (n + i) h1
 simpa [List.getD] using this
theorem Dig.getD {a:List Int} (h:Dig a) (i:Nat) : 0 <= a.getD i 0 /\ a.getD i 0 < BB:=by
 by_cases hi:i < a.length
 ·exact h i hi
 ·rw [getD_out _ _ (by omega)];decide
theorem val_nil:val [] = 0:=rfl
theorem val_cons (d:Int) (l:List Int) : val (d :: l) = d + BB * val l:=rfl
theorem val_append (a b:List Int) : val (a ++ b) = val a + BB ^ a.length * val b:=by
 induction a with
 | nil=>simp [val]
 | cons d a ih=>
  rw [List.cons_append,val_cons,val_cons,ih,List.length_cons,Int.pow_succ,Int.mul_add]
  rw [Int.mul_comm (BB ^ a.length) BB,Int.mul_assoc];omega
theorem val_snoc (a:List Int) (d:Int) : val (a ++ [d]) = val a + BB ^ a.length * d:=by
 rw [val_append];simp [val]
theorem val_bounds {l:List Int} (h:Dig l) : 0 <= val l /\ val l < BB ^ l.length:=by
 induction l with
 | nil=>simp [val]
 | cons d l ih=>
  rw [Dig.cons_iff] at h
  obtain ⟨h0,h1⟩:=ih h.2
  rw [val_cons,List.length_cons,Int.pow_succ,Int.mul_comm (BB ^ l.length) BB]
  have hb:=h.1
  rw [BB_def] at *
  constructor <;> omega
theorem val_zeros (n:Nat) : val (List.replicate n 0) = 0:=by
 induction n with
 | zero=>rfl
 | succ n ih=>rw [List.replicate_succ,val_cons,ih];simp
theorem take_snoc (l:List Int) (i:Nat) (h:i < l.length) : l.take (i + 1) = l.take i ++ [l.getD i 0]:=by
 rw [List.take_add_one,List.getElem?_eq_getElem h];simp [List.getD,List.getElem?_eq_getElem h]
theorem val_take_succ (l:List Int) (i:Nat) : val (l.take (i + 1)) = val (l.take i) + BB ^ i * l.getD i 0:=by
 by_cases h:i < l.length
 ·rw [take_snoc l i h,val_snoc,List.length_take,Nat.min_eq_left (by omega)]
 ·rw [List.take_of_length_le (by omega),List.take_of_length_le (by omega),getD_out _ _ (by omega)];simp
theorem val_split (l:List Int) (i:Nat) (h:i <= l.length) : val l = val (l.take i) + BB ^ i * val (l.drop i):=by
 have:=val_append (l.take i) (l.drop i)
 rw [List.take_append_drop,List.length_take,Nat.min_eq_left h] at this
 exact this
theorem val_ge {l:List Int} (hd:Dig l) (ht:Trimmed l) (hn:l.length ≠ 0) : BB ^ (l.length - 1) <= val l:=by
 have e:l.take (l.length - 1 + 1) = l:=List.take_of_length_le (by omega)
 have h1:=val_take_succ l (l.length - 1)
 rw [e] at h1
 have h2:=(val_bounds (hd.take (l.length - 1))).1
 have h3:=hd (l.length - 1) (by omega)
 have h4:1 <= l.getD (l.length - 1) 0:=by
  rcases ht with h | h
  ·omega
  ·omega
 have h5:BB ^ (l.length - 1) * 1 <= BB ^ (l.length - 1) * l.getD (l.length - 1) 0:=Int.mul_le_mul_of_nonneg_left h4 (Int.le_of_lt (BB_pos _))
 omega
theorem pow_le {m n:Nat} (h:m <= n) : BB ^ m <= BB ^ n:=by
 obtain ⟨k,rfl⟩:=Nat.exists_eq_add_of_le h
 induction k with
 | zero=>simp
 | succ k ih=>
  have:=ih (by omega)
  rw [<- Nat.add_assoc,Int.pow_succ]
  have hp:=BB_pos (m + k)
  rw [BB_def] at *
  omega
theorem val_lt_of_length {a b:List Int} (ha:Dig a) (hb:Dig b) (tb:Trimmed b) (h:a.length < b.length) : val a < val b:=by
 have h1:=(val_bounds ha).2
 have h2:=val_ge hb tb (by omega)
 have h3:BB ^ a.length <= BB ^ (b.length - 1):=pow_le (by omega)
 omega
theorem val_lt_at {a b:List Int} (ha:Dig a) (hb:Dig b) (i:Nat) (hia:i < a.length) (hl:a.length = b.length) (hs:a.drop (i + 1) = b.drop (i + 1)) (h:a.getD i 0 < b.getD i 0) : val a < val b:=by
 have ea:=val_split a (i + 1) (by omega)
 have eb:=val_split b (i + 1) (by omega)
 rw [hs,val_take_succ] at ea
 rw [val_take_succ] at eb
 have ba:=val_bounds (ha.take i)
 have bb:=val_bounds (hb.take i)
 rw [List.length_take,Nat.min_eq_left (by omega)] at ba bb
 have hm:BB ^ i * (a.getD i 0 + 1) <= BB ^ i * b.getD i 0:=Int.mul_le_mul_of_nonneg_left (by omega) (Int.le_of_lt (BB_pos _))
 rw [Int.mul_add] at hm
 omega
theorem trimmed_zero {l:List Int} (hd:Dig l) (ht:Trimmed l) : val l = 0 ↔ l = []:=by
 constructor
 ·intro h
  by_cases hn:l.length = 0
  ·exact List.eq_nil_of_length_eq_zero hn
  ·have:=val_ge hd ht hn
   have:=BB_pos (l.length - 1)
   omega
 ·rintro rfl;rfl
def cmpI (a b:Int) : Int:=if a < b then -1 else if a = b then 0 else 1
theorem cmpI_lt {a b:Int} (h:a < b) : cmpI a b = -1:=by simp [cmpI,h]
theorem cmpI_eq {a b:Int} (h:a = b) : cmpI a b = 0:=by simp [cmpI,h]
theorem cmpI_gt {a b:Int} (h:b < a) : cmpI a b = 1:=by simp [cmpI,Int.not_lt.2 (Int.le_of_lt h),Int.ne_of_gt h]
theorem drop_cons (l:List Int) (i:Nat) (h:i < l.length) : l.drop i = l.getD i 0 :: l.drop (i + 1):=by
 rw [List.drop_eq_getElem_cons h];simp [List.getD,List.getElem?_eq_getElem h]
theorem pow_split (k:Nat) (r q:Int) : BB ^ k * r + BB ^ (k + 1) * q = BB ^ k * (r + BB * q):=by
 rw [Int.pow_succ,Int.mul_assoc,<- Int.mul_add]
theorem digit_split (s:Int) : s % BB + BB * (s / BB) = s:=Int.emod_add_mul_ediv s BB
theorem Dig.snoc {l:List Int} (h:Dig l) {d:Int} (h0:0 <= d) (h1:d < BB) : Dig (l ++ [d]):=h.append (Dig.one h0 h1)
theorem add_step {ds xs ys:List Int} {k:Nat} {cc x y:Int} (hl:ds.length = k) (hd:Dig ds) (hc:0 <= cc /\ cc <= 1) (hx:0 <= x /\ x < BB) (hy:0 <= y /\ y < BB)
  (ex:xs.getD k 0 = x) (ey:ys.getD k 0 = y) (hv:val ds + BB ^ k * cc = val (xs.take k) + val (ys.take k)) :
  Dig (ds ++ [(cc + (x + y)) % BB]) /\ (0 <= (cc + (x + y)) / BB /\ (cc + (x + y)) / BB <= 1) /\
   val (ds ++ [(cc + (x + y)) % BB]) + BB ^ (k + 1) * ((cc + (x + y)) / BB) = val (xs.take (k + 1)) + val (ys.take (k + 1)):=by
 refine ⟨hd.snoc (Int.emod_nonneg _ (by decide)) (Int.emod_lt_of_pos _ (by decide)),?_,?_⟩
 ·rw [BB_def] at *;omega
 ·rw [val_snoc,hl,Int.add_assoc,pow_split,digit_split,Int.mul_add,Int.mul_add,val_take_succ,val_take_succ,ex,ey]
  omega
end Go.Proofs.YtbajnceoolkckaaGreat.LM
namespace Go.Proofs.YtbajnceoolkckaaGreat
open Go.RowKit
def CellsAt (K:IntKind) (w:World) (A:Option Addr) (n:Nat) (xs:List Int) : Prop:=
 n ≠ 0 -> ∃ b o,A = some ⟨b,o,none⟩ /\ b < w.heap.size /\ ∀ i,i < n -> w.cell? ⟨b,o + i,none⟩ = some (.int K (xs.getD i 0))
def Row (K:IntKind) (w:World) (A:Option Addr) (n c:Nat) (xs:List Int) : Prop:=
 xs.length = n /\ n <= c /\ CellsAt K w A n xs
def lenOf:Value -> Nat | .slice _ n _=>n | _=>0
theorem Row.below {K:IntKind} {w w':World} {A:Option Addr} {n c:Nat} {xs:List Int} (h:Row K w A n c xs) (hb:Below w.heap.size w w') : Row K w' A n c xs:=by
 refine ⟨h.1,h.2.1,fun hn=>?_⟩
 obtain ⟨b,o,rfl,hlt,hc⟩:=h.2.2 hn
 exact ⟨b,o,rfl,Nat.lt_of_lt_of_le hlt hb.size,fun i hi=>(hb.cell (p:=⟨b,o + i,none⟩) hlt).trans (hc i hi)⟩
theorem Row.nil_ {K:IntKind} {w:World} {A:Option Addr} {c:Nat} : Row K w A 0 c []:=⟨rfl,Nat.zero_le _,fun h=>absurd rfl h⟩
theorem Row.take {K:IntKind} {w:World} {A:Option Addr} {n c:Nat} {xs:List Int} (h:Row K w A n c xs) {k:Nat} (hk:k <= n) : Row K w A k c (xs.take k):=by
 refine ⟨by rw [List.length_take,h.1];omega,Nat.le_trans hk h.2.1,fun hn=>?_⟩
 obtain ⟨b,o,rfl,hlt,hc⟩:=h.2.2 (by omega)
 refine ⟨b,o,rfl,hlt,fun i hi=>?_⟩
 rw [hc i (by omega)]
 simp [List.getD,hi]
section
variable {P:Program} {f:FuncId} {args:Array Value} {v:Value}
theorem quiet_same1 {W:World} {a n:Nat} (h:∀ w,Calls P f args w fun e w'=>e = .returned v /\ w = w') : Calls P f args (W.drewN (a + n)) fun e w'=>e = .returned v /\ ∃ m,w' = W.drewN (a + m):=
 (h _).mono fun _ _ ⟨he,hw⟩=>⟨he,n,hw.symm⟩
theorem quiet_draw0 {W:World} {n:Nat} (h:Calls P f args (W.drewN n) fun e w'=>e = .returned v /\ ∃ q,w' = (W.drewN n).drewN q) : Calls P f args (W.drewN n) fun e w'=>e = .returned v /\ ∃ m,w' = W.drewN m:=
 h.mono fun _ _ ⟨he,q,hw⟩=>⟨he,n + q,by rw [hw,World.drewN_drewN]⟩
end
theorem drewN_3 (w:World) (a b c:Nat) : ((w.drewN a).drewN b).drewN c = w.drewN (a + b + c):=by rw [World.drewN_drewN,World.drewN_drewN,Nat.add_assoc]
theorem below_drewN {B:Nat} {a w:World} (h:Below B a w) (n:Nat) : Below B a (w.drewN n):=⟨h.os,h.tape,h.output,h.size,h.block⟩
theorem Row.drewN {K:IntKind} {w:World} {A:Option Addr} {n c:Nat} {xs:List Int} (h:Row K w A n c xs) (q:Nat) : Row K (w.drewN q) A n c xs:=h
def Num (w:World) (v:Value) (z:Int) (L:Nat) : Prop:=
 ∃ A n c xs,v = .slice A n c /\ Row .u32 w A n c xs /\ LM.Dig xs /\ LM.Trimmed xs /\ LM.val xs = z /\ n <= L
theorem Num.below {w w':World} {v:Value} {z:Int} {L:Nat} (h:Num w v z L) (hb:Below w.heap.size w w') : Num w' v z L:=by
 obtain ⟨A,n,c,xs,e,hr,r⟩:=h
 exact ⟨A,n,c,xs,e,hr.below hb,r⟩
theorem Row.of_own {K:IntKind} {w:World} {base:Nat} {e:TypeId} {A:Option Addr} {n c:Nat} {xs:List Int} (h:w.ownsRow base e 1 (.slice A n c) n (xs.map (Value.int K))) : Row K w A n c xs:=by
 have hl:xs.length = n:=by have:=h.1;simpa using this
 rcases h.2 with ⟨h',h0⟩ | ⟨g,cap,cur,h',hb,hg,hnc,hcm,hcs,htake⟩
 ·subst h0
  exact ⟨hl,Nat.zero_le _,fun h=>absurd rfl h⟩
 ·have e':=h'
  simp only [Value.slice.injEq] at e'
  obtain ⟨rfl,-,rfl⟩:=e'
  refine ⟨hl,hnc,fun _=>⟨g,0,rfl,(Array.getElem?_eq_some_iff.1 hg).1,fun i hi=>?_⟩⟩
  have:=h.cellAt i (by omega)
  rw [Nat.zero_add,this]
  simp [List.getD,hl,hi]
theorem Tryz.info135:(Tryz.prog.info? 135).map (fun i=>(i.zero,i.size,i.bytes)) = some (some (.int .u32 0),1,4):=by kernel_rfl
def Own (w:World) (base g n:Nat) (xs:List Int) : Prop:=w.ownsRow base 135 1 (.slice (some ⟨g,0,none⟩) n n) n (xs.map (Value.int .u32))
theorem Own.length {w:World} {base g n:Nat} {xs:List Int} (h:Own w base g n xs) : xs.length = n:=by have:=h.1;simpa using this
theorem Own.cell {w:World} {base g n:Nat} {xs:List Int} (h:Own w base g n xs) {k:Nat} (hk:k < n) : w.cell? ⟨g,k,none⟩ = some (.int .u32 (xs.getD k 0)):=by
 have hl:=h.length
 rw [World.ownsRow.cellAt h k (by omega)]
 simp [List.getD,hl,hk]
theorem Own.frozen {w:World} {base g n:Nat} {xs:List Int} (h:Own w base g n xs) (k:Nat) : w.frozen? ⟨g,k,none⟩ = false:=World.ownsRow.frozenAt h k
theorem Own.set {w:World} {base g n:Nat} {xs:List Int} (h:Own w base g n xs) (k:Nat) (u:Int) : Own (w.setCell ⟨g,k,none⟩ (.int .u32 u)) base g n (xs.set k u):=by
 have:=(World.ownsRow.stored h k (.int .u32 u)).1
 rw [<- List.map_set] at this
 exact this
theorem Own.lt {w:World} {base g n:Nat} {xs:List Int} (h:Own w base g n xs) : base <= g /\ g < w.heap.size:=World.ownsRow.lt h g rfl
theorem Own.row {w:World} {base g n:Nat} {xs:List Int} (h:Own w base g n xs) : Row .u32 w (some ⟨g,0,none⟩) n n xs:=Row.of_own h
theorem Own.below {w w':World} {base g n:Nat} {xs:List Int} (h:Own w base g n xs) (hb:Below w.heap.size w w') : Own w' base g n xs:=by
 obtain ⟨h1,h2⟩:=h
 refine ⟨h1,?_⟩
 rcases h2 with h2 | ⟨g',cap,cur,hv,hg,hh,r⟩
 ·exact .inl h2
 ·exact .inr ⟨g',cap,cur,hv,hg,(hb.block g' (Array.getElem?_eq_some_iff.1 hh).1).trans hh,r⟩
theorem Own.drewN {w:World} {base g n:Nat} {xs:List Int} (h:Own w base g n xs) (q:Nat) : Own (w.drewN q) base g n xs:=h
theorem set_zeros (ds:List Int) (n k:Nat) (hk:ds.length = k) (hn:k < n) (u:Int) : (ds ++ List.replicate (n - k) 0).set k u = (ds ++ [u]) ++ List.replicate (n - (k + 1)) 0:=by
 rw [show n - k = (n - (k + 1)) + 1 from by omega,List.replicate_succ,List.set_append_right _ _ (by omega),hk,Nat.sub_self,cZ]
 simp
theorem zeros_made (n:Nat) : (madeCells (Value.int .u32 0).cells (n * 1)).toList = (List.replicate n (0:Int)).map (Value.int .u32):=by
 rw [Nat.mul_one];simp [Value.cells,toList_madeCells_one]
open Go.ChangeShapes Go.WideShapes Go.ChangeAt Go.RowKit Go.Joins
theorem Tryz.cells24:Tryz.prog.cellsOf 24 = 2:=by kernel_rfl
theorem Tryz.cells135:Tryz.prog.cellsOf 135 = 1:=by kernel_rfl
theorem Tryz.laid:laidOutB Tryz.prog = true:=by kernel_rfl
theorem Tryz.own:ownKnob Tryz.prog.godebug = none:=by kernel_rfl
theorem cell_lt {w:World} {a:Addr} {v:Value} (h:w.cell? a = some v) : a.block < w.heap.size:=by
 by_cases hb:a.block < w.heap.size
 ·exact hb
 ·exfalso
  have:w.heap[a.block]? = none:=by simp;omega
  simp [World.cell?,this] at h
open Go.RowKit LM
theorem trim_any (A:Option Addr) (n c:Nat) (xs:List Int) (w:World) (h:Row .u32 w A n c xs) (hn:n <= 1073741824) :
  Calls Tryz.prog 155 #[.slice A n c] w fun e w'=>∃ k,k <= n /\ e = .returned (.slice A k c) /\ w = w' /\ val (xs.take k) = val xs /\ Trimmed (xs.take k):=by
 obtain ⟨hl,hc,hcell⟩:=h
 go_enter Tryz.func155,Tryz.ntmps155
 go_wp2
 go_loop [0] (fun s=>∃ k,k <= n /\ s = .slice A k c /\ val (xs.take k) = val xs) (fun s=>lenOf s)
 case atStart=>exact ⟨n,Nat.le_refl _,rfl,by rw [List.take_of_length_le (by omega)]⟩
 case round=>
  obtain ⟨k,hk,rfl,hv⟩:=hrel
  have Hv:=Hd hv
  clear hv
  by_cases h0:k = 0
  ·subst h0
   go_wp2
   go_ret
   exact ⟨0,by omega,rfl,rfl,Hv.out,.inl rfl⟩
  ·obtain ⟨b,o,rfl,hb,hx⟩:=hcell (by omega)
   have hp:(0:Int) < (k:Int):=by omega
   have hx1:=hx (k - 1) (by omega)
   clear hx hcell
   have HL:=Hd hl
   clear hl
   go_wp2
   ·have e0:xs[k - 1]?.getD 0 = 0:=by simpa using (by assumption:(xs[k - 1]?.getD 0 == 0) = true)
    refine ⟨⟨k - 1,by omega,rfl,?_⟩,by simp [lenOf];omega⟩
    have h1:=val_take_succ xs (k - 1)
    rw [show k - 1 + 1 = k from by omega,Hv.out] at h1
    have e1:xs.getD (k - 1) 0 = 0:=e0
    rw [e1] at h1
    omega
   ·have e0:xs[k - 1]?.getD 0 ≠ 0:=by simpa using (by assumption:(xs[k - 1]?.getD 0 == 0) = false)
    go_ret
    refine ⟨k,hk,rfl,rfl,Hv.out,.inr ?_⟩
    have hl:=HL.out
    rw [List.length_take,Nat.min_eq_left (by omega),List.getD,List.getElem?_take,if_pos (by omega)]
    exact e0
theorem at_any (A:Option Addr) (n c:Nat) (xs:List Int) (i:Int) (w:World) (h:Row .u32 w A n c xs) (_hn:n <= 1073741824) (hi:0 <= i) :
  Calls Tryz.prog 159 #[.slice A n c,.int .i64 i] w fun e w'=>e = .returned (.int .u32 (xs.getD i.toNat 0)) /\ w = w':=by
 obtain ⟨j,rfl⟩:=Int.eq_ofNat_of_zero_le hi
 obtain ⟨hl,hc,hcell⟩:=h
 rw [Int.toNat_natCast]
 by_cases hj:j < n
 ·obtain ⟨b,o,rfl,hb,hx⟩:=hcell (by omega)
  have hx1:=hx j hj
  clear hx hcell hl
  go_enter Tryz.func159,Tryz.ntmps159
  go_wp2
  go_ret
  exact ⟨rfl,rfl⟩
 ·clear hcell
  have H0:=Hd (getD_out xs j (by omega))
  clear hl
  go_enter Tryz.func159,Tryz.ntmps159
  go_wp2
  go_ret
  exact ⟨by rw [H0.out];rfl,rfl⟩
theorem at_is (A:Option Addr) (n c:Nat) (xs:List Int) (y i:Int) (w:World) (h:Row .u32 w A n c xs) (hn:n <= 1073741824) (hi:0 <= i) (hy:xs.getD i.toNat 0 = y) :
  Calls Tryz.prog 159 #[.slice A n c,.int .i64 i] w fun e w'=>e = .returned (.int .u32 y) /\ w = w':=by
 subst hy
 exact at_any A n c xs i w h hn hi
theorem cmpInt_any (x y:Int) (w:World) : Calls Tryz.prog 156 #[.int .i64 x,.int .i64 y] w fun e w'=>e = .returned (.int .i64 (cmpI x y)) /\ w = w':=by
 rcases Int.lt_trichotomy x y with h | h | h
 ·have H:=Hd (cmpI_lt h)
  have h1:(x == y) = false:=by simp;omega
  go_enter Tryz.func156,Tryz.ntmps156
  go_wp2
  go_ret
  exact ⟨by rw [H.out];rfl,rfl⟩
 ·subst h
  have H:=Hd (cmpI_eq (rfl:x = x))
  go_enter Tryz.func156,Tryz.ntmps156
  go_wp2
  go_ret
  exact ⟨by rw [H.out];rfl,rfl⟩
 ·have H:=Hd (cmpI_gt h)
  have h1:(x == y) = false:=by simp;omega
  go_enter Tryz.func156,Tryz.ntmps156
  go_wp2
  go_ret
  exact ⟨by rw [H.out];rfl,rfl⟩
theorem cmpWord_any (x y:Int) (w:World) : Calls Tryz.prog 157 #[.int .u32 x,.int .u32 y] w fun e w'=>e = .returned (.int .i64 (cmpI x y)) /\ w = w':=by
 rcases Int.lt_trichotomy x y with h | h | h
 ·have H:=Hd (cmpI_lt h)
  have h1:(x == y) = false:=by simp;omega
  go_enter Tryz.func157,Tryz.ntmps157
  go_wp2
  go_ret
  exact ⟨by rw [H.out];rfl,rfl⟩
 ·subst h
  have H:=Hd (cmpI_eq (rfl:x = x))
  go_enter Tryz.func157,Tryz.ntmps157
  go_wp2
  go_ret
  exact ⟨by rw [H.out];rfl,rfl⟩
 ·have H:=Hd (cmpI_gt h)
  have h1:(x == y) = false:=by simp;omega
  go_enter Tryz.func157,Tryz.ntmps157
  go_wp2
  go_ret
  exact ⟨by rw [H.out];rfl,rfl⟩
theorem compare_any (A B:Option Addr) (n m c d:Nat) (xs ys:List Int) (w:World) (h:Row .u32 w A n c xs) (g:Row .u32 w B m d ys) (hn:n <= 1073741824) (hm:m <= 1073741824)
  (hdx:Dig xs) (hdy:Dig ys) (htx:Trimmed xs) (hty:Trimmed ys) :
  Calls Tryz.prog 117 #[.slice A n c,.slice B m d] w fun e w'=>e = .returned (.int .i64 (cmpI (val xs) (val ys))) /\ ∃ q,w' = w.drewN q:=by
 obtain ⟨hl,hc,hcell⟩:=h
 obtain ⟨gl,gc,gcell⟩:=g
 by_cases hnm:n = m
 ·subst hnm
  go_enter Tryz.func117,Tryz.ntmps117
  go_wp2
  go_loopw [5] (fun i wr=>∃ k q:Nat,k <= n /\ i = .int .i64 ((k:Int) - 1) /\ xs.drop k = ys.drop k /\ wr = w.drewN q) (fun i _=>(intOf i + 1).toNat)
  case atStart=>exact ⟨n,0,Nat.le_refl _,rfl,by rw [List.drop_of_length_le (by omega),List.drop_of_length_le (by omega)],rfl⟩
  case round=>
   obtain ⟨k,q,hk,rfl,hv,rfl⟩:=hrel
   have Hv:=Hd hv
   clear hv
   by_cases h0:k = 0
   ·subst h0
    have HE:=Hd (cmpI_eq (congrArg val (by simpa using Hv.out)))
    go_wp2
    go_ret
    exact ⟨by rw [HE.out];rfl,q,rfl⟩
   ·have hn0:n ≠ 0:=by omega
    obtain ⟨b,o,rfl,hb,hx⟩:=hcell hn0
    obtain ⟨b',o',rfl,hb',hy⟩:=gcell hn0
    have hp:(0:Int) < (k:Int):=by omega
    have hx1:w.cell? _ = _:=hx (k - 1) (by omega)
    have hy1:w.cell? _ = _:=hy (k - 1) (by omega)
    clear hx hy hcell gcell
    have HL:=Hd hl
    have GL:=Hd gl
    clear hl gl
    have q1:(0:Int) <= (k:Int) - 1:=by omega
    have q2:(k:Int) - 1 < (n:Int):=by omega
    have q3:((k:Int) - 1).toNat = k - 1:=by omega
    go_wp2
    go_quiet (fail)
    go_wp2
    ·go_quiet ((go_at_call 157;exact quiet_same1 (cmpWord_any _ _)))
     go_wp2
     go_ret
     have hne:xs.getD (k - 1) 0 ≠ ys.getD (k - 1) 0:=bne_iff_ne.1 (by assumption:(xs[k - 1]?.getD 0 != ys[k - 1]?.getD 0) = true)
     refine ⟨?_,_,drewN_3 _ _ _ _⟩
     show Ending.returned (.int .i64 (cmpI (xs.getD (k - 1) 0) (ys.getD (k - 1) 0))) = _
     have e1:k - 1 + 1 = k:=by omega
     have hl:=HL.out
     have gl:=GL.out
     rcases Int.lt_or_gt_of_ne hne with hlt | hlt
     ·rw [cmpI_lt hlt,cmpI_lt (val_lt_at hdx hdy (k - 1) (by omega) (by omega) (by rw [e1];exact Hv.out) hlt)]
     ·rw [cmpI_gt hlt,cmpI_gt (val_lt_at hdy hdx (k - 1) (by omega) (by omega) (by rw [e1];exact Hv.out.symm) hlt)]
    ·have heq:xs.getD (k - 1) 0 = ys.getD (k - 1) 0:=by simpa using (by assumption:(xs[k - 1]?.getD 0 != ys[k - 1]?.getD 0) = false)
     have hl:=HL.out
     have gl:=GL.out
     refine ⟨⟨k - 1,_,by omega,by go_num,?_,rfl⟩,by simp [intOf];omega⟩
     have e1:k - 1 + 1 = k:=by omega
     have ha:=drop_cons xs (k - 1) (by omega)
     have hb:=drop_cons ys (k - 1) (by omega)
     rw [ha,hb,heq,e1,Hv.out]
 ·have h1:(n == m) = false:=by simp;omega
  have h2:((n:Int) == m) = false:=by simp;omega
  go_enter Tryz.func117,Tryz.ntmps117
  go_wp2_with fail
  refine (cmpInt_any _ _ _).mono ?_
  rintro e w' ⟨rfl,rfl⟩
  go_wp2
  go_ret
  refine ⟨?_,0,rfl⟩
  show Ending.returned (.int .i64 (cmpI (n:Int) (m:Int))) = _
  rcases Nat.lt_or_gt_of_ne hnm with hlt | hlt
  ·rw [cmpI_lt (by omega),cmpI_lt (val_lt_of_length hdx hdy hty (by omega))]
  ·rw [cmpI_gt (by omega),cmpI_gt (val_lt_of_length hdy hdx htx (by omega))]
def AddRel (w wr:World) (n:Nat) (xs ys:List Int) (k:Nat) (cc:Int) : Prop:=
 k <= n /\ (0 <= cc /\ cc <= 1) /\ Below w.heap.size w wr /\ ∃ ds:List Int,ds.length = k /\ Dig ds /\ val ds + BB ^ k * cc = val (xs.take k) + val (ys.take k) /\
  Own wr w.heap.size w.heap.size (n + 1) (ds ++ List.replicate (n + 1 - k) 0)
theorem AddRel.cells {w wr:World} {n:Nat} {xs ys:List Int} {k:Nat} {cc:Int} (h:AddRel w wr n xs ys k cc) :
  (∃ u,wr.cell? ⟨w.heap.size,k,none⟩ = some (.int .u32 u)) /\ wr.frozen? ⟨w.heap.size,k,none⟩ = false:=by
 obtain ⟨hk,_,_,ds,_,_,_,ho⟩:=h
 exact ⟨⟨_,ho.cell (by omega)⟩,ho.frozen k⟩
theorem AddRel.step {w wr:World} {n:Nat} {xs ys:List Int} {k:Nat} {cc x y:Int} (h:AddRel w wr n xs ys k cc) (hk:k < n) (hx:0 <= x /\ x < BB) (hy:0 <= y /\ y < BB) (ex:xs.getD k 0 = x) (ey:ys.getD k 0 = y) :
  AddRel w (wr.setCell ⟨w.heap.size,k,none⟩ (.int .u32 ((cc + (x + y)) % 4294967296))) n xs ys (k + 1) ((cc + (x + y)) / 4294967296):=by
 obtain ⟨_,hcc,hb,ds,hl,hd,hv,ho⟩:=h
 obtain ⟨h1,h2,h3⟩:=add_step hl hd hcc hx hy ex ey hv
 refine ⟨hk,h2,hb.setCell (Nat.le_refl _) _,_,by simp [hl],h1,h3,?_⟩
 have:=ho.set k ((cc + (x + y)) % BB)
 rw [set_zeros ds (n + 1) k hl (by omega)] at this
 exact this
theorem AddRel.done {w wr:World} {n:Nat} {xs ys:List Int} {cc:Int} (h:AddRel w wr n xs ys n cc) (hx:xs.length <= n) (hy:ys.length <= n) :
  ∃ zs,Dig zs /\ val zs = val xs + val ys /\ Row .u32 (wr.setCell ⟨w.heap.size,n,none⟩ (.int .u32 cc)) (some ⟨w.heap.size,0,none⟩) (n + 1) (n + 1) zs /\ Below w.heap.size w (wr.setCell ⟨w.heap.size,n,none⟩ (.int .u32 cc)):=by
 obtain ⟨_,hcc,hb,ds,hl,hd,hv,ho⟩:=h
 have:=ho.set n cc
 rw [set_zeros ds (n + 1) n hl (by omega),show n + 1 - (n + 1) = 0 from by omega,List.replicate_zero,List.append_nil] at this
 refine ⟨_,hd.snoc hcc.1 (by rw [BB_def];omega),?_,this.row,hb.setCell (Nat.le_refl _) _⟩
 rw [val_snoc,hl,hv,List.take_of_length_le hx,List.take_of_length_le hy]
theorem add_long (A B:Option Addr) (n m c d:Nat) (xs ys:List Int) (w:World) (h:Row .u32 w A n c xs) (g:Row .u32 w B m d ys) (hn:n <= 1048576) (hm:m <= n)
  (hdx:Dig xs) (hdy:Dig ys) :
  Calls Tryz.prog 167 #[.slice A n c,.slice B m d] w fun e w'=>∃ v,e = .returned v /\ Num w' v (val xs + val ys) (n + 1) /\ Below w.heap.size w w':=by
 obtain ⟨i0,hi,hz0,hz1,hz2⟩:=info_parts Tryz.info135
 obtain ⟨hl,hc,hcell⟩:=h
 have HG:=Hd g
 obtain ⟨gl,gc,gcell⟩:=g
 have HL:=Hd hl
 have GL:=Hd gl
 clear hl gl
 have hnm:¬ (n:Int) < (m:Int):=by omega
 go_enter Tryz.func167,Tryz.ntmps167
 go_wp2_with (at_make;refine wpList_make_full _ rfl _ _ 22 rfl w.heap.size 135 i0 (.int .u32 0) 1 Tryz.underlying22 hi hz0 hz1 _ _ _ _ (n + 1) rfl rfl (by omega) (by omega) (by rw [hz2];omega) (by unfold maxLen;omega) (Nat.le_refl _) ?_;intro w1 hown hgrow)
 go_loopw [6,22] (fun cv iv wr=>∃ (k:Nat) (cc:Int),iv = .int .i64 k /\ cv = .int .u64 cc /\ AddRel w wr n xs ys k cc) (fun _ iv _=>n - (intOf iv).toNat)
 case atStart=>
  refine ⟨0,0,rfl,rfl,Nat.zero_le _,by omega,(Below.refl _ _).grown hgrow (Nat.le_refl _) (fun _ h=>by cases h),[],rfl,Dig.nil,by simp [val],?_⟩
  rw [zeros_made] at hown
  exact hown
 case round=>
  obtain ⟨k,cc,rfl,rfl,hrel⟩:=hrel
  have HR:=Hd hrel
  obtain ⟨⟨u,hu⟩,hf⟩:=hrel.cells
  obtain ⟨hk,hcc,hb,-⟩:=hrel
  obtain ⟨hc0,hc1⟩:=hcc
  by_cases hlt:k < n
  ·obtain ⟨b,o,rfl,hbx,hx⟩:=hcell (by omega)
   obtain ⟨x,ex⟩ : ∃ x,xs.getD k 0 = x:=⟨_,rfl⟩
   obtain ⟨y,ey⟩ : ∃ y,ys.getD k 0 = y:=⟨_,rfl⟩
   have hx1:wr.cell? ⟨b,o + k,none⟩ = some (.int .u32 x):=by rw [<- ex];exact (hb.cell (p:=⟨b,o + k,none⟩) hbx).trans (hx k hlt)
   have bx:=hdx.getD k
   have by':=hdy.getD k
   rw [ex,BB_def] at bx
   rw [ey,BB_def] at by'
   obtain ⟨bx0,bx1⟩:=bx
   obtain ⟨by0,by1⟩:=by'
   have EX:=Hd ex
   have EY:=Hd ey
   clear ex ey hx hcell
   go_wp2_with (go_at_call 159;refine (at_is B m d ys y k _ (HG.out.below hb) (by omega) (by omega) (by rw [Int.toNat_natCast];exact EY.out)).mono ?_;rintro e w' ⟨rfl,rfl⟩)
   go_roundw
   case rel=>exact ⟨k + 1,_,by go_num,rfl,HR.out.step hlt ⟨bx0,bx1⟩ ⟨by0,by1⟩ EX.out EY.out⟩
   case measure=>simp [intOf];omega
  ·obtain rfl:k = n:=by omega
   obtain ⟨zs,hdz,hvz,hrz,hbz⟩:=HR.out.done (by rw [HL.out];exact Nat.le_refl _) (by rw [GL.out];exact hm)
   have HZ:=Hd hvz
   clear hvz
   go_wp2_with fail
   refine (trim_any _ _ _ zs _ hrz (by omega)).mono ?_
   rintro e w' ⟨j,hj,rfl,rfl,hvj,htj⟩
   have HV:=Hd hvj
   clear hvj
   go_wp2
   go_ret
   exact ⟨_,rfl,⟨_,_,_,_,rfl,hrz.take hj,hdz.take _,htj,HV.out.trans HZ.out,hj⟩,hbz⟩
theorem add_short (A B:Option Addr) (n m c d:Nat) (xs ys:List Int) (w:World) (h:Row .u32 w A n c xs) (g:Row .u32 w B m d ys) (hn:n <= 1048576) (hm:m < n)
  (hdx:Dig xs) (hdy:Dig ys) :
  Calls Tryz.prog 167 #[.slice B m d,.slice A n c] w fun e w'=>∃ v,e = .returned v /\ Num w' v (val xs + val ys) (n + 1) /\ Below w.heap.size w w':=by
 obtain ⟨i0,hi,hz0,hz1,hz2⟩:=info_parts Tryz.info135
 obtain ⟨hl,hc,hcell⟩:=h
 have HG:=Hd g
 obtain ⟨gl,gc,gcell⟩:=g
 have HL:=Hd hl
 have GL:=Hd gl
 clear hl gl
 have hnm:(m:Int) < (n:Int):=by omega
 go_enter Tryz.func167,Tryz.ntmps167
 go_wp2_with (at_make;refine wpList_make_full _ rfl _ _ 22 rfl w.heap.size 135 i0 (.int .u32 0) 1 Tryz.underlying22 hi hz0 hz1 _ _ _ _ (n + 1) rfl rfl (by omega) (by omega) (by rw [hz2];omega) (by unfold maxLen;omega) (Nat.le_refl _) ?_;intro w1 hown hgrow)
 go_loopw [6,22] (fun cv iv wr=>∃ (k:Nat) (cc:Int),iv = .int .i64 k /\ cv = .int .u64 cc /\ AddRel w wr n xs ys k cc) (fun _ iv _=>n - (intOf iv).toNat)
 case atStart=>
  refine ⟨0,0,rfl,rfl,Nat.zero_le _,by omega,(Below.refl _ _).grown hgrow (Nat.le_refl _) (fun _ h=>by cases h),[],rfl,Dig.nil,by simp [val],?_⟩
  rw [zeros_made] at hown
  exact hown
 case round=>
  obtain ⟨k,cc,rfl,rfl,hrel⟩:=hrel
  have HR:=Hd hrel
  obtain ⟨⟨u,hu⟩,hf⟩:=hrel.cells
  obtain ⟨hk,hcc,hb,-⟩:=hrel
  obtain ⟨hc0,hc1⟩:=hcc
  by_cases hlt:k < n
  ·obtain ⟨b,o,rfl,hbx,hx⟩:=hcell (by omega)
   obtain ⟨x,ex⟩ : ∃ x,xs.getD k 0 = x:=⟨_,rfl⟩
   obtain ⟨y,ey⟩ : ∃ y,ys.getD k 0 = y:=⟨_,rfl⟩
   have hx1:wr.cell? ⟨b,o + k,none⟩ = some (.int .u32 x):=by rw [<- ex];exact (hb.cell (p:=⟨b,o + k,none⟩) hbx).trans (hx k hlt)
   have bx:=hdx.getD k
   have by':=hdy.getD k
   rw [ex,BB_def] at bx
   rw [ey,BB_def] at by'
   obtain ⟨bx0,bx1⟩:=bx
   obtain ⟨by0,by1⟩:=by'
   have EX:=Hd ex
   have EY:=Hd ey
   clear ex ey hx hcell
   go_wp2_with (go_at_call 159;refine (at_is B m d ys y k _ (HG.out.below hb) (by omega) (by omega) (by rw [Int.toNat_natCast];exact EY.out)).mono ?_;rintro e w' ⟨rfl,rfl⟩)
   go_roundw
   case rel=>exact ⟨k + 1,_,by go_num,rfl,HR.out.step hlt ⟨bx0,bx1⟩ ⟨by0,by1⟩ EX.out EY.out⟩
   case measure=>simp [intOf];omega
  ·obtain rfl:k = n:=by omega
   obtain ⟨zs,hdz,hvz,hrz,hbz⟩:=HR.out.done (by rw [HL.out];exact Nat.le_refl _) (by rw [GL.out];exact Nat.le_of_lt hm)
   have HZ:=Hd hvz
   clear hvz
   go_wp2_with fail
   refine (trim_any _ _ _ zs _ hrz (by omega)).mono ?_
   rintro e w' ⟨j,hj,rfl,rfl,hvj,htj⟩
   have HV:=Hd hvj
   clear hvj
   go_wp2
   go_ret
   exact ⟨_,rfl,⟨_,_,_,_,rfl,hrz.take hj,hdz.take _,htj,HV.out.trans HZ.out,hj⟩,hbz⟩
theorem Num.mono {w:World} {v:Value} {z:Int} {L L':Nat} (h:Num w v z L) (hL:L <= L') : Num w v z L':=by
 obtain ⟨A,n,c,xs,e,r,d,t,hv,hn⟩:=h
 exact ⟨A,n,c,xs,e,r,d,t,hv,Nat.le_trans hn hL⟩
theorem add_num (u v:Value) (x y:Int) (L M:Nat) (w:World) (h:Num w u x L) (g:Num w v y M) (hL:L <= 1048576) (hM:M <= 1048576) :
  Calls Tryz.prog 167 #[u,v] w fun e w'=>∃ r,e = .returned r /\ Num w' r (x + y) (max L M + 1) /\ Below w.heap.size w w':=by
 obtain ⟨A,n,c,xs,rfl,hr,hd,_,rfl,hn⟩:=h
 obtain ⟨B,m,d,ys,rfl,gr,gd,_,rfl,hm⟩:=g
 rcases Nat.lt_or_ge n m with hnm | hnm
 ·refine (add_short B A m n d c ys xs w gr hr (by omega) hnm gd hd).mono ?_
  rintro e w' ⟨r,he,hr,hb⟩
  exact ⟨r,he,by rw [Int.add_comm];exact hr.mono (by omega),hb⟩
 ·refine (add_long A B n m c d xs ys w hr gr (by omega) hnm hd gd).mono ?_
  rintro e w' ⟨r,he,hr,hb⟩
  exact ⟨r,he,hr.mono (by omega),hb⟩
theorem top_bit (n:Nat) (h:n < 4294967296) : n / 2147483648 = (n.testBit 31).toNat:=by
 have e:n.testBit 31 = decide (n / 2 ^ 31 % 2 = 1):=Nat.testBit_eq_decide_div_mod_eq
 rw [e]
 have:(2:Nat) ^ 31 = 2147483648:=by decide
 rw [this]
 by_cases hn:n < 2147483648
 ·rw [Nat.div_eq_of_lt hn];rfl
 ·have e1:n / 2147483648 = 1:=by omega
  rw [e1];rfl
theorem bit31 (n:Nat) (h:n < 4294967296) : n.testBit 31 = decide (2147483648 <= n):=by
 have h1:=top_bit n h
 cases hb:n.testBit 31 <;> rw [hb] at h1 <;> simp at h1 ⊢ <;> omega
def borrowOf (x y b:Int) : Int:=if x < y + b then 1 else 0
theorem borrow_nat (X Y D:Nat) (b:Int) (hx:X < 4294967296) (hy:Y < 4294967296) (hd:D < 4294967296) (hb:0 <= b /\ b <= 1) (e:((X:Int) - Y - b) % 4294967296 = D) :
  ((((4294967295 ^^^ X) &&& Y ||| (4294967295 ^^^ (X ^^^ Y)) &&& D) / 2147483648:Nat) : Int) = borrowOf X Y b:=by
 have hM:(4294967295:Nat).testBit 31 = true:=by decide
 have h1:(4294967295 ^^^ X) < 2 ^ 32:=Nat.xor_lt_two_pow (by decide) (by omega)
 have h2:(X ^^^ Y) < 2 ^ 32:=Nat.xor_lt_two_pow (by omega) (by omega)
 have h3:(4294967295 ^^^ (X ^^^ Y)) < 2 ^ 32:=Nat.xor_lt_two_pow (by decide) h2
 have h4:((4294967295 ^^^ X) &&& Y ||| (4294967295 ^^^ (X ^^^ Y)) &&& D) < 2 ^ 32:=
  Nat.or_lt_two_pow (Nat.and_lt_two_pow _ (by omega)) (Nat.and_lt_two_pow _ (by omega))
 rw [top_bit _ (by omega)]
 simp only [Nat.testBit_or,Nat.testBit_and,Nat.testBit_xor,hM,bit31 X hx,bit31 Y hy,bit31 D hd]
 unfold borrowOf
 by_cases c1:2147483648 <= X <;> by_cases c2:2147483648 <= Y <;> by_cases c3:2147483648 <= D <;> simp only [c1,c2,c3] <;> (split <;> simp <;> omega)
theorem borrow_bits (x y b:Int) (hx:0 <= x /\ x < 4294967296) (hy:0 <= y /\ y < 4294967296) (hb:0 <= b /\ b <= 1) :
  bits BinOp.or IntKind.u32 (bits BinOp.and IntKind.u32 (bits BinOp.xor IntKind.u32 IntKind.u32.max x) y)
   (bits BinOp.and IntKind.u32 (bits BinOp.xor IntKind.u32 IntKind.u32.max (bits BinOp.xor IntKind.u32 x y)) ((x - y - b) % 4294967296)) / 2147483648 = borrowOf x y b:=by
 obtain ⟨X,rfl⟩:=Int.eq_ofNat_of_zero_le hx.1
 obtain ⟨Y,rfl⟩:=Int.eq_ofNat_of_zero_le hy.1
 obtain ⟨D,hD⟩:=Int.eq_ofNat_of_zero_le (Int.emod_nonneg ((X:Int) - Y - b) (by decide:(4294967296:Int) ≠ 0))
 have hd:D < 4294967296:=by omega
 have hX:X < 4294967296:=by omega
 have hY:Y < 4294967296:=by omega
 have hm:IntKind.u32.max = ((4294967295:Nat) : Int):=by decide
 have h1:(4294967295 ^^^ X) < 2 ^ 32:=Nat.xor_lt_two_pow (by decide) (by omega)
 have h2:(X ^^^ Y) < 2 ^ 32:=Nat.xor_lt_two_pow (by omega) (by omega)
 have h3:(4294967295 ^^^ (X ^^^ Y)) < 2 ^ 32:=Nat.xor_lt_two_pow (by decide) h2
 have h5:((4294967295 ^^^ X) &&& Y) < 2 ^ 32:=Nat.and_lt_two_pow _ (by omega)
 have h6:((4294967295 ^^^ (X ^^^ Y)) &&& D) < 2 ^ 32:=Nat.and_lt_two_pow _ (by omega)
 rw [hD,hm,u32_xor_nat _ _ (by decide) hX,u32_xor_nat _ _ hX hY,u32_xor_nat _ _ (by decide) (by omega),u32_and_nat _ _ (by omega) hY,u32_and_nat _ _ (by omega) hd,
  u32_or_nat _ _ (by omega) (by omega)]
 exact borrow_nat X Y D b hX hY hd hb hD
theorem sub32_any (x y b:Int) (w:World) (hx:0 <= x /\ x < 4294967296) (hy:0 <= y /\ y < 4294967296) (hb:0 <= b /\ b <= 1) :
  Calls Tryz.prog 184 #[.int .u32 x,.int .u32 y,.int .u32 b] w fun e w'=>e = .returned (.tuple #[.int .u32 ((x - y - b) % 4294967296),.int .u32 (borrowOf x y b)]) /\ w = w':=by
 have H:=Hd (borrow_bits x y b hx hy hb)
 have hs:¬ IntKind.u32.signed = true:=by decide
 go_enter Tryz.func184,Tryz.ntmps184
 go_wp2
 go_ret2
 have e:((x - y) % 4294967296 - b) % 4294967296 = (x - y - b) % 4294967296:=by omega
 refine ⟨?_,rfl⟩
 rw [<- H.out]
 exact congrArg (fun t=>Ending.returned (.tuple #[.int .u32 t,.int .u32 (bits BinOp.or IntKind.u32 (bits BinOp.and IntKind.u32 (bits BinOp.xor IntKind.u32 IntKind.u32.max x) y)
   (bits BinOp.and IntKind.u32 (bits BinOp.xor IntKind.u32 IntKind.u32.max (bits BinOp.xor IntKind.u32 x y)) ((x - y - b) % 4294967296)) / 2147483648)])) e
def SubRel (w wr:World) (n:Nat) (xs ys:List Int) (k:Nat) (cc:Int) : Prop:=
 k <= n /\ (0 <= cc /\ cc <= 1) /\ Below w.heap.size w wr /\ ∃ ds:List Int,ds.length = k /\ Dig ds /\ val ds - BB ^ k * cc = val (xs.take k) - val (ys.take k) /\
  Own wr w.heap.size w.heap.size n (ds ++ List.replicate (n - k) 0)
theorem SubRel.cells {w wr:World} {n:Nat} {xs ys:List Int} {k:Nat} {cc:Int} (h:SubRel w wr n xs ys k cc) (hk:k < n) :
  (∃ u,wr.cell? ⟨w.heap.size,k,none⟩ = some (.int .u32 u)) /\ wr.frozen? ⟨w.heap.size,k,none⟩ = false:=by
 obtain ⟨_,_,_,ds,_,_,_,ho⟩:=h
 exact ⟨⟨_,ho.cell hk⟩,ho.frozen k⟩
theorem sub_step {ds xs ys:List Int} {k:Nat} {cc x y:Int} (hl:ds.length = k) (hd:Dig ds) (hc:0 <= cc /\ cc <= 1) (hx:0 <= x /\ x < BB) (hy:0 <= y /\ y < BB)
  (ex:xs.getD k 0 = x) (ey:ys.getD k 0 = y) (hv:val ds - BB ^ k * cc = val (xs.take k) - val (ys.take k)) :
  Dig (ds ++ [(x - y - cc) % BB]) /\ (0 <= borrowOf x y cc /\ borrowOf x y cc <= 1) /\
   val (ds ++ [(x - y - cc) % BB]) - BB ^ (k + 1) * borrowOf x y cc = val (xs.take (k + 1)) - val (ys.take (k + 1)):=by
 have hq:(x - y - cc) / BB = - borrowOf x y cc:=by
  unfold borrowOf;rw [BB_def] at *;split <;> omega
 have hs:=digit_split (x - y - cc)
 rw [hq] at hs
 refine ⟨hd.snoc (Int.emod_nonneg _ (by decide)) (Int.emod_lt_of_pos _ (by decide)),?_,?_⟩
 ·unfold borrowOf;split <;> omega
 ·rw [val_snoc,hl,val_take_succ,val_take_succ,ex,ey]
  have h1:=pow_split k ((x - y - cc) % BB) (- borrowOf x y cc)
  rw [hs,Int.mul_sub,Int.mul_sub,Int.mul_neg] at h1
  omega
theorem SubRel.step {w wr:World} {n:Nat} {xs ys:List Int} {k:Nat} {cc x y:Int} (h:SubRel w wr n xs ys k cc) (hk:k < n) (hx:0 <= x /\ x < BB) (hy:0 <= y /\ y < BB) (ex:xs.getD k 0 = x) (ey:ys.getD k 0 = y) :
  SubRel w (wr.setCell ⟨w.heap.size,k,none⟩ (.int .u32 ((x - y - cc) % 4294967296))) n xs ys (k + 1) (borrowOf x y cc):=by
 obtain ⟨_,hcc,hb,ds,hl,hd,hv,ho⟩:=h
 obtain ⟨h1,h2,h3⟩:=sub_step hl hd hcc hx hy ex ey hv
 refine ⟨hk,h2,hb.setCell (Nat.le_refl _) _,_,by simp [hl],h1,h3,?_⟩
 have:=ho.set k ((x - y - cc) % BB)
 rw [set_zeros ds n k hl hk] at this
 exact this
theorem SubRel.done {w wr:World} {n:Nat} {xs ys:List Int} {cc:Int} (h:SubRel w wr n xs ys n cc) (hx:xs.length <= n) (hy:ys.length <= n) (hle:val ys <= val xs) :
  ∃ zs,Dig zs /\ val zs = val xs - val ys /\ Row .u32 wr (some ⟨w.heap.size,0,none⟩) n n zs /\ Below w.heap.size w wr:=by
 obtain ⟨_,hcc,hb,ds,hl,hd,hv,ho⟩:=h
 rw [Nat.sub_self,List.replicate_zero,List.append_nil] at ho
 refine ⟨_,hd,?_,ho.row,hb⟩
 rw [List.take_of_length_le hx,List.take_of_length_le hy] at hv
 have b1:=val_bounds hd
 rw [hl] at b1
 have hc:cc = 0 \/ cc = 1:=by omega
 rcases hc with rfl | rfl <;> omega
theorem subtract_any (A B:Option Addr) (n m c d:Nat) (xs ys:List Int) (w:World) (h:Row .u32 w A n c xs) (g:Row .u32 w B m d ys) (hn:n <= 1048577) (hm:m <= n)
  (hdx:Dig xs) (hdy:Dig ys) (hle:val ys <= val xs) :
  Calls Tryz.prog 168 #[.slice A n c,.slice B m d] w fun e w'=>∃ v,e = .returned v /\ Num w' v (val xs - val ys) n /\ Below w.heap.size w w':=by
 obtain ⟨i0,hi,hz0,hz1,hz2⟩:=info_parts Tryz.info135
 obtain ⟨hl,hc,hcell⟩:=h
 have HG:=Hd g
 have HLE:=Hd hle
 clear hle
 obtain ⟨gl,gc,gcell⟩:=g
 have HL:=Hd hl
 have GL:=Hd gl
 clear hl gl
 go_enter Tryz.func168,Tryz.ntmps168
 go_wp2_with (at_make;refine wpList_make_full _ rfl _ _ 22 rfl w.heap.size 135 i0 (.int .u32 0) 1 Tryz.underlying22 hi hz0 hz1 _ _ _ _ n rfl rfl (by omega) (by omega) (by rw [hz2];omega) (by unfold maxLen;omega) (Nat.le_refl _) ?_;intro w1 hown hgrow)
 go_loopw [6,14] (fun cv iv wr=>∃ (k:Nat) (cc:Int),iv = .int .i64 k /\ cv = .int .u32 cc /\ SubRel w wr n xs ys k cc) (fun _ iv _=>n - (intOf iv).toNat)
 case atStart=>
  refine ⟨0,0,rfl,rfl,Nat.zero_le _,by omega,(Below.refl _ _).grown hgrow (Nat.le_refl _) (fun _ h=>by cases h),[],rfl,Dig.nil,by simp [val],?_⟩
  rw [zeros_made] at hown
  exact hown
 case round=>
  obtain ⟨k,cc,rfl,rfl,hrel⟩:=hrel
  have HR:=Hd hrel
  by_cases hlt:k < n
  ·obtain ⟨⟨u,hu⟩,hf⟩:=hrel.cells hlt
   obtain ⟨hk,hcc,hb,-⟩:=hrel
   obtain ⟨hc0,hc1⟩:=hcc
   obtain ⟨b,o,rfl,hbx,hx⟩:=hcell (by omega)
   obtain ⟨x,ex⟩ : ∃ x,xs.getD k 0 = x:=⟨_,rfl⟩
   obtain ⟨y,ey⟩ : ∃ y,ys.getD k 0 = y:=⟨_,rfl⟩
   have hx1:wr.cell? ⟨b,o + k,none⟩ = some (.int .u32 x):=by rw [<- ex];exact (hb.cell (p:=⟨b,o + k,none⟩) hbx).trans (hx k hlt)
   have bx:=hdx.getD k
   have by':=hdy.getD k
   rw [ex,BB_def] at bx
   rw [ey,BB_def] at by'
   obtain ⟨bx0,bx1⟩:=bx
   obtain ⟨by0,by1⟩:=by'
   have EX:=Hd ex
   have EY:=Hd ey
   clear ex ey hx hcell
   go_wp2_with (first | (go_at_call 159;refine (at_is B m d ys y k _ (HG.out.below hb) (by omega) (by omega) (by rw [Int.toNat_natCast];exact EY.out)).mono ?_;rintro e w' ⟨rfl,rfl⟩) | (go_at_call 184;refine (sub32_any x y cc _ ⟨bx0,bx1⟩ ⟨by0,by1⟩ ⟨hc0,hc1⟩).mono ?_;rintro e w' ⟨rfl,rfl⟩))
   go_roundw
   case rel=>exact ⟨k + 1,_,by go_num,rfl,HR.out.step hlt ⟨bx0,bx1⟩ ⟨by0,by1⟩ EX.out EY.out⟩
   case measure=>simp [intOf];omega
  ·obtain ⟨hk,-,-,-⟩:=hrel
   obtain rfl:k = n:=by omega
   obtain ⟨zs,hdz,hvz,hrz,hbz⟩:=HR.out.done (by rw [HL.out];exact Nat.le_refl _) (by rw [GL.out];exact hm) HLE.out
   have HZ:=Hd hvz
   clear hvz
   go_wp2_with fail
   refine (trim_any _ _ _ zs _ hrz (by omega)).mono ?_
   rintro e w' ⟨j,hj,rfl,rfl,hvj,htj⟩
   have HV:=Hd hvj
   clear hvj
   go_wp2
   go_ret
   exact ⟨_,rfl,⟨_,_,_,_,rfl,hrz.take hj,hdz.take _,htj,HV.out.trans HZ.out,hj⟩,hbz⟩
theorem subtract_num (u v:Value) (x y:Int) (L M:Nat) (w:World) (h:Num w u x L) (g:Num w v y M) (hL:L <= 1048577) (hle:y <= x) :
  Calls Tryz.prog 168 #[u,v] w fun e w'=>∃ r,e = .returned r /\ Num w' r (x - y) L /\ Below w.heap.size w w':=by
 obtain ⟨A,n,c,xs,rfl,hr,hd,ht,rfl,hn⟩:=h
 obtain ⟨B,m,d,ys,rfl,gr,gd,gt,rfl,hm⟩:=g
 have hmn:m <= n:=by
  rcases Nat.lt_or_ge n m with hnm | hnm
  ·have:=val_lt_of_length hd gd gt (by rw [hr.1,gr.1];exact hnm);omega
  ·exact hnm
 refine (subtract_any A B n m c d xs ys w hr gr (by omega) hmn hd gd hle).mono ?_
 rintro e w' ⟨r,he,hr,hb⟩
 exact ⟨r,he,hr.mono hn,hb⟩
def MulRel (w wr:World) (n m:Nat) (xs ys:List Int) (i:Nat) : Prop:=
 i <= n /\ Below w.heap.size w wr /\ ∃ ds:List Int,ds.length = i + m /\ Dig ds /\ val ds = val (xs.take i) * val ys /\
  Own wr w.heap.size w.heap.size (n + m) (ds ++ List.replicate (n - i) 0)
def RowRel (w wr:World) (n m:Nat) (xs ys:List Int) (i k:Nat) (cc:Int) : Prop:=
 i < n /\ k <= m /\ (0 <= cc /\ cc < BB) /\ Below w.heap.size w wr /\ ∃ cs:List Int,cs.length = i + m /\ Dig cs /\
  val cs + BB ^ (i + k) * cc = val (xs.take i) * val ys + BB ^ i * (xs.getD i 0 * val (ys.take k)) /\
  Own wr w.heap.size w.heap.size (n + m) (cs ++ List.replicate (n - i) 0)
theorem val_set (l:List Int) (i:Nat) (d:Int) (h:i < l.length) : val (l.set i d) = val l + BB ^ i * (d - l.getD i 0):=by
 have e1:l.set i d = l.take i ++ d :: l.drop (i + 1):=List.set_eq_take_append_cons_drop.trans (if_pos h)
 have e2:val l = val (l.take i) + BB ^ i * val (l.getD i 0 :: l.drop (i + 1)):=by rw [<- drop_cons l i h];exact val_split l i (by omega)
 rw [e1,val_append,List.length_take,Nat.min_eq_left (by omega),e2,val_cons,val_cons,Int.mul_add,Int.mul_add,Int.mul_sub]
 omega
theorem LM.Dig.set {l:List Int} (h:Dig l) (i:Nat) {d:Int} (h0:0 <= d) (h1:d < BB) : Dig (l.set i d):=by
 intro j hj
 have hj':j < l.length:=by simpa using hj
 by_cases e:i = j
 ·subst e;simp [List.getD,hj',h0,h1]
 ·have:=h j hj'
  simpa [List.getD,List.getElem?_set,e] using this
theorem mul_bound {x y:Int} (hx:0 <= x /\ x < BB) (hy:0 <= y /\ y < BB) : 0 <= x * y /\ x * y <= 18446744065119617025:=by
 refine ⟨Int.mul_nonneg hx.1 hy.1,?_⟩
 rw [BB_def] at hx hy
 have h1:x * y <= 4294967295 * y:=Int.mul_le_mul_of_nonneg_right (by omega) hy.1
 omega
theorem RowRel.start {w wr:World} {n m:Nat} {xs ys:List Int} {i:Nat} (h:MulRel w wr n m xs ys i) (hi:i < n) : RowRel w wr n m xs ys i 0 0:=by
 obtain ⟨_,hb,ds,hl,hd,hv,ho⟩:=h
 exact ⟨hi,Nat.zero_le _,⟨by decide,by decide⟩,hb,ds,hl,hd,by simp [hv,val],ho⟩
theorem RowRel.cells {w wr:World} {n m:Nat} {xs ys:List Int} {i k:Nat} {cc:Int} (h:RowRel w wr n m xs ys i k cc) (hk:k < m) :
  ∃ u,(wr.cell? ⟨w.heap.size,i + k,none⟩ = some (.int .u32 u) /\ wr.frozen? ⟨w.heap.size,i + k,none⟩ = false /\ 0 <= u /\ u < 4294967296) /\
   ∀ y,ys.getD k 0 = y -> 0 <= y /\ y < BB -> 0 <= xs.getD i 0 /\ xs.getD i 0 < BB ->
    RowRel w (wr.setCell ⟨w.heap.size,i + k,none⟩ (.int .u32 ((cc + (xs.getD i 0 * y + u)) % 4294967296))) n m xs ys i (k + 1) ((cc + (xs.getD i 0 * y + u)) / 4294967296):=by
 obtain ⟨hi,_,hcc,hb,cs,hl,hd,hv,ho⟩:=h
 have e:(cs ++ List.replicate (n - i) 0).getD (i + k) 0 = cs.getD (i + k) 0:=by
  simp [List.getD,List.getElem?_append_left,hl,hk]
 have hu:=hd.getD (i + k)
 refine ⟨cs.getD (i + k) 0,⟨by rw [<- e];exact ho.cell (by omega),ho.frozen _,hu⟩,fun y hy by' bx=>?_⟩
 have hp:=mul_bound bx by'
 generalize hs:cc + (xs.getD i 0 * y + cs.getD (i + k) 0) = s
 have h0:0 <= s:=by rw [<- hs];omega
 have h2:s / 4294967296 < 4294967296:=by rw [BB_def] at *;omega
 have hset:=ho.set (i + k) (s % BB)
 rw [List.set_append_left _ _ (by omega)] at hset
 refine ⟨hi,hk,⟨by omega,h2⟩,hb.setCell (Nat.le_refl _) _,cs.set (i + k) (s % BB),by simpa using hl,hd.set _ (Int.emod_nonneg _ (by decide)) (Int.emod_lt_of_pos _ (by decide)),?_,hset⟩
 rw [val_set _ _ _ (by omega),val_take_succ,hy]
 have e1:=pow_split (i + k) (s % BB) (s / BB)
 rw [digit_split,show BB ^ (i + k) * s = BB ^ (i + k) * cc + (BB ^ (i + k) * (xs.getD i 0 * y) + BB ^ (i + k) * cs.getD (i + k) 0) from by rw [<- hs,Int.mul_add,Int.mul_add]] at e1
 have e2:BB ^ i * (xs.getD i 0 * (val (ys.take k) + BB ^ k * y)) = BB ^ i * (xs.getD i 0 * val (ys.take k)) + BB ^ (i + k) * (xs.getD i 0 * y):=by
  rw [Int.pow_add];grind
 rw [e2,Int.mul_sub]
 have e3:s / 4294967296 = s / BB:=rfl
 rw [e3,show i + (k + 1) = i + k + 1 from rfl]
 omega
theorem MulRel.next {w wr:World} {n m:Nat} {xs ys:List Int} {i:Nat} {cc:Int} (h:RowRel w wr n m xs ys i m cc) (hm:ys.length <= m) :
  (∃ u,wr.cell? ⟨w.heap.size,i + m,none⟩ = some (.int .u32 u)) /\ wr.frozen? ⟨w.heap.size,i + m,none⟩ = false /\ (0 <= cc /\ cc < 4294967296) /\
   MulRel w (wr.setCell ⟨w.heap.size,i + m,none⟩ (.int .u32 cc)) n m xs ys (i + 1):=by
 obtain ⟨hi,_,hcc,hb,cs,hl,hd,hv,ho⟩:=h
 have hset:=ho.set (i + m) cc
 have e:(cs ++ List.replicate (n - i) 0).set (i + m) cc = (cs ++ [cc]) ++ List.replicate (n - (i + 1)) 0:=by
  have:=set_zeros cs (n + m) (i + m) hl (by omega) cc
  rw [show n + m - (i + m) = n - i from by omega,show n + m - (i + m + 1) = n - (i + 1) from by omega] at this
  exact this
 rw [e] at hset
 refine ⟨⟨_,ho.cell (by omega)⟩,ho.frozen _,hcc,hi,hb.setCell (Nat.le_refl _) _,_,by simp [hl];omega,hd.snoc hcc.1 hcc.2,?_,hset⟩
 rw [val_snoc,hl,hv,List.take_of_length_le hm,val_take_succ,Int.add_mul]
 grind
theorem multiply_any (A B:Option Addr) (n m c d:Nat) (xs ys:List Int) (w:World) (h:Row .u32 w A n c xs) (g:Row .u32 w B m d ys) (hn:n <= 1048577) (hm:m <= 1048577)
  (hn0:n ≠ 0) (hm0:m ≠ 0) (hdx:Dig xs) (hdy:Dig ys) :
  Calls Tryz.prog 136 #[.slice A n c,.slice B m d] w fun e w'=>∃ v,e = .returned v /\ Num w' v (val xs * val ys) (n + m) /\ Below w.heap.size w w':=by
 obtain ⟨i0,hi,hz0,hz1,hz2⟩:=info_parts Tryz.info135
 obtain ⟨hl,hc,hcell⟩:=h
 obtain ⟨gl,gc,gcell⟩:=g
 obtain ⟨b,o,rfl,hbx,hx⟩:=hcell hn0
 obtain ⟨b',o',rfl,hby,hy⟩:=gcell hm0
 have HX:=Hd hx
 have HY:=Hd hy
 have HL:=Hd hl
 have GL:=Hd gl
 clear hl gl hx hy hcell gcell
 have z1:((n:Int) == 0) = false:=by simp;omega
 have z2:((m:Int) == 0) = false:=by simp;omega
 go_enter Tryz.func136,Tryz.ntmps136
 go_wp2_with (at_make;refine wpList_make_full _ rfl _ _ 22 rfl w.heap.size 135 i0 (.int .u32 0) 1 Tryz.underlying22 hi hz0 hz1 _ _ _ _ (n + m) rfl rfl (by omega) (by omega) (by rw [hz2];omega) (by unfold maxLen;omega) (Nat.le_refl _) ?_;intro w1 hown hgrow)
 go_loopw [28] (fun iv wr=>∃ i:Nat,iv = .int .i64 i /\ MulRel w wr n m xs ys i) (fun iv _=>n - (intOf iv).toNat)
 case atStart=>
  refine ⟨0,rfl,Nat.zero_le _,(Below.refl _ _).grown hgrow (Nat.le_refl _) (fun _ h=>by cases h),List.replicate m 0,by simp,?_,by simp [val_zeros,val],?_⟩
  ·intro i hi;simp at hi;simp [List.getD,hi];decide
  ·rw [zeros_made] at hown
   rw [List.replicate_append_replicate,Nat.sub_zero,Nat.add_comm m n]
   exact hown
 case round=>
  obtain ⟨i,rfl,hrel⟩:=hrel
  have HR:=Hd hrel
  obtain ⟨hk,hb,-⟩:=hrel
  by_cases hlt:i < n
  ·obtain ⟨x,ex⟩ : ∃ x,xs.getD i 0 = x:=⟨_,rfl⟩
   have hx1:wr.cell? ⟨b,o + i,none⟩ = some (.int .u32 x):=by rw [<- ex];exact (hb.cell (p:=⟨b,o + i,none⟩) hbx).trans (HX.out i hlt)
   have bx:=hdx.getD i
   rw [ex,BB_def] at bx
   obtain ⟨bx0,bx1⟩:=bx
   have EX:=Hd ex
   clear ex
   go_wp2_with fail
   obtain ⟨wo,rfl⟩ : ∃ wo:World,wo = wr:=⟨_,rfl⟩
   go_loopw [8,42] (fun cv kv wx=>∃ (k:Nat) (cc:Int),kv = .int .i64 k /\ cv = .int .u64 cc /\ RowRel w wx n m xs ys i k cc) (fun _ kv _=>m - (intOf kv).toNat)
   case atStart=>exact ⟨0,0,rfl,rfl,RowRel.start HR.out hlt⟩
   case round=>
    obtain ⟨k,cc,rfl,rfl,hrow⟩:=hrel
    have HW:=Hd hrow
    obtain ⟨_,hkm,hcc,hbw,-⟩:=hrow
    obtain ⟨cc0,cc1⟩:=hcc
    rw [BB_def] at cc1
    by_cases hk2:k < m
    ·obtain ⟨u,⟨hu,hf,hu0,hu1⟩,hnext⟩:=HW.out.cells hk2
     obtain ⟨y,ey⟩ : ∃ y,ys.getD k 0 = y:=⟨_,rfl⟩
     have hy1:wr.cell? ⟨b',o' + k,none⟩ = some (.int .u32 y):=by rw [<- ey];exact (hbw.cell (p:=⟨b',o' + k,none⟩) hby).trans (HY.out k hk2)
     have by':=hdy.getD k
     rw [ey] at by'
     have hnext':=hnext y ey by' (hdx.getD i)
     clear hnext
     rw [EX.out] at hnext'
     have HN:=Hd hnext'
     clear hnext' ey
     obtain ⟨p0,p1⟩:=mul_bound (x:=x) (y:=y) ⟨bx0,bx1⟩ by'
     obtain ⟨by0,by1⟩:=by'
     rw [BB_def] at by1
     go_wp2_with fail
     exact ⟨⟨k + 1,_,by go_num,rfl,HN.out⟩,by simp [intOf];omega⟩
    ·obtain rfl:k = m:=by omega
     obtain ⟨⟨u,hu⟩,hf,_,hnext⟩:=MulRel.next HW.out (by rw [GL.out];exact Nat.le_refl _)
     have HN:=Hd hnext
     clear hnext
     go_wp2_with fail
     exact ⟨⟨i + 1,by go_num,HN.out⟩,by simp [intOf];omega⟩
  ·obtain rfl:i = n:=by omega
   go_wp2_with fail
   obtain ⟨_,_,ds,hdl,hdd,hdv,ho⟩:=HR.out
   rw [Nat.sub_self,List.replicate_zero,List.append_nil] at ho
   refine (trim_any _ _ _ ds _ ho.row (by omega)).mono ?_
   rintro e w' ⟨j,hj,rfl,rfl,hvj,htj⟩
   have HV:=Hd (hvj.trans hdv)
   clear hvj hdv hdl
   go_wp2
   go_ret
   refine ⟨_,rfl,⟨_,_,_,_,rfl,ho.row.take hj,hdd.take _,htj,?_,hj⟩,hb⟩
   rw [HV.out,List.take_of_length_le (by rw [HL.out];exact Nat.le_refl _)]
theorem multiply_none (A B:Option Addr) (n m c d:Nat) (w:World) (h:n = 0 \/ m = 0) :
  Calls Tryz.prog 136 #[.slice A n c,.slice B m d] w fun e w'=>e = .returned (.slice none 0 0) /\ w = w':=by
 by_cases hn:n = 0
 ·subst hn
  go_enter Tryz.func136,Tryz.ntmps136
  go_wp2
  go_ret
  exact ⟨rfl,rfl⟩
 ·obtain rfl:m = 0:=by omega
  have z1:((n:Int) == 0) = false:=by simp;omega
  go_enter Tryz.func136,Tryz.ntmps136
  go_wp2
  go_ret
  exact ⟨rfl,rfl⟩
theorem Num.zero (w:World) (L:Nat) : Num w (.slice none 0 0) 0 L:=⟨none,0,0,[],rfl,Row.nil_,Dig.nil,.inl rfl,rfl,Nat.zero_le _⟩
theorem multiply_num (u v:Value) (x y:Int) (L M:Nat) (w:World) (h:Num w u x L) (g:Num w v y M) (hL:L <= 1048577) (hM:M <= 1048577) :
  Calls Tryz.prog 136 #[u,v] w fun e w'=>∃ r,e = .returned r /\ Num w' r (x * y) (L + M) /\ Below w.heap.size w w':=by
 obtain ⟨A,n,c,xs,rfl,hr,hd,ht,rfl,hn⟩:=h
 obtain ⟨B,m,d,ys,rfl,gr,gd,gt,rfl,hm⟩:=g
 by_cases h0:n = 0 \/ m = 0
 ·refine (multiply_none A B n m c d w h0).mono ?_
  rintro e w' ⟨rfl,rfl⟩
  refine ⟨_,rfl,?_,Below.refl _ _⟩
  have e0:val xs * val ys = 0:=by
   rcases h0 with h0 | h0
   ·rw [(trimmed_zero hd ht).2 (List.eq_nil_of_length_eq_zero (by rw [hr.1,h0])),Int.zero_mul]
   ·rw [(trimmed_zero gd gt).2 (List.eq_nil_of_length_eq_zero (by rw [gr.1,h0])),Int.mul_zero]
  rw [e0]
  exact Num.zero _ _
 ·refine (multiply_any A B n m c d xs ys w hr gr (by omega) (by omega) (by omega) (by omega) hd gd).mono ?_
  rintro e w' ⟨r,he,hr,hb⟩
  exact ⟨r,he,hr.mono (by omega),hb⟩
def withSign (neg:Bool) (a:Int) : Int:=if neg then -a else a
def Ival (w:World) (v:Value) (z:Int) (L:Nat) : Prop:=
 ∃ neg s a,v = .agg #[.bool neg,s] /\ Num w s a L /\ 0 <= a /\ z = withSign neg a /\ (neg = true -> a ≠ 0)
theorem Ival.below {w w':World} {v:Value} {z:Int} {L:Nat} (h:Ival w v z L) (hb:Below w.heap.size w w') : Ival w' v z L:=by
 obtain ⟨neg,s,a,e,hn,r⟩:=h
 exact ⟨neg,s,a,e,hn.below hb,r⟩
theorem Ival.mono {w:World} {v:Value} {z:Int} {L L':Nat} (h:Ival w v z L) (hL:L <= L') : Ival w v z L':=by
 obtain ⟨neg,s,a,e,hn,r⟩:=h
 exact ⟨neg,s,a,e,hn.mono hL,r⟩
theorem trimmed_len {zs:List Int} {k:Nat} (hd:Dig zs) (ht:Trimmed (zs.take k)) (hk:k <= zs.length) (hv:val (zs.take k) = val zs) : (0 < k ↔ val zs ≠ 0):=by
 have:=trimmed_zero (hd.take k) ht
 rw [hv] at this
 constructor
 ·intro h0 h1
  have h2:=this.1 h1
  have h3:(zs.take k).length = 0:=by rw [h2];rfl
  rw [List.length_take] at h3
  omega
 ·intro h0
  rcases Nat.eq_zero_or_pos k with h1 | h1
  ·subst h1;exact absurd (this.2 rfl) h0
  ·exact h1
theorem below_alloc (w:World) (o:Obj) : Below w.heap.size w (w.alloc o):=(Below.refl _ _).alloc (Nat.le_refl _) _
theorem signed_row (neg:Bool) (A:Option Addr) (n c:Nat) (zs:List Int) (w:World) (h:Row .u32 w A n c zs) (hn:n <= 1073741824) (hd:Dig zs) :
  Calls Tryz.prog 115 #[.bool neg,.slice A n c] w fun e w'=>∃ v,e = .returned v /\ Ival w' v (withSign neg (val zs)) n /\ Below w.heap.size w w':=by
 have hb1:Below w.heap.size w (w.alloc (.cells #[.bool false,.slice none 0 0] 31)):=(Below.refl _ _).alloc (Nat.le_refl _) _
 go_enter Tryz.func115,Tryz.ntmps115
 go_wp2_with fail
 refine (trim_any A n c zs _ (h.below hb1) hn).mono ?_
 rintro e w' ⟨k,hk,rfl,rfl,hv,ht⟩
 have hlen:=h.1
 have hpos:=trimmed_len hd ht (by omega) hv
 have hnum:Num w (.slice A k c) (val zs) n:=⟨_,_,_,_,rfl,h.take hk,hd.take _,ht,hv,hk⟩
 have hge:=(val_bounds hd).1
 have HV:=Hd hv
 have HP:=Hd hpos
 have HN:=Hd hnum
 clear hv hpos hnum hlen ht
 cases neg with
 | false=>
  go_wp2
  exact bodyPost_ret (v:=.agg #[.bool false,.slice A k c]) (by simp [results,Tryz.results115,go_sem]) rfl ⟨_,rfl,⟨false,_,_,rfl,HN.out.below (below_alloc _ _),hge,rfl,by simp⟩,below_alloc _ _⟩
 | true=>
  by_cases hk0:k = 0
  ·have hz:val zs = 0:=by have:=HP.out;omega
   have HZ:=Hd hz
   clear hz hge
   subst hk0
   go_wp2
   exact bodyPost_ret (v:=.agg #[.bool false,.slice A 0 c]) (by simp [results,Tryz.results115,go_sem]) rfl ⟨_,rfl,⟨false,_,_,rfl,HN.out.below (below_alloc _ _),by rw [HZ.out];decide,by simp [withSign,HZ.out],by simp⟩,below_alloc _ _⟩
  ·have hz:val zs ≠ 0:=by have:=HP.out;omega
   have HZ:=Hd hz
   clear hz
   have hp:(0:Int) < (k:Int):=by omega
   have hp':0 < k:=by omega
   go_wp2
   exact bodyPost_ret (v:=.agg #[.bool true,.slice A k c]) (by simp [results,Tryz.results115,go_sem]) rfl ⟨_,rfl,⟨true,_,_,rfl,HN.out.below (below_alloc _ _),hge,rfl,fun _=>HZ.out⟩,below_alloc _ _⟩
theorem signed_num (neg:Bool) (s:Value) (a:Int) (L:Nat) (w:World) (h:Num w s a L) (hL:L <= 1073741824) :
  Calls Tryz.prog 115 #[.bool neg,s] w fun e w'=>∃ v,e = .returned v /\ Ival w' v (withSign neg a) L /\ Below w.heap.size w w':=by
 obtain ⟨A,n,c,zs,rfl,hr,hd,_,rfl,hn⟩:=h
 refine (signed_row neg A n c zs w hr (by omega) hd).mono ?_
 rintro e w' ⟨v,he,hv,hb⟩
 exact ⟨v,he,hv.mono hn,hb⟩
theorem Ival.form {w:World} {v:Value} {z:Int} {L:Nat} (h:Ival w v z L) : ∃ ng A n c,v = .agg #[.bool ng,.slice A n c]:=by
 obtain ⟨ng,s,a,rfl,⟨A,n,c,_,rfl,_⟩,_⟩:=h
 exact ⟨ng,A,n,c,rfl⟩
theorem signed_out (neg:Bool) (s:Value) (a:Int) (L:Nat) (w:World) (h:Num w s a L) (hL:L <= 1073741824) :
  Calls Tryz.prog 115 #[.bool neg,s] w fun e w'=>∃ ng A n c,e = .returned (.agg #[.bool ng,.slice A n c]) /\ Ival w' (.agg #[.bool ng,.slice A n c]) (withSign neg a) L /\ Below w.heap.size w w':=by
 refine (signed_num neg s a L w h hL).mono ?_
 rintro e w' ⟨v,rfl,hv,hb⟩
 obtain ⟨ng,A,n,c,rfl⟩:=hv.form
 exact ⟨ng,A,n,c,rfl,hv,hb⟩
theorem Ival.parts {w:World} {ng:Bool} {s:Value} {z:Int} {L:Nat} (h:Ival w (.agg #[.bool ng,s]) z L) : ∃ a,Num w s a L /\ 0 <= a /\ z = withSign ng a /\ (ng = true -> a ≠ 0):=by
 obtain ⟨ng',s',a,e,r⟩:=h
 simp only [Value.agg.injEq] at e
 have h0:(Value.bool ng) = .bool ng':=by have:=congrArg (fun x=>x[0]?) e;simpa using this
 have h1:s = s':=by have:=congrArg (fun x=>x[1]?) e;simpa using this
 cases h0
 subst h1
 exact ⟨a,r⟩
theorem boxes2 {w w':World} {u v:Value} {p q:Bool} (h:Below (w.heap.size + 2) (((w.alloc (.cells #[.bool p,u] 31)).alloc (.cells #[.bool q,v] 31)).alloc (.cells #[.bool false,.slice none 0 0] 31)) w') :
  w'.cell? ⟨w.heap.size,0,none⟩ = some (.bool p) /\ w'.cell? ⟨w.heap.size,1,none⟩ = some u /\ w'.cell? ⟨w.heap.size + 1,0,none⟩ = some (.bool q) /\ w'.cell? ⟨w.heap.size + 1,1,none⟩ = some v /\
   Below (w.heap.size + 2) (((w.alloc (.cells #[.bool p,u] 31)).alloc (.cells #[.bool q,v] 31)).alloc (.cells #[.bool false,.slice none 0 0] 31)) w':=by
 refine ⟨?_,?_,?_,?_,h⟩
 ·rw [h.cell (by simp;try omega),World.cell?_alloc_past _ _ _ (by simp;try omega),World.cell?_alloc_past _ _ _ (by simp;try omega),World.cell?_alloc_at _ _ _ _ rfl];rfl
 ·rw [h.cell (by simp;try omega),World.cell?_alloc_past _ _ _ (by simp;try omega),World.cell?_alloc_past _ _ _ (by simp;try omega),World.cell?_alloc_at _ _ _ _ rfl];rfl
 ·rw [h.cell (by simp;try omega),World.cell?_alloc_past _ _ _ (by simp;try omega),World.cell?_alloc_at _ _ _ _ (by simp)];rfl
 ·rw [h.cell (by simp;try omega),World.cell?_alloc_past _ _ _ (by simp;try omega),World.cell?_alloc_at _ _ _ _ (by simp)];rfl
theorem below_boxed2 (w:World) (x y z:Obj) : Below w.heap.size w ((((w.alloc x).alloc y).alloc z)):=
 ((below_alloc w x).alloc (by simp) y).alloc (by simp;omega) z
theorem room2 {w w':World} {x y:Obj} (h:Below (w.heap.size + 3) (((w.alloc x).alloc y).alloc (.cells #[.bool false,.slice none 0 0] 31)) w') :
  w'.cell? ⟨w.heap.size + 1 + 1,0,none⟩ = some (.bool false) /\ w'.cell? ⟨w.heap.size + 1 + 1,1,none⟩ = some (.slice none 0 0) /\ w'.frozen? ⟨w.heap.size + 1 + 1,0,none⟩ = false /\ w'.frozen? ⟨w.heap.size + 1 + 1,1,none⟩ = false:=by
 refine ⟨?_,?_,?_,?_⟩
 ·rw [h.cell (by simp),World.cell?_alloc_at _ _ _ _ (by simp)];rfl
 ·rw [h.cell (by simp),World.cell?_alloc_at _ _ _ _ (by simp)];rfl
 ·rw [h.frozen (by simp)];exact World.frozen?_alloc_at _ _ _ _ (by simp)
 ·rw [h.frozen (by simp)];exact World.frozen?_alloc_at _ _ _ _ (by simp)
theorem Row.setOther {K:IntKind} {w:World} {A:Option Addr} {n c:Nat} {xs:List Int} (h:Row K w A n c xs) {p:Addr} (hp:∀ u,w.cell? p ≠ some (.int K u)) (v:Value) : Row K (w.setCell p v) A n c xs:=by
 refine ⟨h.1,h.2.1,fun hn=>?_⟩
 obtain ⟨b,o,rfl,hlt,hc⟩:=h.2.2 hn
 refine ⟨b,o,rfl,by simpa [World.setCell] using hlt,fun i hi=>?_⟩
 have hne:p ≠ ⟨b,o + i,none⟩:=fun e=>hp (xs.getD i 0) (by rw [e];exact hc i hi)
 rw [World.cell?_setCell_other _ _ _ _ hne]
 exact hc i hi
theorem Num.setOther {w:World} {s:Value} {z:Int} {L:Nat} (h:Num w s z L) {p:Addr} (hp:∀ u,w.cell? p ≠ some (.int .u32 u)) (v:Value) : Num (w.setCell p v) s z L:=by
 obtain ⟨A,n,c,xs,e,hr,r⟩:=h
 exact ⟨A,n,c,xs,e,hr.setOther hp v,r⟩
theorem Ival.setOther {w:World} {s:Value} {z:Int} {L:Nat} (h:Ival w s z L) {p:Addr} (hp:∀ u,w.cell? p ≠ some (.int .u32 u)) (v:Value) : Ival (w.setCell p v) s z L:=by
 obtain ⟨neg,s,a,e,hn,r⟩:=h
 exact ⟨neg,s,a,e,hn.setOther hp v,r⟩
theorem Ival.stored {w:World} {s:Value} {z:Int} {L:Nat} (h:Ival w s z L) {r:Nat} (e1:w.cell? ⟨r,0,none⟩ = some (.bool false)) (e2:w.cell? ⟨r,1,none⟩ = some (.slice none 0 0)) (x y:Value) :
  Ival ((w.setCell ⟨r,0,none⟩ x).setCell ⟨r,1,none⟩ y) s z L:=by
 refine (h.setOther (fun u=>by rw [e1];simp) x).setOther (fun u=>?_) y
 rw [World.cell?_setCell_other _ _ _ _ (by simp),e2];simp
theorem withSign_mul (p q:Bool) (a b:Int) : withSign (p != q) (a * b) = withSign p a * withSign q b:=by
 cases p <;> cases q <;> simp [withSign,Int.neg_mul,Int.mul_neg]
theorem withSign_add (p:Bool) (a b:Int) : withSign p (a + b) = withSign p a + withSign p b:=by
 cases p <;> simp [withSign];omega
theorem withSign_sub (p:Bool) (a b:Int) : withSign p (a - b) = withSign p a + withSign (!p) b:=by
 cases p <;> simp [withSign] <;> omega
theorem withSign_bus (p:Bool) (a b:Int) : withSign (!p) (b - a) = withSign p a + withSign (!p) b:=by
 cases p <;> simp [withSign] <;> omega
theorem room0 {w w':World} (h:Below (w.heap.size + 1) (w.alloc (.cells #[.bool false,.slice none 0 0] 31)) w') :
  w'.cell? ⟨w.heap.size,0,none⟩ = some (.bool false) /\ w'.cell? ⟨w.heap.size,1,none⟩ = some (.slice none 0 0) /\ w'.frozen? ⟨w.heap.size,0,none⟩ = false /\ w'.frozen? ⟨w.heap.size,1,none⟩ = false:=by
 refine ⟨?_,?_,?_,?_⟩
 ·rw [h.cell (by simp),World.cell?_alloc_at _ _ _ _ (by simp)];rfl
 ·rw [h.cell (by simp),World.cell?_alloc_at _ _ _ _ (by simp)];rfl
 ·rw [h.frozen (by simp)];exact World.frozen?_alloc_at _ _ _ _ (by simp)
 ·rw [h.frozen (by simp)];exact World.frozen?_alloc_at _ _ _ _ (by simp)
theorem room1 {w w':World} {x:Obj} (h:Below (w.heap.size + 2) ((w.alloc x).alloc (.cells #[.bool false,.slice none 0 0] 31)) w') :
  w'.cell? ⟨w.heap.size + 1,0,none⟩ = some (.bool false) /\ w'.cell? ⟨w.heap.size + 1,1,none⟩ = some (.slice none 0 0) /\ w'.frozen? ⟨w.heap.size + 1,0,none⟩ = false /\ w'.frozen? ⟨w.heap.size + 1,1,none⟩ = false:=by
 refine ⟨?_,?_,?_,?_⟩
 ·rw [h.cell (by simp),World.cell?_alloc_at _ _ _ _ (by simp)];rfl
 ·rw [h.cell (by simp),World.cell?_alloc_at _ _ _ _ (by simp)];rfl
 ·rw [h.frozen (by simp)];exact World.frozen?_alloc_at _ _ _ _ (by simp)
 ·rw [h.frozen (by simp)];exact World.frozen?_alloc_at _ _ _ _ (by simp)
theorem Mul_any (p q:Bool) (A B:Option Addr) (n c m d:Nat) (x y:Int) (L M:Nat) (w:World) (h:Ival w (.agg #[.bool p,.slice A n c]) x L) (g:Ival w (.agg #[.bool q,.slice B m d]) y M) (hL:L <= 1048576) (hM:M <= 1048576) :
  Calls Tryz.prog 97 #[.agg #[.bool p,.slice A n c],.agg #[.bool q,.slice B m d]] w fun e w'=>∃ v,e = .returned v /\ Ival w' v (x * y) (L + M) /\ Below w.heap.size w w':=by
 obtain ⟨a,ha,ha0,rfl,ha1⟩:=h.parts
 obtain ⟨b,hb,hb0,rfl,hb1⟩:=g.parts
 have HA:=Hd ha
 have HB:=Hd hb
 clear ha hb ha1 hb1 h g
 have hW:=(below_boxed2 w (.cells #[.bool p,.slice A n c] 31) (.cells #[.bool q,.slice B m d] 31) (.cells #[.bool false,.slice none 0 0] 31)).drew
 go_enter Tryz.func97,Tryz.ntmps97
 go_wp2_with fail
 go_region_held3 (fun w'=>w'.cell? ⟨w.heap.size,0,none⟩ = some (.bool p) /\ w'.cell? ⟨w.heap.size,1,none⟩ = some (.slice A n c) /\ w'.cell? ⟨w.heap.size + 1,0,none⟩ = some (.bool q) /\ w'.cell? ⟨w.heap.size + 1,1,none⟩ = some (.slice B m d) /\ Below (w.heap.size + 2) (((w.alloc (.cells #[.bool p,.slice A n c] 31)).alloc (.cells #[.bool q,.slice B m d] 31)).alloc (.cells #[.bool false,.slice none 0 0] 31)) w')
  (first | exact boxes2 (Below.drew (Below.refl _ _)) | exact boxes2 (by assumption) | exact boxes2 (Below.setCell (Below.setCell (by assumption) (by simp) _) (by simp) _))
  (first | (go_at_call 136;refine (multiply_num _ _ a b L M _ (HA.out.below hW) (HB.out.below hW) (by omega) (by omega)).mono ?_;rintro e w1 ⟨r1,rfl,hr1,hb1⟩;have hB1:=Below.trans (Below.drew (Below.refl _ _)) (hb1.mono (B':=w.heap.size + 3) (by simp));have hC1:=hB1.mono (B':=w.heap.size + 2) (by omega)) | (go_at_call 115;refine (signed_out _ _ _ _ _ hr1 (by omega)).mono ?_;rintro e w2 ⟨ng,A2,n2,c2,rfl,hv2,hb2⟩;have hB2:=Below.trans hB1 (hb2.mono (B':=w.heap.size + 3) (by have:=hB1.size;simp at this;omega));have hC2:=hB2.mono (B':=w.heap.size + 2) (by omega);obtain ⟨e1,e2,f1,f2⟩:=room2 hB2))
 clear hC1 hC2
 go_wp2
 refine bodyPost_ret (v:=.agg #[.bool ng,.slice A2 n2 c2]) (by simp [results,Tryz.results97,go_sem,e1,e2]) rfl ⟨_,rfl,?_,?_⟩
 ·rw [<- withSign_mul];exact hv2.stored e1 e2 _ _
 ·exact (((below_boxed2 _ _ _ _).trans (hB2.mono (by omega))).setCell (by show _ <= _;simp;omega) _).setCell (by show _ <= _;simp;omega) _
theorem compare_num (u v:Value) (x y:Int) (L M:Nat) (w:World) (h:Num w u x L) (g:Num w v y M) (hL:L <= 1073741824) (hM:M <= 1073741824) :
  Calls Tryz.prog 117 #[u,v] w fun e w'=>e = .returned (.int .i64 (cmpI x y)) /\ ∃ q,w' = w.drewN q:=by
 obtain ⟨A,n,c,xs,rfl,hr,hd,ht,rfl,hn⟩:=h
 obtain ⟨B,m,d,ys,rfl,gr,gd,gt,rfl,hm⟩:=g
 exact compare_any A B n m c d xs ys w hr gr (by omega) (by omega) hd gd ht gt
theorem sum_same (p q:Bool) (A B:Option Addr) (n c m d:Nat) (a b:Int) (L M:Nat) (w:World) (ha:Num w (.slice A n c) a L) (hb:Num w (.slice B m d) b M) (hL:L <= 1048576) (hM:M <= 1048576) :
  Calls Tryz.prog 138 #[.agg #[.bool p,.slice A n c],.agg #[.bool q,.slice B m d],.bool p] w fun e w'=>∃ ng A2 n2 c2,e = .returned (.agg #[.bool ng,.slice A2 n2 c2]) /\ Ival w' (.agg #[.bool ng,.slice A2 n2 c2]) (withSign p a + withSign p b) (max L M + 1) /\ Below w.heap.size w w':=by
 have HA:=Hd ha
 have HB:=Hd hb
 clear ha hb
 have hW:=below_boxed2 w (.cells #[.bool p,.slice A n c] 31) (.cells #[.bool q,.slice B m d] 31) (.cells #[.bool false,.slice none 0 0] 31)
 go_enter Tryz.func138,Tryz.ntmps138
 go_wp2_with fail
 refine (add_num _ _ a b L M _ (HA.out.below hW) (HB.out.below hW) (by omega) (by omega)).mono ?_
 rintro e w1 ⟨r1,rfl,hr1,hb1⟩
 have hB1:=hb1.mono (B':=w.heap.size + 3) (by simp)
 go_wp2_with fail
 refine (signed_out _ _ _ _ _ hr1 (by omega)).mono ?_
 rintro e w2 ⟨ng,A2,n2,c2,rfl,hv2,hb2⟩
 have hB2:=Below.trans hB1 (hb2.mono (B':=w.heap.size + 3) (by have:=hB1.size;simp at this;omega))
 obtain ⟨e1,e2,f1,f2⟩:=room2 hB2
 go_wp2
 refine bodyPost_ret (v:=.agg #[.bool ng,.slice A2 n2 c2]) (by simp [results,Tryz.results138,go_sem,e1,e2]) rfl ⟨ng,A2,n2,c2,rfl,?_,?_⟩
 ·rw [<- withSign_add];exact hv2.stored e1 e2 _ _
 ·exact (((below_boxed2 _ _ _ _).trans (hB2.mono (by omega))).setCell (by show _ <= _;simp;omega) _).setCell (by show _ <= _;simp;omega) _
theorem sum_other (p q:Bool) (A B:Option Addr) (n c m d:Nat) (a b:Int) (L M:Nat) (w:World) (ha:Num w (.slice A n c) a L) (hb:Num w (.slice B m d) b M) (hL:L <= 1048576) (hM:M <= 1048576) :
  Calls Tryz.prog 138 #[.agg #[.bool p,.slice A n c],.agg #[.bool q,.slice B m d],.bool (!p)] w fun e w'=>∃ ng A2 n2 c2,e = .returned (.agg #[.bool ng,.slice A2 n2 c2]) /\ Ival w' (.agg #[.bool ng,.slice A2 n2 c2]) (withSign p a + withSign (!p) b) (max L M + 1) /\ Below w.heap.size w w':=by
 have HA:=Hd ha
 have HB:=Hd hb
 clear ha hb
 have hpp:(p == !p) = false:=by cases p <;> rfl
 have hW:=below_boxed2 w (.cells #[.bool p,.slice A n c] 31) (.cells #[.bool q,.slice B m d] 31) (.cells #[.bool false,.slice none 0 0] 31)
 by_cases hab:b <= a
 ·have hcmp:0 <= cmpI a b:=by rcases Int.lt_or_eq_of_le hab with h | h;rw [cmpI_gt h];decide;rw [cmpI_eq h.symm];decide
  go_enter Tryz.func138,Tryz.ntmps138
  go_wp2_with fail
  refine (compare_num _ _ a b L M _ (HA.out.below hW) (HB.out.below hW) (by omega) (by omega)).mono ?_
  rintro e w1 ⟨rfl,k,rfl⟩
  have hWk:=(below_drewN hW k).drew
  go_wp2_with fail
  go_region_held3 (fun w'=>w'.cell? ⟨w.heap.size,0,none⟩ = some (.bool p) /\ w'.cell? ⟨w.heap.size,1,none⟩ = some (.slice A n c) /\ w'.cell? ⟨w.heap.size + 1,0,none⟩ = some (.bool q) /\ w'.cell? ⟨w.heap.size + 1,1,none⟩ = some (.slice B m d) /\ Below (w.heap.size + 2) (((w.alloc (.cells #[.bool p,.slice A n c] 31)).alloc (.cells #[.bool q,.slice B m d] 31)).alloc (.cells #[.bool false,.slice none 0 0] 31)) w')
   (first | exact boxes2 ((below_drewN (Below.refl _ _) _).drew) | exact boxes2 (by assumption) | exact boxes2 (Below.setCell (Below.setCell (by assumption) (by simp) _) (by simp) _))
   (first | (go_at_call 168;refine (subtract_num _ _ a b L M _ (HA.out.below hWk) (HB.out.below hWk) (by omega) hab).mono ?_;rintro e w1 ⟨r1,rfl,hr1,hb1⟩;have hB1:=Below.trans ((below_drewN (Below.refl _ _) k).drew) (hb1.mono (B':=w.heap.size + 3) (by simp));have hC1:=hB1.mono (B':=w.heap.size + 2) (by omega)) | (go_at_call 115;refine (signed_out _ _ _ _ _ hr1 (by omega)).mono ?_;rintro e w2 ⟨ng,A2,n2,c2,rfl,hv2,hb2⟩;have hB2:=Below.trans hB1 (hb2.mono (B':=w.heap.size + 3) (by have:=hB1.size;simp at this;omega));have hC2:=hB2.mono (B':=w.heap.size + 2) (by omega);obtain ⟨e1,e2,f1,f2⟩:=room2 hB2))
  clear hC1 hC2
  go_wp2
  refine bodyPost_ret (v:=.agg #[.bool ng,.slice A2 n2 c2]) (by simp [results,Tryz.results138,go_sem,e1,e2]) rfl ⟨ng,A2,n2,c2,rfl,?_,?_⟩
  ·rw [<- withSign_sub];exact (hv2.stored e1 e2 _ _).mono (by omega)
  ·exact (((below_boxed2 _ _ _ _).trans (hB2.mono (by omega))).setCell (by show _ <= _;simp;omega) _).setCell (by show _ <= _;simp;omega) _
 ·have hab':a < b:=by omega
  have hcmp:¬ 0 <= cmpI a b:=by rw [cmpI_lt hab'];decide
  go_enter Tryz.func138,Tryz.ntmps138
  go_wp2_with fail
  refine (compare_num _ _ a b L M _ (HA.out.below hW) (HB.out.below hW) (by omega) (by omega)).mono ?_
  rintro e w1 ⟨rfl,k,rfl⟩
  have hWk:=below_drewN hW k
  go_wp2_with fail
  refine (subtract_num _ _ b a M L _ (HB.out.below hWk) (HA.out.below hWk) (by omega) (by omega)).mono ?_
  rintro e w1 ⟨r1,rfl,hr1,hb1⟩
  have hB1:=Below.trans (below_drewN (Below.refl _ _) k) (hb1.mono (B':=w.heap.size + 3) (by simp))
  go_wp2_with fail
  refine (signed_out _ _ _ _ _ hr1 (by omega)).mono ?_
  rintro e w2 ⟨ng,A2,n2,c2,rfl,hv2,hb2⟩
  have hB2:=Below.trans hB1 (hb2.mono (B':=w.heap.size + 3) (by have:=hB1.size;simp at this;omega))
  obtain ⟨e1,e2,f1,f2⟩:=room2 hB2
  go_wp2
  refine bodyPost_ret (v:=.agg #[.bool ng,.slice A2 n2 c2]) (by simp [results,Tryz.results138,go_sem,e1,e2]) rfl ⟨ng,A2,n2,c2,rfl,?_,?_⟩
  ·rw [<- withSign_bus];exact (hv2.stored e1 e2 _ _).mono (by omega)
  ·exact (((below_boxed2 _ _ _ _).trans (hB2.mono (by omega))).setCell (by show _ <= _;simp;omega) _).setCell (by show _ <= _;simp;omega) _
theorem sum_any (p q r:Bool) (A B:Option Addr) (n c m d:Nat) (a b:Int) (L M:Nat) (w:World) (ha:Num w (.slice A n c) a L) (hb:Num w (.slice B m d) b M) (hL:L <= 1048576) (hM:M <= 1048576) :
  Calls Tryz.prog 138 #[.agg #[.bool p,.slice A n c],.agg #[.bool q,.slice B m d],.bool r] w fun e w'=>∃ ng A2 n2 c2,e = .returned (.agg #[.bool ng,.slice A2 n2 c2]) /\ Ival w' (.agg #[.bool ng,.slice A2 n2 c2]) (withSign p a + withSign r b) (max L M + 1) /\ Below w.heap.size w w':=by
 by_cases h:r = p
 ·subst h;exact sum_same r q A B n c m d a b L M w ha hb hL hM
 ·obtain rfl:r = !p:=by cases r <;> cases p <;> simp_all
  exact sum_other p q A B n c m d a b L M w ha hb hL hM
theorem add_int (u v:Value) (x y:Int) (L M:Nat) (w:World) (h:Ival w u x L) (g:Ival w v y M) (hL:L <= 1048576) (hM:M <= 1048576) :
  Calls Tryz.prog 99 #[u,v] w fun e w'=>∃ r,e = .returned r /\ Ival w' r (x + y) (max L M + 1) /\ Below w.heap.size w w':=by
 obtain ⟨p,A,n,c,rfl⟩:=h.form
 obtain ⟨q,B,m,d,rfl⟩:=g.form
 obtain ⟨a,ha,_,rfl,_⟩:=h.parts
 obtain ⟨b,hb,_,rfl,_⟩:=g.parts
 have HA:=Hd ha
 have HB:=Hd hb
 clear ha hb h g
 have hW:=below_boxed2 w (.cells #[.bool p,.slice A n c] 31) (.cells #[.bool q,.slice B m d] 31) (.cells #[.bool false,.slice none 0 0] 31)
 go_enter Tryz.func99,Tryz.ntmps99
 go_wp2_with fail
 refine (sum_any p q q A B n c m d a b L M _ (HA.out.below hW) (HB.out.below hW) hL hM).mono ?_
 rintro e w2 ⟨ng,A2,n2,c2,rfl,hv2,hb2⟩
 have hB2:=hb2.mono (B':=w.heap.size + 3) (by simp)
 obtain ⟨e1,e2,f1,f2⟩:=room2 hB2
 go_wp2
 refine bodyPost_ret (v:=.agg #[.bool ng,.slice A2 n2 c2]) (by simp [results,Tryz.results99,go_sem,e1,e2]) rfl ⟨_,rfl,hv2.stored e1 e2 _ _,?_⟩
 exact (((below_boxed2 _ _ _ _).trans (hB2.mono (by omega))).setCell (by show _ <= _;simp;omega) _).setCell (by show _ <= _;simp;omega) _
theorem sub_int (u v:Value) (x y:Int) (L M:Nat) (w:World) (h:Ival w u x L) (g:Ival w v y M) (hL:L <= 1048576) (hM:M <= 1048576) :
  Calls Tryz.prog 169 #[u,v] w fun e w'=>∃ r,e = .returned r /\ Ival w' r (x - y) (max L M + 1) /\ Below w.heap.size w w':=by
 obtain ⟨p,A,n,c,rfl⟩:=h.form
 obtain ⟨q,B,m,d,rfl⟩:=g.form
 obtain ⟨a,ha,_,rfl,_⟩:=h.parts
 obtain ⟨b,hb,_,rfl,_⟩:=g.parts
 have HA:=Hd ha
 have HB:=Hd hb
 clear ha hb h g
 have hW:=below_boxed2 w (.cells #[.bool p,.slice A n c] 31) (.cells #[.bool q,.slice B m d] 31) (.cells #[.bool false,.slice none 0 0] 31)
 go_enter Tryz.func169,Tryz.ntmps169
 go_wp2_with fail
 refine (sum_any p q (!q) A B n c m d a b L M _ (HA.out.below hW) (HB.out.below hW) hL hM).mono ?_
 rintro e w2 ⟨ng,A2,n2,c2,rfl,hv2,hb2⟩
 have hB2:=hb2.mono (B':=w.heap.size + 3) (by simp)
 obtain ⟨e1,e2,f1,f2⟩:=room2 hB2
 go_wp2
 refine bodyPost_ret (v:=.agg #[.bool ng,.slice A2 n2 c2]) (by simp [results,Tryz.results169,go_sem,e1,e2]) rfl ⟨_,rfl,?_,?_⟩
 ·have e0:withSign p a - withSign q b = withSign p a + withSign (!q) b:=by cases q <;> simp [withSign] <;> omega
  rw [e0];exact hv2.stored e1 e2 _ _
 ·exact (((below_boxed2 _ _ _ _).trans (hB2.mono (by omega))).setCell (by show _ <= _;simp;omega) _).setCell (by show _ <= _;simp;omega) _
theorem mul_int (u v:Value) (x y:Int) (L M:Nat) (w:World) (h:Ival w u x L) (g:Ival w v y M) (hL:L <= 1048576) (hM:M <= 1048576) :
  Calls Tryz.prog 97 #[u,v] w fun e w'=>∃ r,e = .returned r /\ Ival w' r (x * y) (L + M) /\ Below w.heap.size w w':=by
 obtain ⟨p,A,n,c,rfl⟩:=h.form
 obtain ⟨q,B,m,d,rfl⟩:=g.form
 exact Mul_any p q A B n c m d x y L M w h g hL hM
theorem sign_int (u:Value) (x:Int) (L:Nat) (w:World) (h:Ival w u x L) :
  Calls Tryz.prog 64 #[u] w fun e w'=>e = .returned (.int .i64 (cmpI x 0)) /\ Below w.heap.size w w':=by
 obtain ⟨p,A,n,c,rfl⟩:=h.form
 obtain ⟨a,ha,ha0,rfl,ha1⟩:=h.parts
 have hn:0 < n ↔ a ≠ 0:=by
  obtain ⟨A',n',c',xs,e,hr,hd,ht,hv,_⟩:=ha
  simp only [Value.slice.injEq] at e
  obtain ⟨rfl,rfl,rfl⟩:=e
  have:=trimmed_zero hd ht
  rw [hv] at this
  constructor
  ·intro h0 h1
   have h2:=this.1 h1
   have:=hr.1
   rw [h2] at this
   simp at this;omega
  ·intro h0
   rcases Nat.eq_zero_or_pos n with h1 | h1
   ·exact absurd (this.2 (List.eq_nil_of_length_eq_zero (by rw [hr.1,h1]))) h0
   ·exact h1
 have HN:=Hd hn
 clear ha h hn
 cases p with
 | true=>
  have e0:cmpI (withSign true a) 0 = -1:=cmpI_lt (by simp [withSign];have:=ha1 rfl;omega)
  have E:=Hd e0
  clear e0 ha1
  go_enter Tryz.func64,Tryz.ntmps64
  go_wp2
  go_ret
  exact ⟨by rw [E.out];rfl,below_alloc _ _⟩
 | false=>
  clear ha1
  by_cases hz:n = 0
  ·have hz0:¬ (0:Int) < (n:Int):=by omega
   have hz1:¬ 0 < n:=by omega
   have e0:cmpI (withSign false a) 0 = 0:=cmpI_eq (by simp [withSign];have:=HN.out;omega)
   have E:=Hd e0
   clear e0
   go_enter Tryz.func64,Tryz.ntmps64
   go_wp2
   go_ret
   exact ⟨by rw [E.out];rfl,below_alloc _ _⟩
  ·have hz0:(0:Int) < (n:Int):=by omega
   have hz1:0 < n:=by omega
   have e0:cmpI (withSign false a) 0 = 1:=cmpI_gt (by simp [withSign];have:=HN.out;omega)
   have E:=Hd e0
   clear e0
   go_enter Tryz.func64,Tryz.ntmps64
   go_wp2
   go_ret
   exact ⟨by rw [E.out];rfl,below_alloc _ _⟩
theorem below_two (w:World) (x y:Obj) : Below w.heap.size w ((w.alloc x).alloc y):=(below_alloc w x).alloc (by simp) y
theorem cmp_int (u v:Value) (x y:Int) (L M:Nat) (w:World) (h:Ival w u x L) (g:Ival w v y M) (hL:L <= 1073741824) (hM:M <= 1073741824) :
  Calls Tryz.prog 63 #[u,v] w fun e w'=>e = .returned (.int .i64 (cmpI x y)) /\ Below w.heap.size w w':=by
 obtain ⟨p,A,n,c,rfl⟩:=h.form
 obtain ⟨q,B,m,d,rfl⟩:=g.form
 obtain ⟨a,ha,ha0,rfl,ha1⟩:=h.parts
 obtain ⟨b,hb,hb0,rfl,hb1⟩:=g.parts
 have HA:=Hd ha
 have HB:=Hd hb
 clear ha hb h g
 have hW:=below_two w (.cells #[.bool p,.slice A n c] 31) (.cells #[.bool q,.slice B m d] 31)
 have E0:p = false -> q = true -> cmpI (withSign p a) (withSign q b) = 1:=by
  rintro rfl rfl;have:=hb1 rfl;exact cmpI_gt (by simp [withSign];omega)
 have E1:p = true -> q = false -> cmpI (withSign p a) (withSign q b) = -1:=by
  rintro rfl rfl;have:=ha1 rfl;exact cmpI_lt (by simp [withSign];omega)
 have E2:cmpI (withSign true a) (withSign true b) = cmpI b a:=by
  simp only [withSign]
  rcases Int.lt_trichotomy a b with h | h | h
  ·rw [cmpI_gt h,cmpI_gt (by simp;omega)]
  ·subst h;rw [cmpI_eq rfl,cmpI_eq rfl]
  ·rw [cmpI_lt h,cmpI_lt (by simp;omega)]
 have F0:=Hd E0
 have F1:=Hd E1
 have F2:=Hd E2
 clear ha1 hb1 E0 E1 E2
 cases p <;> cases q
 ·go_enter Tryz.func63,Tryz.ntmps63
  go_wp2_with fail
  refine (compare_num _ _ a b L M _ (HA.out.below hW) (HB.out.below hW) hL hM).mono ?_
  rintro e w1 ⟨rfl,k,rfl⟩
  go_wp2
  go_ret
  exact ⟨rfl,below_drewN hW k⟩
 ·go_enter Tryz.func63,Tryz.ntmps63
  go_wp2
  go_ret
  exact ⟨by rw [F0.out (by simp) (by simp)];rfl,hW⟩
 ·go_enter Tryz.func63,Tryz.ntmps63
  go_wp2
  go_ret
  exact ⟨by rw [F1.out (by simp) (by simp)];rfl,hW⟩
 ·go_enter Tryz.func63,Tryz.ntmps63
  go_wp2_with fail
  refine (compare_num _ _ b a M L _ (HB.out.below hW) (HA.out.below hW) hM hL).mono ?_
  rintro e w1 ⟨rfl,k,rfl⟩
  go_wp2
  go_ret
  exact ⟨by rw [F2.out];rfl,below_drewN hW k⟩
theorem Row.of_ownsRow {K:IntKind} {w:World} {base:Nat} {e:TypeId} {v:Value} {n:Nat} {xs:List Int} (h:w.ownsRow base e 1 v n (xs.map (Value.int K))) : ∃ A c,v = .slice A n c /\ Row K w A n c xs:=by
 rcases h.2 with ⟨h',h0⟩ | ⟨g,cap,cur,h',_⟩
 ·subst h0
  have hl:xs.length = 0:=by have:=h.1;simpa using this
  exact ⟨none,0,h',by rw [List.eq_nil_of_length_eq_zero hl];exact Row.nil_⟩
 ·subst h'
  exact ⟨_,_,rfl,Row.of_own h⟩
theorem clone_some (a:Addr) (n c:Nat) (xs:List Int) (w:World) (h:Row .u32 w (some a) n c xs) (hn:n <= 1073741824) :
  Calls Tryz.prog 116 #[.slice (some a) n c] w fun e w'=>∃ A' c',e = .returned (.slice A' n c') /\ Row .u32 w' A' n c' xs /\ Below w.heap.size w w':=by
 have hnil:=fun w=>Lib.run_eql_slice_nil (P:=Tryz.prog) (w:=w)
 obtain ⟨i0,hi,hz0,hz1,hz2⟩:=info_parts Tryz.info135
 obtain ⟨hl,hc,hcell⟩:=h
 have hnews:∀ j u,(xs.map (Value.int .u32))[j]? = some u -> (w.alloc (.cells #[] 135)).cell? (a.add j) = some u:=by
  intro j u hu
  have hj:j < n:=by have:=(List.getElem?_eq_some_iff.1 hu).1;simpa [hl] using this
  obtain ⟨b',o',e,hb,hx⟩:=hcell (by omega)
  simp only [Option.some.injEq] at e
  subst e
  rw [Addr.add_lit,World.cell?_alloc_past _ _ _ hb,hx j hj,<- hu]
  simp [List.getD,hl,hj]
 have hll:(xs.map (Value.int .u32)).length = n * 1:=by simp [hl]
 have HL:=Hd hl
 have HN:=Hd hnews
 have HLL:=Hd hll
 clear hl hnews hcell hll
 go_enter Tryz.func116,Tryz.ntmps116
 go_wp2_with (at_builtin;refine wpList_append_own _ rfl (.tmp 5) (.tmp 6) _ rfl w.heap.size 135 i0 (.int .u32 0) 1 4 Tryz.underlying22 hi hz0 hz1 hz2 rfl (by decide) (.slice (some ⟨w.heap.size,0,none⟩) 0 0) 0 [] rfl (World.ownsRow_made w #[] 0 (Nat.le_refl _) (Nat.zero_le _) rfl) a n c (xs.map (Value.int .u32)) rfl HLL.out HN.out (ints_oneCell _ _) (by unfold maxLen;omega) (by omega) (by simp) ?_;intro v' w1 hown1 hg1 _)
 go_ret
 rw [Nat.zero_add,List.nil_append] at hown1
 obtain ⟨A',c',rfl,hr⟩:=Row.of_ownsRow hown1
 refine ⟨A',c',rfl,hr,(below_alloc _ _).grown hg1 (by simp) (fun k hk=>?_)⟩
 have e:w.heap.size = k:=by simpa [Value.ownBlock] using hk
 exact Nat.le_of_eq e
theorem clone_own (a:Addr) (n c:Nat) (xs:List Int) (w:World) (h:Row .u32 w (some a) n c xs) (hn:n <= 1073741824) :
  Calls Tryz.prog 116 #[.slice (some a) n c] w fun e w'=>∃ A' c',e = .returned (.slice A' n c') /\ (Row .u32 w' A' n c' xs /\ (n ≠ 0 -> ∃ b o cs fr,A' = some ⟨b,o,none⟩ /\ w'.heap[b]? = some (.cells cs 135 fr))) /\ Below w.heap.size w w':=by
 have hnil:=fun w=>Lib.run_eql_slice_nil (P:=Tryz.prog) (w:=w)
 obtain ⟨i0,hi,hz0,hz1,hz2⟩:=info_parts Tryz.info135
 obtain ⟨hl,hc,hcell⟩:=h
 have hnews:∀ j u,(xs.map (Value.int .u32))[j]? = some u -> (w.alloc (.cells #[] 135)).cell? (a.add j) = some u:=by
  intro j u hu
  have hj:j < n:=by have:=(List.getElem?_eq_some_iff.1 hu).1;simpa [hl] using this
  obtain ⟨b',o',e,hb,hx⟩:=hcell (by omega)
  simp only [Option.some.injEq] at e
  subst e
  rw [Addr.add_lit,World.cell?_alloc_past _ _ _ hb,hx j hj,<- hu]
  simp [List.getD,hl,hj]
 have hll:(xs.map (Value.int .u32)).length = n * 1:=by simp [hl]
 have HL:=Hd hl
 have HN:=Hd hnews
 have HLL:=Hd hll
 clear hl hnews hcell hll
 go_enter Tryz.func116,Tryz.ntmps116
 go_wp2_with (at_builtin;refine wpList_append_own _ rfl (.tmp 5) (.tmp 6) _ rfl w.heap.size 135 i0 (.int .u32 0) 1 4 Tryz.underlying22 hi hz0 hz1 hz2 rfl (by decide) (.slice (some ⟨w.heap.size,0,none⟩) 0 0) 0 [] rfl (World.ownsRow_made w #[] 0 (Nat.le_refl _) (Nat.zero_le _) rfl) a n c (xs.map (Value.int .u32)) rfl HLL.out HN.out (ints_oneCell _ _) (by unfold maxLen;omega) (by omega) (by simp) ?_;intro v' w1 hown1 hg1 _)
 go_ret
 rw [Nat.zero_add,List.nil_append] at hown1
 obtain ⟨A',c',rfl,hr⟩:=Row.of_ownsRow hown1
 refine ⟨A',c',rfl,⟨hr,fun hn=>?_⟩,(below_alloc _ _).grown hg1 (by simp) (fun k hk=>?_)⟩
 ·rcases hown1.2 with ⟨_,h0⟩ | ⟨g,cap,cur,h',_,hh,_⟩
  ·exact absurd h0 hn
  ·simp only [Value.slice.injEq] at h'
   exact ⟨g,0,cur,_,h'.1,hh⟩
 have e:w.heap.size = k:=by simpa [Value.ownBlock] using hk
 exact Nat.le_of_eq e
theorem clone_none (n c:Nat) (xs:List Int) (w:World) (h:Row .u32 w none n c xs) :
  Calls Tryz.prog 116 #[.slice none n c] w fun e w'=>∃ A' c',e = .returned (.slice A' n c') /\ Row .u32 w' A' n c' xs /\ Below w.heap.size w w':=by
 obtain ⟨hl,hc,hcell⟩:=h
 have hnil:=fun w=>Lib.run_eql_slice_nil (P:=Tryz.prog) (w:=w)
 have hn:n = 0:=by
  rcases Nat.eq_zero_or_pos n with h | h
  ·exact h
  ·obtain ⟨b,o,e,_⟩:=hcell (by omega);cases e
 subst hn
 have hx:=List.eq_nil_of_length_eq_zero hl
 subst hx
 clear hl hcell
 go_enter Tryz.func116,Tryz.ntmps116
 go_wp2
 go_ret
 exact ⟨none,0,rfl,Row.nil_,Below.refl _ _⟩
theorem clone_row (A:Option Addr) (n c:Nat) (xs:List Int) (w:World) (h:Row .u32 w A n c xs) (hn:n <= 1073741824) :
  Calls Tryz.prog 116 #[.slice A n c] w fun e w'=>∃ A' c',e = .returned (.slice A' n c') /\ Row .u32 w' A' n c' xs /\ Below w.heap.size w w':=by
 cases A with
 | none=>exact clone_none n c xs w h
 | some a=>exact clone_some a n c xs w h hn
theorem boxes1 {w w':World} {u:Value} {p:Bool} (h:Below (w.heap.size + 1) ((w.alloc (.cells #[.bool p,u] 31)).alloc (.cells #[.bool false,.slice none 0 0] 31)) w') :
  w'.cell? ⟨w.heap.size,0,none⟩ = some (.bool p) /\ w'.cell? ⟨w.heap.size,1,none⟩ = some u /\ Below (w.heap.size + 1) ((w.alloc (.cells #[.bool p,u] 31)).alloc (.cells #[.bool false,.slice none 0 0] 31)) w':=by
 refine ⟨?_,?_,h⟩
 ·rw [h.cell (by simp),World.cell?_alloc_past _ _ _ (by simp),World.cell?_alloc_at _ _ _ _ rfl];rfl
 ·rw [h.cell (by simp),World.cell?_alloc_past _ _ _ (by simp),World.cell?_alloc_at _ _ _ _ rfl];rfl
theorem clone_num (s:Value) (a:Int) (L:Nat) (w:World) (h:Num w s a L) (hL:L <= 1073741824) :
  Calls Tryz.prog 116 #[s] w fun e w'=>∃ r,e = .returned r /\ Num w' r a L /\ Below w.heap.size w w':=by
 obtain ⟨A,n,c,xs,rfl,hr,hd,ht,hv,hn⟩:=h
 refine (clone_row A n c xs w hr (by omega)).mono ?_
 rintro e w' ⟨A',c',rfl,hr',hb⟩
 exact ⟨_,rfl,⟨_,_,_,_,rfl,hr',hd,ht,hv,hn⟩,hb⟩
theorem neg_int (u:Value) (x:Int) (L:Nat) (w:World) (h:Ival w u x L) (hL:L <= 1073741824) :
  Calls Tryz.prog 62 #[u] w fun e w'=>∃ r,e = .returned r /\ Ival w' r (-x) L /\ Below w.heap.size w w':=by
 obtain ⟨p,A,n,c,rfl⟩:=h.form
 obtain ⟨a,ha,ha0,rfl,_⟩:=h.parts
 have HA:=Hd ha
 clear ha h
 have hW:=(below_two w (.cells #[.bool p,.slice A n c] 31) (.cells #[.bool false,.slice none 0 0] 31)).drew
 go_enter Tryz.func62,Tryz.ntmps62
 go_wp2_with fail
 go_region_held3 (fun w'=>w'.cell? ⟨w.heap.size,0,none⟩ = some (.bool p) /\ w'.cell? ⟨w.heap.size,1,none⟩ = some (.slice A n c) /\ Below (w.heap.size + 1) ((w.alloc (.cells #[.bool p,.slice A n c] 31)).alloc (.cells #[.bool false,.slice none 0 0] 31)) w')
  (first | exact boxes1 (Below.drew (Below.refl _ _)) | exact boxes1 (by assumption) | exact boxes1 (Below.setCell (Below.setCell (by assumption) (by simp) _) (by simp) _))
  (first | (go_at_call 116;refine (clone_num _ a L _ (HA.out.below hW) hL).mono ?_;rintro e w1 ⟨r1,rfl,hr1,hb1⟩;have hB1:=Below.trans (Below.drew (Below.refl _ _)) (hb1.mono (B':=w.heap.size + 2) (by simp));have hC1:=hB1.mono (B':=w.heap.size + 1) (by omega)) | (go_at_call 115;refine (signed_out _ _ _ _ _ hr1 hL).mono ?_;rintro e w2 ⟨ng,A2,n2,c2,rfl,hv2,hb2⟩;have hB2:=Below.trans hB1 (hb2.mono (B':=w.heap.size + 2) (by have:=hB1.size;simp at this;omega));have hC2:=hB2.mono (B':=w.heap.size + 1) (by omega);obtain ⟨e1,e2,f1,f2⟩:=room1 hB2))
 clear hC1 hC2
 go_wp2
 refine bodyPost_ret (v:=.agg #[.bool ng,.slice A2 n2 c2]) (by simp [results,Tryz.results62,go_sem,e1,e2]) rfl ⟨_,rfl,?_,?_⟩
 ·have e0:-withSign p a = withSign (!p) a:=by cases p <;> simp [withSign]
  rw [e0];exact hv2.stored e1 e2 _ _
 ·exact (((below_two _ _ _).trans (hB2.mono (by omega))).setCell (by show _ <= _;simp) _).setCell (by show _ <= _;simp) _
def Typed (w:World) (v:Value) : Prop:=∀ ng A n c,v = .agg #[.bool ng,.slice A n c] -> n ≠ 0 -> ∃ b o cs fr,A = some ⟨b,o,none⟩ /\ w.heap[b]? = some (.cells cs 135 fr)
theorem Typed.below {w w':World} {v:Value} (h:Typed w v) (hb:Below w.heap.size w w') : Typed w' v:=by
 intro ng A n c e hn
 obtain ⟨b,o,cs,fr,hA,hh⟩:=h ng A n c e hn
 exact ⟨b,o,cs,fr,hA,(hb.block b (Array.getElem?_eq_some_iff.1 hh).1).trans hh⟩
theorem agg_inj {p q:Bool} {A B:Option Addr} {n m c d:Nat} (h:Value.agg #[.bool p,.slice A n c] = .agg #[.bool q,.slice B m d]) : p = q /\ A = B /\ n = m /\ c = d:=by
 simp only [Value.agg.injEq] at h
 have h0:(Value.bool p) = .bool q:=by have:=congrArg (fun x=>x[0]?) h;simpa using this
 have h1:Value.slice A n c = .slice B m d:=by have:=congrArg (fun x=>x[1]?) h;simpa using this
 simp only [Value.bool.injEq] at h0
 simp only [Value.slice.injEq] at h1
 exact ⟨h0,h1⟩
theorem Ival.apart {w w':World} {v:Value} {z:Int} {L:Nat} (h:Ival w v z L) (ht:Typed w v) {row:Option Nat} (hg:w.grownBy w' row) (hr:∀ g,row = some g -> ∃ cs fr,w.heap[g]? = some (.cells cs 31 fr)) : Ival w' v z L /\ Typed w' v:=by
 obtain ⟨ng,A,n,c,rfl⟩:=h.form
 have key:n ≠ 0 -> ∃ b o cs fr,A = some ⟨b,o,none⟩ /\ w.heap[b]? = some (.cells cs 135 fr) /\ w'.heap[b]? = w.heap[b]?:=by
  intro hn
  obtain ⟨b,o,cs,fr,hA,hh⟩:=ht ng A n c rfl hn
  refine ⟨b,o,cs,fr,hA,hh,hg.block b (Array.getElem?_eq_some_iff.1 hh).1 (fun e=>?_)⟩
  obtain ⟨cs',fr',h'⟩:=hr b e.symm
  rw [h'] at hh
  simp at hh
 constructor
 ·obtain ⟨a,⟨A',n',c',xs,e,hrow,r⟩,r'⟩:=h.parts
  simp only [Value.slice.injEq] at e
  obtain ⟨rfl,rfl,rfl⟩:=e
  refine ⟨ng,_,a,rfl,⟨_,_,_,xs,rfl,⟨hrow.1,hrow.2.1,fun hn=>?_⟩,r⟩,r'⟩
  obtain ⟨b,o,cs,fr,hA,hh,he⟩:=key hn
  obtain ⟨b',o',hA',hlt,hc⟩:=hrow.2.2 hn
  rw [hA] at hA'
  simp only [Option.some.injEq,Addr.mk.injEq,and_true] at hA'
  obtain ⟨rfl,rfl⟩:=hA'
  exact ⟨b,o,hA,Nat.lt_of_lt_of_le hlt hg.size,fun i hi=>(World.cell?_of_block (a:=⟨b,o + i,none⟩) he).trans (hc i hi)⟩
 ·intro ng' A' n' c' e hn
  obtain ⟨rfl,rfl,rfl,rfl⟩:=agg_inj e
  obtain ⟨b,o,cs,fr,hA,hh,he⟩:=key hn
  exact ⟨b,o,cs,fr,hA,he.trans hh⟩
theorem ownsRow_below {w w':World} {base:Nat} {e:TypeId} {size:Nat} {v:Value} {n:Nat} {xs:List Value} (h:w.ownsRow base e size v n xs) (hb:Below w.heap.size w w') : w'.ownsRow base e size v n xs:=
 h.kept (row:=none) ⟨hb.os,hb.tape,hb.output,hb.size,fun k hk _=>hb.block k hk⟩ (by cases v.ownBlock <;> simp)
theorem ownsRow_block {w:World} {base:Nat} {e:TypeId} {size:Nat} {v:Value} {n:Nat} {xs:List Value} (h:w.ownsRow base e size v n xs) : ∀ g,v.ownBlock = some g -> ∃ cs fr,w.heap[g]? = some (.cells cs e fr):=by
 intro g hg
 rcases h.2 with ⟨rfl,_⟩ | ⟨g',cap,cur,rfl,_,hh,_⟩
 ·simp [Value.ownBlock] at hg
 ·simp [Value.ownBlock] at hg
  subst hg
  exact ⟨_,_,hh⟩
theorem clone_typed (A:Option Addr) (n c:Nat) (xs:List Int) (w:World) (h:Row .u32 w A n c xs) (hn:n <= 1073741824) :
  Calls Tryz.prog 116 #[.slice A n c] w fun e w'=>∃ A' c',e = .returned (.slice A' n c') /\ (Row .u32 w' A' n c' xs /\ (n ≠ 0 -> ∃ b o cs fr,A' = some ⟨b,o,none⟩ /\ w'.heap[b]? = some (.cells cs 135 fr))) /\ Below w.heap.size w w':=by
 cases A with
 | none=>
  have h0:n = 0:=by
   rcases Nat.eq_zero_or_pos n with h1 | h1
   ·exact h1
   ·obtain ⟨b,o,e,_⟩:=h.2.2 (by omega);cases e
  refine (clone_none n c xs w h).mono ?_
  rintro e w' ⟨A',c',rfl,hr,hb⟩
  exact ⟨A',c',rfl,⟨hr,fun hn=>absurd h0 hn⟩,hb⟩
 | some a=>exact clone_own a n c xs w h hn
theorem signed_keep (neg:Bool) (A:Option Addr) (n c:Nat) (zs:List Int) (w:World) (h:Row .u32 w A n c zs) (hn:n <= 1073741824) (hd:Dig zs) :
  Calls Tryz.prog 115 #[.bool neg,.slice A n c] w fun e w'=>∃ ng k,k <= n /\ e = .returned (.agg #[.bool ng,.slice A k c]) /\ Ival w' (.agg #[.bool ng,.slice A k c]) (withSign neg (val zs)) n /\ Below w.heap.size w w':=by
 have hb1:Below w.heap.size w (w.alloc (.cells #[.bool false,.slice none 0 0] 31)):=(Below.refl _ _).alloc (Nat.le_refl _) _
 go_enter Tryz.func115,Tryz.ntmps115
 go_wp2_with fail
 refine (trim_any A n c zs _ (h.below hb1) hn).mono ?_
 rintro e w' ⟨k,hk,rfl,rfl,hv,ht⟩
 have hlen:=h.1
 have hpos:=trimmed_len hd ht (by omega) hv
 have hnum:Num w (.slice A k c) (val zs) n:=⟨_,_,_,_,rfl,h.take hk,hd.take _,ht,hv,hk⟩
 have hge:=(val_bounds hd).1
 have HV:=Hd hv
 have HP:=Hd hpos
 have HN:=Hd hnum
 clear hv hpos hnum hlen ht
 cases neg with
 | false=>
  go_wp2
  exact bodyPost_ret (v:=.agg #[.bool false,.slice A k c]) (by simp [results,Tryz.results115,go_sem]) rfl ⟨false,k,hk,rfl,⟨false,_,_,rfl,HN.out.below (below_alloc _ _),hge,rfl,by simp⟩,below_alloc _ _⟩
 | true=>
  by_cases hk0:k = 0
  ·have hz:val zs = 0:=by have:=HP.out;omega
   have HZ:=Hd hz
   clear hz hge
   subst hk0
   go_wp2
   exact bodyPost_ret (v:=.agg #[.bool false,.slice A 0 c]) (by simp [results,Tryz.results115,go_sem]) rfl ⟨false,0,hk,rfl,⟨false,_,_,rfl,HN.out.below (below_alloc _ _),by rw [HZ.out];decide,by simp [withSign,HZ.out],by simp⟩,below_alloc _ _⟩
  ·have hz:val zs ≠ 0:=by have:=HP.out;omega
   have HZ:=Hd hz
   clear hz
   have hp:(0:Int) < (k:Int):=by omega
   have hp':0 < k:=by omega
   go_wp2
   exact bodyPost_ret (v:=.agg #[.bool true,.slice A k c]) (by simp [results,Tryz.results115,go_sem]) rfl ⟨true,k,hk,rfl,⟨true,_,_,rfl,HN.out.below (below_alloc _ _),hge,rfl,fun _=>HZ.out⟩,below_alloc _ _⟩
theorem make_typed (p:Bool) (A:Option Addr) (n c:Nat) (xs:List Int) (w:World) (h:Row .u32 w A n c xs) (hn:n <= 1073741824) (hd:Dig xs) :
  Calls Tryz.prog 74 #[.bool p,.slice A n c] w fun e w'=>∃ ng A2 n2 c2,e = .returned (.agg #[.bool ng,.slice A2 n2 c2]) /\ Ival w' (.agg #[.bool ng,.slice A2 n2 c2]) (withSign p (val xs)) n /\ Typed w' (.agg #[.bool ng,.slice A2 n2 c2]) /\ Below w.heap.size w w':=by
 have hW:=below_alloc w (.cells #[.bool false,.slice none 0 0] 31)
 go_enter Tryz.func74,Tryz.ntmps74
 go_wp2_with fail
 refine (clone_typed A n c xs _ (h.below hW) hn).mono ?_
 rintro e w1 ⟨A',c',rfl,hr,hb1⟩
 have HR:=Hd hr.2
 replace hr:=hr.1
 go_wp2_with fail
 refine (signed_keep p A' n c' xs w1 hr hn hd).mono ?_
 rintro e w2 ⟨ng,k,hk,rfl,hv,hb2⟩
 have hty:Typed w2 (.agg #[.bool ng,.slice A' k c']):=by
  intro ng' B m d e hm
  obtain ⟨rfl,rfl,rfl,rfl⟩:=agg_inj e
  obtain ⟨b,o,cs,fr,hA,hh⟩:=HR.out (by omega)
  exact ⟨b,o,cs,fr,hA,(hb2.block b (Array.getElem?_eq_some_iff.1 hh).1).trans hh⟩
 have hB:=(hb1.mono (B':=w.heap.size + 1) (by simp)).trans (hb2.mono (B':=w.heap.size + 1) (by have:=hb1.size;simpa using this))
 obtain ⟨e1,e2,f1,f2⟩:=room0 hB
 have hst:∀ x y,Typed ((w2.setCell ⟨w.heap.size,0,none⟩ x).setCell ⟨w.heap.size,1,none⟩ y) (.agg #[.bool ng,.slice A' k c']):=by
  intro x y ng' B m d e hm
  obtain ⟨b,o,cs,fr,hA,hh⟩:=hty ng' B m d e hm
  have hne:b ≠ w.heap.size:=by
   rintro rfl
   have:=hB.block w.heap.size (by omega)
   rw [hh,heap_alloc_new] at this
   simp at this
  exact ⟨b,o,cs,fr,hA,by rw [Below.heap_setCell _ _ _ _ hne,Below.heap_setCell _ _ _ _ hne];exact hh⟩
 have HT:=Hd hst
 clear hst hty
 go_wp2
 refine bodyPost_ret (v:=.agg #[.bool ng,.slice A' k c']) (by simp [results,Tryz.results74,go_sem,e1,e2]) rfl ⟨_,_,_,_,rfl,hv.stored e1 e2 _ _,HT.out _ _,?_⟩
 exact ((hW.trans (hB.mono (by omega))).setCell (Nat.le_refl _) _).setCell (Nat.le_refl _) _
theorem Tryz.info31:(Tryz.prog.info? 31).map (fun i=>(i.zero,i.size,i.bytes)) = some (some (.agg #[.bool false,.slice none 0 0]),2,32):=by kernel_rfl
def flat (vs:List Value) : List Value:=vs.flatMap (fun v=>v.cells.toList)
def Ints (w:World) (base:Nat) (v:Value) (k L:Nat) (vs:List Value) (zs:List Int) : Prop:=
 vs.length = k /\ w.ownsRow base 31 2 v k (flat vs) /\ ∀ i,i < k -> Ival w (vs.getD i .nilFunc) (zs.getD i 0) L /\ Typed w (vs.getD i .nilFunc)
theorem flat_snoc (vs:List Value) (p:Bool) (x:Value) : flat (vs ++ [.agg #[.bool p,x]]) = flat vs ++ [.bool p,x]:=by
 simp [flat,Value.cells]
theorem Ints.next {wr w1 w2:World} {base k L n:Nat} {u v':Value} {vs:List Value} {zs:List Int} {p ng:Bool} {A2:Option Addr} {n2 c2:Nat} {xs:List Int}
  (h:Ints wr base u k L vs zs) (hW:Below wr.heap.size wr w1) (hown:w1.ownsRow base 31 2 u k (flat vs)) (hv:Ival w1 (.agg #[.bool ng,.slice A2 n2 c2]) (withSign p (val xs)) n) (ht:Typed w1 (.agg #[.bool ng,.slice A2 n2 c2]))
  (hz:withSign p (val xs) = zs.getD k 0) (hn:n <= L) (hown2:w2.ownsRow base 31 2 v' (k + 1) (flat vs ++ [.bool ng,.slice A2 n2 c2])) (hg:(w1.alloc (.cells #[.bool ng,.slice A2 n2 c2] 31)).grownBy w2 u.ownBlock) (_hk:k < zs.length) :
  Ints w2 base v' (k + 1) L (vs ++ [.agg #[.bool ng,.slice A2 n2 c2]]) zs:=by
 obtain ⟨hl,ho,hall⟩:=h
 refine ⟨by simp [hl],by rw [flat_snoc];exact hown2,fun i hi=>?_⟩
 have hb:=below_alloc w1 (.cells #[.bool ng,.slice A2 n2 c2] 31)
 have hrow:∀ g,u.ownBlock = some g -> ∃ cs fr,(w1.alloc (.cells #[.bool ng,.slice A2 n2 c2] 31)).heap[g]? = some (.cells cs 31 fr):=ownsRow_block (hown.alloc _)
 by_cases hik:i < k
 ·have e:(vs ++ [Value.agg #[.bool ng,.slice A2 n2 c2]]).getD i .nilFunc = vs.getD i .nilFunc:=by simp [List.getD,List.getElem?_append_left,hl,hik]
  rw [e]
  obtain ⟨h1,h2⟩:=hall i hik
  exact ((h1.below hW).below hb).apart ((h2.below hW).below hb) hg hrow
 ·obtain rfl:i = k:=by omega
  have e:(vs ++ [Value.agg #[.bool ng,.slice A2 n2 c2]]).getD i .nilFunc = .agg #[.bool ng,.slice A2 n2 c2]:=by simp [List.getD,hl]
  rw [e,<- hz]
  exact ((hv.mono hn).below hb).apart (ht.below hb) hg hrow
end Go.Proofs.YtbajnceoolkckaaGreat
