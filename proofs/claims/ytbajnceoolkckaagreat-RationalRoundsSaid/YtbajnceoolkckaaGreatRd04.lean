/- Of the proof of RationalRounds: LawCore, Each, Lens0. -/
import Derived.Test.YtbajnceoolkckaaGreatRd03
import Derived.OrdersHeld
import Derived.Shelf.Small.Bits
import Derived.Shelf.Strconv.Itoa0
import Derived.Test.YtbajnceoolkckaaGreatProg
import Derived.Lib.ItoaNum
open Go.Lib renaming hid → Hd
set_option maxRecDepth 100000
set_option maxHeartbeats 16000000
namespace Go.Proofs.YtbajnceoolkckaaGreat
open Go.RowKit LM
theorem below_alloc' (w:World) (o:Obj) : Below w.heap.size w (w.alloc o):=(Below.refl _ _).alloc (Nat.le_refl _) _
theorem short1_any (p:Bool) (A:Option Addr) (n c:Nat) (most:Int) (b:Nat) (w:World) (hb:b < w.heap.size) (hc:w.cell? ⟨b,0,none⟩ = some (.int .i64 most)) :
  Calls Tryz.prog 71 #[.agg #[.bool p,.slice A n c],.pointer (some ⟨b,0,none⟩)] w fun e w'=>e = .returned (.bool (decide (most < (n:Int)))) /\ Below w.heap.size w w':=by
 go_enter Tryz.func71,Tryz.ntmps71
 go_wp2
 go_ret
 exact ⟨rfl,below_alloc' _ _⟩
def Lens (w:World) (g N:Nat) (lens:List Nat) : Prop:=
 lens.length = N /\ g < w.heap.size /\ ∀ i,i < N -> ∃ p A c,w.cell? ⟨g,i * 2,none⟩ = some (.bool p) /\ w.cell? ⟨g,i * 2 + 1,none⟩ = some (.slice A (lens.getD i 0) c)
theorem Lens.below {w w':World} {g N:Nat} {lens:List Nat} (h:Lens w g N lens) (hb:Below w.heap.size w w') : Lens w' g N lens:=by
 obtain ⟨h1,h2,h3⟩:=h
 refine ⟨h1,Nat.lt_of_lt_of_le h2 hb.size,fun i hi=>?_⟩
 obtain ⟨p,A,c,c0,c1⟩:=h3 i hi
 exact ⟨p,A,c,(hb.cell (p:=⟨g,i * 2,none⟩) h2).trans c0,(hb.cell (p:=⟨g,i * 2 + 1,none⟩) h2).trans c1⟩
def tooLong (lens:List Nat) (most:Int) : Bool:=lens.any (fun n=>decide (most < (n:Int)))
theorem tooLong_yes {lens:List Nat} {most:Int} {k:Nat} (hk:k < lens.length) (h:most < (lens.getD k 0:Int)) : tooLong lens most = true:=by
 unfold tooLong
 rw [List.any_eq_true]
 refine ⟨lens[k],List.getElem_mem hk,?_⟩
 have:lens.getD k 0 = lens[k]:=by simp [List.getD,hk]
 rw [this] at h
 simpa using h
theorem tooLong_no {lens:List Nat} {most:Int} (h:∀ i,i < lens.length -> ¬ most < (lens.getD i 0:Int)) : tooLong lens most = false:=by
 unfold tooLong
 rw [List.any_eq_false]
 intro n hn
 obtain ⟨i,hi,rfl⟩:=List.mem_iff_getElem.1 hn
 have:=h i hi
 have e:lens.getD i 0 = lens[i]:=by simp [List.getD,hi]
 rw [e] at this
 simpa using this
theorem index_any (g N:Nat) (lens:List Nat) (most:Int) (b:Nat) (w:World) (h:Lens w g N lens) (hN:N <= 1000) (hb:b < w.heap.size) (hc:w.cell? ⟨b,0,none⟩ = some (.int .i64 most)) :
  Calls Tryz.prog 119 #[.slice (some ⟨g,0,none⟩) N N,.func (Fn.func 71) #[] #[.pointer (some ⟨b,0,none⟩)]] w fun e w'=>(∃ r:Int,e = .returned (.int .i64 r) /\ decide (0 <= r) = tooLong lens most) /\ Below w.heap.size w w':=by
 obtain ⟨hl,hg,hlens⟩:=h
 have HL:=Hd hl
 have HH:=Hd hlens
 clear hl hlens
 go_enter Tryz.func119,Tryz.ntmps119
 go_wp2_with fail
 go_loopw [8] (fun iv wr=>∃ k:Nat,iv = .int .i64 k /\ k <= N /\ Hid (∀ i,i < k -> ¬ most < (lens.getD i 0:Int)) /\ Below w.heap.size w wr) (fun iv _=>N - (intOf iv).toNat)
 case atStart=>exact ⟨0,rfl,Nat.zero_le _,Hd (fun i hi=>absurd hi (by omega)),Below.refl _ _⟩
 case round=>
  obtain ⟨k,rfl,hk,HA,hbw⟩:=hrel
  by_cases hlt:k < N
  ·obtain ⟨p,A,c,c0,c1⟩:=HH.out k hlt
   have d0:wr.cell? ⟨g,k * 2,none⟩ = _:=(hbw.cell (p:=⟨g,k * 2,none⟩) hg).trans c0
   have d1:wr.cell? ⟨g,k * 2 + 1,none⟩ = _:=(hbw.cell (p:=⟨g,k * 2 + 1,none⟩) hg).trans c1
   have hcb:=(hbw.cell (p:=⟨b,0,none⟩) hb).trans hc
   have hbr:b < wr.heap.size:=Nat.lt_of_lt_of_le hb hbw.size
   clear c0 c1
   obtain ⟨m,hm⟩ : ∃ m,lens.getD k 0 = m:=⟨_,rfl⟩
   rw [hm] at d1
   have HM:=Hd hm
   clear hm
   by_cases hlong:most < (m:Int)
   ·go_wp2_with (go_at_call 71;refine (short1_any p A m c most b _ hbr hcb).mono ?_;rintro e w1 ⟨rfl,hb1⟩)
    go_ret
    refine ⟨⟨(k:Int),rfl,?_⟩,hbw.trans (hb1.mono hbw.size)⟩
    rw [tooLong_yes (k:=k) (by rw [HL.out];exact hlt) (by rw [HM.out];exact hlong)]
    simp
   ·go_wp2_with (go_at_call 71;refine (short1_any p A m c most b _ hbr hcb).mono ?_;rintro e w1 ⟨rfl,hb1⟩)
    refine ⟨⟨k + 1,by go_num,hlt,Hd (fun i hi=>?_),hbw.trans (hb1.mono hbw.size)⟩,by simp [intOf];omega⟩
    by_cases hik:i = k
    ·subst hik;rw [HM.out];exact Int.not_lt.2 hlong
    ·exact Int.not_lt.2 (HA.out i (by omega))
  ·obtain rfl:k = N:=by omega
   go_wp2
   go_ret
   refine ⟨⟨-1,rfl,?_⟩,hbw⟩
   rw [tooLong_no (fun i hi=>Int.not_lt.2 (HA.out i (by rw [HL.out] at hi;exact hi)))]
   decide
theorem contains_any (g N:Nat) (lens:List Nat) (most:Int) (b:Nat) (w:World) (h:Lens w g N lens) (hN:N <= 1000) (hb:b < w.heap.size) (hc:w.cell? ⟨b,0,none⟩ = some (.int .i64 most)) :
  Calls Tryz.prog 70 #[.slice (some ⟨g,0,none⟩) N N,.func (Fn.func 71) #[] #[.pointer (some ⟨b,0,none⟩)]] w fun e w'=>e = .returned (.bool (tooLong lens most)) /\ Below w.heap.size w w':=by
 go_enter Tryz.func70,Tryz.ntmps70
 go_wp2_with fail
 refine (index_any g N lens most b w h hN hb hc).mono ?_
 rintro e w1 ⟨⟨r,rfl,hr⟩,hb1⟩
 have HR:=Hd hr
 clear hr
 go_wp2
 go_ret
 exact ⟨by rw [<- HR.out];rfl,hb1⟩
theorem short_any (g N:Nat) (lens:List Nat) (most:Int) (w:World) (h:Lens w g N lens) (hN:N <= 1000) :
  Calls Tryz.prog 12 #[.int .i64 most,.slice (some ⟨g,0,none⟩) N N] w fun e w'=>e = .returned (.bool (!tooLong lens most)) /\ Below w.heap.size w w':=by
 have hmf:∀ (fn:Fn) (first cap:Array Value) (w:World),(Instr.makeFunc fn first cap).run Tryz.prog w = .ok (.func fn first cap) w:=fun _ _ _ _=>rfl
 have hA:=below_alloc' w (.cells #[.int .i64 most] 3)
 have hc:(w.alloc (.cells #[.int .i64 most] 3)).cell? ⟨w.heap.size,0,none⟩ = some (.int .i64 most):=by rw [World.cell?_alloc_at _ _ _ _ rfl];rfl
 have HC:=Hd hc
 clear hc
 go_enter Tryz.func12,Tryz.ntmps12
 go_wp2_with fail
 refine (contains_any g N lens most w.heap.size _ (h.below hA) hN (by simp) HC.out).mono ?_
 rintro e w1 ⟨rfl,hb1⟩
 go_wp2
 go_ret
 exact ⟨rfl,hA.trans (hb1.mono (by simp))⟩
theorem cmpI_cases (x y:Int) : (cmpI x y = -1 /\ cmpI y x = 1 /\ x < y) \/ (cmpI x y = 0 /\ cmpI y x = 0 /\ x = y) \/ (cmpI x y = 1 /\ cmpI y x = -1 /\ y < x):=by
 rcases Int.lt_trichotomy x y with h | h | h
 ·exact .inl ⟨cmpI_lt h,cmpI_gt h,h⟩
 ·exact .inr (.inl ⟨cmpI_eq h,cmpI_eq h.symm,h⟩)
 ·exact .inr (.inr ⟨cmpI_gt h,cmpI_lt h,h⟩)
theorem cmpI_le {x y:Int} : cmpI x y <= 0 ↔ x <= y:=by
 rcases cmpI_cases x y with ⟨h,_,g⟩ | ⟨h,_,g⟩ | ⟨h,_,g⟩ <;> rw [h] <;> omega
theorem Ival.zero (w:World) : Ival w (.agg #[.bool false,.slice none 0 0]) 0 0:=
 ⟨false,_,0,rfl,⟨none,0,0,[],rfl,Row.nil_,Dig.nil,.inl rfl,rfl,Nat.le_refl _⟩,Int.le_refl _,rfl,by simp⟩
theorem wpAnyH_taken {P:Program} {md:Region.Mode} {ops:Array Oper} {Q:Exit -> Act -> World -> Prop} {S:World -> Prop} {i:Nat} {oi:Oper} {d:Option Tmp} {v:Value} {fuel:Nat} {listed:Array Bool} {a:Act} {w:World}
  (hi:ops[i]? = some oi) (hd:oi.dst = d)
  (hs:Region.noSelect ops = true) (hf:Region.free md ops listed i = true) (hr:(Region.ready md ops listed).contains i = true)
  (hQ:∀ c a w,Q (.panic c) (a.put oi.dst v) w -> Q (.panic c) a w) (hy:YieldsIf P ops S oi v a) (hS:S w)
  (h:wpAnyH P md ops Q S fuel (listed.setIfInBounds i true) (a.put d v) w) : wpAnyH P md ops Q S (fuel + 1) listed a w:=by
 subst hd
 exact wpAnyH_take hi hs hf hr hQ hy hS h
theorem tk {P:Program} {md:Region.Mode} {ops:Array Oper} {Q:Exit -> Act -> World -> Prop} {S:World -> Prop} (i:Nat) (d:Tmp) {oi:Oper} {v:Value} {fuel:Nat} {listed:Array Bool} {a:Act} {w:World}
  (hS:S w) (h:wpAnyH P md ops Q S fuel (listed.setIfInBounds i true) (a.put (some d) v) w)
  (hi:ops[i]? = some oi:=by exact rfl) (hd:oi.dst = some d:=by exact rfl)
  (hs:Region.noSelect ops = true:=by kernel_rfl) (hf:Region.free md ops listed i = true:=by kernel_rfl) (hr:(Region.ready md ops listed).contains i = true:=by kernel_rfl)
  (hQ:∀ c a w,Q (.panic c) (a.put oi.dst v) w -> Q (.panic c) a w:=by exact fun _ _ _ h=>h) (hy:YieldsIf P ops S oi v a:=by exact Or.inl ⟨by rfl,by (intro w hSw;(try dsimp only at hSw);go_simp;try with_reducible rfl)⟩) : wpAnyH P md ops Q S (fuel + 1) listed a w:=
 wpAnyH_taken hi hd hs hf hr hQ hy hS h
theorem rd {P:Program} {md:Region.Mode} {ops:Array Oper} {Q:Exit -> Act -> World -> Prop} {S:World -> Prop} {fuel:Nat} {listed:Array Bool} {a:Act} {w:World} (i:Nat)
  (h:AllReadyH P md ops Q S fuel listed a w [i]) (hr:Region.ready md ops listed = [i]:=by kernel_rfl) : wpAnyH P md ops Q S (fuel + 1) listed a w:=
 wpAnyH_ready hr (by simp) h
def upd (b:Nat -> Bool) (k:Nat) : Nat -> Bool:=fun j=>Nat.beq j k || b j
def AllT (b:Nat -> Bool) : List Nat -> Prop
 | []=>True
 | j :: r=>b j = true /\ AllT b r
def depsOf (md:Region.Mode) (o:Oper) : List Nat:=(o.after.toList.filter (Region.binds md)).map (·.on)
theorem allT_of {b:Nat -> Bool} : ∀ (l:List Nat),(∀ j ∈ l,b j = true) -> AllT b l
 | [],_=>trivial
 | j :: r,h=>⟨h j (List.mem_cons_self ..),allT_of r fun i hi=>h i (List.mem_cons_of_mem _ hi)⟩
def orderly (md:Region.Mode) (ops:Array Oper) : Bool:=
 (List.range ops.size).all fun j=>match ops[j]? with
  | some o=>(depsOf md o).all fun i=>decide (i < j)
  | none=>true
def togo (b:Nat -> Bool) : List Nat -> Nat
 | []=>0
 | j :: r=>(if b j = true then 0 else 1) + togo b r
theorem togo_le {b c:Nat -> Bool} (h:∀ j,b j = true -> c j = true) : ∀ l,togo c l <= togo b l
 | []=>Nat.le_refl _
 | j :: r=>by
  have:=togo_le h r
  have hj:=h j
  simp only [togo]
  split <;> split <;> first | omega | (exfalso;simp_all)
theorem togo_lt {b c:Nat -> Bool} (h:∀ j,b j = true -> c j = true) {i:Nat} (hb:b i = false) (hc:c i = true) : ∀ {l},i ∈ l -> togo c l < togo b l
 | j :: r,hm=>by
  have h1:=togo_le h r
  have hj:=h j
  simp only [togo]
  rcases List.mem_cons.1 hm with e | hm
  ·subst e
   rw [if_pos hc,if_neg (by rw [hb];decide)];omega
  ·have h2:=togo_lt h hb hc hm
   split <;> split <;> first | omega | (exfalso;simp_all)
theorem togo_zero {b:Nat -> Bool} : ∀ {l},togo b l = 0 -> ∀ j ∈ l,b j = true
 | k :: r,h,j,hj=>by
  simp only [togo] at h
  rcases List.mem_cons.1 hj with e | hj
  ·subst e
   by_cases hb:b j = true
   ·exact hb
   ·rw [if_neg hb] at h;omega
  ·exact togo_zero (l:=r) (by omega) j hj
theorem upd_le (b:Nat -> Bool) (k:Nat) : ∀ j,b j = true -> upd b k j = true:=fun j h=>by simp [upd,h]
theorem upd_at (b:Nat -> Bool) (k:Nat) : upd b k k = true:=by simp [upd]
theorem getD_upd (l:Array Bool) (i:Nat) : (fun j=>(l.setIfInBounds i true).getD j true) = upd (fun j=>l.getD j true) i:=by
 funext j
 simp only [upd]
 by_cases h:j = i
 ·subst h
  have hb:Nat.beq j j = true:=Nat.beq_refl j
  rw [hb]
  by_cases hj:j < l.size
  ·simp [Array.getD,hj]
  ·simp [Array.getD,hj]
 ·have:Nat.beq j i = false:=by
   rw [Bool.eq_false_iff]
   exact fun e=>h (Nat.eq_of_beq_eq_true e)
  rw [this,Bool.false_or,getD_set_ne true (Ne.symm h)]
section
variable {P:Program} {ops:Array Oper} {Q:Exit -> Act -> World -> Prop} {md:Region.Mode} {S:World -> Prop} {V:Type} {A:V -> Act} {I:(Nat -> Bool) -> V -> World -> Prop}
def ClosedB (md:Region.Mode) (ops:Array Oper) (b:Nat -> Bool) : Prop:=∀ j o,ops[j]? = some o -> b j = true -> AllT b (depsOf md o)
theorem AllT.mono {b c:Nat -> Bool} (h:∀ j,b j = true -> c j = true) : ∀ {l},AllT b l -> AllT c l
 | [],_=>trivial
 | _ :: _,h1=>⟨h _ h1.1,AllT.mono h h1.2⟩
theorem ClosedB.upd {b:Nat -> Bool} {i:Nat} {o:Oper} (h:ClosedB md ops b) (ho:ops[i]? = some o) (hd:AllT b (depsOf md o)) : ClosedB md ops (upd b i):=fun j p hp hj=>by
 by_cases e:j = i
 ·subst e
  have:p = o:=by rw [ho] at hp;exact (Option.some.inj hp).symm
  subst this
  exact hd.mono (upd_le b j)
 ·have hb:b j = true:=by
   have:Nat.beq j i = false:=by
    rw [Bool.eq_false_iff]
    exact fun h=>e (Nat.eq_of_beq_eq_true h)
   simpa [Go.Proofs.YtbajnceoolkckaaGreat.upd,this] using hj
  exact (h j p hp hb).mono (upd_le b i)
def closedC (md:Region.Mode) (ops:Array Oper) (b:Nat -> Bool) : Bool:=
 (List.range ops.size).all fun j=>match ops[j]? with
  | some o=>!b j || (depsOf md o).all b
  | none=>true
theorem ClosedB.of {b:Nat -> Bool} (h:closedC md ops b = true) : ClosedB md ops b:=fun j o ho hj=>by
 have h1:=List.all_eq_true.1 h j (List.mem_range.2 (Array.getElem?_eq_some_iff.1 ho).1)
 simp only [ho,hj,Bool.not_true,Bool.false_or] at h1
 exact allT_of _ fun i hi=>List.all_eq_true.1 h1 i hi
def EachFrom (P:Program) (md:Region.Mode) (ops:Array Oper) (Q:Exit -> Act -> World -> Prop) (S:World -> Prop) {V:Type} (A:V -> Act) (I:(Nat -> Bool) -> V -> World -> Prop) (b0:Nat -> Bool) (k:Nat) : Prop:=
 ∀ i,k <= i -> ∀ o,ops[i]? = some o -> ∀ (b:Nat -> Bool) (v:V) (w:World),(∀ j,b0 j = true -> b j = true) -> ClosedB md ops b -> b i = false -> AllT b (depsOf md o) -> I b v w ->
  wpOp P ops Q i (fun a' w'=>S w' /\ ∃ v',a' = A v' /\ I (upd b i) v' w') (A v) w
theorem EachFrom.nil {b0:Nat -> Bool} {k:Nat} (h:Nat.ble ops.size k = true) : EachFrom P md ops Q S A I b0 k:=fun i hi o ho=>by
 have h1:=(Array.getElem?_eq_some_iff.1 ho).1
 have h2:=Nat.le_of_ble_eq_true h
 omega
theorem EachFrom.skip {b0:Nat -> Bool} {k:Nat} (hb:b0 k = true) (hr:EachFrom P md ops Q S A I b0 (k + 1)) : EachFrom P md ops Q S A I b0 k:=fun i hi o ho b v w h0 hcl hi0=>by
 rcases Nat.lt_or_eq_of_le hi with h | h
 ·exact hr i h o ho b v w h0 hcl hi0
 ·subst h
  rw [h0 k hb] at hi0;cases hi0
theorem EachFrom.cons {b0:Nat -> Bool} {k:Nat} {o:Oper} {ds:List Nat} {dst:Option Tmp} (ho:ops[k]? = some o) (hdst:o.dst = dst) (hds:depsOf md o = ds) (set:V -> Value -> V) (hset:∀ v x,(A v).put dst x = A (set v x))
  (h:∀ (b:Nat -> Bool) (v:V) (w:World),(∀ j,b0 j = true -> b j = true) -> ClosedB md ops b -> b k = false -> AllT b ds -> I b v w ->
   ∀ K':Act -> World -> Prop,Shut (∀ x w',S w' -> I (upd b k) (set v x) w' -> K' ((A v).put dst x) w') ->
    if Region.wanted o (yielded ops (A v).tmps) = true then Oper.wp P o (A v) w K' Q else K' ((A v).put dst undef) w)
  (hr:EachFrom P md ops Q S A I b0 (k + 1)) : EachFrom P md ops Q S A I b0 k:=fun i hi o' ho' b v w h0 hcl hi0 hd hI=>by
 subst hdst
 rcases Nat.lt_or_eq_of_le hi with h' | h'
 ·exact hr i h' o' ho' b v w h0 hcl hi0 hd hI
 ·subst h'
  have e:o' = o:=by rw [ho] at ho';exact (Option.some.inj ho').symm
  subst e
  rw [hds] at hd
  refine wpOp_step ho fun K' hK=>h b v w h0 hcl hi0 hd hI K' ?_
  exact fun x w' hS hI'=>hK _ _ ⟨hS,_,hset v x,hI'⟩
theorem wpAnyH_each (b0:Nat -> Bool) (hord:orderly md ops = true) (he:EachFrom P md ops Q S A I b0 0) (hd:∀ v w,I (fun _=>true) v w -> Q .normal (A v) w) :
  ∀ (fuel:Nat) (l:Array Bool) (v:V) (w:World),l.size = ops.size -> togo (fun j=>l.getD j true) (List.range ops.size) <= fuel ->
   (∀ j,b0 j = true -> l.getD j true = true) -> ClosedB md ops (fun j=>l.getD j true) -> I (fun j=>l.getD j true) v w -> wpAnyH P md ops Q S fuel l (A v) w:=by
 intro fuel
 have full:∀ (l:Array Bool),l.size = ops.size -> (∀ j ∈ List.range ops.size,l.getD j true = true) -> (fun j=>l.getD j true) = fun _=>true:=fun l hl h=>by
  funext j
  by_cases hj:j < ops.size
  ·exact h j (List.mem_range.2 hj)
  ·simp [Array.getD,hl,hj]
 have none:∀ (l:Array Bool),l.size = ops.size -> Region.ready md ops l = [] -> ∀ j ∈ List.range ops.size,l.getD j true = true:=fun l hl hr j=>by
  induction j using Nat.strongRecOn with
  | ind j ih=>
   intro hj
   have hjs:=List.mem_range.1 hj
   cases hb:l.getD j true with
   | true=>rfl
   | false=>
    exfalso
    have ho:ops[j]? = some ops[j]:=Array.getElem?_eq_getElem hjs
    have hm:j ∈ Region.ready md ops l:=mem_ready.2 ⟨hb,ops[j],ho,fun e he hbe=>by
     have h1:(depsOf md ops[j]).all (fun i=>decide (i < j)) = true:=by
      have:=List.all_eq_true.1 hord j hj
      simpa only [ho] using this
     have h2:=List.all_eq_true.1 h1 e.on (List.mem_map.2 ⟨e,List.mem_filter.2 ⟨by simpa using he,hbe⟩,rfl⟩)
     have h3:=of_decide_eq_true h2
     have h4:=ih e.on h3 (List.mem_range.2 (by omega))
     have h5:e.on < l.size:=by omega
     simpa [Array.getD,h5] using h4⟩
    rw [hr] at hm;cases hm
 induction fuel with
 | zero=>
  intro l v w hl hf hb hcl hI
  have hall:=togo_zero (Nat.le_zero.1 hf)
  refine ⟨?_,hd v w (by rw [<- full l hl hall];exact hI)⟩
  cases hr:Region.ready md ops l with
  | nil=>rfl
  | cons x xs=>
   exfalso
   have hx:x ∈ Region.ready md ops l:=by rw [hr];exact List.mem_cons_self ..
   obtain ⟨h0,o,ho,-⟩:=mem_ready.1 hx
   have:=hall x (List.mem_range.2 (Array.getElem?_eq_some_iff.1 ho).1)
   rw [h0] at this;cases this
 | succ fuel ih=>
  intro l v w hl hf hb hcl hI
  refine ⟨fun hr=>hd v w (by rw [<- full l hl (none l hl hr)];exact hI),fun i hi=>?_⟩
  obtain ⟨h0,o,ho,hall⟩:=mem_ready.1 hi
  have hdep:AllT (fun j=>l.getD j true) (depsOf md o):=allT_of _ fun j hj=>by
   obtain ⟨e,he,rfl⟩:=List.mem_map.1 hj
   obtain ⟨he,hbe⟩:=List.mem_filter.1 he
   have:=hall e (by simpa using he) hbe
   by_cases hs:e.on < l.size
   ·simpa [Array.getD,hs] using this
   ·simp [Array.getD,hs]
  have hlt:i ∈ List.range ops.size:=List.mem_range.2 (Array.getElem?_eq_some_iff.1 ho).1
  refine wpOp_mono (fun a' w' h'=>?_) (he i (Nat.zero_le _) o ho (fun j=>l.getD j true) v w hb hcl h0 hdep hI)
  obtain ⟨hS,v',rfl,hI'⟩:=h'
  refine ⟨hS,ih _ v' w' (by simpa using hl) ?_ ?_ ?_ ?_⟩
  ·rw [getD_upd]
   have:=togo_lt (b:=fun j=>l.getD j true) (c:=upd (fun j=>l.getD j true) i) (upd_le _ i) h0 (upd_at _ i) hlt
   omega
  ·intro j hj
   exact (congrFun (getD_upd l i) j).trans (upd_le _ i j (hb j hj))
  ·rw [getD_upd];exact hcl.upd ho hdep
  ·rw [getD_upd];exact hI'
def fillA (a:Act) : List Nat -> List Value -> Act
 | s :: sl,x :: xs=>fillA (a.put (some s) x) sl xs
 | _,_=>a
theorem wpAnyH_begin {a0:Act} {l:Array Bool} {w:World} {fuel:Nat} (bs:List Bool) (sl:List Nat) (vals:V -> List Value) (ext:Act -> V)
  (_:∀ v,fillA a0 sl (vals v) = A v) (h0:A (ext a0) = a0) (hl:l = bs.toArray) (hsz:bs.toArray.size = ops.size) (hf:Nat.ble (togo (fun j=>bs.toArray.getD j true) (List.range ops.size)) fuel = true)
  (hord:orderly md ops = true) (hcl:closedC md ops (fun j=>bs.toArray.getD j true) = true) (hI:I (fun j=>bs.toArray.getD j true) (ext a0) w)
  (he:EachFrom P md ops Q S A I (fun j=>bs.toArray.getD j true) 0) (hd:∀ v w,I (fun _=>true) v w -> Q .normal (A v) w) :
  wpAnyH P md ops Q S fuel l a0 w:=by
 subst hl
 rw [<- h0]
 exact wpAnyH_each _ hord he hd fuel _ (ext a0) w hsz (Nat.le_of_ble_eq_true hf) (fun _ h=>h) (ClosedB.of hcl) hI
end
end Go.Proofs.YtbajnceoolkckaaGreat
namespace Go.Proofs
open Go.Shelf
def Tryz.lays133_ren:Go.Shelf.Ren:=⟨fun | 133=>158 | 128=>177 | n=>n,fun | 51=>135 | 3=>3 | 4=>4 | 46=>184 | 5=>5 | 9=>9 | n=>n,fun | n=>n⟩
theorem Tryz.lays133:Go.Proofs.Lays.n133 Tryz.prog Tryz.lays133_ren:={
 mixed:=by kernel_rfl
 f128:=Tryz.func177.trans (congrArg some (by kernel_rfl))
 f133:=Tryz.func158.trans (congrArg some (by kernel_rfl))
 t3:=Tryz.underlying3
 a3:=Tryz.isAgg3
 z3:=Tryz.sizeOf3
 v3:=Tryz.zeroValue3
 t4:=Tryz.underlying4
 a4:=Tryz.isAgg4
 z4:=Tryz.sizeOf4
 v4:=Tryz.zeroValue4
 t5:=Tryz.underlying5
 a5:=Tryz.isAgg5
 z5:=Tryz.sizeOf5
 v5:=Tryz.zeroValue5
 t9:=Tryz.underlying9
 a9:=Tryz.isAgg9
 z9:=Tryz.sizeOf9
 v9:=Tryz.zeroValue9
 t46:=Tryz.underlying184
 a46:=Tryz.isAgg184
 z46:=Tryz.sizeOf184
 v46:=Tryz.zeroValue184
 t51:=Tryz.underlying135
 a51:=Tryz.isAgg135
 z51:=Tryz.sizeOf135
 v51:=Tryz.zeroValue135 }
theorem Tryz.bits_LeadingZeros32 (x:Int) (w:World) (h0:0 <= x) (h1:x <= 4294967295) :
    Calls Tryz.prog 158 #[.int .u32 x] w fun e w'=>e = .returned (.int .i64 (32 - (Lib.bitLen x.toNat:Int))) /\ w' = w:=Any.bits_LeadingZeros32 Tryz.lays133 x w h0 h1
end Go.Proofs
namespace Go.Proofs.YtbajnceoolkckaaGreat
open Go.RowKit LM
theorem of_boxes {w w':World} {u:Value} {p:Bool} (h:Below (w.heap.size + 1) (((w.alloc (.cells #[.bool p,u] 24)).alloc (.cells #[.bool false,.slice none 0 0] 31)).alloc (.cells #[.bool false,.slice none 0 0] 34)) w') :
  w'.cell? ⟨w.heap.size,0,none⟩ = some (.bool p) /\ w'.cell? ⟨w.heap.size,1,none⟩ = some u /\ Below (w.heap.size + 1) (((w.alloc (.cells #[.bool p,u] 24)).alloc (.cells #[.bool false,.slice none 0 0] 31)).alloc (.cells #[.bool false,.slice none 0 0] 34)) w':=by
 refine ⟨?_,?_,h⟩
 ·rw [h.cell (by simp),World.cell?_alloc_past _ _ _ (by simp;omega),World.cell?_alloc_past _ _ _ (by simp),World.cell?_alloc_at _ _ _ _ rfl];rfl
 ·rw [h.cell (by simp),World.cell?_alloc_past _ _ _ (by simp;omega),World.cell?_alloc_past _ _ _ (by simp),World.cell?_alloc_at _ _ _ _ rfl];rfl
theorem of_rooms {w w':World} {x:Obj} (h:Below (w.heap.size + 3) (((w.alloc x).alloc (.cells #[.bool false,.slice none 0 0] 31)).alloc (.cells #[.bool false,.slice none 0 0] 34)) w') :
  (w'.cell? ⟨w.heap.size + 1,0,none⟩ = some (.bool false) /\ w'.cell? ⟨w.heap.size + 1,1,none⟩ = some (.slice none 0 0) /\ w'.frozen? ⟨w.heap.size + 1,0,none⟩ = false /\ w'.frozen? ⟨w.heap.size + 1,1,none⟩ = false) /\
  w'.cell? ⟨w.heap.size + 1 + 1,0,none⟩ = some (.bool false) /\ w'.cell? ⟨w.heap.size + 1 + 1,1,none⟩ = some (.slice none 0 0) /\ w'.frozen? ⟨w.heap.size + 1 + 1,0,none⟩ = false /\ w'.frozen? ⟨w.heap.size + 1 + 1,1,none⟩ = false:=by
 refine ⟨⟨?_,?_,?_,?_⟩,?_,?_,?_,?_⟩
 ·rw [h.cell (by simp),World.cell?_alloc_past _ _ _ (by simp),World.cell?_alloc_at _ _ _ _ (by simp)];rfl
 ·rw [h.cell (by simp),World.cell?_alloc_past _ _ _ (by simp),World.cell?_alloc_at _ _ _ _ (by simp)];rfl
 ·rw [h.frozen (by simp),World.frozen?_alloc_past _ _ _ (by simp)];exact World.frozen?_alloc_at _ _ _ _ (by simp)
 ·rw [h.frozen (by simp),World.frozen?_alloc_past _ _ _ (by simp)];exact World.frozen?_alloc_at _ _ _ _ (by simp)
 ·rw [h.cell (by simp),World.cell?_alloc_at _ _ _ _ (by simp)];rfl
 ·rw [h.cell (by simp),World.cell?_alloc_at _ _ _ _ (by simp)];rfl
 ·rw [h.frozen (by simp)];exact World.frozen?_alloc_at _ _ _ _ (by simp)
 ·rw [h.frozen (by simp)];exact World.frozen?_alloc_at _ _ _ _ (by simp)
theorem Rval.stored2 {w:World} {s:Value} {z:Int} {L:Nat} (h:Rval w s z L) {r t:Nat} (hrt:r ≠ t) (e1:w.cell? ⟨r,0,none⟩ = some (.bool false)) (e2:w.cell? ⟨r,1,none⟩ = some (.slice none 0 0))
  (g1:w.cell? ⟨t,0,none⟩ = some (.bool false)) (g2:w.cell? ⟨t,1,none⟩ = some (.slice none 0 0)) (x y x' y':Value) :
  Rval ((((w.setCell ⟨r,0,none⟩ x).setCell ⟨r,1,none⟩ y).setCell ⟨t,0,none⟩ x').setCell ⟨t,1,none⟩ y') s z L:=by
 refine (h.stored e1 e2 x y).stored ?_ ?_ x' y'
 ·rw [World.cell?_setCell_other _ _ _ _ (by simp <;> omega),World.cell?_setCell_other _ _ _ _ (by simp <;> omega),g1]
 ·rw [World.cell?_setCell_other _ _ _ _ (by simp <;> omega),World.cell?_setCell_other _ _ _ _ (by simp <;> omega),g2]
theorem of_any (p:Bool) (A:Option Addr) (n c:Nat) (xs:List Int) (w:World) (h:Row .u32 w A n c xs) (hn:n <= 1048576) (hd:Dig xs) :
  Calls Tryz.prog 15 #[.agg #[.bool p,.slice A n c]] w fun e w'=>∃ g1 A1 n1 c1 g2 A2 n2 c2,e = .returned (.tuple #[.agg #[.bool g1,.slice A1 n1 c1],.agg #[.bool g2,.slice A2 n2 c2]]) /\
   Ival w' (.agg #[.bool g1,.slice A1 n1 c1]) (withSign p (val xs)) n /\ Rval w' (.agg #[.bool g2,.slice A2 n2 c2]) (withSign p (val xs)) (2 * n) /\ Below w.heap.size w w':=by
 have hW:Below w.heap.size w (((w.alloc (.cells #[.bool p,.slice A n c] 24)).alloc (.cells #[.bool false,.slice none 0 0] 31)).alloc (.cells #[.bool false,.slice none 0 0] 34)):=(below_two w _ _).alloc (by simp;omega) _
 have hC0:=(Below.refl (w.heap.size + 1) (((w.alloc (.cells #[.bool p,.slice A n c] 24)).alloc (.cells #[.bool false,.slice none 0 0] 31)).alloc (.cells #[.bool false,.slice none 0 0] 34))).drew
 have hD0:=(Below.refl (w.heap.size + 3) (((w.alloc (.cells #[.bool p,.slice A n c] 24)).alloc (.cells #[.bool false,.slice none 0 0] 31)).alloc (.cells #[.bool false,.slice none 0 0] 34))).drew
 have HH:=Hd h
 have HD:=Hd hd
 clear h hd
 have h1:w.heap.size + 1 <= w.heap.size + 1:=Nat.le_refl _
 have h2:w.heap.size + 1 <= w.heap.size + 1 + 1:=Nat.le_succ _
 go_enter Tryz.func15,Tryz.ntmps15
 go_wp2_with fail
 go_region_held3 (fun w'=>w'.cell? ⟨w.heap.size,0,none⟩ = some (.bool p) /\ w'.cell? ⟨w.heap.size,1,none⟩ = some (.slice A n c) /\ Below (w.heap.size + 1) (((w.alloc (.cells #[.bool p,.slice A n c] 24)).alloc (.cells #[.bool false,.slice none 0 0] 31)).alloc (.cells #[.bool false,.slice none 0 0] 34)) w')
  (first | (with_reducible exact of_boxes hC2) | (with_reducible exact of_boxes (Below.setCell (Below.setCell hC2 h1 _) h1 _)) | (with_reducible exact of_boxes (Below.setCell (Below.setCell (Below.setCell (Below.setCell hC2 h1 _) h1 _) h2 _) h2 _)) | (with_reducible exact of_boxes hC1) | (with_reducible exact of_boxes hC0))
  (first
   | (go_at_call 75;have hK:=hC1;clear hK;refine (rmake_any p A n c xs _ (HH.out.below (hW.trans (hC1.mono (by omega)))) hn HD.out).mono ?_;rintro e w2 ⟨⟨ng2,A2,n2,c2,rfl,hr2⟩,hb2⟩;have hD2:=Below.trans hD1 (hb2.mono (by have:=hD1.size;simpa using this));have hC2:=hD2.mono (B':=w.heap.size + 1) (by omega);have HR2:=Hd hr2;clear hr2;obtain ⟨⟨e1,e2,f1,f2⟩,g1,g2,k1,k2⟩:=of_rooms hD2)
   | (go_at_call 74;refine (make_typed p A n c xs _ (HH.out.below (hW.trans (hC0.mono (by omega)))) (by omega) HD.out).mono ?_;rintro e w1 ⟨ng1,A1,n1,c1,rfl,hv1,_,hb1⟩;have hD1:=Below.trans hD0 (hb1.mono (by simp));have hC1:=hD1.mono (B':=w.heap.size + 1) (by omega);have HV1:=Hd hv1;clear hv1))
 go_wp2
 have hrt:w.heap.size + 1 ≠ w.heap.size + 1 + 1:=by omega
 refine bodyPost_ret (v:=.tuple #[.agg #[.bool ng1,.slice A1 n1 c1],.agg #[.bool ng2,.slice A2 n2 c2]]) (by simp [results,Tryz.results15,go_sem,e1,e2,g1,g2]) rfl ⟨_,_,_,_,_,_,_,_,rfl,?_,?_,?_⟩
 ·exact (HV1.out.below hb2).stored2 hrt e1 e2 g1 g2 _ _ _ _
 ·exact HR2.out.stored2 hrt e1 e2 g1 g2 _ _ _ _
 ·exact ((((hW.trans (hC2.mono (by omega))).setCell (by show _ <= _;simp) _).setCell (by show _ <= _;simp) _).setCell (by show _ <= _;simp;omega) _).setCell (by show _ <= _;simp;omega) _
def IsLen (z:Int) (k:Nat) : Prop:=(z = 0 /\ k = 0) \/ (1 <= k /\ (2:Int) ^ (k - 1) <= z /\ z < 2 ^ k)
theorem two_pos (n:Nat) : (0:Int) < 2 ^ n:=Int.pow_pos (by decide)
theorem two_mono {m n:Nat} (h:m <= n) : (2:Int) ^ m <= 2 ^ n:=by
 obtain ⟨k,rfl⟩:=Nat.exists_eq_add_of_le h
 rw [Int.pow_add]
 have h1:=two_pos k
 have:=Int.mul_le_mul_of_nonneg_left (show (1:Int) <= 2 ^ k by omega) (Int.le_of_lt (two_pos m))
 omega
theorem two_lt {m n:Nat} (h:(2:Int) ^ m < 2 ^ n) : m < n:=by
 rcases Nat.lt_or_ge m n with h' | h'
 ·exact h'
 ·have:=two_mono h';omega
theorem IsLen.det {z:Int} {k m:Nat} (h:IsLen z k) (g:IsLen z m) : k = m:=by
 rcases h with ⟨rfl,rfl⟩ | ⟨h1,h2,h3⟩ <;> rcases g with ⟨g0,rfl⟩ | ⟨g1,g2,g3⟩
 ·rfl
 ·have:=two_pos (m - 1);omega
 ·subst g0;have:=two_pos (k - 1);omega
 ·have a:=two_lt (show (2:Int) ^ (k - 1) < 2 ^ m by omega)
  have b:=two_lt (show (2:Int) ^ (m - 1) < 2 ^ k by omega)
  omega
theorem bitLen_is (x : Int) (h0 : 0 < x) (h1 : x < 4294967296) : IsLen x (Lib.bitLen x.toNat) ∧ Lib.bitLen x.toNat ≤ 32 := by
  obtain ⟨a, b, c⟩ := Lib.bitLenAux_bounds 64 x.toNat (by omega) (by omega)
  have e : Lib.bitLen x.toNat = Lib.bitLenAux 64 x.toNat := rfl
  rw [e]
  generalize Lib.bitLenAux 64 x.toNat = k at *
  have b' : (2 : Int) ^ (k - 1) ≤ x := by
    have : ((2 ^ (k - 1) : Nat) : Int) ≤ (x.toNat : Int) := by exact_mod_cast b
    rw [Int.natCast_pow] at this
    have e2 : (x.toNat : Int) = x := Int.toNat_of_nonneg (by omega)
    rw [e2] at this; exact this
  have c' : x < (2 : Int) ^ k := by
    have : (x.toNat : Int) < ((2 ^ k : Nat) : Int) := by exact_mod_cast c
    rw [Int.natCast_pow] at this
    have e2 : (x.toNat : Int) = x := Int.toNat_of_nonneg (by omega)
    rw [e2] at this; exact this
  refine ⟨.inr ⟨a, b', c'⟩, ?_⟩
  have h32 : x < (2 : Int) ^ 32 := by have : (2 : Int) ^ 32 = 4294967296 := by decide
                                      omega
  have := two_lt (show (2 : Int) ^ (k - 1) < 2 ^ 32 by omega)
  omega
theorem top_len {xs:List Int} {n:Nat} {t:Int} {b:Nat} (hd:Dig xs) (hl:xs.length = n) (hn:n ≠ 0) (ht:xs.getD (n - 1) 0 = t) (hb:IsLen t b) (ht0:t ≠ 0) : IsLen (val xs) (32 * (n - 1) + b):=by
 rcases hb with ⟨h,_⟩ | ⟨b1,b2,b3⟩
 ·exact absurd h ht0
 have e:=val_take_succ xs (n - 1)
 rw [show n - 1 + 1 = n from by omega,List.take_of_length_le (by omega),ht,BB_two] at e
 have h1:=val_bounds (hd.take (n - 1))
 rw [List.length_take,hl,Nat.min_eq_left (by omega),BB_two] at h1
 generalize val (xs.take (n - 1)) = r at *
 have hp:=two_pos (32 * (n - 1))
 refine .inr ⟨by omega,?_,?_⟩
 ·rw [show 32 * (n - 1) + b - 1 = 32 * (n - 1) + (b - 1) from by omega,Int.pow_add,e]
  have:=Int.mul_le_mul_of_nonneg_left b2 (Int.le_of_lt hp)
  omega
 ·rw [Int.pow_add,e]
  have:=Int.mul_le_mul_of_nonneg_left (show t + 1 <= 2 ^ b by omega) (Int.le_of_lt hp)
  rw [Int.mul_add,Int.mul_one] at this
  omega
def patOf (x:Int) : Int:=if x < 0 then -1 - x else x
end Go.Proofs.YtbajnceoolkckaaGreat
