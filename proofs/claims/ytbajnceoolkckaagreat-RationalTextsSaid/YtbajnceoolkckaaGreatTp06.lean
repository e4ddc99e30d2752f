/- Of the proof of RationalTexts: Long2. -/
import Derived.Test.YtbajnceoolkckaaGreatTp05
open Go.Lib renaming hid → Hd
set_option maxRecDepth 100000
set_option maxHeartbeats 16000000
namespace Go.Proofs.YtbajnceoolkckaaGreat
open Go.RowKit LM
theorem takeAway_any (base g N i bb bo c cb n:Nat) (rs bs:List Int) (d:Int) (w:World) (ho:Own w base g N rs) (dr:Dig rs) (db:Dig bs) (hbl:bs.length = n) (hin:i + n + 1 <= N) (hN:N <= 1048579)
  (hbb:bb < w.heap.size) (hne:bb ≠ g) (hbc:∀ t,t < n -> w.cell? ⟨bb,bo + t,none⟩ = some (.int .u32 (bs.getD t 0))) (hd:0 <= d /\ d < BB) :
  Calls Tryz.prog 191 #[.slice (some ⟨g,i,none⟩) (n + 1) c,.slice (some ⟨bb,bo,none⟩) n cb,.int .u32 d] w fun e w'=>∃ br zs,e = .returned (.bool (br != 0)) /\ (0 <= br /\ br <= 1) /\ zs.length = n + 1 /\ Dig zs /\
   val zs = val (partOf rs i n) - d * val bs + BB ^ (n + 1) * br /\ Own w' base g N (rs.take i ++ (zs ++ rs.drop (i + n + 1))) /\ w.grownBy w' (some g):=by
 have HO:=Hd ho
 have HBC:=Hd hbc
 have HBL:=Hd hbl
 have HD:=Hd hd
 rw [BB_def] at hd
 obtain ⟨hd0,hd1⟩:=hd
 clear ho hbc hbl
 go_enter Tryz.func191,Tryz.ntmps191
 go_wp2_with fail
 go_loopw [7,8,14] (fun cv bv iv wr=>∃ (k:Nat) (cc br:Int),iv = .int .i64 k /\ cv = .int .u64 cc /\ bv = .int .u32 br /\ TakeRel w wr base g N i n rs bs d k cc br) (fun _ _ iv _=>n - (intOf iv).toNat)
 case atStart=>exact ⟨0,0,0,rfl,rfl,rfl,Nat.zero_le _,by decide,by decide,[],Win.start HO.out (by omega),Dig.nil,by simp [val]⟩
 case round=>
  obtain ⟨k,cc,br,rfl,rfl,rfl,hrel⟩:=hrel
  have HR:=Hd hrel
  obtain ⟨cx,fx,hg⟩:=hrel.cells hin
  obtain ⟨hk,hcc,hbr,-⟩:=hrel
  rw [BB_def] at hcc
  obtain ⟨hcc0,hcc1⟩:=hcc
  obtain ⟨hbr0,hbr1⟩:=hbr
  obtain ⟨x,ex⟩ : ∃ x,rs.getD (i + k) 0 = x:=⟨_,rfl⟩
  rw [ex] at cx
  have bx:=dr.getD (i + k)
  rw [ex] at bx
  have BX:=Hd bx
  rw [BB_def] at bx
  obtain ⟨bx0,bx1⟩:=bx
  have EX:=Hd ex
  clear ex
  by_cases hlt:k < n
  ·obtain ⟨y,ey⟩ : ∃ y,bs.getD k 0 = y:=⟨_,rfl⟩
   have cy:wr.cell? ⟨bb,bo + k,none⟩ = some (.int .u32 y):=by rw [grown_cell hg hbb hne,<- ey];exact HBC.out k hlt
   have by':=db.getD k
   rw [ey] at by'
   obtain ⟨s,hs⟩ : ∃ s,cc + y * d = s:=⟨_,rfl⟩
   obtain ⟨⟨p0,p1⟩,⟨s0,s1⟩,⟨l0,l1⟩,hst⟩:=HR.out.step hin hlt HD.out BX.out by' EX.out ey hs
   have HST:=Hd hst
   rw [BB_def] at by'
   obtain ⟨by0,by1⟩:=by'
   have q1:(k:Int) < ((n + 1:Nat) : Int):=by omega
   clear hst hg ey
   go_wp2_with fail
   refine (sub32_any x (s % 4294967296) br _ ⟨bx0,bx1⟩ ⟨l0,l1⟩ ⟨hbr0,hbr1⟩).mono ?_
   rintro e w' ⟨rfl,rfl⟩
   go_wp2_with fail
   exact ⟨⟨k + 1,_,_,by go_num,rfl,rfl,HST.out⟩,by simp [intOf];omega⟩
  ·obtain rfl:k = n:=by omega
   obtain ⟨⟨t0,t1⟩,zs,hzl,hzd,hzv,hzo,hzg⟩:=HR.out.last hin HBL.out BX.out EX.out
   have HF:=Hd (And.intro (And.intro t0 t1) (And.intro hzl (And.intro hzd (And.intro hzv (And.intro hzo hzg)))))
   have q1:(k:Int) < ((k + 1:Nat) : Int):=by omega
   clear hzl hzd hzv hzo hzg hg t0 t1
   go_wp2_with fail
   refine (sub32_any x cc br _ ⟨bx0,bx1⟩ ⟨hcc0,hcc1⟩ ⟨hbr0,hbr1⟩).mono ?_
   rintro e w' ⟨rfl,rfl⟩
   go_wp2_with fail
   go_ret
   obtain ⟨h1,h2,h3,h4,h5,h6⟩:=HF.out
   exact ⟨_,zs,rfl,h1,h2,h3,h4,h5,h6⟩
theorem add32_any (x y b:Int) (w:World) (hx:0 <= x /\ x < 4294967296) (hy:0 <= y /\ y < 4294967296) (hb:0 <= b /\ b <= 1) :
  Calls Tryz.prog 195 #[.int .u32 x,.int .u32 y,.int .u32 b] w fun e w'=>e = .returned (.tuple #[.int .u32 ((x + y + b) % 4294967296),.int .u32 ((x + y + b) / 4294967296)]) /\ w = w':=by
 have hs:¬ IntKind.u32.signed = true:=by decide
 obtain ⟨x0,x1⟩:=hx
 obtain ⟨y0,y1⟩:=hy
 obtain ⟨b0,b1⟩:=hb
 go_enter Tryz.func195,Tryz.ntmps195
 go_wp2
 go_ret2
 exact ⟨rfl,rfl⟩
theorem putBack_any (base g N i bb bo c cb n:Nat) (rs bs:List Int) (w:World) (ho:Own w base g N rs) (dr:Dig rs) (db:Dig bs) (hbl:bs.length = n) (hin:i + n + 1 <= N) (hN:N <= 1048579)
  (hbb:bb < w.heap.size) (hne:bb ≠ g) (hbc:∀ t,t < n -> w.cell? ⟨bb,bo + t,none⟩ = some (.int .u32 (bs.getD t 0))) :
  Calls Tryz.prog 192 #[.slice (some ⟨g,i,none⟩) (n + 1) c,.slice (some ⟨bb,bo,none⟩) n cb] w fun e w'=>e = .returned (.tuple #[]) /\ ∃ zs,zs.length = n + 1 /\ Dig zs /\
   val zs = (val (partOf rs i n) + val bs) % BB ^ (n + 1) /\ Own w' base g N (rs.take i ++ (zs ++ rs.drop (i + n + 1))) /\ w.grownBy w' (some g):=by
 have HO:=Hd ho
 have HBC:=Hd hbc
 have HBL:=Hd hbl
 clear ho hbc hbl
 go_enter Tryz.func192,Tryz.ntmps192
 go_wp2_with fail
 go_loopw [4,9] (fun cv iv wr=>∃ (k:Nat) (cc:Int),iv = .int .i64 k /\ cv = .int .u32 cc /\ PutRel w wr base g N i n rs bs k cc) (fun _ iv _=>n - (intOf iv).toNat)
 case atStart=>exact ⟨0,0,rfl,rfl,Nat.zero_le _,by decide,[],Win.start HO.out (by omega),Dig.nil,by simp [val]⟩
 case round=>
  obtain ⟨k,cc,rfl,rfl,hrel⟩:=hrel
  have HR:=Hd hrel
  obtain ⟨cx,fx,hg⟩:=hrel.cells hin
  obtain ⟨hk,hcc,-⟩:=hrel
  obtain ⟨hcc0,hcc1⟩:=hcc
  obtain ⟨x,ex⟩ : ∃ x,rs.getD (i + k) 0 = x:=⟨_,rfl⟩
  rw [ex] at cx
  have bx:=dr.getD (i + k)
  rw [ex] at bx
  have BX:=Hd bx
  rw [BB_def] at bx
  obtain ⟨bx0,bx1⟩:=bx
  have EX:=Hd ex
  clear ex
  by_cases hlt:k < n
  ·obtain ⟨y,ey⟩ : ∃ y,bs.getD k 0 = y:=⟨_,rfl⟩
   have cy:wr.cell? ⟨bb,bo + k,none⟩ = some (.int .u32 y):=by rw [grown_cell hg hbb hne,<- ey];exact HBC.out k hlt
   have by':=db.getD k
   rw [ey] at by'
   have HST:=Hd (HR.out.step hin hlt BX.out by' EX.out ey)
   rw [BB_def] at by'
   obtain ⟨by0,by1⟩:=by'
   have q1:(k:Int) < ((n + 1:Nat) : Int):=by omega
   clear hg ey
   go_wp2_with fail
   refine (add32_any x y cc _ ⟨bx0,bx1⟩ ⟨by0,by1⟩ ⟨hcc0,hcc1⟩).mono ?_
   rintro e w' ⟨rfl,rfl⟩
   go_wp2_with fail
   exact ⟨⟨k + 1,_,by go_num,rfl,HST.out⟩,by simp [intOf];omega⟩
  ·obtain rfl:k = n:=by omega
   obtain ⟨zs,hzl,hzd,hzv,hzo,hzg⟩:=HR.out.last hin HBL.out EX.out
   have HF:=Hd (And.intro hzl (And.intro hzd (And.intro hzv (And.intro hzo hzg))))
   have q1:(k:Int) < ((k + 1:Nat) : Int):=by omega
   have hs:¬ IntKind.u32.signed = true:=by decide
   clear hzl hzd hzv hzo hzg hg
   go_wp2_with fail
   go_end0
   exact ⟨rfl,zs,HF.out⟩
end Go.Proofs.YtbajnceoolkckaaGreat
