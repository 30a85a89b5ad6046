/- A part of the law. -/
import Derived.Test.YtgfdijemhanfkaaGreatDoorP39
import Derived.Test.YtgfdijemhanfkaaGreatDoorPTk
set_option linter.unusedSimpArgs false
set_option linter.unusedVariables false
set_option maxRecDepth 100000
set_option maxHeartbeats 8000000
namespace Go.Proofs.YtgfdijemhanfkaaGreatDoor
open _root_.Go.Proofs.Tryz
open Value renaming int→bf,string→cu,tuple→ec,bool→ey
open IntKind renaming i64→ct
open Ending renaming returned→c8
open Nat renaming le_refl->af
open List renaming mem_cons_self->au,length_append->aq,length_singleton->gi,length_take->aJ,mem_singleton->bB,length_drop->aS,take_append_drop->b_
section
open Go.RowKit Lib
structure Kx (w:World) (c:Ch.C) (sb rb k:Nat) (sum:Int) (X:World):Prop where
 st:∃(n:Int) (rs:List Ch.Rc) (last B:Nat),KS w cX sb rb 200 [Ch.mine c n] rs last B (fun i=>i=sb) (fun _=>True) X/\Ch.Fit [Ch.mine c n] rs last/\n+Ch.tot (Ch.aZ rs) c.page=sum/\(Ch.aZ rs).length<=k/\last<=k/\B+60000*(Ch.aZ rs).length<=60000+120000*k
 lo:-(k:Int)<=sum
 hi:sum<=k
section
variable {w X X':World} {c:Ch.C} {sb rb k:Nat} {sum:Int}
theorem Kx.below (h:Kx w c sb rb k sum X):Below w.heap.size w X:=by obtain⟨⟨n,rs,last,B,H,d⟩,a,b⟩:=h;exact H.below
theorem yt {n:Int} {rs:List Ch.Rc} (h:rs.length<=60):kG [Ch.mine c n].length+kG rs.length+[Ch.mine c n].length+23<=200:=by have H:=AP h;have e:kG [Ch.mine c n].length=16:=rfl;have E:kG 60=134:=rfl;have a:[Ch.mine c n].length=1:=rfl;omega
theorem Ky (rs:List Ch.Rc) (last:Nat) (x:Nat×Int):(Ch.enter rs last x).2<=last+1:=by
 rcases Ch.oH rs with rfl|⟨A,r,rfl⟩;·exact af _
 ·by_cases h:r.en.length<18;·rw[Ch.oI last x h];exact Nat.le_succ _
  ·rw[Ch.oJ last x h];exact af _
theorem Kx.add (h:Kx w c sb rb k sum X) (m:k<60) (b:Int) (d:b=1\/b=-1):
  Calls prog 11 #[ptr sb,cu (bs c.id),bf ct b] X fun e X'=>e=c8 (bf ct 0)/\Kx w c sb rb (k+1) (sum+b) X':=by
 obtain⟨⟨n,rs,last,B,f,H,h3,h4,o,p⟩,g,i⟩:=h;have j:=Ch.vD H.lg;refine (S3 f H.one (Ch.qJ c n) b d H.lg κ κ (yt κ)).mono ?_;rintro e X' ⟨rfl,a⟩;have K:=Ch.y_ rs last (c.page,b);have l:=Ky rs last (c.page,b);refine⟨rfl,⟨n,_,_,_,a,H.enter κ (c:=Ch.mine c n) au d, ?_, ?_, ?_, ?_⟩,κ,κ⟩;·show n+Ch.tot (Ch.aZ (Ch.enter rs last (c.page,b)).1) c.page=_;rw[K,Ch.za,yq];omega
 ·show (Ch.aZ (Ch.enter rs last (c.page,b)).1).length<=_;rw[K,aq,gi];omega
 ·show (Ch.enter rs last (c.page,b)).2<=_;omega
 ·show _+60000*(Ch.aZ (Ch.enter rs last (c.page,b)).1).length<=_;rw[K,aq,gi];omega
theorem Kx.merge (h:Kx w c sb rb k sum X) (f:jC w) (s:k<60) (lim:Int) (hl:-128<=lim/\lim<=127):
  Calls prog 12 #[ptr sb,bf ct lim] X fun e X'=>∃N:Int,e=c8 (ec #[bf ct N,bf ct 0])/\Kx w c sb rb (k+1) sum X':=by
 obtain⟨⟨n,rs,last,B,g,H,h3,h4,t,u⟩,i,j⟩:=h;have l:=Ch.vD H.lg;have m:=Ch.ue rs lim.toNat;have v:=Ch.we (Ch.aZ rs) c.page (vC H.lg);have b:-4000000000000000000<=n/\n<=4000000000000000000:=κ
 have o:=Ch.we ((Ch.aZ rs).take lim.toNat) c.page fun x p=>vC H.lg x (List.mem_of_mem_take p);have q:((Ch.aZ rs).take lim.toNat).length<=(Ch.aZ rs).length:=by rw[aJ];exact Nat.min_le_right _ _
 refine (CV g f Ch.iq H.up H.nm H.one (fun d hd=>by rw[bB.1 hd];exact b) zbj H.lg H.inn lim κ κ κ κ κ (fun _=>yt κ) (yt κ)).mono ?_;rintro e X' ⟨rfl,a⟩;rw[Ch.o9] at a
 have hf:=H.merge lim.toNat (fun d hd=>by
  rw[bB.1 hd];show-4611686018427387904<=n+Ch.tot _ c.page/\n+Ch.tot _ c.page<=4611686018427387904;omega)
 rw[Ch.o9] at hf;have hd:((Ch.aZ rs).drop lim.toNat).length+((Ch.aZ rs).take lim.toNat).length=(Ch.aZ rs).length:=by rw[aS,aJ];omega
 have r:Ch.tot ((Ch.aZ rs).take lim.toNat) c.page+Ch.tot ((Ch.aZ rs).drop lim.toNat) c.page=Ch.tot (Ch.aZ rs) c.page:=by rw[<-Ch.za,b_]
 refine⟨_,rfl,⟨_,_,_,_,a,hf, ?_, ?_, ?_, ?_⟩,κ,κ⟩;·rw[Ch.lE];omega
 ·rw[Ch.lE];omega
 ·omega
 ·rw[Ch.lE];omega
theorem Kx.count (h:Kx w c sb rb k sum X) (l:k<=60):
  Calls prog 13 #[ptr sb,cu (bs c.id)] X fun e X'=>∃n p:Int,e=c8 (ec #[bf ct n,bf ct p,bf ct 0])/\wrap64 (n+p)=sum/\Kx w c sb rb k sum X':=by
 obtain⟨⟨n,rs,last,B,f,H,h3,h4,g,i⟩,a,b⟩:=h;have j:=Ch.vD H.lg;refine (Hq f H.one (Ch.qJ c n) H.lg κ κ).mono ?_;rintro e X' ⟨rfl,d⟩;refine⟨_,_,rfl, ?_,⟨n,rs,last,B,d,H,h3,h4,g,i⟩,a,b⟩;show wrap64 (n+Ch.tot (Ch.aZ rs) c.page)=sum;rw[h3];unfold wrap64;omega
theorem Kx.put (h:Kx w c sb rb k sum X) (d:jC w) (m:k<=60):
  Calls prog 10 #[ptr sb,cu (bs c.text)] X fun e X'=>e=c8 (ec #[cu (bs c.id),ey false,bf ct 0])/\Below w.heap.size w X':=by
 obtain⟨⟨n,rs,last,B,f,H,h3,h4,o,p⟩,g,i⟩:=h;have j:=Ch.vD H.lg;have b:=H.one (Ch.mine c n) au;refine (AZ f d Ch.iq H.up H.nm H.one (by show 1<=255;decide) b.low b.high κ (yt κ) ξ).mono ?_;rintro e X' (⟨c',y,_,rfl,l⟩|⟨a,_⟩);·obtain rfl:=bB.1 y;exact⟨rfl,l.below⟩
 ·exact absurd rfl (a _ au)
end
end
end Go.Proofs.YtgfdijemhanfkaaGreatDoor
