/- A part of the law. -/
import Derived.Test.YtgfdijemhanfkaaGreatDoorChSumsM
import Derived.Test.YtgfdijemhanfkaaGreatDoorPTk
set_option linter.unusedSimpArgs false
set_option linter.unusedVariables false
set_option maxRecDepth 100000
set_option maxHeartbeats 8000000
namespace Go.Proofs.YtgfdijemhanfkaaGreatDoor
open _root_.Go.Proofs.Tryz
open Value renaming slice→cx,int→bf,string→cu,bool→ey
open Option renaming none→aK,some→av
open IntKind renaming i64→ct
open Ending renaming returned→c8
open Or renaming inl→cS,inr→dc
open Nat renaming mul_one->eR,le_refl->af,zero_le->aA
open World renaming size_alloc->aY
open UInt8 renaming ofNat->az
set_option maxRecDepth 100000
open Go.RowKit Lib
def OL (w:World) (v:Value) (l:List Int):Prop:=
 ∃(a:Option Addr) (cap:Nat),v=cx a l.length cap/\l.length<=cap/\l.length<=9223372036854775807/\∀i (hi:i<l.length),(-128<=l[i]/\l[i]<=127)/\∃g o,a=av ⟨g,o,aK⟩/\g<w.heap.size/\
  ∀j (h:j<l.length) m,m<1->w.cell? ⟨g,o+(j*1+m),aK⟩=[Value.int .i8 l[j]][m]?
theorem OL.slice {w:World} {v:Value} {l:List Int} (h:OL w v l):∃a cap,v=cx a l.length cap:=by obtain⟨a,cap,rfl,_⟩:=h;exact⟨a,cap,rfl⟩
theorem OL.at {w w':World} {l:List Int} {a:Option Addr} {n cap:Nat} (h:OL w (cx a n cap) l) (b:Below w.heap.size w w') {k:Nat} (H:k<l.length):
  ∃g o,a=av ⟨g,o,aK⟩/\(-128<=l[k]/\l[k]<=127)/\w'.cell? ⟨g,o+k,aK⟩=av (bf .i8 l[k]):=by
 obtain⟨a',c,e,_,_,hi⟩:=h;injection e with e1 _ _;subst e1;obtain⟨d,g,o,rfl,f,h3⟩:=hi k H;refine⟨g,o,rfl,d, ?_⟩;have:=h3 k H 0 ξ;rw[eR,Nat.add_zero] at this;rw[b.cell (p:=⟨g,o+k,aK⟩) f];exact this
theorem A2 (w:World) (T:jC w) (s:ByteArray) (v:Value) (l:List Int) (U:OL w v l):
  Calls prog 3 #[cu s,v] w fun e w'=>e=c8 (ey true)/\Below w.heap.size w w':=by
 obtain⟨a,cap,rfl⟩:=U.slice;obtain⟨t,rfl⟩:∃t:Ch.Text,s=bs t:=⟨s.data.toList,rfl⟩;have HT:=aa T;have V:=aa U;have D:=aa (xK w T);clear T U;obtain⟨L,X⟩:=ξx l.length;rw[<-X] at V |-;have HL:=aa X;have Wg:(L:Int)<=9223372036854775807:=by obtain⟨_,_,_,_,h,_⟩:=V.o;omega
 clear X;obtain⟨S,hS⟩:=ξx (bs t);have P:=aa (show S.size=t.length by rw[hS,aG]);have HS:=aa hS;rw[<-hS];clear hS;go_enter func3,ntmps3;go_wp2_with fail;refine D.o.mono ?_;rintro e w1 ⟨rfl,aT⟩;have G:=aa aT;clear aT D;by_cases u:(S.size:Int)<1\/(128:Int)<S.size\/(60:Int)<L
 ·rcases u with u|u|u;·go_wp2;go_ret;exact⟨rfl,G.o⟩
  ·have h0:¬(S.size:Int)<1:=κ;go_wp2;go_ret;exact⟨rfl,G.o⟩
  ·by_cases h0:(S.size:Int)<1;·go_wp2;go_ret;exact⟨rfl,G.o⟩
   ·by_cases Q:(128:Int)<S.size;·go_wp2;go_ret;exact⟨rfl,G.o⟩
    ·go_wp2;go_ret;exact⟨rfl,G.o⟩
 have h0:¬(S.size:Int)<1:=κ
 have Q:¬(128:Int)<S.size:=κ
 have Y:¬(60:Int)<L:=κ
 have Z:=aa (HT.o.below G.o (af _));clear u HT;go_wp2_with fail;refine (z6 w1 200 ξ ξ).mono ?_;rintro e w2 ⟨g,b,rfl,E,aQ⟩;have R:=aa (And.intro E aQ);clear E aQ;go_wp2_with fail;refine (zR R.o.1).mono ?_;rintro e w3 ⟨xb,rfl,h3,b8⟩;have H3:=aa (And.intro h3 (R.o.2.trans (b8.mono R.o.2.size)));clear h3 b8;go_wp2_with fail;refine (DV w3 xb).mono ?_;rintro e F ⟨rfl,rC⟩;have I:F.heap.size=w3.heap.size+1:=by rw[rC];exact aY _ _
 have H:=aa (nX F w3.heap.size);unfold ptr at H;have HW:=aa (And.intro rC I);clear rC I;go_wp2_with fail;refine H.o.mono ?_;rintro e w5 ⟨rfl,xB⟩
 have H5:=aa (show KS w1 cX F.heap.size w3.heap.size 200 [] [] 0 0 (fun k=>k=F.heap.size) (fun _=>True) w5 by
  rw[xB,HW.o.2,HW.o.1];exact A1 H3.o.1 (fun k hk=>hk) H3.o.2 ξ ξ)
 clear xB R H3 H HW;generalize F.heap.size=sb at*;generalize w3.heap.size=rb at*;have i:=aa (AZ H5.o Z.o Ch.iq Ch.Fit.nil.up Ch.Fit.nil.nm Ch.Fit.nil.one ξ (t:=t) (by have:=P.o;omega) (by have:=P.o;omega) ξ ξ ξ);rw[<-HS.o] at i;unfold ptr at i;go_wp2_with fail;refine i.o.mono ?_;rintro e w6 (⟨c,hc,_⟩|⟨_,j,pg,rfl,_,G9,y,_,ha,h6⟩);·cases hc
 obtain rfl:j=0:=by
  rcases Nat.eq_zero_or_pos j with h|h;·exact h
  ·obtain⟨c,hc,_⟩:=G9 0 h;cases hc
 have Zb:=Ch.Fit.nil.ins (j:=0) (a:=pg) (t:=t) (by have:=P.o;omega) (by have:=P.o;omega) ha y;obtain⟨c,hc⟩:∃c:Ch.C,c=⟨Sha.print t++[az 0],pg,t,0⟩:=⟨_,rfl⟩;rw[show Ch.ins [] ⟨Sha.print t++[az 0],pg,t,0⟩=[Ch.mine c 0] by rw[hc];rfl] at h6 Zb;rw[show Sha.print t++[az 0]=c.id by rw[hc]];have J:c.text=t:=by rw[hc]
 have H6:=aa (show Kx w1 c sb rb 0 0 w6 from⟨⟨0,[],0,0+60000,h6,Zb,rfl,af _,af _,af _⟩,Int.le_refl _,Int.le_refl _⟩);have HCT:=aa J;clear hc J h6 Zb y G9 ha i H5;obtain⟨ID,Y_⟩:=ξx (bs c.id);rw[<-Y_];have W:=aa Y_;clear Y_;go_wp2_with fail
 go_loopw [11,60] (fun sv iv wr=>∃(k:Nat) (sum:Int),k<=L/\iv=bf ct k/\sv=bf ct sum/\Hid (Kx w1 c sb rb k sum wr)) (fun _ iv _=>L-(RowKit.intOf iv).toNat)
 case atStart=>exact⟨0,0,aA _,rfl,rfl,H6⟩
 case round=>
  clear H6;obtain⟨k,sum,hk,rfl,rfl,f⟩:=hrel;have m:=f.o.lo;have q:=f.o.hi;by_cases r:k<L
  ·have hI:(k:Int)<L:=κ;have eP:k<l.length:=(by rw[<-HL.o];exact r);obtain⟨ga,oa,rfl,O,hcell⟩:=V.o.at (G.o.trans (f.o.below.mono G.o.size)) eP;obtain⟨x,u⟩:=ξx (l[k]'eP);rw[<-u] at O hcell;have z:=aa (show k<60 by omega);clear eP u;by_cases Q:x=1
   ·subst Q;have H:=aa (f.o.add z.o 1 (cS rfl));rw[<-W.o] at H;unfold ptr at H;have hw:wrap64 (sum+1)=sum+1:=(by have:=z.o;unfold wrap64;omega);clear m q O;go_wp2_with fail;refine H.o.mono ?_;rintro e w7 ⟨rfl,A⟩;have d:=aa (A.count (by have:=z.o;omega));rw[<-W.o] at d;unfold ptr at d;clear A H f;go_wp2_with fail;refine d.o.mono ?_;rintro e w8 ⟨n,p,rfl,K,B⟩;have M:=aa B;clear B d;go_wp2;go_roundw
    case rel=>exact⟨k+1,_,r,ς,rfl,M⟩
    case measure=>simp[RowKit.intOf];omega
   by_cases Y:x=-1
   ·subst Y;have H:=aa (f.o.add z.o (-1) (dc rfl));rw[<-W.o] at H;unfold ptr at H;have hw:wrap64 (sum+-1)=sum+-1:=(by have:=z.o;unfold wrap64;omega);clear m q O;go_wp2_with fail;refine H.o.mono ?_;rintro e w7 ⟨rfl,A⟩;have d:=aa (A.count (by have:=z.o;omega));rw[<-W.o] at d;unfold ptr at d;clear A H f;go_wp2_with fail;refine d.o.mono ?_;rintro e w8 ⟨n,p,rfl,K,B⟩;have M:=aa B;clear B d;go_wp2;go_roundw
    case rel=>exact⟨k+1,_,r,ς,rfl,M⟩
    case measure=>simp[RowKit.intOf];omega
   have Zp:wrap64 x=x:=(by unfold wrap64;omega);have hq1:(x==1)=false:=beq_eq_false_iff_ne.2 Q;have Hv:(x==-1)=false:=beq_eq_false_iff_ne.2 Y;have H:=aa (f.o.merge Z.o z.o x O);unfold ptr at H;clear m q O;go_wp2_with fail;refine H.o.mono ?_;rintro e w7 ⟨N,rfl,A⟩;have d:=aa (A.count (by have:=z.o;omega));rw[<-W.o] at d;unfold ptr at d;clear A H f;go_wp2_with fail;refine d.o.mono ?_;rintro e w8 ⟨n,p,rfl,K,B⟩;have M:=aa B;clear B d;go_wp2;go_roundw
   case rel=>exact⟨k+1,_,r,ς,rfl,M⟩
   case measure=>simp[RowKit.intOf];omega
  ·obtain rfl:k=L:=by omega
   have hI:¬(k:Int)<k:=κ;have i:=aa (f.o.put Z.o κ);rw[<-W.o,HCT.o,<-HS.o] at i;unfold ptr at i;clear m q f;go_wp2_with fail;refine i.o.mono ?_;rintro e w7 ⟨rfl,jE⟩;have HB7:=aa (G.o.trans (jE.mono G.o.size));clear jE i;go_wp2;go_ret;exact⟨rfl,HB7.o⟩
end Go.Proofs.YtgfdijemhanfkaaGreatDoor
