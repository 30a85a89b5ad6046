/- Elder texts, cut down and merged (9). -/
import Derived.Test.YtgfdijemhanfkaaGreatDoorP4
import Derived.Test.YtgfdijemhanfkaaGreatDoorP6
import Derived.Test.YtgfdijemhanfkaaGreatDoorP2
import Derived.Laws.BitsAllLaws
import Derived.Lib.Tables
import Derived.Lib.BitFns
import Derived.Test.YtgfdijemhanfkaaGreatDoorPTk
set_option maxRecDepth 100000
set_option maxHeartbeats 8000000
namespace Go.Proofs.YtgfdijemhanfkaaGreatDoor
open _root_.Go.Proofs.Tryz
open Value renaming int→bf,string→cu,bool→ey,slice→cx,pointer→dr,agg→eU
open IntKind renaming i64→ct,u8→eD,u64→eZ
open Ending renaming returned→c8
open Or renaming inl→cS,inr→dc
open Option renaming none→aK,some→av
open Int renaming tdiv_eq_ediv_of_nonneg->mL,tmod_eq_emod_of_nonneg->wB
open List renaming getD_eq_getElem?_getD->bC,getElem?_eq_getElem->aI,length_set->bV,mem_cons->aM,cons_append->fQ,take_succ_eq_append_getElem->cz,mem_cons_self->au,mem_cons_of_mem->aH,length_cons->a_,length_take->aJ,getElem_mem->bp,take_of_length_le->bD
open _root_.Array renaming length_toList->aU
open Nat renaming zero_le->aA,le_refl->af,mod_eq_of_lt->gF
open UInt8 renaming ofNat->az,toNat_ofNat'->bR
open World renaming drew->bu,block_lt_of_cell?->bA,size_alloc->aY
section
open Go.RowKit Lib
theorem wy (w:World) (n size:Nat) (hn:n<=4194304) (hs:1<=size) (k:size<=5000):
  Calls prog 227 #[bf ct n,bf ct size] w fun e w'=>e=c8 (bf ct ((n+size-1)/size:Nat))/\w'=w:=by
 obtain⟨q,h⟩:=ξx ((n+size-1)/size);have H:((n:Int)+size-1).tdiv size=(q:Int):=by rw[mL κ,h,Int.natCast_ediv];congr 1;omega
 have a:(q:Int)<=4200000:=by have:=Nat.div_le_self (n+size-1) size;omega
 rw[<-h];clear h;have b:(1:Int)<=size:=κ
 have c:(size:Int)<=5000:=κ
 have h3:(n:Int)<=4194304:=κ
 go_enter func227,ntmps227;go_wp2;go_ret;exact⟨rfl,rfl⟩
theorem zak {G:Prop} (h:G:=by
 refine (wy _ r 4097 κ ξ ξ).mono ?_;rintro e w' ⟨rfl,rfl⟩;rw[show r+4097-1=r+4096 by omega];obtain⟨q,c⟩:=ξx ((r+4096)/4097);rw[<-c] at b |-;have a:(q:Int)<=r:=κ
 have g:=aa a;clear c;go_wp2;go_ret;have hle:((r:Int)-q)=((r-q:Nat):Int):=by have:=g.o;omega
 exact⟨by rw[b.o,<-hle];first|rfl|(rw[d];rfl),rfl⟩):G:=h
theorem MT (w:World) (n:Int) (hr:-9223372036854775808<=n/\n<=9223372036854775807):
  Calls prog 177 #[bf ct n] w fun e w'=>e=c8 (bf ct (Rm.pages n:Nat))/\w'=w:=by
 obtain⟨P,H⟩:=ξx (Rm.pages n);rw[<-H];unfold Rm.pages at H;by_cases h:n<1;·rw[if_pos h] at H;subst H;go_enter func177,ntmps177;go_wp2;go_ret;exact⟨rfl,rfl⟩
 rw[if_neg h] at H;by_cases j:n<=1048576
 ·obtain⟨r,d⟩:∃r:Nat,n=(r:Int)+1:=⟨n.toNat-1,κ⟩;rw[show (min n 1048576).toNat-1=r by omega] at H;simp only at H;have b:=aa H;have f:min ((r:Int)+1) 1048576=(r:Int)+1:=by omega
  clear H;subst d;go_enter func177,ntmps177;go_wp2_with fail;try rw[show (r:Int)+1-1=r by omega]
  exact zak
 ·obtain⟨r,d⟩:∃r:Nat,r=1048575:=⟨_,rfl⟩;rw[show (min n 1048576).toNat-1=r by omega] at H;simp only at H;have b:=aa H;have i:¬n<1048576:=by omega
  have f:min n 1048576=1048576:=κ
  clear H;go_enter func177,ntmps177;go_wp2_with fail;rw[show (1048575:Int)=(r:Int) by omega];exact zak
theorem uq (w:World) (k:Nat) (h:k<=4194304):
  Calls prog 225 #[bf ct k] w fun e w'=>e=c8 (bf ct (1+k/4096:Nat))/\w'=w:=by
 have H:(k:Int).tdiv 4096=((k/4096:Nat):Int):=by rw[mL κ];omega
 have a:((k/4096:Nat):Int)<=4194304:=κ
 generalize k/4096=q at*;go_enter func225,ntmps225;go_wp2;go_ret;exact⟨by congr 2,rfl⟩
theorem Ul (b:UInt8) (j:Nat):bits .and eD ((b.toNat:Int)/2^j) 1=((b.toNat.testBit j).toNat:Int):=by
 have h:(b.toNat:Int)/2^j=((b.toNat/2^j:Nat):Int):=by rw[Int.natCast_ediv,Int.natCast_pow];rfl
 have H:b.toNat/2^j<256:=Nat.lt_of_le_of_lt (Nat.div_le_self _ _) b.toNat_lt;rw[h,show (1:Int)=((1:Nat):Int) from rfl,u8_and_nat _ 1 H ξ,Nat.and_one_is_mod,Nat.toNat_testBit]
theorem wA (s:ByteArray) (k:Nat) (h:k<s.size):s.data.toList.getD k 0=s[k]:=by rw[bC,aI (by rw[aU];exact h),Option.getD_some];rfl
theorem MU (w:World) (s:ByteArray) (k:Nat) (h:k/8<s.size) (hs:s.size<=512):
  Calls prog 260 #[cu s,bf ct k] w fun e w'=>e=c8 (ey (Rm.gQ s.data.toList k))/\w'=w:=by
 have a:(k:Int).tdiv 8=((k/8:Nat):Int):=by rw[mL κ];omega
 have b:(k:Int).tmod 8=((k%8:Nat):Int):=by rw[wB κ];omega
 have c:((k/8:Nat):Int)<s.size:=κ
 have h3:((k%8:Nat):Int)<=7:=κ
 have h4:(0:Int)<=((k%8:Nat):Int):=κ
 have H:=aa (show bits .and eD (((s[k/8]'h).toNat:Int)/2^(k%8)) 1=((Rm.gQ s.data.toList k).toNat:Int) by rw[Ul];unfold Rm.gQ;rw[wA s _ h]);go_enter func260,ntmps260;go_wp2;go_ret;refine⟨?_,rfl⟩;simp only[H.o];cases Rm.gQ s.data.toList k<;>rfl
theorem Qt:∀n:Fin 256,pop8 (n.val:Int)=(Rm.rY n.val:Int):=zba
theorem zm (n:Nat):Rm.rY n<=8:=by
 unfold Rm.rY Rm.yM;have:=List.length_filter_le (fun i=>n.testBit i) (List.range 8)
 rwa [List.length_range] at this
theorem r9 (w:World) (b:UInt8):
  Calls prog 226 #[bf eD b.toNat] w fun e w'=>e=c8 (bf ct (Rm.rY b.toNat:Nat))/\w'=w:=by
 have H:(b.toNat:Int)<=255:=by have:=b.toNat_lt;omega
 have h:wrap64 (pop8 b.toNat)=(Rm.rY b.toNat:Nat):=by rw[Qt ⟨b.toNat,b.toNat_lt⟩];have:=zm b.toNat;unfold wrap64;simp only;omega
 go_enter func226,ntmps226;go_wp2;go_ret;exact⟨by rw[<-h];rfl,rfl⟩
theorem Qu (b:UInt8):wrap64 (ntz8 b.toNat)=(Lib.trailingZeros8 b.toNat:Nat):=by rw[ntz8_eq ⟨b.toNat,b.toNat_lt⟩];have:=trailingZeros8_le8 ⟨b.toNat,b.toNat_lt⟩;unfold wrap64;simp only at this |-;omega
theorem MV (w:World) (b:UInt8):
  Calls prog 258 #[bf eD b.toNat] w fun e w'=>e=c8 (bf ct (Lib.trailingZeros8 b.toNat:Nat))/\w'=w:=by
 have H:(b.toNat:Int)<=255:=by have:=b.toNat_lt;omega
 have h:=Qu b;go_enter func258,ntmps258;go_wp2;go_ret;exact⟨by rw[<-h];rfl,rfl⟩
def Qv (b:Nat):Nat:=Lib.trailingZeros8 (255-b)
theorem Um:∀n:Fin 256,n.val≠255->Qv n.val<=7/\n.val.testBit (Qv n.val)=false/\∀j:Fin 8,j.val<Qv n.val->n.val.testBit j.val=true:=zba
theorem Un:∀n:Fin 256,255^^^n.val=255-n.val:=zba
theorem Qw:∀j:Fin 8,(255:Nat).testBit j.val=true:=zba
theorem zn (w:World) (s:ByteArray) (hs:s.size<=512):
  Calls prog 228 #[cu s] w fun e w'=>∃f:Nat,e=c8 (bf ct f)/\Rm.KF s.data.toList f/\w'=w:=by
 have A:(s.size:Int)<=512:=κ
 go_enter func228,ntmps228;go_wp2
 go_loop [6] (fun i=>∃k:Nat,k<=s.size/\i=bf ct k/\Hid (∀j,j<8*k->Rm.gQ s.data.toList j=true)) (fun i=>s.size-(RowKit.intOf i).toNat)
 case atStart=>exact⟨0,aA _,rfl,aa fun j t=>κ⟩
 case round=>
  obtain⟨k,B,rfl,n⟩:=hrel;by_cases a:k<s.size
  ·have C:(k:Int)<s.size:=κ;have v:=aa (wA s k a);have p:=aa a;obtain⟨b,d⟩:=ξx (s[k]);have H:=aa (show s.data.toList.getD k 0=b by rw[d];exact v.o);have D:(b.toNat:Int)<=255:=(by have:=b.toNat_lt;omega);by_cases e:b.toNat=255
   ·have E:(s[k].toNat:Int)=255:=(by rw[<-d];omega);go_wp2
    go_round
    case rel=>
     refine⟨k+1,p.o,ς,aa fun j t=> ?_⟩;by_cases h:j<8*k;·exact n.o j h
     ·unfold Rm.gQ;rw[show j/8=k by omega,H.o,e];exact Qw ⟨j%8,κ⟩
    case measure=>have:=p.o;simp[RowKit.intOf];omega
   ·have E:¬(s[k].toNat:Int)=255:=(by rw[<-d];omega);obtain⟨c,hc⟩:∃c:UInt8,c.toNat=255-b.toNat:=⟨az (255-b.toNat),zbk⟩
    have x:=aa (show bits .xor eD IntKind.u8.max s[k].toNat=(c.toNat:Int) by
     rw[<-d,show IntKind.u8.max=((255:Nat):Int) from rfl,u8_xor_nat 255 b.toNat ξ b.toNat_lt,hc,Un ⟨b.toNat,b.toNat_lt⟩])
    have q:=aa (show Qv b.toNat=Lib.trailingZeros8 c.toNat by unfold Qv;rw[hc]);obtain⟨r,L,m⟩:=Um ⟨b.toNat,b.toNat_lt⟩ e;simp only at r L m;rw[q.o] at r L m;have Z:=aa (And.intro L m);have l:(Lib.trailingZeros8 c.toNat:Int)<=7:=κ;have y:(k:Int)<=512:=κ;clear L m r d e hc;go_wp2_with fail
    erw[x.o]
    refine (MV w c).mono ?_;rintro e w' ⟨rfl,rfl⟩;obtain⟨z,u⟩:=ξx (Lib.trailingZeros8 c.toNat);rw[<-u] at Z l |-;have g:=aa l;clear u;go_wp2;go_ret;refine⟨8*k+z,by congr 2,⟨fun j t=> ?_,by rw[aU];have:=g.o;have:=p.o;have hs:s.data.size=s.size:=rfl;omega,fun _=> ?_⟩,rfl⟩
    ·by_cases h:j<8*k;·exact n.o j h
     ·unfold Rm.gQ;rw[show j/8=k by have:=g.o;omega,H.o];exact Z.o.2 ⟨j%8,κ⟩ (by show j%8<z;have:=g.o;omega)
    ·unfold Rm.gQ;rw[show (8*k+z)/8=k by have:=g.o;omega,H.o,show (8*k+z)%8=z by have:=g.o;omega];exact Z.o.1
  ·have M:k=s.size:=κ;subst M;go_wp2;go_ret;refine⟨8*s.size,by congr 2,⟨n.o,zaQ,fun h=> ?_⟩,rfl⟩;rw[aU] at h;exact absurd h (Nat.lt_irrefl _)
theorem wrap_u8' (n:Int):IntKind.u8.wrap n=n%256:=by simp[IntKind.wrap,IntKind.bits,IntKind.signed]
theorem mask (b:UInt8) (r:Nat) (hr:r<=7):bits .and eD b.toNat ((2:Int)^r-1)=((b.toNat%2^r:Nat):Int):=by
 have H:2^r<=2^7:=Nat.pow_le_pow_right ξ hr;have h:1<=2^r:=Nat.one_le_two_pow;have h3:((2:Int)^r-1)=((2^r-1:Nat):Int):=by rw[Int.natCast_sub h,Int.natCast_pow];rfl
 rw[h3,u8_and_nat _ _ b.toNat_lt κ,Nat.and_two_pow_sub_one_eq_mod]
theorem Dy (w:World) (s:ByteArray) (n:Nat) (hs:s.size<=512) (hn:n<=8*s.size):
  Calls prog 176 #[cu s,bf ct n] w fun e w'=>e=c8 (bf ct (Rm.count s.data.toList n:Nat))/\Below w.heap.size w w':=by
 have y:(n:Int).tdiv 8=((n/8:Nat):Int):=by rw[mL κ];omega
 have p:(n:Int).tmod 8=((n%8:Nat):Int):=by rw[wB κ];omega
 obtain⟨q,t⟩:=ξx (n/8);obtain⟨r,hr⟩:=ξx (n%8);have I:(n:Int)<=4096:=κ
 have z:(q:Int)<=512:=κ
 have B:(r:Int)<=7:=κ
 have H:=aa (show n=8*q+r/\q<=s.size/\(0<r->q<s.size)/\r<=7 by omega);rw[<-t] at y;rw[<-hr] at p;clear t hr;go_enter func176,ntmps176;go_wp2
 go_loop [5,9] (fun c i=>∃k:Nat,k<=q/\i=bf ct k/\c=bf ct (Rm.count s.data.toList (8*k):Nat)) (fun _ i=>q-(RowKit.intOf i).toNat)
 case atStart=>exact⟨0,aA _,rfl,rfl⟩
 case round=>
  obtain⟨k,J,rfl,rfl⟩:=hrel;by_cases d:k<q
  ·have L:(k:Int)<q:=κ;have h:k<s.size:=(by have:=H.o.2.1;omega);have A:(k:Int)<s.size:=κ;have hc:=Rm.vO s.data.toList k 8 (af _);rw[wA s k h] at hc;have Q:=Rm.count_le s.data.toList (8*k);have f:=zm s[k].toNat;have u:=aa (show Rm.count s.data.toList (8*(k+1))=Rm.count s.data.toList (8*k)+Rm.rY s[k].toNat from hc);have v:=aa d;generalize Rm.count s.data.toList (8*k)=a at*;have C:(a:Int)<=4096:=(by have:=H.o.2.1;omega);clear hc Q;obtain⟨b,D⟩:=ξx (s[k]);go_wp2_with fail;rw[<-D] at f u |-;refine (r9 w b).mono ?_;rintro e w' ⟨rfl,rfl⟩;generalize Rm.rY b.toNat=o at*;have g:(o:Int)<=8:=κ;go_wp2
   go_round
   case rel=>exact⟨k+1,v.o,ς,by rw[u.o];go_num⟩
   case measure=>have:=v.o;simp[RowKit.intOf];omega
  ·obtain rfl:k=q:=by omega
   by_cases Z:r=0;·have j:¬(0:Int)<(r:Int):=κ;have E:(r:Int)=0:=κ;have l:=aa (show n=8*k by have:=H.o.1;omega);go_wp2;go_ret;exact⟨by rw[l.o];rfl,Below.refl _ _⟩
   ·have j:(0:Int)<(r:Int):=κ;have h:k<s.size:=H.o.2.2.1 κ;have A:(k:Int)<s.size:=κ;have hc:=Rm.vO s.data.toList k r (by have:=H.o.2.2.2;omega);rw[wA s k h] at hc;obtain⟨a,ha⟩:=ξx (Rm.count s.data.toList (8*k));have C:(a:Int)<=4096:=(by have:=Rm.count_le s.data.toList (8*k);have:=H.o.2.1;omega);rw[<-ha] at hc |-
    obtain⟨c,T⟩:∃c:UInt8,c.toNat=s[k].toNat%2^r:=⟨az (s[k].toNat%2^r),by
     rw[bR];have M:=s[k].toNat_lt;have:=Nat.mod_le s[k].toNat (2^r);exact gF κ⟩
    have f:=zm c.toNat
    have l:=aa (show Rm.count s.data.toList n=a+Rm.rY c.toNat by
     rw[H.o.1,hc,T];unfold Rm.rY;rw[Rm.Pv _ _ (by have:=H.o.2.2.2;omega)])
    have F:=mask s[k] r H.o.2.2.2;rw[<-T] at F;have m:=fun w'=>r9 w' c;generalize Rm.rY c.toNat=o at*;have g:(o:Int)<=8:=κ;have G:IntKind.i64.wrap (k:Int)=k:=IntWalk.i64_in _ κ;have hp:(2:Int)^r<=128/\1<=(2:Int)^r:=(by have e:(2:Int)^r=((2^r:Nat):Int):=(by rw[Int.natCast_pow];rfl);have N:2^r<=2^7:=Nat.pow_le_pow_right ξ H.o.2.2.2;have p:1<=2^r:=Nat.one_le_two_pow;rw[e];omega);have O:IntKind.u8.wrap ((2:Int)^r)=2^r:=(by rw[wrap_u8'];omega);have R:IntKind.u8.wrap ((2:Int)^r-1)=2^r-1:=(by rw[wrap_u8'];omega);clear hc ha T f hp;go_wp2;refine wp_region_any η ?_;try (change wpAny _ _ _ _ _ _ _ (bu _))
    refine tk 0 ?_;refine tk 1 ?_;refine tk 2 ?_;refine tk 3 ?_;refine tk 4 ?_;refine tk 5 ?_;refine tk 6 ?_;refine tk 7 ?_;refine tk 8 ?_;refine tk 9 ?_;refine rd [10] (rn fun K x=> ?_);go_simp;refine (m _).mono ?_;rintro e w' ⟨rfl,rfl⟩;refine x _ _ ?_;clear x K;refine tk 11 ?_;refine tk 12 ?_;refine wpAny_done η ?_ _;go_wp2;go_ret;exact⟨by rw[l.o];rfl,(Below.refl _ w).drew⟩
section
variable {z:Bool} {B:Nat} {w:World} {g n cap:Nat} {l:List UInt8}
theorem Pm.toZ {v:Value} (h:Pm B w v l):fW false B w v l:=by obtain⟨g,cap,cur,f,H,a,h3,h4,b,c,d,e⟩:=h;exact⟨g,cap,cur,f,H,a,h3,h4,b,c,d,e,fun h=>χ⟩
theorem fW.frozen (h:fW z B w (cx (av ⟨g,0,aK⟩) n cap) l) (j:Nat) (a:j<l.length):w.frozen? ⟨g,j,aK⟩=false:=by
 obtain⟨G,c,cur,f,e,b,H,h3,h4,d,i,_⟩:=h;injection e with e1 e2 e3;injection e1 with e1;injection e1 with e1;subst e1;unfold World.frozen?;rw[H];simp only[Bool.and_eq_false_iff,decide_eq_false_iff_not];have:=h3 j κ;by_cases h:f.1<=j;·exact dc fun H=>this ⟨h,H⟩
 ·exact cS h
theorem fW.store (h:fW z B w (cx (av ⟨g,0,aK⟩) n cap) l) (j:Nat) (b:UInt8):fW z B (w.setCell ⟨g,j,aK⟩ (bU b)) (cx (av ⟨g,0,aK⟩) n cap) (l.set j b):=by
 obtain⟨G,c,cur,f,e,a,H,h3,h4,d,k,m,o⟩:=h;injection e with e1 e2 e3;injection e1 with e1;injection e1 with e1;subst e1 e2 e3;refine⟨g,cap,cur.setIfInBounds j (bU b),f,by rw[bV],a, ?_,fun i hi=>h3 i (by simpa using hi),by rw[bV];exact h4,d,by simpa using k, ?_,o⟩;·rw[setCell_eq_setRow w g j cur _ f _ H];exact setRow_heap w g cur _ _ f H
 ·rw[bV,Array.toList_setIfInBounds,List.take_set,m,List.map_set]
end
theorem p9 (w:World) (s:ByteArray) (k:Nat) (f:k/8<s.size) (hs:s.size<=512):
  Calls prog 259 #[cu s,bf ct k] w fun e w'=>e=c8 (cu (bs (Rm.flip s.data.toList k)))/\Below w.heap.size w w':=by
 have t:(k:Int).tdiv 8=((k/8:Nat):Int):=by rw[mL κ];omega
 have u:(k:Int).tmod 8=((k%8:Nat):Int):=by rw[wB κ];omega
 have x:=aa (wA s (k/8) f);obtain⟨q,H⟩:=ξx (k/8);obtain⟨r,hr⟩:=ξx (k%8);have y:(q:Int)<s.size:=κ
 have z:(s.size:Int)<=512:=κ
 have A:(r:Int)<=7:=κ
 have Q:r<=7:=κ
 have B:=aa (show Rm.flip s.data.toList k=s.data.toList.set q (s.data.toList.getD q 0^^^az (2^r)) by unfold Rm.flip;rw[<-H,<-hr]);have a:=aa (show q<s.data.toList.length by rw[aU,H];exact f);rw[<-H] at t;rw[<-hr] at u;clear f H hr x;obtain⟨v,o,Z,hown⟩:=rX w s κ;obtain⟨g,cap,rfl,i⟩:=hown.slice;have hl:s.data.toList.length=s.size:=aU;rw[hl] at Z hown;have c:=aa hown.toZ;have n:=aa (show Below w.heap.size w (w.drew.alloc o) from (Below.refl _ w).drew.alloc (af _) o);obtain⟨W,p⟩:=ξx (w.drew.alloc o);rw[<-p] at Z c n;have c1:=c.o.cell q a.o;have f1:=c.o.frozen q a.o;obtain⟨b,j⟩:=ξx (s.data.toList[q]'a.out);have l:=aa (show s.data.toList.getD q 0=b by rw[bC,aI a.o,j];rfl);rw[<-j] at c1;unfold bU at c1
 have C:=aa (show bits .xor eD (b.toNat:Int) ((2:Int)^r%256)=((b^^^az (2^r)).toNat:Int) by
  have m:2^r<=2^7:=Nat.pow_le_pow_right ξ Q;have e:(2:Int)^r%256=((2^r:Nat):Int):=by rw[show (2:Int)^r=((2^r:Nat):Int) by rw[Int.natCast_pow];rfl];generalize 2^r=P at*;omega
  rw[e];generalize 2^r=P at*;rw[u8_xor_nat _ _ b.toNat_lt κ,UInt8.toNat_xor,bR,gF κ])
 clear hown hl p j;go_enter func259,ntmps259;go_wp2
 go_region
 rw[C.o];obtain⟨Y,d⟩:=ξx ((W.setCell ⟨g,q,aK⟩ (bf eD (b^^^az (2^r)).toNat)).drew);rw[<-d];have m:fW false w.heap.size Y (cx (av ⟨g,0,aK⟩) s.size cap) (Rm.flip s.data.toList k):=by rw[B.o,l.o,d];exact (c.o.store q (b^^^az (2^r))).but ((aE.refl (fun _=>False) _).drew) (fun _ _ h=>h)
 have D:=m.back;have E:=aa (show Below w.heap.size w Y by rw[d];exact (n.o.setCell (by show w.heap.size<=g;exact i) _).drew);clear m d;go_wp2;go_ret;exact⟨rfl,E.o⟩
structure It where
 key:List UInt8
 val:List UInt8
 node:Option Nat
 deriving DecidableEq
def pa (q:Option Nat):Option Addr:=q.map fun b=>⟨b,0,aK⟩
def aj:Elem It:=⟨fun i=>[cu (bs i.key),cu (bs i.val),dr (pa i.node)],3,ξ,fun _=>rfl,by
 intro a u hu
 simp only[aM,List.not_mem_nil,or_false] at hu
 rcases hu with rfl|rfl|rfl<;>rfl⟩
theorem zo:dx prog 166 175 aj.size:=dx.of (size:=3) (bytes:=40) (z:=.agg #[.string .empty,.string .empty,.pointer aK]) underlying166 η rfl ξ
theorem jg {α:Type} {K:Elem α} {E:TypeId} {B:Nat} {w:World} {g n cap:Nat} {l:List α} (h:Own K E B w (cx (av ⟨g,0,aK⟩) n cap) l):n=l.length/\n<=cap/\cap<=maxLen:=by
 rcases h.2 with⟨e,_⟩|⟨G,c,cur,e,_,_,H,a,_⟩;·cases e
 ·grind
structure NV where
 level:Nat
 its:List It
 rg:Nat
 ro:Nat
 cap:Nat
 page:Int
 lo:List UInt8
 hi:List UInt8
 was:Int
 at_:Int
 fresh:Bool
 own:Bool
def NV.cells (n:NV):List Value:=[bf ct n.level,cx (av ⟨n.rg,n.ro,aK⟩) n.its.length n.cap,bf ct n.page,cu (bs n.lo),cu (bs n.hi),bf ct n.was,bf ct n.at_,ey n.fresh]
def jY (i:It):Nat:=2+i.key.length+i.val.length
def cJ:List It->Nat
 |[]=>0
 |i::l=>jY i+cJ l
theorem xq:∀a b:List It,cJ (a++b)=cJ a+cJ b
 |[],b=>by simp[cJ]
 |i::a,b=>by simp only[fQ,cJ,xq a b];omega
structure NV.Small (n:NV):Prop where
 len:n.its.length<=400
 each:∀i∈n.its,i.key.length<=200/\i.val.length<=200
 cap:n.its.length<=n.cap/\n.cap<=maxLen
structure Nd (w:World) (p:Nat) (n:NV):Prop where
 blk:aW w p 170 n.cells
 row:bg aj w n.rg n.ro n.its
 small:n.Small
section
variable {w w':World} {p:Nat} {n:NV}
theorem Nd.below {B:Nat} (h:Nd w p n) (H:Below B w w') (hp:p<B) (hr:n.its≠[]->n.rg<B):Nd w' p n:=
 ⟨h.blk.below H hp,by
  by_cases e:n.its=[];·rw[e];intro j u hu;simp[Elem.cells] at hu
  ·exact h.row.below H (hr e),h.small⟩
theorem Nd.rlt (h:Nd w p n):n.its≠[]->n.rg<w.heap.size:=by
 intro e;cases hi:n.its with
 |nil=>exact absurd hi e
 |cons i l=>
  have:=h.row 0 (cu (bs i.key)) (by rw[hi];rfl);exact bA _ _ this
theorem Nd.still (h:Nd w p n) (H:Below w.heap.size w w'):Nd w' p n:=h.below H h.blk.lt h.rlt
theorem Nd.drew (h:Nd w p n):Nd w.drew p n:=⟨h.blk,h.row,h.small⟩
theorem bt {g o:Nat} {l:List It} (h:bg aj w g o l) (j:Nat) (H:j<l.length):
  w.cell? ⟨g,o+j*3,aK⟩=av (cu (bs l[j].key))/\w.cell? ⟨g,o+j*3+1,aK⟩=av (cu (bs l[j].val))/\w.cell? ⟨g,o+j*3+2,aK⟩=av (dr (pa l[j].node)):=
 ⟨h.at j 0 ξ H _ rfl,h.at j 1 ξ H _ rfl,h.at j 2 ξ H _ rfl⟩
theorem yc {g o:Nat} {l:List It} (h:bg aj w g o l) {j:Nat} (H:j<l.length):g<w.heap.size:=
 bA _ _ (bt h j H).1
theorem eX {g o:Nat} {l:List It} (h:bg aj w g o l) (a:Below w.heap.size w w'):bg aj w' g o l:=by intro j u hu;have H:=h j u hu;rw[<-H];exact a.cell (bA _ _ H)
theorem Nd.item (h:Nd w p n) (j:Nat) (H:j<n.its.length):
  w.cell? ⟨n.rg,n.ro+j*3,aK⟩=av (cu (bs n.its[j].key))/\w.cell? ⟨n.rg,n.ro+j*3+1,aK⟩=av (cu (bs n.its[j].val))/\w.cell? ⟨n.rg,n.ro+j*3+2,aK⟩=av (dr (pa n.its[j].node)):=by
 have a:=h.row.at j 0 ξ H _ rfl;have b:=h.row.at j 1 ξ H _ rfl;have c:=h.row.at j 2 ξ H _ rfl;exact⟨a,b,c⟩
end
theorem B6 (w:World) (i:It) (h:i.key.length<=1000000/\i.val.length<=1000000):
  Calls prog 237 #[eU #[cu (bs i.key),cu (bs i.val),dr (pa i.node)]] w fun e w'=>e=c8 (bf ct (jY i))/\Below w.heap.size w w':=by
 have H:(bs i.key).size=i.key.length:=aG _;have a:(bs i.val).size=i.val.length:=aG _;unfold jY;generalize bs i.key=k at*;generalize bs i.val=v at*;generalize pa i.node=q;go_enter func237,ntmps237;go_wp2;go_ret;refine⟨?_,(Below.refl _ w).alloc (af _) _⟩;go_num
theorem B7 (l:List It) (j:Nat) (h:j<l.length):cJ (l.take (j+1))=cJ (l.take j)+jY l[j]:=by rw[cz h,xq];rfl
theorem Dz:∀(l:List It),(∀i∈l,i.key.length<=200/\i.val.length<=200)->cJ l<=402*l.length
 |[],_=>aA _
 |i::l,h=>by
  have a:=h i au;have b:=Dz l fun x H=>h x (aH _ H);simp only[cJ,jY,a_];omega
theorem NV.Small.size {n:NV} (h:n.Small):cJ n.its<=160800:=by have H:=Dz n.its h.each;have:=h.len;omega
theorem NV.Small.part {n:NV} (h:n.Small) (j:Nat):cJ (n.its.take j)<=160800:=by
 have a:=Dz (n.its.take j) fun x H=>h.each x (List.mem_of_mem_take H);have:=h.len;have:(n.its.take j).length<=n.its.length:=zaE
 omega
section
variable {w w':World} {p:Nat} {n:NV}
theorem Nd.c0 (h:Nd w p n):w.cell? ⟨p,0,aK⟩=av (bf ct n.level):=h.blk.cell rfl
theorem Nd.c1 (h:Nd w p n):w.cell? ⟨p,1,aK⟩=av (cx (av ⟨n.rg,n.ro,aK⟩) n.its.length n.cap):=h.blk.cell rfl
theorem Nd.c2 (h:Nd w p n):w.cell? ⟨p,2,aK⟩=av (bf ct n.page):=h.blk.cell rfl
theorem Nd.c3 (h:Nd w p n):w.cell? ⟨p,3,aK⟩=av (cu (bs n.lo)):=h.blk.cell rfl
theorem Nd.c4 (h:Nd w p n):w.cell? ⟨p,4,aK⟩=av (cu (bs n.hi)):=h.blk.cell rfl
theorem Nd.c5 (h:Nd w p n):w.cell? ⟨p,5,aK⟩=av (bf ct n.was):=h.blk.cell rfl
theorem Nd.c6 (h:Nd w p n):w.cell? ⟨p,6,aK⟩=av (bf ct n.at_):=h.blk.cell rfl
theorem Nd.c7 (h:Nd w p n):w.cell? ⟨p,7,aK⟩=av (ey n.fresh):=h.blk.cell rfl
theorem iV (h:Nd w p n):Calls prog 188 #[ptr p] w fun e w'=>e=c8 (bf ct (cJ n.its))/\Below w.heap.size w w':=by
 have c1:=h.c1;have hl:=h.small.len;have J:(n.its.length:Int)<=400:=κ
 obtain⟨N,c⟩:=ξx (cJ n.its);rw[<-c];have t:=aa c;have d:=aa h;clear h c;obtain⟨L,f⟩:=ξx n.its.length;rw[<-f] at c1 hl J;have k:=aa f;clear f;generalize hg:n.rg=g at*;generalize l:n.ro=o at*;have m:=aa (And.intro hg l);clear hg l;go_enter func188,ntmps188;unfold ptr;go_wp2
 go_loopw [3,11] (fun sv i wr=>∃j:Nat,j<=L/\i=bf ct j/\∃s:Nat,sv=bf ct s/\s<=160800/\Hid (s=cJ (n.its.take j))/\Hid (Below w.heap.size w wr)) (fun _ i _=>L-(RowKit.intOf i).toNat)
 case atStart=>exact⟨0,aA _,rfl,0,rfl,aA _,aa rfl,aa (Below.refl _ _)⟩
 case round=>
  obtain⟨j,q,rfl,s,rfl,hs,hS,b⟩:=hrel;have y:(s:Int)<=160800:=κ
  by_cases H:j<L
  ·have u:(j:Int)<L:=κ;have a:j<n.its.length:=(by rw[<-k.o];exact H);have s1:=(d.o.still b.o).item j a;have r:=aa (show s+jY n.its[j]=cJ (n.its.take (j+1)) by rw[B7 _ _ a,hS.o]);have hle:=d.o.small.part (j+1);rw[<-r.o] at hle;have B:=d.o.small.each _ (bp a);have v:=aa (fun W=>B6 W n.its[j] ⟨κ,κ⟩);rw[m.o.1,m.o.2] at s1;generalize n.its[j]=it at*;obtain⟨s2,S,C⟩:=s1;have D:=aa H;clear H q a B;go_wp2_with fail;refine (v.o _).mono ?_;rintro e w1 ⟨rfl,A⟩;have O:=aa (((b.o.alloc b.o.size _)).trans (A.mono (by simp only[aY];have:=b.o.size;omega)));clear A;generalize jY it=z at*;have E:(s:Int)+z<=160800:=κ;go_wp2;go_roundw
   case rel=>exact⟨j+1,D.o,ς,s+z,ς,hle,r,O⟩
   case measure=>have:=D.o;simp[RowKit.intOf];omega
  ·have u:¬(j:Int)<L:=κ;have x:=aa (show s=N by rw[t.o,hS.o,bD (by rw[<-k.o];omega)]);clear H q;go_wp2;go_ret;exact⟨by rw[x.o];rfl,b.o⟩
end
theorem DA (w:World) (s:ByteArray) (k:Nat) (hs:s.size=512) (v:k<16):
  Calls prog 78 #[cu s,bf ct k] w fun e w'=>e=c8 (bf eZ (Rm.num s.data.toList k:Nat))/\w'=w:=by
 have x:(s.size:Int)=512:=κ
 have y:(k:Int)<=15:=κ
 have f:=aa hs;clear hs;go_enter func78,ntmps78;go_wp2
 go_loop [5,7] (fun n i=>∃j:Nat,j<=8/\i=bf ct j/\n=bf eZ (Rm.jX s.data.toList k j:Nat)) (fun _ i=>8-(RowKit.intOf i).toNat)
 case atStart=>exact⟨0,aA _,rfl,rfl⟩
 case round=>
  obtain⟨j,z,rfl,rfl⟩:=hrel;by_cases h:j<8
  ·have l:(j:Int)<8:=κ;have hd:Rm.jX s.data.toList k j<2^56:=(by have B:=Rm.EY s.data.toList k j;have h3:256^j<=256^7:=Nat.pow_le_pow_right ξ κ;have h4:(256:Nat)^7=2^56:=ξ;omega);have H:8*k+j<s.size:=(by rw[f.o];omega);obtain⟨q,b⟩:∃q:Nat,q=8*k+j:=⟨_,rfl⟩;have m:8*(k:Int)+j=(q:Int):=κ;have c:q<s.size:=(by rw[b];exact H);have A:(q:Int)<512:=(by have:=f.o;omega);have p:=s[q].toNat_lt
   have r:=aa (show Rm.jX s.data.toList k (j+1)=Rm.jX s.data.toList k j*256+s[q].toNat by
    show _*256+(s.data.toList.getD (8*k+j) 0).toNat=_;rw[<-b,wA s q c])
   have t:=aa (K7 _ _ hd p);generalize Rm.jX s.data.toList k j=a at*;have Q:(a:Int)<72057594037927936:=κ;have u:(0:Int)<=a:=κ;have g:=aa h;clear hd H b h;go_wp2
   go_round
   case rel=>exact⟨j+1,g.o,ς,by rw[r.o,t.o]⟩
   case measure=>have:=g.o;simp[RowKit.intOf];omega
  ·have d:=aa (show j=8 by omega);have l:¬(j:Int)<8:=κ;go_wp2;go_ret;refine⟨?_,rfl⟩;rw[d.o];rfl
theorem Qy (n k:Nat):(n:Int)/2^(8*(7-k))%256=((az (n/256^(7-k))).toNat:Int):=wo n (7-k)
theorem p_ (w:World) (s:ByteArray) (k n:Nat) (f:k<16) (hs:s.size=512) (hn:n<18446744073709551616):
  Calls prog 95 #[cu s,bf ct k,bf eZ n] w fun e w'=>e=c8 (cu (bs (Rm.put s.data.toList k n)))/\Below w.heap.size w w':=by
 have Y:(k:Int)<=15:=κ
 have M:(n:Int)<=18446744073709551615:=κ
 have z:(0:Int)<=n:=κ
 obtain⟨v,o,Z,hown⟩:=rX w s κ;obtain⟨g,cap,rfl,h⟩:=hown.slice;have hl:s.data.toList.length=512:=by rw[aU];exact hs
 rw[hl] at Z hown;have l:=aa hown.toZ;have m:=aa (show Below w.heap.size w (w.drew.alloc o) from (Below.refl _ w).drew.alloc (af _) o);obtain⟨W,p⟩:=ξx (w.drew.alloc o);rw[<-p] at Z l m;have A:=aa f;have B:=aa hl;have C:=aa h;clear hown hl p hs f h;go_enter func95,ntmps95;go_wp2
 go_loopw [11] (fun i wr=>∃j:Nat,j<=8/\i=bf ct j/\Hid (fW false w.heap.size wr (cx (av ⟨g,0,aK⟩) 512 cap) (Rm.rZ s.data.toList k n j))/\Hid (Below w.heap.size w wr)) (fun i _=>8-(RowKit.intOf i).toNat)
 case atStart=>exact⟨0,aA _,rfl,l,m⟩
 case round=>
  obtain⟨j,N,rfl,a,r⟩:=hrel;by_cases H:j<8
  ·have D:(j:Int)<8:=κ;obtain⟨q,u⟩:∃q:Nat,q=8*k+j:=⟨_,rfl⟩;have E:8*(k:Int)+j=(q:Int):=κ;have F:(q:Int)<512:=(by have:=A.o;omega);have Q:q<(Rm.rZ s.data.toList k n j).length:=(by rw[Rm.kK,B.o];omega);obtain⟨t,x⟩:∃t:Nat,t=8*(7-j):=⟨_,rfl⟩;have G:8*((7:Int)-j)=(t:Int):=κ;have I:(0:Int)<=t:=κ;have J:(t:Int)<=56:=κ;have c1:=a.o.cell q Q;have f1:=a.o.frozen q Q;have X:=aa (show (n:Int)/2^t%256=((az (n/256^(7-j))).toNat:Int) by rw[x];exact Qy n j)
   have K:=aa (show fW false w.heap.size (wr.setCell ⟨g,q,aK⟩ (bU (az (n/256^(7-j))))) (cx (av ⟨g,0,aK⟩) 512 cap) (Rm.rZ s.data.toList k n (j+1)) by
    show fW false w.heap.size _ _ ((Rm.rZ s.data.toList k n j).set (8*k+j) _);rw[<-u];exact a.o.store q _)
   unfold bU at c1;obtain⟨b,y⟩:=ξx ((Rm.rZ s.data.toList k n j)[q]);rw[<-y] at c1;have c:=aa (And.intro H r.o);clear u Q H y x;go_wp2;rw[X.o];refine⟨⟨j+1,c.o.1,ς,K,aa (c.o.2.setCell (by show w.heap.size<=g;exact C.o) _)⟩, ?_⟩;have:=c.o.1;simp[RowKit.intOf];omega
  ·have d:=aa (show j=8 by omega);have D:¬(j:Int)<8:=κ;have L:=a.o.back;go_wp2;go_ret;refine⟨?_,r.o⟩;rw[d.o];rfl
end
end Go.Proofs.YtgfdijemhanfkaaGreatDoor
