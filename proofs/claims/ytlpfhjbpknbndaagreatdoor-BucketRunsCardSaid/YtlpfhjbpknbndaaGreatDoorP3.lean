/- Elder texts, cut down and merged (3). -/
import Derived.Test.YtlpfhjbpknbndaaGreatDoorP2
import Derived.Laws.BitsAllLaws
import Derived.Lib.Tables
import Derived.Lib.BitFns
import Derived.Test.YtlpfhjbpknbndaaGreatDoorPTk
set_option maxRecDepth 100000
set_option maxHeartbeats 8000000
namespace Go.Proofs.YtlpfhjbpknbndaaGreatDoor
open Value renaming int→bf,string→bR,bool→eX,slice→cx
open IntKind renaming i64→cu,u8→gx
open Ending renaming returned→eb
open Or renaming inl→dc,inr→dn
open Option renaming none→av,some→aD
open Int renaming tdiv_eq_ediv_of_nonneg->z8
open Nat renaming lt_of_le_of_lt->fP,zero_le->aB,le_refl->ah,mod_eq_of_lt->lH
open List renaming getD_eq_getElem?_getD->bZ,getElem?_eq_getElem->aK,length_set->bP
open _root_.Array renaming length_toList->bk
open UInt8 renaming ofNat->bz,toNat_ofNat'->eF
section
open Go.RowKit Lib
theorem sD (w:World) (n size:Nat) (hn:n<=4194304) (hs:1<=size) (k:size<=5000):
  Calls Tryz.prog 199 #[bf cu n,bf cu size] w fun e w'=>e=eb (bf cu ((n+size-1)/size:Nat))/\w'=w:=by
 obtain⟨q,h⟩:∃q,q=(n+size-1)/size:=⟨_,rfl⟩;have H:((n:Int)+size-1).tdiv size=(q:Int):=by rw[z8 (by omega),h,Int.natCast_ediv];congr 1;omega
 have G:(q:Int)<=4200000:=by have:=Nat.div_le_self (n+size-1) size;omega
 rw[<-h];clear h;have a:(1:Int)<=size:=by omega
 have b:(size:Int)<=5000:=by omega
 have h3:(n:Int)<=4194304:=by omega
 go_enter Tryz.func199,Tryz.ntmps199;go_wp2;go_ret;exact⟨rfl,rfl⟩
theorem Ih (w:World) (n:Int) (hr:-9223372036854775808<=n/\n<=9223372036854775807):
  Calls Tryz.prog 164 #[bf cu n] w fun e w'=>e=eb (bf cu (Rm.pages n:Nat))/\w'=w:=by
 obtain⟨P,H⟩:∃P,P=Rm.pages n:=⟨_,rfl⟩;rw[<-H];unfold Rm.pages at H;by_cases h:n<1;·rw[if_pos h] at H;subst H;go_enter Tryz.func164,Tryz.ntmps164;go_wp2;go_ret;exact⟨rfl,rfl⟩
 rw[if_neg h] at H;by_cases i:n<=1048576
 ·obtain⟨r,c⟩:∃r:Nat,n=(r:Int)+1:=⟨n.toNat-1,by omega⟩;rw[show (min n 1048576).toNat-1=r by omega] at H;simp only at H;have a:=aa H;have d:min ((r:Int)+1) 1048576=(r:Int)+1:=by omega
  clear H;subst c;go_enter Tryz.func164,Tryz.ntmps164;go_wp2_with fail;try rw[show (r:Int)+1-1=r by omega]
  refine (sD _ r 4097 (by omega) (by decide) (by decide)).mono ?_;rintro e w' ⟨rfl,rfl⟩;rw[show r+4097-1=r+4096 by omega];obtain⟨q,b⟩:∃q,q=(r+4096)/4097:=⟨_,rfl⟩;rw[<-b] at a |-;have X:(q:Int)<=r:=by omega
  have f:=aa X;clear b;go_wp2;go_ret;have hle:((r:Int)-q)=((r-q:Nat):Int):=by have:=f.o;omega
  exact⟨by rw[a.o,<-hle];first|rfl|(rw[c];rfl),rfl⟩
 ·obtain⟨r,c⟩:∃r:Nat,r=1048575:=⟨_,rfl⟩;rw[show (min n 1048576).toNat-1=r by omega] at H;simp only at H;have a:=aa H;have g:¬n<1048576:=by omega
  have d:min n 1048576=1048576:=by omega
  clear H;go_enter Tryz.func164,Tryz.ntmps164;go_wp2_with fail;rw[show (1048575:Int)=(r:Int) by omega];refine (sD _ r 4097 (by omega) (by decide) (by decide)).mono ?_;rintro e w' ⟨rfl,rfl⟩;rw[show r+4097-1=r+4096 by omega];obtain⟨q,b⟩:∃q,q=(r+4096)/4097:=⟨_,rfl⟩;rw[<-b] at a |-;have X:(q:Int)<=r:=by omega
  have f:=aa X;clear b;go_wp2;go_ret;have hle:((r:Int)-q)=((r-q:Nat):Int):=by have:=f.o;omega
  exact⟨by rw[a.o,<-hle];first|rfl|(rw[c];rfl),rfl⟩
theorem qS (w:World) (k:Nat) (h:k<=4194304):
  Calls Tryz.prog 212 #[bf cu k] w fun e w'=>e=eb (bf cu (1+k/4096:Nat))/\w'=w:=by
 have H:(k:Int).tdiv 4096=((k/4096:Nat):Int):=by rw[z8 (by omega)];omega
 have a:((k/4096:Nat):Int)<=4194304:=by omega
 generalize k/4096=q at*;go_enter Tryz.func212,Tryz.ntmps212;go_wp2;go_ret;exact⟨by congr 2,rfl⟩
theorem Oy (b:UInt8) (j:Nat):bits .and gx ((b.toNat:Int)/2^j) 1=((b.toNat.testBit j).toNat:Int):=by
 have h:(b.toNat:Int)/2^j=((b.toNat/2^j:Nat):Int):=by rw[Int.natCast_ediv,Int.natCast_pow];rfl
 have H:b.toNat/2^j<256:=fP (Nat.div_le_self _ _) b.toNat_lt;rw[h,show (1:Int)=((1:Nat):Int) from rfl,u8_and_nat _ 1 H (by decide),Nat.and_one_is_mod,Nat.toNat_testBit]
theorem z_ (s:ByteArray) (k:Nat) (h:k<s.size):s.data.toList.getD k 0=s[k]:=by rw[bZ,aK (by rw[bk];exact h),Option.getD_some];rfl
theorem Ii (w:World) (s:ByteArray) (k:Nat) (h:k/8<s.size) (hs:s.size<=512):
  Calls Tryz.prog 226 #[bR s,bf cu k] w fun e w'=>e=eb (eX (Rm.gD s.data.toList k))/\w'=w:=by
 have a:(k:Int).tdiv 8=((k/8:Nat):Int):=by rw[z8 (by omega)];omega
 have b:(k:Int).tmod 8=((k%8:Nat):Int):=by rw[Int.tmod_eq_emod_of_nonneg (by omega)];omega
 have c:((k/8:Nat):Int)<s.size:=by omega
 have h3:((k%8:Nat):Int)<=7:=by omega
 have h4:(0:Int)<=((k%8:Nat):Int):=by omega
 have H:=aa (show bits .and gx (((s[k/8]'h).toNat:Int)/2^(k%8)) 1=((Rm.gD s.data.toList k).toNat:Int) by rw[Oy];unfold Rm.gD;rw[z_ s _ h]);go_enter Tryz.func226,Tryz.ntmps226;go_wp2;go_ret;refine⟨?_,rfl⟩;simp only[H.o];cases Rm.gD s.data.toList k<;>rfl
theorem KP (b:UInt8):wrap64 (ntz8 b.toNat)=(Lib.trailingZeros8 b.toNat:Nat):=by rw[ntz8_eq ⟨b.toNat,b.toNat_lt⟩];have:=trailingZeros8_le8 ⟨b.toNat,b.toNat_lt⟩;unfold wrap64;simp only at this |-;omega
theorem Ij (w:World) (b:UInt8):
  Calls Tryz.prog 231 #[bf gx b.toNat] w fun e w'=>e=eb (bf cu (Lib.trailingZeros8 b.toNat:Nat))/\w'=w:=by
 have H:(b.toNat:Int)<=255:=by have:=b.toNat_lt;omega
 have h:=KP b;go_enter Tryz.func231,Tryz.ntmps231;go_wp2;go_ret;exact⟨by rw[<-h];rfl,rfl⟩
def KQ (b:Nat):Nat:=Lib.trailingZeros8 (255-b)
theorem Oz:∀n:Fin 256,n.val≠255->KQ n.val<=7/\n.val.testBit (KQ n.val)=false/\∀j:Fin 8,j.val<KQ n.val->n.val.testBit j.val=true:=by decide+kernel
theorem OA:∀n:Fin 256,255^^^n.val=255-n.val:=by decide+kernel
theorem KR:∀j:Fin 8,(255:Nat).testBit j.val=true:=by decide+kernel
theorem vC (w:World) (s:ByteArray) (hs:s.size<=512):
  Calls Tryz.prog 230 #[bR s] w fun e w'=>∃f:Nat,e=eb (bf cu f)/\Rm.Gl s.data.toList f/\w'=w:=by
 have y:(s.size:Int)<=512:=by omega
 go_enter Tryz.func230,Tryz.ntmps230;go_wp2
 go_loop [6] (fun i=>∃k:Nat,k<=s.size/\i=bf cu k/\Hid (∀j,j<8*k->Rm.gD s.data.toList j=true)) (fun i=>s.size-(RowKit.intOf i).toNat)
 case atStart=>exact⟨0,aB _,rfl,aa fun j q=>by omega⟩
 case round=>
  obtain⟨k,A,rfl,g⟩:=hrel;by_cases H:k<s.size
  ·have B:(k:Int)<s.size:=(by omega);have t:=aa (z_ s k H);have m:=aa H;obtain⟨b,a⟩:∃b,b=s[k]:=⟨_,rfl⟩;have Y:=aa (show s.data.toList.getD k 0=b by rw[a];exact t.o);have C:(b.toNat:Int)<=255:=(by have:=b.toNat_lt;omega);by_cases e:b.toNat=255
   ·have E:(s[k].toNat:Int)=255:=(by rw[<-a];omega);go_wp2
    go_round
    case rel=>
     refine⟨k+1,m.o,by go_num,aa fun j q=> ?_⟩;by_cases h:j<8*k;·exact g.o j h
     ·unfold Rm.gD;rw[show j/8=k by omega,Y.o,e];exact KR ⟨j%8,by omega⟩
    case measure=>have:=m.o;simp[RowKit.intOf];omega
   ·have E:¬(s[k].toNat:Int)=255:=(by rw[<-a];omega);obtain⟨c,hc⟩:∃c:UInt8,c.toNat=255-b.toNat:=⟨bz (255-b.toNat),by rw[eF];omega⟩
    have u:=aa (show bits .xor gx IntKind.u8.max s[k].toNat=(c.toNat:Int) by
     rw[<-a,show IntKind.u8.max=((255:Nat):Int) from rfl,u8_xor_nat 255 b.toNat (by decide) b.toNat_lt,hc,OA ⟨b.toNat,b.toNat_lt⟩])
    have n:=aa (show KQ b.toNat=Lib.trailingZeros8 c.toNat by unfold KQ;rw[hc]);obtain⟨p,l2,L⟩:=Oz ⟨b.toNat,b.toNat_lt⟩ e;simp only at p l2 L;rw[n.o] at p l2 L;have Q:=aa (And.intro l2 L);have l:(Lib.trailingZeros8 c.toNat:Int)<=7:=(by omega);have v:(k:Int)<=512:=(by omega);clear l2 L p a e hc;go_wp2_with fail
    erw[u.o]
    refine (Ij w c).mono ?_;rintro e w' ⟨rfl,rfl⟩;obtain⟨z,r⟩:∃z,z=Lib.trailingZeros8 c.toNat:=⟨_,rfl⟩;rw[<-r] at Q l |-;have d:=aa l;clear r;go_wp2;go_ret;refine⟨8*k+z,by congr 2,⟨fun j q=> ?_,by rw[bk];have:=d.o;have:=m.o;have hs:s.data.size=s.size:=rfl;omega,fun _=> ?_⟩,rfl⟩
    ·by_cases h:j<8*k;·exact g.o j h
     ·unfold Rm.gD;rw[show j/8=k by have:=d.o;omega,Y.o];exact Q.o.2 ⟨j%8,by omega⟩ (by show j%8<z;have:=d.o;omega)
    ·unfold Rm.gD;rw[show (8*k+z)/8=k by have:=d.o;omega,Y.o,show (8*k+z)%8=z by have:=d.o;omega];exact Q.o.1
  ·have x:k=s.size:=(by omega);subst x;go_wp2;go_ret;refine⟨8*s.size,by congr 2,⟨g.o,by rw[bk];exact ah _,fun h=> ?_⟩,rfl⟩;rw[bk] at h;exact absurd h (Nat.lt_irrefl _)
section
variable {z:Bool} {B:Nat} {w:World} {g n cap:Nat} {l:List UInt8}
theorem KJ.toZ {v:Value} (h:KJ B w v l):fk false B w v l:=by obtain⟨g,cap,cur,f,H,a,h3,h4,b,c,d,e⟩:=h;exact⟨g,cap,cur,f,H,a,h3,h4,b,c,d,e,fun h=>by cases h⟩
theorem fk.frozen (h:fk z B w (cx (aD ⟨g,0,av⟩) n cap) l) (j:Nat) (a:j<l.length):w.frozen? ⟨g,j,av⟩=false:=by
 obtain⟨G,c,cur,f,e,b,H,h3,h4,d,i,_⟩:=h;injection e with e1 e2 e3;injection e1 with e1;injection e1 with e1;subst e1;unfold World.frozen?;rw[H];simp only[Bool.and_eq_false_iff,decide_eq_false_iff_not];have:=h3 j (by omega);by_cases h:f.1<=j;·exact dn fun H=>this ⟨h,H⟩
 ·exact dc h
theorem fk.store (h:fk z B w (cx (aD ⟨g,0,av⟩) n cap) l) (j:Nat) (b:UInt8):fk z B (w.setCell ⟨g,j,av⟩ (bV b)) (cx (aD ⟨g,0,av⟩) n cap) (l.set j b):=by
 obtain⟨G,c,cur,f,e,a,H,h3,h4,d,k,m,o⟩:=h;injection e with e1 e2 e3;injection e1 with e1;injection e1 with e1;subst e1 e2 e3;refine⟨g,cap,cur.setIfInBounds j (bV b),f,by rw[bP],a, ?_,fun i hi=>h3 i (by simpa using hi),by rw[bP];exact h4,d,by simpa using k, ?_,o⟩;·rw[setCell_eq_setRow w g j cur _ f _ H];exact setRow_heap w g cur _ _ f H
 ·rw[bP,Array.toList_setIfInBounds,List.take_set,m,List.map_set]
end
theorem nY (w:World) (s:ByteArray) (k:Nat) (f:k/8<s.size) (hs:s.size<=512):
  Calls Tryz.prog 213 #[bR s,bf cu k] w fun e w'=>e=eb (bR (bs (Rm.flip s.data.toList k)))/\Below w.heap.size w w':=by
 have t:(k:Int).tdiv 8=((k/8:Nat):Int):=by rw[z8 (by omega)];omega
 have u:(k:Int).tmod 8=((k%8:Nat):Int):=by rw[Int.tmod_eq_emod_of_nonneg (by omega)];omega
 have x:=aa (z_ s (k/8) f);obtain⟨q,H⟩:∃q,q=k/8:=⟨_,rfl⟩;obtain⟨r,hr⟩:∃r,r=k%8:=⟨_,rfl⟩;have y:(q:Int)<s.size:=by omega
 have z:(s.size:Int)<=512:=by omega
 have A:(r:Int)<=7:=by omega
 have X:r<=7:=by omega
 have B:=aa (show Rm.flip s.data.toList k=s.data.toList.set q (s.data.toList.getD q 0^^^bz (2^r)) by unfold Rm.flip;rw[<-H,<-hr]);have a:=aa (show q<s.data.toList.length by rw[bk,H];exact f);rw[<-H] at t;rw[<-hr] at u;clear f H hr x;obtain⟨v,o,U,hown⟩:=pV w s (by omega);obtain⟨g,cap,rfl,i⟩:=hown.slice;have hl:s.data.toList.length=s.size:=bk;rw[hl] at U hown;have c:=aa hown.toZ;have n:=aa (show Below w.heap.size w (w.drew.alloc o) from (Below.refl _ w).drew.alloc (ah _) o);obtain⟨W,p⟩:∃W,W=w.drew.alloc o:=⟨_,rfl⟩;rw[<-p] at U c n;have c1:=c.o.cell q a.o;have f1:=c.o.frozen q a.o;obtain⟨b,j⟩:∃b,b=s.data.toList[q]'a.out:=⟨_,rfl⟩;have l:=aa (show s.data.toList.getD q 0=b by rw[bZ,aK a.o,j];rfl);rw[<-j] at c1;unfold bV at c1
 have C:=aa (show bits .xor gx (b.toNat:Int) ((2:Int)^r%256)=((b^^^bz (2^r)).toNat:Int) by
  have m:2^r<=2^7:=Nat.pow_le_pow_right (by decide) X;have e:(2:Int)^r%256=((2^r:Nat):Int):=by rw[show (2:Int)^r=((2^r:Nat):Int) by rw[Int.natCast_pow];rfl];generalize 2^r=P at*;omega
  rw[e];generalize 2^r=P at*;rw[u8_xor_nat _ _ b.toNat_lt (by omega),UInt8.toNat_xor,eF,lH (by omega)])
 clear hown hl p j;go_enter Tryz.func213,Tryz.ntmps213;go_wp2
 go_region
 rw[C.o];obtain⟨Y,d⟩:∃Y,Y=(W.setCell ⟨g,q,av⟩ (bf gx (b^^^bz (2^r)).toNat)).drew:=⟨_,rfl⟩;rw[<-d];have m:fk false w.heap.size Y (cx (aD ⟨g,0,av⟩) s.size cap) (Rm.flip s.data.toList k):=by rw[B.o,l.o,d];exact (c.o.store q (b^^^bz (2^r))).but ((aG.refl (fun _=>False) _).drew) (fun _ _ h=>h)
 have D:=m.back;have F:=aa (show Below w.heap.size w Y by rw[d];exact (n.o.setCell (by show w.heap.size<=g;exact i) _).drew);clear m d;go_wp2;go_ret;exact⟨rfl,F.o⟩
end
end Go.Proofs.YtlpfhjbpknbndaaGreatDoor
