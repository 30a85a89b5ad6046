/- Elder texts, cut down and merged (3). -/
import Derived.Test.YtebbahjombdalaaGreatDoorP2
import Derived.Laws.BitsAllLaws
import Derived.Lib.Tables
import Derived.Lib.BitFns
import Derived.Test.YtebbahjombdalaaGreatDoorPTk
set_option maxRecDepth 100000
set_option maxHeartbeats 8000000
namespace Go.Proofs.YtebbahjombdalaaGreatDoor
open Int renaming tdiv_eq_ediv_of_nonneg→yH
open List renaming getD_eq_getElem?_getD→bT,getElem?_eq_getElem→aJ,length_set→bP
open _root_.Array renaming length_toList→aZ
open Nat renaming zero_le→aC,le_refl→af,mod_eq_of_lt→kC
open UInt8 renaming ofNat→aY,toNat_ofNat'→dY
section
open Go.RowKit Lib
theorem q_ (w:World) (n size:Nat) (hn:n≤4194304) (hs:1≤size) (kN:size≤5000):
  Calls Tryz.prog 199 #[.int .i64 n,.int .i64 size] w fun e w'=>e=.returned (.int .i64 ((n+size-1)/size:Nat))∧w'=w:=by
 obtain⟨q,hq⟩:∃q,q=(n+size-1)/size:=⟨_,rfl⟩
 have h0:((n:Int)+size-1).tdiv size=(q:Int):=by
  rw[yH (by omega),hq,Int.natCast_ediv];congr 1;omega
 have Jc:(q:Int)≤4200000:=by have:=Nat.div_le_self (n+size-1) size;omega
 rw[←hq]
 clear hq
 have h1:(1:Int)≤size:=by omega
 have h2:(size:Int)≤5000:=by omega
 have h3:(n:Int)≤4194304:=by omega
 go_enter Tryz.func199,Tryz.ntmps199
 go_wp2
 go_ret
 exact⟨rfl,rfl⟩
theorem FN (w:World) (n:Int) (hr:-9223372036854775808≤n∧n≤9223372036854775807):
  Calls Tryz.prog 164 #[.int .i64 n] w fun e w'=>e=.returned (.int .i64 (Rm.pages n:Nat))∧w'=w:=by
 obtain⟨P,hP⟩:∃P,P=Rm.pages n:=⟨_,rfl⟩
 rw[←hP]
 unfold Rm.pages at hP
 by_cases h:n<1
 ·rw[if_pos h] at hP
  subst hP
  go_enter Tryz.func164,Tryz.ntmps164
  go_wp2
  go_ret
  exact⟨rfl,rfl⟩
 rw[if_neg h] at hP
 by_cases hb:n≤1048576
 ·obtain⟨r,hm⟩:∃r:Nat,n=(r:Int)+1:=⟨n.toNat-1,by omega⟩
  rw[show (min n 1048576).toNat-1=r by omega] at hP
  simp only at hP
  have HP:=aa hP
  have hmn:min ((r:Int)+1) 1048576=(r:Int)+1:=by omega
  clear hP
  subst hm
  go_enter Tryz.func164,Tryz.ntmps164
  go_wp2_with fail
  try rw[show (r:Int)+1-1=r by omega]
  refine (q_ _ r 4097 (by omega) (by decide) (by decide)).mono ?_
  rintro e w' ⟨rfl,rfl⟩
  rw[show r+4097-1=r+4096 by omega]
  obtain⟨q,hq⟩:∃q,q=(r+4096)/4097:=⟨_,rfl⟩
  rw[←hq] at HP ⊢
  have Ve:(q:Int)≤r:=by omega
  have HQ:=aa Ve
  clear hq
  go_wp2
  go_ret
  have hle:((r:Int)-q)=((r-q:Nat):Int):=by have:=HQ.o;omega
  exact⟨by rw[HP.o,←hle];first|rfl|(rw[hm];rfl),rfl⟩
 ·obtain⟨r,hm⟩:∃r:Nat,r=1048575:=⟨_,rfl⟩
  rw[show (min n 1048576).toNat-1=r by omega] at hP
  simp only at hP
  have HP:=aa hP
  have hb':¬n<1048576:=by omega
  have hmn:min n 1048576=1048576:=by omega
  clear hP
  go_enter Tryz.func164,Tryz.ntmps164
  go_wp2_with fail
  rw[show (1048575:Int)=(r:Int) by omega]
  refine (q_ _ r 4097 (by omega) (by decide) (by decide)).mono ?_
  rintro e w' ⟨rfl,rfl⟩
  rw[show r+4097-1=r+4096 by omega]
  obtain⟨q,hq⟩:∃q,q=(r+4096)/4097:=⟨_,rfl⟩
  rw[←hq] at HP ⊢
  have Ve:(q:Int)≤r:=by omega
  have HQ:=aa Ve
  clear hq
  go_wp2
  go_ret
  have hle:((r:Int)-q)=((r-q:Nat):Int):=by have:=HQ.o;omega
  exact⟨by rw[HP.o,←hle];first|rfl|(rw[hm];rfl),rfl⟩
theorem pW (w:World) (k:Nat) (hk:k≤4194304):
  Calls Tryz.prog 212 #[.int .i64 k] w fun e w'=>e=.returned (.int .i64 (1+k/4096:Nat))∧w'=w:=by
 have h0:(k:Int).tdiv 4096=((k/4096:Nat):Int):=by rw[yH (by omega)];omega
 have h1:((k/4096:Nat):Int)≤4194304:=by omega
 generalize k/4096=q at*
 go_enter Tryz.func212,Tryz.ntmps212
 go_wp2
 go_ret
 exact⟨by congr 2,rfl⟩
theorem Mr (b:UInt8) (j:Nat):bits .and .u8 ((b.toNat:Int)/2^j) 1=((b.toNat.testBit j).toNat:Int):=by
 have h1:(b.toNat:Int)/2^j=((b.toNat/2^j:Nat):Int):=by rw[Int.natCast_ediv,Int.natCast_pow];rfl
 have h2:b.toNat/2^j<256:=Nat.lt_of_le_of_lt (Nat.div_le_self _ _) b.toNat_lt
 rw[h1,show (1:Int)=((1:Nat):Int) from rfl,u8_and_nat _ 1 h2 (by decide),Nat.and_one_is_mod,Nat.toNat_testBit]
theorem yI (s:ByteArray) (k:Nat) (hk:k<s.size):s.data.toList.getD k 0=s[k]:=by
 rw[bT,aJ (by rw[aZ];exact hk),Option.getD_some]
 rfl
theorem FO (w:World) (s:ByteArray) (k:Nat) (hk:k/8<s.size) (hs:s.size≤512):
  Calls Tryz.prog 226 #[.string s,.int .i64 k] w fun e w'=>e=.returned (.bool (Rm.fX s.data.toList k))∧w'=w:=by
 have h0:(k:Int).tdiv 8=((k/8:Nat):Int):=by rw[yH (by omega)];omega
 have h1:(k:Int).tmod 8=((k%8:Nat):Int):=by rw[Int.tmod_eq_emod_of_nonneg (by omega)];omega
 have h2:((k/8:Nat):Int)<s.size:=by omega
 have h3:((k%8:Nat):Int)≤7:=by omega
 have h4:(0:Int)≤((k%8:Nat):Int):=by omega
 have HA:=aa (show bits .and .u8 (((s[k/8]'hk).toNat:Int)/2^(k%8)) 1=((Rm.fX s.data.toList k).toNat:Int) by rw[Mr];unfold Rm.fX;rw[yI s _ hk])
 go_enter Tryz.func226,Tryz.ntmps226
 go_wp2
 go_ret
 refine⟨?_,rfl⟩
 simp only[HA.o]
 cases Rm.fX s.data.toList k<;>rfl
theorem Jd (b:UInt8):wrap64 (ntz8 b.toNat)=(Lib.trailingZeros8 b.toNat:Nat):=by
 rw[ntz8_eq ⟨b.toNat,b.toNat_lt⟩]
 have:=trailingZeros8_le8 ⟨b.toNat,b.toNat_lt⟩
 unfold wrap64;simp only at this ⊢;omega
theorem FP (w:World) (b:UInt8):
  Calls Tryz.prog 231 #[.int .u8 b.toNat] w fun e w'=>e=.returned (.int .i64 (Lib.trailingZeros8 b.toNat:Nat))∧w'=w:=by
 have hb:(b.toNat:Int)≤255:=by have:=b.toNat_lt;omega
 have hw:=Jd b
 go_enter Tryz.func231,Tryz.ntmps231
 go_wp2
 go_ret
 exact⟨by rw[←hw];rfl,rfl⟩
def Je (b:Nat):Nat:=Lib.trailingZeros8 (255-b)
theorem Mt:∀n:Fin 256,n.val≠255→Je n.val≤7∧n.val.testBit (Je n.val)=false∧∀j:Fin 8,j.val<Je n.val→n.val.testBit j.val=true:=by decide+kernel
theorem Mu:∀n:Fin 256,255^^^n.val=255-n.val:=by decide+kernel
theorem Jf:∀j:Fin 8,(255:Nat).testBit j.val=true:=by decide+kernel
theorem ue (w:World) (s:ByteArray) (hs:s.size≤512):
  Calls Tryz.prog 230 #[.string s] w fun e w'=>∃f:Nat,e=.returned (.int .i64 f)∧Rm.Ez s.data.toList f∧w'=w:=by
 have xk:(s.size:Int)≤512:=by omega
 go_enter Tryz.func230,Tryz.ntmps230
 go_wp2
 go_loop [6] (fun i=>∃k:Nat,k≤s.size∧i=.int .i64 k∧Hid (∀j,j<8*k→Rm.fX s.data.toList j=true)) (fun i=>s.size-(RowKit.intOf i).toNat)
 case atStart=>exact⟨0,aC _,rfl,aa fun j hj=>by omega⟩
 case round=>
  obtain⟨k,hk,rfl,hB⟩:=hrel
  by_cases hlt:k<s.size
  ·have hI:(k:Int)<s.size:=by omega
   have HG:=aa (yI s k hlt)
   have HL:=aa hlt
   obtain⟨b,hb⟩:∃b,b=s[k]:=⟨_,rfl⟩
   have Wq:=aa (show s.data.toList.getD k 0=b by rw[hb];exact HG.o)
   have bF:(b.toNat:Int)≤255:=by have:=b.toNat_lt;omega
   by_cases e:b.toNat=255
   ·have eI:(s[k].toNat:Int)=255:=by rw[←hb];omega
    go_wp2
    go_round
    case rel=>
     refine⟨k+1,HL.o,by go_num,aa fun j hj=> ?_⟩
     by_cases h:j<8*k
     ·exact hB.o j h
     ·unfold Rm.fX
      rw[show j/8=k by omega,Wq.o,e]
      exact Jf ⟨j%8,by omega⟩
    case measure=>have:=HL.o;simp[RowKit.intOf];omega
   ·have eI:¬(s[k].toNat:Int)=255:=by rw[←hb];omega
    obtain⟨c,hc⟩:∃c:UInt8,c.toNat=255-b.toNat:=⟨aY (255-b.toNat),by rw[dY];omega⟩
    have HX:=aa (show bits .xor .u8 IntKind.u8.max s[k].toNat=(c.toNat:Int) by
     rw[←hb,show IntKind.u8.max=((255:Nat):Int) from rfl,u8_xor_nat 255 b.toNat (by decide) b.toNat_lt,hc,Mu ⟨b.toNat,b.toNat_lt⟩])
    have HLo:=aa (show Je b.toNat=Lib.trailingZeros8 c.toNat by unfold Je;rw[hc])
    obtain⟨l1,l2,l3⟩:=Mt ⟨b.toNat,b.toNat_lt⟩ e
    simp only at l1 l2 l3
    rw[HLo.o] at l1 l2 l3
    have OA:=aa (And.intro l2 l3)
    have Zr:(Lib.trailingZeros8 c.toNat:Int)≤7:=by omega
    have hk8:(k:Int)≤512:=by omega
    clear l2 l3 l1 hb e hc
    go_wp2_with fail
    erw[HX.o]
    refine (FP w c).mono ?_
    rintro e w' ⟨rfl,rfl⟩
    obtain⟨z,hz⟩:∃z,z=Lib.trailingZeros8 c.toNat:=⟨_,rfl⟩
    rw[←hz] at OA Zr ⊢
    have HZ:=aa Zr
    clear hz
    go_wp2
    go_ret
    refine⟨8*k+z,by congr 2,⟨fun j hj=> ?_,by rw[aZ];have:=HZ.o;have:=HL.o;have hs:s.data.size=s.size:=rfl;omega,fun _=> ?_⟩,rfl⟩
    ·by_cases h:j<8*k
     ·exact hB.o j h
     ·unfold Rm.fX
      rw[show j/8=k by have:=HZ.o;omega,Wq.o]
      exact OA.o.2 ⟨j%8,by omega⟩ (by show j%8<z;have:=HZ.o;omega)
    ·unfold Rm.fX
     rw[show (8*k+z)/8=k by have:=HZ.o;omega,Wq.o,show (8*k+z)%8=z by have:=HZ.o;omega]
     exact OA.o.1
  ·have yB:k=s.size:=by omega
   subst yB
   go_wp2
   go_ret
   refine⟨8*s.size,by congr 2,⟨hB.o,by rw[aZ];exact af _,fun h=> ?_⟩,rfl⟩
   rw[aZ] at h
   exact absurd h (Nat.lt_irrefl _)
section
variable {z:Bool} {B:Nat} {w:World} {g n cap:Nat} {l:List UInt8}
theorem I9.Zs {v:Value} (h:I9 B w v l):eO false B w v l:=by
 obtain⟨g,cap,cur,fz,h1,h2,h3,h4,h5,h6,h7,h8⟩:=h
 exact⟨g,cap,cur,fz,h1,h2,h3,h4,h5,h6,h7,h8,fun h=>by cases h⟩
theorem eO.frozen (h:eO z B w (.slice (some ⟨g,0,none⟩) n cap) l) (j:Nat) (hj:j<l.length):w.frozen? ⟨g,j,none⟩=false:=by
 obtain⟨g',cap',cur,fz,e,h1,h2,h3,h4,h5,h6,_⟩:=h
 injection e with e1 e2 e3
 injection e1 with e1
 injection e1 with e1
 subst e1
 unfold World.frozen?
 rw[h2]
 simp only[Bool.and_eq_false_iff,decide_eq_false_iff_not]
 have:=h3 j (by omega)
 by_cases h:fz.1≤j
 ·exact .inr fun h2=>this ⟨h,h2⟩
 ·exact .inl h
theorem eO.store (h:eO z B w (.slice (some ⟨g,0,none⟩) n cap) l) (j:Nat) (b:UInt8):eO z B (w.setCell ⟨g,j,none⟩ (bL b)) (.slice (some ⟨g,0,none⟩) n cap) (l.set j b):=by
 obtain⟨g',cap',cur,fz,e,h1,h2,h3,h4,h5,h6,h7,h8⟩:=h
 injection e with e1 e2 e3
 injection e1 with e1
 injection e1 with e1
 subst e1 e2 e3
 refine⟨g,cap,cur.setIfInBounds j (bL b),fz,by rw[bP],h1, ?_,fun i hi=>h3 i (by simpa using hi),by rw[bP];exact h4,h5,by simpa using h6, ?_,h8⟩
 ·rw[setCell_eq_setRow w g j cur _ fz _ h2]
  exact setRow_heap w g cur _ _ fz h2
 ·rw[bP,Array.toList_setIfInBounds,List.take_set,h7,List.map_set]
end
theorem mU (w:World) (s:ByteArray) (k:Nat) (hk:k/8<s.size) (hs:s.size≤512):
  Calls Tryz.prog 213 #[.string s,.int .i64 k] w fun e w'=>e=.returned (.string (bs (Rm.flip s.data.toList k)))∧Below w.heap.size w w':=by
 have h0:(k:Int).tdiv 8=((k/8:Nat):Int):=by rw[yH (by omega)];omega
 have h1:(k:Int).tmod 8=((k%8:Nat):Int):=by rw[Int.tmod_eq_emod_of_nonneg (by omega)];omega
 have HG:=aa (yI s (k/8) hk)
 obtain⟨q,hq⟩:∃q,q=k/8:=⟨_,rfl⟩
 obtain⟨r,hr⟩:∃r,r=k%8:=⟨_,rfl⟩
 have Zt:(q:Int)<s.size:=by omega
 have hq5:(s.size:Int)≤512:=by omega
 have hr7:(r:Int)≤7:=by omega
 have Vf:r≤7:=by omega
 have HF:=aa (show Rm.flip s.data.toList k=s.data.toList.set q (s.data.toList.getD q 0^^^aY (2^r)) by unfold Rm.flip;rw[←hq,←hr])
 have HQ:=aa (show q<s.data.toList.length by rw[aZ,hq];exact hk)
 rw[←hq] at h0
 rw[←hr] at h1
 clear hk hq hr HG
 obtain⟨v,o,Sk,hown⟩:=oG w s (by omega)
 obtain⟨gb,cap,rfl,hgb⟩:=hown.slice
 have hl:s.data.toList.length=s.size:=aZ
 rw[hl] at Sk hown
 have HO:=aa hown.Zs
 have HB:=aa (show Below w.heap.size w (w.drew.alloc o) from (Below.refl _ w).drew.alloc (af _) o)
 obtain⟨W,hW⟩:∃W,W=w.drew.alloc o:=⟨_,rfl⟩
 rw[←hW] at Sk HO HB
 have c1:=HO.o.cell q HQ.o
 have f1:=HO.o.frozen q HQ.o
 obtain⟨b,hb⟩:∃b,b=s.data.toList[q]'HQ.out:=⟨_,rfl⟩
 have HGD:=aa (show s.data.toList.getD q 0=b by rw[bT,aJ HQ.o,hb];rfl)
 rw[←hb] at c1
 unfold bL at c1
 have HX:=aa (show bits .xor .u8 (b.toNat:Int) ((2:Int)^r%256)=((b^^^aY (2^r)).toNat:Int) by
  have h2:2^r≤2^7:=Nat.pow_le_pow_right (by decide) Vf
  have e:(2:Int)^r%256=((2^r:Nat):Int):=by
   rw[show (2:Int)^r=((2^r:Nat):Int) by rw[Int.natCast_pow];rfl]
   generalize 2^r=P at*
   omega
  rw[e]
  generalize 2^r=P at*
  rw[u8_xor_nat _ _ b.toNat_lt (by omega),UInt8.toNat_xor,dY,kC (by omega)])
 clear hown hl hW hb
 go_enter Tryz.func213,Tryz.ntmps213
 go_wp2
 go_region
 rw[HX.o]
 obtain⟨Y,hY⟩:∃Y,Y=(W.setCell ⟨gb,q,none⟩ (.int .u8 (b^^^aY (2^r)).toNat)).drew:=⟨_,rfl⟩
 rw[←hY]
 have h2:eO false w.heap.size Y (.slice (some ⟨gb,0,none⟩) s.size cap) (Rm.flip s.data.toList k):=by
  rw[HF.o,HGD.o,hY]
  exact (HO.o.store q (b^^^aY (2^r))).but ((aE.refl (fun _=>False) _).drew) (fun _ _ h=>h)
 have Sl:=h2.back
 have fC:=aa (show Below w.heap.size w Y by rw[hY];exact (HB.o.setCell (by show w.heap.size≤gb;exact hgb) _).drew)
 clear h2 hY
 go_wp2
 go_ret
 exact⟨rfl,fC.o⟩
end
end Go.Proofs.YtebbahjombdalaaGreatDoor
