/- Elder texts, cut down and merged (3). -/
import Derived.Test.YtloekpcncjocaaaGreatDoorP2
import Derived.Laws.BitsAllLaws
import Derived.Lib.Tables
import Derived.Lib.BitFns
import Derived.Test.YtloekpcncjocaaaGreatDoorPTk
set_option maxRecDepth 100000
set_option maxHeartbeats 8000000
namespace Go.Proofs.YtloekpcncjocaaaGreatDoor
open Go.RowKit Lib
theorem pT (w:World) (n size:Nat) (hn:n≤4194304) (hs:1≤size) (iU:size≤5000):
  Calls Tryz.prog 78 #[.int .i64 n,.int .i64 size] w fun e w'=>e=.returned (.int .i64 ((n+size-1)/size:Nat))∧w'=w:=by
 obtain⟨q,hq⟩:∃q,q=(n+size-1)/size:=⟨_,rfl⟩
 have h0:((n:Int)+size-1).tdiv size=(q:Int):=by
  rw[Int.tdiv_eq_ediv_of_nonneg (by omega),hq,Int.natCast_ediv];congr 1;omega
 have J_:(q:Int)≤4200000:=by have:=Nat.div_le_self (n+size-1) size;omega
 rw[←hq]
 clear hq
 have h1:(1:Int)≤size:=by omega
 have h2:(size:Int)≤5000:=by omega
 have h3:(n:Int)≤4194304:=by omega
 go_enter Tryz.func78,Tryz.ntmps78
 go_wp2
 go_ret
 exact⟨rfl,rfl⟩
theorem DS (w:World) (n:Int) (hr:-9223372036854775808≤n∧n≤9223372036854775807):
  Calls Tryz.prog 48 #[.int .i64 n] w fun e w'=>e=.returned (.int .i64 (Rm.pages n:Nat))∧w'=w:=by
 obtain⟨P,hP⟩:∃P,P=Rm.pages n:=⟨_,rfl⟩
 rw[←hP]
 unfold Rm.pages at hP
 by_cases h:n<1
 ·rw[if_pos h] at hP
  subst hP
  go_enter Tryz.func48,Tryz.ntmps48
  go_wp2
  go_ret
  exact⟨rfl,rfl⟩
 rw[if_neg h] at hP
 by_cases hb:n≤1048576
 ·obtain⟨r,hm⟩:∃r:Nat,n=(r:Int)+1:=⟨n.toNat-1,by omega⟩
  rw[show (min n 1048576).toNat-1=r by omega] at hP
  simp only at hP
  have HP:=aa hP
  have hmn:min ((r:Int)+1) 1048576=(r:Int)+1:=by omega
  clear hP
  subst hm
  go_enter Tryz.func48,Tryz.ntmps48
  go_wp2_with fail
  try rw[show (r:Int)+1-1=r by omega]
  refine (pT _ r 4097 (by omega) (by decide) (by decide)).mono ?_
  rintro e w' ⟨rfl,rfl⟩
  rw[show r+4097-1=r+4096 by omega]
  obtain⟨q,hq⟩:∃q,q=(r+4096)/4097:=⟨_,rfl⟩
  rw[←hq] at HP ⊢
  have Sz:(q:Int)≤r:=by omega
  have HQ:=aa Sz
  clear hq
  go_wp2
  go_ret
  have hle:((r:Int)-q)=((r-q:Nat):Int):=by have:=HQ.out;omega
  exact⟨by rw[HP.out,←hle];first|rfl|(rw[hm];rfl),rfl⟩
 ·obtain⟨r,hm⟩:∃r:Nat,r=1048575:=⟨_,rfl⟩
  rw[show (min n 1048576).toNat-1=r by omega] at hP
  simp only at hP
  have HP:=aa hP
  have hb':¬n<1048576:=by omega
  have hmn:min n 1048576=1048576:=by omega
  clear hP
  go_enter Tryz.func48,Tryz.ntmps48
  go_wp2_with fail
  rw[show (1048575:Int)=(r:Int) by omega]
  refine (pT _ r 4097 (by omega) (by decide) (by decide)).mono ?_
  rintro e w' ⟨rfl,rfl⟩
  rw[show r+4097-1=r+4096 by omega]
  obtain⟨q,hq⟩:∃q,q=(r+4096)/4097:=⟨_,rfl⟩
  rw[←hq] at HP ⊢
  have Sz:(q:Int)≤r:=by omega
  have HQ:=aa Sz
  clear hq
  go_wp2
  go_ret
  have hle:((r:Int)-q)=((r-q:Nat):Int):=by have:=HQ.out;omega
  exact⟨by rw[HP.out,←hle];first|rfl|(rw[hm];rfl),rfl⟩
theorem oh (w:World) (k:Nat) (hk:k≤4194304):
  Calls Tryz.prog 76 #[.int .i64 k] w fun e w'=>e=.returned (.int .i64 (1+k/4096:Nat))∧w'=w:=by
 have h0:(k:Int).tdiv 4096=((k/4096:Nat):Int):=by rw[Int.tdiv_eq_ediv_of_nonneg (by omega)];omega
 have h1:((k/4096:Nat):Int)≤4194304:=by omega
 generalize k/4096=q at*
 go_enter Tryz.func76,Tryz.ntmps76
 go_wp2
 go_ret
 exact⟨by congr 2,rfl⟩
theorem Ka (b:UInt8) (j:Nat):bits .and .u8 ((b.toNat:Int)/2^j) 1=((b.toNat.testBit j).toNat:Int):=by
 have h1:(b.toNat:Int)/2^j=((b.toNat/2^j:Nat):Int):=by rw[Int.natCast_ediv,Int.natCast_pow];rfl
 have h2:b.toNat/2^j<256:=Nat.lt_of_le_of_lt (Nat.div_le_self _ _) b.toNat_lt
 rw[h1,show (1:Int)=((1:Nat):Int) from rfl,u8_and_nat _ 1 h2 (by decide),Nat.and_one_is_mod,Nat.toNat_testBit]
theorem pU (s:ByteArray) (k:Nat) (hk:k<s.size):s.data.toList.getD k 0=s[k]:=by
 rw[List.getD_eq_getElem?_getD,List.getElem?_eq_getElem (by rw[Array.length_toList];exact hk),Option.getD_some]
 rfl
theorem DT (w:World) (s:ByteArray) (k:Nat) (hk:k/8<s.size) (hs:s.size≤512):
  Calls Tryz.prog 47 #[.string s,.int .i64 k] w fun e w'=>e=.returned (.bool (Rm.dU s.data.toList k))∧w'=w:=by
 have h0:(k:Int).tdiv 8=((k/8:Nat):Int):=by rw[Int.tdiv_eq_ediv_of_nonneg (by omega)];omega
 have h1:(k:Int).tmod 8=((k%8:Nat):Int):=by rw[Int.tmod_eq_emod_of_nonneg (by omega)];omega
 have h2:((k/8:Nat):Int)<s.size:=by omega
 have h3:((k%8:Nat):Int)≤7:=by omega
 have h4:(0:Int)≤((k%8:Nat):Int):=by omega
 have HA:=aa (show bits .and .u8 (((s[k/8]'hk).toNat:Int)/2^(k%8)) 1=((Rm.dU s.data.toList k).toNat:Int) by rw[Ka];unfold Rm.dU;rw[pU s _ hk])
 go_enter Tryz.func47,Tryz.ntmps47
 go_wp2
 go_ret
 refine⟨?_,rfl⟩
 simp only[HA.out]
 cases Rm.dU s.data.toList k<;>rfl
theorem Gb:∀n:Fin 256,pop8 (n.val:Int)=(Rm.mH n.val:Int):=by decide+kernel
theorem r_ (n:Nat):Rm.mH n≤8:=by
 unfold Rm.mH Rm.r7
 have:=List.length_filter_le (fun i=>n.testBit i) (List.range 8)
 rwa [List.length_range] at this
theorem mL (w:World) (b:UInt8):
  Calls Tryz.prog 77 #[.int .u8 b.toNat] w fun e w'=>e=.returned (.int .i64 (Rm.mH b.toNat:Nat))∧w'=w:=by
 have hb:(b.toNat:Int)≤255:=by have:=b.toNat_lt;omega
 have hw:wrap64 (pop8 b.toNat)=(Rm.mH b.toNat:Nat):=by
  rw[Gb ⟨b.toNat,b.toNat_lt⟩]
  have:=r_ b.toNat
  unfold wrap64;simp only;omega
 go_enter Tryz.func77,Tryz.ntmps77
 go_wp2
 go_ret
 exact⟨by rw[←hw];rfl,rfl⟩
theorem Gc (b:UInt8):wrap64 (ntz8 b.toNat)=(Lib.trailingZeros8 b.toNat:Nat):=by
 rw[ntz8_eq ⟨b.toNat,b.toNat_lt⟩]
 have:=trailingZeros8_le8 ⟨b.toNat,b.toNat_lt⟩
 unfold wrap64;simp only at this ⊢;omega
theorem DU (w:World) (b:UInt8):
  Calls Tryz.prog 206 #[.int .u8 b.toNat] w fun e w'=>e=.returned (.int .i64 (Lib.trailingZeros8 b.toNat:Nat))∧w'=w:=by
 have hb:(b.toNat:Int)≤255:=by have:=b.toNat_lt;omega
 have hw:=Gc b
 go_enter Tryz.func206,Tryz.ntmps206
 go_wp2
 go_ret
 exact⟨by rw[←hw];rfl,rfl⟩
def Gd (b:Nat):Nat:=Lib.trailingZeros8 (255-b)
theorem Kb:∀n:Fin 256,n.val≠255→Gd n.val≤7∧n.val.testBit (Gd n.val)=false∧∀j:Fin 8,j.val<Gd n.val→n.val.testBit j.val=true:=by decide+kernel
theorem Kc:∀n:Fin 256,255^^^n.val=255-n.val:=by decide+kernel
theorem Ge:∀j:Fin 8,(255:Nat).testBit j.val=true:=by decide+kernel
theorem sj (w:World) (s:ByteArray) (hs:s.size≤512):
  Calls Tryz.prog 201 #[.string s] w fun e w'=>∃f:Nat,e=.returned (.int .i64 f)∧Rm.CO s.data.toList f∧w'=w:=by
 have FR:(s.size:Int)≤512:=by omega
 go_enter Tryz.func201,Tryz.ntmps201
 go_wp2
 go_loop [6] (fun i=>∃k:Nat,k≤s.size∧i=.int .i64 k∧Hid (∀j,j<8*k→Rm.dU s.data.toList j=true)) (fun i=>s.size-(RowKit.intOf i).toNat)
 case atStart=>exact⟨0,Nat.zero_le _,rfl,aa fun j hj=>by omega⟩
 case round=>
  obtain⟨k,hk,rfl,hB⟩:=hrel
  by_cases hlt:k<s.size
  ·have hI:(k:Int)<s.size:=by omega
   have HG:=aa (pU s k hlt)
   have HL:=aa hlt
   obtain⟨b,hb⟩:∃b,b=s[k]:=⟨_,rfl⟩
   have TH:=aa (show s.data.toList.getD k 0=b by rw[hb];exact HG.out)
   have aQ:(b.toNat:Int)≤255:=by have:=b.toNat_lt;omega
   by_cases e:b.toNat=255
   ·have eI:(s[k].toNat:Int)=255:=by rw[←hb];omega
    go_wp2
    go_round
    case rel=>
     refine⟨k+1,HL.out,by go_num,aa fun j hj=> ?_⟩
     by_cases h:j<8*k
     ·exact hB.out j h
     ·unfold Rm.dU
      rw[show j/8=k by omega,TH.out,e]
      exact Ge ⟨j%8,by omega⟩
    case measure=>have:=HL.out;simp[RowKit.intOf];omega
   ·have eI:¬(s[k].toNat:Int)=255:=by rw[←hb];omega
    obtain⟨c,hc⟩:∃c:UInt8,c.toNat=255-b.toNat:=⟨UInt8.ofNat (255-b.toNat),by rw[UInt8.toNat_ofNat'];omega⟩
    have HX:=aa (show bits .xor .u8 IntKind.u8.max s[k].toNat=(c.toNat:Int) by
     rw[←hb,show IntKind.u8.max=((255:Nat):Int) from rfl,u8_xor_nat 255 b.toNat (by decide) b.toNat_lt,hc,Kc ⟨b.toNat,b.toNat_lt⟩])
    have ZH:=aa (show Gd b.toNat=Lib.trailingZeros8 c.toNat by unfold Gd;rw[hc])
    obtain⟨l1,l2,l3⟩:=Kb ⟨b.toNat,b.toNat_lt⟩ e
    simp only at l1 l2 l3
    rw[ZH.out] at l1 l2 l3
    have TI:=aa (And.intro l2 l3)
    have Xm:(Lib.trailingZeros8 c.toNat:Int)≤7:=by omega
    have hk8:(k:Int)≤512:=by omega
    clear l2 l3 l1 hb e hc
    go_wp2_with fail
    erw[HX.out]
    refine (DU w c).mono ?_
    rintro e w' ⟨rfl,rfl⟩
    obtain⟨z,hz⟩:∃z,z=Lib.trailingZeros8 c.toNat:=⟨_,rfl⟩
    rw[←hz] at TI Xm ⊢
    have HZ:=aa Xm
    clear hz
    go_wp2
    go_ret
    refine⟨8*k+z,by congr 2,⟨fun j hj=> ?_,by rw[Array.length_toList];have:=HZ.out;have:=HL.out;have hs:s.data.size=s.size:=rfl;omega,fun _=> ?_⟩,rfl⟩
    ·by_cases h:j<8*k
     ·exact hB.out j h
     ·unfold Rm.dU
      rw[show j/8=k by have:=HZ.out;omega,TH.out]
      exact TI.out.2 ⟨j%8,by omega⟩ (by show j%8<z;have:=HZ.out;omega)
    ·unfold Rm.dU
     rw[show (8*k+z)/8=k by have:=HZ.out;omega,TH.out,show (8*k+z)%8=z by have:=HZ.out;omega]
     exact TI.out.1
  ·have MW:k=s.size:=by omega
   subst MW
   go_wp2
   go_ret
   refine⟨8*s.size,by congr 2,⟨hB.out,by rw[Array.length_toList];exact Nat.le_refl _,fun h=> ?_⟩,rfl⟩
   rw[Array.length_toList] at h
   exact absurd h (Nat.lt_irrefl _)
theorem wrap_u8' (n:Int):IntKind.u8.wrap n=n%256:=by simp[IntKind.wrap,IntKind.bits,IntKind.signed]
theorem mask (b:UInt8) (r:Nat) (hr:r≤7):bits .and .u8 b.toNat ((2:Int)^r-1)=((b.toNat%2^r:Nat):Int):=by
 have h2:2^r≤2^7:=Nat.pow_le_pow_right (by decide) hr
 have h1:1≤2^r:=Nat.one_le_two_pow
 have h3:((2:Int)^r-1)=((2^r-1:Nat):Int):=by rw[Int.natCast_sub h1,Int.natCast_pow];rfl
 rw[h3,u8_and_nat _ _ b.toNat_lt (by omega),Nat.and_two_pow_sub_one_eq_mod]
theorem wY (w:World) (s:ByteArray) (n:Nat) (hs:s.size≤512) (hn:n≤8*s.size):
  Calls Tryz.prog 46 #[.string s,.int .i64 n] w fun e w'=>e=.returned (.int .i64 (Rm.count s.data.toList n:Nat))∧Below w.heap.size w w':=by
 have h0:(n:Int).tdiv 8=((n/8:Nat):Int):=by rw[Int.tdiv_eq_ediv_of_nonneg (by omega)];omega
 have h1:(n:Int).tmod 8=((n%8:Nat):Int):=by rw[Int.tmod_eq_emod_of_nonneg (by omega)];omega
 obtain⟨q,hq⟩:∃q,q=n/8:=⟨_,rfl⟩
 obtain⟨r,hr⟩:∃r,r=n%8:=⟨_,rfl⟩
 have LX:(n:Int)≤4096:=by omega
 have TJ:(q:Int)≤512:=by omega
 have ZI:(r:Int)≤7:=by omega
 have HN:=aa (show n=8*q+r∧q≤s.size∧(0<r→q<s.size)∧r≤7 by omega)
 rw[←hq] at h0
 rw[←hr] at h1
 clear hq hr
 go_enter Tryz.func46,Tryz.ntmps46
 go_wp2
 go_loop [5,9] (fun c i=>∃k:Nat,k≤q∧i=.int .i64 k∧c=.int .i64 (Rm.count s.data.toList (8*k):Nat)) (fun _ i=>q-(RowKit.intOf i).toNat)
 case atStart=>exact⟨0,Nat.zero_le _,rfl,rfl⟩
 case round=>
  obtain⟨k,hk,rfl,rfl⟩:=hrel
  by_cases hlt:k<q
  ·have hI:(k:Int)<q:=by omega
   have hks:k<s.size:=by have:=HN.out.2.1;omega
   have TK:(k:Int)<s.size:=by omega
   have hc:=Rm.pP s.data.toList k 8 (Nat.le_refl _)
   rw[pU s k hks] at hc
   have yW:=Rm.count_le s.data.toList (8*k)
   have ho:=r_ s[k].toNat
   have HC:=aa (show Rm.count s.data.toList (8*(k+1))=Rm.count s.data.toList (8*k)+Rm.mH s[k].toNat from hc)
   have HL:=aa hlt
   generalize Rm.count s.data.toList (8*k)=a at*
   have Jt:(a:Int)≤4096:=by have:=HN.out.2.1;omega
   clear hc yW
   obtain⟨b,hb⟩:∃b,b=s[k]:=⟨_,rfl⟩
   go_wp2_with fail
   rw[←hb] at ho HC ⊢
   refine (mL w b).mono ?_
   rintro e w' ⟨rfl,rfl⟩
   generalize Rm.mH b.toNat=o at*
   have ZJ:(o:Int)≤8:=by omega
   go_wp2
   go_round
   case rel=>exact⟨k+1,HL.out,by go_num,by rw[HC.out];go_num⟩
   case measure=>have:=HL.out;simp[RowKit.intOf];omega
  ·obtain rfl:k=q:=by omega
   by_cases OQ:r=0
   ·have ZK:¬(0:Int)<(r:Int):=by omega
    have ZL:(r:Int)=0:=by omega
    have HE:=aa (show n=8*k by have:=HN.out.1;omega)
    go_wp2
    go_ret
    exact⟨by rw[HE.out];rfl,Below.refl _ _⟩
   ·have ZK:(0:Int)<(r:Int):=by omega
    have hks:k<s.size:=HN.out.2.2.1 (by omega)
    have TK:(k:Int)<s.size:=by omega
    have hc:=Rm.pP s.data.toList k r (by have:=HN.out.2.2.2;omega)
    rw[pU s k hks] at hc
    obtain⟨a,ha⟩:∃a,a=Rm.count s.data.toList (8*k):=⟨_,rfl⟩
    have Jt:(a:Int)≤4096:=by have:=Rm.count_le s.data.toList (8*k);have:=HN.out.2.1;omega
    rw[←ha] at hc ⊢
    obtain⟨c,Ju⟩:∃c:UInt8,c.toNat=s[k].toNat%2^r:=⟨UInt8.ofNat (s[k].toNat%2^r),by
     rw[UInt8.toNat_ofNat']
     have h8:=s[k].toNat_lt
     have:=Nat.mod_le s[k].toNat (2^r)
     exact Nat.mod_eq_of_lt (by omega)⟩
    have ho:=r_ c.toNat
    have HE:=aa (show Rm.count s.data.toList n=a+Rm.mH c.toNat by
     rw[HN.out.1,hc,Ju]
     unfold Rm.mH
     rw[Rm.F5 _ _ (by have:=HN.out.2.2.2;omega)])
    have hm:=mask s[k] r HN.out.2.2.2
    rw[←Ju] at hm
    have Xn:=fun w'=>mL w' c
    generalize Rm.mH c.toNat=o at*
    have ZJ:(o:Int)≤8:=by omega
    have hw1:IntKind.i64.wrap (k:Int)=k:=IntWalk.i64_in _ (by omega)
    have hp:(2:Int)^r≤128∧1≤(2:Int)^r:=by
     have e:(2:Int)^r=((2^r:Nat):Int):=by rw[Int.natCast_pow];rfl
     have h2:2^r≤2^7:=Nat.pow_le_pow_right (by decide) HN.out.2.2.2
     have h1:1≤2^r:=Nat.one_le_two_pow
     rw[e];omega
    have gy:IntKind.u8.wrap ((2:Int)^r)=2^r:=by rw[wrap_u8'];omega
    have lU:IntKind.u8.wrap ((2:Int)^r-1)=2^r-1:=by rw[wrap_u8'];omega
    clear hc ha Ju ho hp
    go_wp2
    refine wp_region_any (by kernel_rfl) ?_
    try (change wpAny _ _ _ _ _ _ _ (World.drew _))
    refine tk 0 ?_
    refine tk 1 ?_
    refine tk 2 ?_
    refine tk 3 ?_
    refine tk 4 ?_
    refine tk 5 ?_
    refine tk 6 ?_
    refine tk 7 ?_
    refine tk 8 ?_
    refine tk 9 ?_
    refine rd [10] (rn fun K hK=> ?_)
    go_simp
    refine (Xn _).mono ?_;rintro e w' ⟨rfl,rfl⟩
    refine hK _ _ ?_;clear hK K
    refine tk 11 ?_
    refine tk 12 ?_
    refine wpAny_done (by kernel_rfl) ?_ _
    go_wp2
    go_ret
    exact⟨by rw[HE.out];rfl,(Below.refl _ w).drew⟩
section
variable {z:Bool} {B:Nat} {w:World} {g n cap:Nat} {l:List UInt8}
theorem F7.Xo {v:Value} (h:F7 B w v l):dL false B w v l:=by
 obtain⟨g,cap,cur,fz,h1,h2,h3,h4,h5,h6,h7,h8⟩:=h
 exact⟨g,cap,cur,fz,h1,h2,h3,h4,h5,h6,h7,h8,fun h=>by cases h⟩
theorem dL.frozen (h:dL z B w (.slice (some ⟨g,0,none⟩) n cap) l) (j:Nat) (hj:j<l.length):w.frozen? ⟨g,j,none⟩=false:=by
 obtain⟨g',cap',cur,fz,e,h1,h2,h3,h4,h5,h6,_⟩:=h
 injection e with e1 e2 e3
 injection e1 with e1
 injection e1 with e1
 subst e1
 unfold World.frozen?
 rw[h2]
 simp only[Bool.and_eq_false_iff,decide_eq_false_iff_not]
 have:=h3 j (by omega)
 by_cases h:fz.1≤j
 ·exact .inr fun h2=>this ⟨h,h2⟩
 ·exact .inl h
theorem dL.store (h:dL z B w (.slice (some ⟨g,0,none⟩) n cap) l) (j:Nat) (b:UInt8):dL z B (w.setCell ⟨g,j,none⟩ (aR b)) (.slice (some ⟨g,0,none⟩) n cap) (l.set j b):=by
 obtain⟨g',cap',cur,fz,e,h1,h2,h3,h4,h5,h6,h7,h8⟩:=h
 injection e with e1 e2 e3
 injection e1 with e1
 injection e1 with e1
 subst e1 e2 e3
 refine⟨g,cap,cur.setIfInBounds j (aR b),fz,by rw[List.length_set],h1, ?_,fun i hi=>h3 i (by simpa using hi),by rw[List.length_set];exact h4,h5,by simpa using h6, ?_,h8⟩
 ·rw[setCell_eq_setRow w g j cur _ fz _ h2]
  exact setRow_heap w g cur _ _ fz h2
 ·rw[List.length_set,Array.toList_setIfInBounds,List.take_set,h7,List.map_set]
end
theorem kR (w:World) (s:ByteArray) (k:Nat) (hk:k/8<s.size) (hs:s.size≤512):
  Calls Tryz.prog 184 #[.string s,.int .i64 k] w fun e w'=>e=.returned (.string (bs (Rm.flip s.data.toList k)))∧Below w.heap.size w w':=by
 have h0:(k:Int).tdiv 8=((k/8:Nat):Int):=by rw[Int.tdiv_eq_ediv_of_nonneg (by omega)];omega
 have h1:(k:Int).tmod 8=((k%8:Nat):Int):=by rw[Int.tmod_eq_emod_of_nonneg (by omega)];omega
 have HG:=aa (pU s (k/8) hk)
 obtain⟨q,hq⟩:∃q,q=k/8:=⟨_,rfl⟩
 obtain⟨r,hr⟩:∃r,r=k%8:=⟨_,rfl⟩
 have TJ:(q:Int)<s.size:=by omega
 have ZM:(s.size:Int)≤512:=by omega
 have ZI:(r:Int)≤7:=by omega
 have Pw:r≤7:=by omega
 have HF:=aa (show Rm.flip s.data.toList k=s.data.toList.set q (s.data.toList.getD q 0^^^UInt8.ofNat (2^r)) by unfold Rm.flip;rw[←hq,←hr])
 have HQ:=aa (show q<s.data.toList.length by rw[Array.length_toList,hq];exact hk)
 rw[←hq] at h0
 rw[←hr] at h1
 clear hk hq hr HG
 obtain⟨v,o,Px,hown⟩:=mJ w s (by omega)
 obtain⟨gb,cap,rfl,hgb⟩:=hown.slice
 have hl:s.data.toList.length=s.size:=Array.length_toList
 rw[hl] at Px hown
 have HO:=aa hown.Xo
 have HB:=aa (show Below w.heap.size w (w.drew.alloc o) from (Below.refl _ w).drew.alloc (Nat.le_refl _) o)
 obtain⟨W,hW⟩:∃W,W=w.drew.alloc o:=⟨_,rfl⟩
 rw[←hW] at Px HO HB
 have c1:=HO.out.cell q HQ.out
 have f1:=HO.out.frozen q HQ.out
 obtain⟨b,hb⟩:∃b,b=s.data.toList[q]'HQ.out:=⟨_,rfl⟩
 have ZN:=aa (show s.data.toList.getD q 0=b by rw[List.getD_eq_getElem?_getD,List.getElem?_eq_getElem HQ.out,hb];rfl)
 rw[←hb] at c1
 unfold aR at c1
 have HX:=aa (show bits .xor .u8 (b.toNat:Int) ((2:Int)^r%256)=((b^^^UInt8.ofNat (2^r)).toNat:Int) by
  have h2:2^r≤2^7:=Nat.pow_le_pow_right (by decide) Pw
  have e:(2:Int)^r%256=((2^r:Nat):Int):=by
   rw[show (2:Int)^r=((2^r:Nat):Int) by rw[Int.natCast_pow];rfl]
   generalize 2^r=P at*
   omega
  rw[e]
  generalize 2^r=P at*
  rw[u8_xor_nat _ _ b.toNat_lt (by omega),UInt8.toNat_xor,UInt8.toNat_ofNat',Nat.mod_eq_of_lt (by omega)])
 clear hown hl hW hb
 go_enter Tryz.func184,Tryz.ntmps184
 go_wp2
 go_region
 rw[HX.out]
 obtain⟨Y,hY⟩:∃Y,Y=(W.setCell ⟨gb,q,none⟩ (.int .u8 (b^^^UInt8.ofNat (2^r)).toNat)).drew:=⟨_,rfl⟩
 rw[←hY]
 have h2:dL false w.heap.size Y (.slice (some ⟨gb,0,none⟩) s.size cap) (Rm.flip s.data.toList k):=by
  rw[HF.out,ZN.out,hY]
  exact (HO.out.store q (b^^^UInt8.ofNat (2^r))).but ((aj.refl (fun _=>False) _).drew) (fun _ _ h=>h)
 have Py:=h2.back
 have kf:=aa (show Below w.heap.size w Y by rw[hY];exact (HB.out.setCell (by show w.heap.size≤gb;exact hgb) _).drew)
 clear h2 hY
 go_wp2
 go_ret
 exact⟨rfl,kf.out⟩
end Go.Proofs.YtloekpcncjocaaaGreatDoor
