/- Elder texts, cut down and merged (1). -/
import Derived.WalkKit
import Derived.ProofKit
import Derived.OpenShut
import Derived.ShutString
import Derived.Test.YtgfdijemhanfkaaGreatDoorRows
import Derived.Carry
import Derived.SliceStrings
import Derived.SizedLaws
import Derived.Deep.Strs
import Derived.Laws.BitsAllLaws
import Derived.Lib.Bytealg
import Derived.Test.YtgfdijemhanfkaaGreatDoorPTk
set_option maxRecDepth 100000
set_option maxHeartbeats 8000000
namespace Go.Proofs.YtgfdijemhanfkaaGreatDoor
open _root_.Go.Proofs.Tryz
open Or renaming inr→dc,inl→cS
open Option renaming some→av
open IntKind renaming u8→eD
open List renaming mem_append->ah,mem_cons_self->au,mem_cons_of_mem->aH,getD_eq_getElem?_getD->bC,getElem?_eq_getElem->aI,getElem_mem->bp,replicate->aV,replicate_succ->k_,mem_cons->aM,length_drop->aS,take_append_drop->b_,append_assoc->aD,take_of_length_le->bD,length_append->aq,length_take->aJ,getElem?_append_right->gO
open Nat renaming two_pow_add_eq_or_of_lt->C0,mod_lt->fG,mod_eq_of_lt->gF,eq_of_testBit_eq->C2,lt_of_lt_of_le->bL,le_refl->af
open _root_.Array renaming length_toList->aU
open UInt8 renaming ofNat->az,toNat_ofNat'->bR
section
open Go.ChangeShapes Go.WideShapes Go.ChangeAt Go.RowKit
theorem own:ownKnob prog.godebug=none:=η
theorem yu {H:Type} {enc:TypeId×Value->H} {P:Program} {f:Func} {s:ChangeSpec} {apart fresh handsOn again:Bool} {W W':World} {args:Array Value} {v:Value} {D gs:List (DataW H)} {before pa pv:List MemPlace}
  (i:DataW.Whole enc P f.params.toList s.vars apart W args.toList D gs before) (l:Below W.heap.size W W') (d:before=pa++pv)
  (e:∀(b:Nat) (sp:Nat->Bool) (hd:Bool),DataW.TrodAll enc P W' b sp hd f.resultTypes.toList (v.resultList f.resultTypes.size) (s.fn H (D++gs)).results [])
  (a:∀sp:Nat->Bool,(∀p∈before,sp p.block=true)->DataW.TrodAll enc P W' 0 sp true f.params.toList args.toList (s.fn H (D++gs)).args pa)
  (c:∀sp:Nat->Bool,(∀p∈before,sp p.block=true)->DataW.TrodVars enc P W' sp s.vars (s.fn H (D++gs)).vars pv)
  (k:∀(j:Nat) (t:TypeId) (r:Value),f.resultTypes[j]?=av t->(v.resultList f.resultTypes.size)[j]?=av r->Value.okWide P W' .any 0 t r):
  s.post enc P f apart fresh handsOn again W args v W':=by
 have lt:∀p∈before,p.block<W.heap.size:=fun p hp=>i.lt p hp;have old:∀p∈before,(fun b=>decide (b<W.heap.size)) p.block=true:=fun p hp=>by simpa using i.lt p hp
 refine⟨D,gs,before,[],pa,pv,i,e _ _ _,a _ old,c _ old,World.keptBut_mono (fun p hp=>⟨hp, ?_⟩) (l.frame (· ∈before)),fun _=> ?_⟩;·rw[d,ah] at hp;exact dc hp
 ·obtain⟨_,_,_,_,_,m,hn⟩:=i;refine⟨k,_,_,([]++pa)++pv,⟨[]++pa,pv,trodAll_append (a _ (fun _ _=>rfl)) (e _ _ _),c _ (fun _ _=>rfl),rfl,fun b off hp=> ?_,fun ha=> ?_⟩,fun p hp _=> ?_⟩;·have g:MemPlace.cell b off∈before:=(by rw[d];simpa using hp);have hl:b<W.heap.size:=lt _ g;rw[l.frozen hl];exact m b off g
  ·have h:=hn ha;rw[d] at h;simpa using h
  ·rw[d];simpa using hp
theorem laidOut:laidOutB prog=true:=η
theorem rU {H:Type} {enc:TypeId×Value->H} {W W':World} {sp:Nat->Bool} (ts:List TypeId):
  ∀{vs:List Value} {D:List (DataW H)} {ps:List MemPlace},(∀t∈ts,prog.readableRec t=true/\t<prog.types.size)->
   DataW.TrodAll enc prog W 0 (fun _=>true) true ts vs D ps->(∀p∈ps,W.sameAt W' p)->(∀p∈ps,sp p.block=true)->DataW.TrodAll enc prog W' 0 sp true ts vs D ps:=by
 induction ts with
 |nil=>intro vs D ps _ h _ _;cases vs<;>cases D<;>first|exact h|cases h
 |cons t ts i=>
  intro vs D ps c h hs hp;cases vs with
  |nil=>cases h
  |cons v vs=>
   cases D with
   |nil=>cases h
   |cons d D=>
    obtain⟨p,q,f,g,rfl⟩:=h;have e:=c t (au ..)
    exact⟨p,q,WideElems.Trod_stays laidOut e.1 e.2 f (fun x a=>hs x (ah.2 (cS a))) (fun x a=>hp x (ah.2 (cS a))),
     i (fun t b=>c t (aH _ b)) g (fun x a=>hs x (ah.2 (dc a))) (fun x a=>hp x (ah.2 (dc a))),rfl⟩
end
namespace Sha
def rJ (x i:Nat):Nat:=x*2^(32-i)%4294967296+x/2^i
def small (x a b c:Nat):Nat:=rJ x a^^^rJ x b^^^x/2^c
def rV (x a b c:Nat):Nat:=rJ x a^^^rJ x b^^^rJ x c
theorem BJ (i:Nat) (hi:i<=32):2^(32-i)*2^i=4294967296:=by rw[<-Nat.pow_add,show 32-i+i=32 by omega]
theorem high (x n:Nat) (hn:n<=32):x*2^n%4294967296=2^n*(x%2^(32-n)):=by rw[<-BJ n hn,Nat.mul_mod_mul_right,Nat.mul_comm]
theorem W_ (x n:Nat) (h:x<4294967296) (hn:n<=32):x/2^(32-n)<2^n:=by rw[Nat.div_lt_iff_lt_mul (Nat.pow_pos ξ),Nat.mul_comm,BJ n hn];exact h
theorem KA (x i:Nat) (H:x<4294967296) (hi:i<=32):x*2^(32-i)%4294967296|||x/2^i=rJ x i:=by have h:=W_ x (32-i) H κ;rw[show 32-(32-i)=i by omega] at h;unfold rJ;rw[high x (32-i) κ,C0 h]
theorem tI (x i:Nat) (h:x<4294967296) (hi:i<=32):rJ x i<4294967296:=by rw[<-KA x i h hi];refine Nat.or_lt_two_pow (n:=32) (fG _ ξ) (Nat.lt_of_le_of_lt (Nat.div_le_self _ _) h)
theorem Ie {a b:Nat} (ha:a<4294967296) (h:b<4294967296):a^^^b<4294967296:=Nat.xor_lt_two_pow (n:=32) ha h
theorem O9 (x c:Nat) (h:x<4294967296):x/2^c<4294967296:=Nat.lt_of_le_of_lt (Nat.div_le_self _ _) h
theorem count (i n:Nat) (hi:1<=i) (H:i<=31) (hn:n=32-i):bits BinOp.and IntKind.u64 (IntKind.u64.wrap (-(i:Int))) 31=(n:Int):=by
 have a:IntKind.u64.wrap (-(i:Int))=((18446744073709551616-i:Nat):Int):=zbs
 rw[a];have h:=u64_and_nat (18446744073709551616-i) 31 κ ξ;rw[show (18446744073709551616-i)&&&31=(18446744073709551616-i)%32 from Nat.and_two_pow_sub_one_eq_mod _ 5] at h;rw[show ((31:Nat):Int)=31 from rfl] at h;rw[h];omega
theorem O_ (x i n:Nat) (H:x<4294967296) (hi:1<=i) (a:i<=31) (hn:n=32-i):
  bits BinOp.or IntKind.u32 ((x:Int)*2^n%4294967296) ((x:Int)/2^(32-n))=((rJ x i:Nat):Int):=by
 have h:=u32_or_nat (x*2^(32-i)%4294967296) (x/2^i) (fG _ ξ) (O9 x i H);rw[KA x i H κ] at h;rw[<-h,hn,show 32-(32-i)=i by omega];simp
theorem xX (s:ByteArray) (i:Int) (j:Nat) (hi:i=j) (p:i.toNat<s.size):s[i.toNat]'p=s.data.toList.getD j 0:=by
 subst hi;have h:j<s.data.toList.length:=by rw[aU];exact p
 rw[bC,aI h];rfl
def EJ (l:List UInt8) (j:Nat):Nat:=(l.getD (4*j) 0).toNat*16777216+(l.getD (4*j+1) 0).toNat*65536+(l.getD (4*j+2) 0).toNat*256+(l.getD (4*j+3) 0).toNat
def mD (s:ByteArray) (j:Nat):Nat:=EJ s.data.toList j
theorem L7 (s:ByteArray) (j:Nat):mD s j<4294967296:=by unfold mD EJ;have h:=(s.data.toList.getD (4*j) 0).toNat_lt;have H:=(s.data.toList.getD (4*j+1) 0).toNat_lt;have a:=(s.data.toList.getD (4*j+2) 0).toNat_lt;have h3:=(s.data.toList.getD (4*j+3) 0).toNat_lt;omega
def words:Nat->ByteArray->Δ
 |0,_=>[]
 |n+1,s=>words n s++[mD s n]
theorem kJ (n:Nat) (s:ByteArray):(words n s).length=n:=by
 induction n with
 |zero=>rfl
 |succ n i=>simp[words,i]
def next (l:Δ):Nat:=(l.getD (l.length-16) 0+small (l.getD (l.length-15) 0) 7 18 3+l.getD (l.length-7) 0+small (l.getD (l.length-2) 0) 17 19 10)%4294967296
def ext:Nat->List Nat->Δ
 |0,l=>l
 |n+1,l=>ext n l++[next (ext n l)]
theorem Pa (n:Nat) (l:Δ):ext (n+1) l=ext n l++[next (ext n l)]:=rfl
theorem yw (n:Nat) (l:Δ):(ext n l).length=l.length+n:=by
 induction n with
 |zero=>rfl
 |succ n i=>simp[ext,i];omega
def sched (s:ByteArray):Δ:=ext 48 (words 16 s)
theorem EK (n:Nat) (s:ByteArray):∀x∈words n s,x<4294967296:=by
 induction n with
 |zero=>intro x H;cases H
 |succ n i=>
  intro x H;rcases ah.1 H with h|h;·exact i x h
  ·obtain rfl:x=mD s n:=by simpa using h
   exact L7 s n
theorem Pb (n:Nat) (l:Δ) (hl:∀x∈l,x<4294967296):∀x∈ext n l,x<4294967296:=by
 induction n with
 |zero=>exact hl
 |succ n i=>
  intro x H;rcases ah.1 H with h|h;·exact i x h
  ·obtain rfl:x=next (ext n l):=by simpa using h
   exact fG _ ξ
theorem jS (l:Δ) (hl:∀x∈l,x<4294967296) (j:Nat):l.getD j 0<4294967296:=by
 by_cases h:j<l.length
 ·have e:l.getD j 0=l[j]:=by simp[h]
  rw[e];exact hl _ (bp h)
 ·simp[List.getD,List.getElem?_eq_none (Nat.le_of_not_lt h)]
def fill (p:Δ) (n:Nat):Δ:=p++aV n 0
theorem l6 (p:Δ) (n:Nat):(fill p n).length=p.length+n:=by simp[fill]
theorem tJ (p:Δ) (n v:Nat):(fill p (n+1)).set p.length v=fill (p++[v]) n:=by simp[fill,k_]
theorem Pc (p:Δ) (n j:Nat) (h:j<p.length):(fill p n).getD j 0=p.getD j 0:=by simp[fill,List.getD,List.getElem?_append_left h]
theorem L8 (p:Δ):fill p 0=p:=by simp[fill]
theorem gN (n:Int) (H:0<=n) (h:n<=4294967295):IntKind.u32.wrap n=n:=by rw[IntKind.wrap_u32'];omega
theorem four (a b c d:Nat) (ha:a<256) (g:b<256) (hc:c<256) (hd:d<256):
  bits BinOp.or IntKind.u32 (bits BinOp.or IntKind.u32 (bits BinOp.or IntKind.u32 ((a:Int)*16777216) ((b:Int)*65536)) ((c:Int)*256)) (d:Int)=((a*16777216+b*65536+c*256+d:Nat):Int):=by
 have H:bits BinOp.or IntKind.u32 ((a:Int)*16777216) ((b:Int)*65536)=((a*16777216+b*65536:Nat):Int):=by
  have h:=u32_or_nat (a*16777216) (b*65536) κ κ;have e:a*16777216|||b*65536=a*16777216+b*65536:=by have:=C0 (i:=24) (b:=b*65536) κ a;rw[Nat.mul_comm a,<-this]
  rw[e] at h;simpa using h
 have f:bits BinOp.or IntKind.u32 ((a*16777216+b*65536:Nat):Int) ((c:Int)*256)=((a*16777216+b*65536+c*256:Nat):Int):=by
  have h:=u32_or_nat (a*16777216+b*65536) (c*256) κ κ;have e:(a*16777216+b*65536)|||c*256=a*16777216+b*65536+c*256:=by have:=C0 (i:=16) (b:=c*256) κ (a*256+b);rw[show a*16777216+b*65536=2^16*(a*256+b) by omega,<-this]
  rw[e] at h;simpa using h
 have h3:bits BinOp.or IntKind.u32 ((a*16777216+b*65536+c*256:Nat):Int) (d:Int)=((a*16777216+b*65536+c*256+d:Nat):Int):=by
  have h:=u32_or_nat (a*16777216+b*65536+c*256) d κ κ;have e:(a*16777216+b*65536+c*256)|||d=a*16777216+b*65536+c*256+d:=by have:=C0 (i:=8) (b:=d) κ (a*65536+b*256+c);rw[show a*16777216+b*65536+c*256=2^8*(a*65536+b*256+c) by omega,<-this]
  rw[e] at h;exact h
 rw[H,f,h3]
theorem acg (a b c d:Nat):IntKind.u32.wrap (IntKind.u32.wrap (IntKind.u32.wrap ((a:Int)+b)+c)+d)=(((a+b+c+d)%4294967296:Nat):Int):=by simp only[IntKind.wrap_u32'];omega
theorem tK (s:ByteArray):(sched s).length=64:=by rw[sched,yw,kJ]
theorem Pd (s:ByteArray):∀x∈sched s,x<4294967296:=Pb _ _ (EK _ _)
theorem Tt (l:Δ) (k a b c d:Nat) (h:l.length=k) (ha:a=l.getD (k-16) 0) (H:b=l.getD (k-15) 0) (hc:c=l.getD (k-7) 0) (hd:d=l.getD (k-2) 0):
  next l=(a+small b 7 18 3+c+small d 17 19 10)%4294967296:=by
 subst h ha H hc hd;rfl
def EL:Δ:=[1116352408,1899447441,3049323471,3921009573,961987163,1508970993,2453635748,2870763221,3624381080,310598401,607225278,1426881987,1925078388,2162078206,2614888103,3248222580,3835390401,4022224774,264347078,604807628,770255983,1249150122,1555081692,1996064986,2554220882,2821834349,2952996808,3210313671,3336571891,3584528711,113926993,338241895,666307205,773529912,1294757372,1396182291,1695183700,1986661051,2177026350,2456956037,2730485921,2820302411,3259730800,3345764771,3516065817,3600352804,4094571909,275423344,430227734,506948616,659060556,883997877,958139571,1322822218,1537002063,1747873779,1955562222,2024104815,2227730452,2361852424,2428436474,2756734187,3204031479,3329325298]
def e8 (i:Nat):Nat:=EL.getD i 0
theorem L9 (i:Nat):e8 i<4294967296:=by
 by_cases h:i<64;·exact (by decide+kernel:∀r:Fin 64,e8 r.val<4294967296) ⟨i,h⟩
 ·simp[e8,List.getD,List.getElem?_eq_none (show EL.length<=i by simp[EL];omega)]
structure V8 where
 a:Nat
 b:Nat
 c:Nat
 d:Nat
 e:Nat
 f:Nat
 g:Nat
 h:Nat
structure V8.ok (v:V8):Prop where
 a:v.a<4294967296
 b:v.b<4294967296
 c:v.c<4294967296
 d:v.d<4294967296
 e:v.e<4294967296
 f:v.f<4294967296
 g:v.g<4294967296
 h:v.h<4294967296
def V8.list (v:V8):Δ:=[v.a,v.b,v.c,v.d,v.e,v.f,v.g,v.h]
theorem V8.ok.list {v:V8} (h:v.ok):∀x∈v.list,x<4294967296:=by
 intro x H;simp only[V8.list,aM,List.not_mem_nil,or_false] at H;rcases H with rfl|rfl|rfl|rfl|rfl|rfl|rfl|rfl;·exact h.a
 ·exact h.b
 ·exact h.c
 ·exact h.d
 ·exact h.e
 ·exact h.f
 ·exact h.g
 ·exact h.h
def ch (e f g:Nat):Nat:=(e&&&f)+((4294967295-e)&&&g)
def Xa (a b c:Nat):Nat:=(a&&&b)|||(a&&&c)|||(b&&&c)
def one (k w:Nat) (v:V8):Nat:=v.h+rV v.e 6 11 25+ch v.e v.f v.g+k+w
def two (v:V8):Nat:=rV v.a 2 13 22+Xa v.a v.b v.c
def Z7 (k w:Nat) (v:V8):V8:=⟨(one k w v+two v)%4294967296,v.a,v.b,v.c,(v.d+one k w v)%4294967296,v.e,v.f,v.g⟩
theorem Xc (k w:Nat) {v:V8} (h:v.ok):(Z7 k w v).ok:=⟨fG _ ξ,h.a,h.b,h.c,fG _ ξ,h.e,h.f,h.g⟩
def rounds (K:Nat->Nat) (ws:Δ) (v:V8):Nat->V8
 |0=>v
 |n+1=>Z7 (K n) (ws.getD n 0) (rounds K ws v n)
theorem rounds_succ (K:Nat->Nat) (ws:Δ) (v:V8) (n:Nat):rounds K ws v (n+1)=Z7 (K n) (ws.getD n 0) (rounds K ws v n):=rfl
theorem EM (K:Nat->Nat) (ws:Δ) (v:V8):rounds K ws v 0=v:=rfl
def Tu (v r:V8):V8:=⟨(v.a+r.a)%4294967296,(v.b+r.b)%4294967296,(v.c+r.c)%4294967296,(v.d+r.d)%4294967296,(v.e+r.e)%4294967296,(v.f+r.f)%4294967296,(v.g+r.g)%4294967296,(v.h+r.h)%4294967296⟩
theorem Tv (v r:V8):(Tu v r).ok:=⟨fG _ ξ,fG _ ξ,fG _ ξ,fG _ ξ,fG _ ξ,fG _ ξ,fG _ ξ,fG _ ξ⟩
def mix (K:Nat->Nat) (ws:Δ) (v:V8):V8:=Tu v (rounds K ws v 64)
theorem Xd (K:Nat->Nat) (ws:Δ) (v:V8):mix K ws v=Tu v (rounds K ws v 64):=rfl
theorem EN (s:ByteArray):sched s=ext 48 (words 16 s):=rfl
theorem nQ {a b:Nat} (ha:a<4294967296):a&&&b<4294967296:=Nat.lt_of_le_of_lt Nat.and_le_left ha
theorem Xe (x y:Nat) (d:x<4294967296) (hy:y<4294967296) (h:x&&&y=0):x+y=x|||y:=by
 have H:(BitVec.ofNat 33 x).toNat=x:=by rw[BitVec.toNat_ofNat];exact gF κ
 have a:(BitVec.ofNat 33 y).toNat=y:=by rw[BitVec.toNat_ofNat];exact gF κ
 have c:BitVec.ofNat 33 x&&&BitVec.ofNat 33 y=0#33:=by apply BitVec.eq_of_toNat_eq;rw[BitVec.toNat_and,H,a,h];rfl
 have b:=congrArg BitVec.toNat (BitVec.add_eq_or_of_and_eq_zero _ _ c);rw[BitVec.toNat_add,BitVec.toNat_or,H,a,gF κ] at b;exact b
theorem Xf (e f g:Nat) (h:e<4294967296):(e&&&f)^^^((4294967295-e)&&&g)=ch e f g:=by
 have hd:(e&&&f)&&&((4294967295-e)&&&g)=0:=by apply C2;intro i;have H:=Nat.testBit_two_pow_sub_succ (n:=32) (x:=e) h i;rw[show 2^32-(e+1)=4294967295-e by omega] at H;simp only[Nat.testBit_and,H,Nat.zero_testBit];cases e.testBit i<;>simp
 have b:(e&&&f)<4294967296:=nQ h;have hy:((4294967295-e)&&&g)<4294967296:=nQ κ;have h4:(e&&&f)^^^((4294967295-e)&&&g)=(e&&&f)|||((4294967295-e)&&&g):=by
  apply C2;intro i;have a:((e&&&f)&&&((4294967295-e)&&&g)).testBit i=false:=by rw[hd];exact Nat.zero_testBit i
  rw[Nat.testBit_and] at a;rw[Nat.testBit_xor,Nat.testBit_or];revert a;cases (e&&&f).testBit i<;>cases ((4294967295-e)&&&g).testBit i<;>simp
 rw[h4,<-Xe _ _ b hy hd];rfl
theorem Tw (a b c:Nat):(a&&&b)^^^(a&&&c)^^^(b&&&c)=Xa a b c:=by apply C2;intro i;simp only[Xa,Nat.testBit_xor,Nat.testBit_or,Nat.testBit_and];cases a.testBit i<;>cases b.testBit i<;>cases c.testBit i<;>rfl
theorem Z8:IntKind.u32.max=((4294967295:Nat):Int):=ξ
theorem fN (x:Nat) (h:x<4294967296):bits BinOp.xor IntKind.u32 IntKind.u32.max (x:Int)=((4294967295-x:Nat):Int):=by
 rw[Z8,u32_xor_nat _ _ ξ h];congr 1;apply C2;intro i;have a:=Nat.testBit_two_pow_sub_succ (n:=32) (x:=x) h i;rw[show (4294967295-x:Nat)=2^32-(x+1) by omega,a,Nat.testBit_xor];have H:=Nat.testBit_two_pow_sub_one 32 i;rw[show (2:Nat)^32-1=4294967295 from rfl] at H;rw[H];by_cases hi:i<32;·simp[hi]
 ·have b:x.testBit i=false:=Nat.testBit_lt_two_pow (bL h (Nat.pow_le_pow_right (by decide:(2:Nat)>0) (by omega:32<=i)));simp[hi,b]
theorem Ty (e f g:Nat) (h:e<4294967296) (hf:f<4294967296) (hg:g<4294967296):
  bits BinOp.xor IntKind.u32 (bits BinOp.and IntKind.u32 (e:Int) (f:Int)) (bits BinOp.and IntKind.u32 (bits BinOp.xor IntKind.u32 IntKind.u32.max (e:Int)) (g:Int))=((ch e f g:Nat):Int):=by
 rw[fN e h,u32_and_nat _ _ h hf,u32_and_nat _ _ κ hg,u32_xor_nat _ _ (nQ h) (nQ κ),Xf e f g h]
theorem Pe (a b c:Nat) (ha:a<4294967296) (h:b<4294967296) (hc:c<4294967296):
  bits BinOp.xor IntKind.u32 (bits BinOp.xor IntKind.u32 (bits BinOp.and IntKind.u32 (a:Int) (b:Int)) (bits BinOp.and IntKind.u32 (a:Int) (c:Int))) (bits BinOp.and IntKind.u32 (b:Int) (c:Int))=((Xa a b c:Nat):Int):=by
 rw[u32_and_nat _ _ ha h,u32_and_nat _ _ ha hc,u32_and_nat _ _ h hc,u32_xor_nat _ _ (nQ ha) (nQ ha),u32_xor_nat _ _ (Ie (nQ ha) (nQ ha)) (nQ h),Tw]
theorem ach (a b:Nat):IntKind.u32.wrap ((a:Int)+b)=(((a+b)%4294967296:Nat):Int):=by simp only[IntKind.wrap_u32'];omega
theorem yx (a b:Nat):((a:Int)+b)%4294967296=(((a+b)%4294967296:Nat):Int):=κ
theorem L_ (k w:Nat) (v:V8):∃T U D A:Nat,T<4294967296/\U<4294967296/\D<4294967296/\A<4294967296/\
  (((v.h+rV v.e 6 11 25+ch v.e v.f v.g+k+w)%4294967296:Nat):Int)=(T:Int)/\(((rV v.a 2 13 22+Xa v.a v.b v.c)%4294967296:Nat):Int)=(U:Int)/\
  (((v.d+T)%4294967296:Nat):Int)=(D:Int)/\(((T+U)%4294967296:Nat):Int)=(A:Int)/\Z7 k w v=⟨A,v.a,v.b,v.c,D,v.e,v.f,v.g⟩:=by
 refine⟨one k w v%4294967296,two v%4294967296,(v.d+one k w v)%4294967296,(one k w v+two v)%4294967296,fG _ ξ,fG _ ξ,fG _ ξ,fG _ ξ,rfl,rfl, ?_, ?_,rfl⟩;·rw[Nat.add_mod_mod]
 ·rw[<-Nat.add_mod]
def C3 (x:Nat):List UInt8:=[az (x/16777216),az (x/65536),az (x/256),az x]
def jT (l:Δ):Nat->List UInt8
 |0=>[]
 |n+1=>jT l n++C3 (l.getD n 0)
theorem pQ (l:Δ) (n:Nat):(jT l n).length=4*n:=by
 induction n with
 |zero=>rfl
 |succ n i=>simp[jT,i,C3];omega
theorem b0 (x:Nat) (h:x<4294967296):(x:Int)/16777216=((az (x/16777216)).toNat:Int):=zbk
theorem b1 (x:Nat):(x:Int)/65536%256=((az (x/65536)).toNat:Int):=zbk
theorem b2 (x:Nat):(x:Int)/256%256=((az (x/256)).toNat:Int):=zbk
theorem b3 (x:Nat):(x:Int)%256=((az x).toNat:Int):=zbk
def zs (n:Nat):Nat:=(119-n%64)%64
theorem Z9 (n k:Nat) (h:k<zs n):(n+1+k)%64≠56:=by unfold zs at h;omega
theorem Pf (n:Nat):(n+1+zs n)%64=56:=by unfold zs;omega
theorem VX (n:Nat):zs n<=63:=by unfold zs;omega
def len8 (n:Nat):Nat->List UInt8
 |0=>[]
 |k+1=>len8 n k++[az (n/2^(56-8*k))]
theorem wY (n k:Nat):(len8 n k).length=k:=by
 induction k with
 |zero=>rfl
 |succ k i=>simp[len8,i]
def zeros (l:List UInt8) (k:Nat):List UInt8:=l++128::aV k 0
theorem nR (l:List UInt8) (k:Nat):(zeros l k).length=l.length+1+k:=by simp[zeros];omega
theorem Ig (l:List UInt8) (k:Nat):zeros l k++[0]=zeros l (k+1):=by simp[zeros,List.replicate_succ']
def pad (l:List UInt8) (bits:Nat):List UInt8:=zeros l (zs l.length)++len8 bits 8
theorem yy (l:List UInt8) (bits:Nat):(pad l bits).length=l.length+1+zs l.length+8:=by simp[pad,nR,wY]
theorem Tz (l:List UInt8) (bits:Nat):(pad l bits).length%64=0:=by rw[yy];have:=Pf l.length;omega
theorem aci (n p:Nat):(n:Int)/2^p%256=((az (n/2^p)).toNat:Int):=by
 rw[bR];have e:((n/2^p:Nat):Int)=(n:Int)/2^p:=ν
 rw[<-e];omega
def C4:Nat->List UInt8->Nat->Δ
 |0,_,_=>[]
 |n+1,m,i=>C4 n m i++[EJ m (16*i+n)]
def pR (m:List UInt8) (i:Nat):Δ:=ext 48 (C4 16 m i)
def H0:V8:=⟨1779033703,3144134277,1013904242,2773480762,1359893119,2600822924,528734635,1541459225⟩
def state (K:Nat->Nat) (h:V8) (m:List UInt8):Nat->V8
 |0=>h
 |i+1=>mix K (pR m i) (state K h m i)
theorem yz (K:Nat->Nat) (h:V8) (m:List UInt8) (i:Nat):state K h m (i+1)=mix K (pR m i) (state K h m i):=rfl
theorem Z_:H0.ok:=⟨ξ,ξ,ξ,ξ,ξ,ξ,ξ,ξ⟩
theorem Pg (K:Nat->Nat) (ws:Δ) (v:V8):(mix K ws v).ok:=Tv _ _
def message (l:List UInt8):List UInt8:=pad l (8*l.length)
def fO (K:Nat->Nat) (h:V8) (l:List UInt8):List UInt8:=jT (state K h (message l) ((message l).length/64)).list 8
def print (l:List UInt8):List UInt8:=fO e8 H0 l
theorem Ma (p:ByteArray) (m:List UInt8) (i n:Nat) (hn:n<=16) (h:∀j,j<64->p.data.toList.getD j 0=m.getD (64*i+j) 0):words n p=C4 n m i:=by
 induction n with
 |zero=>rfl
 |succ n I=>
  rw[words,C4,I κ];have e:mD p n=EJ m (16*i+n):=by unfold mD EJ;rw[h (4*n) κ,h (4*n+1) κ,h (4*n+2) κ,h (4*n+3) κ];rw[show 64*i+4*n=4*(16*i+n) by omega,show 64*i+(4*n+1)=4*(16*i+n)+1 by omega,show 64*i+(4*n+2)=4*(16*i+n)+2 by omega,show 64*i+(4*n+3)=4*(16*i+n)+3 by omega]
  rw[e]
theorem EO (p:ByteArray) (m:List UInt8) (i:Nat) (h:∀j,j<64->p.data.toList.getD j 0=m.getD (64*i+j) 0):sched p=pR m i:=by rw[EN,pR,Ma p m i 16 (af _) h]
theorem C5 (l:List UInt8):message l=l++(128::aV (zs l.length) 0++len8 (8*l.length) 8):=by simp[message,pad,zeros]
theorem EP (s:ByteArray) (a j:Nat) (h:j<64):(s.extract a (a+64)).data.toList.getD j 0=s.data.toList.getD (a+j) 0:=by
 have hl:s.data.toList.length=s.size:=aU;have e:(s.extract a (a+64)).data.toList=(s.data.toList.drop a).take 64:=by rw[ByteArray.data_extract,Array.toList_extract];simp[List.extract]
 rw[e];simp only[bC];rw[List.getElem?_take_of_lt h,List.getElem?_drop]
theorem ER (s:ByteArray) (i:Nat) (h:64*i+64<=s.size):sched (s.extract (64*i) (64*i+64))=pR (message s.data.toList) i:=by have hl:s.data.toList.length=s.size:=aU;refine EO _ _ i fun j H=> ?_;rw[EP s _ j H,C5];simp only[bC];rw[List.getElem?_append_left κ]
theorem TA (l:List UInt8) (n:Nat) (h:64*n<=l.length):zs (l.drop (64*n)).length=zs l.length:=by rw[aS];unfold zs;omega
theorem rW (l:List UInt8) (n:Nat) (h:64*n<=l.length):message l=l.take (64*n)++pad (l.drop (64*n)) (8*l.length):=by
 unfold message pad zeros;rw[TA l n h]
 conv=>lhs;rw[<-b_ (64*n) l]
 simp only[aD];rw[b_]
theorem Ph (s:ByteArray) (a:Nat):(s.extract a s.size).data.toList=s.data.toList.drop a:=by have hl:s.data.toList.length=s.size:=aU;rw[ByteArray.data_extract,Array.toList_extract];simp[List.extract];rw[bD (by rw[aS];omega)]
theorem yA (l:List UInt8) (n:Nat) (E:ByteArray) (h:64*n<=l.length) (H:E.data.toList=pad (l.drop (64*n)) (8*l.length)):(message l).length/64=n+E.size/64/\E.size%64=0:=by have hl:E.data.toList.length=E.size:=aU;have hp:=Tz (l.drop (64*n)) (8*l.length);rw[<-H,hl] at hp;rw[rW l n h,<-H,aq,hl,aJ];omega
theorem Xg (l:List UInt8) (b:Nat) (h:l.length<=63):(pad l b).length<=200:=by rw[yy];have:=VX l.length;omega
theorem Mc (l:List UInt8) (n i:Nat) (E:ByteArray) (h:64*n<=l.length) (H:E.data.toList=pad (l.drop (64*n)) (8*l.length)) (_:64*i+64<=E.size):
  sched (E.extract (64*i) (64*i+64))=pR (message l) (n+i):=by
 have hl:E.data.toList.length=E.size:=aU;refine EO _ _ (n+i) fun j b=> ?_;rw[EP E _ j b,rW l n h,<-H];simp only[bC];have c:(l.take (64*n)).length=64*n:=zaE
 rw[gO κ,c];congr 2;omega
attribute [irreducible] sched rounds mix
end Sha
namespace Hx
def bc (l:List UInt8):List Value:=l.map fun c=>Value.int eD (c.toNat:Int)
theorem Md (l:List UInt8):(bc l).length=l.length:=by simp[bc]
theorem BK (a b:List UInt8):bc (a++b)=bc a++bc b:=by simp[bc]
end Hx
end Go.Proofs.YtgfdijemhanfkaaGreatDoor
