/- Elder texts, cut down and merged (19). -/
import Derived.Test.YtgfdijemhanfkaaGreatDoorP2
import Derived.Test.YtgfdijemhanfkaaGreatDoorP1
import Derived.Test.YtgfdijemhanfkaaGreatDoorP18
import Derived.Lib.Hide
import Derived.Deep.QuietTactic
import Derived.BigQuiet
import Derived.Deep.RegionHeld3
import Derived.Outline
import Derived.Laws.BitsAllLaws
import Derived.Test.YtgfdijemhanfkaaGreatDoorChecked
import Derived.WalkKit
import Derived.WalkSpells
import Derived.WalkLawsBesides
import Derived.Deep.AppendLies
import Derived.Deep.RegionLaw
import Derived.BigRegion
import Derived.Deep.DeepFit
import Derived.Test.YtgfdijemhanfkaaGreatDoorPTk
set_option maxRecDepth 100000
set_option maxHeartbeats 8000000
namespace Go.Proofs.YtgfdijemhanfkaaGreatDoor
open _root_.Go.Proofs.Tryz
open Value renaming int→bf,string→cu,agg→eU
open IntKind renaming i64→ct,u64→eZ
open Ending renaming returned→c8
open Option renaming some→av,none→aK
open Obj renaming cells→dg
open Nat renaming zero_le->aA,le_refl->af,le_trans->aN,lt_of_lt_of_le->bL
open World renaming drew->bu
open _root_.Array renaming length_toList->aU
open List renaming nil_append->cM,append_nil->bh,length_append->aq,append_assoc->aD
open UInt8 renaming ofNat->az
section
open Go.RowKit
theorem uJ (x:Nat) (I:Int) (i:Nat) (H:I=-(i:Int)) (a:x<4294967296) (hi:1<=i) (h:i<=31) (w:World):
  Calls prog 120 #[bf .u32 x,bf ct I] w fun e w'=>e=c8 (bf .u32 (Sha.rJ x i:Nat))/\w=w':=by
 subst H;obtain⟨n,hn⟩:=ξx (32-i);have b:1<=n:=κ
 have c:n<=31:=κ
 have d:=Sha.count i n hi h hn;have f:=Sha.O_ x i n a hi h hn;clear hn;go_enter func120,ntmps120;go_wp2;go_ret;exact⟨rfl,rfl⟩
theorem Q7 (x:Nat) (I:Int) (h:x<4294967296) (hi:I<=-1) (H:-31<=I) (w:World):
  Calls prog 120 #[bf .u32 x,bf ct I] w fun e w'=>e=c8 (bf .u32 (Sha.rJ x (-I).toNat:Nat))/\w'=w:=
 (uJ x I (-I).toNat κ h κ κ w).mono fun _ _ ⟨a,b⟩=>⟨a,b.symm⟩
theorem JB (x:Nat) (I J K:Int) (i j k:Nat) (c:I=i) (d:J=j) (f:K=k) (h:x<4294967296) (hi:1<=i) (H:i<=31) (g:1<=j) (a:j<=31) (l:1<=k) (b:k<=31) (w:World):
  Calls prog 76 #[bf .u32 x,bf ct I,bf ct J,bf ct K] w fun e w'=>e=c8 (bf .u32 (Sha.rV x i j k:Nat))/\w=w':=by
 subst c d f
 have m:=aa (show ((Sha.rV x i j k:Nat):Int)=bits BinOp.xor IntKind.u32 (bits BinOp.xor IntKind.u32 (Sha.rJ x i:Nat) (Sha.rJ x j:Nat)) (Sha.rJ x k:Nat) by
  have r1:=Sha.tI x i h κ;have r2:=Sha.tI x j h κ;have r:=Sha.tI x k h κ;rw[u32_xor_nat _ _ r1 r2,u32_xor_nat _ _ (Sha.Ie r1 r2) r];rfl)
 go_enter func76,ntmps76;go_wp2_with fail;refine (uJ x _ i rfl h hi H _).mono ?_;rintro e w' ⟨rfl,rfl⟩;go_wp2_with fail;refine (uJ x _ j rfl h g a _).mono ?_;rintro e w' ⟨rfl,rfl⟩;go_wp2_with fail;refine (uJ x _ k rfl h l b _).mono ?_;rintro e w' ⟨rfl,rfl⟩;go_wp2;go_ret;exact⟨KB m.o.symm,rfl⟩
theorem zM (x:Nat) (I J K:Int) (h:x<4294967296) (hi:1<=I/\I<=31/\1<=J/\J<=31/\1<=K/\K<=31) (w:World):
  Calls prog 76 #[bf .u32 x,bf ct I,bf ct J,bf ct K] w fun e w'=>e=c8 (bf .u32 (Sha.rV x I.toNat J.toNat K.toNat:Nat))/\w'=w:=
 (JB x I J K I.toNat J.toNat K.toNat κ κ κ h κ κ κ κ κ κ w).mono fun _ _ ⟨H,a⟩=>⟨H,a.symm⟩
theorem F3 (x:Nat) (I J K:Int) (i j k:Nat) (H:I=i) (a:J=j) (b:K=k) (h:x<4294967296) (hi:1<=i) (c:i<=31) (l:1<=j) (d:j<=31) (m:1<=k) (f:k<=31) (w:World):
  Calls prog 119 #[bf .u32 x,bf ct I,bf ct J,bf ct K] w fun e w'=>e=c8 (bf .u32 (Sha.small x i j k:Nat))/\∃n,w'=w.drewN n:=by
 subst H a b
 have g:=aa (show ((Sha.small x i j k:Nat):Int)=bits BinOp.xor IntKind.u32 (bits BinOp.xor IntKind.u32 (Sha.rJ x i:Nat) (Sha.rJ x j:Nat)) ((x:Int)/2^k) by
  have r1:=Sha.tI x i h κ;have r2:=Sha.tI x j h κ;have r:=Sha.O9 x k h;have e:((x:Int)/2^k)=((x/2^k:Nat):Int):=ν
  rw[e,u32_xor_nat _ _ r1 r2,u32_xor_nat _ _ (Sha.Ie r1 r2) r];rfl)
 go_enter func119,ntmps119;go_wp2_with fail
 go_quiet ((go_at_call 120;exact Calls.quiet_of_same (Q7 x _ h κ κ _)))
 go_wp2;go_ret;exact⟨KB g.o.symm,nq,rfl⟩
theorem F5 (x:Nat) (I J K:Int) (h:x<4294967296) (hi:1<=I/\I<=31/\1<=J/\J<=31/\1<=K/\K<=31) (w:World):
  Calls prog 119 #[bf .u32 x,bf ct I,bf ct J,bf ct K] w fun e w'=>e=c8 (bf .u32 (Sha.small x I.toNat J.toNat K.toNat:Nat))/\∃n,w'=w.drewN n:=
 F3 x I J K I.toNat J.toNat K.toNat κ κ κ h κ κ κ κ κ κ w
theorem sW (s:ByteArray):(ji (Sha.sched s)).toArray.size=64:=by rw[List.size_toArray,xy,Sha.tK]
theorem Lr:(prog.info? 148).map (·.size)=av 64:=η
theorem JC (s:ByteArray):(prog.info? 148).map (·.size)=av (ji (Sha.sched s)).toArray.size:=by rw[sW,Lr]
theorem Ns (s:ByteArray) (n:Nat) (l:Δ) (h:l.length+n=64):(ji (Sha.fill l n)).length=(ji (Sha.sched s)).toArray.size:=by rw[xy,Sha.l6,sW,h]
theorem DN (s:ByteArray) (w:World) (hs:s.size=64):
  Calls prog 75 #[.string s] w fun e w'=>e=c8 (.agg (ji (Sha.sched s)).toArray)/\Below w.heap.size w w':=by
 have hs':=aa hs;have hsz:(64:Int)<=s.size:=κ
 clear hs;go_enter func75,ntmps75;go_wp2
 go_loopw [4,5] (fun i q wr=>∃k:Nat,k<=16/\i=.int ct k/\iW wr (w.heap.size+1) 148 (ji (Sha.fill (Sha.words k s) (64-k)))/\iW wr w.heap.size 148 (ji (Sha.fill [] 64))/\Below w.heap.size w wr) (fun i _ _=>16-(RowKit.intOf i).toNat)
 case atStart=>exact⟨0,aA _,rfl,by
   have h:=iW.new (w.alloc (dg (ji (Sha.fill [] 64)).toArray 148)) 148 (ji (Sha.fill [] 64)).toArray;have e:(w.alloc (dg (ji (Sha.fill [] 64)).toArray 148)).heap.size=w.heap.size+1:=ν;rw[e] at h;exact h,(iW.new w 148 (ji (Sha.fill [] 64)).toArray).alloc _,((Below.refl _ _).alloc (af _) _).alloc ν _⟩
 case round=>
  obtain⟨k,u,rfl,X,H,B⟩:=hrel;by_cases C:k<16
  ·have i0:4*k<s.size:=κ;have i1:4*k+1<s.size:=κ;have i2:4*k+2<s.size:=κ;have i3:4*k+3<s.size:=κ;have hcell:=X.cell (j:=k) (uI _ k (by rw[Sha.l6,Sha.kJ];omega));have y:=X.free k;have j0:(0:Int)<=4*k:=κ;have j0':4*(k:Int)<s.size:=κ;have j1:(0:Int)<=4*k+1:=κ;have j1':4*(k:Int)+1<s.size:=κ;have j2:(0:Int)<=4*k+2:=κ;have j2':4*(k:Int)+2<s.size:=κ;have j3:(0:Int)<=4*k+3:=κ;have j3':4*(k:Int)+3<s.size:=κ;have e0:=fun p=>congrArg UInt8.toNat (Sha.xX s (4*k) (4*k) κ p);have e1:=fun p=>congrArg UInt8.toNat (Sha.xX s (4*k+1) (4*k+1) κ p);have e2:=fun p=>congrArg UInt8.toNat (Sha.xX s (4*k+2) (4*k+2) κ p);have e3:=fun p=>congrArg UInt8.toNat (Sha.xX s (4*k+3) (4*k+3) κ p);obtain⟨v0,I⟩:∃v,v=(s.data.toList.getD (4*k) 0).toNat:=⟨_,rfl⟩;obtain⟨v1,L⟩:∃v,v=(s.data.toList.getD (4*k+1) 0).toNat:=⟨_,rfl⟩;obtain⟨v2,M⟩:∃v,v=(s.data.toList.getD (4*k+2) 0).toNat:=⟨_,rfl⟩;obtain⟨V,T⟩:∃v,v=(s.data.toList.getD (4*k+3) 0).toNat:=⟨_,rfl⟩;have hw:=aa (show Sha.mD s k=v0*16777216+v1*65536+v2*256+V by rw[I,L,M,T];rfl);have u0:(v0:Int)<=255:=(by have:=(s.data.toList.getD (4*k) 0).toNat_lt;omega);have u1:(v1:Int)<=255:=(by have:=(s.data.toList.getD (4*k+1) 0).toNat_lt;omega);have u2:(v2:Int)<=255:=(by have:=(s.data.toList.getD (4*k+2) 0).toNat_lt;omega);have u3:(V:Int)<=255:=(by have:=(s.data.toList.getD (4*k+3) 0).toNat_lt;omega);rw[<-I] at e0;rw[<-L] at e1;rw[<-M] at e2;rw[<-T] at e3;clear I L M T i0 i1 i2 i3;have N:(k:Int)<64:=κ;have hf:=Sha.four v0 v1 v2 V κ κ κ κ;rw[<-hw.o] at hf;have m0:=Sha.gN (v0:Int) κ κ;have m1:=Sha.gN (v1:Int) κ κ;have m2:=Sha.gN (v2:Int) κ κ;have m3:=Sha.gN (V:Int) κ κ;have n0:=Sha.gN ((v0:Int)*16777216) κ κ;have n1:=Sha.gN ((v1:Int)*65536) κ κ;have n2:=Sha.gN ((v2:Int)*256) κ κ;have w1:IntKind.i64.wrap (4*(k:Int)+1)=4*k+1:=IntWalk.i64_in _ κ;have w2:IntKind.i64.wrap (4*(k:Int)+2)=4*k+2:=IntWalk.i64_in _ κ;have w3:IntKind.i64.wrap (4*(k:Int)+3)=4*k+3:=IntWalk.i64_in _ κ;go_wp2;refine wp_region_any η ?_;try (change wpAny _ _ _ _ _ _ _ (bu _))
   refine tk 0 ?_;refine tk 1 ?_;refine tk 2 ?_;refine tk 3 ?_;refine tk 4 ?_;refine tk 5 ?_;refine tk 6 ?_;refine tk 7 ?_;refine tk 8 ?_;refine tk 9 ?_;refine tk 10 ?_;refine tk 11 ?_;refine tk 12 ?_;refine tk 13 ?_;refine tk 14 ?_;refine tk 15 ?_;refine tk 16 ?_;refine tk 17 ?_;refine tk 18 ?_;refine tk 19 ?_;refine tk 20 ?_;refine tk 21 ?_;refine tk 22 ?_;refine tk 23 ?_;refine tk 24 ?_;refine tk 25 ?_;refine tk 26 ?_;refine rd [27] (rn fun K hK=> ?_);go_simp;refine hK _ _ ?_;clear hK K;refine wpAny_done η ?_ _;clear w1 w2 w3 m0 m1 m2 m3 n0 n1 n2;have J:=X.set k (.int .u32 (Sha.mD s k:Nat));rw[F0] at J;have f:=Sha.tJ (Sha.words k s) (63-k) (Sha.mD s k);rw[Sha.kJ,show 63-k+1=64-k by omega] at f;rw[f] at J;have O:=aa J;have R:=aa (H.FY ⟨w.heap.size+1,k,aK⟩ (.int .u32 (Sha.mD s k:Nat)) ν);clear J f hf;go_wp2;go_roundw
   case rel=>exact⟨k+1,κ,ς,by rw[show 64-(k+1)=63-k by omega];exact O.o.drew,R.o.drew,(B.setCell ν _).drew⟩
   case measure=>simp[RowKit.intOf];omega
  ·have S:=aa (show k=16 by omega);rw[S.o] at X;clear u;obtain⟨w0,rfl⟩:∃w0:World,w0=wr:=⟨_,rfl⟩;go_wp2
   go_loopw [6] (fun i wr=>∃n:Nat,n<=48/\i=.int ct ((n+16:Nat):Int)/\iW wr (w.heap.size+1) 148 (ji (Sha.fill (Sha.ext n (Sha.words 16 s)) (48-n)))/\iW wr w.heap.size 148 (ji (Sha.fill [] 64))/\Below w.heap.size w wr) (fun i _=>64-(RowKit.intOf i).toNat)
   case atStart=>exact⟨0,aA _,rfl,X,H,B⟩
   case round=>
    obtain⟨n,hn,rfl,X,H,B⟩:=hrel;obtain⟨k,u⟩:=ξx (n+16);rw[<-u];by_cases C:n<48
    ·obtain⟨l,hl⟩:=ξx (Sha.ext n (Sha.words 16 s));have r:l.length=k:=(by rw[hl,Sha.yw,Sha.kJ,u];omega);have Q:∀x∈l,x<4294967296:=(by rw[hl];exact Sha.Pb _ _ (Sha.EK _ _));rw[<-hl] at X;have cellAt:∀j,j<k->wr.cell? ⟨w.heap.size+1,j,aK⟩=av (.int .u32 ((l.getD j 0:Nat):Int)):=fun j hj=>by rw[X.cell (uI _ j (by rw[Sha.l6];omega)),Sha.Pc _ _ _ κ]
     obtain⟨P,D⟩:∃p,p=k-16:=⟨_,rfl⟩;obtain⟨g,E⟩:∃p,p=k-15:=⟨_,rfl⟩;obtain⟨z,q7⟩:∃p,p=k-7:=⟨_,rfl⟩;obtain⟨A,q2⟩:∃p,p=k-2:=⟨_,rfl⟩;have U:=cellAt P κ;have W:=cellAt g κ;have c7:=cellAt z κ;have c2:=cellAt A κ;have ck:=X.cell (j:=k) (uI _ k (by rw[Sha.l6];omega));have y:=X.free k;obtain⟨a,ha⟩:=ξx (l.getD P 0);obtain⟨b,G⟩:∃a,a=l.getD g 0:=⟨_,rfl⟩;obtain⟨c,hc⟩:∃a,a=l.getD z 0:=⟨_,rfl⟩;obtain⟨d,hd⟩:∃a,a=l.getD A 0:=⟨_,rfl⟩;have aeo:a<4294967296:=(by rw[ha];exact Sha.jS l Q _);have aep:b<4294967296:=(by rw[G];exact Sha.jS l Q _);have aer:c<4294967296:=(by rw[hc];exact Sha.jS l Q _);have aes:d<4294967296:=(by rw[hd];exact Sha.jS l Q _);rw[<-ha] at U;rw[<-G] at W;rw[<-hc] at c7;rw[<-hd] at c2;have t:=Sha.Tt l k a b c d r (by rw[ha,D]) (by rw[G,E]) (by rw[hc,q7]) (by rw[hd,q2]);have J:=X.set k (.int .u32 (Sha.next l:Nat));rw[F0] at J;have f:=Sha.tJ l (47-n) (Sha.next l);rw[r,show 47-n+1=48-n by omega] at f;rw[f] at J;have O:=aa J;have R:=aa (H.FY ⟨w.heap.size+1,k,aK⟩ (.int .u32 (Sha.next l:Nat)) ν);have HL:=aa hl;have HK:=aa u;have F:=Sha.acg a (Sha.small b 7 18 3) c (Sha.small d 17 19 10);rw[<-t] at F;have N:(k:Int)<64:=κ;have l16:(P:Int)<64:=κ;have l15:(g:Int)<64:=κ;have l7:(z:Int)<64:=κ;have l2:(A:Int)<64:=κ;have s16:IntKind.i64.wrap ((k:Int)-16)=P:=zaG;have s15:IntKind.i64.wrap ((k:Int)-15)=g:=zaG;have s7:IntKind.i64.wrap ((k:Int)-7)=z:=zaG;have s2:IntKind.i64.wrap ((k:Int)-2)=A:=zaG;have Y:¬P=k:=κ;have Z:¬g=k:=κ;have d7:¬z=k:=κ;have d2:¬A=k:=κ;have f16:¬k=P:=κ;have f15:¬k=g:=κ;have f7:¬k=z:=κ;have f2:¬k=A:=κ;clear J f t hl u r Q cellAt D E q7 q2 ha G hc hd;have CK:=ck;go_wp2
     go_region_held3 (fun w'=>w'.cell? ⟨w.heap.size+1,P,aK⟩=av (.int .u32 a)/\w'.cell? ⟨w.heap.size+1,g,aK⟩=av (.int .u32 b)/\w'.cell? ⟨w.heap.size+1,z,aK⟩=av (.int .u32 c)/\w'.cell? ⟨w.heap.size+1,A,aK⟩=av (.int .u32 d))
      (first
       |go_keep
       |(refine⟨kN ?_ Y,kN ?_ Z,kN ?_ d7,kN ?_ d2⟩<;>simp[*]))
      ((go_at_call 119;refine (F5 _ _ _ _ (by assumption) ξ _).mono ?_;rintro e w' ⟨rfl,m,rfl⟩))
     all_goals
      go_wp2
      go_roundw
      case rel=>
       have HH:n+1<=48/\Value.int ct ((k:Int)+1)=.int ct ((n+1+16:Nat):Int)/\iW (wr.setCell ⟨w.heap.size+1,k,aK⟩ (.int .u32 (Sha.next l:Nat))) (w.heap.size+1) 148 (ji (Sha.fill (Sha.ext (n+1) (Sha.words 16 s)) (48-(n+1)))):=
        ⟨κ,by rw[HK.o];go_num,by rw[show 48-(n+1)=47-n by omega,Sha.Pa,<-HL.o];exact O.o⟩
       first
        |exact⟨n+1,HH.1,HH.2.1,HH.2.2,R.o,(below_drewN B _).setCell ν _⟩
      case measure=>simp[RowKit.intOf];omega
    ·obtain rfl:n=48:=by omega
     obtain rfl:k=64:=κ
     clear C hn;have UE:iW wr (w.heap.size+1) 148 (ji (Sha.sched s)):=(by have h:=X;rw[show (48:Nat)-48=0 from rfl,Sha.L8,<-Sha.EN] at h;exact h);have HI:=aa (JC s);go_wp2_with (first|(refine wpList_load_row rfl _ _ rfl (w.heap.size+1) rfl _ _ _ _ UE underlying148 rfl HI.o ?_)|(refine jN rfl _ _ _ rfl w.heap.size _ _ _ rfl rfl H (Ns s 64 [] rfl) HI.o (FZ _) ?_;intro w1 Q9 iB hs1));refine bodyPost_ret (v:=.agg (ji (Sha.sched s)).toArray) (results_cell_row rfl _ _ w.heap.size _ _ _ _ rfl Q9 underlying148 rfl HI.o) rfl ⟨rfl,B.grown iB B.size (fun k u=>by cases u;exact af _)⟩
def Bq (v:Sha.V8):Array Value:=#[bf .u32 v.a,bf .u32 v.b,bf .u32 v.c,bf .u32 v.d,bf .u32 v.e,bf .u32 v.f,bf .u32 v.g,bf .u32 v.h]
theorem DP (s:ByteArray) (w:World) (hs:s.size=64):
  Calls prog 75 #[cu s] w fun e w'=>∃L:List Value,e=c8 (eU L.toArray)/\Hid (L=ji (Sha.sched s))/\Below w.heap.size w w':=
 (DN s w hs).mono fun _ _ ⟨h,H⟩=>⟨_,h,rfl,H⟩
theorem JD:(prog.info? 103).map (·.size)=av 8:=η
theorem Nt (a b c d e f g h:Nat) (v:Sha.V8) (s:ByteArray) (H:v=Sha.rounds Sha.e8 (Sha.sched s) ⟨a,b,c,d,e,f,g,h⟩ 64):
  [Value.int .u32 (((a:Int)+v.a)%4294967296),bf .u32 (((b:Int)+v.b)%4294967296),bf .u32 (((c:Int)+v.c)%4294967296),bf .u32 (((d:Int)+v.d)%4294967296),
   bf .u32 (((e:Int)+v.e)%4294967296),bf .u32 (((f:Int)+v.f)%4294967296),bf .u32 (((g:Int)+v.g)%4294967296),bf .u32 (((h:Int)+v.h)%4294967296)]=
   (Bq (Sha.mix Sha.e8 (Sha.sched s) ⟨a,b,c,d,e,f,g,h⟩)).toList:=by
 rw[Sha.Xd,<-H]
 simp[Bq,Sha.Tu]
theorem Nu (v:Sha.V8) (w:World):∀n:Nat,n<8->(Instr.index 103 (eU (Bq v)) (bf ct (n:Int))).run prog w=.ok (bf .u32 ((v.list.getD n 0:Nat):Int)) w:=by
 intro n hn
 match n,hn with
 |0,_=>rfl
 |1,_=>rfl
 |2,_=>rfl
 |3,_=>rfl
 |4,_=>rfl
 |5,_=>rfl
 |6,_=>rfl
 |7,_=>rfl
theorem Nv (v:Sha.V8) (z:v.ok) (w:World):
  Calls prog 39 #[eU (Bq v)] w fun e w'=>e=c8 (cu ⟨(Sha.jT v.list 8).toArray⟩)/\Below w.heap.size w w':=by
 obtain⟨a,b,c,d,e,f,g,h⟩:=v;have C:=aa z;clear z;show Calls prog 39 #[eU #[bf .u32 a,bf .u32 b,bf .u32 c,bf .u32 d,bf .u32 e,bf .u32 f,bf .u32 g,bf .u32 h]] w _;go_enter func39,ntmps39;have l:=iW.new w 103 (Bq ⟨a,b,c,d,e,f,g,h⟩);go_wp2_with (at_make;refine BM rfl _ _ rfl (w.heap.size+1) _ _ 32 rfl rfl (by rfl) κ (Below.refl _ _) ν ?_;intro v0 w0 D H;have u:=l.below H κ;have c0:=u.cell (j:=0) rfl;have c1:=u.cell (j:=1) rfl;have c2:=u.cell (j:=2) rfl;have c3:=u.cell (j:=3) rfl;have c4:=u.cell (j:=4) rfl;have c5:=u.cell (j:=5) rfl;have c6:=u.cell (j:=6) rfl;have c7:=u.cell (j:=7) rfl);have m:Below w.heap.size w w0:=((Below.refl _ _).alloc (af _) _).trans (H.mono κ);have r:w.heap.size+1<=w0.heap.size:=by have:=H.size;simp at this;omega
 clear c0 c1 c2 c3 c4 c5 c6 c7 l u H
 go_loopw [3,5,8] (fun o x i wr=>∃k:Nat,k<=8/\i=bf ct k/\mU (w.heap.size+1) wr o (Sha.jT (Sha.V8.list ⟨a,b,c,d,e,f,g,h⟩) k)/\Below w.heap.size w wr/\w.heap.size+1<=wr.heap.size) (fun _ _ i _=>8-(RowKit.intOf i).toNat)
 case atStart=>exact⟨0,aA _,rfl,D,m,r⟩
 case round=>
  obtain⟨k,G,rfl,hown,B,r⟩:=hrel;by_cases t:k<8;·obtain⟨x,s⟩:=ξx ((Sha.V8.list ⟨a,b,c,d,e,f,g,h⟩).getD k 0);have A:x<4294967296:=(by rw[s];exact Sha.jS _ C.o.list _);have p:=fun w'=>Nu ⟨a,b,c,d,e,f,g,h⟩ w' k t;rw[<-s] at p;simp only[Bq] at p;have hl:(Sha.jT (Sha.V8.list ⟨a,b,c,d,e,f,g,h⟩) k).length<=100:=(by rw[Sha.pQ];omega);have E:=aa (show Sha.jT (Sha.V8.list ⟨a,b,c,d,e,f,g,h⟩) (k+1)=Sha.jT (Sha.V8.list ⟨a,b,c,d,e,f,g,h⟩) k++Sha.C3 x by rw[s];rfl);clear s;go_wp2_with (at_builtin;refine l8 rfl _ _ rfl (w.heap.size+1) wr _ _ rfl (hown.alloc _) ((Below.refl _ _).alloc r _) zay ⟨wr.heap.size,0,aK⟩ 4 4 (Sha.C3 x) rfl rfl (Mf _ _ _ _ _ _ _ _ _ _ (Sha.b0 x A) (Sha.b1 x) (Sha.b2 x) (Sha.b3 x)) κ ?_;intro v' w1 n q);refine⟨⟨k+1,κ,ς,by rw[E.o];exact n,B.trans (q.mono κ),aN r q.size⟩,by simp[RowKit.intOf];omega⟩
  ·have y:=aa (show k=8 by omega);have F:=KC hown;go_wp2;go_ret;exact⟨C7 (by rw[y.o]),B⟩
theorem JE (r:ByteArray) (z:Nat) (hr:r.size<=63) (M:z<=1000000000) (w:World):
  Calls prog 38 #[cu r,bf eZ z] w fun e w'=>e=c8 (cu ⟨(Sha.pad r.data.toList (8*z)).toArray⟩)/\Below w.heap.size w w':=by
 have c:r.data.toList.length=r.size:=aU;have lG:r.data.toList.length<=63:=by rw[c];exact hr
 have N:=aa c;clear c;go_enter func38,ntmps38;go_wp2_with (first|(at_make;refine BM rfl _ _ rfl w.heap.size w _ 128 rfl rfl (by rfl) κ (Below.refl _ _) (af _) ?_;intro v0 w0 G d)|(at_builtin;refine Bb rfl _ _ rfl w.heap.size w _ _ rfl G d d.size r rfl zay ?_;intro v1 w1 kI y;rw[cM] at kI)|(at_builtin;refine l8 rfl _ _ rfl w.heap.size w _ _ rfl (kI.alloc _) (y.alloc y.size _) (by have:=y.size;simp;omega) ⟨w1.heap.size,0,aK⟩ 1 1 [128] rfl rfl (yE _ _ _ _ rfl) κ ?_;intro v2 W Z B));have hn:r.data.toList.length+1+Sha.zs r.data.toList.length<=200:=by have:=Sha.VX r.data.toList.length;omega
 have HN:=aa hn;clear G d kI y
 go_loopw [5] (fun v wr=>∃k:Nat,k<=Sha.zs r.data.toList.length/\mU w.heap.size wr v (Sha.zeros r.data.toList k)/\Below w.heap.size w wr) (fun v _=>300-lenOf v)
 case atStart=>exact⟨0,aA _,Z,B⟩
 case round=>
  obtain⟨k,O,hown,H⟩:=hrel;have f:=Sha.nR r.data.toList k;obtain⟨g,cap,rfl⟩:=hown.form κ;obtain⟨n,l⟩:=ξx ((Sha.zeros r.data.toList k).length);rw[<-l] at hown |-;have A:n<=200:=κ
  have q:n=r.data.toList.length+1+k:=κ
  have C:=aa q;have D:=aa l;clear hn q l f;by_cases a:k<Sha.zs r.data.toList.length;·have s:((n:Int)%64 !=56)=true:=(by have t:=Sha.Z9 _ _ a;rw[<-C.o] at t;rw[bne_iff_ne];omega);have f:(Sha.zeros r.data.toList k).length<=200:=(by rw[<-D.o];exact A);go_wp2_with (at_builtin;refine l8 rfl _ _ rfl w.heap.size w _ _ rfl (hown.alloc _) (H.alloc H.size _) (by have:=H.size;simp;omega) ⟨wr.heap.size,0,aK⟩ 1 1 [0] rfl rfl (yE _ _ _ _ rfl) κ ?_;intro v2 W Z B);rw[Sha.Ig] at Z;refine⟨⟨k+1,κ,Z,B⟩, ?_⟩;have t:=Z.len;rw[Sha.nR] at t;show 300-lenOf v2<300-n;have:=C.o;omega
  ·have I:=aa (show k=Sha.zs r.data.toList.length by omega);have s:((n:Int)%64 !=56)=false:=(by have t:=Sha.Pf r.data.toList.length;rw[<-I.o,<-C.o] at t;rw[bne_eq_false_iff_eq];omega);clear a O;go_wp2_with fail;obtain⟨b,T⟩:∃b:Nat,b=8*z:=⟨_,rfl⟩;have u:(z:Int)*8=(b:Int):=κ;rw[u];have P:(b:Int)<18446744073709551616:=κ;have Zv:b<=8000000000:=κ;have Q:=aa T;clear T u M s;obtain⟨w3,rfl⟩:∃w3:World,w3=wr:=⟨_,rfl⟩;have f:(Sha.zeros r.data.toList k).length<=200:=by rw[<-D.o];exact A
   go_loopw [5,7] (fun v i wr=>∃j:Nat,j<=8/\i=bf ct (56-8*(j:Int))/\mU w.heap.size wr v (Sha.zeros r.data.toList k++Sha.len8 b j)/\Below w.heap.size w wr) (fun _ i _=>(RowKit.intOf i+8).toNat)
   case atStart=>exact⟨0,aA _,rfl,by rw[show Sha.len8 b 0=[] from rfl,bh];have h:=hown;rw[D.o] at h;first|exact hown|exact h,H⟩
   case round=>
    obtain⟨j,R,rfl,hown,H⟩:=hrel;by_cases a:j<8;·obtain⟨p,hp⟩:∃p:Nat,p=56-8*j:=⟨_,rfl⟩;have m:(56-8*(j:Int))=(p:Int):=κ;rw[m];have Q_:p<=56:=κ;have S:j<=7:=κ;have U:=aa (show Sha.len8 b (j+1)=Sha.len8 b j++[az (b/2^p)] by rw[hp];rfl);have J:(Sha.zeros r.data.toList k++Sha.len8 b j).length<=300:=(by rw[aq,Sha.wY];omega);have K:=aa hp;have V:=aa m;clear hp m;have L:=Sha.aci b p;have X:=aa L;clear L;go_wp2_with (at_builtin;refine l8 rfl _ _ rfl w.heap.size w _ _ rfl (hown.alloc _) (H.alloc H.size _) (by have:=H.size;simp;omega) ⟨wr.heap.size,0,aK⟩ 1 1 [az (b/2^p)] rfl rfl (yE _ _ _ _ X.o) κ ?_;intro v4 w4 Y E);refine⟨⟨j+1,κ,by have:=K.o;go_num,by rw[U.o,<-aD];exact Y,E⟩,by have:=K.o;simp[RowKit.intOf];omega⟩
    ·have F:=aa (show j=8 by omega);have hst:=KC hown;have x:(56-8*(j:Int))=-8:=κ;rw[x];clear x a R;go_wp2;go_ret;exact⟨C7 (by rw[F.o,Q.o,I.o];rfl),H⟩
theorem Ls (v:Sha.V8):(Bq v).all (·.oneCell')=true:=by simp[Bq,Value.oneCell']
theorem Lt (v u:Sha.V8):(Bq v).toList.length=(Bq u).size:=rfl
theorem F7 (v:Sha.V8):(prog.info? 103).map (·.size)=av (Bq v).size:=JD
theorem JF (r:ByteArray) (z:Nat) (hr:r.size<=63) (h:z<=1000000000) (w:World):
  Calls prog 38 #[cu r,bf eZ z] w fun e w'=>∃E:ByteArray,e=c8 (cu E)/\Hid (E.data.toList=Sha.pad r.data.toList (8*z))/\E.size<=200/\Below w.heap.size w w':=
 (JE r z hr h w).mono fun _ _ ⟨H,a⟩=>⟨_,H,rfl,by
  have hl:r.data.toList.length=r.size:=aU;have:=Sha.Xg r.data.toList (8*z) κ;show (Sha.pad r.data.toList (8*z)).length<=200;exact this,a⟩
theorem F8 (a b c d e f g h:Nat) (G:(Sha.V8.mk a b c d e f g h).ok) (s:ByteArray) (w:World) (I:jC w) (hs:s.size=64):
  Calls prog 37 #[.agg #[.int .u32 a,.int .u32 b,.int .u32 c,.int .u32 d,.int .u32 e,.int .u32 f,.int .u32 g,.int .u32 h],.string s] w fun en w'=>
   en=c8 (.agg (Bq (Sha.mix Sha.e8 (Sha.sched s) ⟨a,b,c,d,e,f,g,h⟩)))/\Below w.heap.size w w':=by
 have HT:=aa I
 have HV:=aa G
 have HS:=aa hs
 clear I G hs
 go_enter func37,ntmps37
 go_wp2_with fail
 refine (DP s _ HS.o).mono ?_
 rintro e w1 ⟨L,rfl,S,J⟩
 have m:=aa (show L.toArray.size=64 by rw[S.o];exact sW s)
 go_wp2_with (refine jN rfl _ _ _ rfl w1.heap.size _ _ _ rfl rfl (iW.new _ _ _) (by rw[m.o];rfl) (by rw[m.o];exact Lr) (by rw[S.o];exact FZ _) ?_;intro W Q9 O K)
 have ES:w.heap.size+2<=w1.heap.size:=by have:=J.size;simp at this;omega
 have H:iW W w.heap.size 103 (Bq ⟨a,b,c,d,e,f,g,h⟩).toList:=
  ((((iW.new w 103 (Bq ⟨a,b,c,d,e,f,g,h⟩)).alloc _).below J zay).alloc _).grown O (fun hh=>by have:=Option.some.inj hh;omega)
 have l:iW W (w.heap.size+1) 103 (ji [0,0,0,0,0,0,0,0]):=by have hn:=iW.new (w.alloc (dg (Bq ⟨a,b,c,d,e,f,g,h⟩) 103)) 103 (ji [0,0,0,0,0,0,0,0]).toArray;rw[show (w.alloc (dg (Bq ⟨a,b,c,d,e,f,g,h⟩) 103)).heap.size=w.heap.size+1 by simp] at hn;exact ((hn.below J ν).alloc _).grown O (fun hh=>by have:=Option.some.inj hh;omega)
 have aQ:Below w.heap.size w W:=((((Below.refl _ _).alloc (af _) _).alloc ν _).trans (J.mono zay)).trans (((Below.refl _ _).alloc κ _).grown O zay (by intro k B;cases B;omega))
 have OP:w1.heap.size<W.heap.size:=by rw[K];simp
 clear m O K J
 have c0:=H.cell (j:=0) rfl
 have c1:=H.cell (j:=1) rfl
 have c2:=H.cell (j:=2) rfl
 have c3:=H.cell (j:=3) rfl
 have c4:=H.cell (j:=4) rfl
 have c5:=H.cell (j:=5) rfl
 have c6:=H.cell (j:=6) rfl
 have c7:=H.cell (j:=7) rfl
 go_quiet (fail)
 go_wp2
 go_quiet (fail)
 go_wp2
 clear c0 c1 c2 c3 c4 c5 c6 c7
 go_loopw [6,7,8,9,10,11,12,13,14,15,16,17,18] (fun sa sb sc sd se sf sg sh i _ _ _ _ wr=>∃(n:Nat) (v:Sha.V8),n<=64/\i=.int ct n/\Hid (v=Sha.rounds Sha.e8 (Sha.sched s) ⟨a,b,c,d,e,f,g,h⟩ n)/\v.ok/\
   sa=.int .u32 v.a/\sb=.int .u32 v.b/\sc=.int .u32 v.c/\sd=.int .u32 v.d/\se=.int .u32 v.e/\sf=.int .u32 v.f/\sg=.int .u32 v.g/\sh=.int .u32 v.h/\
   iW wr w1.heap.size 148 L/\iW wr w.heap.size 103 (Bq ⟨a,b,c,d,e,f,g,h⟩).toList/\iW wr (w.heap.size+1) 103 (ji [0,0,0,0,0,0,0,0])/\Below w.heap.size w wr)
  (fun _ _ _ _ _ _ _ _ i _ _ _ _ _=>64-(RowKit.intOf i).toNat)
 case atStart=>exact⟨0,⟨a,b,c,d,e,f,g,h⟩,aA _,rfl,(Sha.EM _ _ _).symm,HV.o,rfl,rfl,rfl,rfl,rfl,rfl,rfl,rfl,Q9,H,l,below_drewN (below_drewN aQ _) _⟩
 case round=>
  obtain⟨n,v,hn,rfl,G,ok,rfl,rfl,rfl,rfl,rfl,rfl,rfl,rfl,M,H,l,P⟩:=hrel;have I:=HT.o.below P (af _);by_cases N:n<64
  ·obtain⟨x,Q⟩:=ξx ((Sha.sched s).getD n 0);obtain⟨k,B⟩:=ξx (Sha.e8 n);have aaI:x<4294967296:=(by rw[Q];exact Sha.jS _ (Sha.Pd s) _);have aeu:k<4294967296:=(by rw[B];exact Sha.L9 n);have cw:wr.cell? ⟨w1.heap.size,n,aK⟩=av (.int .u32 x):=M.cell (by rw[S.o,Q];exact uI _ n (by rw[Sha.tK];exact N));have ck:=I.aaa n N;rw[<-B] at ck;have HN:=aa (show Sha.rounds Sha.e8 (Sha.sched s) ⟨a,b,c,d,e,f,g,h⟩ (n+1)=Sha.Z7 k x v by rw[Sha.rounds_succ,<-G.o,<-B,<-Q]);obtain⟨T,U,D,A,aev,aew,aex,aey,eT,R,V,X,hr⟩:=Sha.L_ k x v;have HR:=aa hr;have DL:=aa (Sha.Xc k x ok);clear hr Q B I;obtain⟨p,q,r,t,u,y,z,o⟩:=v;obtain⟨op,oq,or,ot,Y,oy,oz,oo⟩:=ok;simp only at op oq or ot Y oy oz oo eT R V X |-;have b1:=Sha.Ty u y z Y oy oz;have b2:=Sha.Pe p q r op oq or;have a2:=Sha.ach (Sha.rV p 2 13 22) (Sha.Xa p q r);rw[R] at a2;have Z:=Sha.yx (Sha.rV p 2 13 22) (Sha.Xa p q r);rw[R] at Z;have C:=Sha.yx t T;rw[V] at C;have F:=Sha.yx T U;rw[X] at F;have Zw:=aa (show ((o:Int)+(Sha.rV u 6 11 25:Nat)+(Sha.ch u y z:Nat)+k+x)%4294967296=T by omega);have H3:=aa C;have H4:=aa F;clear eT R V X C F;have n64:(n:Int)<64:=κ;go_wp2_with fail
   go_quiet ((go_at_call 76;exact Calls.quiet_of_same (zM _ _ _ _ Y ξ _)))
   go_wp2_with (go_at_call 76;refine (zM _ _ _ _ op ξ _).mono ?_;rintro en w' ⟨rfl,rfl⟩);refine⟨⟨n+1,⟨A,p,q,r,D,u,y,z⟩,κ,ς,(HN.o.trans HR.o).symm,by rw[<-HR.o];exact DL.o, ?_,rfl,rfl,rfl, ?_,rfl,rfl,rfl,M,H,l,below_drewN P _⟩,by simp[RowKit.intOf];omega⟩;·show Value.int _ _=.int _ (A:Int);rw[Zw.o,H4.o]
   ·show Value.int _ _=.int _ (D:Int);rw[Zw.o,H3.o]
  ·obtain rfl:n=64:=by omega
   have c0:=H.cell (j:=0) rfl;have c1:=H.cell (j:=1) rfl;have c2:=H.cell (j:=2) rfl;have c3:=H.cell (j:=3) rfl;have c4:=H.cell (j:=4) rfl;have c5:=H.cell (j:=5) rfl;have c6:=H.cell (j:=6) rfl;have c7:=H.cell (j:=7) rfl;have E:=aa (Nt a b c d e f g h v s G.o);go_wp2_with (refine jN rfl _ _ _ rfl (w.heap.size+1) _ _ _ rfl rfl l rfl JD (by simp[Value.oneCell']) ?_;intro w4 Wo iE hs4);rw[E.o] at Wo;refine bodyPost_ret (v:=.agg (Bq (Sha.mix Sha.e8 (Sha.sched s) ⟨a,b,c,d,e,f,g,h⟩))) (results_cell_row rfl _ _ (w.heap.size+1) _ _ _ _ rfl Wo underlying103 rfl JD) rfl ⟨rfl,P.grown iE P.size (fun k B=>by have:=Option.some.inj B;omega)⟩
theorem zO (s:ByteArray) (w:World) (hT:jC w) (hs:s.size<=1000000000):
  Calls prog 18 #[cu s] w fun e w'=>e=c8 (cu ⟨(Sha.print s.data.toList).toArray⟩)/\Below w.heap.size w w':=by
 have HT:=aa hT;clear hT;have zb:s.data.toList.length=s.size:=aU;have F:=aa zb;clear zb;go_enter func18,ntmps18;go_wp2;obtain⟨m,hm⟩:=ξx (s.size/64);have y:(s.size:Int)-(s.size:Int)%64=((64*m:Nat):Int):=κ
 obtain⟨W,Q⟩:=ξx (64*m);rw[<-Q] at y;rw[y];have HM:=aa hm;have C:=aa Q;have aez:W<=s.size:=κ
 clear hm Q y
 go_loopw [5] (fun i wr=>∃(k p:Nat) (v:Sha.V8),k<=m/\Hid (p=64*k)/\i=bf ct p/\Hid (v=Sha.state Sha.e8 Sha.H0 (Sha.message s.data.toList) k)/\v.ok/\iW wr w.heap.size 103 (Bq v).toList/\Below w.heap.size w wr/\w.heap.size<wr.heap.size) (fun i _=>s.size-(RowKit.intOf i).toNat)
 case atStart=>exact⟨0,0,Sha.H0,aA _,rfl,rfl,rfl,Sha.Z_,iW.new w 103 (Bq Sha.H0),(Below.refl _ _).alloc (af _) _,ν⟩
 case round=>
  obtain⟨k,p,v,G,hp,rfl,D,ok,H,x,r⟩:=hrel;by_cases U:k<m
  ·have ef:p<W:=(by have:=hp.o;have:=C.o;omega);obtain⟨P,n⟩:=ξx (p+64);have V:P<=s.size:=(by have:=hp.o;have:=C.o;omega);have Zx:p<=P:=κ;have t:(s.extract p P).size=64:=(by rw[ByteArray.size_extract];omega);have R:Sha.sched (s.extract p P)=Sha.pR (Sha.message s.data.toList) k:=(by rw[n,hp.o];exact Sha.ER s k (by have:=HM.o;omega));have X:=aa (show Sha.mix Sha.e8 (Sha.sched (s.extract p P)) v=Sha.state Sha.e8 Sha.H0 (Sha.message s.data.toList) (k+1) by rw[Sha.yz,<-D.o,R]);have T:=aa n;have Y:=aa t;have z:IntKind.i64.wrap ((p:Int)+64)=(P:Int):=zaG;have i0:(0:Int)<=p:=κ;have i1:(p:Int)<=P:=κ;have i2:(P:Int)<=s.size:=κ;clear R n t;obtain⟨a,b,c,d,e,f,g,h⟩:=v;have c0:=H.cell (j:=0) rfl;have c1:=H.cell (j:=1) rfl;have c2:=H.cell (j:=2) rfl;have c3:=H.cell (j:=3) rfl;have c4:=H.cell (j:=4) rfl;have c5:=H.cell (j:=5) rfl;have c6:=H.cell (j:=6) rfl;have c7:=H.cell (j:=7) rfl;go_wp2;refine wp_region_any η ?_;try (change wpAny _ _ _ _ _ _ _ (bu _))
   refine tk 1 ?_;refine tk 2 ?_;refine tk 3 ?_;refine tk 4 ?_;refine tk 5 ?_;refine rd [0] (rn fun K l=> ?_);go_simp;refine l _ _ ?_;clear l K;refine rd [6] (rn fun K l=> ?_);go_simp;refine (F8 a b c d e f g h ok (s.extract p P) _ (HT.o.below x.drew (af _)) Y.o).mono ?_;rintro en w1 ⟨rfl,A⟩;refine l _ _ ?_;clear l K;have S:=H.drew.below A r;have Z:=aa (Sha.Pg Sha.e8 (Sha.sched (s.extract p P)) ⟨a,b,c,d,e,f,g,h⟩);clear c0 c1 c2 c3 c4 c5 c6 c7;refine rd [7] (rn fun K l=> ?_);refine qm rfl _ _ _ rfl w.heap.size _ _ _ rfl rfl S (Lt _ _) (F7 _) (Ls _) ?_;intro w2 uL gm kH;refine l _ _ ?_;clear l K;refine wpAny_done η ?_ _;clear z;go_wp2;go_roundw
   case rel=>exact⟨k+1,P,_,κ,(by have h1:=T.o;have h2:=hp.o;show P=64*(k+1);omega),by have:=T.o;go_num,X.o,Z.o,uL,x.drew.trans ((A.mono (Nat.le_of_lt r)).trans ((Below.refl _ _).grown gm (by have:=A.size;simp at this;omega) (fun k G=>by have:=Option.some.inj G;omega))),by rw[kH];exact bL r A.size⟩
   case measure=>have:=T.o;simp[RowKit.intOf];omega
  ·have I:=aa (show k=m by omega);have hpw:=aa (show p=W by have:=hp.o;have:=C.o;have:=I.o;omega);have J:¬p<W:=(by have:=hpw.o;omega);have hwl:(W:Int)<=s.size:=κ;have hrs:(s.extract W s.size).size<=63:=(by rw[ByteArray.size_extract];have:=HM.o;have:=C.o;omega);have adZ:(s.size:Int)<18446744073709551616:=κ;obtain⟨w0,rfl⟩:∃w0:World,w0=wr:=⟨_,rfl⟩;go_wp2_with fail;refine (JF (s.extract W s.size) s.size hrs hs _).mono ?_;rintro en w1 ⟨E,rfl,hE,aeA,A⟩;have B:E.data.toList=Sha.pad (s.data.toList.drop (64*m)) (8*s.data.toList.length):=(by rw[hE.o,Sha.Ph,C.o,F.o]);have L:64*m<=s.data.toList.length:=(by rw[F.o];have:=C.o;omega);have pz:=Sha.yA s.data.toList m E L B;obtain⟨q,hq⟩:=ξx (E.size/64);have HQ:=aa hq;have Jw:=aa pz;have XY:=aa (fun (i:Nat) (hi:64*i+64<=E.size)=>Sha.Mc s.data.toList m i E L B hi);have S:=H.below A r;have M:=x.trans (A.mono (Nat.le_of_lt r));have N:=bL r A.size;have EB:=aa (show v=Sha.state Sha.e8 Sha.H0 (Sha.message s.data.toList) (m+0) by rw[D.o,I.o];rfl);have O:E.size=64*q:=(by have:=pz.2;omega);have u:=aa O;clear hE B pz hq A H x r D J hwl O;go_wp2_with fail
   go_loopw [7] (fun i wr=>∃(k p:Nat) (v:Sha.V8),k<=q/\Hid (p=64*k)/\i=bf ct p/\Hid (v=Sha.state Sha.e8 Sha.H0 (Sha.message s.data.toList) (m+k))/\v.ok/\iW wr w.heap.size 103 (Bq v).toList/\Below w.heap.size w wr/\w.heap.size<wr.heap.size) (fun i _=>E.size-(RowKit.intOf i).toNat)
   case atStart=>exact⟨0,0,v,aA _,rfl,rfl,EB,ok,S,M,N⟩
   clear S M N EB ok
   case round=>
    obtain⟨k,p,v,G,hp,rfl,D,ok,H,x,r⟩:=hrel;by_cases U:k<q
    ·have ef:p<E.size:=(by have:=hp.o;have:=u.o;omega);obtain⟨P,n⟩:=ξx (p+64);have V:P<=E.size:=(by have:=hp.o;have:=u.o;omega);have Zx:p<=P:=κ;have t:(E.extract p P).size=64:=(by rw[ByteArray.size_extract];omega);have R:Sha.sched (E.extract p P)=Sha.pR (Sha.message s.data.toList) (m+k):=(by rw[n,hp.o];exact XY.o k (by have:=u.o;omega));have X:=aa (show Sha.mix Sha.e8 (Sha.sched (E.extract p P)) v=Sha.state Sha.e8 Sha.H0 (Sha.message s.data.toList) (m+(k+1)) by rw[<-Nat.add_assoc,Sha.yz,<-D.o,R]);have T:=aa n;have Y:=aa t;have z:IntKind.i64.wrap ((p:Int)+64)=(P:Int):=zaG;have i0:(0:Int)<=p:=κ;have i1:(p:Int)<=P:=κ;have i2:(P:Int)<=E.size:=κ;clear R n t;obtain⟨a,b,c,d,e,f,g,h⟩:=v;have c0:=H.cell (j:=0) rfl;have c1:=H.cell (j:=1) rfl;have c2:=H.cell (j:=2) rfl;have c3:=H.cell (j:=3) rfl;have c4:=H.cell (j:=4) rfl;have c5:=H.cell (j:=5) rfl;have c6:=H.cell (j:=6) rfl;have c7:=H.cell (j:=7) rfl;go_wp2;refine wp_region_any η ?_;try (change wpAny _ _ _ _ _ _ _ (bu _))
     refine tk 1 ?_;refine tk 2 ?_;refine tk 3 ?_;refine tk 4 ?_;refine tk 5 ?_;refine rd [0] (rn fun K l=> ?_);go_simp;refine l _ _ ?_;clear l K;refine rd [6] (rn fun K l=> ?_);go_simp;refine (F8 a b c d e f g h ok (E.extract p P) _ (HT.o.below x.drew (af _)) Y.o).mono ?_;rintro en w1 ⟨rfl,A⟩;refine l _ _ ?_;clear l K;have S:=H.drew.below A r;have Z:=aa (Sha.Pg Sha.e8 (Sha.sched (E.extract p P)) ⟨a,b,c,d,e,f,g,h⟩);clear c0 c1 c2 c3 c4 c5 c6 c7;refine rd [7] (rn fun K l=> ?_);refine qm rfl _ _ _ rfl w.heap.size _ _ _ rfl rfl S (Lt _ _) (F7 _) (Ls _) ?_;intro w2 uL gm kH;refine l _ _ ?_;clear l K;refine wpAny_done η ?_ _;clear z;go_wp2;go_roundw
     case rel=>exact⟨k+1,P,_,κ,(by have h1:=T.o;have h2:=hp.o;show P=64*(k+1);omega),by have:=T.o;go_num,X.o,Z.o,uL,x.drew.trans ((A.mono (Nat.le_of_lt r)).trans ((Below.refl _ _).grown gm (by have:=A.size;simp at this;omega) (fun k G=>by have:=Option.some.inj G;omega))),by rw[kH];exact bL r A.size⟩
     case measure=>have:=T.o;simp[RowKit.intOf];omega
    ·have Zy:=aa (show k=q by omega);have J:¬p<E.size:=by have:=hp.o;have:=u.o;have:=Zy.o;omega
     have HF:=aa (show Sha.jT v.list 8=Sha.print s.data.toList by
      rw[D.o,Zy.o,HQ.o,<-Jw.o.1];rfl)
     obtain⟨a,b,c,d,e,f,g,h⟩:=v;have c0:=H.cell (j:=0) rfl;have c1:=H.cell (j:=1) rfl;have c2:=H.cell (j:=2) rfl;have c3:=H.cell (j:=3) rfl;have c4:=H.cell (j:=4) rfl;have c5:=H.cell (j:=5) rfl;have c6:=H.cell (j:=6) rfl;have c7:=H.cell (j:=7) rfl;obtain⟨w5,rfl⟩:∃w5:World,w5=wr:=⟨_,rfl⟩;go_wp2_with fail;refine (Nv ⟨a,b,c,d,e,f,g,h⟩ ok _).mono ?_;rintro en w6 ⟨rfl,Jn⟩;go_wp2;go_ret;exact⟨C7 (by rw[HF.o]),x.trans (Jn.mono (Nat.le_of_lt r))⟩
end
end Go.Proofs.YtgfdijemhanfkaaGreatDoor
