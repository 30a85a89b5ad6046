/- Elder texts, cut down and merged (28). -/
import Derived.Test.YtgfdijemhanfkaaGreatDoorP25
import Derived.Test.YtgfdijemhanfkaaGreatDoorPTk
set_option linter.unusedSimpArgs false
set_option linter.unusedVariables false
set_option maxRecDepth 100000
set_option maxHeartbeats 8000000
namespace Go.Proofs.YtgfdijemhanfkaaGreatDoor
open _root_.Go.Proofs.Tryz
open Value renaming int→bf,string→cu,slice→cx,pointer→dr
open IntKind renaming i64→ct
open Ending renaming returned→c8
open Obj renaming cells→dg
open Option renaming none→aK,some→av
open World renaming drew->bu
open List renaming setIfInBounds_toArray->aC,set_cons_succ->aB,set_cons_zero->ay
open Nat renaming le_refl->af,zero_le->aA,zero_add->bG
section
open Go.RowKit Lib
section
variable {w:World} {p q sb tb:Nat} {m:NV}
theorem Eg {P:Nat->Value->Ψ} {PB:Nat->Value->Nat->Ψ} {Q:Nat->Nat->Option Addr->Nat->Value->Ψ} {at_ fr to rg ro NL cap:Nat} (h:Nd w q m) (hf:cJ m.its<=510) (hs:(cJ m.its:Int)<m.was)
  (c6:w.cell? ⟨p,6,aK⟩=av (bf ct at_)) (c1:w.cell? ⟨p,1,aK⟩=av (cx (av ⟨rg,ro,aK⟩) NL cap)) (hp:p<w.heap.size)
  (s:fr=at_-1) (t:to=min (at_+2) NL) (hN:NL<=400) (hat:at_<NL) (WC:∀V,Below w.heap.size w V->P fr (cx aK 0 0) V) (hS:Steps p q sb tb fr to rg ro NL cap P PB Q)
  {G:Ψ} {PF PG:Option Addr->Nat->Nat->Ψ} (hE:Ends p fr to rg ro NL cap P G PF PG) (Bn:NL<=cap):
  Calls prog 137 #[ptr sb,ptr p,ptr q] w fun e w'=>e=c8 (bf ct 0)/\G w':=by
 have T:=aa (fun V (n:Below w.heap.size w V)=>jL (h.still n));have U:=aa (fun V (n:Below w.heap.size w V)=>iV (h.still n));have Y:=aa (fun V (n:Below w.heap.size w V)=>(h.still n).c5);rw[decide_eq_true hf] at T;have A7:¬(cJ m.its:Int)≥m.was:=κ
 have c:=aa (Below.refl w.heap.size w);have HC:=aa (fun V (n:Below w.heap.size w V)=>And.intro ((n.cell (p:=⟨p,6,aK⟩) hp).trans c6) ((n.cell (p:=⟨p,1,aK⟩) hp).trans c1));have HP:=aa WC;have u:=aa hS;have I:=aa hE;have JG:(NL:Int)<=cap:=κ
 have v:fr<to/\to<=NL:=κ
 have M:=aa (And.intro s (And.intro t (And.intro hN (And.intro hat v))));unfold ptr at T U;have Zu:(NL:Int)<=400:=κ
 have Qj:(at_:Int)<NL:=κ
 have q1:IntKind.i64.wrap ((at_:Int)-1)=(at_:Int)-1:=zaA
 have q2:IntKind.i64.wrap ((at_:Int)+2)=(at_:Int)+2:=zaA
 have e1:max ((at_:Int)-1) 0=(fr:Int):=κ
 have e2:min ((at_:Int)+2) (NL:Int)=(to:Int):=κ
 clear h hf hs c6 c1 WC s t hN hat hS v hE Bn;go_enter func137,ntmps137;unfold ptr;go_wp2_with (refine wp_region_any η ?_;refine Hid.o ?_);refine aa ?_;try (change wpAny _ _ _ _ _ _ _ (bu _))
 refine tk 0 ?_;refine rd [1] (rn fun K d=> ?_);go_simp;refine (T.o _ ((Below.refl _ w).drew)).mono ?_;rintro e w1 ⟨rfl,A⟩;refine d _ _ ?_;clear d K;have c:=aa (((Below.refl w.heap.size w).drew).trans A);have f:=aa (Y.o w1 c.o);have c5:=f.o;clear A;refine tk 2 ?_;refine tk 3 ?_;refine tk 5 ?_;refine tk 6 ?_;refine tk 7 ?_;try simp only[Act.put,aC,aB,ay]
 refine rd [4,8] (AllReady.cons rfl (fun K d=> ?_) (rn fun K d=> ?_))
 focus
  go_simp
  refine (U.o _ c.o).mono ?_
  rintro e W ⟨rfl,k⟩
  have c:=aa (c.o.trans (k.mono c.o.size))
  have f:=aa (Y.o W c.o)
  have c5:=f.o
  clear k
  refine d _ _ ?_;clear d K
  refine rd [8] (rn fun K d=> ?_)
  go_simp
  refine d _ _ ?_;clear d K
 rotate_left
 focus
  go_simp
  refine d _ _ ?_;clear d K
  refine rd [4] (rn fun K d=> ?_)
  go_simp
  refine (U.o _ c.o).mono ?_
  rintro e W ⟨rfl,k⟩
  have c:=aa (c.o.trans (k.mono c.o.size))
  have f:=aa (Y.o W c.o)
  have c5:=f.o
  clear k
  refine d _ _ ?_;clear d K
 all_goals
  try simp only[Act.put,aC,aB,ay]
  refine tk 9 ?_
  refine tk 10 ?_
  refine wpAny_done η ?_ _
  clear c5
  have c6:=(HC.o _ c.o).1
  have c1:=(HC.o _ c.o).2
  go_wp2_with (refine wp_region_held_drew (S:=(fun X=>X.cell? ⟨p,6,aK⟩=av (bf ct at_)/\X.cell? ⟨p,1,aK⟩=av (cx (av ⟨rg,ro,aK⟩) NL cap))) η ?_ (fun hS=> ?_);focus skip;rotate_left;refine Hid.o ?_)
  refine aa ?_
  ·first|trivial|exact⟨c6,c1⟩
  refine aR 0 hS ?_
  refine aR 1 hS ?_
  refine aR 2 hS ?_
  refine aR 3 hS ?_
  refine aR 4 hS ?_
  refine aR 5 hS ?_
  refine aR 6 hS ?_
  refine aR 7 hS ?_
  refine aR 8 hS ?_
  refine aR 9 hS ?_
  refine aR 10 hS ?_
  refine aR 11 hS ?_
  refine aR 12 hS ?_
  refine aR 13 hS ?_
  refine aR 14 hS ?_
  refine aR 15 hS ?_
  refine aR 16 hS ?_
  refine aR 17 hS ?_
  refine aR 18 hS ?_
  refine wpAnyH_done η ?_ _
  try simp only[Act.put,aC,aB,ay]
  have c:=aa (c.o.drew)
  clear c6 c1
  go_wp2_with fail
  go_loopw [9,10,11,12,14] (fun lv Z _ _ _ wr=>∃a:Nat,fr<=a/\a<=to/\Z=bf ct a/\Hid (P a lv wr)) (fun _ Z _ _ _ _=>to-(RowKit.intOf Z).toNat)
  case atStart=>exact⟨fr,af _,by have:=M.o;omega,rfl,aa (HP.o _ c.o)⟩
  case round=>
   obtain⟨a,hfa,hat,rfl,hP⟩:=hrel;obtain⟨c0,c1⟩:=u.o.cells a _ _ hP.o;unfold ptr at c0;by_cases x:a<to
   ·have hI:(a:Int)<to:=κ;have haN:(a:Int)<NL:=(by have:=M.o;omega);go_wp2_with fail;refine (u.o.below a _ _ hP.o hfa x).mono ?_;rintro e w2 ⟨nq,rfl,hPB⟩;unfold ptr;obtain⟨d1,it,H,C⟩:=u.o.RC a _ _ _ hPB;have N:=H.key;have O:=H.val;have R:=H.node;clear c0 c1;have y:=aa C;clear C;go_wp2_with fail;refine y.o.mono ?_;rintro e w3 ⟨L,ra,rc,rfl,hL,z⟩;have zJ:(L:Int)<=1000:=κ;have HQ0:=aa z;clear z d1 N O R H;go_wp2_with fail
    go_loopw [9,12,14,73] (fun lv _ _ jv wq=>∃j:Nat,j<=L/\jv=bf ct j/\Hid (Q a L ra j lv wq)) (fun _ _ _ jv _=>L-(RowKit.intOf jv).toNat)
    case atStart=>exact⟨0,aA _,rfl,HQ0⟩
    case round=>
     obtain⟨j,hj,rfl,z⟩:=hrel;by_cases oQ:j<L
     ·have I5:(j:Int)<L:=κ;obtain⟨g,i,rfl,H,C⟩:=u.o.step a L _ j _ _ z.o oQ;have N:=H.key;have O:=H.val;have R:=H.node;have y:=aa C;clear C;rw[bG] at N O R;obtain⟨W1,r⟩:=ξx (wr.alloc (dg #[cu (bs i.key),cu (bs i.val),dr (pa i.node)] 175));obtain⟨ib,l⟩:=ξx wr.heap.size;have k0:W1.cell? ⟨ib,0,aK⟩=av (cu (bs i.key)):=zbo;have k1:W1.cell? ⟨ib,1,aK⟩=av (cu (bs i.val)):=zbo;have k2:W1.cell? ⟨ib,2,aK⟩=av (dr (pa i.node)):=zbo;have B:Below wr.heap.size wr W1:=(by rw[r];exact (Below.refl _ wr).alloc (af _) _);have WD:=aa B;clear B;generalize pa i.node=nd at*;generalize bs i.key=kb at*;generalize bs i.val=vb at*;go_wp2_with fail;rw[<-r,<-l];clear r l N O R H;go_wp2_with fail;refine (y.o _ WD.o).mono ?_;rintro e W ⟨nB,rfl,D⟩;have HQ':=aa D;clear D k0 k1 k2;go_wp2_with fail;go_roundw
      case rel=>exact⟨j+1,oQ,ς,HQ'⟩
      case measure=>simp[RowKit.intOf];omega
     ·obtain rfl:j=L:=by omega
      have I5:¬(j:Int)<j:=κ;have HD:=aa (u.o.done a j ra _ _ z.o);go_wp2_with fail;go_roundw
      case rel=>exact⟨a+1,κ,x,ς,HD⟩
      case measure=>simp[RowKit.intOf];omega
   ·obtain rfl:a=to:=by omega
    have hI:¬(a:Int)<a:=κ;have hI3:(a:Int)<=cap:=(by have:=M.o;omega);have hI4:(fr:Int)<=a:=κ;obtain⟨la,ln,lc,rfl,Nf,C⟩:=I.o.eq _ _ hP.o;have y:=aa C;have Ng:(ln:Int)<=1000:=κ;clear C;go_wp2_with fail;refine y.o.mono ?_;rintro e w5 ⟨b,rfl,A,aQ⟩;cases b with
    |true=>
     have E:=aa (A rfl);clear A aQ;go_wp2_with fail;go_ret;exact⟨rfl,E.o⟩
    |false=>
     have F:=aa (aQ rfl);clear A aQ c0 c1;by_cases h0:ln=0;·subst h0;have hz:¬((0:Nat):Int)>0:=ξ;obtain⟨c1,C⟩:=I.o.new _ _ _ _ (I.o.empty _ _ _ F.o);have MY:=aa C;clear C;go_wp2_with fail;refine MY.o.mono ?_;rintro e w6 ⟨va,vn,vc,rfl,⟨v1,k1⟩,⟨v7,k7⟩,f1,f7,J⟩;have E:=aa J;clear J;go_wp2_with fail;go_ret;exact⟨rfl,E.o⟩
     ·have hpos:0<ln:=κ;have hz:(ln:Int)>0:=κ;obtain⟨c1,g,kb,k0,rfl,r0,g0,fz,Yo⟩:=I.o.first _ _ _ _ F.o hpos;obtain⟨X1,NM⟩:=ξx (w5.setCell ⟨g,0,aK⟩ (cu kb));rw[<-NM] at Yo;have Lf:=aa NM;clear NM;have hI5:(fr:Int)<NL:=(by have:=M.o;omega);go_wp2_with fail;rw[<-Lf.o];obtain⟨c1,C⟩:=I.o.new _ _ _ _ Yo;have MY:=aa C;clear C Yo r0 g0 fz;go_wp2_with fail;refine MY.o.mono ?_;rintro e w6 ⟨va,vn,vc,rfl,⟨v1,k1⟩,⟨v7,k7⟩,f1,f7,J⟩;have E:=aa J;clear J;go_wp2_with fail;go_ret;exact⟨rfl,E.o⟩
end
end
end Go.Proofs.YtgfdijemhanfkaaGreatDoor
