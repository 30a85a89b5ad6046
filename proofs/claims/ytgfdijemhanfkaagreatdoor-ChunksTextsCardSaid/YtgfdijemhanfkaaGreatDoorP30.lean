/- Elder texts, cut down and merged (30). -/
import Derived.Test.YtgfdijemhanfkaaGreatDoorP25
import Derived.Test.YtgfdijemhanfkaaGreatDoorP21
import Derived.Test.YtgfdijemhanfkaaGreatDoorPTk
set_option linter.unusedSimpArgs false
set_option linter.unusedVariables false
set_option maxRecDepth 100000
set_option maxHeartbeats 8000000
namespace Go.Proofs.YtgfdijemhanfkaaGreatDoor
open _root_.Go.Proofs.Tryz
open Value renaming int→bf,string→cu,slice→cx,bool→ey,pointer→dr,tuple→ec
open IntKind renaming i64→ct
open Ending renaming returned→c8
open Option renaming none→aK,some→av
open Obj renaming cells→dg
open Nat renaming zero_le->aA,le_refl->af
open World renaming size_alloc->aY,block_lt_of_cell?->bA,drew->bu
open List renaming setIfInBounds_toArray->aC,set_cons_succ->aB,set_cons_zero->ay
section
open Go.RowKit Lib
structure Wrs (sb p tb rb L rg ro cap:Nat) (P:Nat->Ψ) (Z:Nat->Ψ) (G:Int->Ψ):Prop where
 cells:∀j X,P j X->X.cell? ⟨p,1,aK⟩=av (cx (av ⟨rg,ro,aK⟩) L cap)
 item:∀j X,P j X->j<L->∃i:It,Ad X rg ro j i/\(i.node=aK->∀V,Below X.heap.size X V->P (j+1) V)/\
  ∀q,i.node=av q->∀V ib,Below X.heap.size X V->X.heap.size<=ib->ib<V.heap.size->Calls prog 196 #[ptr sb,ptr q] V fun e X'=>
   (∃page:Nat,e=c8 (bf ct 0)/\(∀o v,V.cell? ⟨ib,o,aK⟩=av v->X'.cell? ⟨ib,o,aK⟩=av v)/\X'.cell? ⟨p,1,aK⟩=av (cx (av ⟨rg,ro,aK⟩) L cap)/\X'.cell? ⟨q,2,aK⟩=av (bf ct page)/\page<65536/\(∃v,X'.cell? ⟨rg,ro+j*3+1,aK⟩=av v)/\(∀W,Below X'.heap.size X' W->W.frozen? ⟨rg,ro+j*3+1,aK⟩=false)/\
    ∀W,Below X'.heap.size X' W->P (j+1) (W.setCell ⟨rg,ro+j*3+1,aK⟩ (cu (bs (pv page)))))\/
   (∃c:Int,e=c8 (bf ct c)/\c≠0/\G c X')
 fresh:∀X,P L X->∃f,X.cell? ⟨p,7,aK⟩=av (ey f)/\(f=false->G 0 X)/\
  (f=true->∃pg:Int,X.cell? ⟨p,2,aK⟩=av (bf ct pg)/\((pg=-1/\Calls prog 244 #[ptr sb] X fun e X'=>(∃page:Nat,e=c8 (ec #[bf ct page,bf ct 0])/\(∃v,X'.cell? ⟨p,2,aK⟩=av v)/\X'.frozen? ⟨p,2,aK⟩=false/\Z page (X'.setCell ⟨p,2,aK⟩ (bf ct page)))\/(∃v c:Int,e=c8 (ec #[bf ct v,bf ct c])/\c≠0/\G c X'))\/∃page:Nat,pg=page/\Z page X))
 write:∀page X,Z page X->X.cell? ⟨sb,0,aK⟩=av (dr (av ⟨tb,0,aK⟩))/\X.cell? ⟨tb,0,aK⟩=av (dr (av ⟨rb,0,aK⟩))/\X.cell? ⟨p,2,aK⟩=av (bf ct page)/\∃txt:ByteArray,
  (∀V,Below X.heap.size X V->Calls prog 245 #[ptr p] V fun e V'=>e=c8 (cu txt)/\Below V.heap.size V V')/\∀V,Below X.heap.size X V->Calls prog 127 #[ptr rb,bf ct page,cu txt] V fun e X'=>∃c:Int,e=c8 (bf ct c)/\G c X'/\X'.cell? ⟨sb,0,aK⟩=av (dr (av ⟨tb,0,aK⟩))/\X'.cell? ⟨tb,0,aK⟩=av (dr (av ⟨rb,0,aK⟩))/\X'.cell? ⟨p,2,aK⟩=av (bf ct page)
section
variable {w:World} {p sb tb rb:Nat}
theorem Ar {L rg ro cap:Nat} {P Z:Nat->Ψ} {G:Int->Ψ} (hW:Wrs sb p tb rb L rg ro cap P Z G) (hP:P 0 w) (hL:L<=400) (Bn:L<=cap):
  Calls prog 196 #[ptr sb,ptr p] w fun e w'=>∃c:Int,e=c8 (bf ct c)/\G c w':=by
 have V:=aa hW;have HP:=aa hP;have c1:=hW.cells 0 _ hP;have zJ:(L:Int)<=400:=κ
 have JG:(L:Int)<=cap:=κ
 clear hW hP hL Bn;unfold ptr at V |-;go_enter func196,ntmps196;go_wp2_with fail
 go_loopw [5,6,7,15] (fun _ _ _ kv wr=>∃j:Nat,j<=L/\kv=bf ct j/\Hid (P j wr)) (fun _ _ _ kv _=>L-(RowKit.intOf kv).toNat)
 case atStart=>exact⟨0,aA _,rfl,HP⟩
 case round=>
  clear c1;obtain⟨j,hj,rfl,Y⟩:=hrel;by_cases A:j<L
  ·have hI:(j:Int)<L:=κ;obtain⟨i,B,g,k⟩:=V.o.item j _ Y.o A;have a0:=B.key;have a1:=B.val;have Q:=B.node;have Jv:=aa g;have HSO:=aa k;clear g k;obtain⟨W1,l⟩:=ξx (wr.alloc (dg #[cu (bs i.key),cu (bs i.val),dr (pa i.node)] 175));obtain⟨ib,m⟩:=ξx wr.heap.size;have C:W1.cell? ⟨ib,2,aK⟩=av (dr (pa i.node)):=(by rw[l,m];exact (aW.new wr _ _).cell rfl);have hbW:Below wr.heap.size wr W1:=(by rw[l];exact (Below.refl _ wr).alloc (af _) _);have WD:=aa (show Below wr.heap.size wr W1/\wr.heap.size<=ib/\ib<W1.heap.size from⟨hbW,κ,by rw[l,m];simp[aY]⟩);clear hbW;cases hn:i.node with
   |none=>rw[hn] at Q C l;have HD:=aa (Jv.o hn _ WD.o.1);generalize bs i.key=kb at*;generalize bs i.val=vb at*;rw[show pa aK=aK from rfl] at Q C l;go_wp2_with fail;exact⟨⟨j+1,A,ς,by rw[<-l];exact HD⟩,by simp[RowKit.intOf];omega⟩
   |some q=>
    rw[hn] at Q C l;have FN:=aa (HSO.o q hn W1 ib WD.o.1 WD.o.2.1 WD.o.2.2);generalize bs i.key=kb at*;generalize bs i.val=vb at*;rw[show pa (av q)=av ⟨q,0,aK⟩ from rfl] at Q C l;go_wp2_with fail;rw[<-l,<-m];refine FN.o.mono ?_;rintro e w3 (⟨page,rfl,kx,D,dq,oK,⟨v1,b⟩,F,hPN⟩|⟨c,rfl,hc,n⟩)
    ·have C:=kx 2 _ C;have N:=aa hPN;have H:=aa (And.intro oK (And.intro (bA _ _ D) (And.intro (bA _ _ b) F)));clear kx hPN F a0 a1 Q l m;go_wp2_with fail;go_wp2_with (refine wp_region_any η ?_;refine Hid.o ?_);refine aa ?_;try (change wpAny _ _ _ _ _ _ _ (bu _))
     refine tk 0 ?_;refine tk 1 ?_;refine tk 2 ?_;refine tk 4 ?_;refine tk 5 ?_;try simp only[Act.put,aC,aB,ay]
     refine rd [3,6] (AllReady.cons rfl (fun K h=> ?_) (rn fun K h=> ?_))
     focus
      go_simp
      refine h _ _ ?_;clear h K
      refine rd [6] (rn fun K h=> ?_)
      go_simp
      refine h _ _ ?_;clear h K
      refine rd [7] (rn fun K h=> ?_)
      go_simp
      refine h _ _ ?_;clear h K
      refine rd [8] (rn fun K h=> ?_)
      go_simp
      refine h _ _ ?_;clear h K
      refine rd [9] (rn fun K h=> ?_)
      go_simp
      refine h _ _ ?_;clear h K
      refine rd [10] (rn fun K h=> ?_)
      go_simp
      refine (gW _ page H.o.1).mono ?_
      rintro e W ⟨rfl,d⟩
      have d:Below w3.heap.size w3 W:=((Below.refl w3.heap.size w3).drew).trans d
      have D:=(d.cell H.o.2.1).trans D
      have b:=(d.cell H.o.2.2.1).trans b
      have F:=H.o.2.2.2 _ d
      have N:=aa (N.o _ d)
      clear d
      refine h _ _ ?_;clear h K
     rotate_left
     focus
      go_simp
      refine h _ _ ?_;clear h K
      refine rd [3,7] (AllReady.cons rfl (fun K h=> ?_) (rn fun K h=> ?_))
      focus
       go_simp
       refine h _ _ ?_;clear h K
       refine rd [7] (rn fun K h=> ?_)
       go_simp
       refine h _ _ ?_;clear h K
       refine rd [8] (rn fun K h=> ?_)
       go_simp
       refine h _ _ ?_;clear h K
       refine rd [9] (rn fun K h=> ?_)
       go_simp
       refine h _ _ ?_;clear h K
       refine rd [10] (rn fun K h=> ?_)
       go_simp
       refine (gW _ page H.o.1).mono ?_
       rintro e W ⟨rfl,d⟩
       have d:Below w3.heap.size w3 W:=((Below.refl w3.heap.size w3).drew).trans d
       have D:=(d.cell H.o.2.1).trans D
       have b:=(d.cell H.o.2.2.1).trans b
       have F:=H.o.2.2.2 _ d
       have N:=aa (N.o _ d)
       clear d
       refine h _ _ ?_;clear h K
      rotate_left
      focus
       go_simp
       refine h _ _ ?_;clear h K
       refine rd [3,8] (AllReady.cons rfl (fun K h=> ?_) (rn fun K h=> ?_))
       focus
        go_simp
        refine h _ _ ?_;clear h K
        refine rd [8] (rn fun K h=> ?_)
        go_simp
        refine h _ _ ?_;clear h K
        refine rd [9] (rn fun K h=> ?_)
        go_simp
        refine h _ _ ?_;clear h K
        refine rd [10] (rn fun K h=> ?_)
        go_simp
        refine (gW _ page H.o.1).mono ?_
        rintro e W ⟨rfl,d⟩
        have d:Below w3.heap.size w3 W:=((Below.refl w3.heap.size w3).drew).trans d
        have D:=(d.cell H.o.2.1).trans D
        have b:=(d.cell H.o.2.2.1).trans b
        have F:=H.o.2.2.2 _ d
        have N:=aa (N.o _ d)
        clear d
        refine h _ _ ?_;clear h K
       rotate_left
       focus
        go_simp
        refine h _ _ ?_;clear h K
        refine rd [3,9] (AllReady.cons rfl (fun K h=> ?_) (rn fun K h=> ?_))
        focus
         go_simp
         refine h _ _ ?_;clear h K
         refine rd [9] (rn fun K h=> ?_)
         go_simp
         refine h _ _ ?_;clear h K
         refine rd [10] (rn fun K h=> ?_)
         go_simp
         refine (gW _ page H.o.1).mono ?_
         rintro e W ⟨rfl,d⟩
         have d:Below w3.heap.size w3 W:=((Below.refl w3.heap.size w3).drew).trans d
         have D:=(d.cell H.o.2.1).trans D
         have b:=(d.cell H.o.2.2.1).trans b
         have F:=H.o.2.2.2 _ d
         have N:=aa (N.o _ d)
         clear d
         refine h _ _ ?_;clear h K
        rotate_left
        focus
         go_simp
         refine h _ _ ?_;clear h K
         refine rd [3,10] (AllReady.cons rfl (fun K h=> ?_) (rn fun K h=> ?_))
         focus
          go_simp
          refine h _ _ ?_;clear h K
          refine rd [10] (rn fun K h=> ?_)
          go_simp
          refine (gW _ page H.o.1).mono ?_
          rintro e W ⟨rfl,d⟩
          have d:Below w3.heap.size w3 W:=((Below.refl w3.heap.size w3).drew).trans d
          have D:=(d.cell H.o.2.1).trans D
          have b:=(d.cell H.o.2.2.1).trans b
          have F:=H.o.2.2.2 _ d
          have N:=aa (N.o _ d)
          clear d
          refine h _ _ ?_;clear h K
         rotate_left
         focus
          go_simp
          refine (gW _ page H.o.1).mono ?_
          rintro e W ⟨rfl,d⟩
          have d:Below w3.heap.size w3 W:=((Below.refl w3.heap.size w3).drew).trans d
          have D:=(d.cell H.o.2.1).trans D
          have b:=(d.cell H.o.2.2.1).trans b
          have F:=H.o.2.2.2 _ d
          have N:=aa (N.o _ d)
          clear d
          refine h _ _ ?_;clear h K
          refine rd [3] (rn fun K h=> ?_)
          go_simp
          refine h _ _ ?_;clear h K
     all_goals
      try simp only[Act.put,aC,aB,ay]
      refine tk 11 ?_
      refine tk 12 ?_
      refine tk 13 ?_
      try simp only[Act.put,aC,aB,ay]
      refine rd [14] (rn fun K h=> ?_)
      go_simp
      refine h _ _ ?_;clear h K
      refine wpAny_done η ?_ _
      go_wp2_with fail
      go_roundw
      case rel=>exact⟨j+1,A,ς,N⟩
      case measure=>simp[RowKit.intOf];omega
    ·have x:=aa n;have qh:(c !=0)=true:=(by simpa using hc);clear n a0 a1 Q C l m;go_wp2_with fail;go_ret;exact⟨c,rfl,x.o⟩
  ·obtain rfl:j=L:=by omega
   have hI:¬(j:Int)<j:=κ;obtain⟨f,d7,y,z⟩:=V.o.fresh _ Y.o;cases f with
   |false=>
    have x:=aa (y rfl);clear y z;go_wp2_with fail;go_ret;exact⟨0,rfl,x.o⟩
   |true=>
    obtain⟨pg,u,⟨rfl,ht⟩|⟨page,rfl,U⟩⟩:=z rfl
    ·have HT:=aa ht;clear y z ht;go_wp2_with fail;refine HT.o.mono ?_;rintro e w3 (⟨page,rfl,⟨v2,r⟩,f2,U⟩|⟨v,c,rfl,hc,n⟩)
     ·obtain⟨X1,NM⟩:=ξx (w3.setCell ⟨p,2,aK⟩ (bf ct page));rw[<-NM] at U;have HZ:=aa U;have O:=aa ((Below.refl X1.heap.size X1).drew);clear U u d7;go_wp2_with fail;rw[<-NM];clear NM r f2;obtain⟨s0,T,u,txt,s,t⟩:=V.o.write _ _ HZ.o;have BD:=aa s;have E:=aa t;have I:=aa (And.intro (bA _ _ s0) (And.intro (bA _ _ T) (bA _ _ u)));clear s t;go_wp2_with fail;go_wp2_with (refine wp_region_held_drew (S:=(fun X=>X.cell? ⟨sb,0,aK⟩=av (dr (av ⟨tb,0,aK⟩))/\X.cell? ⟨tb,0,aK⟩=av (dr (av ⟨rb,0,aK⟩))/\X.cell? ⟨p,2,aK⟩=av (bf ct page))) η ?_ (fun a=> ?_);focus skip;rotate_left;refine Hid.o ?_);refine aa ?_;·first|trivial|exact⟨s0,T,u⟩
      refine aR 0 a ?_;refine aR 1 a ?_;refine aR 2 a ?_;refine aR 3 a ?_;refine aR 4 a ?_;refine aR 5 a ?_;refine aR 6 a ?_;refine aR 7 a ?_;refine aR 8 a ?_;refine aR 9 a ?_;refine aR 10 a ?_;refine aR 11 a ?_;try simp only[Act.put,aC,aB,ay]
      refine fL [12] (fM fun K h=> ?_);go_simp;refine (BD.o _ O.o).mono ?_;rintro e w6 ⟨rfl,Jn⟩;have R:=aa (O.o.trans (Jn.mono O.o.size));refine h.out _ _ ⟨(R.o.cell I.o.1).trans s0,(R.o.cell I.o.2.1).trans T,(R.o.cell I.o.2.2).trans u⟩ (fun a=> ?_);clear h K Jn;refine fL [13] (fM fun K h=> ?_);go_simp;refine (E.o _ R.o).mono ?_;rintro e w7 ⟨c,rfl,n,J,M,r⟩;have x:=aa n;refine h.out _ _ ⟨J,M,r⟩ (fun a=> ?_);clear h K n;refine aR 14 a ?_;refine wpAnyH_done η ?_ _;go_wp2_with fail;go_ret;exact⟨c,rfl,x.o⟩
     ·have x:=aa n;have qh:(c !=0)=true:=(by simpa using hc);clear n;go_wp2_with fail;go_ret;exact⟨c,rfl,x.o⟩
    ·have HZ:=aa U;clear y z U;have hne:((page:Int)==-1)=false:=θ;have O:=aa ((Below.refl wr.heap.size wr).drew);go_wp2_with fail;clear u d7;obtain⟨s0,T,u,txt,s,t⟩:=V.o.write _ _ HZ.o;have BD:=aa s;have E:=aa t;have I:=aa (And.intro (bA _ _ s0) (And.intro (bA _ _ T) (bA _ _ u)));clear s t;go_wp2_with fail;go_wp2_with (refine wp_region_held_drew (S:=(fun X=>X.cell? ⟨sb,0,aK⟩=av (dr (av ⟨tb,0,aK⟩))/\X.cell? ⟨tb,0,aK⟩=av (dr (av ⟨rb,0,aK⟩))/\X.cell? ⟨p,2,aK⟩=av (bf ct page))) η ?_ (fun a=> ?_);focus skip;rotate_left;refine Hid.o ?_);refine aa ?_;·first|trivial|exact⟨s0,T,u⟩
     refine aR 0 a ?_;refine aR 1 a ?_;refine aR 2 a ?_;refine aR 3 a ?_;refine aR 4 a ?_;refine aR 5 a ?_;refine aR 6 a ?_;refine aR 7 a ?_;refine aR 8 a ?_;refine aR 9 a ?_;refine aR 10 a ?_;refine aR 11 a ?_;try simp only[Act.put,aC,aB,ay]
     refine fL [12] (fM fun K h=> ?_);go_simp;refine (BD.o _ O.o).mono ?_;rintro e w6 ⟨rfl,Jn⟩;have R:=aa (O.o.trans (Jn.mono O.o.size));refine h.out _ _ ⟨(R.o.cell I.o.1).trans s0,(R.o.cell I.o.2.1).trans T,(R.o.cell I.o.2.2).trans u⟩ (fun a=> ?_);clear h K Jn;refine fL [13] (fM fun K h=> ?_);go_simp;refine (E.o _ R.o).mono ?_;rintro e w7 ⟨c,rfl,n,J,M,r⟩;have x:=aa n;refine h.out _ _ ⟨J,M,r⟩ (fun a=> ?_);clear h K n;refine aR 14 a ?_;refine wpAnyH_done η ?_ _;go_wp2_with fail;go_ret;exact⟨c,rfl,x.o⟩
end
end
end Go.Proofs.YtgfdijemhanfkaaGreatDoor
