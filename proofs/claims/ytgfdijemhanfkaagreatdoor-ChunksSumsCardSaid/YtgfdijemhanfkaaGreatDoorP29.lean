/- Elder texts, cut down and merged (29). -/
import Derived.Test.YtgfdijemhanfkaaGreatDoorP25
import Derived.Test.YtgfdijemhanfkaaGreatDoorPTk
set_option linter.unusedSimpArgs false
set_option linter.unusedVariables false
set_option maxRecDepth 100000
set_option maxHeartbeats 8000000
namespace Go.Proofs.YtgfdijemhanfkaaGreatDoor
open _root_.Go.Proofs.Tryz
open Value renaming int→bf,pointer→dr,tuple→ec,slice→cx
open IntKind renaming i64→ct,u64→eZ
open Ending renaming returned→c8
open Option renaming none→aK,some→av
open Nat renaming zero_le->aA
open List renaming setIfInBounds_toArray->aC,set_cons_succ->aB,set_cons_zero->ay
section
open Go.RowKit Lib
structure Sto (sb tb rb:Nat) (place:Int) (Fr:Nat->Option Addr->Nat->Nat->Ψ) (G:Int->Ψ):Prop where
 free:∀num a L i X,Fr num a L i X->i<L->X.cell? ⟨sb,0,aK⟩=av (dr (av ⟨tb,0,aK⟩))/\X.cell? ⟨tb,0,aK⟩=av (dr (av ⟨rb,0,aK⟩))/\∃g o x,a=av ⟨g,o,aK⟩/\X.cell? ⟨g,o+i,aK⟩=av (bf ct x)/\Calls prog 197 #[ptr rb,bf ct x] X fun e X'=>e=c8 (bf ct 0)/\Fr num a L (i+1) X'
 root:∀num a L X,Fr num a L L X->X.cell? ⟨sb,0,aK⟩=av (dr (av ⟨tb,0,aK⟩))/\X.cell? ⟨tb,0,aK⟩=av (dr (av ⟨rb,0,aK⟩))/\X.cell? ⟨tb,1,aK⟩=av (bf ct place)/\Calls prog 40 #[ptr rb,bf ct place] X.drew fun e X'=>∃before:Nat,e=c8 (ec #[bf eZ before,bf ct 0])/\
  X'.cell? ⟨sb,0,aK⟩=av (dr (av ⟨tb,0,aK⟩))/\X'.cell? ⟨tb,0,aK⟩=av (dr (av ⟨rb,0,aK⟩))/\X'.cell? ⟨tb,1,aK⟩=av (bf ct place)/\(before=num->G 0 X')/\
  (before≠num->Calls prog 55 #[ptr rb,bf ct place,bf eZ num] X'.drew fun e iG=>e=c8 (bf ct 0)/\iG.cell? ⟨sb,0,aK⟩=av (dr (av ⟨tb,0,aK⟩))/\iG.cell? ⟨tb,0,aK⟩=av (dr (av ⟨rb,0,aK⟩))/\iG.cell? ⟨tb,1,aK⟩=av (bf ct place)/\G 0 iG)
section
variable {w:World} {sb tb rb:Nat}
theorem J8 {place:Int} {Fr:Nat->Option Addr->Nat->Nat->Ψ} {G:Int->Ψ} {a:Option Addr} {L c:Nat} (r:Sto sb tb rb place Fr G) (c1:w.cell? ⟨sb,1,aK⟩=av (cx a L c)) (z:L<=70000) (j:L<=c) (hF:Fr 0 a L 0 w):
  Calls prog 139 #[ptr sb,dr aK] w fun e w'=>∃c:Int,e=c8 (bf ct c)/\G c w':=by
 have k:=aa r;obtain⟨num,B⟩:=ξx 0;have l:=aa (show Fr num a L 0 w by rw[B];exact hF);have D:=aa B;have P:(L:Int)<=70000:=κ
 have Q:(L:Int)<=c:=κ
 clear r z hF B j;unfold ptr at k |-;go_enter func139,ntmps139;go_wp2_with fail;have u:Value.int eZ 0=Value.int eZ ((num:Nat):Int):=by rw[D.o];rfl
 rw[u];clear u
 go_loopw [8,9,31] (fun _ _ I wr=>∃i:Nat,i<=L/\I=bf ct i/\Hid (Fr num a L i wr)) (fun _ _ I _=>L-(RowKit.intOf I).toNat)
 case atStart=>exact⟨0,aA _,rfl,l⟩
 case round=>
  obtain⟨i,hi,rfl,hF⟩:=hrel;by_cases H:i<L
  ·have E:(i:Int)<L:=κ;obtain⟨s0,m,g,o,x,rfl,F,C⟩:=k.o.free _ _ _ _ _ hF.o H;have J:=aa C;clear C;go_wp2_with fail;refine J.o.mono ?_;rintro e W ⟨rfl,b⟩;have n:=aa b;clear b F s0 m;go_wp2_with fail;go_roundw
   case rel=>exact⟨i+1,H,ς,n⟩
   case measure=>simp[RowKit.intOf];omega
  ·obtain rfl:i=L:=by omega
   have E:¬(i:Int)<i:=κ;obtain⟨s0,m,M,h⟩:=k.o.root _ _ _ _ hF.o;have N:=aa h;clear h;go_wp2_with fail;go_wp2_with (refine wp_region_held_drew (S:=(fun X=>X.cell? ⟨sb,0,aK⟩=av (dr (av ⟨tb,0,aK⟩))/\X.cell? ⟨tb,0,aK⟩=av (dr (av ⟨rb,0,aK⟩))/\X.cell? ⟨tb,1,aK⟩=av (bf ct place))) η ?_ (fun A=> ?_);focus skip;rotate_left;refine Hid.o ?_);refine aa ?_;·first|trivial|exact⟨s0,m,M⟩
   refine aR 0 A ?_;refine aR 1 A ?_;refine aR 2 A ?_;refine aR 3 A ?_;refine aR 4 A ?_;refine aR 5 A ?_;refine aR 6 A ?_;refine aR 7 A ?_;refine aR 8 A ?_;refine aR 9 A ?_;refine aR 10 A ?_;refine aR 11 A ?_;refine aR 12 A ?_;refine aR 13 A ?_;try simp only[Act.put,aC,aB,ay]
   refine fL [14] (fM fun K d=> ?_);go_simp;refine N.o.mono ?_;rintro e U ⟨before,rfl,s,t,T,f,Z⟩;have v:=aa (And.intro f Z);refine d.out _ _ ⟨s,t,T⟩ (fun A=> ?_);clear d K f Z;refine aR 15 A ?_;refine aR 16 A ?_;refine aR 17 A ?_;refine aR 18 A ?_;refine aR 19 A ?_;refine wpAnyH_done η ?_ _;try simp only[Act.put,aC,aB,ay]
   by_cases R:before=num;·subst R;have p:((before:Int)==before)=true:=ν;have q:=aa (v.o.1 rfl);go_wp2_with fail;go_ret;exact⟨0,rfl,q.o⟩
   ·have p:((before:Int)==num)=false:=θ;have O:=aa (v.o.2 R);go_wp2_with fail;go_wp2_with (refine wp_region_held_drew (S:=(fun X=>X.cell? ⟨sb,0,aK⟩=av (dr (av ⟨tb,0,aK⟩))/\X.cell? ⟨tb,0,aK⟩=av (dr (av ⟨rb,0,aK⟩))/\X.cell? ⟨tb,1,aK⟩=av (bf ct place))) η ?_ (fun A=> ?_);focus skip;rotate_left;refine Hid.o ?_);refine aa ?_;·first|trivial|exact⟨s,t,T⟩
    refine aR 0 A ?_;refine aR 1 A ?_;refine aR 2 A ?_;refine aR 3 A ?_;refine aR 4 A ?_;refine aR 5 A ?_;refine aR 6 A ?_;refine aR 7 A ?_;refine aR 8 A ?_;refine aR 9 A ?_;refine aR 10 A ?_;refine aR 11 A ?_;refine aR 12 A ?_;refine aR 13 A ?_;refine aR 14 A ?_;try simp only[Act.put,aC,aB,ay]
    refine fL [15] (fM fun K d=> ?_);go_simp;refine O.o.mono ?_;rintro e V ⟨rfl,s,t,T,y⟩;have q:=aa y;refine d.out _ _ ⟨s,t,T⟩ (fun A=> ?_);clear d K y;refine aR 16 A ?_;refine wpAnyH_done η ?_ _;try simp only[Act.put,aC,aB,ay]
    go_wp2_with fail;go_ret;exact⟨0,rfl,q.o⟩
theorem J9 {place:Int} {Fr:Nat->Option Addr->Nat->Nat->Ψ} {G:Int->Ψ} {r:Nat} (v:Sto sb tb rb place Fr G)
  (y:Calls prog 196 #[ptr sb,ptr r] w fun e X'=>(∃page:Nat,e=c8 (bf ct 0)/\X'.cell? ⟨r,2,aK⟩=av (bf ct page)/\page<65536/\∃a L c,X'.cell? ⟨sb,1,aK⟩=av (cx a L c)/\L<=70000/\L<=c/\Fr (page+1) a L 0 X')\/(∃c:Int,e=c8 (bf ct c)/\c≠0/\G c X')):
  Calls prog 139 #[ptr sb,ptr r] w fun e w'=>∃c:Int,e=c8 (bf ct c)/\G c w':=by
 have m:=aa v;have F:=aa y;clear v y;unfold ptr at m F |-;go_enter func139,ntmps139;go_wp2_with fail;refine F.o.mono ?_;rintro e w3 (⟨page,rfl,r2,O,a,L,c,c1,D,n,hF⟩|⟨c,rfl,hc,H⟩)
 ·have b:=aa hF;have W:(L:Int)<=70000:=by omega
  have Y:(L:Int)<=c:=κ
  have E:(page:Int)<65536:=κ
  obtain⟨num,B⟩:=ξx (page+1);rw[<-B] at b;have Q:(page:Int)+1=((num:Nat):Int):=κ
  clear hF D n B;go_wp2_with fail;clear r2 E O Q
  go_loopw [8,9,31] (fun _ _ I wr=>∃i:Nat,i<=L/\I=bf ct i/\Hid (Fr num a L i wr)) (fun _ _ I _=>L-(RowKit.intOf I).toNat)
  case atStart=>exact⟨0,aA _,rfl,b⟩
  case round=>
   obtain⟨i,hi,rfl,hF⟩:=hrel;by_cases d:i<L
   ·have J:(i:Int)<L:=κ;obtain⟨s0,p,g,o,x,rfl,M,C⟩:=m.o.free _ _ _ _ _ hF.o d;have N:=aa C;clear C;go_wp2_with fail;refine N.o.mono ?_;rintro e w5 ⟨rfl,f⟩;have q:=aa f;clear f M s0 p;go_wp2_with fail;go_roundw
    case rel=>exact⟨i+1,d,ς,q⟩
    case measure=>simp[RowKit.intOf];omega
   ·obtain rfl:i=L:=by omega
    have J:¬(i:Int)<i:=κ;obtain⟨s0,p,P,h⟩:=m.o.root _ _ _ _ hF.o;have U:=aa h;clear h;go_wp2_with fail;go_wp2_with (refine wp_region_held_drew (S:=(fun X=>X.cell? ⟨sb,0,aK⟩=av (dr (av ⟨tb,0,aK⟩))/\X.cell? ⟨tb,0,aK⟩=av (dr (av ⟨rb,0,aK⟩))/\X.cell? ⟨tb,1,aK⟩=av (bf ct place))) η ?_ (fun A=> ?_);focus skip;rotate_left;refine Hid.o ?_);refine aa ?_;·first|trivial|exact⟨s0,p,P⟩
    refine aR 0 A ?_;refine aR 1 A ?_;refine aR 2 A ?_;refine aR 3 A ?_;refine aR 4 A ?_;refine aR 5 A ?_;refine aR 6 A ?_;refine aR 7 A ?_;refine aR 8 A ?_;refine aR 9 A ?_;refine aR 10 A ?_;refine aR 11 A ?_;refine aR 12 A ?_;refine aR 13 A ?_;try simp only[Act.put,aC,aB,ay]
    refine fL [14] (fM fun K j=> ?_);go_simp;refine U.o.mono ?_;rintro e w6 ⟨before,rfl,s,t,T,k,Z⟩;have z:=aa (And.intro k Z);refine j.out _ _ ⟨s,t,T⟩ (fun A=> ?_);clear j K k Z;refine aR 15 A ?_;refine aR 16 A ?_;refine aR 17 A ?_;refine aR 18 A ?_;refine aR 19 A ?_;refine wpAnyH_done η ?_ _;try simp only[Act.put,aC,aB,ay]
    by_cases R:before=num;·subst R;have u:((before:Int)==before)=true:=ν;have l:=aa (z.o.1 rfl);go_wp2_with fail;go_ret;exact⟨0,rfl,l.o⟩
    ·have u:((before:Int)==num)=false:=θ;have V:=aa (z.o.2 R);go_wp2_with fail;go_wp2_with (refine wp_region_held_drew (S:=(fun X=>X.cell? ⟨sb,0,aK⟩=av (dr (av ⟨tb,0,aK⟩))/\X.cell? ⟨tb,0,aK⟩=av (dr (av ⟨rb,0,aK⟩))/\X.cell? ⟨tb,1,aK⟩=av (bf ct place))) η ?_ (fun A=> ?_);focus skip;rotate_left;refine Hid.o ?_);refine aa ?_;·first|trivial|exact⟨s,t,T⟩
     refine aR 0 A ?_;refine aR 1 A ?_;refine aR 2 A ?_;refine aR 3 A ?_;refine aR 4 A ?_;refine aR 5 A ?_;refine aR 6 A ?_;refine aR 7 A ?_;refine aR 8 A ?_;refine aR 9 A ?_;refine aR 10 A ?_;refine aR 11 A ?_;refine aR 12 A ?_;refine aR 13 A ?_;refine aR 14 A ?_;try simp only[Act.put,aC,aB,ay]
     refine fL [15] (fM fun K j=> ?_);go_simp;refine V.o.mono ?_;rintro e w7 ⟨rfl,s,t,T,H⟩;have l:=aa H;refine j.out _ _ ⟨s,t,T⟩ (fun A=> ?_);clear j K H;refine aR 16 A ?_;refine wpAnyH_done η ?_ _;try simp only[Act.put,aC,aB,ay]
     go_wp2_with fail;go_ret;exact⟨0,rfl,l.o⟩
 ·have l:=aa H;have qh:(c !=0)=true:=by simpa using hc
  clear H;go_wp2_with fail;go_ret;exact⟨c,rfl,l.o⟩
end
end
end Go.Proofs.YtgfdijemhanfkaaGreatDoor
