/- Elder texts, cut down and merged (7). -/
import Derived.Test.YtlpfhjbpknbndaaGreatDoorP3
import Derived.Test.YtlpfhjbpknbndaaGreatDoorP6
import Derived.Test.YtlpfhjbpknbndaaGreatDoorP5
import Derived.Deep.RegionHeld3
import Derived.Deep.RegionHeldLaw
import Derived.Laws.CopyOwn
import Derived.Lib.AppendZerosOnto
import Derived.Lib.Overlaps
import Derived.Test.YtlpfhjbpknbndaaGreatDoorPTk
set_option maxRecDepth 100000
set_option maxHeartbeats 8000000
namespace Go.Proofs.YtlpfhjbpknbndaaGreatDoor
open Value renaming pointer→e7,int→bf,string→bR,tuple→gu,bool→eX,slice→cx,agg→iK
open Option renaming none→av,some→aD
open IntKind renaming i64→cu,u64→dg
open Ending renaming returned→eb
open Or renaming inl→dc,inr→dn
open Obj renaming cells→ey
open List renaming map_append->bQ,setIfInBounds_toArray->aA,set_cons_succ->az,set_cons_zero->ay,length_set->bP,length_append->au,getElem?_eq_getElem->aK,getElem?_set_ne->sy,getD_eq_getElem?_getD->bZ,replicate->bB,take_left->fX,take_append_drop->cP,map_cons->bM
open World renaming drew->bJ,size_alloc->aS,block_lt_of_cell?->bD
open Int renaming toNat_natCast->dF
open _root_.Array renaming length_toList->bk,getElem?_eq_some_iff->iY
open Nat renaming zero_le->aB,le_refl->ah,zero_add->bE,lt_of_lt_of_le->dD,add_zero->d_
open UInt8 renaming ofNat->bz
section
open Go.RowKit Lib
structure jE (R:Nat->Prop) (ring g N lb tb rb:Nat) (H:List Wl.Text) (ps:List (Nat×List UInt8)) (pg:List (Option Wl.Text)) (rt:List Nat) (X:World):Prop where
 c:C1 R ring g N lb tb H ps X
 blk:aU X rb 74 [ptr tb]
 rr:R rb
 rep:Rm.dO (Wl.along H (Tx.pN ps)) pg rt
 ins:∀p∈ps,p.1<H.length
 pos:1<=pg.length
section
variable {X X':World} {R R' S:Nat->Prop} {ring g N lb tb rb:Nat} {H H':List Wl.Text} {ps ps':List (Nat×List UInt8)} {pg dh:List (Option Wl.Text)} {rt rt':List Nat}
theorem jE.len (h:jE R ring g N lb tb rb H ps pg rt X):H.length=pg.length+2:=by
 have:=h.rep.len
 rwa [Wl.cY] at this
theorem jE.cell (h:jE R ring g N lb tb rb H ps pg rt X):X.cell? ⟨rb,0,av⟩=aD (e7 (aD ⟨tb,0,av⟩)):=h.blk.cell rfl
theorem jE.ij (h:jE R ring g N lb tb rb H ps pg rt X) (b:aG S X X') (hS:∀k,k<X.heap.size->S k->R k) (hr:¬S rb) (D:∀k,R' k->R k\/(X.heap.size<=k/\k<X'.heap.size)) (a:R' rb):jE R' ring g N lb tb rb H ps pg rt X':=
 ⟨h.c.ij b hS D,h.blk.but b hr,a,h.rep,h.ins,h.pos⟩
theorem jE.still (h:jE R ring g N lb tb rb H ps pg rt X) (a:Below X.heap.size X X'):jE R ring g N lb tb rb H ps pg rt X':=
 ⟨h.c.still a,h.blk.below a h.blk.lt,h.rr,h.rep,h.ins,h.pos⟩
theorem gh (h:jE R ring g N lb tb rb H ps pg rt X):
  Calls Tryz.prog 121 #[ptr rb] X fun e X'=>e=eb (bf cu pg.length)/\X'=X:=by
 have c0:=h.cell;have hl:=h.len;have hf:=h.rep.few;have hp:=h.pos;have a:=aa h;clear h;have b:=aa (show Rm.pages H.length=pg.length by rw[hl,Rm.Ig (by omega) (by omega)];omega);have d:=aa (show H.length<=5000 by omega);clear hl;go_enter Tryz.func121,Tryz.ntmps121;unfold ptr;go_wp2_with fail;refine (Lx a.o.c).mono ?_;rintro e X' ⟨rfl,rfl⟩;go_wp2_with fail;refine (Ih X' H.length (by have:=d.o;omega)).mono ?_;rintro e X' ⟨rfl,rfl⟩;rw[b.o];go_wp2;go_ret;exact⟨rfl,rfl⟩
theorem o9 (h:jE R ring g N lb tb rb H ps pg rt X) (i:Nat) (hi:i<H.length):
  Calls Tryz.prog 119 #[ptr rb,bf cu i] X fun e X'=>e=eb (gu #[bR (bs ((Wl.along H (Tx.pN ps)).getD i [])),bf cu 0])/\Below X.heap.size X X':=by
 have c0:=h.cell;have b:=aa h;have a:=aa (show i<H.length/\H.length<=65536 by have:=h.len;have:=h.rep.few;omega);clear h hi;go_enter Tryz.func119,Tryz.ntmps119;unfold ptr;go_wp2_with fail;refine (O2 b.o.c i a.o.1 a.o.2).mono ?_;rintro e X' ⟨rfl,d⟩;go_wp2
 go_ret2
 exact⟨rfl,d⟩
theorem rA (h:jE R ring g N lb tb rb H ps pg rt X):
  Calls Tryz.prog 119 #[ptr rb,bf cu (-1)] X fun e X'=>e=eb (gu #[bR ⟨#[]⟩,bf cu 2])/\Below X.heap.size X X':=by
 have c0:=h.cell;have a:=aa h;clear h;go_enter Tryz.func119,Tryz.ntmps119;unfold ptr;go_wp2_with fail;refine (EG a.o.c (-1) (dc (by decide)) (by decide) a.o.ins).mono ?_;rintro e X' ⟨rfl,b⟩;go_wp2
 go_ret2
 exact⟨rfl,b⟩
theorem EH (h:jE R ring g N lb tb rb H ps pg rt X):
  Calls Tryz.prog 229 #[ptr rb] X fun e X'=>e=eb (bf cu 0)/\Below X.heap.size X X':=by
 have a:=aa h;clear h;go_enter Tryz.func229,Tryz.ntmps229;unfold ptr;go_wp2_with fail;refine (o9 a.o 0 (by have:=a.o.len;omega)).mono ?_;rintro e X' ⟨rfl,b⟩;go_wp2;go_ret;exact⟨rfl,b⟩
theorem sM (h:jE R ring g N lb tb rb H ps pg rt X) (p:Nat) (hp:p<pg.length):
  Calls Tryz.prog 211 #[ptr rb,bf cu p] X fun e X'=>e=eb (gu #[bR (bs ((Wl.along H (Tx.pN ps)).getD 1 [])),bf cu 0])/\Below X.heap.size X X':=by
 have a:=aa h;have b:=aa (show p<pg.length/\p<=4095 by have:=h.rep.few;omega);clear h;have d:¬(p:Int)<0:=by omega
 have f:¬(pg.length:Int)<=p:=by omega
 clear hp;go_enter Tryz.func211,Tryz.ntmps211;unfold ptr;go_wp2_with fail;refine (gh a.o).mono ?_;rintro e X' ⟨rfl,rfl⟩;go_wp2_with fail;refine (qS X' p (by have:=b.o;omega)).mono ?_;rintro e X' ⟨rfl,rfl⟩;rw[show 1+p/4096=1 by have:=b.o;omega];go_wp2_with fail;refine (o9 a.o 1 (by have:=a.o.len;omega)).mono ?_;rintro e X' ⟨rfl,c⟩;go_wp2
 go_ret2
 exact⟨rfl,c⟩
theorem Ak (h:jE R ring g N lb tb rb H ps pg rt X) (i:Int) (hi:i<0\/(pg.length:Int)<=i):
  Calls Tryz.prog 211 #[ptr rb,bf cu i] X fun e X'=>e=eb (gu #[bR ⟨#[]⟩,bf cu 2])/\Below X.heap.size X X':=by
 have a:=aa h;clear h;by_cases c:i<0
 ·go_enter Tryz.func211,Tryz.ntmps211;unfold ptr;go_wp2_with fail;refine (rA a.o).mono ?_;rintro e X' ⟨rfl,b⟩;go_wp2
  go_ret2
  exact⟨rfl,b⟩
 ·have d:(pg.length:Int)<=i:=hi.resolve_left c;clear hi;go_enter Tryz.func211,Tryz.ntmps211;unfold ptr;go_wp2_with fail;refine (gh a.o).mono ?_;rintro e X' ⟨rfl,rfl⟩;go_wp2_with fail;refine (rA a.o).mono ?_;rintro e X' ⟨rfl,b⟩;go_wp2
  go_ret2
  exact⟨rfl,b⟩
theorem gi (h:jE R ring g N lb tb rb H ps pg rt X) (p:Nat) (hp:p<pg.length):
  Calls Tryz.prog 201 #[ptr rb,bf cu p] X fun e X'=>e=eb (bf cu (2+p:Nat))/\X'=X:=by
 have b:=aa h;have a:=aa (show p<pg.length/\pg.length<=4096/\1<=pg.length by have:=h.rep.few;have:=h.pos;omega);have B:(p:Int)<=4095:=by have:=a.o;omega
 clear h hp;go_enter Tryz.func201,Tryz.ntmps201;unfold ptr;go_wp2_with fail;refine (gh b.o).mono ?_;rintro e X' ⟨rfl,rfl⟩;go_wp2_with fail;refine (sD X' pg.length 4096 (by have:=a.o;omega) (by decide) (by decide)).mono ?_;rintro e X' ⟨rfl,rfl⟩;rw[show (pg.length+4096-1)/4096=1 by have:=a.o;omega];go_wp2;go_ret;exact⟨by simp,rfl⟩
theorem Lz (h:jE R ring g N lb tb rb H ps pg rt X) (i:Int):
  Calls Tryz.prog 210 #[ptr rb,bf cu i] X fun e X'=>e=eb (gu #[eX (Rm.has pg i),bf cu (Rm.vA pg i)])/\Below X.heap.size X X':=by
 have c:=aa h;have key:∀p:Nat,p<pg.length->Calls Tryz.prog 210 #[ptr rb,bf cu p] X fun e X'=>e=eb (gu #[eX (pg.getD p av).isSome,bf cu 0])/\Below X.heap.size X X':=by
  intro p hp;have a:=aa (show p<pg.length/\p<=4095 by have:=h.rep.few;omega);have f:=aa (h.rep.bit p hp);have d:=aa (h.rep.home (i:=1) (by rw[Wl.cY,h.len];omega));clear h;generalize (pg.getD p av).isSome=o at*;have k:(p:Int).tmod 4096=(p:Int):=by rw[Int.tmod_eq_emod_of_nonneg (by omega)];have:=a.o;omega
  clear hp;go_enter Tryz.func210,Tryz.ntmps210;unfold ptr;go_wp2_with fail;refine (sM c.o p a.o.1).mono ?_;rintro e X' ⟨rfl,b⟩;generalize (Wl.along H (Tx.pN ps)).getD 1 []=T at*;go_wp2_with fail;refine (Ii X' (bs T) p (by rw[aP,d.o];have:=a.o;omega) (by rw[aP,d.o];decide)).mono ?_;rintro e X' ⟨rfl,rfl⟩;rw[bS,f.o];go_wp2
  go_ret2
  exact⟨rfl,b⟩
 rcases Rm.vB pg i with⟨j,hr,hg,hh,hn⟩|⟨p,rfl,hp,hs,hr,hg,hh,hn⟩|⟨p,t,rfl,hp,hs,hr,hg,hh,hn⟩
 ·rw[hh,hn];clear h key;go_enter Tryz.func210,Tryz.ntmps210;unfold ptr;go_wp2_with fail;refine (Ak c.o i j).mono ?_;rintro e X' ⟨rfl,b⟩;go_wp2
  go_ret2
  exact⟨rfl,b⟩
 ·rw[hh,hn];have:=key p hp
  rwa [hs] at this
 ·rw[hh,hn];have:=key p hp
  rwa [hs] at this
theorem ni (h:jE R ring g N lb tb rb H ps pg rt X) (i:Int):
  Calls Tryz.prog 183 #[ptr rb,bf cu i] X fun e X'=>e=eb (bf cu (Rm.refuse pg i))/\Below X.heap.size X X':=by
 have hc:=Lz h i;clear h;rcases Rm.vB pg i with⟨c,hr,hg,hh,hn⟩|⟨p,rfl,hp,hs,hr,hg,hh,hn⟩|⟨p,t,rfl,hp,hs,hr,hg,hh,hn⟩
 all_goals (
  rw[hh,hn] at hc
  rw[hr]
  have a:=aa hc
  clear hc hh hn hr hg
  go_enter Tryz.func183,Tryz.ntmps183
  unfold ptr
  go_wp2_with fail
  refine a.o.mono ?_
  rintro e X' ⟨rfl,b⟩
  go_wp2
  go_ret
  exact⟨rfl,b⟩)
end
section
variable {X X':World} {R R' S:Nat->Prop} {ring g N lb tb rb:Nat} {H H':List Wl.Text} {ps ps':List (Nat×List UInt8)} {pg dh:List (Option Wl.Text)} {rt rt':List Nat}
theorem rB (w:World) (p:Nat) (hp:p<=4095):Calls Tryz.prog 212 #[bf cu p] w fun e w'=>e=eb (bf cu (1:Nat))/\w'=w:=by grind [qS]
theorem vS (H:List Wl.Text) (ps:List (Nat×List UInt8)) (i:Nat) (t:List UInt8):Wl.along H (Tx.pN (ps++[(i,t)]))=(Wl.along H (Tx.pN ps)).set i (Dk.full t):=by unfold Tx.pN;rw[bQ,Wl.zZ];rfl
theorem LA {n i:Nat} {t:List UInt8} (h:∀p∈ps,p.1<n) (hi:i<n):∀p∈ps++[(i,t)],p.1<n:=by grind
theorem yc {α:Type} {l:List (Option α)} {p:Nat} {t:α} (h:l.getD p av=aD t):l[p]?=aD (aD t):=by grind
theorem IG (h:jE R ring g N lb tb rb H ps pg rt X) (i:Int):
  Calls Tryz.prog 166 #[ptr rb,bf cu i] X fun e X'=>e=eb (gu #[bR (bs (Rm.got pg i)),bf cu (Rm.refuse pg i)])/\Below X.heap.size X X':=by
 have hc:=ni h i;have c:=aa hc;clear hc;rcases Rm.vB pg i with⟨j,hr,hg,hh,hn⟩|⟨p,rfl,hp,hs,hr,hg,hh,hn⟩|⟨p,t,rfl,hp,hs,hr,hg,hh,hn⟩
 ·rw[hg,hr];have b:=aa hr;clear hr hg hh hn h j;go_enter Tryz.func166,Tryz.ntmps166;unfold ptr;go_wp2_with fail;refine c.o.mono ?_;rintro e X' ⟨rfl,a⟩;rw[b.o];go_wp2
  go_ret2
  exact⟨rfl,a⟩
 ·rw[hg,hr];have b:=aa hr;clear hr hg hh hn h hp hs;go_enter Tryz.func166,Tryz.ntmps166;unfold ptr;go_wp2_with fail;refine c.o.mono ?_;rintro e X' ⟨rfl,a⟩;rw[b.o];go_wp2
  go_ret2
  exact⟨rfl,a⟩
 ·rw[hg,hr];have b:=aa hr;have k:=aa h;have d:=aa (show p<pg.length/\2+p<H.length by have:=h.len;omega);have l:=aa (h.rep.page p t (yc hs));clear hr hg hh hn h hp hs;go_enter Tryz.func166,Tryz.ntmps166;unfold ptr;go_wp2_with fail;refine c.o.mono ?_;rintro e X' ⟨rfl,a⟩;rw[b.o];have f:=aa (k.o.still a);go_wp2_with fail;refine (gi f.o p d.o.1).mono ?_;rintro e X2 ⟨rfl,rfl⟩;go_wp2_with fail;try simp only[Act.eval]
  refine (o9 f.o (2+p) d.o.2).mono ?_;rintro e X3 ⟨rfl,B⟩;rw[l.o];go_wp2
  go_ret2
  exact⟨rfl,a.trans (B.mono a.size)⟩
theorem vT (h:jE R ring g N lb tb rb H ps pg rt X):
  Calls Tryz.prog 224 #[ptr rb] X fun e X'=>e=eb (match Rm.firstFree pg with|some p=>gu #[bf cu (p:Nat),bf cu 0]|none=>gu #[bf cu 0,bf cu 4])/\Below X.heap.size X X':=by
 have t:=aa h;have v:=aa h.rep.bit;have d:=aa (h.rep.home (i:=1) (by rw[Wl.cY,h.len];omega));have c:=aa (show 1<=pg.length/\pg.length<=4096 from⟨h.pos,h.rep.few⟩);have A:(0:Int)<pg.length:=by have:=c.o;omega
 have w:(pg.length:Int)<=4096:=by have:=c.o;omega
 have C:¬(4096:Int)<pg.length:=by omega
 obtain⟨V,j⟩:∃V,V=(match Rm.firstFree pg with|some p=>Value.tuple #[bf cu (p:Nat),bf cu 0]|none=>gu #[bf cu 0,bf cu 4]):=⟨_,rfl⟩;rw[<-j];have u:=aa j;clear h j;go_enter Tryz.func224,Tryz.ntmps224;unfold ptr;go_wp2_with fail;refine (EH t.o).mono ?_;rintro e X1 ⟨rfl,B⟩;have k:=aa (t.o.still B);go_wp2
 go_loopw [5] (fun i wr=>(i=bf cu 0/\wr=X1)\/(i=bf cu 4096/\Rm.firstFree pg=av/\Below X.heap.size X wr/\Hid (jE R ring g N lb tb rb H ps pg rt wr))) (fun i _=>if RowKit.intOf i=0 then 1 else 0)
 case atStart=>exact dc ⟨rfl,rfl⟩
 case round=>
  rcases hrel with⟨rfl,rfl⟩|⟨rfl,a,O,x⟩
  ·go_wp2_with fail;refine (gh k.o).mono ?_;rintro e X2 ⟨rfl,rfl⟩;go_wp2_with fail;refine (sM k.o 0 (by have:=c.o;omega)).mono ?_;rintro e X3 ⟨rfl,l⟩;have m:=aa (k.o.still l);have Q:=aa (B.trans (l.mono B.size));generalize (Wl.along H (Tx.pN ps)).getD 1 []=T at*;clear B l;go_wp2_with fail;refine (vC X3 (bs T) (by rw[aP,d.o];decide)).mono ?_;rintro e X4 ⟨f,rfl,hf,rfl⟩;rw[bS] at hf;have y:(f:Int)<=4096:=(by have:=hf.2.1;rw[d.o] at this;omega);rcases Rm.Eb v.o d.o c.o.2 hf with⟨n,b⟩|⟨n,b⟩
   ·have q:=aa b;have z:¬(f:Int)<pg.length:=(by omega);clear hf n b;go_wp2_with fail;refine (gh m.o).mono ?_;rintro e X5 ⟨rfl,rfl⟩;have r:min (pg.length:Int) 4096=pg.length:=(by omega);go_wp2;go_roundw
    case rel=>exact dn ⟨rfl,q.o,Q.o,m⟩
    case measure=>decide
   ·have q:=aa b;have z:(f:Int)<pg.length:=(by omega);clear hf n b;go_wp2_with fail;refine (gh m.o).mono ?_;rintro e X5 ⟨rfl,rfl⟩;have r:min (pg.length:Int) 4096=pg.length:=(by omega);go_wp2
    go_ret2
    exact⟨by rw[u.o,q.o];rfl,Q.o⟩
  ·have Y:=u.o;rw[a] at Y;have s:=aa Y;clear a Y;go_wp2_with fail;refine (gh x.o).mono ?_;rintro e X2 ⟨rfl,rfl⟩;go_wp2
   go_ret2
   exact⟨by rw[s.o];rfl,O⟩
theorem jE.put (h:jE R ring g N lb tb rb H ps pg rt X) {i:Nat} {t:List UInt8} (hi:i<H.length) (hc:C1 R ring g N lb tb H (ps++[(i,t)]) X') (a:aG (fun k=>¬R k) X X') (hr:Rm.dO ((Wl.along H (Tx.pN ps)).set i (Dk.full t)) dh rt') (hl:dh.length=pg.length):jE R ring g N lb tb rb H (ps++[(i,t)]) dh rt' X':=
 ⟨hc,h.blk.but a (fun hn=>hn h.rr),h.rr,by rw[vS];exact hr,LA h.ins hi,by rw[hl];exact h.pos⟩
theorem yX (h:jE R ring g N lb tb rb H ps pg rt X) (p:Nat) (hp:p<pg.length) (r:ps.length<=90000000):
  Calls Tryz.prog 184 #[ptr rb,bf cu p] X fun e X'=>e=eb (bf cu 0)/\C1 R ring g N lb tb H (ps++[(1,Rm.flip ((Wl.along H (Tx.pN ps)).getD 1 []) p)]) X'/\aG (fun k=>¬R k) X X':=by
 have n:=aa h;obtain⟨T,l⟩:∃T,T=(Wl.along H (Tx.pN ps)).getD 1 []:=⟨_,rfl⟩;have s:=aa l;have d:=aa (show T.length=512 by rw[l];exact h.rep.home (i:=1) (by rw[Wl.cY,h.len];omega));rw[<-l];clear l;have b:=aa (show p<pg.length/\p<=4095/\1<H.length/\H.length<=65536/\ps.length<=90000000 by have:=h.rep.few;have:=h.len;omega);have y:(p:Int).tmod 4096=(p:Int):=by rw[Int.tmod_eq_emod_of_nonneg (by omega)];have:=b.o;omega
 clear h hp r;go_enter Tryz.func184,Tryz.ntmps184;unfold ptr;go_wp2_with fail;refine (sM n.o p b.o.1).mono ?_;rintro e X1 ⟨rfl,B⟩;rw[<-s.o];have t:=aa (n.o.still B);have u:=aa (t.o.still ((Below.refl X1.heap.size X1).drew));have F:=aa (show aG (fun k=>¬R k) X X1.drew from (aG.aJ B _).drew);have v:=aa (show X1.drew.cell? ⟨rb,0,av⟩=aD (e7 (aD ⟨tb,0,av⟩)) from u.o.cell);clear B;have z:=v.o;go_wp2_with (refine wp_region_any (by kernel_rfl) ?_;refine Hid.o ?_);refine aa ?_;try (change wpAny _ _ _ _ _ _ _ (bJ _))
 refine tk 0 ?_;refine tk 1 ?_;refine tk 2 ?_;refine tk 4 ?_;refine tk 6 ?_;refine tk 7 ?_;refine tk 8 ?_;try simp only[Act.put,aA,az,ay]
 refine rd [3,5] (AllReady.cons rfl (fun K a=> ?_) (rn fun K a=> ?_))
 focus
  go_simp
  refine a _ _ ?_;clear a K
  refine rd [5] (rn fun K a=> ?_)
  go_simp
  refine (rB _ p b.o.2.1).mono ?_
  rintro e w1 ⟨rfl,rfl⟩
  refine a _ _ ?_;clear a K
  refine rd [9] (rn fun K a=> ?_)
  go_simp
  refine (nY _ (bs T) p (by rw[aP,d.o];have:=b.o;omega) (by rw[aP,d.o];decide)).mono ?_
  rintro e w ⟨rfl,A⟩
  have f:=aa (u.o.still A)
  have j:=f.o.cell
  have m:=aa (F.o.trans (aG.aJ A (fun k=>¬R k)) (fun _ _ h=>h))
  clear A
  refine a _ _ ?_;clear a K
 rotate_left
 focus
  go_simp
  refine (rB _ p b.o.2.1).mono ?_
  rintro e w1 ⟨rfl,rfl⟩
  refine a _ _ ?_;clear a K
  refine rd [3,9] (AllReady.cons rfl (fun K a=> ?_) (rn fun K a=> ?_))
  focus
   go_simp
   refine a _ _ ?_;clear a K
   refine rd [9] (rn fun K a=> ?_)
   go_simp
   refine (nY _ (bs T) p (by rw[aP,d.o];have:=b.o;omega) (by rw[aP,d.o];decide)).mono ?_
   rintro e w ⟨rfl,A⟩
   have f:=aa (u.o.still A)
   have j:=f.o.cell
   have m:=aa (F.o.trans (aG.aJ A (fun k=>¬R k)) (fun _ _ h=>h))
   clear A
   refine a _ _ ?_;clear a K
  rotate_left
  focus
   go_simp
   refine (nY _ (bs T) p (by rw[aP,d.o];have:=b.o;omega) (by rw[aP,d.o];decide)).mono ?_
   rintro e w ⟨rfl,A⟩
   have f:=aa (u.o.still A)
   have j:=f.o.cell
   have m:=aa (F.o.trans (aG.aJ A (fun k=>¬R k)) (fun _ _ h=>h))
   clear A
   refine a _ _ ?_;clear a K
   refine rd [3] (rn fun K a=> ?_)
   go_simp
   refine a _ _ ?_;clear a K
 all_goals
  refine rd [10] (rn fun K a=> ?_)
  go_simp
  refine (rz f.o.c 1 _ b.o.2.2.1 b.o.2.2.2.1 (by rw[aP,Rm.k_,bS,d.o];decide) b.o.2.2.2.2).mono ?_;rintro e w3 ⟨rfl,h3,q⟩
  refine a _ _ ?_;clear a K
  rw[bS,bS] at h3
  have x:=aa (And.intro h3 (m.o.trans q (fun _ _ h=>h)))
  clear q h3
  refine rd [11] (rn fun K a=> ?_)
  go_simp
  refine a _ _ ?_;clear a K
  refine wpAny_done (by kernel_rfl) ?_ _
  go_wp2
  go_ret
  exact⟨rfl,x.o⟩
end
namespace Rm
def rC (pg:List (Option Wl.Text)) (i:Int):List (Option Wl.Text):=if refuse pg i=0 then pg.set i.toNat av else pg
def written (pg:List (Option Wl.Text)) (i:Int) (s:Wl.Text):List (Option Wl.Text):=if wrote pg i s.length=0 then pg.set i.toNat (aD (Dk.full s)) else pg
def lz (pg:List (Option Wl.Text)):List (Option Wl.Text):=match firstFree pg with|some p=>pg.set p (aD (Dk.full []))|none=>pg
def alloc (pg:List (Option Wl.Text)):Int×Int:=match firstFree pg with|some p=>((p:Nat),0)|none=>(0,4)
end Rm
section
variable {X X':World} {R R' S:Nat->Prop} {ring g N lb tb rb:Nat} {H H':List Wl.Text} {ps ps':List (Nat×List UInt8)} {pg dh:List (Option Wl.Text)} {rt rt':List Nat}
def Al (R:Nat->Prop) (ring g N lb tb rb:Nat) (H:List Wl.Text) (ps:List (Nat×List UInt8)) (pg:List (Option Wl.Text)) (rt:List Nat) (X X':World):Prop:=
 ∃ps',(ps'.length<=ps.length+2/\ps<+:ps')/\jE R ring g N lb tb rb H ps' pg rt X'/\aG (fun k=>¬R k) X X'
theorem Al.none (h:jE R ring g N lb tb rb H ps pg rt X) (a:Below X.heap.size X X'):Al R ring g N lb tb rb H ps pg rt X X':=⟨ps,⟨by omega,List.prefix_refl _⟩,h.still a,aG.aJ a _⟩
theorem II (h:jE R ring g N lb tb rb H ps pg rt X) (p:Nat) (hp:p<pg.length) (hs:pg.getD p av=av) (r:ps.length<=80000000):
  Calls Tryz.prog 225 #[ptr rb,bf cu p] X fun e X'=>e=eb (bf cu 0)/\Al R ring g N lb tb rb H ps (pg.set p (aD (Dk.full []))) rt X X':=by
 have s:=aa h;have b:=aa (show p<pg.length/\2+p<H.length/\H.length<=65536/\ps.length<=90000000 by have:=h.rep.few;have:=h.len;omega);have f:=aa (And.intro hs r);have hc:=h.cell;have u:=aa (h.still ((Below.refl X.heap.size X).drew));have F:=aa (show aG (fun k=>¬R k) X X.drew from (aG.refl _ _).drew);clear h hp r hs;have key:∀w3:World,C1 R ring g N lb tb H (ps++[(2+p,[])]) w3->aG (fun k=>¬R k) X w3->jE R ring g N lb tb rb H (ps++[(2+p,[])]) pg rt w3:=fun w3 hc j=>
  s.o.put b.o.2.1 hc j (s.o.rep.RE b.o.1 f.o.1 (by decide)) rfl
 have l:=aa key;have V:∀w3 w:World,jE R ring g N lb tb rb H (ps++[(2+p,[])]) pg rt w3->aG (fun k=>¬R k) X w3->C1 R ring g N lb tb H ((ps++[(2+p,[])])++[(1,Rm.flip ((Wl.along H (Tx.pN (ps++[(2+p,[])]))).getD 1 []) p)]) w->aG (fun k=>¬R k) w3 w->Al R ring g N lb tb rb H ps (pg.set p (aD (Dk.full []))) rt X w:=by
  intro w3 w h3 j hc A;have hl:=b.o.2.1;have a:(Wl.along H (Tx.pN ps)).length=H.length:=Wl.cY _ _;refine⟨_, ?_,jE.put (dh:=pg.set p (aD (Dk.full []))) (rt':=rt) h3 (by omega) hc A ?_ (by rw[bP]),j.trans A (fun _ _ h=>h)⟩;·grind
  ·have x:=h3.rep.home (i:=1) (by rw[Wl.cY];omega);rw[show Dk.full (Rm.flip ((Wl.along H (Tx.pN (ps++[(2+p,[])]))).getD 1 []) p)=Rm.flip ((Wl.along H (Tx.pN (ps++[(2+p,[])]))).getD 1 []) p from Wl.mZ (by rw[Rm.k_];exact x)];refine h3.rep.ij b.o.1 (by rw[f.o.1];rfl) (fun t m=> ?_);injection m with m;rw[vS,Rm.dO.dU _ _ _ _ _ (by rw[a];exact hl),if_pos rfl,m]
 have Y:=aa V;clear key V;go_enter Tryz.func225,Tryz.ntmps225;unfold ptr;go_wp2_with (refine wp_region_any (by kernel_rfl) ?_;refine Hid.o ?_);refine aa ?_;try (change wpAny _ _ _ _ _ _ _ (bJ _))
 refine tk 0 ?_;refine tk 1 ?_;refine tk 2 ?_;refine tk 4 ?_;refine tk 5 ?_;try simp only[Act.put,aA,az,ay]
 refine rd [3,6] (AllReady.cons rfl (fun K a=> ?_) (rn fun K a=> ?_))
 focus
  go_simp
  refine a _ _ ?_;clear a K
  refine rd [6] (rn fun K a=> ?_)
  go_simp
  refine (gi u.o p b.o.1).mono ?_
  rintro e w1 ⟨rfl,rfl⟩
  refine a _ _ ?_;clear a K
 rotate_left
 focus
  go_simp
  refine (gi u.o p b.o.1).mono ?_
  rintro e w1 ⟨rfl,rfl⟩
  refine a _ _ ?_;clear a K
  refine rd [3] (rn fun K a=> ?_)
  go_simp
  refine a _ _ ?_;clear a K
 all_goals
  refine rd [7] (rn fun K a=> ?_)
  go_simp
  refine (rz u.o.c (2+p) ⟨#[]⟩ b.o.2.1 b.o.2.2.1 (by decide) b.o.2.2.2).mono ?_;rintro e w3 ⟨rfl,h3,B⟩
  refine a _ _ ?_;clear a K
  have n:=aa (And.intro h3 (F.o.trans B (fun _ _ h=>h)))
  clear B h3
  refine rd [8] (rn fun K a=> ?_)
  go_simp
  refine a _ _ ?_;clear a K
  refine wpAny_done (by kernel_rfl) ?_ _
  have v:=aa (l.o _ n.o.1 n.o.2)
  go_wp2_with fail
  refine (yX v.o p b.o.1 (by have:=f.o.2;rw[au];show ps.length+1<=90000000;omega)).mono ?_
  rintro e w ⟨rfl,h4,d⟩
  have q:=aa (Y.o _ _ v.o n.o.2 h4 d)
  clear h4 d
  go_wp2
  go_ret
  exact⟨rfl,q.o⟩
theorem EI (h:jE R ring g N lb tb rb H ps pg rt X) (d:ps.length<=80000000):
  Calls Tryz.prog 209 #[ptr rb] X fun e X'=>e=eb (gu #[bf cu (Rm.alloc pg).1,bf cu (Rm.alloc pg).2])/\Al R ring g N lb tb rb H ps (Rm.lz pg) rt X X':=by
 have hf:=vT h;rcases Rm.nG pg with e|⟨p,e,hp,hs⟩
 ·have ha:Rm.lz pg=pg:=by unfold Rm.lz;rw[e]
  have a:Rm.alloc pg=(0,4):=by unfold Rm.alloc;rw[e]
  rw[ha,a];rw[e] at hf;have f:=aa hf;have i:=aa h;clear h hf ha a e d;go_enter Tryz.func209,Tryz.ntmps209;unfold ptr;go_wp2_with fail;refine f.o.mono ?_;rintro e X1 ⟨rfl,b⟩;go_wp2
  go_ret2
  exact⟨rfl,Al.none i.o b⟩
 ·have ha:Rm.lz pg=pg.set p (aD (Dk.full [])):=by unfold Rm.lz;rw[e]
  have a:Rm.alloc pg=(((p:Nat):Int),0):=by unfold Rm.alloc;rw[e]
  rw[ha,a];rw[e] at hf;have f:=aa hf;have i:=aa h;have j:=aa (And.intro hp (And.intro hs d));clear h hf ha a e d hp hs;go_enter Tryz.func209,Tryz.ntmps209;unfold ptr;go_wp2_with fail;refine f.o.mono ?_;rintro e X1 ⟨rfl,b⟩;have m:=aa (i.o.still b);have F:=aa (aG.aJ b (fun k=>¬R k));clear b;go_wp2_with fail;refine (II m.o p j.o.1 j.o.2.1 j.o.2.2).mono ?_;rintro e X2 ⟨rfl,P,c,l,A⟩;have n:=aa (show Al R ring g N lb tb rb H ps (pg.set p (aD (Dk.full []))) rt X X2 from⟨P,c,l,F.o.trans A (fun _ _ h=>h)⟩);clear l A c;go_wp2
  go_ret2
  exact⟨rfl,n.o⟩
theorem IJ (h:jE R ring g N lb tb rb H ps pg rt X) (i:Int) (j:ps.length<=80000000):
  Calls Tryz.prog 140 #[ptr rb,bf cu i] X fun e X'=>e=eb (bf cu (Rm.refuse pg i))/\Al R ring g N lb tb rb H ps (Rm.rC pg i) rt X X':=by
 have l:=aa (ni h i);rcases Rm.vB pg i with⟨n,hr,hg,hh,hn⟩|⟨p,rfl,hp,hs,hr,hg,hh,hn⟩|⟨p,t,rfl,hp,hs,hr,hg,hh,hn⟩
 ·have ha:Rm.rC pg i=pg:=by unfold Rm.rC;rw[hr,if_neg (by decide)]
  rw[ha,hr];have c:=aa hr;have d:=aa h;clear hr hg hh hn h n ha j;go_enter Tryz.func140,Tryz.ntmps140;unfold ptr;go_wp2_with fail;refine l.o.mono ?_;rintro e X' ⟨rfl,a⟩;rw[c.o];go_wp2;go_ret;exact⟨rfl,Al.none d.o a⟩
 ·have ha:Rm.rC pg p=pg:=by unfold Rm.rC;rw[hr,if_neg (by decide)]
  rw[ha,hr];have c:=aa hr;have d:=aa h;clear hr hg hh hn h hp hs ha j;go_enter Tryz.func140,Tryz.ntmps140;unfold ptr;go_wp2_with fail;refine l.o.mono ?_;rintro e X' ⟨rfl,a⟩;rw[c.o];go_wp2;go_ret;exact⟨rfl,Al.none d.o a⟩
 ·have ha:Rm.rC pg p=pg.set p none:=by unfold Rm.rC;rw[hr,if_pos rfl,dF]
  rw[ha,hr];have c:=aa hr;have d:=aa h;have b:=aa (show p<pg.length/\(pg.getD p av).isSome/\ps.length<=90000000/\1<H.length from⟨hp,by rw[hs];rfl,by omega,by have:=h.len;omega⟩);clear hr hg hh hn h hp hs ha j;go_enter Tryz.func140,Tryz.ntmps140;unfold ptr;go_wp2_with fail;refine l.o.mono ?_;rintro e X' ⟨rfl,a⟩;rw[c.o];have f:=aa (d.o.still a);have F:=aa (aG.aJ a (fun k=>¬R k));clear a;go_wp2_with fail;refine (yX f.o p b.o.1 b.o.2.2.1).mono ?_;rintro e X2 ⟨rfl,m,A⟩
  have q:=aa (show Al R ring g N lb tb rb H ps (pg.set p av) rt X X2 by
   have r:=f.o.rep.home (i:=1) (by rw[Wl.cY];exact b.o.2.2.2);refine⟨_, ?_,jE.put (dh:=pg.set p av) (rt':=rt) f.o b.o.2.2.2 m A ?_ (by rw[bP]),F.o.trans A (fun _ _ h=>h)⟩;·grind
   ·rw[show Dk.full (Rm.flip ((Wl.along H (Tx.pN ps)).getD 1 []) p)=Rm.flip ((Wl.along H (Tx.pN ps)).getD 1 []) p from Wl.mZ (by rw[Rm.k_];exact r)];exact f.o.rep.free b.o.1 b.o.2.1)
  clear m A;go_wp2;go_ret;exact⟨rfl,q.o⟩
theorem EJ (h:jE R ring g N lb tb rb H ps pg rt X) (i:Int) (s:ByteArray) (q:ps.length<=80000000):
  Calls Tryz.prog 181 #[ptr rb,bf cu i,bR s] X fun e X'=>e=eb (bf cu (Rm.wrote pg i s.size))/\Al R ring g N lb tb rb H ps (Rm.written pg i s.data.toList) rt X X':=by
 have r:=aa (ni h i);have d:s.data.toList.length=s.size:=bk;rcases Rm.vB pg i with⟨z,hr,hg,hh,hn⟩|⟨p,rfl,hp,hs,hr,hg,hh,hn⟩|⟨p,t,rfl,hp,hs,hr,hg,hh,hn⟩
 ·have b:∀n,Rm.wrote pg i n=2:=fun n=>by unfold Rm.wrote;rw[hr,if_neg (by decide)]
  have ha:Rm.written pg i s.data.toList=pg:=by unfold Rm.written;rw[b,if_neg (by decide)]
  rw[ha,b];have m:=aa hr;have l:=aa h;clear hr hg hh hn h z ha q b d;go_enter Tryz.func181,Tryz.ntmps181;unfold ptr;go_wp2_with fail;refine r.o.mono ?_;rintro e X' ⟨rfl,j⟩;rw[m.o];go_wp2;go_ret;exact⟨rfl,Al.none l.o j⟩
 ·have b:∀n,Rm.wrote pg p n=6:=fun n=>by unfold Rm.wrote;rw[hr,if_neg (by decide)]
  have ha:Rm.written pg p s.data.toList=pg:=by unfold Rm.written;rw[b,if_neg (by decide)]
  rw[ha,b];have m:=aa hr;have l:=aa h;clear hr hg hh hn h hp hs ha q b d;go_enter Tryz.func181,Tryz.ntmps181;unfold ptr;go_wp2_with fail;refine r.o.mono ?_;rintro e X' ⟨rfl,j⟩;rw[m.o];go_wp2;go_ret;exact⟨rfl,Al.none l.o j⟩
 ·by_cases w:s.size<=512
  ·have b:Rm.wrote pg p s.size=0:=(by unfold Rm.wrote;rw[hr,if_pos rfl,if_neg (by omega)]);have ha:Rm.written pg p s.data.toList=pg.set p (aD (Dk.full s.data.toList)):=(by unfold Rm.written;rw[d,b,if_pos rfl,dF]);rw[ha,b];have m:=aa hr;have l:=aa h;have v:=aa w;have f:=aa (show p<pg.length/\2+p<H.length/\H.length<=65536/\ps.length<=90000000/\(pg.getD p av).isSome from⟨hp,by have:=h.len;omega,by have:=h.len;have:=h.rep.few;omega,by omega,by rw[hs];rfl⟩);clear hr hg hh hn h hp hs ha q b d w;go_enter Tryz.func181,Tryz.ntmps181;unfold ptr;go_wp2_with fail;refine r.o.mono ?_;rintro e X1 ⟨rfl,j⟩;rw[m.o];have x:=aa (l.o.still j);have u:=aa (x.o.still ((Below.refl X1.heap.size X1).drew));have F:=aa (show aG (fun k=>¬R k) X X1.drew from (aG.aJ j _).drew);have A:=u.o.cell;clear j;go_wp2_with (refine wp_region_any (by kernel_rfl) ?_;refine Hid.o ?_);refine aa ?_;try (change wpAny _ _ _ _ _ _ _ (bJ _))
   refine tk 0 ?_;refine tk 1 ?_;refine tk 2 ?_;refine tk 4 ?_;refine tk 5 ?_;refine tk 7 ?_;try simp only[Act.put,aA,az,ay]
   refine rd [3,6] (AllReady.cons rfl (fun K a=> ?_) (rn fun K a=> ?_))
   focus
    go_simp
    refine a _ _ ?_;clear a K
    refine rd [6] (rn fun K a=> ?_)
    go_simp
    refine (gi u.o p f.o.1).mono ?_
    rintro e w1 ⟨rfl,rfl⟩
    refine a _ _ ?_;clear a K
   rotate_left
   focus
    go_simp
    refine (gi u.o p f.o.1).mono ?_
    rintro e w1 ⟨rfl,rfl⟩
    refine a _ _ ?_;clear a K
    refine rd [3] (rn fun K a=> ?_)
    go_simp
    refine a _ _ ?_;clear a K
   all_goals
    refine rd [8] (rn fun K a=> ?_)
    go_simp
    refine (rz u.o.c (2+p) s f.o.2.1 f.o.2.2.1 v.o f.o.2.2.2.1).mono ?_;rintro e w3 ⟨rfl,h3,B⟩
    refine a _ _ ?_;clear a K
    have C:=aa (show Al R ring g N lb tb rb H ps (pg.set p (aD (Dk.full s.data.toList))) rt X w3 by
     refine⟨_, ?_,jE.put (dh:=pg.set p (aD (Dk.full s.data.toList))) (rt':=rt) u.o f.o.2.1 h3 B (u.o.rep.write f.o.1 f.o.2.2.2.2 (Dk.fu _ (by rw[bk];exact v.o))) (by rw[bP]),F.o.trans B (fun _ _ h=>h)⟩;exact⟨by rw[au];show ps.length+1<=_;omega,List.prefix_append _ _⟩)
    clear B h3
    refine rd [9] (rn fun K a=> ?_)
    go_simp
    refine a _ _ ?_;clear a K
    refine wpAny_done (by kernel_rfl) ?_ _
    go_wp2
    go_ret
    exact⟨rfl,C.o⟩
  ·have b:Rm.wrote pg p s.size=5:=(by unfold Rm.wrote;rw[hr,if_pos rfl,if_pos (by omega)]);have ha:Rm.written pg p s.data.toList=pg:=(by unfold Rm.written;rw[d,b,if_neg (by decide)]);rw[ha,b];have m:=aa hr;have l:=aa h;have v:=aa (show 512<s.size by omega);have f:=aa (show p<pg.length/\2+p<H.length from⟨hp,by have:=h.len;omega⟩);clear hr hg hh hn h hp hs ha q b d w;go_enter Tryz.func181,Tryz.ntmps181;unfold ptr;go_wp2_with fail;refine r.o.mono ?_;rintro e X1 ⟨rfl,j⟩;rw[m.o];have x:=aa (l.o.still j);have u:=aa (x.o.still ((Below.refl X1.heap.size X1).drew));have y:=aa (j.drew);have A:=u.o.cell;clear j;go_wp2_with (refine wp_region_any (by kernel_rfl) ?_;refine Hid.o ?_);refine aa ?_;try (change wpAny _ _ _ _ _ _ _ (bJ _))
   refine tk 0 ?_;refine tk 1 ?_;refine tk 2 ?_;refine tk 4 ?_;refine tk 5 ?_;refine tk 7 ?_;try simp only[Act.put,aA,az,ay]
   refine rd [3,6] (AllReady.cons rfl (fun K a=> ?_) (rn fun K a=> ?_))
   focus
    go_simp
    refine a _ _ ?_;clear a K
    refine rd [6] (rn fun K a=> ?_)
    go_simp
    refine (gi u.o p f.o.1).mono ?_
    rintro e w1 ⟨rfl,rfl⟩
    refine a _ _ ?_;clear a K
   rotate_left
   focus
    go_simp
    refine (gi u.o p f.o.1).mono ?_
    rintro e w1 ⟨rfl,rfl⟩
    refine a _ _ ?_;clear a K
    refine rd [3] (rn fun K a=> ?_)
    go_simp
    refine a _ _ ?_;clear a K
   all_goals
    refine rd [8] (rn fun K a=> ?_)
    go_simp
    refine (Cd u.o.c (2+p:Nat) s 5 (dn ⟨rfl,by omega,by have:=f.o.2;omega,v.o⟩)).mono ?_;rintro e w3 ⟨rfl,rfl⟩
    refine a _ _ ?_;clear a K
    refine rd [9] (rn fun K a=> ?_)
    go_simp
    refine a _ _ ?_;clear a K
    refine wpAny_done (by kernel_rfl) ?_ _
    go_wp2
    go_ret
    exact⟨rfl,Al.none l.o y.o⟩
end
theorem Am (w:World) (s:ByteArray) (k:Nat) (hs:s.size=512) (u:k<16):
  Calls Tryz.prog 74 #[bR s,bf cu k] w fun e w'=>e=eb (bf dg (Rm.num s.data.toList k:Nat))/\w'=w:=by
 have y:(s.size:Int)=512:=by omega
 have U:(k:Int)<=15:=by omega
 have d:=aa hs;clear hs;go_enter Tryz.func74,Tryz.ntmps74;go_wp2
 go_loop [5,7] (fun n i=>∃j:Nat,j<=8/\i=bf cu j/\n=bf dg (Rm.ju s.data.toList k j:Nat)) (fun _ i=>8-(RowKit.intOf i).toNat)
 case atStart=>exact⟨0,aB _,rfl,rfl⟩
 case round=>
  obtain⟨j,v,rfl,rfl⟩:=hrel;by_cases h:j<8
  ·have g:(j:Int)<8:=(by omega);have hd:Rm.ju s.data.toList k j<2^56:=(by have x:=Rm.BO s.data.toList k j;have h3:256^j<=256^7:=Nat.pow_le_pow_right (by decide) (by omega);have h4:(256:Nat)^7=2^56:=(by decide);omega);have H:8*k+j<s.size:=(by rw[d.o];omega);obtain⟨q,b⟩:∃q:Nat,q=8*k+j:=⟨_,rfl⟩;have l:8*(k:Int)+j=(q:Int):=(by omega);have c:q<s.size:=(by rw[b];exact H);have A:(q:Int)<512:=(by have:=d.o;omega);have m:=s[q].toNat_lt
   have p:=aa (show Rm.ju s.data.toList k (j+1)=Rm.ju s.data.toList k j*256+s[q].toNat by
    show _*256+(s.data.toList.getD (8*k+j) 0).toNat=_;rw[<-b,z_ s q c])
   have r:=aa (Gm _ _ hd m);generalize Rm.ju s.data.toList k j=a at*;have L:(a:Int)<72057594037927936:=(by omega);have t:(0:Int)<=a:=(by omega);have f:=aa h;clear hd H b h;go_wp2
   go_round
   case rel=>exact⟨j+1,f.o,by go_num,by rw[p.o,r.o]⟩
   case measure=>have:=f.o;simp[RowKit.intOf];omega
  ·have Y:=aa (show j=8 by omega);have g:¬(j:Int)<8:=(by omega);go_wp2;go_ret;refine⟨?_,rfl⟩;rw[Y.o];rfl
theorem LC (n k:Nat):(n:Int)/2^(8*(7-k))%256=((bz (n/256^(7-k))).toNat:Int):=sB n (7-k)
theorem ox (w:World) (s:ByteArray) (k n:Nat) (d:k<16) (hs:s.size=512) (hn:n<18446744073709551616):
  Calls Tryz.prog 186 #[bR s,bf cu k,bf dg n] w fun e w'=>e=eb (bR (bs (Rm.put s.data.toList k n)))/\Below w.heap.size w w':=by
 have K:(k:Int)<=15:=by omega
 have Q:(n:Int)<=18446744073709551615:=by omega
 have y:(0:Int)<=n:=by omega
 obtain⟨v,o,U,hown⟩:=pV w s (by omega);obtain⟨g,cap,rfl,h⟩:=hown.slice;have hl:s.data.toList.length=512:=by rw[bk];exact hs
 rw[hl] at U hown;have f:=aa hown.toZ;have l:=aa (show Below w.heap.size w (w.drew.alloc o) from (Below.refl _ w).drew.alloc (ah _) o);obtain⟨W,m⟩:∃W,W=w.drew.alloc o:=⟨_,rfl⟩;rw[<-m] at U f l;have z:=aa d;have A:=aa hl;have B:=aa h;clear hown hl m hs d h;go_enter Tryz.func186,Tryz.ntmps186;go_wp2
 go_loopw [11] (fun i wr=>∃j:Nat,j<=8/\i=bf cu j/\Hid (fk false w.heap.size wr (cx (aD ⟨g,0,av⟩) 512 cap) (Rm.pU s.data.toList k n j))/\Hid (Below w.heap.size w wr)) (fun i _=>8-(RowKit.intOf i).toNat)
 case atStart=>exact⟨0,aB _,rfl,f,l⟩
 case round=>
  obtain⟨j,M,rfl,a,p⟩:=hrel;by_cases H:j<8
  ·have C:(j:Int)<8:=(by omega);obtain⟨q,r⟩:∃q:Nat,q=8*k+j:=⟨_,rfl⟩;have D:8*(k:Int)+j=(q:Int):=(by omega);have E:(q:Int)<512:=(by have:=z.o;omega);have L:q<(Rm.pU s.data.toList k n j).length:=(by rw[Rm.jM,A.o];omega);obtain⟨t,u⟩:∃t:Nat,t=8*(7-j):=⟨_,rfl⟩;have F:8*((7:Int)-j)=(t:Int):=(by omega);have N:(0:Int)<=t:=(by omega);have G:(t:Int)<=56:=(by omega);have c1:=a.o.cell q L;have f1:=a.o.frozen q L;have I:=aa (show (n:Int)/2^t%256=((bz (n/256^(7-j))).toNat:Int) by rw[u];exact LC n j)
   have J:=aa (show fk false w.heap.size (wr.setCell ⟨g,q,av⟩ (bV (bz (n/256^(7-j))))) (cx (aD ⟨g,0,av⟩) 512 cap) (Rm.pU s.data.toList k n (j+1)) by
    show fk false w.heap.size _ _ ((Rm.pU s.data.toList k n j).set (8*k+j) _);rw[<-r];exact a.o.store q _)
   unfold bV at c1;obtain⟨b,x⟩:∃b,b=(Rm.pU s.data.toList k n j)[q]:=⟨_,rfl⟩;rw[<-x] at c1;have c:=aa (And.intro H p.o);clear r L H x u;go_wp2;rw[I.o];refine⟨⟨j+1,c.o.1,by go_num,J,aa (c.o.2.setCell (by show w.heap.size<=g;exact B.o) _)⟩, ?_⟩;have:=c.o.1;simp[RowKit.intOf];omega
  ·have Y:=aa (show j=8 by omega);have C:¬(j:Int)<8:=(by omega);have O:=a.o.back;go_wp2;go_ret;refine⟨?_,p.o⟩;rw[Y.o];rfl
section
variable {X X':World} {R R' S:Nat->Prop} {ring g N lb tb rb:Nat} {H H':List Wl.Text} {ps ps':List (Nat×List UInt8)} {pg dh:List (Option Wl.Text)} {rt rt':List Nat}
theorem vU (h:jE R ring g N lb tb rb H ps pg rt X) (k:Nat) (c:k<16):
  Calls Tryz.prog 73 #[ptr rb,bf cu k] X fun e X'=>e=eb (gu #[bR (bs ((Wl.along H (Tx.pN ps)).getD 0 [])),bf cu 0])/\Below X.heap.size X X':=by
 have a:=aa h;clear h;have d:¬(k:Int)<0:=by omega
 have f:¬(16:Int)<=k:=by omega
 go_enter Tryz.func73,Tryz.ntmps73;unfold ptr;go_wp2_with fail;refine (o9 a.o 0 (by have:=a.o.len;omega)).mono ?_;rintro e X' ⟨rfl,b⟩;go_wp2
 go_ret2
 exact⟨rfl,b⟩
theorem o_ (h:jE R ring g N lb tb rb H ps pg rt X) (k:Nat) (a:k<16):
  Calls Tryz.prog 47 #[ptr rb,bf cu k] X fun e X'=>e=eb (gu #[bf dg (rt.getD k 0:Nat),bf cu 0])/\Below X.heap.size X X':=by
 have c:=aa h;have d:=aa (h.rep.num k a);have f:=aa (h.rep.home (i:=0) (by rw[Wl.cY,h.len];omega));have b:=aa a;clear h a;go_enter Tryz.func47,Tryz.ntmps47;unfold ptr;go_wp2_with fail;refine (vU c.o k b.o).mono ?_;rintro e X' ⟨rfl,j⟩;generalize (Wl.along H (Tx.pN ps)).getD 0 []=T at*;go_wp2_with fail;refine (Am X' (bs T) k (by rw[aP];exact f.o) b.o).mono ?_;rintro e X' ⟨rfl,rfl⟩;rw[bS,d.o];go_wp2
 go_ret2
 exact⟨rfl,j⟩
theorem Ao (h:jE R ring g N lb tb rb H ps pg rt X) (k n:Nat) (s:k<16) (hn:n<18446744073709551616) (t:ps.length<=80000000):
  Calls Tryz.prog 141 #[ptr rb,bf cu k,bf dg n] X fun e X'=>e=eb (bf cu 0)/\Al R ring g N lb tb rb H ps pg (rt.set k n) X X':=by
 have p:=aa h;obtain⟨T,j⟩:∃T,T=(Wl.along H (Tx.pN ps)).getD 0 []:=⟨_,rfl⟩;have q:=aa j;have f:=aa (show T.length=512 by rw[j];exact h.rep.home (i:=0) (by rw[Wl.cY,h.len];omega));have b:=aa (show k<16/\n<18446744073709551616/\0<H.length/\H.length<=65536/\ps.length<=90000000 by have:=h.rep.few;have:=h.len;omega);clear j h s hn t;go_enter Tryz.func141,Tryz.ntmps141;unfold ptr;go_wp2_with fail;refine (vU p.o k b.o.1).mono ?_;rintro e X1 ⟨rfl,l⟩;rw[<-q.o];have v:=aa (p.o.still l);have u:=aa (v.o.still ((Below.refl X1.heap.size X1).drew));have F:=aa (show aG (fun k=>¬R k) X X1.drew from (aG.aJ l _).drew);have y:=u.o.cell;clear l;go_wp2_with (refine wp_region_any (by kernel_rfl) ?_;refine Hid.o ?_);refine aa ?_;try (change wpAny _ _ _ _ _ _ _ (bJ _))
 refine tk 0 ?_;refine tk 1 ?_;refine tk 2 ?_;refine tk 4 ?_;refine tk 5 ?_;refine tk 6 ?_;try simp only[Act.put,aA,az,ay]
 refine rd [3,7] (AllReady.cons rfl (fun K a=> ?_) (rn fun K a=> ?_))
 focus
  go_simp
  refine a _ _ ?_;clear a K
  refine rd [7] (rn fun K a=> ?_)
  go_simp
  refine (ox _ (bs T) k n b.o.1 (by rw[aP];exact f.o) b.o.2.1).mono ?_
  rintro e w ⟨rfl,A⟩
  have d:=aa (u.o.still A)
  have m:=d.o.cell
  have r:=aa (F.o.trans (aG.aJ A (fun k=>¬R k)) (fun _ _ h=>h))
  clear A
  refine a _ _ ?_;clear a K
 rotate_left
 focus
  go_simp
  refine (ox _ (bs T) k n b.o.1 (by rw[aP];exact f.o) b.o.2.1).mono ?_
  rintro e w ⟨rfl,A⟩
  have d:=aa (u.o.still A)
  have m:=d.o.cell
  have r:=aa (F.o.trans (aG.aJ A (fun k=>¬R k)) (fun _ _ h=>h))
  clear A
  refine a _ _ ?_;clear a K
  refine rd [3] (rn fun K a=> ?_)
  go_simp
  refine a _ _ ?_;clear a K
 all_goals
  refine rd [8] (rn fun K a=> ?_)
  go_simp
  refine (rz d.o.c 0 _ b.o.2.2.1 b.o.2.2.2.1 (by rw[aP,Rm.p6,bS,f.o];decide) b.o.2.2.2.2).mono ?_;rintro e w3 ⟨rfl,h3,B⟩
  refine a _ _ ?_;clear a K
  rw[bS,bS] at h3
  have x:=aa (show Al R ring g N lb tb rb H ps pg (rt.set k n) X w3 by
   refine⟨_, ?_,jE.put (dh:=pg) (rt':=rt.set k n) d.o b.o.2.2.1 h3 B ?_ rfl,r.o.trans B (fun _ _ h=>h)⟩;·exact⟨by rw[au];show ps.length+1<=_;omega,List.prefix_append _ _⟩
   ·rw[show Dk.full (Rm.put T k n)=Rm.put T k n from Wl.mZ (by rw[Rm.p6];exact f.o),q.o];exact d.o.rep.set b.o.1 (by have:=b.o.2.1;rw[show (256:Nat)^8=18446744073709551616 by decide];exact this))
  clear B h3
  refine rd [9] (rn fun K a=> ?_)
  go_simp
  refine a _ _ ?_;clear a K
  refine wpAny_done (by kernel_rfl) ?_ _
  go_wp2
  go_ret
  exact⟨rfl,x.o⟩
end
def upd (M:Nat->Option NV) (p:Nat) (n:NV):Nat->Option NV:=fun q=>if q=p then aD n else M q
theorem bG (M:Nat->Option NV) (p:Nat) (n:NV):upd M p n p=aD n:=if_pos rfl
theorem aW {M:Nat->Option NV} {p q:Nat} {n:NV} (h:q≠p):upd M p n q=M q:=if_neg h
theorem aN {M:Nat->Option NV} {p q:Nat} {n m:NV} (h:upd M p n q=aD m):(q=p/\m=n)\/(q≠p/\M q=aD m):=by grind [bG,Option.some.inj,aW]
structure Mem (X:World) (M:Nat->Option NV):Prop where
 nd:∀p n,M p=aD n->Nd X p n
 ty:∀p n,M p=aD n->∃cur,X.heap[n.rg]?=aD (ey cur 122 (0,0))
 apart:∀p q n m,M p=aD n->M q=aD m->p≠q->n.rg≠m.rg\/(n.own=false/\m.own=false/\(n.ro+3*n.its.length<=m.ro\/m.ro+3*m.its.length<=n.ro))
 own:∀p n,M p=aD n->n.own=true->n.ro=0/\aY 0 X (cx (aD ⟨n.rg,0,av⟩) n.its.length n.cap) n.its
def MB (M:Nat->Option NV) (k:Nat):Prop:=∃p n,M p=aD n/\(k=p\/k=n.rg)
section
variable {X X':World} {M:Nat->Option NV} {S:Nat->Prop} {p q:Nat} {n m:NV}
theorem Nd.but (h:Nd X p n) (H:aG S X X') (hp:¬S p) (hr:¬S n.rg):Nd X' p n:=⟨h.blk.but H hp,h.row.but H hr,h.small⟩
theorem Mem.lt (h:Mem X M) (hp:M p=aD n):p<X.heap.size/\n.rg<X.heap.size:=⟨(h.nd p n hp).blk.lt,by
 obtain⟨cur,hc⟩:=h.ty p n hp;exact (iY.1 hc).1⟩
theorem Mem.mu (h:Mem X M) {k:Nat} (H:MB M k):k<X.heap.size:=by
 obtain⟨p,n,hp,rfl|rfl⟩:=H;·exact (h.lt hp).1
 ·exact (h.lt hp).2
theorem Mem.EK (h:Mem X M) (hp:M p=aD n) (H:M q=aD m):n.rg≠q:=by intro e;obtain⟨cur,hc⟩:=h.ty p n hp;have:=(h.nd q m H).blk;unfold aU at this;rw[<-e,hc] at this;injection this with this;injection this with _ e2;exact absurd e2 (by decide)
theorem Mem.keep (h:Mem X M) (H:aG S X X') (hS:∀k,MB M k->¬S k):Mem X' M:=by
 refine⟨fun p n hp=>(h.nd p n hp).but H (hS p ⟨p,n,hp,dc rfl⟩) (hS _ ⟨p,n,hp,dn rfl⟩),fun p n hp=> ?_,h.apart,fun p n hp a=>⟨(h.own p n hp a).1,Own.but (h.own p n hp a).2 H fun k b=> ?_⟩⟩;·obtain⟨cur,hc⟩:=h.ty p n hp;exact⟨cur,by rw[H.block n.rg (h.lt hp).2 (hS _ ⟨p,n,hp,dn rfl⟩)];exact hc⟩
 ·have e:aD n.rg=aD k:=b;injection e with e;rw[<-e];exact hS _ ⟨p,n,hp,dn rfl⟩
theorem Mem.still (h:Mem X M) (H:Below X.heap.size X X'):Mem X' M:=h.keep (aG.aJ H (fun _=>False)) fun _ _ hf=>hf
theorem aY.ty {B g l c:Nat} {its:List It} (h:aY B X (cx (aD ⟨g,0,av⟩) l c) its):∃cur,X.heap[g]?=aD (ey cur 122 (0,0)):=Own.typed h rfl
theorem Mem.add (h:Mem X M) (d:Below X.heap.size X X') (hp:X.heap.size<=p) (hr:X.heap.size<=n.rg) (hn:Nd X' p n) (b:n.ro=0/\aY 0 X' (cx (aD ⟨n.rg,0,av⟩) n.its.length n.cap) n.its):Mem X' (upd M p n):=by
 have k:=h.still d;refine⟨fun q m H=> ?_,fun q m H=> ?_,fun q q' m e H c a=> ?_,fun q m H hown=> ?_⟩
 ·rcases aN H with⟨rfl,rfl⟩|⟨_,Q⟩;·exact hn
  ·exact k.nd q m Q
 ·rcases aN H with⟨rfl,rfl⟩|⟨_,Q⟩;·exact aY.ty b.2
  ·exact k.ty q m Q
 ·rcases aN H with⟨rfl,rfl⟩|⟨_,Q⟩
  ·rcases aN c with⟨rfl,rfl⟩|⟨_,v⟩;·exact absurd rfl a
   ·left;have:=(h.lt v).2;omega
  ·rcases aN c with⟨rfl,rfl⟩|⟨_,v⟩;·left;have:=(h.lt Q).2;omega
   ·exact h.apart q q' m e Q v a
 ·rcases aN H with⟨rfl,rfl⟩|⟨_,Q⟩;·exact b
  ·exact k.own q m Q hown
theorem Mem.cell (h:Mem X M) (hp:M p=aD n) (n':NV) (k:Nat) (v:Value) (hi:n'.its=n.its) (hg:n'.rg=n.rg) (d:n'.ro=n.ro) (hc:n'.cap=n.cap) (f:n'.own=n.own) (hcs:n.cells.set k v=n'.cells):Mem (X.setCell ⟨p,k,av⟩ v) (upd M p n'):=by
 have c:aG (fun b=>b=p) X (X.setCell ⟨p,k,av⟩ v):=(aG.refl (fun b=>b=p) X).setCell _ _ fun _=>rfl;have t:=h.nd p n hp;have N:Nd (X.setCell ⟨p,k,av⟩ v) p n':=⟨by rw[<-hcs];exact t.blk.set k v,by rw[hg,d,hi];exact t.row.but c (h.EK hp hp),⟨by rw[hi];exact t.small.len,by rw[hi];exact t.small.each,by rw[hi,hc];exact t.small.cap⟩⟩;refine⟨fun q m a=> ?_,fun q m a=> ?_,fun q q' m l a o H=> ?_,fun q m a hown=> ?_⟩
 ·rcases aN a with⟨rfl,rfl⟩|⟨H,Q⟩;·exact N
  ·exact (h.nd q m Q).but c H (h.EK Q hp)
 ·rcases aN a with⟨rfl,rfl⟩|⟨H,Q⟩;·obtain⟨cur,hc⟩:=h.ty _ n hp;exact⟨cur,by rw[hg,c.block n.rg (h.lt hp).2 (h.EK hp hp)];exact hc⟩
  ·obtain⟨cur,hc⟩:=h.ty q m Q;exact⟨cur,by rw[c.block m.rg (h.lt Q).2 (h.EK Q hp)];exact hc⟩
 ·rcases aN a with⟨rfl,rfl⟩|⟨K,Q⟩
  ·rcases aN o with⟨rfl,rfl⟩|⟨L,V⟩;·exact absurd rfl H
   ·rw[hg,f,d,hi];exact h.apart _ q' n l hp V H
  ·rcases aN o with⟨rfl,rfl⟩|⟨L,V⟩;·rw[hg,f,d,hi];exact h.apart q _ m n Q hp H
   ·exact h.apart q q' m l Q V H
 ·rcases aN a with⟨rfl,rfl⟩|⟨H,Q⟩;·rw[hg,d,hi,hc];rw[f] at hown;obtain⟨g,i⟩:=h.own _ n hp hown;exact⟨g,Own.but i c fun k j=>by have e:aD n.rg=aD k:=j;injection e with e;rw[<-e];exact h.EK hp hp⟩
  ·obtain⟨g,i⟩:=h.own q m Q hown;exact⟨g,Own.but i c fun k j=>by have e:aD m.rg=aD k:=j;injection e with e;rw[<-e];exact h.EK Q hp⟩
theorem vW (its:List It) (j f:Nat) (h:j<its.length) (hf:f<3) (it:It) (v:Value) (H:ak.enc it=(ak.enc its[j]).set f v):ak.cells (its.set j it)=(ak.cells its).set (j*3+f) v:=by
 induction its generalizing j with
 |nil=>cases h
 |cons a its i=>
  cases j with
  |zero=>rw[ay,Elem.cR,Elem.cR,H];have hl:(ak.enc a).length=3:=ak.len a;show (ak.enc a).set f v++_=_;rw[Nat.zero_mul,bE,List.set_append_left _ _ (by omega)]
  |succ j=>rw[az,Elem.cR,Elem.cR,i j (by simpa using h) H];have hl:(ak.enc a).length=3:=ak.len a;rw[List.set_append_right _ _ (by omega),hl,show (j+1)*3+f-3=j*3+f by omega]
theorem bu.stored {g o:Nat} {its:List It} (h:bu ak X g o its) (k:Nat) (v:Value) (H:k<its.length*3) {J:List It} (a:ak.cells J=(ak.cells its).set k v):bu ak (X.setCell ⟨g,o+k,av⟩ v) g o J:=by
 intro j u hu;rw[a] at hu;by_cases e:j=k
 ·subst e;rw[List.getElem?_set_self (by rw[ak.b_];exact H)] at hu;have b:v=u:=Option.some.inj hu;subst b;have c:j<(ak.cells its).length:=by rw[ak.b_];exact H
  exact World.cell?_setCell_same _ _ _ (h j _ (aK c))
 ·rw[sy (Ne.symm e)] at hu;have:=h j u hu;rw[<-this];exact World.cell?_setCell_other _ _ _ _ (by intro E;injection E with _ e3;omega)
theorem bu.apart {g o G O:Nat} {its:List It} (h:bu ak X G O its) (k:Nat) (v:Value) (H:G≠g\/o+k<O\/O+its.length*3<=o+k):bu ak (X.setCell ⟨g,o+k,av⟩ v) G O its:=by
 intro j u hu;have a:j<its.length*3:=by
  have:=(List.getElem?_eq_some_iff.1 hu).1
  rwa [ak.b_] at this
 have:=h j u hu;rw[<-this];refine World.cell?_setCell_other _ _ _ _ (by intro e;injection e with e1 e3;omega)
theorem Mem.item (h:Mem X M) (hp:M p=aD n) (j f:Nat) (x:j<n.its.length) (hf:f<3) (it:It) (v:Value) (y:ak.enc it=(ak.enc n.its[j]).set f v) (hs:it.key.length<=200/\it.val.length<=200):
  Mem (X.setCell ⟨n.rg,n.ro+(j*3+f),av⟩ v) (upd M p {n with its:=n.its.set j it}):=by
 have l:aG (fun b=>b=n.rg) X (X.setCell ⟨n.rg,n.ro+(j*3+f),av⟩ v):=(aG.refl (fun b=>b=n.rg) X).setCell _ _ fun _=>rfl;have t:=h.nd p n hp;have r:j*3+f<n.its.length*3:=by omega
 have c:=vW n.its j f x hf it v y;have H:(n.its.set j it).length=n.its.length:=bP
 have N:Nd (X.setCell ⟨n.rg,n.ro+(j*3+f),av⟩ v) p {n with its:=n.its.set j it}:=⟨by
  have e:NV.cells {n with its:=n.its.set j it}=n.cells:=by unfold NV.cells;simp only[H]
  rw[e]
  exact t.blk.but l (fun e=>h.EK hp hp e.symm),t.row.stored _ v r c,⟨by show (n.its.set j it).length<=400;rw[H];exact t.small.len,fun i hi=>by
   rcases List.mem_or_eq_of_mem_set hi with hi|rfl;·exact t.small.each i hi
   ·exact hs,by show (n.its.set j it).length<=_/\_;rw[H];exact t.small.cap⟩⟩
 have T:∀q m,M q=aD m->∃cur,(X.setCell ⟨n.rg,n.ro+(j*3+f),av⟩ v).heap[m.rg]?=aD (ey cur 122 (0,0)):=by
  intro q m d;obtain⟨cur,hc⟩:=h.ty q m d;by_cases e:m.rg=n.rg;·rw[e] at hc |-;exact⟨_,heap_setCell_same X n.rg _ cur _ v hc⟩
  ·exact⟨cur,by rw[l.block m.rg (h.lt d).2 e];exact hc⟩
 refine⟨fun q m d=> ?_,fun q m d=> ?_,fun q q' m g d w a=> ?_,fun q m d hown=> ?_⟩
 ·rcases aN d with⟨rfl,rfl⟩|⟨a,Q⟩;·exact N
  ·have s:=h.nd q m Q;refine⟨s.blk.but l (fun e=>h.EK hp Q e.symm),s.row.apart _ v ?_,s.small⟩;rcases h.apart q p m n Q hp a with e|⟨_,_,e|e⟩;·exact dc e
   ·right;right;omega
   ·right;left;omega
 ·grind [aN]
 ·rcases aN d with⟨rfl,rfl⟩|⟨K,Q⟩
  ·rcases aN w with⟨rfl,rfl⟩|⟨L,V⟩;·exact absurd rfl a
   ·show n.rg≠g.rg\/(n.own=false/\g.own=false/\(n.ro+3*(n.its.set j it).length<=g.ro\/_));rw[H];exact h.apart _ q' n g hp V a
  ·rcases aN w with⟨rfl,rfl⟩|⟨L,V⟩;·show m.rg≠n.rg\/(m.own=false/\n.own=false/\(_\/n.ro+3*(n.its.set j it).length<=m.ro));rw[H];exact h.apart q _ m n Q hp a
   ·exact h.apart q q' m g Q V a
 ·rcases aN d with⟨rfl,rfl⟩|⟨a,Q⟩;·obtain⟨o,u⟩:=h.own _ n hp hown;refine⟨o, ?_⟩;show aY 0 _ (cx (aD ⟨n.rg,0,av⟩) (n.its.set j it).length n.cap) (n.its.set j it);rw[o,bE];have:=(World.ownsRow.stored u (j*3+f) v).1;unfold aY Own;rw[c,H];exact this
  ·obtain⟨o,u⟩:=h.own q m Q hown;refine⟨o,Own.but u l fun k r=> ?_⟩;have e:aD m.rg=aD k:=r;injection e with e;rw[<-e];rcases h.apart q p m n Q hp a with e|⟨e,_⟩;·exact e
   ·grind
end
structure Ev where
 ring:Nat
 g:Nat
 N:Nat
 lb:Nat
 xb:Nat
 rb:Nat
 tb:Nat
 place:Nat
 H:List Wl.Text
structure TS (E:Ev) (X0:World) (R0 R:Nat->Prop) (ps:List (Nat×List UInt8)) (pg:List (Option Wl.Text)) (rt:List Nat) (M:Nat->Option NV) (X:World):Prop where
 rm:jE R E.ring E.g E.N E.lb E.xb E.rb E.H ps pg rt X
 sub:∀k,R0 k->R k
 new:∀k,R k->R0 k\/X0.heap.size<=k
 but:aG (fun k=>¬R0 k) X0 X
 tree:aU X E.tb 157 [ptr E.rb,bf cu E.place]
 tr:R0 E.tb
 mem:Mem X M
 kM:∀k,MB M k->R k/\X0.heap.size<=k
 XC:∀k,R0 k->k<X0.heap.size
 XD:R0 E.rb
section
variable {E:Ev} {X0 X X':World} {R0 R R' S:Nat->Prop} {ps ps':List (Nat×List UInt8)} {pg dh:List (Option Wl.Text)} {rt rt':List Nat} {M M':Nat->Option NV}
theorem TS.IK (h:TS E X0 R0 R ps pg rt M X):∀k,R k->k<X.heap.size:=h.rm.c.lt
theorem TS.still (h:TS E X0 R0 R ps pg rt M X) (a:Below X.heap.size X X') (b:∀k,R k->R' k) (c:∀k,R' k->R k\/(X.heap.size<=k/\k<X'.heap.size)):TS E X0 R0 R' ps pg rt M X':=
 ⟨h.rm.ij (aG.aJ a (fun _=>False)) (fun _ _ f=>f.elim) (fun f=>f) c (b _ h.rm.rr),fun k H=>b k (h.sub k H),fun k H=>by
  rcases c k H with H|H;·exact h.new k H
  ·right;have:=h.but.size;omega,h.but.trans (aG.aJ a (fun _=>False)) (fun _ _ f=>f.elim),h.tree.below a h.tree.lt,h.tr,h.mem.still a,fun k H=>⟨b k (h.kM k H).1,(h.kM k H).2⟩,h.XC,h.XD⟩
theorem TS.vX (h:TS E X0 R0 R ps pg rt M X) (hr:jE R E.ring E.g E.N E.lb E.xb E.rb E.H ps' dh rt' X') (a:aG (fun k=>¬R k) X X'):TS E X0 R0 R ps' dh rt' M X':=
 ⟨hr,h.sub,h.new,h.but.trans a (fun k _ hn V=>hn (h.sub k V)),h.tree.but a (fun hn=>hn (h.sub _ h.tr)),h.tr,h.mem.keep a (fun k b hn=>hn (h.kM k b).1),h.kM,h.XC,h.XD⟩
theorem TS.own (h:TS E X0 R0 R ps pg rt M X) (a:aG S X X') (hS:∀k,k<X.heap.size->S k->R k/\X0.heap.size<=k) (d:Mem X' M') (e:∀k,MB M' k->R' k/\X0.heap.size<=k) (b:∀k,R k->R' k) (c:∀k,R' k->R k\/(X.heap.size<=k/\k<X'.heap.size)):TS E X0 R0 R' ps pg rt M' X':=by
 have hn:∀k,R0 k->¬S k:=fun k H hs=>by have h3:=h.XC k H;have h4:=(hS k (dD h3 h.but.size) hs).2;omega
 exact⟨h.rm.ij a (fun k H hs=>(hS k H hs).1) (hn _ h.XD) c (b _ h.rm.rr),fun k H=>b k (h.sub k H),fun k H=>by
  rcases c k H with H|H;·exact h.new k H
  ·right;have:=h.but.size;omega,h.but.trans a (fun k _ hs V=>hn k V hs),h.tree.but a (hn _ h.tr),h.tr,d,e,h.XC,h.XD⟩
def NV.got (level:Nat) (its:List It) (rg cap page:Nat) (lo hi:List UInt8):NV:=⟨level,its,rg,0,cap,page,lo,hi,cz its,0,false,true⟩
def rD (E:Ev) (X0:World) (R0 R:Nat->Prop) (ps:List (Nat×List UInt8)) (pg:List (Option Wl.Text)) (rt:List Nat) (M:Nat->Option NV) (X:World) (n:Nat->Nat->NV) (e:Ending) (X':World):Prop:=
 ∃p rg cap R',e=eb (gu #[ptr p,bf cu 0])/\TS E X0 R0 R' ps pg rt (upd M p (n rg cap)) X'/\Below X.heap.size X X'/\X.heap.size<=p/\X.heap.size<=rg/\(∀k,R k->R' k)/\∀k,R' k->R k\/X.heap.size<=k
theorem Ap (h:TS E X0 R0 R ps pg rt M X) {page level:Nat} {its:List It} {lo hi:List UInt8} {l hh:ByteArray} {p rg cap:Nat} {w W:World} (b:bs lo=l) (c:bs hi=hh) (hp:X.heap.size<=p) (hr:X.heap.size<=rg) (hn:Nd w p (NV.read level its rg cap)) (d:aY X.heap.size w (cx (aD ⟨rg,0,av⟩) its.length cap) its) (s:Below X.heap.size X w)
  (t:W=(((w.setCell ⟨p,2,av⟩ (bf cu (page:Int))).setCell ⟨p,3,av⟩ (bR l)).setCell ⟨p,4,av⟩ (bR hh)).setCell ⟨p,5,av⟩ (bf cu (cz (NV.read level its rg cap).its:Int))):
  rD E X0 R0 R ps pg rt M X (fun rg cap=>NV.got level its rg cap page lo hi) (eb (gu #[ptr p,bf cu 0])) W:=by
 have O:rg≠p:=by intro e;have:=Own.dG d hn.blk (by decide);exact this (by rw[<-e];rfl)
 have j:aG (fun k=>k=p) w W:=by rw[t];exact ((((aG.refl (fun k=>k=p) w).setCell _ _ fun _=>rfl).setCell _ _ fun _=>rfl).setCell _ _ fun _=>rfl).setCell _ _ fun _=>rfl
 have a:Nd W p (NV.got level its rg cap page lo hi):=⟨by
  rw[t,<-b,<-c];exact (((hn.blk.set 2 _).set 3 _).set 4 _).set 5 _,hn.row.but j O,⟨hn.small.len,hn.small.each,hn.small.cap⟩⟩
 have g:aY 0 W (cx (aD ⟨rg,0,av⟩) its.length cap) its:=Own.but (Own.mono d (aB _)) j fun k H e=>O (by have i:aD rg=aD k:=H;injection i with i;rw[i,e]);have n:Below X.heap.size X W:=s.trans ⟨j.os,j.tape,j.output,j.size,fun k H=>j.block k (by have:=s.size;omega) (by omega)⟩
 have u:p<W.heap.size/\rg<W.heap.size:=⟨a.blk.lt,by
  have:=j.size;have:=(Own.block d rg rfl).2;omega⟩
 refine⟨p,rg,cap,fun k=>R k\/k=p\/k=rg,rfl, ?_,n,hp,hr,fun k H=>dc H,fun k H=>by
  rcases H with H|H|H;·exact dc H
  ·right;omega
  ·right;omega⟩
 refine h.own (S:=fun _=>False) (aG.aJ n _) (fun _ _ f=>f.elim) (h.mem.add n hp hr a ⟨rfl,g⟩) ?_ (fun k H=>dc H) (fun k H=> ?_)
 ·rintro k ⟨q,m,o,H⟩;have v:=h.but.size;rcases aN o with⟨rfl,rfl⟩|⟨_,o⟩
  ·rcases H with H|H;·omega
   ·have r:k=rg:=H;exact⟨dn (dn r),by omega⟩
  ·have:=h.kM k ⟨q,m,o,H⟩;exact⟨dc this.1,this.2⟩
 ·grind
theorem yY (h:TS E X0 R0 R ps pg rt M X) (page level:Nat) (its:List It) (lo hi:List UInt8) (hp:pg.getD page av=aD (Dk.full (cJ level its)))
  (hS:∀rg cap,Sound (NV.read level its rg cap)) (hl:its.length<=255) (hn:∀i∈its,i.node=av) (q:cz its<=510)
  (g:∀i∈(if level=0 then its else its.tail),hasB lo hi i.key=true):
  Calls Tryz.prog 122 #[ptr E.tb,bf cu page,iK #[bR (bs lo),bR (bs hi)]] X fun e X'=>rD E X0 R0 R ps pg rt M X (fun rg cap=>NV.got level its rg cap page lo hi) e X':=by
 have c0:=h.tree.cell (j:=0) rfl;have htl:=h.tree.lt;have z:=aa h;have c:=aa (And.intro hp (And.intro hS (And.intro hl (And.intro hn (And.intro q g)))));clear h hp hS hl hn q g;generalize r:bs lo=l at*;generalize t:bs hi=hh at*;have Q:=aa (And.intro r t);clear r t;obtain⟨x,V⟩:∃x,x=X.alloc (ey #[bR l,bR hh] 125):=⟨_,rfl⟩;obtain⟨sb,a⟩:∃sb,sb=X.heap.size:=⟨_,rfl⟩;have O:Below X.heap.size X x:=by rw[V];exact (Below.refl _ X).alloc (ah _) _
 have m:=aa (show aU x sb 125 [bR l,bR hh]/\Below X.heap.size X x/\x.heap.size=sb+1/\TS E X0 R0 R ps pg rt M x from⟨by rw[V,a];exact aU.new X _ _,O,by rw[V,a];simp[aS],z.o.still O (fun _ h=>h) (fun _ h=>dc h)⟩);have HX:=aa (And.intro V a);clear V a O;go_enter Tryz.func122,Tryz.ntmps122;unfold ptr;go_wp2_with fail;rw[<-HX.o.2,<-HX.o.1];refine (IG m.o.2.2.2.rm page).mono ?_;rintro e X1 ⟨rfl,A⟩;have P:page<pg.length:=by
  by_cases hc:page<pg.length;·exact hc
  ·have:=c.o.1;rw[bZ,List.getElem?_eq_none (by omega)] at this;cases this
 have hr:Rm.refuse pg page=0:=by unfold Rm.refuse;rw[if_pos (by omega),dF,c.o.1];rfl
 have hg:Rm.got pg page=Dk.full (cJ level its):=by unfold Rm.got;rw[if_pos (by omega),dF,c.o.1];rfl
 rw[hr,hg];have hb:Below X.heap.size X X1:=m.o.2.1.trans (A.mono m.o.2.1.size);have d:=aa (show TS E X0 R0 R ps pg rt M X1/\Below X.heap.size X X1/\aU X1 sb 125 [bR l,bR hh] from⟨m.o.2.2.2.still A (fun _ h=>h) (fun _ h=>dc h),hb,m.o.1.below A m.o.1.lt⟩);have s0:=d.o.2.2.cell (j:=0) rfl;have s1:=d.o.2.2.cell (j:=1) rfl;have u:(Dk.full (cJ level its)).length=512:=Dk.fu _ (by rw[lM];have:=c.o.2.2.2.2.1;omega);have HF:=aa (Er X1 (bs (Dk.full (cJ level its))) level its (bB (512-(cJ level its).length) 0) rfl (Wl.nF _) (by rw[aP,u];decide) c.o.2.1 c.o.2.2.1 c.o.2.2.2.1);clear P hr hg hb A u;generalize bs (Dk.full (cJ level its))=held at*;go_wp2_with fail;refine HF.o.mono ?_;rintro e X2 ⟨p,rg,cap,rfl,T,v,U,Y⟩;unfold ptr;have xP:X1.heap.size<=rg:=(Own.block U rg rfl).1;have b:=aa (show Nd X2 p (NV.read level its rg cap)/\aY X.heap.size X2 (cx (aD ⟨rg,0,av⟩) its.length cap) its/\Below X.heap.size X X2/\aU X2 sb 125 [bR l,bR hh]/\X.heap.size<=p/\X.heap.size<=rg from⟨v,Own.mono U d.o.2.1.size,d.o.2.1.trans (Y.mono d.o.2.1.size),d.o.2.2.below Y d.o.2.2.lt,by have:=d.o.2.1.size;omega,by have:=d.o.2.1.size;omega⟩);clear s0 s1 T v U Y xP;have t0:=b.o.2.2.2.1.cell (j:=0) rfl;have t1:=b.o.2.2.2.1.cell (j:=1) rfl
 have HW:=aa (show Calls Tryz.prog 168 #[ptr p,iK #[bR l,bR hh]] X2 fun e w'=>e=eb (eX true)/\Below X2.heap.size X2 w' by
  rw[<-Q.o.1,<-Q.o.2];have g:=c.o.2.2.2.2.2;by_cases C:level=0;·rw[if_pos C] at g;exact x7 b.o.1 lo hi C (c.o.2.1 0 0).ne g
  ·rw[if_neg C] at g;exact vJ b.o.1 lo hi (Nat.pos_of_ne_zero C) (c.o.2.1 0 0).ne g)
 unfold ptr at HW;go_wp2_with fail;refine HW.o.mono ?_;rintro e W ⟨rfl,B⟩;have G:=aa (show Nd W p (NV.read level its rg cap)/\aY X.heap.size W (cx (aD ⟨rg,0,av⟩) its.length cap) its/\Below X.heap.size X W from⟨b.o.1.still B,Own.below b.o.2.1 B (ah _),b.o.2.2.1.trans (B.mono b.o.2.2.1.size)⟩);have a:=b.o.2.2.2.1.below B b.o.2.2.2.1.lt;have s0:=a.cell (j:=0) rfl;have s1:=a.cell (j:=1) rfl;have Z:¬sb=p:=a.ne G.o.1.blk (by decide);have lN:¬p=sb:=fun e=>Z e.symm;clear t0 t1 B a;go_wp2_with (refine wp_region_any (by kernel_rfl) ?_;refine Hid.o ?_);refine aa ?_;try (change wpAny _ _ _ _ _ _ _ (bJ _))
 refine tk 0 ?_;refine tk 1 ?_;refine tk 2 ?_;refine tk 3 ?_;refine tk 5 ?_;try simp only[Act.put,aA,az,ay]
 refine rd [4,6] (AllReady.cons rfl (fun K H=> ?_) (rn fun K H=> ?_))
 ·skip
  go_simp;refine H _ _ ?_;clear H K;refine rd [6] (rn fun K H=> ?_);go_simp;refine (gZ (show Nd W.drew p (NV.read level its rg cap) from G.o.1.drew)).mono ?_;rintro e w ⟨rfl,n⟩;have b0:=(n.cell (p:=⟨sb,0,av⟩) (bD W ⟨sb,0,av⟩ s0)).trans s0;have b1:=(n.cell (p:=⟨sb,1,av⟩) (bD W ⟨sb,1,av⟩ s1)).trans s1;have k:=aa n;refine H _ _ ?_;clear H K n;have s:=aa (show Nd w p (NV.read level its rg cap)/\aY X.heap.size w (cx (aD ⟨rg,0,av⟩) its.length cap) its/\Below X.heap.size X w from⟨G.o.1.drew.still k.o,Own.below G.o.2.1.drew k.o (ah _),G.o.2.2.drew.trans (k.o.mono G.o.2.2.size)⟩);have D:=s.o.1.c2;have F:=s.o.1.c3;have I:=s.o.1.c4;have J:=s.o.1.c5;have f2:=s.o.1.blk.frozen 2;have f3:=s.o.1.blk.frozen 3;have L:=s.o.1.blk.frozen 4;have N:=s.o.1.blk.frozen 5;try simp only[Act.put,aA,az,ay]
  refine tk 7 ?_;refine tk 8 ?_;try simp only[Act.put,aA,az,ay]
  refine rd [9] (rn fun K H=> ?_);go_simp;refine H _ _ ?_;clear H K;refine tk 10 ?_;refine tk 11 ?_;try simp only[Act.put,aA,az,ay]
  refine rd [12] (rn fun K H=> ?_);go_simp;refine H _ _ ?_;clear H K;refine tk 13 ?_;refine tk 14 ?_;try simp only[Act.put,aA,az,ay]
  refine rd [15] (rn fun K H=> ?_);go_simp;refine H _ _ ?_;clear H K;refine wpAny_done (by kernel_rfl) ?_ _;obtain⟨f,S⟩:∃f,f=(((w.setCell ⟨p,2,av⟩ (bf cu (page:Int))).setCell ⟨p,3,av⟩ (bR l)).setCell ⟨p,4,av⟩ (bR hh)).setCell ⟨p,5,av⟩ (bf cu (cz (NV.read level its rg cap).its:Int)):=⟨_,rfl⟩;rw[<-S];have y:=aa (Ap z.o Q.o.1 Q.o.2 b.o.2.2.2.2.1 b.o.2.2.2.2.2 s.o.1 s.o.2.1 s.o.2.2 S);clear S D F I J f2 f3 L N;go_wp2
  go_ret2
  exact y.o
 ·skip
  go_simp;refine (gZ (show Nd W.drew p (NV.read level its rg cap) from G.o.1.drew)).mono ?_;rintro e w ⟨rfl,n⟩;have b0:=(n.cell (p:=⟨sb,0,av⟩) (bD W ⟨sb,0,av⟩ s0)).trans s0;have b1:=(n.cell (p:=⟨sb,1,av⟩) (bD W ⟨sb,1,av⟩ s1)).trans s1;have k:=aa n;refine H _ _ ?_;clear H K n;have s:=aa (show Nd w p (NV.read level its rg cap)/\aY X.heap.size w (cx (aD ⟨rg,0,av⟩) its.length cap) its/\Below X.heap.size X w from⟨G.o.1.drew.still k.o,Own.below G.o.2.1.drew k.o (ah _),G.o.2.2.drew.trans (k.o.mono G.o.2.2.size)⟩);have D:=s.o.1.c2;have F:=s.o.1.c3;have I:=s.o.1.c4;have J:=s.o.1.c5;have f2:=s.o.1.blk.frozen 2;have f3:=s.o.1.blk.frozen 3;have L:=s.o.1.blk.frozen 4;have N:=s.o.1.blk.frozen 5;try simp only[Act.put,aA,az,ay]
  refine tk 7 ?_;refine tk 8 ?_;try simp only[Act.put,aA,az,ay]
  refine rd [4,9] (AllReady.cons rfl (fun K H=> ?_) (rn fun K H=> ?_))
  ·skip
   go_simp;refine H _ _ ?_;clear H K;refine rd [9] (rn fun K H=> ?_);go_simp;refine H _ _ ?_;clear H K;refine tk 10 ?_;refine tk 11 ?_;try simp only[Act.put,aA,az,ay]
   refine rd [12] (rn fun K H=> ?_);go_simp;refine H _ _ ?_;clear H K;refine tk 13 ?_;refine tk 14 ?_;try simp only[Act.put,aA,az,ay]
   refine rd [15] (rn fun K H=> ?_);go_simp;refine H _ _ ?_;clear H K;refine wpAny_done (by kernel_rfl) ?_ _;obtain⟨f,S⟩:∃f,f=(((w.setCell ⟨p,2,av⟩ (bf cu (page:Int))).setCell ⟨p,3,av⟩ (bR l)).setCell ⟨p,4,av⟩ (bR hh)).setCell ⟨p,5,av⟩ (bf cu (cz (NV.read level its rg cap).its:Int)):=⟨_,rfl⟩;rw[<-S];have y:=aa (Ap z.o Q.o.1 Q.o.2 b.o.2.2.2.2.1 b.o.2.2.2.2.2 s.o.1 s.o.2.1 s.o.2.2 S);clear S D F I J f2 f3 L N;go_wp2
   go_ret2
   exact y.o
  ·skip
   go_simp;refine H _ _ ?_;clear H K;refine rd [4] (rn fun K H=> ?_);go_simp;refine H _ _ ?_;clear H K;refine tk 10 ?_;refine tk 11 ?_;try simp only[Act.put,aA,az,ay]
   refine rd [12] (rn fun K H=> ?_);go_simp;refine H _ _ ?_;clear H K;refine tk 13 ?_;refine tk 14 ?_;try simp only[Act.put,aA,az,ay]
   refine rd [15] (rn fun K H=> ?_);go_simp;refine H _ _ ?_;clear H K;refine wpAny_done (by kernel_rfl) ?_ _;obtain⟨f,S⟩:∃f,f=(((w.setCell ⟨p,2,av⟩ (bf cu (page:Int))).setCell ⟨p,3,av⟩ (bR l)).setCell ⟨p,4,av⟩ (bR hh)).setCell ⟨p,5,av⟩ (bf cu (cz (NV.read level its rg cap).its:Int)):=⟨_,rfl⟩;rw[<-S];have y:=aa (Ap z.o Q.o.1 Q.o.2 b.o.2.2.2.2.1 b.o.2.2.2.2.2 s.o.1 s.o.2.1 s.o.2.2 S);clear S D F I J f2 f3 L N;go_wp2
   go_ret2
   exact y.o
end
theorem R8:dx Tryz.prog 77 3 (gq cu).size:=dx.of (size:=1) (bytes:=8) (z:=.int cu 0) Tryz.underlying77 (by kernel_rfl) rfl (by decide)
def j_ (w:World) (sb tb:Nat) (sv:Value) (l:List Int) (e:Ending) (w':World):Prop:=
 e=eb (gu #[])/\∃eT,aU w' sb 169 [ptr tb,eT]/\oq 0 w' eT l/\aG (fun k=>k=sb\/sv.ownBlock=aD k) w w'/\(eT.ownBlock=sv.ownBlock\/∀k,eT.ownBlock=aD k->w.heap.size<=k)
theorem jh (w:World) (sb tb p:Nat) (sv:Value) (l:List Int) (n:NV) (hs:aU w sb 169 [ptr tb,sv]) (f:oq 0 w sv l) (hn:Nd w p n) (hl:l.length<=1000000):
  Calls Tryz.prog 135 #[ptr sb,ptr p] w fun e w'=>j_ w sb tb sv (l++[n.page]) e w':=by
 obtain⟨S,b,rfl,g⟩:=Own.slice f;obtain⟨s,B⟩:∃s,s=l.length:=⟨_,rfl⟩;rw[<-B] at hs f |-;have c1:=hs.cell (j:=1) rfl;have f1:=hs.frozen 1;have Q:=hn.c2;have u:=hs.lt;have x:=hn.blk.lt;have c:=aa (And.intro f (And.intro hs (And.intro hn hl)));clear hs f hn g B hl;go_enter Tryz.func135,Tryz.ntmps135;unfold ptr;go_wp2_with (refine wp_region_any (by kernel_rfl) ?_;refine Hid.o ?_);refine aa ?_;try (change wpAny _ _ _ _ _ _ _ (bJ _))
 refine tk 0 ?_;refine tk 1 ?_;refine tk 2 ?_;refine tk 3 ?_;refine tk 5 ?_;refine tk 6 ?_;refine tk 7 ?_;try simp only[Act.put,aA,az,ay]
 refine rd [4,8] (AllReady.cons rfl (fun K H=> ?_) (rn fun K H=> ?_))
 focus
  go_simp
  refine H _ _ ?_;clear H K
  refine rd [8] (rn fun K H=> ?_)
  go_simp
  refine H _ _ ?_;clear H K
  refine rd [9] (rn fun K H=> ?_)
  go_simp
  refine H _ _ ?_;clear H K
 rotate_left
 focus
  go_simp
  refine H _ _ ?_;clear H K
  refine rd [4,9] (AllReady.cons rfl (fun K H=> ?_) (rn fun K H=> ?_))
  focus
   go_simp
   refine H _ _ ?_;clear H K
   refine rd [9] (rn fun K H=> ?_)
   go_simp
   refine H _ _ ?_;clear H K
  rotate_left
  focus
   go_simp
   refine H _ _ ?_;clear H K
   refine rd [4] (rn fun K H=> ?_)
   go_simp
   refine H _ _ ?_;clear H K
 all_goals
  try simp only[Act.put,aA,az,ay]
  have U:oq 0 (w.drew.alloc (ey #[bf cu n.page] 3)) (cx S s b) l:=Own.alloc (show oq 0 w.drew (cx S s b) l from c.o.1) _
  have m:bu (gq cu) (w.drew.alloc (ey #[bf cu n.page] 3)) w.drew.heap.size 0 [n.page]:=bu.fN (aU.new w.drew _ _) rfl
  have O:aU (w.drew.alloc (ey #[bf cu n.page] 3)) sb 169 [ptr tb,cx S s b]:=aU.alloc (show aU w.drew sb _ _ from c.o.2.1) _
  have q:=aa (And.intro U (And.intro m O))
  clear U m O
  refine rd [10] (rn fun K H=> ?_)
  refine gw (K:=gq cu) R8 _ _ rfl rfl q.o.1 (aB _) w.drew.heap.size 0 1 1 [n.page] rfl rfl q.o.2.1 (show l.length+1<=1000000000 by have:=c.o.2.2.2;omega) ?_;intro v5 W J F y
  refine H _ _ ?_;clear H K
  have I:World.grownBy _ W (Value.slice S s b).ownBlock:=F
  have V:v5.ownBlock=(Value.slice S s b).ownBlock\/∀k,v5.ownBlock=aD k->w.heap.size<=k:=y.imp_right fun h k i=>by have:=h k i;simp only[World.size_drew,aS] at this;omega
  have T:aG (fun k=>(Value.slice S s b).ownBlock=aD k) w (w.drew.alloc (ey #[bf cu n.page] 3)):=((aG.refl _ w).drew).alloc _
  have D:=T.grown I fun k e _=>e
  have d:=Own.dG c.o.1 c.o.2.1 (by decide)
  have a:=c.o.2.1.but D d
  obtain⟨A,r,Y,v⟩:=Own.slice J
  have L:=Own.dG J a (by decide)
  generalize (l++[n.page]).length=N at Y v
  subst Y
  have c5:=a.cell (j:=1) rfl
  have z:=a.frozen 1
  have t:=aa (show j_ w sb tb (cx S s b) (l++[n.page]) (eb (gu #[])) (W.setCell ⟨sb,1,av⟩ (cx A N r)) from
   ⟨rfl,_,a.set 1 _,Own.but J ((aG.refl (fun k=>k=sb) W).setCell _ _ fun _=>rfl) (fun k i e=>L (by rw[i,e])),(D.mono (fun k _ e=>dn e)).setCell _ _ (fun _=>dc rfl),V⟩)
  clear J F I y V T D d a L
  try simp only[Act.put,aA]
  refine tk 11 ?_
  refine tk 12 ?_
  try simp only[Act.put]
  refine rd [13] (rn fun K H=> ?_)
  go_simp
  refine H _ _ ?_;clear H K
  refine wpAny_done (by kernel_rfl) ?_ _
  refine bodyPost_end (results_none rfl _ _ _) rfl ?_
  exact t.o
section
variable {P:Program}
theorem yd (w:World) (c e ty elem:TypeId) (size:Nat) (g o d D:Nat) (a:Addr) (s S:Nat) (cur:Array Value) (t:TypeId) (cs:List Value)
  (hu:P.underlying c=aD (.slice elem)) (hs:(P.info? elem).map (·.size)=aD size)
  (hg:w.heap[g]?=aD (ey cur t (0,0))) (hn:cs.length=Nat.min s d*size)
  (h:∀j v,cs[j]?=aD v->w.cell? (a.add j)=aD v) (hfit:o+cs.length<=cur.size) (f:∀v∈cs,v.oneCell'=true):
  (Builtin.copy_ #[c,e] ty #[.slice (aD ⟨g,o,av⟩) d D,.slice (aD a) s S]).run P w=
   .ok (goInt (Nat.min s d)) (w.setRow g (cur.toList.take o++cs++cur.toList.drop (o+cs.length)).toArray):=by
 have hl:=run_loadCells_list (P:=P) w a cs h
 have H:=run_storeCells_at P g o t cs 0 cur w hg (by simpa using hfit) f
 cases b:P.info? elem with
 |none=>simp[b] at hs
 |some i=>
  have hi:i.size=size:=by simpa[b] using hs
  simp[Builtin.copy_,run_underlying hu,Builtin.lenOf,Builtin.firstCells,sizeOf,typeInfo,b,hi,<-hn,hl,H]
theorem yf (w:World) (c e ty elem:TypeId) (size:Nat) (d a:Option Addr) (D b s S:Nat) (hu:P.underlying c=aD (.slice elem)) (hs:(P.info? elem).map (·.size)=aD size) (hn:Nat.min s D=0):
  (Builtin.copy_ #[c,e] ty #[.slice d D b,.slice a s S]).run P w=.ok (goInt 0) w:=by
 cases h:P.info? elem with
 |none=>simp[h] at hs
 |some i=>cases d<;>cases a<;>simp[Builtin.copy_,run_underlying hu,Builtin.lenOf,Builtin.firstCells,sizeOf,typeInfo,h,hn,storeCells,loadCells,loadCellsFrom]
end
theorem fL {w:World} {o:Oper} {a:Act} {K':Act->World->Prop} {Q:Exit->Act->World->Prop} (d s:Operand)
  (j:o.op=.call {callee:=.builtin .copy,args:=#[d,s],argTypes:=#[123,123]})
  (i sp:Option Addr) (D b S c:Nat) (hd:a.eval d=.slice i D b) (hs:a.eval s=.slice sp S c)
  (g off:Nat) (cur:List Value) (hg:w.heap[g]?=aD (ey cur.toArray 122 (0,0))) (ms:List It) (hn:ms.length=Nat.min S D)
  (hpos:0<ms.length->i=aD ⟨g,off,av⟩/\∃f so,sp=aD ⟨f,so,av⟩/\bu ak w f so ms)
  (hfit:off+ms.length*3<=cur.length)
  (h:∀w',w'.heap[g]?=aD (ey (splice cur off (ak.cells ms)).toArray 122 (0,0))->aG (fun k=>k=g) w w'->K' (a.put o.dst (goInt ms.length)) w'):o.wp Tryz.prog a w K' Q:=by
 have hl:(ak.cells ms).length=ms.length*3:=ak.b_ ms;by_cases l:ms.length=0;·obtain rfl:ms=[]:=List.eq_nil_of_length_eq_zero l;have H:=yf (P:=Tryz.prog) w 123 123 o.type 122 3 i sp D b S c Tryz.underlying123 (by kernel_rfl) (by simpa using hn.symm);unfold Oper.wp;simp[execOp,j,resolve,invoke,builtin,hd,hs,H,Result.andThen];exact h w (by rw[show splice cur off (ak.cells [])=cur by simp[splice,Elem.cells]];exact hg) (aG.refl _ _)
 ·obtain⟨rfl,f,so,rfl,e⟩:=hpos (by omega);have H:=yd (P:=Tryz.prog) w 123 123 o.type 122 3 g off D b ⟨f,so,av⟩ S c cur.toArray 122 (ak.cells ms) Tryz.underlying123 (by kernel_rfl) hg (by rw[hl,hn]) e.news (by rw[hl];simpa using hfit) (ak.oT ms);unfold Oper.wp;simp[execOp,j,resolve,invoke,builtin,hd,hs,H,Result.andThen];rw[<-hn];refine h _ ?_ ?_;·rw[setRow_heap w g cur.toArray _ _ _ hg];simp[splice]
  ·exact (aG.refl (fun k=>k=g) w).setRow g _ (fun _=>rfl)
theorem eR {w:World} {ops:Array Oper} {rest:List Oper} {o:Oper} {a:Act} {Q:Exit->Act->World->Prop} (H:o.guard=av) (d s:Operand)
  (i:o.op=.call {callee:=.builtin .copy,args:=#[d,s],argTypes:=#[123,123]})
  (e sp:Option Addr) (D b S c:Nat) (hd:a.eval d=cx e D b) (hs:a.eval s=cx sp S c)
  (g off:Nat) (cur:List Value) (hg:w.heap[g]?=aD (ey cur.toArray 122 (0,0))) (ms:List It) (hn:ms.length=Nat.min S D)
  (hpos:0<ms.length->e=aD ⟨g,off,av⟩/\∃f so,sp=aD ⟨f,so,av⟩/\bu ak w f so ms)
  (hfit:off+ms.length*3<=cur.length)
  (h:∀w',w'.heap[g]?=aD (ey (splice cur off (ak.cells ms)).toArray 122 (0,0))->aG (fun k=>k=g) w w'->wpList Tryz.prog ops Q rest (a.put o.dst (goInt ms.length)) w'):wpList Tryz.prog ops Q (o::rest) a w:=
 wpList_plain H fun _ j=>fL d s i e sp D b S c hd hs g off cur hg ms hn hpos hfit fun w' l m=>j _ _ (h w' l m)
theorem fM {α:Type} {C X cs R:List α} (h:C=X++R):splice C X.length cs=X++(cs++R.drop cs.length):=by unfold splice;rw[h,fX,<-List.drop_drop,List.drop_left]
theorem jU {B:Nat} {w:World} {g n cap:Nat} {l:List It} (h:aY B w (cx (aD ⟨g,0,av⟩) n cap) l):∃R:List Value,w.heap[g]?=aD (ey (ak.cells l++R).toArray 122 (0,0))/\(ak.cells l++R).length=cap*3/\n=l.length/\n<=cap/\cap<=maxLen/\B<=g:=by
 rcases h.2 with⟨e,_⟩|⟨G,c,cur,e,a,b,h3,h4,d,f⟩;·cases e
 ·injection e with e1 e2 e3;injection e1 with e1;injection e1 with e1;subst e1 e3;have i:cur.size=cap*3:=d;have H:cur.toList.take (l.length*3)=ak.cells l:=f;refine⟨cur.toList.drop (l.length*3), ?_, ?_,e2,by omega,h4,a⟩;·rw[<-H,cP];exact b
  ·grind
theorem fG {B:Nat} {w:World} {g n cap:Nat} {l:List It} {R:List Value} (h:w.heap[g]?=aD (ey (ak.cells l++R).toArray 122 (0,0))) (hl:(ak.cells l++R).length=cap*3) (hn:n=l.length) (hc:n<=cap) (H:cap<=maxLen) (a:B<=g):aY B w (cx (aD ⟨g,0,av⟩) n cap) l:=by
 subst hn;refine⟨ak.b_ l,dn ⟨g,cap,_,rfl,a,h,hc,H, ?_, ?_⟩⟩;·show (ak.cells l++R).toArray.size=cap*3;rw[List.size_toArray];exact hl
 ·show (ak.cells l++R).toArray.toList.take (l.length*3)=ak.cells l;have e:l.length*3=(ak.cells l).length:=(ak.b_ l).symm;rw[List.toList_toArray,e];exact fX
theorem lP {w:World} {g:Nat} {X:List Value} {l:List It} {R:List Value} (h:w.heap[g]?=aD (ey (X++(ak.cells l++R)).toArray 122 (0,0))):bu ak w g X.length l:=by
 intro j u hu;have H:=(List.getElem?_eq_some_iff.1 hu).1;have:(X++(ak.cells l++R))[X.length+j]?=aD u:=by grind
 simp[World.cell?,h,this]
theorem oy {B:Nat} {w:World} {l:List It} {o:Oper} {a:Act} {K':Act->World->Prop} {Q:Exit->Act->World->Prop} (s x:Operand)
  (f:o.op=.call {callee:=.builtin .append,args:=#[s,x],argTypes:=#[123,123]}) (g k cap:Nat)
  (hs:a.eval s=cx (aD ⟨g,0,av⟩) k cap) (hown:aY B w (cx (aD ⟨g,0,av⟩) k cap) l) (n:k=l.length) (S so m c:Nat) (ms:List It) (p:a.eval x=cx (aD ⟨S,so,av⟩) m c) (e:ms.length=m) (H:ms≠[]->bu ak w S so ms) (hc:k+m<=cap)
  (h:∀w',aY B w' (cx (aD ⟨g,0,av⟩) (k+m) cap) (l++ms)->w.grownBy w' (aD g)->K' (a.put o.dst (cx (aD ⟨g,0,av⟩) (k+m) cap)) w'):o.wp Tryz.prog a w K' Q:=by
 obtain⟨i,z,hi,v,b,q,r⟩:=vD.info;subst n
 obtain⟨w',hr,t,h3⟩:=run_append_fits (P:=Tryz.prog) (w:=w) (ty:=o.type) B 123 122 i ak.size vD.under hi b g l.length cap (ak.cells l) hown ⟨S,so,av⟩ m c (ak.cells ms) (by rw[ak.b_,e]) (fun j u hu=>by
  have d:ms≠[]:=by rintro rfl;simp[Elem.cells] at hu
  exact (H d).news j u hu) (ak.oT _) hc
 unfold Oper.wp execOp;simp only[f,resolve,invoke,builtin,Sem.run_bind,Sem.run_pure,Result.andThen_ok,List.map_toArray,bM,List.map_nil,hs,p,hr];refine h w' ?_ h3;unfold aY Own;rw[au,ak.b9,e];exact t
theorem fJ (w:World) (o k cap:Nat) (l:List It) (h:aY 0 w (.slice (aD ⟨o,0,av⟩) k cap) l) (d:Nat) (n:k+d<=cap) (hd:0<d):
  ∃vs,∀(c:Nat) (ty:TypeId),(Builtin.clear_ #[123] ty #[.slice (aD ⟨o,k*3,av⟩) d c]).run Tryz.prog w=.ok (.tuple #[]) (w.setCells o (k*3) vs):=by
 obtain⟨z,b⟩:∃z,z=(Builtin.zeroCells (Value.agg #[.string ⟨#[]⟩,.string ⟨#[]⟩,.pointer av]).cells d).toList:=⟨_,rfl⟩;have U:z=(Builtin.zeroCells #[.string ⟨#[]⟩,.string ⟨#[]⟩,.pointer av] d).toList:=b;have f:z.length=d*3:=by rw[U];simp[Builtin.zeroCells]
 have Q:∀v∈z,v.oneCell'=true:=by
  intro v a;rw[U] at a;simp only[Builtin.zeroCells,Array.toList_map,List.mem_map] at a;obtain⟨i,_,rfl⟩:=a;have:i%3=0\/i%3=1\/i%3=2:=by omega
  rcases this with e|e|e<;>simp[e]<;>rfl
 refine⟨z,fun c ty=> ?_⟩
 have H:=run_storeCells_cells (P:=Tryz.prog) o (k*3) z 0 w
  (fun j g=>by rw[d_];exact (Own.spare h (k*3+j) (by show _<cap*3;omega)).1)
  (fun j g=>by rw[d_];exact (Own.spare h (k*3+j) (by show _<cap*3;omega)).2) Q
 simp only[d_] at H;obtain⟨m,rfl⟩:∃m,d=m+1:=⟨d-1,by omega⟩;simp[Builtin.clear_,run_underlying Tryz.underlying123,<-b,H]
end
end Go.Proofs.YtlpfhjbpknbndaaGreatDoor
