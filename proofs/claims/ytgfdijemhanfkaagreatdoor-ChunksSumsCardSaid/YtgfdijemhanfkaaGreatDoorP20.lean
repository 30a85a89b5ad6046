/- Elder texts, cut down and merged (20). -/
import Derived.Test.YtgfdijemhanfkaaGreatDoorP10
import Derived.OrdersHeld
import Derived.Test.YtgfdijemhanfkaaGreatDoorPTk
set_option maxRecDepth 100000
set_option maxHeartbeats 8000000
namespace Go.Proofs.YtgfdijemhanfkaaGreatDoor
open _root_.Go.Proofs.Tryz
open Value renaming string→cu,bool→ey,agg→eU
open Ending renaming returned→c8
open Obj renaming cells→dg
open Option renaming none→aK,some→av
open List renaming length_pos_iff->d_,getElem_mem->bp,setIfInBounds_toArray->aC,set_cons_succ->aB,set_cons_zero->ay
open World renaming block_lt_of_cell?->bA,size_alloc->aY
open Nat renaming le_refl->af,le_trans->aN
section
open Go.RowKit Lib
def hasB (lo hi key:List UInt8):Bool:= !Tr.lt key lo&& !(!hi.isEmpty&& !Tr.lt key hi)
section
variable {w w':World} {p q:Nat} {n m:NV}
theorem Br (h:Nd w p n) (lo hi:List UInt8) (q:n.level=0) (H:n.its≠[]) (ha:∀i∈n.its,hasB lo hi i.key=true):
  Calls prog 232 #[ptr p,eU #[cu (bs lo),cu (bs hi)]] w fun e w'=>e=c8 (ey true)/\Below w.heap.size w w':=by
 have c0:=h.c0;have c1:=h.c1;have hpos:0<n.its.length:=d_.2 H;have Q:((n.its.length:Int)==0)=false:=θ
 have F:¬(0:Int)<n.level:=κ
 have hl:=h.small.len;have J:(n.its.length:Int)<=400:=κ
 have r:(0:Int)<n.its.length:=κ
 have A:=(bt h.row 0 hpos).1;have c:=(bt h.row (n.its.length-1) κ).1;rw[Nat.zero_mul,Nat.add_zero] at A;have s:=ha _ (bp hpos);have u:=ha _ (bp (show n.its.length-1<n.its.length by omega));generalize n.its[0].key=k0 at*;generalize n.its[n.its.length-1].key=d at*;have v:=bA _ _ A;have E:=h.blk.lt
 have f:=aa (show ∀(W:World) (k:List UInt8),hasB lo hi k=true->Calls prog 105 #[eU #[cu (bs lo),cu (bs hi)],cu (bs k)] W fun e w'=>e=c8 (ey true)/\Below W.heap.size W w' from fun W k g=>by
  have:=qa W lo hi k;unfold hasB at g
  rwa [g] at this)
 generalize bs lo=l at*;generalize bs hi=hh at*;obtain⟨L,j⟩:=ξx n.its.length;rw[<-j] at c1 Q J r c hpos;clear h ha H hl j;obtain⟨M,rfl⟩:∃M,L=M+1:=⟨L-1,κ⟩;rw[Nat.add_sub_cancel] at c;have x:(M:Int)<M+1:=κ
 have y:IntKind.i64.wrap (M:Int)=M:=bQ M κ;have z:((M:Int)+1==0)=false:=θ
 go_enter func232,ntmps232;unfold ptr;go_wp2_with (refine wp_region_held_drew (S:=(fun X=>X.cell? ⟨w.heap.size,0,aK⟩=av (cu l)/\X.cell? ⟨w.heap.size,1,aK⟩=av (cu hh)/\X.cell? ⟨n.rg,n.ro,aK⟩=av (cu (bs k0))/\X.cell? ⟨n.rg,n.ro+M*3,aK⟩=av (cu (bs d)))) η ?_ (fun a=> ?_);focus skip;rotate_left;refine Hid.o ?_);refine aa ?_;·trivial
 have B:=aa ((Below.refl w.heap.size w).alloc (af _) (dg #[cu l,cu hh] 168));refine cN 0 a ?_;refine cN 1 a ?_;refine cN 2 a ?_;refine cN 3 a ?_;try simp only[Act.put,aC,aB,ay]
 refine cN 4 a ?_;refine cN 5 a ?_;refine cN 6 a ?_;refine cN 7 a ?_;refine cN 8 a ?_;refine cN 9 a ?_;try simp only[Act.put,aC,aB,ay]
 refine fL [10] (fM fun K b=> ?_);go_simp;refine (f.o _ k0 s).mono ?_;rintro e G ⟨rfl,t⟩;have m:=aa t;refine b.out _ _ ⟨(t.cell (bA _ _ a.1)).trans a.1,(t.cell (bA _ _ a.2.1)).trans a.2.1,(t.cell (bA _ _ a.2.2.1)).trans a.2.2.1,(t.cell (bA _ _ a.2.2.2)).trans a.2.2.2⟩ (fun a=> ?_);clear b K t;try simp only[Act.put,aC,aB,ay]
 refine cN 11 a ?_;try simp only[Act.put,aC,aB,ay]
 refine cN 12 a ?_;refine cN 13 a ?_;refine cN 14 a ?_;refine cN 15 a ?_;try simp only[Act.put,aC,aB,ay]
 refine cN 16 a ?_;refine cN 17 a ?_;try simp only[Act.put,aC,aB,ay]
 refine cN 18 a ?_;refine cN 19 a ?_;refine cN 20 a ?_;try simp only[Act.put,aC,aB,ay]
 refine fL [21] (fM fun K b=> ?_);go_simp;refine (f.o _ d u).mono ?_;rintro e I ⟨rfl,N⟩;have C:=aa N;refine b.out _ _ ⟨(N.cell (bA _ _ a.1)).trans a.1,(N.cell (bA _ _ a.2.1)).trans a.2.1,(N.cell (bA _ _ a.2.2.1)).trans a.2.2.1,(N.cell (bA _ _ a.2.2.2)).trans a.2.2.2⟩ (fun a=> ?_);clear b K N;try simp only[Act.put,aC,aB,ay]
 refine cN 22 a ?_;refine cN 23 a ?_;refine cN 24 a ?_;refine wpAnyH_done η ?_ _;have D:=aa ((B.o.drew.trans (m.o.mono zaR)).trans (C.o.mono (aN zaR m.o.size)));go_wp2;go_ret;exact⟨rfl,D.o⟩
theorem zao {G:Prop} (h:G:=by
 go_enter func232,ntmps232;unfold ptr;go_wp2_with fail
 go_quiet (fail)
 have P:=aa (j.o.trans (show Below w.heap.size _ ((w.alloc (dg #[cu l,cu hh] 168)).drewN nq) from⟨rfl,rfl,rfl,af _,fun _ _=>rfl⟩));go_wp2;go_ret;exact⟨rfl,P.o⟩):G:=h
theorem zP (h:Nd w p n) (lo hi:List UInt8) (c:0<n.level) (b:n.its≠[]) (ha:∀i∈n.its.tail,hasB lo hi i.key=true):
  Calls prog 232 #[ptr p,eU #[cu (bs lo),cu (bs hi)]] w fun e w'=>e=c8 (ey true)/\Below w.heap.size w w':=by
 have c0:=h.c0;have c1:=h.c1;have hpos:0<n.its.length:=d_.2 b;have I:(0:Int)<n.level:=κ
 have hl:=h.small.len;have H:=h.small.cap.1;have J:(n.its.length:Int)<=400:=κ
 by_cases m:2<=n.its.length
 ·have A:=(bt h.row 1 κ).1;have q:=(bt h.row (n.its.length-1) κ).1
  have y:=ha n.its[1] (by
   rw[List.mem_iff_getElem];exact⟨0,by rw[List.length_tail];omega,by rw[List.getElem_tail]⟩)
  have g:=ha n.its[n.its.length-1] (by
   rw[List.mem_iff_getElem];exact⟨n.its.length-2,by rw[List.length_tail];omega,by rw[List.getElem_tail];congr 1;omega⟩)
  rw[Nat.one_mul] at A;generalize n.its[1].key=k0 at*;generalize n.its[n.its.length-1].key=r at*
  have s:=aa (show ∀(W:World) (k:List UInt8),hasB lo hi k=true->Calls prog 105 #[eU #[cu (bs lo),cu (bs hi)],cu (bs k)] W fun e w'=>e=c8 (ey true)/\Below W.heap.size W w' from fun W k u=>by
   have:=qa W lo hi k;unfold hasB at u
   rwa [u] at this)
  generalize bs lo=l at*;generalize bs hi=hh at*;obtain⟨M,v⟩:∃M,n.its.length=M+2:=⟨n.its.length-2,κ⟩;rw[v] at c1 J H q;rw[show M+2-1=M+1 by omega,show n.ro+(M+1)*3=n.ro+3+M*3 by omega] at q;have z:(M:Int)<M+1:=κ
  have B:IntKind.i64.wrap (M:Int)=M:=bQ M κ;have C:((M:Int)+1==0)=false:=θ
  have d:¬n.cap=1:=κ
  have D:=bA _ _ A;have E:=h.blk.lt;clear h ha b hl v hpos m c;go_enter func232,ntmps232;unfold ptr;go_wp2_with (refine wp_region_held_drew (S:=(fun X=>X.cell? ⟨w.heap.size,0,aK⟩=av (cu l)/\X.cell? ⟨w.heap.size,1,aK⟩=av (cu hh)/\X.cell? ⟨n.rg,n.ro+3,aK⟩=av (cu (bs k0))/\X.cell? ⟨n.rg,n.ro+3+M*3,aK⟩=av (cu (bs r)))) η ?_ (fun a=> ?_);focus skip;rotate_left;refine Hid.o ?_);refine aa ?_;·trivial
  have F:=aa ((Below.refl w.heap.size w).alloc (af _) (dg #[cu l,cu hh] 168));refine cN 0 a ?_;refine cN 1 a ?_;refine cN 2 a ?_;refine cN 3 a ?_;try simp only[Act.put,aC,aB,ay]
  refine cN 4 a ?_;refine cN 5 a ?_;refine cN 6 a ?_;refine cN 7 a ?_;refine cN 8 a ?_;refine cN 9 a ?_;try simp only[Act.put,aC,aB,ay]
  refine fL [10] (fM fun K f=> ?_);go_simp;refine (s.o _ k0 y).mono ?_;rintro e L ⟨rfl,t⟩;have x:=aa t;refine f.out _ _ ⟨(t.cell (bA _ _ a.1)).trans a.1,(t.cell (bA _ _ a.2.1)).trans a.2.1,(t.cell (bA _ _ a.2.2.1)).trans a.2.2.1,(t.cell (bA _ _ a.2.2.2)).trans a.2.2.2⟩ (fun a=> ?_);clear f K t;try simp only[Act.put,aC,aB,ay]
  refine cN 11 a ?_;try simp only[Act.put,aC,aB,ay]
  refine cN 12 a ?_;refine cN 13 a ?_;refine cN 14 a ?_;refine cN 15 a ?_;try simp only[Act.put,aC,aB,ay]
  refine cN 16 a ?_;refine cN 17 a ?_;try simp only[Act.put,aC,aB,ay]
  refine cN 18 a ?_;refine cN 19 a ?_;refine cN 20 a ?_;try simp only[Act.put,aC,aB,ay]
  refine fL [21] (fM fun K f=> ?_);go_simp;refine (s.o _ r g).mono ?_;rintro e O ⟨rfl,N⟩;have G:=aa N;refine f.out _ _ ⟨(N.cell (bA _ _ a.1)).trans a.1,(N.cell (bA _ _ a.2.1)).trans a.2.1,(N.cell (bA _ _ a.2.2.1)).trans a.2.2.1,(N.cell (bA _ _ a.2.2.2)).trans a.2.2.2⟩ (fun a=> ?_);clear f K N;try simp only[Act.put,aC,aB,ay]
  refine cN 22 a ?_;refine cN 23 a ?_;refine cN 24 a ?_;refine wpAnyH_done η ?_ _;have j:=aa ((F.o.drew.trans (x.o.mono zaR)).trans (G.o.mono (aN zaR x.o.size)));go_wp2;go_ret;exact⟨rfl,j.o⟩
 ·have g:n.its.length=1:=by omega
  rw[g] at c1 H;generalize bs lo=l at*;generalize bs hi=hh at*;have j:=aa ((Below.refl w.heap.size w).alloc (af _) (dg #[cu l,cu hh] 168));have Q:(1:Int)<=n.cap:=κ
  have E:=h.blk.lt;clear h ha b hl g hpos m c J;by_cases d:n.cap=1
  ·rw[d] at c1;exact zao
  ·exact zao
end
end
end Go.Proofs.YtgfdijemhanfkaaGreatDoor
