/- Elder texts, cut down and merged (23). -/
import Derived.Test.YtgfdijemhanfkaaGreatDoorP22
import Derived.Test.YtgfdijemhanfkaaGreatDoorP9
import Derived.Test.YtgfdijemhanfkaaGreatDoorP21
import Derived.Test.YtgfdijemhanfkaaGreatDoorP11
import Derived.Test.YtgfdijemhanfkaaGreatDoorP6
import Derived.Test.YtgfdijemhanfkaaGreatDoorP13
import Derived.Test.YtgfdijemhanfkaaGreatDoorPTk
set_option linter.unusedSimpArgs false
set_option linter.unusedVariables false
set_option maxRecDepth 100000
set_option maxHeartbeats 8000000
namespace Go.Proofs.YtgfdijemhanfkaaGreatDoor
open _root_.Go.Proofs.Tryz
open Option renaming none→aK,some→av
open Value renaming int→bf,tuple→ec,string→cu,slice→cx,bool→ey,agg→eU,pointer→dr
open IntKind renaming i64→ct,u64→eZ,u8→eD
open Ending renaming returned→c8
open Or renaming inr→dc,inl→cS
open Obj renaming cells→dg
open List renaming length_set->bV,setIfInBounds_toArray->aC,set_cons_succ->aB,set_cons_zero->ay,length_append->aq,set_append_right->iP,getElem?_eq_getElem->aI,getElem?_set_ne->lp,getD_eq_getElem?_getD->bC,replicate->aV,append_nil->bh,length_pos_iff->d_,mem_append->ah,length_replicate->dR,length_map->aL,take_of_length_le->bD,getElem?_map->cY,replicate_succ->k_,append_assoc->aD,drop_eq_getElem_cons->cE,mem_cons_self->au,mem_cons_of_mem->aH,drop_eq_nil_of_le->gj,length_drop->aS,take_append_drop->b_,length_take->aJ
open World renaming drew->bu,size_alloc->aY,block_lt_of_cell?->bA
open Int renaming toNat_natCast->cK
open _root_.Array renaming length_toList->aU,getElem?_eq_some_iff->fY
open Nat renaming zero_add->bG,lt_of_lt_of_le->bL,zero_le->aA,le_refl->af,mul_one->eR,sub_self->dm
section
open Go.RowKit Lib
namespace Rm
def uR (pg:Ξ) (i:Int):Ξ:=if refuse pg i=0 then pg.set i.toNat aK else pg
def written (pg:Ξ) (i:Int) (s:Wl.Text):Ξ:=if wrote pg i s.length=0 then pg.set i.toNat (av (Dk.full s)) else pg
def jV (pg:Ξ):Ξ:=match firstFree pg with|some p=>pg.set p (av (Dk.full []))|none=>pg
def alloc (pg:Ξ):Int×Int:=match firstFree pg with|some p=>((p:Nat),0)|none=>(0,4)
end Rm
section
variable {X X':World} {R R' S:Φ} {ring g N lb tb rb:Nat} {H H':List Wl.Text} {ps ps':Γ} {pg cy:Ξ} {rt rt':Δ}
def DT (R:Φ) (ring g N lb tb rb:Nat) (H:List Wl.Text) (ps:Γ) (pg:Ξ) (rt:Δ) (X X':World):Prop:=
 ∃ps',(ps'.length<=ps.length+2/\ps<+:ps')/\gM R ring g N lb tb rb H ps' pg rt X'/\aE (fun k=>¬R k) X X'
theorem DT.none (h:gM R ring g N lb tb rb H ps pg rt X) (a:Below X.heap.size X X'):DT R ring g N lb tb rb H ps pg rt X X':=⟨ps,⟨κ,List.prefix_refl _⟩,h.still a,aE.aF a _⟩
theorem Nz (h:gM R ring g N lb tb rb H ps pg rt X) (p:Nat) (hp:p<pg.length) (hs:pg.getD p aK=aK) (s:ps.length<=80000000):
  Calls prog 180 #[ptr rb,bf ct p] X fun e X'=>e=c8 (bf ct 0)/\DT R ring g N lb tb rb H ps (pg.set p (av (Dk.full []))) rt X X':=by
 have u:=aa h;have b:=aa (show p<pg.length/\2+p<H.length/\H.length<=65536/\ps.length<=90000000 by have:=h.rep.few;have:=h.len;omega);have f:=aa (And.intro hs s);have hc:=h.cell;have y:=aa (h.still ((Below.refl X.heap.size X).drew));have G:=aa (show aE (fun k=>¬R k) X X.drew from (aE.refl _ _).drew);clear h hp s hs;have key:∀w3:World,C1 R ring g N lb tb H (ps++[(2+p,[])]) w3->aE (fun k=>¬R k) X w3->gM R ring g N lb tb rb H (ps++[(2+p,[])]) pg rt w3:=fun w3 hc j=>
  u.o.put b.o.2.1 hc j (u.o.rep.Xj b.o.1 f.o.1 ξ) rfl
 have l:=aa key;have A:∀w3 w:World,gM R ring g N lb tb rb H (ps++[(2+p,[])]) pg rt w3->aE (fun k=>¬R k) X w3->C1 R ring g N lb tb H ((ps++[(2+p,[])])++[(1,Rm.flip ((Wl.along H (Tx.qR (ps++[(2+p,[])]))).getD 1 []) p)]) w->aE (fun k=>¬R k) w3 w->DT R ring g N lb tb rb H ps (pg.set p (av (Dk.full []))) rt X w:=by
  intro w3 w h3 j hc v;have hl:=b.o.2.1;have a:(Wl.along H (Tx.qR ps)).length=H.length:=Wl.cW _ _;refine⟨_, ?_,gM.put (cy:=pg.set p (av (Dk.full []))) (rt':=rt) h3 κ hc v ?_ (by rw[bV]),j.trans v (fun _ _ h=>h)⟩;·grind
  ·have z:=h3.rep.home (i:=1) (by rw[Wl.cW];omega);rw[show Dk.full (Rm.flip ((Wl.along H (Tx.qR (ps++[(2+p,[])]))).getD 1 []) p)=Rm.flip ((Wl.along H (Tx.qR (ps++[(2+p,[])]))).getD 1 []) p from Wl.nV (by rw[Rm.l_];exact z)];refine h3.rep.fN b.o.1 (by rw[f.o.1];rfl) (fun t m=> ?_);injection m with m;rw[zT,Rm.dQ.dL _ _ _ _ _ (by rw[a];exact hl),if_pos rfl,m]
 have n:=aa A;clear key A;go_enter func180,ntmps180;unfold ptr;go_wp2_with (refine wp_region_any η ?_;refine Hid.o ?_);refine aa ?_;try (change wpAny _ _ _ _ _ _ _ (bu _))
 refine tk 0 ?_;refine tk 1 ?_;refine tk 2 ?_;refine tk 4 ?_;refine tk 5 ?_;try simp only[Act.put,aC,aB,ay]
 refine rd [3,6] (AllReady.cons rfl (fun K a=> ?_) (rn fun K a=> ?_))
 focus
  go_simp
  refine a _ _ ?_;clear a K
  refine rd [6] (rn fun K a=> ?_)
  go_simp
  refine (gY y.o p b.o.1).mono ?_
  rintro e w1 ⟨rfl,rfl⟩
  refine a _ _ ?_;clear a K
 rotate_left
 focus
  go_simp
  refine (gY y.o p b.o.1).mono ?_
  rintro e w1 ⟨rfl,rfl⟩
  refine a _ _ ?_;clear a K
  refine rd [3] (rn fun K a=> ?_)
  go_simp
  refine a _ _ ?_;clear a K
 all_goals
  refine rd [7] (rn fun K a=> ?_)
  go_simp
  refine (uO y.o.c (2+p) ⟨#[]⟩ b.o.2.1 b.o.2.2.1 ξ b.o.2.2.2).mono ?_;rintro e w3 ⟨rfl,h3,B⟩
  refine a _ _ ?_;clear a K
  have q:=aa (And.intro h3 (G.o.trans B (fun _ _ h=>h)))
  clear B h3
  refine rd [8] (rn fun K a=> ?_)
  go_simp
  refine a _ _ ?_;clear a K
  refine wpAny_done η ?_ _
  have x:=aa (l.o _ q.o.1 q.o.2)
  go_wp2_with fail
  refine (Ci x.o p b.o.1 (by have:=f.o.2;rw[aq];show ps.length+1<=90000000;omega)).mono ?_
  rintro e w ⟨rfl,h4,d⟩
  have r:=aa (n.o _ _ x.o q.o.2 h4 d)
  clear h4 d
  go_wp2
  go_ret
  exact⟨rfl,r.o⟩
theorem zV (h:gM R ring g N lb tb rb H ps pg rt X) (c:ps.length<=80000000):
  Calls prog 126 #[ptr rb] X fun e X'=>e=c8 (ec #[bf ct (Rm.alloc pg).1,bf ct (Rm.alloc pg).2])/\DT R ring g N lb tb rb H ps (Rm.jV pg) rt X X':=by
 have hf:=zU h;rcases Rm.pe pg with e|⟨p,e,hp,hs⟩
 ·have ha:Rm.jV pg=pg:=by unfold Rm.jV;rw[e]
  have a:Rm.alloc pg=(0,4):=by unfold Rm.alloc;rw[e]
  rw[ha,a];rw[e] at hf;have d:=aa hf;have f:=aa h;clear h hf ha a e c;go_enter func126,ntmps126;unfold ptr;go_wp2_with fail;refine d.o.mono ?_;rintro e X1 ⟨rfl,A⟩;go_wp2
  go_ret2
  exact⟨rfl,DT.none f.o A⟩
 ·have ha:Rm.jV pg=pg.set p (av (Dk.full [])):=by unfold Rm.jV;rw[e]
  have a:Rm.alloc pg=(((p:Nat):Int),0):=by unfold Rm.alloc;rw[e]
  rw[ha,a];rw[e] at hf;have d:=aa hf;have f:=aa h;have i:=aa (And.intro hp (And.intro hs c));clear h hf ha a e c hp hs;go_enter func126,ntmps126;unfold ptr;go_wp2_with fail;refine d.o.mono ?_;rintro e X1 ⟨rfl,A⟩;have m:=aa (f.o.still A);have G:=aa (aE.aF A (fun k=>¬R k));clear A;go_wp2_with fail;refine (Nz m.o p i.o.1 i.o.2.1 i.o.2.2).mono ?_;rintro e X2 ⟨rfl,P,b,j,l⟩;have n:=aa (show DT R ring g N lb tb rb H ps (pg.set p (av (Dk.full []))) rt X X2 from⟨P,b,j,G.o.trans l (fun _ _ h=>h)⟩);clear j l b;go_wp2
  go_ret2
  exact⟨rfl,n.o⟩
theorem NA (h:gM R ring g N lb tb rb H ps pg rt X) (i:Int) (j:ps.length<=80000000):
  Calls prog 197 #[ptr rb,bf ct i] X fun e X'=>e=c8 (bf ct (Rm.refuse pg i))/\DT R ring g N lb tb rb H ps (Rm.uR pg i) rt X X':=by
 have l:=aa (oV h i);rcases Rm.nX pg i with⟨n,hr,hg,hh,hn⟩|⟨p,rfl,hp,hs,hr,hg,hh,hn⟩|⟨p,t,rfl,hp,hs,hr,hg,hh,hn⟩
 ·have ha:Rm.uR pg i=pg:=by unfold Rm.uR;rw[hr,if_neg ξ]
  rw[ha,hr];have c:=aa hr;have d:=aa h;clear hr hg hh hn h n ha j;go_enter func197,ntmps197;unfold ptr;go_wp2_with fail;refine l.o.mono ?_;rintro e X' ⟨rfl,a⟩;rw[c.o];go_wp2;go_ret;exact⟨rfl,DT.none d.o a⟩
 ·have ha:Rm.uR pg p=pg:=by unfold Rm.uR;rw[hr,if_neg ξ]
  rw[ha,hr];have c:=aa hr;have d:=aa h;clear hr hg hh hn h hp hs ha j;go_enter func197,ntmps197;unfold ptr;go_wp2_with fail;refine l.o.mono ?_;rintro e X' ⟨rfl,a⟩;rw[c.o];go_wp2;go_ret;exact⟨rfl,DT.none d.o a⟩
 ·have ha:Rm.uR pg p=pg.set p none:=by unfold Rm.uR;rw[hr,if_pos rfl,cK]
  rw[ha,hr];have c:=aa hr;have d:=aa h;have b:=aa (show p<pg.length/\(pg.getD p aK).isSome/\ps.length<=90000000/\1<H.length from⟨hp,by rw[hs];rfl,κ,by have:=h.len;omega⟩);clear hr hg hh hn h hp hs ha j;go_enter func197,ntmps197;unfold ptr;go_wp2_with fail;refine l.o.mono ?_;rintro e X' ⟨rfl,a⟩;rw[c.o];have f:=aa (d.o.still a);have G:=aa (aE.aF a (fun k=>¬R k));clear a;go_wp2_with fail;refine (Ci f.o p b.o.1 b.o.2.2.1).mono ?_;rintro e X2 ⟨rfl,m,A⟩
  have q:=aa (show DT R ring g N lb tb rb H ps (pg.set p aK) rt X X2 by
   have r:=f.o.rep.home (i:=1) (by rw[Wl.cW];exact b.o.2.2.2);refine⟨_, ?_,gM.put (cy:=pg.set p aK) (rt':=rt) f.o b.o.2.2.2 m A ?_ (by rw[bV]),G.o.trans A (fun _ _ h=>h)⟩;·grind
   ·rw[show Dk.full (Rm.flip ((Wl.along H (Tx.qR ps)).getD 1 []) p)=Rm.flip ((Wl.along H (Tx.qR ps)).getD 1 []) p from Wl.nV (by rw[Rm.l_];exact r)];exact f.o.rep.free b.o.1 b.o.2.1)
  clear m A;go_wp2;go_ret;exact⟨rfl,q.o⟩
theorem sX (h:gM R ring g N lb tb rb H ps pg rt X) (i:Int) (s:ByteArray) (q:ps.length<=80000000):
  Calls prog 127 #[ptr rb,bf ct i,cu s] X fun e X'=>e=c8 (bf ct (Rm.wrote pg i s.size))/\DT R ring g N lb tb rb H ps (Rm.written pg i s.data.toList) rt X X':=by
 have r:=aa (oV h i);have d:s.data.toList.length=s.size:=aU;rcases Rm.nX pg i with⟨z,hr,hg,hh,hn⟩|⟨p,rfl,hp,hs,hr,hg,hh,hn⟩|⟨p,t,rfl,hp,hs,hr,hg,hh,hn⟩
 ·have b:∀n,Rm.wrote pg i n=2:=fun n=>by unfold Rm.wrote;rw[hr,if_neg ξ]
  have ha:Rm.written pg i s.data.toList=pg:=by unfold Rm.written;rw[b,if_neg ξ]
  rw[ha,b];have m:=aa hr;have l:=aa h;clear hr hg hh hn h z ha q b d;go_enter func127,ntmps127;unfold ptr;go_wp2_with fail;refine r.o.mono ?_;rintro e X' ⟨rfl,j⟩;rw[m.o];go_wp2;go_ret;exact⟨rfl,DT.none l.o j⟩
 ·have b:∀n,Rm.wrote pg p n=6:=fun n=>by unfold Rm.wrote;rw[hr,if_neg ξ]
  have ha:Rm.written pg p s.data.toList=pg:=by unfold Rm.written;rw[b,if_neg ξ]
  rw[ha,b];have m:=aa hr;have l:=aa h;clear hr hg hh hn h hp hs ha q b d;go_enter func127,ntmps127;unfold ptr;go_wp2_with fail;refine r.o.mono ?_;rintro e X' ⟨rfl,j⟩;rw[m.o];go_wp2;go_ret;exact⟨rfl,DT.none l.o j⟩
 ·by_cases v:s.size<=512
  ·have b:Rm.wrote pg p s.size=0:=(by unfold Rm.wrote;rw[hr,if_pos rfl,if_neg κ]);have ha:Rm.written pg p s.data.toList=pg.set p (av (Dk.full s.data.toList)):=(by unfold Rm.written;rw[d,b,if_pos rfl,cK]);rw[ha,b];have m:=aa hr;have l:=aa h;have u:=aa v;have f:=aa (show p<pg.length/\2+p<H.length/\H.length<=65536/\ps.length<=90000000/\(pg.getD p aK).isSome from⟨hp,by have:=h.len;omega,by have:=h.len;have:=h.rep.few;omega,κ,by rw[hs];rfl⟩);clear hr hg hh hn h hp hs ha q b d v;go_enter func127,ntmps127;unfold ptr;go_wp2_with fail;refine r.o.mono ?_;rintro e X1 ⟨rfl,j⟩;rw[m.o];have w:=aa (l.o.still j);have y:=aa (w.o.still ((Below.refl X1.heap.size X1).drew));have G:=aa (show aE (fun k=>¬R k) X X1.drew from (aE.aF j _).drew);have T:=y.o.cell;clear j;go_wp2_with (refine wp_region_any η ?_;refine Hid.o ?_);refine aa ?_;try (change wpAny _ _ _ _ _ _ _ (bu _))
   refine tk 0 ?_;refine tk 1 ?_;refine tk 2 ?_;refine tk 4 ?_;refine tk 5 ?_;refine tk 7 ?_;try simp only[Act.put,aC,aB,ay]
   refine rd [3,6] (AllReady.cons rfl (fun K a=> ?_) (rn fun K a=> ?_))
   focus
    go_simp
    refine a _ _ ?_;clear a K
    refine rd [6] (rn fun K a=> ?_)
    go_simp
    refine (gY y.o p f.o.1).mono ?_
    rintro e w1 ⟨rfl,rfl⟩
    refine a _ _ ?_;clear a K
   rotate_left
   focus
    go_simp
    refine (gY y.o p f.o.1).mono ?_
    rintro e w1 ⟨rfl,rfl⟩
    refine a _ _ ?_;clear a K
    refine rd [3] (rn fun K a=> ?_)
    go_simp
    refine a _ _ ?_;clear a K
   all_goals
    refine rd [8] (rn fun K a=> ?_)
    go_simp
    refine (uO y.o.c (2+p) s f.o.2.1 f.o.2.2.1 u.o f.o.2.2.2.1).mono ?_;rintro e w3 ⟨rfl,h3,B⟩
    refine a _ _ ?_;clear a K
    have A:=aa (show DT R ring g N lb tb rb H ps (pg.set p (av (Dk.full s.data.toList))) rt X w3 by
     refine⟨_, ?_,gM.put (cy:=pg.set p (av (Dk.full s.data.toList))) (rt':=rt) y.o f.o.2.1 h3 B (y.o.rep.write f.o.1 f.o.2.2.2.2 (Dk.fC _ (by rw[aU];exact u.o))) (by rw[bV]),G.o.trans B (fun _ _ h=>h)⟩;exact⟨by rw[aq];show ps.length+1<=_;omega,List.prefix_append _ _⟩)
    clear B h3
    refine rd [9] (rn fun K a=> ?_)
    go_simp
    refine a _ _ ?_;clear a K
    refine wpAny_done η ?_ _
    go_wp2
    go_ret
    exact⟨rfl,A.o⟩
  ·have b:Rm.wrote pg p s.size=5:=(by unfold Rm.wrote;rw[hr,if_pos rfl,if_pos κ]);have ha:Rm.written pg p s.data.toList=pg:=(by unfold Rm.written;rw[d,b,if_neg ξ]);rw[ha,b];have m:=aa hr;have l:=aa h;have u:=aa (show 512<s.size by omega);have f:=aa (show p<pg.length/\2+p<H.length from⟨hp,by have:=h.len;omega⟩);clear hr hg hh hn h hp hs ha q b d v;go_enter func127,ntmps127;unfold ptr;go_wp2_with fail;refine r.o.mono ?_;rintro e X1 ⟨rfl,j⟩;rw[m.o];have w:=aa (l.o.still j);have y:=aa (w.o.still ((Below.refl X1.heap.size X1).drew));have x:=aa (j.drew);have T:=y.o.cell;clear j;go_wp2_with (refine wp_region_any η ?_;refine Hid.o ?_);refine aa ?_;try (change wpAny _ _ _ _ _ _ _ (bu _))
   refine tk 0 ?_;refine tk 1 ?_;refine tk 2 ?_;refine tk 4 ?_;refine tk 5 ?_;refine tk 7 ?_;try simp only[Act.put,aC,aB,ay]
   refine rd [3,6] (AllReady.cons rfl (fun K a=> ?_) (rn fun K a=> ?_))
   focus
    go_simp
    refine a _ _ ?_;clear a K
    refine rd [6] (rn fun K a=> ?_)
    go_simp
    refine (gY y.o p f.o.1).mono ?_
    rintro e w1 ⟨rfl,rfl⟩
    refine a _ _ ?_;clear a K
   rotate_left
   focus
    go_simp
    refine (gY y.o p f.o.1).mono ?_
    rintro e w1 ⟨rfl,rfl⟩
    refine a _ _ ?_;clear a K
    refine rd [3] (rn fun K a=> ?_)
    go_simp
    refine a _ _ ?_;clear a K
   all_goals
    refine rd [8] (rn fun K a=> ?_)
    go_simp
    refine (Gg y.o.c (2+p:Nat) s 5 (dc ⟨rfl,κ,by have:=f.o.2;omega,u.o⟩)).mono ?_;rintro e w3 ⟨rfl,rfl⟩
    refine a _ _ ?_;clear a K
    refine rd [9] (rn fun K a=> ?_)
    go_simp
    refine a _ _ ?_;clear a K
    refine wpAny_done η ?_ _
    go_wp2
    go_ret
    exact⟨rfl,DT.none l.o x.o⟩
end
section
variable {X X':World} {R R' S:Φ} {ring g N lb tb rb:Nat} {H H':List Wl.Text} {ps ps':Γ} {pg cy:Ξ} {rt rt':Δ}
theorem zW (h:gM R ring g N lb tb rb H ps pg rt X) (k:Nat) (c:k<16):
  Calls prog 77 #[ptr rb,bf ct k] X fun e X'=>e=c8 (ec #[cu (bs ((Wl.along H (Tx.qR ps)).getD 0 [])),bf ct 0])/\Below X.heap.size X X':=by
 have a:=aa h;clear h;have d:¬(k:Int)<0:=κ
 have f:¬(16:Int)<=k:=κ
 go_enter func77,ntmps77;unfold ptr;go_wp2_with fail;refine (ry a.o 0 (by have:=a.o.len;omega)).mono ?_;exact zas
theorem rA (h:gM R ring g N lb tb rb H ps pg rt X) (k:Nat) (a:k<16):
  Calls prog 40 #[ptr rb,bf ct k] X fun e X'=>e=c8 (ec #[bf eZ (rt.getD k 0:Nat),bf ct 0])/\Below X.heap.size X X':=by
 have c:=aa h;have d:=aa (h.rep.num k a);have f:=aa (h.rep.home (i:=0) zaO);have b:=aa a;clear h a;go_enter func40,ntmps40;unfold ptr;go_wp2_with fail;refine (zW c.o k b.o).mono ?_;rintro e X' ⟨rfl,j⟩;generalize (Wl.along H (Tx.qR ps)).getD 0 []=T at*;go_wp2_with fail;refine (DA X' (bs T) k (by rw[aG];exact f.o) b.o).mono ?_;rintro e X' ⟨rfl,rfl⟩;rw[bJ,d.o];go_wp2
 go_ret2
 exact⟨rfl,j⟩
theorem uS (h:gM R ring g N lb tb rb H ps pg rt X) (k n:Nat) (q:k<16) (hn:n<18446744073709551616) (r:ps.length<=80000000):
  Calls prog 55 #[ptr rb,bf ct k,bf eZ n] X fun e X'=>e=c8 (bf ct 0)/\DT R ring g N lb tb rb H ps pg (rt.set k n) X X':=by
 have m:=aa h;obtain⟨T,j⟩:=ξx ((Wl.along H (Tx.qR ps)).getD 0 []);have p:=aa j;have f:=aa (show T.length=512 by rw[j];exact h.rep.home (i:=0) zaO);have b:=aa (show k<16/\n<18446744073709551616/\0<H.length/\H.length<=65536/\ps.length<=90000000 by have:=h.rep.few;have:=h.len;omega);clear j h q hn r;go_enter func55,ntmps55;unfold ptr;go_wp2_with fail;refine (zW m.o k b.o.1).mono ?_;rintro e X1 ⟨rfl,l⟩;rw[<-p.o];have s:=aa (m.o.still l);have y:=aa (s.o.still ((Below.refl X1.heap.size X1).drew));have G:=aa (show aE (fun k=>¬R k) X X1.drew from (aE.aF l _).drew);have v:=y.o.cell;clear l;go_wp2_with (refine wp_region_any η ?_;refine Hid.o ?_);refine aa ?_;try (change wpAny _ _ _ _ _ _ _ (bu _))
 refine tk 0 ?_;refine tk 1 ?_;refine tk 2 ?_;refine tk 4 ?_;refine tk 5 ?_;refine tk 6 ?_;try simp only[Act.put,aC,aB,ay]
 refine rd [3,7] (AllReady.cons rfl (fun K a=> ?_) (rn fun K a=> ?_))
 focus
  go_simp
  refine a _ _ ?_;clear a K
  refine rd [7] (rn fun K a=> ?_)
  go_simp
  refine (p_ _ (bs T) k n b.o.1 (by rw[aG];exact f.o) b.o.2.1).mono ?_
  rintro e w ⟨rfl,A⟩
  have d:=aa (y.o.still A)
  have t:=d.o.cell
  have P:=aa (G.o.trans (aE.aF A (fun k=>¬R k)) (fun _ _ h=>h))
  clear A
  refine a _ _ ?_;clear a K
 rotate_left
 focus
  go_simp
  refine (p_ _ (bs T) k n b.o.1 (by rw[aG];exact f.o) b.o.2.1).mono ?_
  rintro e w ⟨rfl,A⟩
  have d:=aa (y.o.still A)
  have t:=d.o.cell
  have P:=aa (G.o.trans (aE.aF A (fun k=>¬R k)) (fun _ _ h=>h))
  clear A
  refine a _ _ ?_;clear a K
  refine rd [3] (rn fun K a=> ?_)
  go_simp
  refine a _ _ ?_;clear a K
 all_goals
  refine rd [8] (rn fun K a=> ?_)
  go_simp
  refine (uO d.o.c 0 _ b.o.2.2.1 b.o.2.2.2.1 (by rw[aG,Rm.sD,bJ,f.o];decide) b.o.2.2.2.2).mono ?_;rintro e w3 ⟨rfl,h3,B⟩
  refine a _ _ ?_;clear a K
  rw[bJ,bJ] at h3
  have u:=aa (show DT R ring g N lb tb rb H ps pg (rt.set k n) X w3 by
   refine⟨_, ?_,gM.put (cy:=pg) (rt':=rt.set k n) d.o b.o.2.2.1 h3 B ?_ rfl,P.o.trans B (fun _ _ h=>h)⟩;·exact⟨by rw[aq];show ps.length+1<=_;omega,List.prefix_append _ _⟩
   ·rw[show Dk.full (Rm.put T k n)=Rm.put T k n from Wl.nV (by rw[Rm.sD];exact f.o),p.o];exact d.o.rep.set b.o.1 (by have:=b.o.2.1;rw[show (256:Nat)^8=18446744073709551616 by decide];exact this))
  clear B h3
  refine rd [9] (rn fun K a=> ?_)
  go_simp
  refine a _ _ ?_;clear a K
  refine wpAny_done η ?_ _
  go_wp2
  go_ret
  exact⟨rfl,u.o⟩
end
def upd (M:Nat->Option NV) (p:Nat) (n:NV):Nat->Option NV:=fun q=>if q=p then av n else M q
theorem bF (M:Nat->Option NV) (p:Nat) (n:NV):upd M p n p=av n:=if_pos rfl
theorem aX {M:Nat->Option NV} {p q:Nat} {n:NV} (h:q≠p):upd M p n q=M q:=if_neg h
theorem aO {M:Nat->Option NV} {p q:Nat} {n m:NV} (h:upd M p n q=av m):(q=p/\m=n)\/(q≠p/\M q=av m):=by grind [bF,Option.some.inj,aX]
structure Mem (X:World) (M:Nat->Option NV):Prop where
 nd:∀p n,M p=av n->Nd X p n
 ty:∀p n,M p=av n->∃cur,X.heap[n.rg]?=av (dg cur 175 (0,0))
 apart:∀p q n m,M p=av n->M q=av m->p≠q->n.rg≠m.rg\/(n.own=false/\m.own=false/\(n.ro+3*n.its.length<=m.ro\/m.ro+3*m.its.length<=n.ro))
 own:∀p n,M p=av n->n.own=true->n.ro=0/\bk 0 X (cx (av ⟨n.rg,0,aK⟩) n.its.length n.cap) n.its
def MB (M:Nat->Option NV) (k:Nat):Prop:=∃p n,M p=av n/\(k=p\/k=n.rg)
section
variable {X X':World} {M:Nat->Option NV} {S:Φ} {p q:Nat} {n m:NV}
theorem Nd.but (h:Nd X p n) (H:aE S X X') (hp:¬S p) (hr:¬S n.rg):Nd X' p n:=⟨h.blk.but H hp,h.row.but H hr,h.small⟩
theorem Mem.lt (h:Mem X M) (hp:M p=av n):p<X.heap.size/\n.rg<X.heap.size:=⟨(h.nd p n hp).blk.lt,by
 obtain⟨cur,hc⟩:=h.ty p n hp;exact (fY.1 hc).1⟩
theorem Mem.nA (h:Mem X M) {k:Nat} (H:MB M k):k<X.heap.size:=by
 obtain⟨p,n,hp,rfl|rfl⟩:=H;·exact (h.lt hp).1
 ·exact (h.lt hp).2
theorem Mem.JL (h:Mem X M) (hp:M p=av n) (H:M q=av m):n.rg≠q:=by intro e;obtain⟨cur,hc⟩:=h.ty p n hp;have:=(h.nd q m H).blk;unfold aW at this;rw[<-e,hc] at this;injection this with this;injection this with _ e2;exact absurd e2 ξ
theorem Mem.keep (h:Mem X M) (H:aE S X X') (hS:∀k,MB M k->¬S k):Mem X' M:=by
 refine⟨fun p n hp=>(h.nd p n hp).but H (hS p ⟨p,n,hp,cS rfl⟩) (hS _ ⟨p,n,hp,dc rfl⟩),fun p n hp=> ?_,h.apart,fun p n hp a=>⟨(h.own p n hp a).1,Own.but (h.own p n hp a).2 H fun k b=> ?_⟩⟩;·obtain⟨cur,hc⟩:=h.ty p n hp;exact⟨cur,by rw[H.block n.rg (h.lt hp).2 (hS _ ⟨p,n,hp,dc rfl⟩)];exact hc⟩
 ·have e:av n.rg=av k:=b;injection e with e;rw[<-e];exact hS _ ⟨p,n,hp,dc rfl⟩
theorem Mem.still (h:Mem X M) (H:Below X.heap.size X X'):Mem X' M:=h.keep (aE.aF H (fun _=>False)) fun _ _ hf=>hf
theorem bk.ty {B g l c:Nat} {its:List It} (h:bk B X (cx (av ⟨g,0,aK⟩) l c) its):∃cur,X.heap[g]?=av (dg cur 175 (0,0)):=Own.typed h rfl
theorem Mem.add (h:Mem X M) (c:Below X.heap.size X X') (hp:X.heap.size<=p) (hr:X.heap.size<=n.rg) (hn:Nd X' p n) (b:n.ro=0/\bk 0 X' (cx (av ⟨n.rg,0,aK⟩) n.its.length n.cap) n.its):Mem X' (upd M p n):=by
 have k:=h.still c;refine⟨fun q m H=> ?_,fun q m H=> ?_,fun q q' m d H N a=> ?_,fun q m H hown=> ?_⟩
 ·rcases aO H with⟨rfl,rfl⟩|⟨_,s⟩;·exact hn
  ·exact k.nd q m s
 ·rcases aO H with⟨rfl,rfl⟩|⟨_,s⟩;·exact bk.ty b.2
  ·exact k.ty q m s
 ·rcases aO H with⟨rfl,rfl⟩|⟨_,s⟩
  ·rcases aO N with⟨rfl,rfl⟩|⟨_,z⟩;·exact absurd rfl a
   ·left;have:=(h.lt z).2;omega
  ·rcases aO N with⟨rfl,rfl⟩|⟨_,z⟩;·left;have:=(h.lt s).2;omega
   ·exact h.apart q q' m d s z a
 ·rcases aO H with⟨rfl,rfl⟩|⟨_,s⟩;·exact b
  ·exact k.own q m s hown
theorem Mem.cell (h:Mem X M) (hp:M p=av n) (n':NV) (k:Nat) (v:Value) (hi:n'.its=n.its) (hg:n'.rg=n.rg) (d:n'.ro=n.ro) (hc:n'.cap=n.cap) (f:n'.own=n.own) (hcs:n.cells.set k v=n'.cells):Mem (X.setCell ⟨p,k,aK⟩ v) (upd M p n'):=by
 have c:aE (fun b=>b=p) X (X.setCell ⟨p,k,aK⟩ v):=(aE.refl (fun b=>b=p) X).setCell _ _ fun _=>rfl;have x:=h.nd p n hp;have o:Nd (X.setCell ⟨p,k,aK⟩ v) p n':=⟨by rw[<-hcs];exact x.blk.set k v,by rw[hg,d,hi];exact x.row.but c (h.JL hp hp),⟨by rw[hi];exact x.small.len,by rw[hi];exact x.small.each,by rw[hi,hc];exact x.small.cap⟩⟩;refine⟨fun q m a=> ?_,fun q m a=> ?_,fun q q' m l a N H=> ?_,fun q m a hown=> ?_⟩
 ·rcases aO a with⟨rfl,rfl⟩|⟨H,s⟩;·exact o
  ·exact (h.nd q m s).but c H (h.JL s hp)
 ·rcases aO a with⟨rfl,rfl⟩|⟨H,s⟩;·obtain⟨cur,hc⟩:=h.ty _ n hp;exact⟨cur,by rw[hg,c.block n.rg (h.lt hp).2 (h.JL hp hp)];exact hc⟩
  ·obtain⟨cur,hc⟩:=h.ty q m s;exact⟨cur,by rw[c.block m.rg (h.lt s).2 (h.JL s hp)];exact hc⟩
 ·rcases aO a with⟨rfl,rfl⟩|⟨A,s⟩
  ·rcases aO N with⟨rfl,rfl⟩|⟨r,z⟩;·exact absurd rfl H
   ·rw[hg,f,d,hi];exact h.apart _ q' n l hp z H
  ·rcases aO N with⟨rfl,rfl⟩|⟨r,z⟩;·rw[hg,f,d,hi];exact h.apart q _ m n s hp H
   ·exact h.apart q q' m l s z H
 ·rcases aO a with⟨rfl,rfl⟩|⟨H,s⟩;·rw[hg,d,hi,hc];rw[f] at hown;obtain⟨g,i⟩:=h.own _ n hp hown;exact⟨g,Own.but i c fun k j=>by have e:av n.rg=av k:=j;injection e with e;rw[<-e];exact h.JL hp hp⟩
  ·obtain⟨g,i⟩:=h.own q m s hown;exact⟨g,Own.but i c fun k j=>by have e:av m.rg=av k:=j;injection e with e;rw[<-e];exact h.JL s hp⟩
theorem zY (its:List It) (j f:Nat) (h:j<its.length) (hf:f<3) (it:It) (v:Value) (H:aj.enc it=(aj.enc its[j]).set f v):aj.cells (its.set j it)=(aj.cells its).set (j*3+f) v:=by
 induction its generalizing j with
 |nil=>cases h
 |cons a its i=>
  cases j with
  |zero=>rw[ay,Elem.bS,Elem.bS,H];have hl:(aj.enc a).length=3:=aj.len a;show (aj.enc a).set f v++_=_;rw[Nat.zero_mul,bG,List.set_append_left _ _ κ]
  |succ j=>rw[aB,Elem.bS,Elem.bS,i j zax H];have hl:(aj.enc a).length=3:=aj.len a;rw[iP _ _ κ,hl,show (j+1)*3+f-3=j*3+f by omega]
theorem bg.stored {g o:Nat} {its:List It} (h:bg aj X g o its) (k:Nat) (v:Value) (H:k<its.length*3) {J:List It} (a:aj.cells J=(aj.cells its).set k v):bg aj (X.setCell ⟨g,o+k,aK⟩ v) g o J:=by
 intro j u hu;rw[a] at hu;by_cases e:j=k
 ·subst e;rw[List.getElem?_set_self (by rw[aj.cm];exact H)] at hu;have b:v=u:=Option.some.inj hu;subst b;have c:j<(aj.cells its).length:=by rw[aj.cm];exact H
  exact World.cell?_setCell_same _ _ _ (h j _ (aI c))
 ·rw[lp (Ne.symm e)] at hu;have:=h j u hu;rw[<-this];exact World.cell?_setCell_other _ _ _ _ (by intro E;injection E with _ e3;omega)
theorem bg.apart {g o G O:Nat} {its:List It} (h:bg aj X G O its) (k:Nat) (v:Value) (H:G≠g\/o+k<O\/O+its.length*3<=o+k):bg aj (X.setCell ⟨g,o+k,aK⟩ v) G O its:=by
 intro j u hu;have a:j<its.length*3:=by
  have:=(List.getElem?_eq_some_iff.1 hu).1
  rwa [aj.cm] at this
 have:=h j u hu;rw[<-this];refine World.cell?_setCell_other _ _ _ _ (by intro e;injection e with e1 e3;omega)
theorem Mem.item (h:Mem X M) (hp:M p=av n) (j f:Nat) (w:j<n.its.length) (hf:f<3) (it:It) (v:Value) (y:aj.enc it=(aj.enc n.its[j]).set f v) (hs:it.key.length<=200/\it.val.length<=200):
  Mem (X.setCell ⟨n.rg,n.ro+(j*3+f),aK⟩ v) (upd M p {n with its:=n.its.set j it}):=by
 have l:aE (fun b=>b=n.rg) X (X.setCell ⟨n.rg,n.ro+(j*3+f),aK⟩ v):=(aE.refl (fun b=>b=n.rg) X).setCell _ _ fun _=>rfl;have x:=h.nd p n hp;have r:j*3+f<n.its.length*3:=κ
 have c:=zY n.its j f w hf it v y;have H:(n.its.set j it).length=n.its.length:=bV
 have A:Nd (X.setCell ⟨n.rg,n.ro+(j*3+f),aK⟩ v) p {n with its:=n.its.set j it}:=⟨by
  have e:NV.cells {n with its:=n.its.set j it}=n.cells:=by unfold NV.cells;simp only[H]
  rw[e]
  exact x.blk.but l (fun e=>h.JL hp hp e.symm),x.row.stored _ v r c,⟨by show (n.its.set j it).length<=400;rw[H];exact x.small.len,fun i hi=>by
   rcases List.mem_or_eq_of_mem_set hi with hi|rfl;·exact x.small.each i hi
   ·exact hs,by show (n.its.set j it).length<=_/\_;rw[H];exact x.small.cap⟩⟩
 have T:∀q m,M q=av m->∃cur,(X.setCell ⟨n.rg,n.ro+(j*3+f),aK⟩ v).heap[m.rg]?=av (dg cur 175 (0,0)):=by
  intro q m d;obtain⟨cur,hc⟩:=h.ty q m d;by_cases e:m.rg=n.rg;·rw[e] at hc |-;exact⟨_,heap_setCell_same X n.rg _ cur _ v hc⟩
  ·exact⟨cur,by rw[l.block m.rg (h.lt d).2 e];exact hc⟩
 refine⟨fun q m d=> ?_,fun q m d=> ?_,fun q q' m g d N a=> ?_,fun q m d hown=> ?_⟩
 ·rcases aO d with⟨rfl,rfl⟩|⟨a,s⟩;·exact A
  ·have t:=h.nd q m s;refine⟨t.blk.but l (fun e=>h.JL hp s e.symm),t.row.apart _ v ?_,t.small⟩;rcases h.apart q p m n s hp a with e|⟨_,_,e|e⟩;·exact cS e
   ·right;right;omega
   ·right;left;omega
 ·grind [aO]
 ·rcases aO d with⟨rfl,rfl⟩|⟨B,s⟩
  ·rcases aO N with⟨rfl,rfl⟩|⟨C,z⟩;·exact absurd rfl a
   ·show n.rg≠g.rg\/(n.own=false/\g.own=false/\(n.ro+3*(n.its.set j it).length<=g.ro\/_));rw[H];exact h.apart _ q' n g hp z a
  ·rcases aO N with⟨rfl,rfl⟩|⟨C,z⟩;·show m.rg≠n.rg\/(m.own=false/\n.own=false/\(_\/n.ro+3*(n.its.set j it).length<=m.ro));rw[H];exact h.apart q _ m n s hp a
   ·exact h.apart q q' m g s z a
 ·rcases aO d with⟨rfl,rfl⟩|⟨a,s⟩;·obtain⟨o,u⟩:=h.own _ n hp hown;refine⟨o, ?_⟩;show bk 0 _ (cx (av ⟨n.rg,0,aK⟩) (n.its.set j it).length n.cap) (n.its.set j it);rw[o,bG];have:=(World.ownsRow.stored u (j*3+f) v).1;unfold bk Own;rw[c,H];exact this
  ·obtain⟨o,u⟩:=h.own q m s hown;refine⟨o,Own.but u l fun k r=> ?_⟩;have e:av m.rg=av k:=r;injection e with e;rw[<-e];rcases h.apart q p m n s hp a with e|⟨e,_⟩;·exact e
   ·grind
end
structure Ev where
 ring:Nat
 g:Nat
 N:Nat
 lb:Nat
 xb:Nat
 rb:Nat
 tb:Nat
 place:Nat
 H:List Wl.Text
structure TS (E:Ev) (X0:World) (R0 R:Φ) (ps:Γ) (pg:Ξ) (rt:Δ) (M:Nat->Option NV) (X:World):Prop where
 rm:gM R E.ring E.g E.N E.lb E.xb E.rb E.H ps pg rt X
 sub:∀k,R0 k->R k
 new:∀k,R k->R0 k\/X0.heap.size<=k
 but:aE (fun k=>¬R0 k) X0 X
 tree:aW X E.tb 214 [ptr E.rb,bf ct E.place]
 tr:R0 E.tb
 mem:Mem X M
 lT:∀k,MB M k->R k/\X0.heap.size<=k
 lt0:∀k,R0 k->k<X0.heap.size
 rr0:R0 E.rb
section
variable {E:Ev} {X0 X X':World} {R0 R R' S:Φ} {ps ps':Γ} {pg cy:Ξ} {rt rt':Δ} {M M':Nat->Option NV}
theorem TS.NB (h:TS E X0 R0 R ps pg rt M X):∀k,R k->k<X.heap.size:=h.rm.c.lt
theorem TS.still (h:TS E X0 R0 R ps pg rt M X) (a:Below X.heap.size X X') (b:∀k,R k->R' k) (c:∀k,R' k->R k\/(X.heap.size<=k/\k<X'.heap.size)):TS E X0 R0 R' ps pg rt M X':=
 ⟨h.rm.fN (aE.aF a (fun _=>False)) (fun _ _ f=>f.elim) (fun f=>f) c (b _ h.rm.rr),fun k H=>b k (h.sub k H),fun k H=>by
  rcases c k H with H|H;·exact h.new k H
  ·right;have:=h.but.size;omega,h.but.trans (aE.aF a (fun _=>False)) (fun _ _ f=>f.elim),h.tree.below a h.tree.lt,h.tr,h.mem.still a,fun k H=>⟨b k (h.lT k H).1,(h.lT k H).2⟩,h.lt0,h.rr0⟩
theorem TS.zZ (h:TS E X0 R0 R ps pg rt M X) (hr:gM R E.ring E.g E.N E.lb E.xb E.rb E.H ps' cy rt' X') (a:aE (fun k=>¬R k) X X'):TS E X0 R0 R ps' cy rt' M X':=
 ⟨hr,h.sub,h.new,h.but.trans a (fun k _ hn Z=>hn (h.sub k Z)),h.tree.but a (fun hn=>hn (h.sub _ h.tr)),h.tr,h.mem.keep a (fun k b hn=>hn (h.lT k b).1),h.lT,h.lt0,h.rr0⟩
theorem TS.own (h:TS E X0 R0 R ps pg rt M X) (a:aE S X X') (hS:∀k,k<X.heap.size->S k->R k/\X0.heap.size<=k) (d:Mem X' M') (e:∀k,MB M' k->R' k/\X0.heap.size<=k) (b:∀k,R k->R' k) (c:∀k,R' k->R k\/(X.heap.size<=k/\k<X'.heap.size)):TS E X0 R0 R' ps pg rt M' X':=by
 have hn:∀k,R0 k->¬S k:=fun k H hs=>by have h3:=h.lt0 k H;have h4:=(hS k (bL h3 h.but.size) hs).2;omega
 exact⟨h.rm.fN a (fun k H hs=>(hS k H hs).1) (hn _ h.rr0) c (b _ h.rm.rr),fun k H=>b k (h.sub k H),fun k H=>by
  rcases c k H with H|H;·exact h.new k H
  ·right;have:=h.but.size;omega,h.but.trans a (fun k _ hs Z=>hn k Z hs),h.tree.but a (hn _ h.tr),h.tr,d,e,h.lt0,h.rr0⟩
def NV.got (level:Nat) (its:List It) (rg cap page:Nat) (lo hi:List UInt8):NV:=⟨level,its,rg,0,cap,page,lo,hi,cJ its,0,false,true⟩
def uT (E:Ev) (X0:World) (R0 R:Φ) (ps:Γ) (pg:Ξ) (rt:Δ) (M:Nat->Option NV) (X:World) (n:Nat->Nat->NV) (e:Ending) (X':World):Prop:=
 ∃p rg cap R',e=c8 (ec #[ptr p,bf ct 0])/\TS E X0 R0 R' ps pg rt (upd M p (n rg cap)) X'/\Below X.heap.size X X'/\X.heap.size<=p/\X.heap.size<=rg/\(∀k,R k->R' k)/\∀k,R' k->R k\/X.heap.size<=k
theorem DU (h:TS E X0 R0 R ps pg rt M X) {page level:Nat} {its:List It} {lo hi:List UInt8} {l hh:ByteArray} {p rg cap:Nat} {w W:World} (b:bs lo=l) (c:bs hi=hh) (hp:X.heap.size<=p) (hr:X.heap.size<=rg) (hn:Nd w p (NV.read level its rg cap)) (d:bk X.heap.size w (cx (av ⟨rg,0,aK⟩) its.length cap) its) (s:Below X.heap.size X w)
  (t:W=(((w.setCell ⟨p,2,aK⟩ (bf ct (page:Int))).setCell ⟨p,3,aK⟩ (cu l)).setCell ⟨p,4,aK⟩ (cu hh)).setCell ⟨p,5,aK⟩ (bf ct (cJ (NV.read level its rg cap).its:Int))):
  uT E X0 R0 R ps pg rt M X (fun rg cap=>NV.got level its rg cap page lo hi) (c8 (ec #[ptr p,bf ct 0])) W:=by
 have U:rg≠p:=by intro e;have:=Own.dh d hn.blk ξ;exact this (by rw[<-e];rfl)
 have n:aE (fun k=>k=p) w W:=by rw[t];exact ((((aE.refl (fun k=>k=p) w).setCell _ _ fun _=>rfl).setCell _ _ fun _=>rfl).setCell _ _ fun _=>rfl).setCell _ _ fun _=>rfl
 have a:Nd W p (NV.got level its rg cap page lo hi):=⟨by
  rw[t,<-b,<-c];exact (((hn.blk.set 2 _).set 3 _).set 4 _).set 5 _,hn.row.but n U,⟨hn.small.len,hn.small.each,hn.small.cap⟩⟩
 have g:bk 0 W (cx (av ⟨rg,0,aK⟩) its.length cap) its:=Own.but (Own.mono d (aA _)) n fun k H e=>U (by have i:av rg=av k:=H;injection i with i;rw[i,e]);have j:Below X.heap.size X W:=s.trans ⟨n.os,n.tape,n.output,n.size,fun k H=>n.block k (by have:=s.size;omega) κ⟩
 have u:p<W.heap.size/\rg<W.heap.size:=⟨a.blk.lt,by
  have:=n.size;have:=(Own.block d rg rfl).2;omega⟩
 refine⟨p,rg,cap,fun k=>R k\/k=p\/k=rg,rfl, ?_,j,hp,hr,fun k H=>cS H,fun k H=>by
  rcases H with H|H|H;·exact cS H
  ·right;omega
  ·right;omega⟩
 refine h.own (S:=fun _=>False) (aE.aF j _) (fun _ _ f=>f.elim) (h.mem.add j hp hr a ⟨rfl,g⟩) ?_ (fun k H=>cS H) (fun k H=> ?_)
 ·rintro k ⟨q,m,o,H⟩;have v:=h.but.size;rcases aO o with⟨rfl,rfl⟩|⟨_,o⟩
  ·rcases H with H|H;·omega
   ·have r:k=rg:=H;exact⟨dc (dc r),κ⟩
  ·have:=h.lT k ⟨q,m,o,H⟩;exact⟨cS this.1,this.2⟩
 ·grind
theorem zac {G:Prop} (h:G:=by
 go_simp;refine H _ _ ?_;clear H K;refine tk 10 ?_;refine tk 11 ?_;try simp only[Act.put,aC,aB,ay]
 refine rd [12] (rn fun K H=> ?_);go_simp;refine H _ _ ?_;clear H K;refine tk 13 ?_;refine tk 14 ?_;try simp only[Act.put,aC,aB,ay]
 refine rd [15] (rn fun K H=> ?_);go_simp;refine H _ _ ?_;clear H K;refine wpAny_done η ?_ _;obtain⟨m,w⟩:=ξx ((((f.setCell ⟨p,2,aK⟩ (bf ct (page:Int))).setCell ⟨p,3,aK⟩ (cu l)).setCell ⟨p,4,aK⟩ (cu hh)).setCell ⟨p,5,aK⟩ (bf ct (cJ (NV.read level its rg cap).its:Int)));rw[<-w];have C:=aa (DU D.o k.o.1 k.o.2 b.o.2.2.2.2.1 b.o.2.2.2.2.2 x.o.1 x.o.2.1 x.o.2.2 w);clear w Q I J N f2 f3 f4 O;go_wp2
 go_ret2
 exact C.o):G:=h
theorem Cj (h:TS E X0 R0 R ps pg rt M X) (page level:Nat) (its:List It) (lo hi:List UInt8) (hp:pg.getD page aK=av (Dk.full (cT level its)))
  (hS:∀rg cap,Sound (NV.read level its rg cap)) (hl:its.length<=255) (hn:∀i∈its,i.node=aK) (u:cJ its<=510)
  (n:∀i∈(if level=0 then its else its.tail),hasB lo hi i.key=true):
  Calls prog 183 #[ptr E.tb,bf ct page,eU #[cu (bs lo),cu (bs hi)]] X fun e X'=>uT E X0 R0 R ps pg rt M X (fun rg cap=>NV.got level its rg cap page lo hi) e X':=by
 have c0:=h.tree.cell (j:=0) rfl;have htl:=h.tree.lt;have D:=aa h;have d:=aa (And.intro hp (And.intro hS (And.intro hl (And.intro hn (And.intro u n)))));clear h hp hS hl hn u n;generalize v:bs lo=l at*;generalize y:bs hi=hh at*;have k:=aa (And.intro v y);clear v y;obtain⟨q,c⟩:=ξx (X.alloc (dg #[cu l,cu hh] 168));obtain⟨sb,a⟩:=ξx X.heap.size;have P:Below X.heap.size X q:=by rw[c];exact (Below.refl _ X).alloc (af _) _
 have s:=aa (show aW q sb 168 [cu l,cu hh]/\Below X.heap.size X q/\q.heap.size=sb+1/\TS E X0 R0 R ps pg rt M q from⟨by rw[c,a];exact aW.new X _ _,P,by rw[c,a];simp[aY],D.o.still P (fun _ h=>h) (fun _ h=>cS h)⟩);have Z:=aa (And.intro c a);clear c a P;go_enter func183,ntmps183;unfold ptr;go_wp2_with fail;rw[<-Z.o.2,<-Z.o.1];refine (wG s.o.2.2.2.rm page).mono ?_;rintro e X1 ⟨rfl,F⟩;have S:page<pg.length:=by
  by_cases hc:page<pg.length;·exact hc
  ·have:=d.o.1;rw[bC,List.getElem?_eq_none κ] at this;cases this
 have hr:Rm.refuse pg page=0:=by unfold Rm.refuse;rw[if_pos κ,cK,d.o.1];rfl
 have hg:Rm.got pg page=Dk.full (cT level its):=by unfold Rm.got;rw[if_pos κ,cK,d.o.1];rfl
 rw[hr,hg];have hb:Below X.heap.size X X1:=s.o.2.1.trans (F.mono s.o.2.1.size);have g:=aa (show TS E X0 R0 R ps pg rt M X1/\Below X.heap.size X X1/\aW X1 sb 168 [cu l,cu hh] from⟨s.o.2.2.2.still F (fun _ h=>h) (fun _ h=>cS h),hb,s.o.1.below F s.o.1.lt⟩);have s0:=g.o.2.2.cell (j:=0) rfl;have s1:=g.o.2.2.cell (j:=1) rfl;have z:(Dk.full (cT level its)).length=512:=Dk.fC _ (by rw[mP];have:=d.o.2.2.2.2.1;omega);have HF:=aa (JH X1 (bs (Dk.full (cT level its))) level its (aV (512-(cT level its).length) 0) rfl (Wl.o_ _) (by rw[aG,z];decide) d.o.2.1 d.o.2.2.1 d.o.2.2.2.1);clear S hr hg hb F z;generalize bs (Dk.full (cT level its))=held at*;go_wp2_with fail;refine HF.o.mono ?_;rintro e X2 ⟨p,rg,cap,rfl,T,A,U,V⟩;unfold ptr;have wF:X1.heap.size<=rg:=(Own.block U rg rfl).1;have b:=aa (show Nd X2 p (NV.read level its rg cap)/\bk X.heap.size X2 (cx (av ⟨rg,0,aK⟩) its.length cap) its/\Below X.heap.size X X2/\aW X2 sb 168 [cu l,cu hh]/\X.heap.size<=p/\X.heap.size<=rg from⟨A,Own.mono U g.o.2.1.size,g.o.2.1.trans (V.mono g.o.2.1.size),g.o.2.2.below V g.o.2.2.lt,by have:=g.o.2.1.size;omega,by have:=g.o.2.1.size;omega⟩);clear s0 s1 T A U V wF;have t0:=b.o.2.2.2.1.cell (j:=0) rfl;have t1:=b.o.2.2.2.1.cell (j:=1) rfl
 have HW:=aa (show Calls prog 232 #[ptr p,eU #[cu l,cu hh]] X2 fun e w'=>e=c8 (ey true)/\Below X2.heap.size X2 w' by
  rw[<-k.o.1,<-k.o.2];have n:=d.o.2.2.2.2.2;by_cases G:level=0;·rw[if_pos G] at n;exact Br b.o.1 lo hi G (d.o.2.1 0 0).ne n
  ·rw[if_neg G] at n;exact zP b.o.1 lo hi (Nat.pos_of_ne_zero G) (d.o.2.1 0 0).ne n)
 unfold ptr at HW;go_wp2_with fail;refine HW.o.mono ?_;rintro e W ⟨rfl,B⟩;have L:=aa (show Nd W p (NV.read level its rg cap)/\bk X.heap.size W (cx (av ⟨rg,0,aK⟩) its.length cap) its/\Below X.heap.size X W from⟨b.o.1.still B,Own.below b.o.2.1 B (af _),b.o.2.2.1.trans (B.mono b.o.2.2.1.size)⟩);have a:=b.o.2.2.2.1.below B b.o.2.2.2.1.lt;have s0:=a.cell (j:=0) rfl;have s1:=a.cell (j:=1) rfl;have Y:¬sb=p:=a.ne L.o.1.blk ξ;have xQ:¬p=sb:=fun e=>Y e.symm;clear t0 t1 B a;go_wp2_with (refine wp_region_any η ?_;refine Hid.o ?_);refine aa ?_;try (change wpAny _ _ _ _ _ _ _ (bu _))
 refine tk 0 ?_;refine tk 1 ?_;refine tk 2 ?_;refine tk 3 ?_;refine tk 5 ?_;try simp only[Act.put,aC,aB,ay]
 refine rd [4,6] (AllReady.cons rfl (fun K H=> ?_) (rn fun K H=> ?_))
 ·skip
  go_simp;refine H _ _ ?_;clear H K;refine rd [6] (rn fun K H=> ?_);go_simp;refine (iV (show Nd W.drew p (NV.read level its rg cap) from L.o.1.drew)).mono ?_;rintro e f ⟨rfl,t⟩;have b0:=(t.cell (p:=⟨sb,0,aK⟩) (bA W ⟨sb,0,aK⟩ s0)).trans s0;have b1:=(t.cell (p:=⟨sb,1,aK⟩) (bA W ⟨sb,1,aK⟩ s1)).trans s1;have r:=aa t;refine H _ _ ?_;clear H K t;have x:=aa (show Nd f p (NV.read level its rg cap)/\bk X.heap.size f (cx (av ⟨rg,0,aK⟩) its.length cap) its/\Below X.heap.size X f from⟨L.o.1.drew.still r.o,Own.below L.o.2.1.drew r.o (af _),L.o.2.2.drew.trans (r.o.mono L.o.2.2.size)⟩);have Q:=x.o.1.c2;have I:=x.o.1.c3;have J:=x.o.1.c4;have N:=x.o.1.c5;have f2:=x.o.1.blk.frozen 2;have f3:=x.o.1.blk.frozen 3;have f4:=x.o.1.blk.frozen 4;have O:=x.o.1.blk.frozen 5;try simp only[Act.put,aC,aB,ay]
  refine tk 7 ?_;refine tk 8 ?_;try simp only[Act.put,aC,aB,ay]
  refine rd [9] (rn fun K H=> ?_);exact zac
 ·skip
  go_simp;refine (iV (show Nd W.drew p (NV.read level its rg cap) from L.o.1.drew)).mono ?_;rintro e f ⟨rfl,t⟩;have b0:=(t.cell (p:=⟨sb,0,aK⟩) (bA W ⟨sb,0,aK⟩ s0)).trans s0;have b1:=(t.cell (p:=⟨sb,1,aK⟩) (bA W ⟨sb,1,aK⟩ s1)).trans s1;have r:=aa t;refine H _ _ ?_;clear H K t;have x:=aa (show Nd f p (NV.read level its rg cap)/\bk X.heap.size f (cx (av ⟨rg,0,aK⟩) its.length cap) its/\Below X.heap.size X f from⟨L.o.1.drew.still r.o,Own.below L.o.2.1.drew r.o (af _),L.o.2.2.drew.trans (r.o.mono L.o.2.2.size)⟩);have Q:=x.o.1.c2;have I:=x.o.1.c3;have J:=x.o.1.c4;have N:=x.o.1.c5;have f2:=x.o.1.blk.frozen 2;have f3:=x.o.1.blk.frozen 3;have f4:=x.o.1.blk.frozen 4;have O:=x.o.1.blk.frozen 5;try simp only[Act.put,aC,aB,ay]
  refine tk 7 ?_;refine tk 8 ?_;try simp only[Act.put,aC,aB,ay]
  refine rd [4,9] (AllReady.cons rfl (fun K H=> ?_) (rn fun K H=> ?_))
  ·skip
   go_simp;refine H _ _ ?_;clear H K;refine rd [9] (rn fun K H=> ?_);exact zac
  ·skip
   go_simp;refine H _ _ ?_;clear H K;refine rd [4] (rn fun K H=> ?_);exact zac
end
section
variable {X X':World} {R R' S:Φ} {ring g N lb tb rb:Nat} {H H':List Wl.Text} {ps ps':Γ} {pg cy:Ξ} {rt rt':Δ}
theorem UK (h:C1 R ring g N lb tb H ps X):
  Calls prog 123 #[ptr tb] X fun e X'=>e=c8 (bf ct ps.length)/\X'=X:=by
 obtain⟨A,T,b,x,a,c⟩:=h;exact uz X T tb lb ps x
theorem UL (h:C1 R ring g N lb tb H ps' X) (hp:ps<+:ps') (hn:ps'.length<=90000000):
  Calls prog 143 #[ptr tb,bf ct ps.length] X fun e X'=>e=c8 (ec #[])/\C1 R ring g N lb tb H ps X'/\aE (fun k=>¬R k) X X':=by
 obtain⟨q,rfl⟩:=hp;by_cases c:q=[];·subst c;rw[bh] at h hn;obtain⟨A,T,d,x,a,f⟩:=id h;refine (Na X T tb lb ps ps.length x κ).mono ?_;rintro e X' ⟨rfl,rfl⟩;exact⟨rfl,h,aE.refl _ _⟩
 ·obtain⟨A,T,d,x,a,f⟩:=h;have hl:0<q.length:=d_.2 c;refine (QS X T tb lb (ps++q) ps.length ps.length x κ zaV hn).mono ?_;rintro e X' ⟨rfl,T',b,i⟩;rw[List.take_left' rfl] at b;exact⟨rfl,Lw d a f i b⟩
theorem Ck (h:gM R ring g N lb tb rb H ps pg rt X):
  Calls prog 81 #[ptr rb] X fun e X'=>e=c8 (bf ct ps.length)/\X'=X:=by
 have c0:=h.cell;have a:=aa h;clear h;go_enter func81,ntmps81;unfold ptr;go_wp2_with fail;refine (UK a.o.c).mono ?_;rintro e X' ⟨rfl,rfl⟩;go_wp2;go_ret;exact⟨rfl,rfl⟩
theorem NC (h:gM R ring g N lb tb rb H ps' cy rt' X) (hp:ps<+:ps') (hn:ps'.length<=90000000) (hr:Rm.dQ (Wl.along H (Tx.qR ps)) pg rt) (hl:1<=pg.length):
  Calls prog 92 #[ptr rb,bf ct ps.length] X fun e X'=>e=c8 (ec #[])/\gM R ring g N lb tb rb H ps pg rt X'/\aE (fun k=>¬R k) X X':=by
 have c0:=h.cell;have a:=aa h;have b:=aa (And.intro hp (And.intro hn (And.intro hr hl)));clear h hp hn hr hl;go_enter func92,ntmps92;unfold ptr;go_wp2_with fail;refine (UL a.o.c b.o.1 b.o.2.1).mono ?_;rintro e X' ⟨rfl,hc,d⟩;have f:=aa (show gM R ring g N lb tb rb H ps pg rt X'/\aE (fun k=>¬R k) X X' from⟨⟨hc,a.o.blk.but d (fun hn=>hn a.o.rr),a.o.rr,b.o.2.2.1,fun p i=>a.o.ins p (by obtain⟨q,e⟩:=b.o.1;rw[<-e];exact ah.2 (cS i)),b.o.2.2.2⟩,d⟩);clear hc d;go_wp2;refine bodyPost_end (results_none rfl _ _ _) rfl ?_;exact⟨rfl,f.o⟩
end
theorem z6 (w:World) (n:Nat) (d:4<=n) (f:n<=4098):
  Calls prog 6 #[bf ct n] w fun e w'=>∃g b,e=c8 (ec #[ptr g,ptr b])/\Kept (fun x=>x<w.heap.size) 200 w' b g 1 (Wl.dJ n)/\Below w.heap.size w w':=by
 have m:max (n:Int) 4=n:=κ
 have p:(n:Int)<=4098:=κ
 obtain⟨z,i⟩:∃z:Nat,z=201+n:=⟨_,rfl⟩;have l:201+(n:Int)=z:=κ
 have H:=aa (show z=201+n/\4<=n/\n<=4098 from⟨i,d,f⟩);clear i d f;go_enter func6,ntmps6;go_wp2_with fail;refine (Ub z w zaU zaU).mono ?_;rintro e w1 ⟨g,FD,rfl,t,hF,j⟩;have a:=aa (And.intro t (And.intro hF j));clear t hF j;go_wp2_with fail;refine (Ji (A:=fun x=>x<w.heap.size) (ring:=200) (size:=z) a.o.1 (fun x c hn=>by have:=a.o.2.1 x c;omega) (fun x c=>by have:=a.o.2.2.size;omega) ξ ξ zaU zaU).mono ?_;rintro e W ⟨b,rfl,h,G⟩
 have k:=aa (show Kept (fun x=>x<w.heap.size) 200 W b g 1 (Wl.dJ n)/\Below w.heap.size w W by
  rw[show z-1-200=n by have:=H.o;omega] at h;exact⟨h,a.o.2.2.trans (Off.below G (fun x c=>c) a.o.2.2.size)⟩)
 clear h G;go_wp2
 go_ret2
 exact⟨g,b,rfl,k.o.1,k.o.2⟩
theorem DV (X:World) (tb:Nat):
  Calls prog 8 #[ptr tb] X fun e X'=>e=c8 (ptr X.heap.size)/\X'=X.alloc (dg #[ptr tb] 62):=by
 go_enter func8,ntmps8;exact zaq
theorem JM {A:Φ} {X:World} {ring g N lb tb n:Nat} (h:C1 A ring g N lb tb (Wl.dJ n) [] X) (b:3<=n) (H:n<=4098):
  gM (fun k=>A k\/k=X.heap.size) ring g N lb tb X.heap.size (Wl.dJ n) [] (aV (n-2) aK) (aV 16 0) (X.alloc (dg #[ptr tb] 62)):=by
 refine⟨h.fN (aE.aF ((Below.refl _ X).alloc (af _) _) (fun _=>False)) (fun _ _ h=>h.elim) (fun k a=>a.imp_right fun e=> ?_),aW.new X #[ptr tb] 62,dc rfl,Rm.TH n κ H,fun p hp=>(by cases hp),(by rw[dR];omega)⟩;rw[e,aY];omega
def DW:Elem Nat:=nS (fun n=>bf ct (n:Int)) (fun _=>rfl)
abbrev ez (B:Nat) (w:World) (v:Value) (l:Δ):Prop:=Own DW 3 B w v l
theorem acL:dx prog 65 3 DW.size:=dx.of (size:=1) (bytes:=8) (z:=.int ct 0) underlying65 η rfl ξ
theorem z7 (l:Δ):DW.cells l=l.map fun n:Nat=>Value.int ct (n:Int):=cv _ _ l
theorem Ro (w:World) (n:Nat) (hn:n<=1000000):(Instr.makeSlice 65 (.int ct n) (.int ct n)).run prog w=.ok (.slice (av ⟨w.heap.size,0,aK⟩) n n) (w.alloc (dg (aV n (.int ct 0)).toArray 3)):=by obtain⟨i,hi,h,hs,H⟩:=iL (P:=prog) (E:=3) (size:=1) (bytes:=8) (z:=.int ct 0) η;have:=run_make (P:=prog) w 65 3 i (.int ct 0) underlying65 hi h ct ct n n κ κ zaT κ;rw[this,hs,cK,eR,show (Value.int IntKind.i64 0).cells=#[.int ct 0] from rfl,yF]
theorem ez.dZ {B:Nat} {w:World} {r n:Nat} {l:Δ} (h:aW w r 3 (l.map fun n:Nat=>Value.int ct (n:Int))) (hn:l.length=n) (a:n<=1000000) (H:B<=r):ez B w (cx (av ⟨r,0,aK⟩) n n) l:=by
 have e:=z7 l;refine⟨by rw[e,aL];exact (eR _).symm,dc ⟨r,n,_,by rw[hn],H,h,κ,zat, ?_, ?_⟩⟩;·rw[List.size_toArray,aL,hn];exact (eR _).symm
 ·rw[e];exact bD (by rw[aL];exact Nat.le_of_eq (eR _).symm)
theorem ez.cellAt {B:Nat} {w:World} {l:Δ} {g n cap:Nat} (h:ez B w (cx (av ⟨g,0,aK⟩) n cap) l) {k:Nat} (H:k<l.length):w.cell? ⟨g,k,aK⟩=av (bf ct (l[k]:Nat)):=by
 have:=Own.lies h k (bf ct (l[k]:Nat)) (by rw[z7,cY,aI H];rfl)
 rwa [bG] at this
theorem ez.set {B:Nat} {w:World} {l:Δ} {g n cap:Nat} (h:ez B w (cx (av ⟨g,0,aK⟩) n cap) l) (k x:Nat):ez B (w.setCell ⟨g,k,aK⟩ (bf ct (x:Int))) (cx (av ⟨g,0,aK⟩) n cap) (l.set k x):=
 Own.store (f:=fun n:Nat=>bf ct (n:Int)) (hf:=fun _=>rfl) h k x
def UM (m:Nat) (R:Φ) (ring g N lb tb rb:Nat) (H:List Wl.Text) (ps:Γ) (pg:Ξ) (rt:Δ) (X X':World):Prop:=
 ∃ps',ps'.length<=ps.length+m/\gM R ring g N lb tb rb H ps' pg rt X'/\aE (fun k=>¬R k) X X'
def UN (n:Nat) (R:Φ) (ring g N lb tb rb:Nat) (H:List Wl.Text) (ps:Γ) (pg:Ξ) (rt:Δ) (X:World) (e:Ending) (X':World):Prop:=
 ∃v l cy,e=c8 (ec #[v,bf ct 0])/\ez X.heap.size X' v l/\l.length=n/\Bl.yT pg l cy/\UM (2*n) (fun k=>R k\/v.ownBlock=av k) ring g N lb tb rb H ps cy rt X' X'/\aE (fun k=>¬R k) X X'/\∀k,v.ownBlock=av k->X.heap.size<=k
namespace Bl
def refused (pg:Ξ) (n:Nat):Int:=if 131072<n then 5 else if pg.length<Rm.used pg+need n then 4 else 0
theorem JN {pg:Ξ} {p:Nat} (h:Rm.firstFree pg=av p):Rm.alloc pg=(((p:Nat):Int),0)/\Rm.jV pg=pg.set p (av (Dk.full [])):=by unfold Rm.alloc Rm.jV;rw[h];exact⟨rfl,rfl⟩
theorem UO (l:Δ) (n p:Nat) (h:l.length<n):(l++aV (n-l.length) 0).set l.length p=(l++[p])++aV (n-(l.length+1)) 0:=by rw[iP _ _ (af _),dm];obtain⟨m,H⟩:∃m,n-l.length=m+1:=⟨n-l.length-1,κ⟩;rw[H,show n-(l.length+1)=m by omega,k_,ay,aD];rfl
theorem uU {pg:Ξ} {p:Nat} {t:Wl.Text} (h:(pg.getD p aK).isSome=true) (a:t.length<=512):Rm.wrote pg p t.length=0/\Rm.written pg p t=pg.set p (av (Dk.full t)):=by
 have hr:Rm.refuse pg p=0:=by unfold Rm.refuse;rw[if_pos (by have:=fy h;omega),cK,h];rfl
 have H:Rm.wrote pg p t.length=0:=by unfold Rm.wrote;rw[hr,if_pos rfl,if_neg κ]
 refine⟨H, ?_⟩;unfold Rm.written;rw[H,if_pos rfl,cK]
theorem drop_cons {l:Δ} {j:Nat} (h:j<l.length):l.drop j=l[j]::l.drop (j+1):=cE h
end Bl
section
variable {X X':World} {R R' S:Φ} {ring g N lb tb rb:Nat} {H H':List Wl.Text} {ps ps':Γ} {pg cy:Ξ} {rt rt':Δ}
theorem DX (h:gM R ring g N lb tb rb H ps pg rt X) (s:ByteArray) (hs:s.size<=1000000):
  Calls prog 82 #[ptr rb,cu s] X fun e X'=>e=c8 (bf ct (Bl.refused pg s.size))/\Below X.heap.size X X':=by
 have f:=aa h;have p:(s.size:Int)<=1000000:=κ
 have hu:=Rm.nY pg;have hf:=h.rep.few;have j:(pg.length:Int)<=4096:=κ
 have k:(Rm.used pg:Int)<=pg.length:=κ
 have O:s.size<=1000000000:=κ
 obtain⟨E,c⟩:=ξx (Bl.refused pg s.size);rw[<-c];have i:=aa c;clear h c;go_enter func82,ntmps82;unfold ptr;go_wp2_with fail;refine (Ny f.o).mono ?_;rintro e X1 ⟨rfl,A⟩;have l:=aa (f.o.still A);by_cases b:131072<s.size
 ·have x:(131072:Int)<s.size:=by omega
  have e:Bl.refused pg s.size=5:=if_pos b;have W:=aa (i.o.trans e);clear e b;go_wp2;go_ret;exact⟨by rw[W.o];rfl,A⟩
 ·have x:¬(131072:Int)<s.size:=by omega
  have e:Bl.refused pg s.size=if pg.length<Rm.used pg+Bl.need s.size then 4 else 0:=if_neg b
  have hn:=Bl.C_ (n:=s.size) κ;have W:=aa (i.o.trans e);clear e b;have m:=aa (r7 X1 s.size O);generalize Bl.need s.size=n at*;have Q:(n:Int)<=260:=κ
  go_wp2_with fail;refine m.o.mono ?_;rintro e X2 ⟨rfl,rfl⟩;go_wp2_with fail;refine (eu l.o).mono ?_;rintro e X3 ⟨rfl,rfl⟩;by_cases h4:pg.length<Rm.used pg+n;·have d:(pg.length:Int)-Rm.used pg<n:=κ;have a:=aa (W.o.trans (if_pos h4));clear h4;go_wp2;go_ret;exact⟨by rw[a.o];rfl,A⟩
  ·have d:¬(pg.length:Int)-Rm.used pg<n:=κ;have a:=aa (W.o.trans (if_neg h4));clear h4;go_wp2;go_ret;exact⟨by rw[a.o];rfl,A⟩
theorem ND (h:gM R ring g N lb tb rb H ps pg rt X) (n:Nat) (hn:Rm.used pg+n<=pg.length) (F:ps.length<=70000000):
  Calls prog 83 #[ptr rb,bf ct n] X fun e X'=>UN n R ring g N lb tb rb H ps pg rt X e X':=by
 have hf:=h.rep.few;have Qi:(n:Int)<=4096:=κ
 have w:=Ro X n κ;obtain⟨Y,f⟩:=ξx (X.alloc (dg (aV n (bf ct 0)).toArray 3));obtain⟨r,hr⟩:=ξx X.heap.size;rw[<-f,<-hr] at w;have G:=aa (And.intro hn F);have m:Y.heap.size=r+1:=by rw[f,aY,hr]
 have O:Below X.heap.size X Y:=by rw[f];exact (Below.refl _ X).alloc (af _) _
 have s:=aa (show gM (fun k=>R k\/k=r) ring g N lb tb rb H ps pg rt Y/\ez r Y (cx (av ⟨r,0,aK⟩) n n) (aV n 0)/\aE (fun k=>¬R k) X Y/\rb≠r by
  refine⟨h.fN (aE.aF O (fun _=>False)) (fun _ _ h=>h.elim) (fun h=>h) (fun k b=>b.imp_right fun e=>by rw[e,m,hr];omega) (cS h.rr),ez.dZ ?_ dR κ (af _),aE.aF O _, ?_⟩;·rw[f,hr,List.map_replicate];exact aW.new X _ _
  ·have:=h.blk.lt;omega)
 have y:=aa hr;clear h hn F hf O m f hr;go_enter func83,ntmps83;unfold ptr;go_wp2
 go_loopw [14] (fun i wr=>∃j:Nat,j<=n/\i=bf ct j/\∃l q u,Hid (l.length=j/\Bl.yT pg l q/\u.length<=ps.length+2*j)/\Hid (gM (fun k=>R k\/k=r) ring g N lb tb rb H u q rt wr)/\Hid (ez r wr (cx (av ⟨r,0,aK⟩) n n) (l++aV (n-j) 0))/\Hid (aE (fun k=>¬R k) X wr)) (fun i _=>n-(RowKit.intOf i).toNat)
 case atStart=>exact⟨0,aA _,rfl,[],pg,ps,aa ⟨rfl,Bl.yT.nil pg,κ⟩,aa s.o.1,aa s.o.2.1,aa s.o.2.2.1⟩
 case round=>
  obtain⟨j,I,rfl,l,q,u,a,hS,J,K⟩:=hrel;by_cases c:j<n
  ·have V:(j:Int)<n:=κ;obtain⟨p,hp⟩:=Bl.jc (pg:=q) (by have:=a.o.2.1.used;have:=a.o.2.1.len;have:=G.o.1;have:=a.o.1;omega);have d:=aa (And.intro hp c);obtain⟨L,M⟩:=Bl.JN hp;have P:=aa (And.intro L M);clear hp c L M I;go_wp2_with fail;refine (zV hS.o (by have:=G.o.2;have:=a.o.2.2;have:=d.o.2;omega)).mono ?_;rintro e w1 ⟨rfl,Q,Z,v,A⟩;rw[P.o.2] at v;rw[P.o.1];have U:=aa (show ez r w1 (cx (av ⟨r,0,aK⟩) n n) (l++aV (n-j) 0) from Own.but J.o A (fun x z hn=>hn (dc (by injection z with z;exact z.symm))));have hcell:=ez.cellAt U.o (k:=j) (by rw[aq,dR];have:=d.o.2;have:=a.o.1;omega);have hfr:=Own.frozen U.o j;obtain⟨W,B⟩:=ξx (w1.setCell ⟨r,j,aK⟩ (bf ct (p:Int)))
   have C:=aa (show gM (fun k=>R k\/k=r) ring g N lb tb rb H Q (q.set p (av (Dk.full []))) rt W/\ez r W (cx (av ⟨r,0,aK⟩) n n) ((l++[p])++aV (n-(j+1)) 0)/\aE (fun k=>¬R k) X W by
    have S:aE (fun k=>k=r) w1 (w1.setCell ⟨r,j,aK⟩ (bf ct (p:Int))):=(aE.refl (fun k=>k=r) w1).setCell ⟨r,j,aK⟩ _ (fun _=>rfl);rw[B];refine⟨v.fN S (fun k _ e=>dc e) (fun e=>s.o.2.2.2 e) (fun k b=>cS b) v.rr, ?_, ?_⟩
    ·have:=ez.set U.o j p;have D:=a.o.1;subst D
     rwa [Bl.UO l n p d.o.2] at this
    ·refine (K.o.trans A (fun k _ hn hr=>hn (cS hr))).trans S (fun k b e hr=> ?_);have:=y.o;omega)
   have E:=aa B;have HL:=aa (show (l++[p]).length=j+1/\Bl.yT pg (l++[p]) (q.set p (av (Dk.full [])))/\Q.length<=ps.length+2*(j+1) from⟨by rw[aq,a.o.1];rfl,a.o.2.1.snoc d.o.1 _,by have:=a.o.2.2;omega⟩);clear v A B Z;go_wp2;rw[<-E.o];go_roundw
   case rel=>exact⟨j+1,d.o.2,ς,l++[p],_,Q,HL,aa C.o.1,aa C.o.2.1,aa C.o.2.2⟩
   case measure=>have:=d.o.2;simp[RowKit.intOf];omega
  ·have V:¬(j:Int)<n:=κ;have t:n-j=0:=κ;have T:=aa (show j=n by omega)
   have HO:=aa (show ez X.heap.size wr (cx (av ⟨r,0,aK⟩) n n) l by
    have:=J.o;rw[t,List.replicate_zero,bh] at this;rw[<-y.o];exact this)
   clear c I t;go_wp2
   go_ret2
   exact⟨_,l,q,rfl,HO.o,a.o.1.trans T.o,a.o.2.1,⟨u,by have:=a.o.2.2;have:=T.o;omega,hS.o.less (fun k b=>b.imp_right fun e=>zaM) (cS (hS.o.rr.elim id fun e=>absurd e s.o.2.2.2)),aE.refl _ _⟩,K.o,fun k b=>by have e:av r=av k:=b;injection e with e;have:=y.o;omega⟩
theorem zah {G:Prop} (h:G:=by
 refine⟨j+1,a.o.1,ς,u,0xb1,_,U,rfl,rfl,aa ⟨f.o.2,d.o.2.1, ?_, ?_⟩,aa (d.o.1.still (Below.refl _ _).drew),aa d.o.2.2.drew⟩;·rw[f.o.1];exact r.o.1
 ·exact fun x c=>Bl.lC (Bl.fy a.o.2.2.2) (r.o.2 x c)):G:=h
theorem NF (h:gM R ring g N lb tb rb H ps pg rt X) {v:Value} {l:Δ} {B:Nat} (ho:ez B X v l) (hv:∀x,v.ownBlock=av x->R x) (s:ByteArray) (hs:s.size<=140000) (hl:1<=l.length) (n:l.length<=4096) (G:∀p∈l,(pg.getD p aK).isSome=true) (w:ps.length+2*l.length<=70000000):
  Calls prog 85 #[ptr rb,v,cu s] X fun e X'=>e=c8 (bf ct 0)/\UM (2*l.length) R ring g N lb tb rb H ps (Bl.filled pg 0xb0 l s.data.toList) rt X X':=by
 obtain⟨gv,cap,rfl,hgv,Zz,I⟩:=Own.form ho hl;have jK:(l.length:Int)<=4096:=κ
 obtain⟨F,hF⟩:=ξx (Bl.filled pg 0xb0 l s.data.toList);rw[<-hF];have HF:=aa hF;have HO:=aa ho;have HI:=aa h;have HV:=aa (hv gv rfl);have m:=aa (And.intro w (And.intro hs G));clear hF ho h hv w hs G I;have J:((0xb0:UInt8).toNat:Int)=176:=rfl;have h177:((0xb1:UInt8).toNat:Int)=177:=rfl;go_enter func85,ntmps85;unfold ptr;go_wp2;rw[<-J]
 go_loopw [2,7,14] (fun sv kv i wr=>∃j:Nat,j<=l.length/\i=bf ct j/\∃(t:ByteArray) (k:UInt8) (Q:Ξ) (E:Γ),sv=cu t/\kv=bf eD (k.toNat:Int)/\Hid (t.size<=140000/\E.length<=ps.length+2*j/\Bl.filled Q k (l.drop j) t.data.toList=F/\∀p∈l.drop j,(Q.getD p aK).isSome=true)/\Hid (gM R ring g N lb tb rb H E Q rt wr)/\Hid (aE (fun k=>¬R k) X wr)) (fun _ _ i _=>l.length-(RowKit.intOf i).toNat)
 case atStart=>exact⟨0,aA _,rfl,s,0xb0,pg,ps,rfl,rfl,aa ⟨m.o.2.1,κ,HF.o.symm,fun p hp=>m.o.2.2 p hp⟩,aa HI.o,aa (aE.refl _ _)⟩
 case round=>
  obtain⟨j,hj,rfl,t,k,Q,E,rfl,rfl,K,hS,hB⟩:=hrel;by_cases b:j<l.length
  ·have hI:(j:Int)<l.length:=κ;have gz:=Own.but HO.o hB.o (fun x c hn=>hn (by injection c with c;exact c▸HV.o));have hcell:=ez.cellAt gz b;have Lv:=Bl.drop_cons b;obtain⟨p,hp⟩:=ξx (l[j]);rw[<-hp] at hcell Lv;have V:=K.o;rw[Lv] at V;have a:=aa (show j<l.length/\E.length<=70000000/\E.length<=ps.length+2*j/\(Q.getD p aK).isSome=true from⟨b,by have:=m.o.1;omega,V.2.1,V.2.2.2 p au⟩);have L:∀x∈l.drop (j+1),(Q.getD x aK).isSome=true:=fun x c=>V.2.2.2 x (aH _ c);have M:t.size<=140000:=V.1;have htI:(t.size:Int)<=140000:=κ;by_cases O:j+1<l.length
   ·have I5:(j:Int)+1<l.length:=κ;have Yd:=ez.cellAt gz O;obtain⟨q,w⟩:=ξx (l[j+1]);rw[<-w] at Yd;have Y:q=(l.drop (j+1)).headD 0:=by rw[Bl.drop_cons O,w];rfl
    have P:q=(l.drop (j+1)).headD 0/\q<65536/\t.size<=200000:=⟨Y,by
     have h1:=Bl.fy (L q (by rw[Bl.drop_cons O,w];exact au));have:=hS.o.rep.few;omega,κ⟩
    have S:Bl.filled (Q.set p (av (Bl.page k t.data.toList q))) 0xb1 (l.drop (j+1)) (t.data.toList.drop 506)=F/\∀x∈l.drop (j+1),(Q.getD x aK).isSome=true:=⟨by rw[Y];exact V.2.2.1,L⟩;clear gz hp w Y V L b O Lv hj M K;have m:=aa P;have r:=aa S;clear P S;go_wp2_with fail;refine (uj wr k t q m.o.2.2 m.o.2.1).mono ?_;rintro e w1 ⟨rfl,A⟩;have T:=aa (And.intro (hS.o.still A) (hB.o.trans (aE.aF A (fun k=>¬R k)) (fun _ _ h=>h)));clear A;go_wp2_with fail;refine (sX T.o.1 p (bs (Bl.iH k t.data.toList q)) zaL).mono ?_;rintro e W ⟨rfl,U,n,y,Z⟩;rw[bJ,(Bl.uU a.o.2.2.2 (by rw[Bl.fu];omega)).2] at y;rw[aG,(Bl.uU a.o.2.2.2 (by rw[Bl.fu];omega)).1];have d:=aa (show gM R ring g N lb tb rb H U (Q.set p (av (Bl.page k t.data.toList q))) rt W/\U.length<=ps.length+2*(j+1)/\aE (fun k=>¬R k) X W from⟨y,zaL,T.o.2.trans Z (fun _ _ h=>h)⟩);clear y Z n;by_cases z:506<t.size
    ·have XA:(506:Int)<t.size:=κ;have h5J:(506:Int)<=t.size:=κ;have C:min (t.size:Int) 506=506:=κ;obtain⟨u,hu⟩:∃u,t.extract 506 t.size=u:=⟨_,rfl⟩
     have f:=aa (show u.data.toList=t.data.toList.drop 506/\u.size<=140000 by
      rw[<-hu];exact⟨jW _ _,by rw[ByteArray.size_extract];have:=m.o;omega⟩)
     clear z;go_wp2_with (refine wp_region_any η ?_;refine Hid.o ?_);refine aa ?_;try (change wpAny _ _ _ _ _ _ _ (bu _))
     refine tk 0 ?_;refine tk 1 ?_;refine tk 2 ?_;refine tk 3 ?_;refine tk 4 ?_;refine tk 5 ?_;refine tk 6 ?_;try simp only[Act.put,aC,aB,ay]
     refine wpAny_done η ?_ _;go_wp2;go_roundw
     case rel=>
      exact zah
     case measure=>have:=a.o.1;simp[RowKit.intOf];omega
    ·have XA:¬(506:Int)<t.size:=κ;have f:=aa (show ByteArray.empty.data.toList=t.data.toList.drop 506/\ByteArray.empty.size<=140000 from⟨(gj (by rw[aU];exact Nat.le_of_not_lt z)).symm,ξ⟩);obtain⟨u,hu⟩:=ξx ByteArray.empty;rw[<-hu] at f;have D:=aa hu;clear z hu;go_wp2_with (refine wp_region_any η ?_;refine Hid.o ?_);refine aa ?_;try (change wpAny _ _ _ _ _ _ _ (bu _))
     have h5K:¬(506:Int)<t.size:=κ;have h5L:(0:Int)<=t.size:=κ;have C:min (t.size:Int) 506=t.size:=κ;refine tk 0 ?_;refine tk 1 ?_;refine tk 2 ?_;refine tk 3 ?_;refine tk 4 ?_;refine tk 5 ?_;refine tk 6 ?_;try simp only[Act.put,aC,aB,ay]
     rw[<-D.o];refine wpAny_done η ?_ _;go_wp2;go_roundw
     case rel=>
      exact zah
     case measure=>have:=a.o.1;simp[RowKit.intOf];omega
   ·have I5:¬(j:Int)+1<l.length:=κ;obtain⟨q,hq0⟩:∃q:Nat,q=0:=⟨_,rfl⟩;have Y:q=(l.drop (j+1)).headD 0:=(by rw[gj κ,hq0];rfl);have P:q=(l.drop (j+1)).headD 0/\q<65536/\t.size<=200000:=⟨Y,κ,κ⟩;have S:Bl.filled (Q.set p (av (Bl.page k t.data.toList q))) 0xb1 (l.drop (j+1)) (t.data.toList.drop 506)=F/\∀x∈l.drop (j+1),(Q.getD x aK).isSome=true:=⟨by rw[Y];exact V.2.2.1,L⟩;have aaZ:(0:Int)=(q:Int):=κ;clear gz hp Y V L b O Lv hj M K;have m:=aa P;have r:=aa S;have HQ0:=aa aaZ;clear P S aaZ hq0;go_wp2_with fail;rw[HQ0.o];refine (uj wr k t q m.o.2.2 m.o.2.1).mono ?_;rintro e w1 ⟨rfl,A⟩;have T:=aa (And.intro (hS.o.still A) (hB.o.trans (aE.aF A (fun k=>¬R k)) (fun _ _ h=>h)));clear A;go_wp2_with fail;refine (sX T.o.1 p (bs (Bl.iH k t.data.toList q)) zaL).mono ?_;rintro e W ⟨rfl,U,n,y,Z⟩;rw[bJ,(Bl.uU a.o.2.2.2 (by rw[Bl.fu];omega)).2] at y;rw[aG,(Bl.uU a.o.2.2.2 (by rw[Bl.fu];omega)).1];have d:=aa (show gM R ring g N lb tb rb H U (Q.set p (av (Bl.page k t.data.toList q))) rt W/\U.length<=ps.length+2*(j+1)/\aE (fun k=>¬R k) X W from⟨y,zaL,T.o.2.trans Z (fun _ _ h=>h)⟩);clear y Z n;by_cases z:506<t.size
    ·have XA:(506:Int)<t.size:=κ;have h5J:(506:Int)<=t.size:=κ;have C:min (t.size:Int) 506=506:=κ;obtain⟨u,hu⟩:∃u,t.extract 506 t.size=u:=⟨_,rfl⟩
     have f:=aa (show u.data.toList=t.data.toList.drop 506/\u.size<=140000 by
      rw[<-hu];exact⟨jW _ _,by rw[ByteArray.size_extract];have:=m.o;omega⟩)
     clear z;go_wp2_with (refine wp_region_any η ?_;refine Hid.o ?_);refine aa ?_;try (change wpAny _ _ _ _ _ _ _ (bu _))
     refine tk 0 ?_;refine tk 1 ?_;refine tk 2 ?_;refine tk 3 ?_;refine tk 4 ?_;refine tk 5 ?_;refine tk 6 ?_;try simp only[Act.put,aC,aB,ay]
     refine wpAny_done η ?_ _;go_wp2;go_roundw
     case rel=>
      exact zah
     case measure=>have:=a.o.1;simp[RowKit.intOf];omega
    ·have XA:¬(506:Int)<t.size:=κ;have f:=aa (show ByteArray.empty.data.toList=t.data.toList.drop 506/\ByteArray.empty.size<=140000 from⟨(gj (by rw[aU];exact Nat.le_of_not_lt z)).symm,ξ⟩);obtain⟨u,hu⟩:=ξx ByteArray.empty;rw[<-hu] at f;have D:=aa hu;clear z hu;go_wp2_with (refine wp_region_any η ?_;refine Hid.o ?_);refine aa ?_;try (change wpAny _ _ _ _ _ _ _ (bu _))
     have h5K:¬(506:Int)<t.size:=κ;have h5L:(0:Int)<=t.size:=κ;have C:min (t.size:Int) 506=t.size:=κ;refine tk 0 ?_;refine tk 1 ?_;refine tk 2 ?_;refine tk 3 ?_;refine tk 4 ?_;refine tk 5 ?_;refine tk 6 ?_;try simp only[Act.put,aC,aB,ay]
     rw[<-D.o];refine wpAny_done η ?_ _;go_wp2;go_roundw
     case rel=>
      exact zah
     case measure=>have:=a.o.1;simp[RowKit.intOf];omega
  ·have hI:¬(j:Int)<l.length:=κ;have hj2:j=l.length:=κ;have ZD:Q=F:=(by have:=K.o.2.2.1;rw[hj2,List.drop_length] at this;exact this);have HE:=aa (show UM (2*l.length) R ring g N lb tb rb H ps F rt X wr from⟨E,by have:=K.o.2.1;omega,by rw[<-ZD];exact hS.o,hB.o⟩);clear b hj hj2 ZD;go_wp2;go_ret;exact⟨rfl,HE.o⟩
def Wx (s:ByteArray) (R:Φ) (ring g N lb tb rb:Nat) (H:List Wl.Text) (ps:Γ) (pg:Ξ) (rt:Δ) (X:World) (e:Ending) (X':World):Prop:=
 ∃l cy,e=c8 (ec #[bf ct (l.headD 0:Nat),bf ct 0])/\Bl.Iu pg l s.data.toList cy/\UM (4*Bl.need s.size) R ring g N lb tb rb H ps cy rt X X'
theorem Rp (h:gM R ring g N lb tb rb H ps pg rt X) (s:ByteArray) (hr:Bl.refused pg s.size=0) (r:ps.length<=60000000):
  Calls prog 45 #[ptr rb,cu s] X fun e X'=>Wx s R ring g N lb tb rb H ps pg rt X e X':=by
 have hs:s.size<=131072:=by
  unfold Bl.refused at hr;by_cases hs:131072<s.size;·rw[if_pos hs] at hr;cases hr
  ·omega
 have hn:Rm.used pg+Bl.need s.size<=pg.length:=by
  unfold Bl.refused at hr;rw[if_neg κ] at hr;by_cases hn:pg.length<Rm.used pg+Bl.need s.size;·rw[if_pos hn] at hr;cases hr
  ·omega
 have i:=DX h s κ;rw[hr] at i;have z:=aa i;have t:=aa h;have c:=aa (show Rm.used pg+Bl.need s.size<=pg.length/\ps.length<=60000000/\s.size<=131072/\Bl.need s.size<=260/\1<=Bl.need s.size from⟨hn,r,hs,Bl.C_ κ,Bl.yR _⟩);have F:(s.size:Int)<=131072:=κ
 clear h i hr hn hs r;go_enter func45,ntmps45;unfold ptr;go_wp2_with fail;refine z.o.mono ?_;rintro e X1 ⟨rfl,j⟩;have u:=aa (And.intro (t.o.still j) j);clear j;go_wp2_with fail;refine (r7 X1 s.size zaz).mono ?_;rintro e X2 ⟨rfl,rfl⟩;go_wp2_with fail;refine (ND u.o.1 (Bl.need s.size) c.o.1 zaz).mono ?_;rintro e X3 ⟨v,l,Q,rfl,m,hl,w,⟨I,G,h3,-⟩,B,n⟩;obtain⟨K,cap,rfl,C,L,f⟩:=Own.form m (by rw[hl];exact c.o.2.2.2.2);have A:=(aE.aF u.o.2 (fun k=>¬R k)).trans B (fun _ _ h=>h);have b:=aa (And.intro h3 (And.intro A (And.intro m (And.intro hl (And.intro w G)))));have J:(0:Int)<l.length:=zaz
 clear h3 A B m hl w G n f;go_wp2_with fail;refine (NF b.o.1 b.o.2.2.1 (fun x q=>dc q) s zaz (by have:=c.o;have:=b.o.2.2.2.1;omega) (by have:=c.o;have:=b.o.2.2.2.1;omega) b.o.2.2.2.2.1.now (by have:=c.o;have:=b.o.2.2.2.1;have:=b.o.2.2.2.2.2;omega)).mono ?_;rintro e X4 ⟨rfl,P,Z,h4,d⟩;have oP:=Own.but b.o.2.2.1 d (fun x q hn=>hn (dc q));have hcell:=ez.cellAt oP (k:=0) κ
 have D:=aa (show Wx s R ring g N lb tb rb H ps pg rt X (c8 (ec #[bf ct (l.headD 0:Nat),bf ct 0])) X4 by
  refine⟨l,_,rfl,b.o.2.2.2.2.1.Iv (by rw[b.o.2.2.2.1,show s.data.toList.length=s.size from aU]),P, ?_,h4.less (fun k E=>cS E) t.o.rr,b.o.2.1.trans d (fun k _ hn hr=>hn (cS hr))⟩;have:=b.o.2.2.2.1;have:=b.o.2.2.2.2.2;omega)
 have y:l[0]' κ=l.headD 0:=by cases l with
  |nil=>simp at J
  |cons a l=>rfl
 rw[y] at hcell;generalize l.headD 0=p at*;clear h4 d oP Z y;go_wp2
 go_ret2
 exact D.o
end
namespace Bl
theorem Gi {pg:Ξ} {p:Nat} {t:Wl.Text} (h:pg.getD p aK=av t):Rm.got pg p=t/\Rm.refuse pg p=0:=by have hp:=jS h;unfold Rm.got Rm.refuse;rw[if_pos κ,if_pos κ,cK,h];exact⟨rfl,rfl⟩
theorem iT.here {pg:Ξ} {k:UInt8} {p:Nat} {l:Δ} {s:Wl.Text} (h:iT pg k (p::l) s):pg.getD p aK=av (page k s (l.headD 0))/\(s.length<=506/\l=[]\/506<s.length/\∃q l',l=q::l'/\iT pg 0xb1 (q::l') (s.drop 506)):=by
 cases l with
 |nil=>exact⟨h.2,cS ⟨h.1,rfl⟩⟩
 |cons q l=>exact⟨h.2.1,dc ⟨h.1,q,l,rfl,h.2.2⟩⟩
end Bl
theorem Bd.grown {B:Nat} {w w':World} {b:Nat} {l:List UInt8} {row:Option Nat} (h:Bd B w b l) (hg:w.grownBy w' row) (f:row≠av b) (i:∀g,row=av g->∃cs,w.heap[g]?=av (dg cs 3 (0,0))):Bd B w' b l:=by
 have key:∀p,Lib.BuilderAtF 255 5 B b p (Lib.byteCells l) w->Lib.BuilderAtF 255 5 B b p (Lib.byteCells l) w':=by
  rintro p ⟨j,v,c,d,hn⟩;have H:=(fY.1 c).1;refine⟨j,v,by rw[hg.block b H fun e=>f e.symm];exact c,d.kept hg ?_,hn⟩;rcases d.2 with⟨a,_⟩|⟨g,cap,cur,F,a,_,U,_⟩;·exact cS (by rw[a];rfl)
  ·refine dc fun e=> ?_;rw[a] at e;obtain⟨cs,hcs⟩:=i g (e.symm.trans rfl);rw[U] at hcs;injection hcs with hcs;injection hcs with _ hcs;exact absurd hcs ξ
 exact h.imp (key _) (key _)
theorem Bd.below {B:Nat} {w w':World} {b:Nat} {l:List UInt8} (h:Bd B w b l) (H:Below w.heap.size w w'):Bd B w' b l:=
 h.grown (row:=aK) ⟨H.os,H.tape,H.output,H.size,fun k a _=>H.block k a⟩ (fun e=>zaH) (fun g e=>zaH)
theorem Bd.block {B:Nat} {w:World} {b:Nat} {l:List UInt8} (h:Bd B w b l):∃cs,w.heap[b]?=av (dg cs 255 (0,0)):=by
 rcases h with⟨_,v,H,_⟩|⟨_,v,H,_⟩;·exact⟨_,H⟩
 ·exact⟨_,H⟩
theorem ez.oth {B b:Nat} {w w':World} {v:Value} {l:Δ} (h:ez B w v l) (H:∃cs,w.heap[b]?=av (dg cs 255 (0,0))) (k:Oth b w w'):ez B w' v l:=by
 obtain⟨cs,H⟩:=H;refine⟨h.1, ?_⟩;rcases h.2 with a|⟨g,cap,cur,d,hg,hh,r⟩;·exact cS a
 ·refine dc ⟨g,cap,cur,d,hg,k g _ hh (fun e=> ?_) (fun c f e=> ?_),r⟩;·injection e with e;rw[e,H] at hh;injection hh with hh;injection hh with _ hh;exact absurd hh ξ
  ·injection e with _ e;exact absurd e ξ
theorem Yf (B:Nat) (w:World) (h:B<=w.heap.size):Bd B (w.alloc (dg #[dr aK,cx aK 0 0] 255)) w.heap.size []:=
 cS ⟨h,cx aK 0 0,heap_alloc_new w _,World.ownsRowF_nil _ _ _ _,by simp[Value.ownBlock]⟩
theorem UT (l t:List UInt8) (n:Nat) (h:(l.drop 6).take n=t):(bs l).extract 6 (6+n)=bs t:=by
 have e:((bs l).extract 6 (6+n)).data.toList=t:=by rw[ByteArray.data_extract,Array.toList_extract];show (List.drop 6 l).take (6+n-6)=t;rw[show 6+n-6=n by omega];exact h
 rw[<-e,KD]
theorem UU (l t:List UInt8) (h:l.drop 6=t):(bs l).extract 6 (bs l).size=bs t:=by have e:=jW (bs l) 6;rw[bJ,h] at e;rw[<-e,KD]
theorem UW (w:World) (p:Nat):bg DW (w.alloc (dg #[bf ct (p:Int)] 3)) w.heap.size 0 [p]:=
 bg.dZ (aW.new w #[bf ct (p:Int)] 3) (by rw[z7];rfl)
section
variable {X X':World} {R R' S:Φ} {ring g N lb tb rb:Nat} {H H':List Wl.Text} {ps ps':Γ} {pg cy:Ξ} {rt rt':Δ}
theorem Gj (h:gM R ring g N lb tb rb H ps pg rt X) (p:Nat) {T:Wl.Text} (hp:pg.getD p aK=av T) (c:T.length=512) (d:Bl.kindOf T=0xb1) (left:Nat) (hl:Bl.leftOf T=left):
  Calls prog 172 #[ptr rb,bf ct p,bf ct left] X fun e X'=>e=c8 (ec #[cu (bs T),bf ct 0])/\Below X.heap.size X X':=by
 have f:=aa (wG h p);obtain⟨E,i⟩:=Bl.Gi hp;rw[E,i] at f;have hs:(bs T).size=512:=by rw[aG];exact c
 have b:=aa (fun w=>zg w (bs T) hs);have j:=aa (fun w=>zh w (bs T) hs);rw[bJ,d] at b;rw[bJ,hl] at j;have a:((0xb1:UInt8).toNat:Int)=177:=rfl;rw[a] at b;clear hp c d hl E i h hs a;go_enter func172,ntmps172;unfold ptr;go_wp2_with fail;refine f.o.mono ?_;rintro e X1 ⟨rfl,A⟩;go_wp2_with fail;refine (b.o _).mono ?_;rintro e X2 ⟨rfl,rfl⟩;go_wp2_with fail;refine (j.o _).mono ?_;rintro e X3 ⟨rfl,n,rfl⟩;go_wp2
 go_ret2
 exact⟨rfl,A.trans (dF _ n|>.mono A.size)⟩
def Rq (l:Δ) (s:ByteArray) (X:World) (e:Ending) (X':World):Prop:=
 ∃v,e=c8 (ec #[v,cu s,bf ct 0])/\ez X.heap.size X' v l/\Below X.heap.size X X'
structure Rr (pg:Ξ) (l:Δ) (s:Wl.Text) (pre:Δ) (p:Nat) (rest:Δ) (k:UInt8) (t done:Wl.Text):Prop where
 pages:l=pre++p::rest
 chain:Bl.iT pg k (p::rest) t
 text:s=done++t
theorem NG (h:gM R ring g N lb tb rb H ps pg rt X) (P:Nat) (l0:Δ) (s:ByteArray) (hc:Bl.iT pg 0xb0 (P::l0) s.data.toList) (hs:s.size<=131072):
  Calls prog 122 #[ptr rb,bf ct P] X fun e X'=>Rq (P::l0) s X e X':=by
 have HR:=aa (wG h P);obtain⟨I,-⟩:=hc.here;obtain⟨e1,E⟩:=Bl.Gi I;rw[e1,E] at HR;obtain⟨J,U⟩:=ξx (Bl.page 0xb0 s.data.toList (l0.headD 0));have c:s.data.toList.length=s.size:=aU;have x:(bs J).size=512:=by rw[aG,U];exact Bl.mg _ _ _
 have HK:=aa (fun w=>zg w (bs J) x);have HL:=aa (fun w=>zh w (bs J) x);rw[bJ,U,Bl.BQ] at HK;rw[bJ,U,Bl.BR _ _ _ κ,c] at HL;have u:((0xb0:UInt8).toNat:Int)=176:=rfl;rw[u] at HK;rw[<-U] at HR HL HK;have HT0:=aa U;have HI:=aa h;have HC:=aa (And.intro hc hs);have FN:=aa (show (P::l0).length<=260 by rw[hc.length,c];exact Bl.C_ κ);have A7:(s.size:Int)<=131072:=κ
 have hsN:¬(131072:Int)<s.size:=κ
 clear h hc hs I e1 E U x u c;go_enter func122,ntmps122;unfold ptr;go_wp2_with fail;refine HR.o.mono ?_;rintro e X1 ⟨rfl,A⟩;go_wp2_with fail;refine (HL.o _).mono ?_;rintro e X2 ⟨rfl,n2,rfl⟩;go_wp2_with fail;refine (HK.o _).mono ?_;rintro e X3 ⟨rfl,rfl⟩;have HB:=aa (A.trans (dF _ n2|>.mono A.size));clear A;generalize X1.drewN n2=Y at*;go_wp2;obtain⟨b,hb⟩:=ξx (Y.heap.size+1);obtain⟨Z,hZ⟩:=ξx ((Y.alloc (dg #[bf ct (P:Int)] 3)).alloc (dg #[dr aK,cx aK 0 0] 255))
 have H0:=aa (show ez X.heap.size Z (cx (av ⟨Y.heap.size,0,aK⟩) 1 1) [P]/\Bd X.heap.size Z b []/\Below X.heap.size X Z by
  have K:=HB.o.size;rw[hZ];refine⟨Own.alloc (ez.dZ (aW.new Y #[bf ct (P:Int)] 3) rfl (by show 1<=1000000;omega) K) _, ?_, ?_⟩;·have:=Yf X.heap.size (Y.alloc (dg #[bf ct (P:Int)] 3)) zbe;rw[aY] at this;rw[hb];exact this
  ·exact (HB.o.alloc K _).alloc zbe _)
 rw[<-hb,<-hZ];clear hb hZ
 go_loopw [1,7,8,9,10] (fun pv hv ev lv gv wr=>∃(pre:Δ) (p:Nat) (rest:Δ) (k:UInt8) (t done:Wl.Text),pv=bf ct p/\hv=cu (bs (Bl.page k t (rest.headD 0)))/\ev=bf ct 0/\lv=bf ct t.length/\Hid (Rr pg (P::l0) s.data.toList pre p rest k t done)/\Hid (ez X.heap.size wr gv (pre++[p]))/\Hid (Bd X.heap.size wr b done)/\Hid (Below X.heap.size X wr)) (fun _ _ _ lv _ _=>(RowKit.intOf lv).toNat)
 case atStart=>exact⟨[],P,l0,0xb0,s.data.toList,[],rfl,by rw[HT0.o],rfl,by rw[show s.data.toList.length=s.size from aU],aa ⟨rfl,HC.o.1,rfl⟩,aa H0.o.1,aa H0.o.2.1,aa H0.o.2.2⟩
 case round=>
  clear H0;obtain⟨pre,p,rest,k,t,done,rfl,rfl,rfl,rfl,j,hO,l,hB⟩:=hrel
  have M:=aa (show done.length+t.length<=131072 by
   have:=congrArg List.length j.o.text;rw[aq,show s.data.toList.length=s.size from aU] at this;have:=HC.o.2;omega)
  obtain⟨T,v⟩:=ξx (Bl.page k t (rest.headD 0));have O:(bs T).size=512:=by rw[aG,v];exact Bl.mg _ _ _
  have hTl:T.length=512:=by rw[v];exact Bl.mg _ _ _
  obtain⟨hp,hor⟩:=j.o.chain.here;rw[<-v];rcases hor with⟨a,L⟩|⟨a,q,l',L,y⟩
  ·have hI:¬(506:Int)<t.length:=κ;have hIl:(t.length:Int)<=506:=κ;have Q:(bs T).extract 6 (6+t.length)=bs t:=(by rw[v];exact UT _ _ _ (Bl.Mp k t _ a));have HE:=aa Q;have HF:=aa (show P::l0=pre++[p] by rw[j.o.pages,L]);have HX:=aa (show done++t=s.data.toList from j.o.text.symm);clear hp a v L Q j;obtain⟨n,hn⟩:∃n,t.length=n:=⟨_,rfl⟩;have HNn:=aa hn;rw[hn] at HE M hI hIl |-;clear hn;go_wp2_with fail;rw[HE.o];refine (pG l.o (bs t) (by rw[aG,HNn.o];have:=M.o;omega) (by have:=hB.o.size;omega)).mono ?_;rintro e w1 ⟨rfl,z,A,d⟩;rw[bJ,HX.o] at z;have f:=aa (And.intro z (And.intro (hB.o.trans A) (ez.oth hO.o l.o.block d)));clear z A d;go_wp2_with fail;refine (zA X.heap.size b s.data.toList w1 f.o.1 (by have:=f.o.2.1.size;omega)).mono ?_;rintro e w2 ⟨rfl,hd2,aQ,S⟩;have acM:=aa (show Rq (P::l0) s X (c8 (ec #[u10,cu s,bf ct 0])) w2 from⟨_,rfl,by rw[HF.o];exact ez.oth f.o.2.2 f.o.1.block S,f.o.2.1.trans aQ⟩);clear hd2 aQ S;go_wp2
   go_ret3
   exact acM.o
  ·have hI:(506:Int)<t.length:=κ;have hq:=y.here.1;have O1:q<65536:=(by have V:=Bl.jS hq;have:=HI.o.rep.few;omega);have W:Bl.yS T=q:=(by rw[v,L];exact Bl.Mn _ _ _ O1);have Q:(bs T).extract 6 512=bs (t.take 506):=(by rw[<-O,v];exact UU _ _ (Bl.Mo k t _ a));have HE:=aa Q;have HN:=aa (fun w=>IY w (bs T) O);rw[bJ,W] at HN;have ZF:(t.drop 506).length=t.length-506:=aS;have r:=aa (fun (w:World) (hw:Below X.heap.size X w)=>Gj (HI.o.still hw) q hq (Bl.mg _ _ _) (Bl.BQ _ _ _) (t.length-506) (by rw[Bl.BR _ _ _ (by have:=M.o;omega),ZF]));have acN:=aa (show Rr pg (P::l0) s.data.toList (pre++[p]) q l' 0xb1 (t.drop 506) (done++t.take 506) from⟨by rw[j.o.pages,L,aD];rfl,y,by rw[aD,b_];exact j.o.text⟩)
   have HM:=aa (show (t.take 506).length=506/\(t.drop 506).length=t.length-506/\506<t.length/\pre.length<=5000 from⟨zaE,ZF,a,by
    have V:=congrArg List.length j.o.pages;rw[aq] at V;have:=FN.o;omega⟩)
   obtain⟨m,hm⟩:∃m,t.length=m+506:=⟨t.length-506,κ⟩;have B:=aa hm;rw[hm] at r hI |-;rw[show m+506-506=m by omega] at r;obtain⟨T2,XQ⟩:=ξx (Bl.page 0xb1 (t.drop 506) (l'.headD 0));rw[<-XQ] at r;have nO:=aa XQ;clear hp a v L Q j y hq O1 W ZF hm XQ;have i:((m+506:Nat):Int)=(m:Int)+506:=κ;rw[i] at hI |-;have I5:(506:Int)<(m:Int)+506:=κ;have Tg:(m:Int)<=131072:=(by have:=M.o;have:=B.o;omega);clear i;go_wp2_with fail;rw[HE.o];refine (pG l.o (bs (t.take 506)) (by rw[aG,HM.o.1];have:=M.o;have:=B.o;omega) (by have:=hB.o.size;omega)).mono ?_;rintro e w1 ⟨rfl,z,A,d⟩;rw[bJ] at z;have f:=aa (And.intro z (And.intro (hB.o.trans A) (ez.oth hO.o l.o.block d)));clear z A d;go_wp2_with fail;refine (HN.o w1).mono ?_;rintro e w2 ⟨rfl,n3,rfl⟩;have F:=aa (show Bd X.heap.size (w1.drewN n3) b (done++t.take 506)/\Below X.heap.size X (w1.drewN n3)/\ez X.heap.size (w1.drewN n3) u10 (pre++[p]) from⟨Bd.below f.o.1 (dF w1 n3),f.o.2.1.trans ((dF w1 n3).mono f.o.2.1.size),Own.drewN f.o.2.2 n3⟩);clear f;generalize w1.drewN n3=w2 at*;go_wp2_with fail;refine (r.o w2 F.o.2.1).mono ?_;rintro e w3 ⟨rfl,b8⟩;have C:=aa (show Bd X.heap.size w3 b (done++t.take 506)/\Below X.heap.size X w3/\ez X.heap.size w3 u10 (pre++[p]) from⟨Bd.below F.o.1 b8,F.o.2.1.trans (b8.mono F.o.2.1.size),Own.below F.o.2.2 b8 (af _)⟩);clear b8 F;go_wp2_with (at_builtin;refine Hid.o ?_);refine aa ?_;refine gP acL rfl _ _ rfl rfl (Own.alloc C.o.2.2 _) (by have:=C.o.2.1.size;rw[aY];omega) w3.heap.size 0 1 1 [q] rfl rfl (UW _ _) (by rw[aq];have:=HM.o.2.2.2;show pre.length+1+1<=_;omega) ?_;intro v' w4 oP iE
   have H4:=aa (show ez X.heap.size w4 v' (pre++[p]++[q])/\Bd X.heap.size w4 b (done++t.take 506)/\Below X.heap.size X w4 by
    have D:Below w3.heap.size w3 (w3.alloc (dg #[bf ct (q:Int)] 3)):=(Below.refl _ w3).alloc (af _) _;have hu:∀g,u10.ownBlock=av g->X.heap.size<=g/\∃cs,(w3.alloc (dg #[bf ct (q:Int)] 3)).heap[g]?=av (dg cs 3 (0,0)):=by
     intro g hg;rcases (Own.alloc C.o.2.2 (dg #[bf ct (q:Int)] 3)).2 with⟨e,_⟩|⟨g',cap',cur,e,hB',hh,_⟩;·rw[e] at hg;cases hg
     ·rw[e] at hg;have E:av g'=av g:=hg;injection E with E;subst E;exact⟨hB',_,hh⟩
    refine⟨oP, ?_, ?_⟩;·refine Bd.grown (Bd.below C.o.1 D) iE (fun e=> ?_) (fun g hg=>(hu g hg).2);obtain⟨cs,hcs⟩:=(hu b e).2;obtain⟨cs',G⟩:=(Bd.below C.o.1 D).block;rw[hcs] at G;injection G with G;injection G with _ G;exact absurd G ξ
    ·have V:=C.o.2.1.trans (D.mono C.o.2.1.size);exact V.trans ⟨iE.os,iE.tape,iE.output,iE.size,fun k hk=>iE.block k (bL hk V.size) (fun e=>by have:=(hu k e.symm).1;omega)⟩)
   clear oP iE;go_wp2;go_roundw
   case rel=>exact⟨pre++[p],q,l',0xb1,t.drop 506,done++t.take 506,rfl,by rw[nO.o],rfl,by rw[HM.o.2.1,B.o];go_num,acN,aa H4.o.1,aa H4.o.2.1,aa H4.o.2.2⟩
   case measure=>simp[RowKit.intOf];omega
theorem Ru (h:gM R ring g N lb tb rb H ps pg rt X) (p:Nat) (l0:Δ) (s:ByteArray) (hc:Bl.iT pg 0xb0 (p::l0) s.data.toList) (hs:s.size<=131072):
  Calls prog 79 #[ptr rb,bf ct p] X fun e X'=>e=c8 (ec #[cu s,bf ct 0])/\Below X.heap.size X X':=by
 have a:=aa (NG h p l0 s hc hs);clear h hc hs;go_enter func79,ntmps79;unfold ptr;go_wp2_with fail;refine a.o.mono ?_;rintro e X1 ⟨v,rfl,b,A⟩;clear b;go_wp2
 go_ret2
 exact⟨rfl,A⟩
end
end
end Go.Proofs.YtgfdijemhanfkaaGreatDoor
