/- Elder texts, cut down and merged (6). -/
import Derived.Test.YtgfdijemhanfkaaGreatDoorP3
import Derived.Test.YtgfdijemhanfkaaGreatDoorP4
import Derived.Test.YtgfdijemhanfkaaGreatDoorP2
import Derived.Test.YtgfdijemhanfkaaGreatDoorP1
import Derived.Test.YtgfdijemhanfkaaGreatDoorP5
import Derived.Laws.Bits128
import Derived.BigQuiet
import Derived.Deep.RegionLaw
import Derived.BigRegion
import Derived.Lib.Hide
import Derived.Deep.DeepFit
import Derived.Deep.RegionHeld3
import Derived.Laws.CopyRow
import Derived.Lib.AppendStr
import Derived.StillTailTactics
import Derived.ChangeSlices
import Derived.Deep.Grids
import Derived.Lib.SlBytesConst
import Derived.Outline
import Derived.Laws.BitsAllLaws
import Derived.Test.YtgfdijemhanfkaaGreatDoorPTk
set_option maxRecDepth 100000
set_option maxHeartbeats 8000000
namespace Go.Proofs.YtgfdijemhanfkaaGreatDoor
open _root_.Go.Proofs.Tryz
open Value renaming int→bf,bool→ey,slice→cx,pointer→dr,string→cu,tuple→ec,agg→eU
open Ending renaming returned→c8
open Obj renaming cells→dg
open Option renaming some→av,none→aK
open IntKind renaming i64→ct,u8→eD,u64→eZ
open Or renaming inl→cS,inr→dc
open List renaming mem_cons->aM,length_set->bV,length_map->aL,getElem?_map->cY,getElem?_eq_getElem->aI,getD_eq_getElem?_getD->bC,mem_append_right->fH,mem_append_left->jF,getElem_mem->bp,nil_append->cM,replicate->aV,map_append->bM,map_congr_left->mK,mem_map->bY,take_of_length_le->bD,set_append_right->iP,length_replicate->dR,replicate_succ->k_,set_cons_zero->ay,getElem?_append_right->gO,getElem?_replicate->mF,append_nil->bh,mem_append->ah,length_append->aq,length_singleton->gi,take_succ_eq_append_getElem->cz,length_take->aJ,map_cons->bI,append_assoc->aD,setIfInBounds_toArray->aC,set_cons_succ->aB,length_cons->a_,drop_eq_getElem_cons->cE
open Nat renaming le_trans->aN,lt_of_lt_of_le->bL,zero_add->bG,min->eV,min_eq_left->bT,zero_le->aA,mul_one->eR,sub_self->dm,le_refl->af,lt_or_ge->ep
open Int renaming toNat_natCast->cK,tdiv_eq_ediv_of_nonneg->mL
open _root_.Array renaming length_toList->aU,getElem?_eq_some_iff->fY
open World renaming block_lt_of_cell?->bA,drew->bu,size_alloc->aY
open UInt8 renaming ofNat->az,toNat_ofNat'->bR
section
open Go.RowKit
theorem P8 {k:IntKind} {a b:Int} (h:a=b):Ending.returned (Value.int k a)=c8 (bf k b):=by rw[h]
theorem jH {a b:Bool} (h:a=b):Ending.returned (Value.bool a)=c8 (ey b):=by rw[h]
section
variable {α β:Type} {K:Elem α} {K':Elem β} {E E' T:TypeId} {B B':Nat} {w:World} {v v':Value} {l:List α} {l':List β}
theorem Own.typed (h:Own K E B w v l) {k:Nat} (H:v.ownBlock=av k):∃cur,w.heap[k]?=av (dg cur E (0,0)):=by
 rcases h.2 with⟨rfl,_⟩|⟨g,cap,cur,rfl,_,hh,_⟩;·simp[Value.ownBlock] at H
 ·simp[Value.ownBlock] at H;subst H;exact⟨cur,hh⟩
theorem Own.dh (h:Own K E B w v l) {g:Nat} {t:TypeId} {cs:List Value} (H:aW w g t cs) (a:E≠t):v.ownBlock≠av g:=by intro e;obtain⟨cur,hc⟩:=h.typed e;unfold aW at H;rw[H] at hc;injection hc with hc;injection hc with _ hc;exact a hc.symm
theorem Own.IU (h:Own K E B w v l) (h':Own K' E' B' w v' l') (H:E≠E') {k:Nat} (a:v.ownBlock=av k):v'.ownBlock≠av k:=by intro e;obtain⟨cur,hc⟩:=h.typed a;obtain⟨c,y⟩:=h'.typed e;rw[hc] at y;injection y with y;injection y with _ y;exact H y
theorem aW.ne {g G:Nat} {t t':TypeId} {cs cs':List Value} (h:aW w g t cs) (h':aW w G t' cs') (H:t≠t'):g≠G:=by grind [aW]
theorem Own.slot {g n c:Nat} (h:Own K E B w (cx (av ⟨g,0,aK⟩) n c) l):g<w.heap.size/\n=l.length/\l.length<=c:=by
 rcases h.2 with⟨e,_⟩|⟨G,C,cur,e,_,hh,hc,_⟩;·cases e
 ·grind
end
def ptr (c:Nat):Value:=dr (av ⟨c,0,aK⟩)
def dA:Elem Nat:=nS ptr (fun _=>rfl)
def sL:Elem (Nat×Nat):=⟨fun x=>[bf ct x.1,ptr x.2],2,ξ,fun _=>rfl,by
 intro a u hu
 simp only[aM,List.not_mem_nil,or_false] at hu
 rcases hu with rfl|rfl<;>rfl⟩
theorem acv:dx prog 92 207 sL.size:=dx.of (size:=2) (bytes:=16) (z:=.agg #[.int ct 0,.pointer aK]) underlying92 η rfl ξ
structure fE (w:World) (g f cf l cl:Nat) (vo:Value) (n:Int) (off:Bool) (pf pl:Δ) (ws:List (Nat×Nat)):Prop where
 blk:aW w g 94 [cx (av ⟨f,0,aK⟩) pf.length cf,cx (av ⟨l,0,aK⟩) pl.length cl,vo,bf ct n,ey off]
 of:Own dA 139 0 w (cx (av ⟨f,0,aK⟩) pf.length cf) pf
 ol:Own dA 139 0 w (cx (av ⟨l,0,aK⟩) pl.length cl) pl
 oo:Own sL 207 0 w vo ws
 fl:f≠l
namespace fE
variable {w w':World} {g f cf l cl:Nat} {vo:Value} {n:Int} {off:Bool} {pf pl:Δ} {ws:List (Nat×Nat)}
theorem gf (h:fE w g f cf l cl vo n off pf pl ws):g≠f:=fun e=>h.of.dh h.blk ξ zaF
theorem gl (h:fE w g f cf l cl vo n off pf pl ws):g≠l:=fun e=>h.ol.dh h.blk ξ zaF
theorem og (h:fE w g f cf l cl vo n off pf pl ws):vo.ownBlock≠av g:=h.oo.dh h.blk ξ
theorem ofn (h:fE w g f cf l cl vo n off pf pl ws):vo.ownBlock≠av f:=fun e=>h.oo.IU h.of ξ e rfl
theorem oln (h:fE w g f cf l cl vo n off pf pl ws):vo.ownBlock≠av l:=fun e=>h.oo.IU h.ol ξ e rfl
theorem but {S:Φ} (h:fE w g f cf l cl vo n off pf pl ws) (a:aE S w w') (b:¬S g) (c:¬S f) (h3:¬S l) (h4:∀k,vo.ownBlock=av k->¬S k):fE w' g f cf l cl vo n off pf pl ws:=
 ⟨h.blk.but a b,h.of.but a (fun k H=>by simp[Value.ownBlock] at H;subst H;exact c),h.ol.but a (fun k H=>by simp[Value.ownBlock] at H;subst H;exact h3),h.oo.but a h4,h.fl⟩
theorem alloc (h:fE w g f cf l cl vo n off pf pl ws) (o:Obj):fE (w.alloc o) g f cf l cl vo n off pf pl ws:=
 h.but ((aE.refl (fun _=>False) w).alloc o) id id id (fun _ _=>id)
theorem Xx (h:fE w g f cf l cl vo n off pf pl ws) (j:Nat) (u:Value) (K:Value) (n':Int) (o:Bool) (W:List (Nat×Nat))
  (H:Own sL 207 0 w K W)
  (hs:[Value.slice (av ⟨f,0,aK⟩) pf.length cf,cx (av ⟨l,0,aK⟩) pl.length cl,vo,bf ct n,ey off].set j u=[cx (av ⟨f,0,aK⟩) pf.length cf,cx (av ⟨l,0,aK⟩) pl.length cl,K,bf ct n',ey o]):
  fE (w.setCell ⟨g,j,aK⟩ u) g f cf l cl K n' o pf pl W:=by
 have b:aE (· =g) w (w.setCell ⟨g,j,aK⟩ u):=(aE.refl _ w).setCell _ _ (fun _=>rfl);refine⟨?_,h.of.but b (fun k a e=>h.gf ?_),h.ol.but b (fun k a e=>h.gl ?_),H.but b (fun k a e=> ?_),h.fl⟩;·rw[<-hs];exact h.blk.set j u
 ·simp[Value.ownBlock] at a;omega
 ·simp[Value.ownBlock] at a;omega
 ·exact H.dh h.blk ξ (by rw[a,e])
theorem T6 (h:fE w g f cf l cl vo n off pf pl ws) (n':Int):fE (w.setCell ⟨g,3,aK⟩ (bf ct n')) g f cf l cl vo n' off pf pl ws:=h.Xx 3 _ vo n' off ws h.oo rfl
theorem T7 (h:fE w g f cf l cl vo n off pf pl ws) (b:Bool):fE (w.setCell ⟨g,4,aK⟩ (ey b)) g f cf l cl vo n b pf pl ws:=h.Xx 4 _ vo n b ws h.oo rfl
theorem P9 (h:fE w g f cf l cl vo n off pf pl ws) (K:Value) (W:List (Nat×Nat)) (H:Own sL 207 0 w K W):fE (w.setCell ⟨g,2,aK⟩ K) g f cf l cl K n off pf pl W:=h.Xx 2 _ K n off W H rfl
theorem T8 (h:fE w g f cf l cl vo n off pf pl ws) (j c:Nat):fE (w.setCell ⟨f,j,aK⟩ (ptr c)) g f cf l cl vo n off (pf.set j c) pl ws:=by
 have H:aE (· =f) w (w.setCell ⟨f,j,aK⟩ (ptr c)):=(aE.refl _ w).setCell _ _ (fun _=>rfl);have hs:=Own.store h.of j c;refine⟨?_, ?_,h.ol.but H (fun k a e=>h.fl ?_),h.oo.but H (fun k a e=>h.ofn (by rw[a,e])),h.fl⟩;·rw[bV];exact h.blk.but H h.gf
 ·rw[bV];exact hs
 ·simp[Value.ownBlock] at a;omega
theorem MK (h:fE w g f cf l cl vo n off pf pl ws) (j c:Nat):fE (w.setCell ⟨l,j,aK⟩ (ptr c)) g f cf l cl vo n off pf (pl.set j c) ws:=by
 have H:aE (· =l) w (w.setCell ⟨l,j,aK⟩ (ptr c)):=(aE.refl _ w).setCell _ _ (fun _=>rfl);have hs:=Own.store h.ol j c;refine⟨?_,h.of.but H (fun k a e=>h.fl ?_), ?_,h.oo.but H (fun k a e=>h.oln (by rw[a,e])),h.fl⟩;·rw[bV];exact h.blk.but H h.gl
 ·simp[Value.ownBlock] at a;omega
 ·rw[bV];exact hs
theorem IV (h:fE w g f cf l cl vo n off pf pl ws) (hg:w.grownBy w' vo.ownBlock) (K:Value) (W:List (Nat×Nat)) (b:Own sL 207 0 w' K W):
  fE (w'.setCell ⟨g,2,aK⟩ K) g f cf l cl K n off pf pl W:=by
 have a:aE (fun k=>vo.ownBlock=av k) w w':=⟨hg.os,hg.tape,hg.output,hg.size,fun k H hn=>hg.block k H (fun e=>hn e.symm)⟩;have h':aW w' g 94 [cx (av ⟨f,0,aK⟩) pf.length cf,cx (av ⟨l,0,aK⟩) pl.length cl,vo,bf ct n,ey off]:=h.blk.but a h.og;have c:=h.of.but a (fun k H=>by simp[Value.ownBlock] at H;subst H;exact h.ofn);have h3:=h.ol.but a (fun k H=>by simp[Value.ownBlock] at H;subst H;exact h.oln);have A:aE (· =g) w' (w'.setCell ⟨g,2,aK⟩ K):=(aE.refl _ w').setCell _ _ (fun _=>rfl);refine⟨h'.set 2 K,c.but A (fun k H e=>h.gf ?_),h3.but A (fun k H e=>h.gl ?_),b.but A (fun k H e=>b.dh h' ξ (by rw[H,e])),h.fl⟩;·simp[Value.ownBlock] at H;omega
 ·simp[Value.ownBlock] at H;omega
end fE
def P_ (w:World) (F:Φ) (T:Nat->List UInt8) (cs:Δ):Prop:=∀c∈cs,aW w c 141 ((T c).map bU)/\F c/\(T c).length=512
theorem P_.but {S:Φ} {w w':World} {F:Φ} {T:Nat->List UInt8} {cs:Δ} (h:P_ w F T cs) (H:aE S w w') (hn:∀c∈cs,¬S c):P_ w' F T cs:=
 fun c hc=>⟨(h c hc).1.but H (hn c hc),(h c hc).2⟩
def rN (w:World) (F:Φ) (g:Nat) (d:Dk.cG):Prop:=
 ∃(f cf l cl:Nat) (vo:Value) (n:Int) (pf pl:Δ) (ws:List (Nat×Nat)) (T:Nat->List UInt8),
  fE w g f cf l cl vo n d.off pf pl ws/\P_ w F T (pf++(pl++ws.map (·.2)))/\d.gK=pf.map T/\d.loose=ws.map (fun x=>(x.1,T x.2))/\d.now=pl.map T/\
  max n (-1)=d.fuel/\n<=9223372036854775807/\-9223372036854775808<=n/\1<=pf.length/\pf.length<=65536/\(∀x∈ws,x.1<pf.length)/\
  F g/\F f/\F l/\(∀k,vo.ownBlock=av k->F k)/\∀k,F k->k<w.heap.size
def b9 (F:Φ) (w:World) (f:Φ) (w':World):Prop:=aE F w w'/\∀k,f k->F k\/w.heap.size<=k
theorem b9.refl (F:Φ) (w:World):b9 F w F w:=⟨aE.refl _ _,fun _ h=>cS h⟩
theorem b9.trans {F a f:Φ} {w w' W:World} (h:b9 F w a w') (k:b9 a w' f W):b9 F w f W:=
 ⟨h.1.trans k.1 (fun i hi hf=>(h.2 i hf).resolve_right κ),fun i hi=>by
  rcases k.2 i hi with hf|hl;·exact h.2 i hf
  ·exact dc (aN h.1.size hl)⟩
theorem rN.lt {w:World} {F:Φ} {g:Nat} {d:Dk.cG} (h:rN w F g d):∀k,F k->k<w.heap.size:=by obtain⟨_,_,_,_,_,_,_,_,_,_,_,_,_,_,_,_,_,_,_,_,_,_,_,_,_,h⟩:=h;exact h
theorem rN.but {S:Φ} {w w':World} {F:Φ} {g:Nat} {d:Dk.cG} (h:rN w F g d) (i:aE S w w') (hn:∀k,F k->¬S k):rN w' F g d:=by obtain⟨f,cf,l,cl,vo,n,pf,pl,ws,T,q,p,h3,h4,hp,r,s,j,t,u,v,H,a,b,e,m⟩:=h;exact⟨f,cf,l,cl,vo,n,pf,pl,ws,T,q.but i (hn _ H) (hn _ a) (hn _ b) (fun k o=>hn _ (e k o)),p.but i (fun c hc=>hn c (p c hc).2.1),h3,h4,hp,r,s,j,t,u,v,H,a,b,e,fun k o=>bL (m k o) i.size⟩
theorem zaq {G:Prop} (h:G:=by unfold ptr;go_wp2;go_ret;exact⟨rfl,rfl⟩):G:=h
theorem fR (w:World) (F:Φ) (g:Nat) (d:Dk.cG) (hd:rN w F g d):
  Calls prog 33 #[ptr g] w fun e w'=>e=c8 (ey d.off)/\w'=w:=by
 obtain⟨f,cf,l,cl,vo,n,pf,pl,ws,T,h,H,h3,h4,hp,m,o,a,p,q,r,b,c,i,j,k⟩:=hd;have c4:w.cell? ⟨g,4,aK⟩=av (ey d.off):=h.blk.cell rfl;clear h H h3 h4 hp;go_enter func33,ntmps33;exact zaq
theorem uf (w:World) (F:Φ) (g:Nat) (d:Dk.cG) (hd:rN w F g d):
  Calls prog 32 #[ptr g] w fun e w'=>e=c8 (bf ct d.gK.length)/\w'=w:=by
 obtain⟨f,cf,l,cl,vo,n,pf,pl,ws,T,h,H,h3,h4,hp,m,o,a,p,q,r,b,c,i,j,k⟩:=hd;have c0:w.cell? ⟨g,0,aK⟩=av (cx (av ⟨f,0,aK⟩) pf.length cf):=h.blk.cell rfl;have hl:d.gK.length=pf.length:=by rw[h3,aL]
 rw[hl];clear h H h3 h4 hl hp;go_enter func32,ntmps32;exact zaq
theorem qX (w:World) (F:Φ) (g:Nat) (d:Dk.cG) (i:Int) (hd:rN w F g d):
  Calls prog 162 #[ptr g,bf ct i] w fun e w'=>e=c8 (ey (d.has i))/\w'=w:=by
 obtain⟨f,cf,l,cl,vo,n,pf,pl,ws,T,h,H,h3,h4,hp,o,p,a,q,r,s,b,c,j,k,m⟩:=hd;have c0:w.cell? ⟨g,0,aK⟩=av (cx (av ⟨f,0,aK⟩) pf.length cf):=h.blk.cell rfl;have hl:d.gK.length=pf.length:=by rw[h3,aL]
 unfold Dk.cG.has;rw[hl];clear h H h3 h4 hl hp;by_cases hi:0<=i;·go_enter func162,ntmps162;unfold ptr;go_wp2;go_ret;refine⟨jH ?_,rfl⟩;simp[hi]
 ·go_enter func162,ntmps162;unfold ptr;go_wp2;go_ret;refine⟨jH ?_,rfl⟩;simp only[Bool.false_eq,Bool.and_eq_false_iff,decide_eq_false_iff_not];omega
theorem rN.yH {w:World} {F:Φ} {g:Nat} {d:Dk.cG} (n:Int) (hd:rN w F g d) (q:-9223372036854775808<=n) (r:n<=9223372036854775807):rN (w.setCell ⟨g,3,aK⟩ (bf ct n)) F g (d.yH n)/\b9 F w F (w.setCell ⟨g,3,aK⟩ (bf ct n)):=by
 obtain⟨f,cf,l,cl,vo,m,pf,pl,ws,T,o,p,s,t,u,A,B,v,x,y,z,K,a,b,h,i⟩:=hd;have H:aE (· =g) w (w.setCell ⟨g,3,aK⟩ (bf ct n)):=(aE.refl _ w).setCell _ _ (fun _=>rfl);refine⟨⟨f,cf,l,cl,vo,n,pf,pl,ws,T,o.T6 n,p.but H (fun c hc e=>(p c hc).1.ne o.blk ξ e),s,t,u,rfl,r,q,x,y,z,K,a,b,h,fun k j=> ?_⟩, ?_,fun k j=>cS j⟩;·have:=i k j;have:=H.size;omega
 ·exact H.mono (fun k _ e=>e▸K)
theorem rN.dead {w:World} {F:Φ} {g:Nat} {d:Dk.cG} (hd:rN w F g d):rN (w.setCell ⟨g,4,aK⟩ (ey true)) F g d.dead/\b9 F w F (w.setCell ⟨g,4,aK⟩ (ey true)):=by
 obtain⟨f,cf,l,cl,vo,m,pf,pl,ws,T,o,p,q,r,s,t,u,a,v,x,y,K,b,h,i,j⟩:=hd;have H:aE (· =g) w (w.setCell ⟨g,4,aK⟩ (ey true)):=(aE.refl _ w).setCell _ _ (fun _=>rfl);refine⟨⟨f,cf,l,cl,vo,m,pf,pl,ws,T,o.T7 true,p.but H (fun c hc e=>(p c hc).1.ne o.blk ξ e),q,r,s,t,u,a,v,x,y,K,b,h,i,fun k n=> ?_⟩, ?_,fun k n=>cS n⟩;·have:=j k n;have:=H.size;omega
 ·exact H.mono (fun k _ e=>e▸K)
theorem ug (w:World) (F:Φ) (g:Nat) (d:Dk.cG) (hd:rN w F g d):
  Calls prog 118 #[ptr g] w fun e w'=>e=c8 (ey (decide (d.fuel≠0)))/\rN w' F g (if d.fuel=0 then d.dead else d.i_)/\b9 F w F w':=by
 have a:=aa hd;obtain⟨f,cf,l,cl,vo,n,pf,pl,ws,T,k,i,j,m,p,q,z,t,A,B,r,u,v,x,K,b⟩:=hd;have c3:w.cell? ⟨g,3,aK⟩=av (bf ct n):=k.blk.cell rfl;have f3:w.frozen? ⟨g,3,aK⟩=false:=k.blk.frozen 3;have c4:w.cell? ⟨g,4,aK⟩=av (ey d.off):=k.blk.cell rfl;have f4:w.frozen? ⟨g,4,aK⟩=false:=k.blk.frozen 4;have H:=aa (And.intro q (And.intro i (And.intro j (And.intro m (And.intro p r)))));clear k i j m p q r b K;by_cases y:n=0
 ·subst y;have hf:d.fuel=0:=by rw[<-H.o.1];rfl
  rw[if_pos hf];go_enter func118,ntmps118;unfold ptr;go_wp2;go_ret;exact⟨jH (by rw[decide_eq_false];exact fun h=>h hf),a.o.dead⟩
 ·have hf:¬d.fuel=0:=by rw[<-H.o.1];omega
  rw[if_neg hf];by_cases hp:0<n;·have c:n>0:=hp;have C:IntKind.i64.wrap (n-1)=n-1:=zaA;go_enter func118,ntmps118;unfold ptr;go_wp2;go_ret;have s:=a.o.yH (n-1) κ κ;have e:d.yH (n-1)=d.i_:=(by have:=H.o.1;unfold Dk.cG.yH Dk.cG.i_;congr 1;rw[if_pos κ];omega);rw[e] at s;refine⟨jH (by rw[decide_eq_true hf]),s⟩
  ·have c:¬n>0:=hp;go_enter func118,ntmps118;unfold ptr;go_wp2;go_ret;have e:d.i_=d:=(by have:=H.o.1;unfold Dk.cG.i_;rw[if_neg κ]);rw[e];exact⟨rfl,a.o,b9.refl _ _⟩
theorem wk (g i:Nat):(⟨g,0,aK⟩:Addr).add i=⟨g,i,aK⟩:=by unfold Addr.add;split<;>simp_all
theorem r6 (w:World) (c:Nat):(Instr.sliceAt 141 (dr (av ⟨c,0,aK⟩)) aK aK aK).run prog w=.ok (cx (av ⟨c,0,aK⟩) 512 512) w:=by
 have e:prog.arrayLen 141=512:=η
 have E:prog.elem 141=5:=η
 have a:=run_sliceAt_array_all (P:=prog) w 141 ⟨c,0,aK⟩ (by rw[e,E];kernel_rfl);rw[a,e,E];show ((sizeOf 5).run prog w).andThen _=_;rw[sizeOf5];simp[go_sem,Addr.add]
theorem Dn (w:World) (c:Nat) (t:List UInt8) (h:aW w c 141 (t.map bU)) (hl:t.length=512):(convert 151 9 (cx (av ⟨c,0,aK⟩) 512 512)).run prog w=.ok (cu (bs t)) w:=by
 have:=run_convert_bytes_back (P:=prog) w 151 9 5 ⟨c,0,aK⟩ 512 t η η η (by
  intro i hi;rw[wk];refine h.cell ?_;rw[cY,aI hi];rfl)
 rw[hl] at this;exact this
theorem Ff (w:World) (F:Φ) (g:Nat) (d:Dk.cG) (i:Int) (hd:rN w F g d):
  Calls prog 107 #[ptr g,bf ct i] w fun e w'=>e=c8 (ec #[cu (bs (d.read i).1),bf ct (d.read i).2])/\w'=w:=by
 have a:=aa hd;by_cases b:d.off=true
 ·have H:d.read i=([],3):=by unfold Dk.cG.read;rw[if_pos b]
  rw[H];clear H hd;go_enter func107,ntmps107;go_wp2_with fail;refine (fR _ _ _ _ a.o).mono ?_;rintro e w1 ⟨rfl,rfl⟩;rw[b];go_wp2
  go_ret2
  exact⟨rfl,rfl⟩
 ·have j:d.off=false:=by simpa using b
  by_cases hh:d.has i=true
  ·have hi:0<=i/\i<d.gK.length:=(by simpa[Dk.cG.has] using hh);obtain⟨f,cf,l,cl,vo,n,pf,pl,ws,T,K,q,r,z,s,A,M,B,O,P,D,E,G,I,u,v⟩:=hd;have m:d.gK.length=pf.length:=(by rw[r,aL]);obtain⟨k,rfl⟩:∃k:Nat,i=k:=⟨i.toNat,κ⟩;have J:pl.length=pf.length:=(by have:=congrArg List.length s;rw[aL,Dk.cG.now,Dk.iR,r,aL] at this;exact this.symm);have x:k<pl.length:=κ;have H:d.read k=(T pl[k],0):=(by unfold Dk.cG.read;rw[if_neg b,if_pos hh,s,cK,bC,cY,aI x];rfl);have h:pl[k]∈pf++(pl++ws.map (·.2)):=fH _ (jF _ (bp x));have c1:w.cell? ⟨g,1,aK⟩=av (cx (av ⟨l,0,aK⟩) pl.length cl):=K.blk.cell rfl;have C:w.cell? ⟨l,k,aK⟩=av (ptr pl[k]):=by
    have:=Own.lies K.ol k (ptr pl[k]) (by rw[show dA.cells pl=pl.map ptr from cv _ _ _,cY,aI x];rfl)
    rwa [bG] at this
   have p:=fun w' (L:w'=w)=>Dn w' _ _ (L▸(q _ h).1) (q _ h).2.2;have p:=p w rfl;have Z:=r6 w pl[k];have y:=(Own.slot K.ol).2.2;have Y:(k:Int)<pl.length:=κ;rw[H];generalize pl[k]=c at*;generalize pl.length=N at*;generalize T c=t at*;unfold ptr at C;clear H K q r z s A D u v h m J;go_enter func107,ntmps107;go_wp2_with fail;refine (fR _ _ _ _ a.o).mono ?_;rintro e w1 ⟨rfl,rfl⟩;rw[j];go_wp2_with fail;refine (qX _ _ _ _ _ a.o).mono ?_;rintro e w1 ⟨rfl,rfl⟩;rw[hh];unfold ptr;go_wp2
   go_ret2
   exact⟨rfl,rfl⟩
  ·have W:d.has i=false:=(by simpa using hh);have H:d.read i=([],2):=(by unfold Dk.cG.read;rw[if_neg b,if_neg hh]);rw[H];clear H hd;go_enter func107,ntmps107;go_wp2_with fail;refine (fR _ _ _ _ a.o).mono ?_;rintro e w1 ⟨rfl,rfl⟩;rw[j];go_wp2_with fail;refine (qX _ _ _ _ _ a.o).mono ?_;rintro e w1 ⟨rfl,rfl⟩;rw[W];go_wp2
   go_ret2
   exact⟨rfl,rfl⟩
end
section
open Go.RowKit Lib
theorem Dp {P:Program} (w:World) (a S ty elem:TypeId) (g d D:Nat) (s:ByteArray) (cur:Array Value) (t:TypeId)
  (hu:P.underlying a=av (.slice elem)) (hs:(P.info? elem).map (·.size)=av 1)
  (hg:w.heap[g]?=av (dg cur t (0,0))) (hn:s.size<=d) (hfit:s.size<=cur.size):
  (Builtin.copy_ #[a,S] ty #[.slice (av ⟨g,0,aK⟩) d D,.string s]).run P w=
   .ok (goInt s.size) (w.setRow g (strCells s++cur.toList.drop s.size).toArray):=by
 have hl:=fun size=>run_firstCells_string (P:=P) w size s
 have h:=run_storeCells_at P g 0 t (strCells s) 0 cur w hg (by simpa[strCells_length] using hfit) (strCells_oneCell s)
 simp only[bG,strCells_length,List.take_zero,cM] at h
 have H:eV s.size d=s.size:=bT hn
 cases b:P.info? elem with
 |none=>simp[b] at hs
 |some i=>simp[Builtin.copy_,run_underlying hu,Builtin.lenOf,sizeOf,typeInfo,b,H,hl,h]
theorem py {P:Program} {w:World} {ops:Array Oper} {rest:List Oper} {o:Oper} {a:Act} {Q:Exit->Act->Ψ} (c:o.guard=aK) (d s:Operand) (e i:TypeId)
  (j:o.op=.call {callee:=.builtin .copy,args:=#[d,s],argTypes:=#[e,i]}) (elem:TypeId) (hu:P.underlying e=av (.slice elem)) (f:(P.info? elem).map (·.size)=av 1)
  (g D b:Nat) (S:ByteArray) (hd:a.eval d=.slice (av ⟨g,0,aK⟩) D b) (hs:a.eval s=.string S)
  (cur:Array Value) (t:TypeId) (hg:w.heap[g]?=av (dg cur t (0,0))) (hn:S.size<=D) (hfit:S.size<=cur.size)
  (h:wpList P ops Q rest (a.put o.dst (goInt S.size)) (w.setRow g (strCells S++cur.toList.drop S.size).toArray)):wpList P ops Q (o::rest) a w:=by
 refine wpList_plain c fun K k=> ?_;have H:=Dp (P:=P) w e i o.type elem g D b S cur t hu f hg hn hfit;unfold Oper.wp;simp[execOp,j,resolve,invoke,builtin,hd,hs,H,Result.andThen];exact k _ _ h
def j5:List Value:=aV 512 (bf eD 0)
theorem uh (w:World):(zeroValue 141).run prog w=.ok (eU j5.toArray) w:=η
theorem zc (s:ByteArray):strCells s++j5.drop s.size=(Dk.full s.data.toList).map bU:=by unfold Dk.full j5 strCells;rw[bM,List.map_replicate,List.drop_replicate,aU];rfl
theorem T9 (w:World) (i c:Nat):bg sL (w.alloc (dg #[bf ct i,ptr c] 207)) w.heap.size 0 [(i,c)]:=
 bg.dZ (aW.new w #[bf ct i,ptr c] 207) rfl
theorem rN.wrote {w1 W w:World} {F:Φ} {g f cf l cl c k:Nat} {vo v':Value} {n:Int} {pf pl:Δ} {ws:List (Nat×Nat)} {T:Nat->List UInt8} {d:Dk.cG} {t:List UInt8}
  (j:aE (· =c) w1 W) (hc:w1.heap.size=c) (z:aW W c 141 (t.map bU)) (Q:t.length=512) (A:P_ W F T (pf++(pl++ws.map (·.2)))) (o:fE W g f cf l cl vo n d.off pf pl ws)
  (m:fE w g f cf l cl v' n d.off pf (pl.set k c) (ws++[(k,c)])) (D:aE (fun x=>x=g\/x=l\/vo.ownBlock=av x) W w) (C:∀x,v'.ownBlock=av x->F x\/w1.heap.size<=x)
  (R:d.gK=pf.map T) (E:d.loose=ws.map (fun x=>(x.1,T x.2))) (G:d.now=pl.map T) (I:max n (-1)=d.fuel) (J:n<=9223372036854775807) (q:-9223372036854775808<=n) (L:1<=pf.length) (M:pf.length<=65536)
  (S:∀x∈ws,x.1<pf.length) (K:F g) (r:F f) (a:F l) (s:∀x,vo.ownBlock=av x->F x) (u:∀x,F x->x<w1.heap.size) (U:k<pl.length) (V:pl.length=pf.length):
  ∃B,rN w B g {d with loose:=d.loose++[(k,t)]}/\b9 F w1 B w:=by
 have b:∀x,F x->x≠c:=fun x H e=>by have:=u x H;omega
 have N:=j.size;have O:=D.size;have hcs:=z.lt;have v:∀x∈pf++(pl++ws.map (·.2)),(if x=c then t else T x)=T x:=fun x H=>if_neg (b x (A x H).2.1);refine⟨fun x=>F x\/(w1.heap.size<=x/\x<w.heap.size),⟨f,cf,l,cl,v',n,pf,pl.set k c,ws++[(k,c)],fun x=>if x=c then t else T x,m, ?_, ?_, ?_, ?_,I,J,q,L,M, ?_,cS K,cS r,cS a, ?_, ?_⟩, ?_, ?_⟩
 ·have hold:∀x∈pf++(pl++ws.map (·.2)),aW w x 141 (((if x=c then t else T x)).map bU)/\(F x\/(w1.heap.size<=x/\x<w.heap.size))/\(if x=c then t else T x).length=512:=by
   intro x H;obtain⟨i,P,h3⟩:=A x H;rw[v x H];refine⟨i.but D ?_,cS P,h3⟩;rintro (e|e|e);·exact i.ne o.blk ξ e
   ·subst e;obtain⟨cur,p⟩:=o.ol.typed (k:=x) rfl;unfold aW at i;rw[i] at p;injection p with p;injection p with _ p;exact absurd p ξ
   ·exact o.oo.dh i ξ e
  intro x H;have y:x∈pf++(pl++ws.map (·.2))\/x=c:=zaB
  rcases y with H|H;·exact hold x H
  ·obtain rfl:x=c:=H;refine⟨?_,dc ⟨κ,κ⟩, ?_⟩
   ·show aW w x _ ((if x=x then t else T x).map bU);rw[if_pos rfl];refine z.but D ?_;rintro (e|e|e);·exact b _ K e.symm
    ·exact b _ a e.symm
    ·grind
   ·grind
 ·grind [mK,jF]
 ·show d.loose++[(k,t)]=_;rw[E,bM];congr 1;·exact mK fun x H=>by show _=(x.1,if x.2=c then t else T x.2);rw[v x.2 (fH _ (fH _ (bY.2 ⟨x,H,rfl⟩)))]
  ·simp
 ·show Dk.gG d.gK (d.loose++[(k,t)])=_;rw[Dk.wZ,Dk.Pn,List.map_set,if_pos rfl];congr 1;rw[show Dk.gG d.gK d.loose=d.now from rfl,G];exact mK fun x H=>(v x (fH _ (jF _ H))).symm
 ·grind
 ·intro x H;rcases C x H with h|h;·exact cS h
  ·exact dc ⟨h,(m.oo.block x H).2⟩
 ·grind
 ·have i:aE (fun x=>x=c\/(x=g\/x=l\/vo.ownBlock=av x)) w1 w:=(j.mono (fun x _ e=>cS e)).trans D (fun x _ e=>dc e);refine i.mono ?_;rintro x H (e|e|e|e);·omega
  ·exact e▸K
  ·exact e▸a
  ·exact s x e
 ·grind
theorem ML (w:World) (F:Φ) (g:Nat) (d:Dk.cG) (i:Int) (s:ByteArray) (hd:rN w F g d) (hn:d.loose.length<=900000000):
  Calls prog 108 #[ptr g,bf ct i,cu s] w fun e w'=>e=c8 (bf ct (d.write i s.data.toList).1)/\∃F',rN w' F' g (d.write i s.data.toList).2/\b9 F w F' w':=by
 have p:=aa hd;have A:s.data.toList.length=s.size:=aU;by_cases B:d.off=true
 ·have j:d.write i s.data.toList=(3,d):=by unfold Dk.cG.write;rw[if_pos B]
  rw[j];clear j hd;go_enter func108,ntmps108;go_wp2_with fail;refine (fR _ _ _ _ p.o).mono ?_;rintro e w1 ⟨rfl,rfl⟩;rw[B];go_wp2;go_ret;exact⟨rfl,_,p.o,b9.refl _ _⟩
 ·have r:d.off=false:=by simpa using B
  by_cases hh:d.has i=true
  ·have hi:0<=i/\i<d.gK.length:=(by simpa[Dk.cG.has] using hh);by_cases hs:s.size<=512
   ·have A7:¬((s.size:Int)>512):=κ;by_cases hf:d.fuel=0;·have j:d.write i s.data.toList=(3,d.dead):=(by unfold Dk.cG.write;rw[if_neg B,hh,A,if_neg ξ,if_neg κ,if_pos hf]);have b:=fun w' (hw:w'=w)=>ug w' F g d (hw▸hd);rw[if_pos hf,show decide (d.fuel≠0)=false by simp[hf]] at b;have gU:=aa (b w rfl);rw[j];clear j hd b;go_enter func108,ntmps108;go_wp2_with fail;refine (fR _ _ _ _ p.o).mono ?_;rintro e w1 ⟨rfl,rfl⟩;rw[r];go_wp2_with fail;refine (qX _ _ _ _ _ p.o).mono ?_;rintro e w1 ⟨rfl,rfl⟩;rw[hh];go_wp2_with fail;refine gU.o.mono ?_;rintro e w1 ⟨rfl,v,y⟩;have H12:=aa (And.intro v y);clear v y;go_wp2;go_ret;exact⟨rfl,_,H12.o⟩
    ·have j:d.write i s.data.toList=(0,{d.i_ with loose:=d.loose++[(i.toNat,Dk.full s.data.toList)]}):=(by unfold Dk.cG.write;rw[if_neg B,hh,A,if_neg ξ,if_neg κ,if_neg hf]);have b:=fun w' (hw:w'=w)=>ug w' F g d (hw▸hd);rw[if_neg hf,show decide (d.fuel≠0)=true by simp[hf]] at b;have gU:=aa (b w rfl);rw[j];obtain⟨k,rfl⟩:∃k:Nat,i=k:=⟨i.toNat,κ⟩;clear j hd b;obtain⟨Z,hZ⟩:=ξx j5.toArray;have hz:=fun w=>uh w;rw[<-hZ] at hz;have I:Z.size=512:=(by rw[hZ];rfl);have hzn:¬Z=#[]:=(by intro e;rw[e] at I;cases I);have HZ:=aa hZ;clear hZ;go_enter func108,ntmps108;go_wp2_with fail;refine (fR _ _ _ _ p.o).mono ?_;rintro e w1 ⟨rfl,rfl⟩;rw[r];go_wp2_with fail;refine (qX _ _ _ _ _ p.o).mono ?_;rintro e w1 ⟨rfl,rfl⟩;rw[hh];go_wp2_with fail;refine gU.o.mono ?_;rintro e w1 ⟨rfl,v,y⟩;have HM:=aa y;clear y;obtain⟨f,cf,l,cl,vo,n,pf,pl,ws,T,k1,k2,C,D,E,J,k6,k6',k7,k8,L,M,N,O,K,m⟩:=v;have zb:=r6 (w1.alloc (dg Z 141)) w1.heap.size;go_wp2_with (refine py rfl _ _ 151 9 rfl 5 η η w1.heap.size 512 512 s rfl rfl Z 141 (heap_alloc_new w1 _) hs κ ?_;refine Hid.o ?_);refine aa ?_;obtain⟨c,hc⟩:∃c,w1.heap.size=c:=⟨_,rfl⟩;rw[hc];obtain⟨W,hW⟩:=ξx ((w1.alloc (dg Z 141)).setRow c (strCells s++Z.toList.drop s.size).toArray);rw[<-hW];have aT:aE (· =c) w1 (w1.alloc (dg Z 141)):=(aE.refl _ w1).alloc _;have a:aE (· =c) w1 W:=(by rw[hW];exact aT.setRow c _ (fun _=>rfl));have P:aW W c 141 ((Dk.full s.data.toList).map bU):=(by rw[<-zc s,hW];have:=setRow_heap (w1.alloc (dg Z 141)) c Z (strCells s++Z.toList.drop s.size).toArray 141 (0,0) (by rw[<-hc];exact heap_alloc_new w1 _);rw[HZ.o] at this |-;exact this);have h:=fun k hk=>m k hk;rw[hc] at h;have u:=k1.but a (fun e=>by have:=h _ M;omega) (fun e=>by have:=h _ N;omega) (fun e=>by have:=h _ O;omega) (fun k hk e=>by have:=h _ (K k hk);omega);have Q:=k2.but a (fun x R e=>by have:=h _ (k2 x R).2.1;omega);clear hW aT k1 k2 zb;have HF:d.gK.length=pf.length:=(by rw[show d.gK=d.i_.gK from rfl,C,aL]);have S:pl.length=pf.length:=(by have:=congrArg List.length E;rw[aL,Dk.cG.now,Dk.iR,C,aL] at this;exact this.symm);have acw:k<pl.length:=κ;have ya:(k:Int)<pl.length:=κ;have c1:W.cell? ⟨g,1,aK⟩=av (cx (av ⟨l,0,aK⟩) pl.length cl):=u.blk.cell rfl;have clk:W.cell? ⟨l,k,aK⟩=av (ptr pl[k]):=by
      have:=Own.lies u.ol k (ptr pl[k]) (by rw[show dA.cells pl=pl.map ptr from cv _ _ _,cY,aI acw];rfl)
      rwa [bG] at this
     have flk:W.frozen? ⟨l,k,aK⟩=false:=Own.frozen u.ol k;unfold ptr at clk;have q:=u.MK k c;have z:aE (· =l) W (W.setCell ⟨l,k,aK⟩ (ptr c)):=(aE.refl _ W).setCell _ _ (fun _=>rfl);unfold ptr at q z;have c2:(W.setCell ⟨l,k,aK⟩ (dr (av ⟨c,0,aK⟩))).cell? ⟨g,2,aK⟩=av vo:=q.blk.cell rfl;have hws:ws.length<=900000000:=(by rw[show d.i_.loose=d.loose from rfl] at D;rw[D,aL] at hn;exact hn);have U:=aa (And.intro a (And.intro P (And.intro Q (And.intro u (And.intro q (And.intro z (And.intro h (And.intro L (And.intro K (And.intro m (And.intro C (And.intro D (And.intro J (And.intro E S))))))))))))));clear a P Q u q z h L K m C D J E HF S;unfold ptr;go_wp2_with (at_builtin;refine Hid.o ?_);refine aa ?_;obtain⟨a,P,Q,u,q,z,h,L,K,m,C,D,J,E,S⟩:=U.o;clear U;obtain⟨V,hV⟩:=ξx (W.setCell ⟨l,k,aK⟩ (dr (av ⟨c,0,aK⟩)));rw[<-hV] at q z |-;have X:W.heap.size=V.heap.size:=(by rw[hV];simp[World.setCell]);refine fB acv rfl _ _ rfl rfl (q.oo.alloc _) (aA _) W.heap.size 0 1 1 [(k,c)] rfl rfl (by rw[X];exact T9 V k c) κ ?_;intro v' Y gI iE Be;obtain⟨a',cp',G,_⟩:=Own.slice gI;generalize (ws++[(k,c)]).length=N' at G;subst G;obtain⟨v',G⟩:=ξx (Value.slice a' N' cp');rw[<-G] at gI Be;change (V.alloc (dg #[bf ct k,ptr c] 207)).grownBy Y vo.ownBlock at iE;change v'.ownBlock=vo.ownBlock\/_ at Be;have k4':=(q.alloc (dg #[bf ct k,ptr c] 207)).IV iE v' _ gI;have VY:aE (fun x=>vo.ownBlock=av x) (V.alloc (dg #[bf ct k,ptr c] 207)) Y:=⟨iE.os,iE.tape,iE.output,iE.size,fun x R hn=>iE.block x R (fun e=>hn e.symm)⟩;have b4:=(q.alloc (dg #[bf ct k,ptr c] 207)).blk.but VY q.og;have c2':Y.cell? ⟨g,2,aK⟩=av vo:=b4.cell rfl;have f2':Y.frozen? ⟨g,2,aK⟩=false:=b4.frozen 2
     have dW:aE (fun x=>x=g\/x=l\/vo.ownBlock=av x) W (Y.setCell ⟨g,2,aK⟩ v'):=
      (((z.mono (T:=fun x=>x=g\/x=l\/vo.ownBlock=av x) (fun x _ e=>dc (cS e))).alloc (dg #[bf ct k,ptr c] 207)).trans VY (fun x _ e=>dc (dc e))).setCell ⟨g,2,aK⟩ v' (fun _=>cS rfl)
     have H:=aa (rN.wrote (d:=d.i_) (t:=Dk.full s.data.toList) a hc P (Dk.fC _ κ) Q u k4' dW (fun x R=>by
      rcases Be with e|e;·grind
      ·have v:=e x R;have y:=a.size;have h3:=z.size;simp at v;exact dc κ) C D E J k6 k6' k7 k8 L M N O K m κ S)
     rw[G] at H;clear G;clear a P Q u q z h L K m C D J E S hV X gI iE Be k4' VY b4 dW;go_wp2;go_ret;obtain⟨F',v,y⟩:=H.o;exact⟨rfl,F',v,HM.o.trans y⟩
   ·have A7:(s.size:Int)>512:=κ;have j:d.write i s.data.toList=(5,d):=(by unfold Dk.cG.write;rw[if_neg B,hh,A,if_neg ξ,if_pos κ]);rw[j];clear j hd;go_enter func108,ntmps108;go_wp2_with fail;refine (fR _ _ _ _ p.o).mono ?_;rintro e w1 ⟨rfl,rfl⟩;rw[r];go_wp2_with fail;refine (qX _ _ _ _ _ p.o).mono ?_;rintro e w1 ⟨rfl,rfl⟩;rw[hh];go_wp2;go_ret;exact⟨rfl,_,p.o,b9.refl _ _⟩
  ·have Wb:d.has i=false:=(by simpa using hh);have j:d.write i s.data.toList=(2,d):=(by unfold Dk.cG.write;rw[if_neg B,Wb,if_pos ξ]);rw[j];clear j hd;go_enter func108,ntmps108;go_wp2_with fail;refine (fR _ _ _ _ p.o).mono ?_;rintro e w1 ⟨rfl,rfl⟩;rw[r];go_wp2_with fail;refine (qX _ _ _ _ _ p.o).mono ?_;rintro e w1 ⟨rfl,rfl⟩;rw[Wb];go_wp2;go_ret;exact⟨rfl,_,p.o,b9.refl _ _⟩
theorem MM (w:World) (n:Nat) (hn:n<=1000000):(Instr.makeSlice 90 (.int ct n) (.int ct n)).run prog w=.ok (.slice (av ⟨w.heap.size,0,aK⟩) n n) (w.alloc (dg (aV n (.pointer aK)).toArray 139)):=by obtain⟨i,hi,h,hs,H⟩:=iL (P:=prog) (E:=139) (size:=1) (bytes:=8) (z:=.pointer aK) η;have:=run_make (P:=prog) w 90 139 i (.pointer aK) underlying90 hi h ct ct n n κ κ zaT κ;rw[this,hs,cK,eR,show (Value.pointer aK).cells=#[.pointer aK] from rfl,yF]
theorem ze {w:World} {r n:Nat} {l:Δ} (h:aW w r 139 (l.map ptr)) (hn:l.length=n) (H:n<=1000000):Own dA 139 0 w (cx (av ⟨r,0,aK⟩) n n) l:=by
 have e:dA.cells l=l.map ptr:=cv _ _ _;refine⟨by rw[e,aL];exact (eR _).symm,dc ⟨r,n,(l.map ptr).toArray,by rw[hn],aA _,h,κ,zat, ?_, ?_⟩⟩;·rw[List.size_toArray,aL,hn];exact (eR _).symm
 ·rw[e];exact bD (by rw[aL];exact Nat.le_of_eq (eR _).symm)
theorem tJ (k n:Nat) (a b:Value) (H:k<n):(aV k a++aV (n-k) b).set k a=aV (k+1) a++aV (n-(k+1)) b:=by rw[iP _ _ ν];obtain⟨m,h⟩:∃m,n-k=m+1:=⟨n-k-1,κ⟩;rw[h,show n-(k+1)=m by omega,dR,dm,k_,ay,List.replicate_succ'];simp
theorem B2 (n:Nat) (w:World) (hn:n<=65536):
  Calls prog 31 #[bf ct n] w fun e w'=>∃r c,e=c8 (cx (av ⟨r,0,aK⟩) n n)/\aW w' r 139 ((aV n c).map ptr)/\aW w' c 141 ((Dk.full []).map bU)/\w.heap.size<=r/\w.heap.size<=c/\Below w.heap.size w w':=by
 obtain⟨Z,g⟩:=ξx j5.toArray;have s:=fun w=>uh w;rw[<-g] at s;have d:Z.size=512:=by rw[g];rfl
 have t:¬Z=#[]:=by intro e;rw[e] at d;cases d
 have u:=aa g;clear g;obtain⟨R,j⟩:=ξx ((aV n (Value.pointer aK)).toArray);have b:=fun w=>MM w n κ;rw[<-j] at b;obtain⟨c,hc⟩:∃c,w.heap.size=c:=⟨_,rfl⟩;have H:(w.alloc (dg Z 141)).heap.size=c+1:=by simp[hc]
 obtain⟨W,f⟩:=ξx ((w.alloc (dg Z 141)).alloc (dg R 139));have A:=b (w.alloc (dg Z 141));rw[H,<-f] at A;have l:Hid (aW W (c+1) 139 (aV n (dr aK))/\aW W c 141 ((Dk.full []).map bU)/\Below c w W):=by
  refine aa ⟨?_, ?_, ?_⟩;·have:=aW.new (w.alloc (dg Z 141)) R 139;rw[H,<-f,j] at this;exact this
  ·have:=(aW.new w Z 141).alloc (dg R 139);rw[hc,<-f,u.o] at this;exact this
  ·rw[f];exact ((Below.refl _ _).alloc (Nat.le_of_eq hc.symm) _).alloc zaT _
 have x:=aa j;clear j b f H;go_enter func31,ntmps31;rw[hc];go_wp2
 go_loopw [12] (fun i wr=>∃k:Nat,k<=n/\i=bf ct k/\aW wr (c+1) 139 (aV k (ptr c)++aV (n-k) (dr aK))/\aW wr c 141 ((Dk.full []).map bU)/\Below c w wr) (fun i _=>n-(RowKit.intOf i).toNat)
 case atStart=>exact⟨0,aA _,rfl,l.o.1,l.o.2.1,l.o.2.2⟩
 case round=>
  obtain⟨k,y,rfl,h,a,p⟩:=hrel;by_cases m:k<n
  ·have z:(k:Int)<n:=κ;have hcell:wr.cell? ⟨c+1,k,aK⟩=av (dr aK):=h.cell (by rw[gO ν,dR,dm,mF,if_pos κ]);have v:wr.frozen? ⟨c+1,k,aK⟩=false:=h.frozen k;have q:=aa (And.intro h (And.intro a p));clear h a p;go_wp2;go_roundw
   case rel=>
    obtain⟨h,a,p⟩:=q.o;refine⟨k+1,κ,ς, ?_, ?_, ?_⟩;·rw[<-tJ k n _ _ m];exact h.set k (ptr c)
    ·exact a.other _ _ ν
    ·exact p.setCell ν _
   case measure=>simp[RowKit.intOf];omega
  ·have M:k=n:=κ;subst M;have q:=aa (And.intro h (And.intro a p));clear h a p;go_wp2;go_ret;obtain⟨h,a,p⟩:=q.o;refine⟨c+1,c,rfl, ?_,a,κ,κ,p⟩;rw[List.map_replicate];simpa using h
theorem Ua {W:World} {F:Φ} {n r1 r2 c1 c2 g:Nat} (H:1<=n) (a:n<=65536)
  (hg:aW W g 94 [cx (av ⟨r1,0,aK⟩) n n,cx (av ⟨r2,0,aK⟩) n n,cx aK 0 0,bf ct (-1),ey false])
  (b1:aW W r1 139 ((aV n c1).map ptr)) (b2:aW W r2 139 ((aV n c2).map ptr)) (hr:r1≠r2)
  (t:aW W c1 141 ((Dk.full []).map bU)) (T:aW W c2 141 ((Dk.full []).map bU)) (hF:∀k,F k->k<W.heap.size) (f1:F g) (f2:F r1) (f3:F r2) (f4:F c1) (f:F c2):rN W F g (Dk.fresh n):=by
 have e:(aV n c1).length=n:=dR;have E:(aV n c2).length=n:=dR;refine⟨r1,n,r2,n,cx aK 0 0,-1,aV n c1,aV n c2,[],fun _=>Dk.full [],⟨?_, ?_, ?_,Own.nil _ _ _ _,hr⟩, ?_, ?_,rfl, ?_,rfl,ξ,ξ,by rw[e];exact H,by rw[e];exact a, ?_,f1,f2,f3, ?_,hF⟩;·rw[e,E];exact hg
 ·rw[e];exact ze b1 e κ
 ·rw[E];exact ze b2 E κ
 ·intro x h;simp only[List.map_nil,bh,ah,List.mem_replicate] at h;rcases h with⟨_,rfl⟩|⟨_,rfl⟩;·exact⟨t,f4,Dk.fC [] ξ⟩
  ·exact⟨T,f,Dk.fC [] ξ⟩
 ·rw[List.map_replicate];rfl
 ·rw[List.map_replicate];rfl
 ·intro x h;cases h
 ·intro k b;simp[Value.ownBlock] at b
theorem Ub (n:Nat) (w:World) (i:1<=n) (h:n<=65536):
  Calls prog 16 #[bf ct n] w fun e w'=>∃g F,e=c8 (ec #[ptr g,bf ct 0])/\rN w' F g (Dk.fresh n)/\(∀k,F k->w.heap.size<=k)/\Below w.heap.size w w':=by
 have j:¬(n:Int)<1:=κ
 have l:¬(n:Int)>65536:=κ
 go_enter func16,ntmps16;go_wp2_with fail;refine (B2 n w h).mono ?_;rintro e w1 ⟨r1,c1,rfl,b1,T,L,M,B⟩;go_wp2_with fail;refine (B2 n w1 h).mono ?_;rintro e W ⟨r2,c2,rfl,b2,c,s,u,b⟩;have H:=B.size;have K:=b.size;have m:=b1.lt;have N:=b2.lt;have d:=T.lt;have A:=c.lt;have a:=b1.below b m;have t:=T.below b d;have q:=aa (Ua (F:=fun k=>w.heap.size<=k/\k<W.heap.size+1) i h (aW.new W _ _) (a.alloc _) (b2.alloc _) κ (t.alloc _) (c.alloc _) (fun k f=>by simp;exact f.2) ⟨κ,κ⟩ ⟨κ,κ⟩ ⟨κ,κ⟩ ⟨κ,κ⟩ ⟨κ,κ⟩);have p:=(B.trans (b.mono H)).alloc κ (dg #[cx (av ⟨r1,0,aK⟩) n n,cx (av ⟨r2,0,aK⟩) n n,cx aK 0 0,bf ct (-1),ey false] 94);have r:=aa p;clear b1 b2 T c a t B b p;go_wp2
 go_ret2
 exact⟨_,_,rfl,q.o,fun k f=>f.1,r.o⟩
theorem Own.acz {w:World} {o n c:Nat} {ws:List (Nat×Nat)} (h:Own sL 207 0 w (cx (av ⟨o,0,aK⟩) n c) ws) (k:Nat) (H:k<ws.length):
  w.cell? ⟨o,k*2,aK⟩=av (bf ct (ws[k]).1)/\w.cell? ⟨o,k*2+1,aK⟩=av (ptr (ws[k]).2):=by
 have a:=(Own.lies h).at k 0 ξ H _ rfl;have b:=(Own.lies h).at k 1 ξ H _ rfl;rw[bG] at a b;exact⟨a,b⟩
theorem Own.aan {w:World} {f n cf:Nat} {pf:Δ} (h:Own dA 139 0 w (cx (av ⟨f,0,aK⟩) n cf) pf) (j:Nat) (H:j<pf.length):w.cell? ⟨f,j,aK⟩=av (ptr pf[j]):=by
 have:=Own.lies h j (ptr pf[j]) (by rw[show dA.cells pf=pf.map ptr from cv _ _ _,cY,aI H];rfl)
 rwa [bG] at this
theorem Own.Uc {w:World} {f n cf:Nat} {pf:Δ} (h:Own dA 139 0 w (cx (av ⟨f,0,aK⟩) n cf) pf) (j:Nat) (H:j<pf.length):∃y,w.cell? ⟨f,j,aK⟩=av (dr (av ⟨y,0,aK⟩)):=⟨_,h.aan j H⟩
theorem Own.Qa {α:Type} {K:Elem α} {E:TypeId} {B:Nat} {w:World} {v:Value} {l:List α} (h:Own K E B w v l):l.length<=9223372036854775807:=by
 rcases h.2 with⟨_,e⟩|⟨_,_,_,_,_,_,hc,H,_⟩;·omega
 ·unfold maxLen at H;omega
theorem MN (w:World) (F:Φ) (g:Nat) (d:Dk.cG) (hd:rN w F g d):
  Calls prog 74 #[ptr g] w fun e w'=>e=c8 (bf ct d.flush.1)/\rN w' F g d.flush.2/\b9 F w F w':=by
 have Q:=aa hd;by_cases B:d.off=true
 ·have r:d.flush=(3,d):=by unfold Dk.cG.flush;rw[if_pos B]
  rw[r];clear r hd;go_enter func74,ntmps74;go_wp2_with fail;refine (fR _ _ _ _ Q.o).mono ?_;rintro e w1 ⟨rfl,rfl⟩;rw[B];go_wp2;go_ret;exact⟨rfl,Q.o,b9.refl _ _⟩
 ·have D:d.off=false:=by simpa using B
  by_cases hf:d.fuel=0;·have r:d.flush=(3,d.dead):=(by unfold Dk.cG.flush;rw[if_neg B,if_pos hf]);have H:=fun w' (hw:w'=w)=>ug w' F g d (hw▸hd);rw[if_pos hf,show decide (d.fuel≠0)=false by simp[hf]] at H;have gU:=aa (H w rfl);rw[r];clear r hd H;go_enter func74,ntmps74;go_wp2_with fail;refine (fR _ _ _ _ Q.o).mono ?_;rintro e w1 ⟨rfl,rfl⟩;rw[D];go_wp2_with fail;refine gU.o.mono ?_;rintro e w1 ⟨rfl,s,t⟩;have H12:=aa (And.intro s t);clear s t;go_wp2;go_ret;exact⟨rfl,H12.o⟩
  ·have r:d.flush=(0,{d.i_ with gK:=d.now,loose:=[]}):=(by unfold Dk.cG.flush;rw[if_neg B,if_neg hf]);have H:=fun w' (hw:w'=w)=>ug w' F g d (hw▸hd);rw[if_neg hf,show decide (d.fuel≠0)=true by simp[hf]] at H;have gU:=aa (H w rfl);rw[r];clear r hd H;go_enter func74,ntmps74;go_wp2_with fail;refine (fR _ _ _ _ Q.o).mono ?_;rintro e w1 ⟨rfl,rfl⟩;rw[D];go_wp2_with fail;refine gU.o.mono ?_;rintro e w1 ⟨rfl,s,t⟩;have HM:=aa t;clear t;obtain⟨f,cf,l,cl,vo,n,pf,pl,ws,T,E,R,S,W,X,Y,k6,k6',k7,k8,k9,G,I,k12,u,K⟩:=s;have c2:w1.cell? ⟨g,2,aK⟩=av vo:=E.blk.cell rfl;obtain⟨a,co,rfl,hco⟩:=Own.slice E.oo;have hwl:=Own.Qa E.oo;have HK:=aa (And.intro R (And.intro S (And.intro W (And.intro X (And.intro Y (And.intro u K))))));have H1:=aa E;have H9:=aa k9;clear E R S W X Y u K k9;unfold ptr;go_wp2
   go_loopw [17] (fun i wr=>∃k:Nat,k<=ws.length/\i=bf ct k/\fE wr g f cf l cl (cx a ws.length co) n d.i_.off (Dk.gG pf (ws.take k)) pl ws/\aE (· =f) w1 wr) (fun i _=>ws.length-(RowKit.intOf i).toNat)
   case atStart=>exact⟨0,aA _,rfl,H1.o,aE.refl _ _⟩
   case round=>
    obtain⟨k,hk,rfl,hs,Z⟩:=hrel;by_cases v:k<ws.length
    ·have hI:(k:Int)<ws.length:=κ;obtain⟨o,co',e1,_,_,_⟩:=Own.form hs.oo κ;injection e1 with e1 _ e3;subst e1 e3;obtain⟨ca,cb⟩:=Own.acz hs.oo k v;have m:(Dk.gG pf (ws.take k)).length=pf.length:=Dk.iR _ _;have hat:=H9.o ws[k] (bp v);have c0:wr.cell? ⟨g,0,aK⟩=av (cx (av ⟨f,0,aK⟩) (Dk.gG pf (ws.take k)).length cf):=hs.blk.cell rfl;have J:(ws[k]).1<(Dk.gG pf (ws.take k)).length:=κ;obtain⟨y,C⟩:=hs.of.Uc (ws[k]).1 J;have z:wr.frozen? ⟨f,(ws[k]).1,aK⟩=false:=Own.frozen hs.of _;rw[m] at c0;have L:=aa (And.intro hs Z);have HX:=aa (Dk.Mg pf ws k v);clear hs Z m J;generalize ws[k]=x at*;obtain⟨A,c⟩:=x;have ad_:(A:Int)<pf.length:=(by have:=hat;simp only at this;omega);simp only at ca cb C z;unfold ptr at cb;go_wp2;obtain⟨q,hq⟩:∃q,wr.heap.size=q:=⟨_,rfl⟩;rw[hq];obtain⟨V,hV⟩:=ξx (wr.alloc (dg #[bf ct A,dr (av ⟨c,0,aK⟩)] 207));rw[<-hV];have M:aE (fun _=>False) wr V:=(by rw[hV];exact (aE.refl _ _).alloc _);have bq:aW V q 207 [bf ct A,dr (av ⟨c,0,aK⟩)]:=(by rw[hV,<-hq];exact aW.new wr _ _);have c0':V.cell? ⟨g,0,aK⟩=av (cx (av ⟨f,0,aK⟩) pf.length cf):=M.cell c0 id;have Xy:V.cell? ⟨f,A,aK⟩=av (dr (av ⟨y,0,aK⟩)):=M.cell C id;have N:V.frozen? ⟨f,A,aK⟩=false:=(M.frozen (bA _ _ C) id).trans z;have q0:V.cell? ⟨q,0,aK⟩=av (bf ct A):=bq.cell rfl;have q1:V.cell? ⟨q,1,aK⟩=av (dr (av ⟨c,0,aK⟩)):=bq.cell rfl;have O:=aa M;clear hV M bq c0 C z ca cb hq
     go_still_tail 9,η
     change wpList _ _ _ _ _ V.drew;obtain⟨U,hU⟩:=ξx V.drew;rw[<-hU];have p:aE (fun _=>False) V U:=(by rw[hU];exact (aE.refl _ _).drew);have cfu:U.cell? ⟨f,A,aK⟩=av (dr (av ⟨y,0,aK⟩)):=p.cell Xy id;have ffu:U.frozen? ⟨f,A,aK⟩=false:=(p.frozen (bA _ _ Xy) id).trans N;have P:=aa (O.o.trans p (fun _ _ h=>h));clear hU p c0' Xy N q0 q1 O;go_wp2;go_roundw
     case rel=>
      refine⟨k+1,κ,ς, ?_, ?_⟩;·rw[HX.o];exact (L.o.1.but P.o id id id (fun _ _=>id)).T8 A c
      ·exact (L.o.2.trans P.o (fun _ _ h=>h.elim)).setCell ⟨f,A,aK⟩ _ (fun _=>rfl)
     case measure=>simp[RowKit.intOf];omega
    ·have mh:k=ws.length:=κ;subst mh;rw[List.take_length] at hs;have b2:wr.cell? ⟨g,2,aK⟩=av (cx a ws.length co):=hs.blk.cell rfl;have f2:wr.frozen? ⟨g,2,aK⟩=false:=hs.blk.frozen 2;have m:(Dk.gG pf ws).length=pf.length:=Dk.iR _ _
     have L:=aa (show rN (wr.setCell ⟨g,2,aK⟩ (cx aK 0 0)) F g {d.i_ with gK:=d.now,loose:=[]}/\b9 F w1 F (wr.setCell ⟨g,2,aK⟩ (cx aK 0 0)) by
      obtain⟨R,S,W,X,Y,u,K⟩:=HK.o;have VY:aE (fun x=>x=f\/x=g) w1 (wr.setCell ⟨g,2,aK⟩ (cx aK 0 0)):=(Z.mono (fun x _ e=>cS e)).setCell _ _ (fun _=>dc rfl);have hs':=hs.P9 (cx aK 0 0) [] (Own.nil _ _ _ _);refine⟨⟨f,cf,l,cl,_,n,Dk.gG pf ws,pl,[],T,hs', ?_, ?_,rfl, ?_,Y,k6,k6',κ,κ, ?_,G,I,k12, ?_,fun x b=>bL (K x b) VY.size⟩,VY.mono (fun x _ e=>by rcases e with rfl|rfl;exact I;exact G),fun x b=>cS b⟩
      ·intro x b;have hx':x∈pf++(pl++ws.map (·.2)):=by
        simp only[List.map_nil,bh,ah] at b |-;rcases b with b|b
        ·rcases Dk.Pp ws pf _ b with h|⟨j,h⟩;·exact cS h
         ·grind
        ·exact dc (cS b)
       obtain⟨s,t,h3⟩:=R x hx';refine⟨s.but VY ?_,t,h3⟩;rintro (e|e);·exact H1.o.of.dh s ξ zaF
       ·exact s.ne H1.o.blk ξ e
      ·show d.now=_;rw[Dk.Po,<-S,<-W];rfl
      ·show Dk.gG d.now []=_;exact X
      ·intro x b;cases b
      ·intro x b;simp[Value.ownBlock] at b)
     clear hs Z HK m;go_wp2;go_ret;exact⟨rfl,L.o.1,HM.o.trans L.o.2⟩
end
set_option maxRecDepth 100000
open Go.ChangeShapes Go.WideShapes Go.ChangeAt Go.RowKit
theorem addr_add (g o j:Nat):(⟨g,o,aK⟩:Addr).add j=⟨g,o+j,aK⟩:=by unfold Addr.add;split<;>simp_all
section
open Go.RowKit Lib
def dO:Elem UInt8:=nS bU (fun _=>rfl)
theorem IW:dx prog 151 5 dO.size:=dx.of (size:=1) (bytes:=1) (z:=.int eD 0) underlying151 η rfl ξ
abbrev iZ (B:Nat) (w:World) (v:Value) (l:List UInt8):Prop:=Own dO 5 B w v l
theorem aE.dK {w w':World} {row:Option Nat} (hg:w.grownBy w' row):aE (fun x=>row=av x) w w':=⟨hg.os,hg.tape,hg.output,hg.size,fun x h hn=>hg.block x h (fun e=>hn e.symm)⟩
def fW (z:Bool) (B:Nat) (w:World) (v:Value) (l:List UInt8):Prop:=
 ∃g cap cur f,v=cx (av ⟨g,0,aK⟩) l.length cap/\B<=g/\w.heap[g]?=av (dg cur 5 f)/\(∀j,j<cur.size->¬(f.1<=j/\j<f.2))/\l.length<=cap/\cap<=maxLen/\cur.size=cap/\cur.toList.take l.length=l.map bU/\(z=true->f=(0,0))
variable {z:Bool}
theorem fW.but {B:Nat} {S:Φ} {w w':World} {v:Value} {l:List UInt8} (h:fW z B w v l) (a:aE S w w') (hn:∀g,v.ownBlock=av g->¬S g):fW z B w' v l:=by obtain⟨g,cap,cur,f,rfl,b,H,h3⟩:=h;exact⟨g,cap,cur,f,rfl,b,by rw[a.block g (fY.1 H).1 (hn g rfl)];exact H,h3⟩
theorem fW.alloc {B:Nat} {w:World} {v:Value} {l:List UInt8} (h:fW z B w v l) (o:Obj):fW z B (w.alloc o) v l:=h.but ((aE.refl (fun _=>False) w).alloc o) (fun _ _ h=>h)
theorem fW.slice {B:Nat} {w:World} {v:Value} {l:List UInt8} (h:fW z B w v l):∃g cap,v=cx (av ⟨g,0,aK⟩) l.length cap/\B<=g/\g<w.heap.size/\l.length<=cap:=by obtain⟨g,cap,cur,f,rfl,H,a,_,h4,_⟩:=h;exact⟨g,cap,rfl,H,(fY.1 a).1,h4⟩
theorem fW.cell {B:Nat} {w:World} {g n cap:Nat} {l:List UInt8} (h:fW z B w (cx (av ⟨g,0,aK⟩) n cap) l) (j:Nat) (H:j<l.length):w.cell? ⟨g,j,aK⟩=av (bU l[j]):=by
 obtain⟨G,c,cur,f,e,b,a,_,_,_,_,h3,_⟩:=h;injection e with e1 e2 e3;injection e1 with e1;injection e1 with e1;subst e1;rw[cell_of_row w g j cur _ f a];have:(cur.toList.take l.length)[j]?=av (bU l[j]):=by rw[h3,cY,aI H];rfl
 rw[List.getElem?_take,if_pos H] at this;simpa using this
theorem fW.typed {B:Nat} {w:World} {v:Value} {l:List UInt8} (h:fW z B w v l) {k:Nat} (H:v.ownBlock=av k):∃cur f,w.heap[k]?=av (dg cur 5 f):=by obtain⟨g,cap,cur,f,rfl,_,a,_⟩:=h;simp[Value.ownBlock] at H;subst H;exact⟨cur,f,a⟩
theorem fW.aap {B:Nat} {w:World} {g n cap:Nat} {l:List UInt8} (h:iZ B w (cx (av ⟨g,0,aK⟩) n cap) l):fW true B w (cx (av ⟨g,0,aK⟩) n cap) l:=by
 rcases h.2 with⟨e,_⟩|⟨G,c,cur,e,hg,hh,hc,a,hs,H⟩;·cases e
 ·injection e with e1 e2 e3;injection e1 with e1;injection e1 with e1;subst e1 e2 e3;refine⟨g,cap,cur,(0,0),rfl,hg,hh,fun j _ h=>by have:=h.2;simp only at this;omega,hc,a, ?_, ?_,fun _=>rfl⟩;·rw[show dO.size=1 from rfl,eR] at hs;exact hs
  ·rw[show dO.cells l=l.map bU from cv _ _ _,show dO.size=1 from rfl,eR] at H;exact H
theorem fW.const (w:World) (l:List UInt8) (hn:l.length<=1000000):fW false 0 (w.alloc (dg (l.map bU).toArray 5 (l.length,l.length+1))) (cx (av ⟨w.heap.size,0,aK⟩) l.length l.length) l:=
 ⟨w.heap.size,l.length,(l.map bU).toArray,(l.length,l.length+1),rfl,aA _,heap_alloc_new w _,fun j H h=>by have:=h.1;simp at H;simp only at this;omega,af _,zat,ν,by rw[bD ν],fun h=>χ⟩
theorem wm {B:Nat} {w:World} {v:Value} {l:List UInt8} {ops:Array Oper} {rest:List Oper} {o:Oper} {a:Act} {Q:Exit->Act->Ψ} (e:o.guard=aK) (s x:Operand)
  (A:o.op=.call {callee:=.builtin .append,args:=#[s,x],argTypes:=#[151,151]})
  (hs:a.eval s=v) (hown:fW z B w v l) (C:B<=w.heap.size) (g:Nat) (c:UInt8) (D:a.eval x=.slice (av ⟨g,0,aK⟩) 1 1) (hc:w.cell? ⟨g,0,aK⟩=av (bU c)) (t:l.length<=900000000)
  (h:∀v' w',fW z B w' v' (l++[c])->aE (fun k=>v.ownBlock=av k) w w'->(v'.ownBlock=v.ownBlock\/∀k,v'.ownBlock=av k->w.heap.size<=k)->wpList prog ops Q rest (a.put o.dst v') w'):wpList prog ops Q (o::rest) a w:=by
 obtain⟨i,hi,F,b,m⟩:=iL (P:=prog) (E:=5) (size:=1) (bytes:=1) (z:=.int eD 0) η;obtain⟨G,cap,cur,f,rfl,I,n,h3,h4,J,L,y,p⟩:=hown;have d:∃v' w',(Builtin.append_ #[151,151] o.type #[.slice (av ⟨G,0,aK⟩) l.length cap,.slice (av ⟨g,0,aK⟩) 1 1]).run prog w=.ok v' w'/\fW z B w' v' (l++[c])/\aE (fun k=>av G=av k) w w'/\(v'.ownBlock=av G\/∀k,v'.ownBlock=av k->w.heap.size<=k):=by
  by_cases H:l.length+1<=cap;·refine⟨_,_,rK w 151 o.type 5 i underlying151 hi b G l.length cap cur f n (h3 _ κ) ⟨g,0,aK⟩ (bU c) hc rfl H κ,⟨G,cap,cur.setIfInBounds l.length (bU c),f,ν,I,setRow_heap w G cur _ _ f n,by simpa using h3,zaY,J,by simpa using L, ?_,p⟩,(aE.refl _ w).setRow G _ (fun _=>rfl),cS rfl⟩;rw[Array.toList_setIfInBounds,aq,gi,cz zay,List.getElem_set_self,List.take_set,bM];rw[List.set_eq_of_length_le zaE,y];rfl
  ·have holds:∀j u,(l.map bU)[j]?=av u->w.cell? ((⟨G,0,aK⟩:Addr).add j)=av u:=by
    intro j u hu;rw[show (⟨G,0,aK⟩:Addr).add j=⟨G,j,aK⟩ by unfold Addr.add;split<;>simp_all,cell_of_row w G j cur _ f n];rw[<-y] at hu;by_cases S:j<l.length;·grind
    ·grind
   have hr:=run_append_grow (P:=prog) w 151 o.type 5 i (.int eD 0) underlying151 hi F ⟨G,0,aK⟩ l.length cap (l.map bU) (by rw[b];simp) holds ⟨g,0,aK⟩ 1 1 [bU c] (by rw[b];rfl) (fun j u hu=>by
    cases j with
    |zero=>simp at hu;subst hu;simpa[Addr.add] using hc
    |succ j=>simp at hu) κ κ (growslice_fits κ (by rw[m];omega))
   have q:=grownCap_ge w (l.length+1) cap 5;have hle:=grownCap_le_maxLen w (l.length+1) cap 5 zat;refine⟨_,_,hr,⟨w.heap.size,grownCap w (l.length+1) cap 5,_,(0,0),ν,C,heap_alloc_new w.drew _,fun j _ h=>by have:=h.2;simp only at this;omega,by simpa using q,hle, ?_, ?_,fun _=>rfl⟩,(aE.refl _ w).drew.alloc _,dc fun k M=>by simp[Value.ownBlock] at M;omega⟩;·simp only[Array.size_append,List.size_toArray,aL,size_zeroCells,gi];show l.length+1+(grownCap w (l.length+1) cap 5-(l.length+1))*1=_;omega
   ·grind
 obtain⟨v',w',hr,N,O,r⟩:=d;refine wpList_plain e fun K R=> ?_;unfold Oper.wp execOp;simp only[A,resolve,invoke,builtin,Sem.run_bind,Sem.run_pure,Result.andThen_ok,List.map_toArray,bI,List.map_nil,hs,D,hr];exact R _ _ (h v' w' N O r)
theorem fW.back {B:Nat} {w:World} {v:Value} {l:List UInt8} (h:fW z B w v l):(convert 151 9 v).run prog w=.ok (cu (bs l)) w:=by
 obtain⟨g,cap,rfl,_⟩:=h.slice
 exact run_convert_bytes_back (P:=prog) w 151 9 5 ⟨g,0,aK⟩ cap l η η η (by
  intro i hi;rw[show (⟨g,0,aK⟩:Addr).add i=⟨g,i,aK⟩ by unfold Addr.add;split<;>simp_all];exact h.cell i hi)
theorem Fg (w j n:Nat) (h:j<w):Wl.enc (j+1) (n/256^(w-(j+1)))=Wl.enc j (n/256^(w-j))++[az (n/256^(w-(j+1)))]:=by rw[Wl.enc,Nat.div_div_eq_div_mul,<-Nat.pow_succ,show (w-(j+1)).succ=w-j by omega]
theorem wo (n k:Nat):(n:Int)/2^(8*k)%256=((az (n/256^k)).toNat:Int):=by
 have e:(n:Int)/2^(8*k)=((n/256^k:Nat):Int):=zbd
 rw[e,bR];omega
theorem wu (z:Bool) (B:Nat) (w:World) (v:Value) (l:List UInt8) (n width:Nat) (hown:fW z B w v l) (p:B<=w.heap.size) (hl:l.length<=800000000) (hn:n<2^64) (E:width<=8):
  Calls prog 109 #[v,bf eZ n,bf ct width] w fun e w'=>∃v',e=c8 v'/\fW z B w' v' (l++Wl.enc width n)/\aE (fun k=>v.ownBlock=av k) w w'/\(v'.ownBlock=v.ownBlock\/∀k,v'.ownBlock=av k->w.heap.size<=k):=by
 have d:(width:Int)<=8:=κ
 have t:=aa hown;have x:=aa p;have F:=aa hn;clear hown p hn;go_enter func109,ntmps109;go_wp2
 go_loopw [0,7] (fun u i wr=>∃j:Nat,j<=width/\i=bf ct ((width:Int)-1-j)/\Hid (fW z B wr u (l++Wl.enc j (n/256^(width-j))))/\Hid (aE (fun k=>v.ownBlock=av k) w wr)/\Hid (u.ownBlock=v.ownBlock\/∀k,u.ownBlock=av k->w.heap.size<=k)) (fun _ i _=>((RowKit.intOf i)+1).toNat)
 case atStart=>refine⟨0,aA _,ν,aa ?_,aa (aE.refl _ _),aa (cS rfl)⟩;rw[Wl.enc,bh];exact t.o
 case round=>
  obtain⟨j,q,rfl,r,c,Q⟩:=hrel;by_cases H:j<width
  ·obtain⟨k,a⟩:∃k:Nat,(width:Int)-1-j=k:=⟨width-1-j,κ⟩;have y:(k:Int)<=7:=κ;have P:(0:Int)<=k:=κ;have A:=aa (show k=width-(j+1) by omega);have f:=aa (And.intro H q);rw[a];have D:=aa a;clear a H q d;have X:=aa (wo n k);go_wp2_with (at_builtin;refine Hid.o ?_);refine aa ?_;rw[X.o];refine wm rfl _ _ rfl rfl (r.o.alloc _) (by have:=x.o;have:=c.o.size;simp;omega) wr.heap.size (az (n/256^k)) rfl ((aW.new wr #[bf eD ((az (n/256^k)).toNat:Int)] 5).cell rfl) (by rw[aq,Wl.bO];have:=f.o;omega) ?_;intro v' W G iE s
   have g:=aa (show fW z B W v' (l++Wl.enc (j+1) (n/256^(width-(j+1))))/\aE (fun k=>v.ownBlock=av k) w W/\(v'.ownBlock=v.ownBlock\/∀k,v'.ownBlock=av k->w.heap.size<=k) by
    have C:=c.o.size;refine⟨?_, ?_, ?_⟩;·rw[Fg width j n f.o.1,<-aD,<-A.o];exact G
    ·refine (c.o.alloc _).trans iE fun i hi e=> ?_;rcases Q.o with h|h;·rw[<-h];exact e
     ·have:=h i e;omega
    ·rcases s with h|h;·rw[h];exact Q.o
     ·exact dc fun k a=>by have:=h k a;simp at this;omega)
   clear G iE s;go_wp2;go_roundw
   case rel=>exact⟨j+1,f.o.1,congrArg (Value.int ct) (by have:=D.o;omega),aa g.o.1,aa g.o.2.1,aa g.o.2.2⟩
   case measure=>have:=D.o;simp[RowKit.intOf]<;>omega
  ·have m:j=width:=κ;subst m;have b:(j:Int)-1-j=-1:=κ;rw[b];go_wp2;go_ret;refine⟨_,rfl, ?_,c.o,Q.o⟩;have:=r.o
   rwa [dm,Nat.pow_zero,Nat.div_one] at this
theorem m9 (s:ByteArray) (k:Nat) (h:k<s.size):s.data.toList.take (k+1)=s.data.toList.take k++[s[k]]:=by rw[cz zax];rfl
theorem K7 (a b:Nat) (ha:a<2^56) (c:b<256):bits .or eZ ((a:Int)*256) (b:Int)=((a*256+b:Nat):Int):=by
 have h:(BitVec.ofInt 64 ((a:Int)*256)).toNat=a*256:=by simp_all;omega
 have H:(BitVec.ofInt 64 (b:Int)).toNat=b:=zaB
 have key:(BitVec.ofInt 64 ((a:Int)*256)|||BitVec.ofInt 64 (b:Int)).toNat=a*256+b:=by rw[BitVec.toNat_or,h,H,show a*256=a<<<8 from by rw[Nat.shiftLeft_eq],<-Nat.shiftLeft_add_eq_or_of_lt (by omega:b<2^8)]
 show IntKind.u64.wrap ((BitVec.ofInt 64 ((a:Int)*256)|||BitVec.ofInt 64 (b:Int)).toNat:Nat)=_;rw[key,IntKind.wrap_u64];omega
def Qc:Value->Nat
 |cu t=>t.size
 |_=>0
def Ud (l:List UInt8) (c:UInt8) (t:List UInt8):Prop:=∃m,m<=l.length/\t=l.take m/\(∀i,m<=i->i<l.length->l[i]?=av c)/\(0<m->l[m-1]?≠av c)
def aaq (l:List UInt8) (c:UInt8) (t:List UInt8):Prop:=∃m,m<=l.length/\t=l.drop m/\(∀i,i<m->l[i]?=av c)/\(m<l.length->l[m]?≠av c)
theorem Qd {l t u:List UInt8} (a:Ud l 0 t) (b:aaq t 0 u):u=[]↔Wl.blank l=true:=by
 obtain⟨m,H,rfl,ha,c⟩:=a;obtain⟨j,d,rfl,hc,hd⟩:=b;rw[aJ,bT H] at d hd;unfold Wl.blank;rw[List.all_eq_true,List.drop_eq_nil_iff,aJ,bT H];constructor
 ·intro e;have f:m=0:=by
   rcases Nat.eq_zero_or_pos m with h|h;·exact h
   ·exfalso;have:=hc (m-1) κ;rw[List.getElem?_take_of_lt κ] at this;exact c h this
  intro x g;obtain⟨i,hi,rfl⟩:=List.mem_iff_getElem.1 g;have:=ha i κ hi;rw[aI hi] at this;injection this with this;rw[this];rfl
 ·grind [aI,bp,Nat.eq_zero_or_pos]
theorem get_eq (t:ByteArray) (k:Nat) (h:k<t.size):t.data.toList[k]?=av t[k]:=by rw[aI (by rw[aU];exact h)];rfl
theorem byte_eq {a b:UInt8} (h:((a.toNat:Int)==(b.toNat:Int))=true):a=b:=by rw[beq_iff_eq] at h;exact UInt8.toNat_inj.1 κ
theorem K8 {a b:UInt8} (h:((a.toNat:Int)==(b.toNat:Int))=false):a≠b:=zaB
theorem Bf (s:ByteArray) (c:UInt8) (w:World) (hs:s.size<=9223372036854775807):
  Calls prog 156 #[cu s,bf eD c.toNat] w fun e w'=>(∃t:ByteArray,e=c8 (cu t)/\Ud s.data.toList c t.data.toList)/\w'=w:=by
 go_enter func156,ntmps156;go_wp2
 go_loop [0] (fun v=>∃t:ByteArray,v=cu t/\Hid (t.data.toList=s.data.toList.take t.size)/\t.size<=s.size/\Hid (∀i,t.size<=i->i<s.size->s.data.toList[i]?=av c)) Qc
 case atStart=>exact⟨s,rfl,aa (by rw[bD zaQ]),af _,aa fun i a H=>κ⟩
 case round=>
  obtain⟨t,rfl,b,d,hc⟩:=hrel;by_cases n:0<t.size
  ·have Z:(0:Int)<t.size:=κ;have j:t.size-1<t.size:=κ;have y:(t.size:Int)-1=((t.size-1:Nat):Int):=κ;have p:(t.size:Int)<=9223372036854775807:=κ;have m:=aa (get_eq t (t.size-1) j);go_wp2
   ·have q:=byte_eq ‹_›;have k:(t.extract 0 (t.size-1)).size=t.size-1:=(by rw[mV,aG,aJ,aU];show min _ t.size=_;omega);refine⟨⟨_,rfl,aa ?_,κ,aa fun i a H=> ?_⟩,by change (t.extract 0 (t.size-1)).size<t.size;omega⟩;·rw[k,mV,bJ,b.o,List.take_take,bT κ]
    ·rcases ep i t.size with hi|hi;·have z:i=t.size-1:=κ;have f:=m.o;rw[b.o,List.getElem?_take_of_lt j] at f;rw[z,f,q]
     ·exact hc.o i hi H
   ·have l:=K8 ‹_›;go_ret;refine⟨⟨t,rfl,t.size,by rw[aU];exact d,b.o,fun i a H=>hc.o i a (by rw[aU] at H;exact H),fun _ f=>l ?_⟩,rfl⟩;have g:=m.o;rw[b.o,List.getElem?_take_of_lt j,f] at g;injection g with g;exact g.symm
  ·have Z:¬(0:Int)<t.size:=κ;go_wp2;go_ret;exact⟨⟨t,rfl,t.size,by rw[aU];exact d,b.o,fun i a H=>hc.o i a (by rw[aU] at H;exact H),fun h=>absurd h n⟩,rfl⟩
theorem Dr (s:ByteArray) (c:UInt8) (w:World) (hs:s.size<=9223372036854775807):
  Calls prog 155 #[cu s,bf eD c.toNat] w fun e w'=>(∃t:ByteArray,e=c8 (cu t)/\aaq s.data.toList c t.data.toList)/\w'=w:=by
 go_enter func155,ntmps155;go_wp2
 go_loop [0] (fun v=>∃t:ByteArray,v=cu t/\Hid (t.data.toList=s.data.toList.drop (s.size-t.size))/\t.size<=s.size/\Hid (∀i,i<s.size-t.size->s.data.toList[i]?=av c)) Qc
 case atStart=>exact⟨s,rfl,aa (by rw[dm,List.drop_zero]),af _,aa fun i H=>κ⟩
 case round=>
  obtain⟨t,rfl,a,l,hc⟩:=hrel;by_cases m:0<t.size
  ·have Z:(0:Int)<t.size:=κ;have n:(1:Int)<=t.size:=κ;have k:=aa (get_eq t 0 m);go_wp2
   ·have p:=byte_eq ‹_›;have f:(t.extract 1 t.size).data.toList=t.data.toList.drop 1:=jW t 1;have g:(t.extract 1 t.size).size=t.size-1:=(by rw[ByteArray.size_extract];omega);refine⟨⟨_,rfl,aa ?_,κ,aa fun i H=> ?_⟩,by change (t.extract 1 t.size).size<t.size;omega⟩;·rw[f,g,a.o,List.drop_drop];congr 1;omega
    ·rcases ep i (s.size-t.size) with hi|hi;·exact hc.o i hi
     ·have z:i=s.size-t.size:=κ;have b:=k.o;rw[a.o,List.getElem?_drop,Nat.add_zero] at b;rw[z,b,p]
   ·have j:=K8 ‹_›;go_ret;refine⟨⟨t,rfl,s.size-t.size,by rw[aU];exact Nat.sub_le _ _,a.o,fun i H=>hc.o i H,fun _ b=>j ?_⟩,rfl⟩;have d:=k.o;rw[a.o,List.getElem?_drop,Nat.add_zero,b] at d;injection d with d;exact d.symm
  ·have Z:¬(0:Int)<t.size:=κ;go_wp2;go_ret;refine⟨⟨t,rfl,s.size-t.size,by rw[aU];exact Nat.sub_le _ _,a.o,fun i H=>hc.o i H,fun h=> ?_⟩,rfl⟩;rw[aU] at h;have:s.size=s.data.size:=rfl;omega
namespace Bl
def zf (n:Int):Int:=if n<=506 then 1 else (n-1)/506+1
theorem IX (n:Nat):zf n=(need n:Nat):=by
 unfold zf need;by_cases h:n<=506;·rw[if_pos h,if_pos κ];rfl
 ·rw[if_neg h,if_neg κ];omega
end Bl
theorem Bg (w:World) (n:Int) (b:-9223372036854775808<=n) (c:n<=9223372036854775807):
  Calls prog 84 #[bf ct n] w fun e w'=>e=c8 (bf ct (Bl.zf n))/\w'=w:=by
 by_cases h:n<=506;·have e:Bl.zf n=1:=if_pos h;rw[e];clear e;go_enter func84,ntmps84;go_wp2;go_ret;exact⟨rfl,rfl⟩
 ·obtain⟨q,H⟩:∃q:Int,q=(n-1)/506:=⟨_,rfl⟩;have e:Bl.zf n=q+1:=by rw[H];exact if_neg h
  have d:(n-1).tdiv 506=q:=by rw[mL κ,H]
  have a:q<=9223372036854775806:=κ
  have f:0<=q:=κ
  rw[e];clear e H;go_enter func84,ntmps84;go_wp2;go_ret;exact⟨rfl,rfl⟩
theorem r7 (w:World) (n:Nat) (h:n<=1000000000):
  Calls prog 84 #[bf ct n] w fun e w'=>e=c8 (bf ct (Bl.need n:Nat))/\w'=w:=by
 rw[<-Bl.IX];exact Bg w n κ κ
theorem gJ (s:ByteArray) (k:Nat) (h:k<s.size):s.data.toList.getD k 0=s[k]:=by rw[bC,aI (by rw[aU];exact h),Option.getD_some];rfl
theorem zg (w:World) (s:ByteArray) (hs:s.size=512):
  Calls prog 169 #[cu s] w fun e w'=>e=c8 (bf eD ((Bl.kindOf s.data.toList).toNat:Int))/\w'=w:=by
 have h:0<s.size:=κ
 have H:=aa (gJ s 0 h);go_enter func169,ntmps169;go_wp2;go_ret;exact⟨by unfold Bl.kindOf;rw[H.o];rfl,rfl⟩
theorem sM (a b:Nat) (h:a|||b<9223372036854775808) (ha:a<18446744073709551616) (H:b<18446744073709551616):bits .or ct (a:Int) (b:Int)=((a|||b:Nat):Int):=by
 show IntKind.i64.wrap ((BitVec.ofInt 64 (a:Int)|||BitVec.ofInt 64 (b:Int)).toNat:Int)=_;rw[BitVec.toNat_or,ofInt_u64 a ha,ofInt_u64 b H];generalize a|||b=c at*
 have e:(c:Int)%2^64=c:=Int.emod_eq_of_lt κ κ;simp only[IntKind.wrap,IntKind.bits,IntKind.signed,e];rw[if_neg];simp;omega
theorem bQ (n:Nat) (h:n<9223372036854775808):IntKind.i64.wrap (n:Int)=(n:Int):=by have e:(n:Int)%2^64=n:=Int.emod_eq_of_lt κ κ;simp only[IntKind.wrap,IntKind.bits,IntKind.signed,e];rw[if_neg];simp;omega
theorem Qe (a b n:Nat) (h:b<2^n):a*2^n|||b=a*2^n+b:=by rw[show a*2^n=a<<<n from by rw[Nat.shiftLeft_eq],<-Nat.shiftLeft_add_eq_or_of_lt h]
theorem sN (a b:UInt8):bits .or ct (IntKind.i64.wrap (IntKind.i64.wrap (a.toNat:Int)*256)) (IntKind.i64.wrap (b.toNat:Int))=((a.toNat*256+b.toNat:Nat):Int):=by
 have ha:=a.toNat_lt;have h:=b.toNat_lt;have e:a.toNat*256|||b.toNat=a.toNat*256+b.toNat:=Qe _ _ 8 h
 rw[bQ b.toNat κ,bQ a.toNat κ,show (a.toNat:Int)*256=((a.toNat*256:Nat):Int) by omega,bQ (a.toNat*256) κ,sM _ _ (by rw[e];omega) κ κ,e]
theorem Fh (c a b:UInt8):bits .or ct (bits .or ct (IntKind.i64.wrap (IntKind.i64.wrap (c.toNat:Int)*65536)) (IntKind.i64.wrap (IntKind.i64.wrap (a.toNat:Int)*256))) (IntKind.i64.wrap (b.toNat:Int))=((c.toNat*65536+a.toNat*256+b.toNat:Nat):Int):=by
 have hc:=c.toNat_lt;have ha:=a.toNat_lt;have h:=b.toNat_lt;have e:c.toNat*65536|||a.toNat*256=c.toNat*65536+a.toNat*256:=Qe c.toNat (a.toNat*256) 16 κ
 have E:(c.toNat*65536+a.toNat*256)|||b.toNat=c.toNat*65536+a.toNat*256+b.toNat:=by rw[show c.toNat*65536+a.toNat*256=(c.toNat*256+a.toNat)*2^8 by omega];exact Qe _ _ 8 h
 rw[bQ b.toNat κ,bQ a.toNat κ,bQ c.toNat κ,show (a.toNat:Int)*256=((a.toNat*256:Nat):Int) by omega,show (c.toNat:Int)*65536=((c.toNat*65536:Nat):Int) by omega,bQ (a.toNat*256) κ,bQ (c.toNat*65536) κ,sM _ _ (by rw[e];omega) κ κ,e,sM _ _ (by rw[E];omega) κ κ,E]
theorem IY (w:World) (s:ByteArray) (hs:s.size=512):
  Calls prog 171 #[cu s] w fun e w'=>e=c8 (bf ct (Bl.yS s.data.toList:Nat))/\∃n,w'=w.drewN n:=by
 have h4:4<s.size:=κ
 have a:5<s.size:=κ
 obtain⟨N,h⟩:=ξx (Bl.yS s.data.toList);have hA:N=s[4].toNat*256+s[5].toNat:=by rw[h];unfold Bl.yS;rw[gJ s 4 h4,gJ s 5 a]
 rw[<-h];have b:=aa (show _=(N:Int) from (sN s[4] s[5]).trans (congrArg _ hA.symm))
 have H:=aa (show IntKind.i64.wrap (s[4].toNat:Int)=s[4].toNat/\IntKind.i64.wrap (s[5].toNat:Int)=s[5].toNat/\IntKind.i64.wrap ((s[4].toNat:Int)*256)=(s[4].toNat:Int)*256 from⟨bQ _ (by have:=s[4].toNat_lt;omega),bQ _ (by have:=s[5].toNat_lt;omega),by
  have:=bQ (s[4].toNat*256) (by have:=s[4].toNat_lt;omega)
  rwa [show ((s[4].toNat*256:Nat):Int)=(s[4].toNat:Int)*256 by omega] at this⟩)
 clear h hA;go_enter func171,ntmps171;go_wp2_with (refine wp_region_any η ?_;refine Hid.o ?_);refine aa ?_;try (change wpAny _ _ _ _ _ _ _ (bu _))
 refine tk 0 ?_;refine tk 1 ?_;refine tk 2 ?_;refine tk 3 ?_;refine tk 4 ?_;refine tk 5 ?_;refine tk 6 ?_;refine tk 7 ?_;refine tk 8 ?_;refine wpAny_done η ?_ _;simp only[b.o];simp only[H.o.1,H.o.2.1,H.o.2.2];try simp only[Act.put,aC,aB,ay]
 go_wp2;go_ret;exact⟨rfl,1,rfl⟩
theorem zh (w:World) (s:ByteArray) (hs:s.size=512):
  Calls prog 168 #[cu s] w fun e w'=>e=c8 (bf ct (Bl.leftOf s.data.toList:Nat))/\∃n,w'=w.drewN n:=by
 have a:1<s.size:=κ
 have b:2<s.size:=κ
 have h3:3<s.size:=κ
 obtain⟨N,h⟩:=ξx (Bl.leftOf s.data.toList);have hA:N=s[1].toNat*65536+s[2].toNat*256+s[3].toNat:=by rw[h];unfold Bl.leftOf;rw[gJ s 1 a,gJ s 2 b,gJ s 3 h3]
 rw[<-h];have c:=aa (show _=(N:Int) from (Fh s[1] s[2] s[3]).trans (congrArg _ hA.symm))
 have H:=aa (show IntKind.i64.wrap (s[1].toNat:Int)=s[1].toNat/\IntKind.i64.wrap (s[2].toNat:Int)=s[2].toNat/\IntKind.i64.wrap (s[3].toNat:Int)=s[3].toNat/\IntKind.i64.wrap ((s[1].toNat:Int)*65536)=(s[1].toNat:Int)*65536/\IntKind.i64.wrap ((s[2].toNat:Int)*256)=(s[2].toNat:Int)*256 from⟨bQ _ (by have:=s[1].toNat_lt;omega),bQ _ (by have:=s[2].toNat_lt;omega),bQ _ (by have:=s[3].toNat_lt;omega),by
  have:=bQ (s[1].toNat*65536) (by have:=s[1].toNat_lt;omega)
  rwa [show ((s[1].toNat*65536:Nat):Int)=(s[1].toNat:Int)*65536 by omega] at this,by
  have:=bQ (s[2].toNat*256) (by have:=s[2].toNat_lt;omega)
  rwa [show ((s[2].toNat*256:Nat):Int)=(s[2].toNat:Int)*256 by omega] at this⟩)
 clear h hA;go_enter func168,ntmps168;go_wp2_with (refine wp_region_any η ?_;refine Hid.o ?_);refine aa ?_;try (change wpAny _ _ _ _ _ _ _ (bu _))
 refine tk 0 ?_;refine tk 1 ?_;refine tk 2 ?_;refine tk 3 ?_;refine tk 4 ?_;refine tk 5 ?_;refine tk 6 ?_;refine tk 7 ?_;refine tk 8 ?_;refine tk 9 ?_;refine tk 10 ?_;refine tk 11 ?_;refine tk 12 ?_;refine tk 13 ?_;refine wpAny_done η ?_ _;simp only[c.o];simp only[H.o.1,H.o.2.1,H.o.2.2.1,H.o.2.2.2.1,H.o.2.2.2.2];try simp only[Act.put,aC,aB,ay]
 go_wp2;go_ret;exact⟨rfl,1,rfl⟩
theorem Fi (w:World) (g c:Nat) (l:List UInt8) (h:aW w g 5 (l.map bU)):(convert 151 9 (cx (av ⟨g,0,aK⟩) l.length c)).run prog w=.ok (cu (bs l)) w:=by
 exact run_convert_bytes_back (P:=prog) w 151 9 5 ⟨g,0,aK⟩ c l η η η (by
  intro j H;rw[show (⟨g,0,aK⟩:Addr).add j=⟨g,j,aK⟩ by unfold Addr.add;split<;>simp_all];refine h.cell ?_;rw[cY,aI H];rfl)
theorem zal {G:Prop} (h:G:=by
 refine tk 0 ?_;refine tk 2 ?_;refine tk 3 ?_;refine tk 4 ?_;refine tk 5 ?_;try simp only[Act.put,aC,aB,ay]
 refine rd [1] (rn fun K H=> ?_);go_simp;refine H _ _ ?_;clear H K;refine tk 6 ?_;refine tk 7 ?_;refine wpAny_done η ?_ _;go_wp2;go_ret;refine⟨?_,(((Below.refl _ w).alloc (af _) _).drew)⟩;rw[<-a.o];rfl):G:=h
theorem uj (w:World) (k:UInt8) (s:ByteArray) (q:Nat) (hs:s.size<=200000) (v:q<65536):
  Calls prog 128 #[bf eD (k.toNat:Int),cu s,bf ct q] w fun e w'=>e=c8 (cu (bs (Bl.iH k s.data.toList q)))/\Below w.heap.size w w':=by
 have A:(s.size:Int)<=200000:=κ
 have i:(q:Int)<65536:=κ
 have a:=aa (show bs (Bl.head k s.size q)++bs (s.data.toList.take 506)=bs (Bl.iH k s.data.toList q) by
  rw[vM];unfold Bl.iH;rw[show s.data.toList.length=s.size from aU])
 have hl:(bs (Bl.head k s.size q)).size=6:=by rw[aG];rfl
 have b:6+(bs (s.data.toList.take 506)).size<=9223372036854775807:=by rw[aG,aJ];omega
 have g:∀(W:World) (x:Int),x=(s.size:Int)/256%256->aW W w.heap.size 5 [bf eD (k.toNat:Int),bf eD ((s.size:Int)/65536),bf eD x,bf eD ((s.size:Int)%256),bf eD ((q:Int)/256),bf eD ((q:Int)%256)]->(convert 151 9 (cx (av ⟨w.heap.size,0,aK⟩) 6 6)).run prog W=.ok (cu (bs (Bl.head k s.size q))) W:=by
  intro W x j l;subst j;refine Fi W w.heap.size 6 (Bl.head k s.size q) ?_;have e:(Bl.head k s.size q).map bU=[bf eD (k.toNat:Int),bf eD ((s.size:Int)/65536),bf eD ((s.size:Int)/256%256),bf eD ((s.size:Int)%256),bf eD ((q:Int)/256),bf eD ((q:Int)%256)]:=by unfold Bl.head bU;simp only[bI,List.map_nil,bR];simp;omega
  rw[e];exact l
 have X:=aa g;clear g;obtain⟨hd,c⟩:=ξx (bs (Bl.head k s.size q));obtain⟨t,h⟩:=ξx (bs (s.data.toList.take 506));obtain⟨R,d⟩:=ξx (bs (Bl.iH k s.data.toList q));rw[<-c,<-h,<-d] at a;rw[<-c] at hl X;rw[<-h] at b;have O:¬9223372036854775807<6+t.size:=κ
 rw[<-d];clear d c;by_cases f:506<s.size
 ·have m:(506:Int)<s.size:=by omega
  have n:(506:Int)<=s.size:=κ
  have p:s.extract 0 506=t:=by rw[h,mV]
  clear h f;go_enter func128,ntmps128;go_wp2_with (refine wp_region_any η ?_;refine Hid.o ?_);refine aa ?_;try (change wpAny _ _ _ _ _ _ _ (bu _))
  have Q:=X.o _ ((s.size:Int)/256%256) rfl (show aW (w.alloc (dg #[bf eD (k.toNat:Int),bf eD ((s.size:Int)/65536),bf eD ((s.size:Int)/256%256),bf eD ((s.size:Int)%256),bf eD ((q:Int)/256),bf eD ((q:Int)%256)] 5)).drew w.heap.size 5 _ from (aW.new w _ _).drew);exact zal
 ·have m:¬(506:Int)<s.size:=by omega
  have p:s.extract 0 s.size=t:=by rw[h,mV,bD zaQ,bD (by rw[aU];exact Nat.le_of_not_lt f)]
  clear h f;go_enter func128,ntmps128;go_wp2_with (refine wp_region_any η ?_;refine Hid.o ?_);refine aa ?_;try (change wpAny _ _ _ _ _ _ _ (bu _))
  have r:¬(506:Int)<s.size:=κ
  have u:(0:Int)<=s.size:=κ
  have Q:=X.o _ ((s.size:Int)/256) κ (show aW (w.alloc (dg #[bf eD (k.toNat:Int),bf eD ((s.size:Int)/65536),bf eD ((s.size:Int)/256),bf eD ((s.size:Int)%256),bf eD ((q:Int)/256),bf eD ((q:Int)%256)] 5)).drew w.heap.size 5 _ from (aW.new w _ _).drew);exact zal
theorem Ud.le {l t:List UInt8} {c:UInt8} (h:Ud l c t):t.length<=l.length:=by obtain⟨m,_,rfl,_⟩:=h;rw[aJ];exact Nat.min_le_right _ _
theorem Fk (s:ByteArray) (w:World) (hs:s.size<=9223372036854775807):
  Calls prog 106 #[cu s,cu ⟨#[0]⟩] w fun e w'=>(∃t:ByteArray,e=c8 (cu t)/\(t.data.toList=[]↔Wl.blank s.data.toList=true))/\∃n,w'=w.drewN n:=by
 by_cases a:s.size=0
 ·have hd:s.data.toList=[]:=List.eq_nil_of_length_eq_zero (by rw[aU];exact a);have H:s.toList.isEmpty=true:=by rw[ByteArray.toList_eq,hd];rfl
  have k:s.toList=[]:=by rw[ByteArray.toList_eq,hd]
  have c:=aa hd;clear hd a;go_enter func106,ntmps106;go_wp2;go_ret;refine⟨⟨s,rfl, ?_⟩,0,rfl⟩;rw[c.o];exact⟨fun _=>rfl,fun _=>rfl⟩
 ·have H:s.toList.isEmpty=false:=by rw[ByteArray.toList_eq,List.isEmpty_eq_false_iff];intro h;apply a;have:=congrArg List.length h;rw[aU] at this;exact this
  have k:(!s.toList.isEmpty)=true:=zaK
  go_enter func106,ntmps106;go_wp2
  go_region_held3 (fun _=>True) (exact trivial)
   (first
    |(go_at_call 156;refine (Bf s 0 _ hs).mono ?_;rintro e w1 ⟨⟨t,rfl,b⟩,rfl⟩)
    |(go_at_call 155;refine (Dr t 0 _ ?_).mono ?_;(have:=b.le;rw[aU,aU] at this;exact aN this hs);rintro e W ⟨⟨u,rfl,hu⟩,rfl⟩))
  all_goals (go_wp2;go_ret;exact⟨⟨u,rfl,Qd b hu⟩,1,rfl⟩)
theorem IZ (s:ByteArray) (w:World) (hs:s.size<=9223372036854775807):
  Calls prog 65 #[cu s] w fun e w'=>e=c8 (ey (Wl.blank s.data.toList))/\∃n,w'=w.drewN n:=by
 go_enter func65,ntmps65;go_wp2_with fail;refine (Fk s w hs).mono ?_;rintro e w1 ⟨⟨t,rfl,h⟩,n,rfl⟩
 have H:=aa (show t.toList.isEmpty=Wl.blank s.data.toList by
  rw[ByteArray.toList_eq,Bool.eq_iff_iff,List.isEmpty_iff];exact h)
 clear h;go_wp2;go_ret;refine⟨jH ?_,n,rfl⟩;rw[<-H.o]
theorem aE.Qg {w w' W:World} {v:Value} (h:Below w.heap.size w w') (H:aE (fun k=>v.ownBlock=av k) w' W) (a:∀k,v.ownBlock=av k->w.heap.size<=k):Below w.heap.size w W:=
 h.trans (H.below h.size (fun k b e=>by have:=a k e;omega))
theorem I3 (size ring at_ num:Nat):Wl.title++(([size,ring,at_,num]:Δ).take 4).flatMap (Wl.enc 8)=Wl.first size ring at_ num:=by simp[Wl.first]
theorem MO (l:Δ) (k:Nat) (h:k<l.length):(l.take (k+1)).flatMap (Wl.enc 8)=(l.take k).flatMap (Wl.enc 8)++Wl.enc 8 l[k]:=by rw[cz h,List.flatMap_append];simp
theorem Qh (l:Δ):(l.flatMap (Wl.enc 8)).length=8*l.length:=by
 induction l with
 |nil=>rfl
 |cons a l i=>rw[List.flatMap_cons,aq,i,Wl.bO,a_];omega
theorem Bh (size ring at_ num:Nat) (w:World) (j:size<=1000000) (l:ring<=1000000) (h3:at_<=1000000) (h4:num<2^64):
  Calls prog 68 #[.int ct size,.int ct ring,.agg #[.int ct at_,.int eZ num]] w fun e w'=>e=c8 (.string (bs (Wl.first size ring at_ num)))/\Below w.heap.size w w':=by
 have t:=aa (And.intro j (And.intro l (And.intro h3 h4)));have I:(size:Int)<=1000000:=κ
 have E:(ring:Int)<=1000000:=κ
 have F:(at_:Int)<=1000000:=κ
 clear j l h3 h4;have kc:(convert 151 151 (.slice (av ⟨w.heap.size+1,0,aK⟩) 14 14)).run prog ((w.alloc (dg #[.int ct at_,.int eZ num] 99)).alloc (dg #[.int eD 99,.int eD 111,.int eD 111,.int eD 112,.int eD 101,.int eD 114,.int eD 97,.int eD 103,.int eD 101,.int eD 32,.int eD 108,.int eD 111,.int eD 103,.int eD 10] 5))=.ok (.slice (av ⟨w.heap.size+1,0,aK⟩) 14 14) ((w.alloc (dg #[.int ct at_,.int eZ num] 99)).alloc (dg #[.int eD 99,.int eD 111,.int eD 111,.int eD 112,.int eD 101,.int eD 114,.int eD 97,.int eD 103,.int eD 101,.int eD 32,.int eD 108,.int eD 111,.int eD 103,.int eD 10] 5 (14,15))):=by have:=Lib.run_convert_bytes_const (P:=prog) (w.alloc (dg #[.int ct at_,.int eZ num] 99)) 151 5 #[.int eD 99,.int eD 111,.int eD 111,.int eD 112,.int eD 101,.int eD 114,.int eD 97,.int eD 103,.int eD 101,.int eD 32,.int eD 108,.int eD 111,.int eD 103,.int eD 10] 14 14 underlying151 underlying5;rw[aY] at this;exact this
 go_enter func68,ntmps68;go_wp2;obtain⟨V,b⟩:=ξx ((((w.alloc (dg #[.int ct at_,.int eZ num] 99)).alloc (dg #[.int eD 99,.int eD 111,.int eD 111,.int eD 112,.int eD 101,.int eD 114,.int eD 97,.int eD 103,.int eD 101,.int eD 32,.int eD 108,.int eD 111,.int eD 103,.int eD 10] 5 (14,15))).alloc (dg #[.int eZ size,.int eZ ring,.int eZ at_,.int eZ num] 97)));rw[<-b];have v:=aa (show Below w.heap.size w V by rw[b];exact (((Below.refl _ _).alloc (af _) _).alloc ν _).alloc zay _)
 have y:=aa (show fW false 0 V (.slice (av ⟨w.heap.size+1,0,aK⟩) 14 14) Wl.title by
  have:=(fW.const (w.alloc (dg #[.int ct at_,.int eZ num] 99)) Wl.title ξ).alloc (dg #[.int eZ size,.int eZ ring,.int eZ at_,.int eZ num] 97);rw[aY] at this;rw[b];exact this)
 have z:=aa (show aW V (w.heap.size+1+1) 97 ([size,ring,at_,num].map fun (n:Nat)=>Value.int eZ (n:Int)) by
  have:=aW.new ((w.alloc (dg #[.int ct at_,.int eZ num] 99)).alloc (dg #[.int eD 99,.int eD 111,.int eD 111,.int eD 112,.int eD 101,.int eD 114,.int eD 97,.int eD 103,.int eD 101,.int eD 32,.int eD 108,.int eD 111,.int eD 103,.int eD 10] 5 (14,15))) #[.int eZ size,.int eZ ring,.int eZ at_,.int eZ num] 97;rw[aY,aY] at this;rw[b];exact this)
 have B:=aa (show ∀n∈[size,ring,at_,num],n<2^64 by
  intro n hn;obtain⟨j,l,h3,h4⟩:=t.o;simp only[aM,List.not_mem_nil,or_false] at hn;rcases hn with rfl|rfl|rfl|rfl<;>omega)
 have C:=aa (show V.heap.size=w.heap.size+3 by rw[b];simp);clear b kc
 go_loopw [7,23] (fun u i wr=>∃k:Nat,k<=4/\i=.int ct k/\Hid (fW false 0 wr u (Wl.title++([size,ring,at_,num].take k).flatMap (Wl.enc 8)))/\Hid (∀x,u.ownBlock=av x->w.heap.size<=x)/\Hid (Below w.heap.size w wr)/\Hid (aW wr (w.heap.size+1+1) 97 ([size,ring,at_,num].map fun (n:Nat)=>Value.int eZ (n:Int)))/\Hid (w.heap.size+3<=wr.heap.size)) (fun _ i _=>4-(RowKit.intOf i).toNat)
 case atStart=>exact⟨0,ξ,rfl,aa (by rw[List.take_zero,List.flatMap_nil,bh];exact y.o),aa (fun x g=>by simp[Value.ownBlock] at g;omega),v,z,aa (by have:=C.o;omega)⟩
 case round=>
  obtain⟨k,G,rfl,m,g,s,p,d⟩:=hrel;by_cases H:k<4
  ·have J:(k:Int)<4:=κ;have hcell:wr.cell? ⟨w.heap.size+1+1,k,aK⟩=av (.int eZ (([size,ring,at_,num]:Δ)[k]:Int)):=p.o.cell (by rw[cY,aI H];rfl);have q:=aa (B.o _ (bp H));have D:=aa (MO [size,ring,at_,num] k H);have X:=aa (Qh (([size,ring,at_,num]:Δ).take k));generalize ([size,ring,at_,num]:Δ)[k]=n at*;go_wp2_with fail;refine (wu false 0 wr _ _ n 8 m.o (aA _) (by rw[aq,X.o,aJ];have:Wl.title.length=14:=rfl;omega) q.o ξ).mono ?_;rintro e w1 ⟨v1,rfl,R,U,A⟩
   have f:=aa (show fW false 0 w1 v1 (Wl.title++([size,ring,at_,num].take (k+1)).flatMap (Wl.enc 8))/\(∀x,v1.ownBlock=av x->w.heap.size<=x)/\Below w.heap.size w w1/\aW w1 (w.heap.size+1+1) 97 ([size,ring,at_,num].map fun (n:Nat)=>Value.int eZ (n:Int))/\w.heap.size+3<=w1.heap.size from⟨by rw[D.o,<-aD];exact R,fun x a=>by
     rcases A with h|h;·rw[h] at a;exact g.o x a
     ·have:=h x a;have:=d.o;omega,aE.Qg s.o U g.o,p.o.but U (fun e=>by
      obtain⟨cur,K,c⟩:=m.o.typed e;have:=p.o;unfold aW at this;rw[this] at c;injection c with c;injection c with _ c;cases c),aN d.o U.size⟩)
   clear R U A hcell;go_wp2;go_roundw
   case rel=>exact⟨k+1,κ,ς,aa f.o.1,aa f.o.2.1,aa f.o.2.2.1,aa f.o.2.2.2.1,aa f.o.2.2.2.2⟩
   case measure=>simp[RowKit.intOf];omega
  ·have M:k=4:=κ;subst M;have r:=m.o.back;rw[I3] at r;go_wp2;go_ret;exact⟨rfl,s.o⟩
namespace Pk
theorem Dt (c:UInt8):(c=110/\(c.toNat:Int)=110/\width c=8/\∀b,letter c b=true)\/(c=104/\(c.toNat:Int)=104/\width c=4/\∀b,letter c b=true)\/(c=98/\(c.toNat:Int)=98/\width c=1/\∀b,letter c b=true)\/
  (c=116/\(c.toNat:Int)=116/\width c=0/\∀b,letter c b=true)\/(c=114/\(c.toNat:Int)=114/\width c=0/\∀b,letter c b=b)\/
  (((c.toNat:Int)≠110/\(c.toNat:Int)≠104/\(c.toNat:Int)≠98/\(c.toNat:Int)≠116/\(c.toNat:Int)≠114)/\width c=0/\∀b,letter c b=false):=by
 by_cases a:c=110;·subst a;exact cS ⟨rfl,rfl,rfl,fun b=>by cases b<;>rfl⟩
 by_cases f:c=104;·subst f;exact dc (cS ⟨rfl,rfl,rfl,fun b=>by cases b<;>rfl⟩)
 by_cases h3:c=98;·subst h3;exact dc (dc (cS ⟨rfl,rfl,rfl,fun b=>by cases b<;>rfl⟩))
 by_cases h4:c=116;·subst h4;exact dc (dc (dc (cS ⟨rfl,rfl,rfl,fun b=>by cases b<;>rfl⟩)))
 by_cases g:c=114;·subst g;exact dc (dc (dc (dc (cS ⟨rfl,rfl,rfl,fun b=>by cases b<;>rfl⟩))))
 have H:∀d:UInt8,¬c=d->(c.toNat:Int)≠(d.toNat:Int):=fun d h e=>h (UInt8.toNat.inj κ);have i:width c=0:=by unfold width;rw[if_neg a,if_neg f,if_neg h3]
 exact dc (dc (dc (dc (dc ⟨⟨H 110 a,H 104 f,H 98 h3,H 116 h4,H 114 g⟩,i,fun b=>by unfold letter;simp[i,h4,g]⟩))))
theorem I4 (l:Text) (k:Nat) (h:k<l.length):right (l.drop k)=(letter l[k] (decide (k+1=l.length))&&right (l.drop (k+1))):=by rw[cE h,right];congr 2;rw[Bool.eq_iff_iff,List.isEmpty_iff,decide_eq_true_eq,List.drop_eq_nil_iff];omega
theorem Fl (s:ByteArray) (k:Nat) (h:k<s.size):right (s.data.toList.drop k)=(letter s[k] (decide (k+1=s.size))&&right (s.data.toList.drop (k+1))):=I4 s.data.toList k h
end Pk
theorem oL (c:UInt8) (w:World):Calls prog 198 #[bf eD c.toNat] w fun e w'=>e=c8 (bf ct (Pk.width c:Nat))/\w'=w:=by
 rcases Pk.Dt c with⟨_,h,H,_⟩|⟨_,h,H,_⟩|⟨_,h,H,_⟩|⟨_,h,H,_⟩|⟨_,h,H,_⟩|⟨⟨a,b,h3,_,_⟩,H,_⟩<;>rw[H]<;>clear H<;>(try rw[h])<;>
 ·generalize (c.toNat:Int)=x at*;go_enter func198,ntmps198;go_wp2;go_ret;exact⟨rfl,rfl⟩
theorem qY (s:ByteArray) (w:World) (hs:s.size<=1000):Calls prog 140 #[cu s] w fun e w'=>e=c8 (ey (Pk.right s.data.toList))/\w'=w:=by
 have A:(s.size:Int)<=1000:=κ
 go_enter func140,ntmps140;go_wp2
 go_loop [3] (fun i=>∃k:Nat,k<=s.size/\i=bf ct k/\Hid (Pk.right s.data.toList=Pk.right (s.data.toList.drop k))) (fun i=>s.size-(RowKit.intOf i).toNat)
 case atStart=>exact⟨0,aA _,rfl,aa rfl⟩
 case round=>
  obtain⟨k,j,rfl,c⟩:=hrel;by_cases d:k<s.size
  ·have b:=aa (c.o.trans (Pk.Fl s k d));clear c;have p:(k:Int)<s.size:=κ;have f:(k:Int)<=1000:=κ;rcases Pk.Dt s[k] with⟨_,h,_,H⟩|⟨_,h,_,H⟩|⟨_,h,_,H⟩|⟨_,h,_,H⟩|⟨_,h,_,H⟩|⟨⟨l,n,h3,h4,q⟩,_,H⟩
   iterate 4
    ·rw[H] at b;clear H;go_wp2
     go_round
     case rel=>exact⟨k+1,κ,ς,aa (by rw[b.o];rfl)⟩
     case measure=>simp[RowKit.intOf];omega
   ·rw[H] at b;clear H;by_cases a:k+1=s.size
    ·have g:((k:Int)==(s.size:Int)-1)=true:=(by rw[beq_iff_eq];omega);go_wp2
     go_round
     case rel=>exact⟨k+1,κ,ς,aa (by rw[b.o,decide_eq_true a];rfl)⟩
     case measure=>simp[RowKit.intOf];omega
    ·have g:((k:Int)==(s.size:Int)-1)=false:=θ;go_wp2;go_ret;exact⟨by rw[b.o,decide_eq_false a];rfl,rfl⟩
   ·rw[H] at b;clear H;go_wp2;go_ret;exact⟨by rw[b.o];rfl,rfl⟩
  ·have m:k=s.size:=κ;subst m;go_wp2;go_ret;refine⟨?_,rfl⟩;rw[c.o,List.drop_of_length_le zaQ];rfl
theorem wv (s:ByteArray) (n:Nat) (w:World) (hs:s.size<=1000000) (hn:n<=1000000):
  Calls prog 215 #[cu s,bf ct n] w fun e w'=>e=c8 (ec (if s.size<n then #[cu ⟨#[]⟩,cu ⟨#[]⟩,ey false] else #[cu (bs (s.data.toList.take n)),cu (bs (s.data.toList.drop n)),ey true]))/\Below w.heap.size w w':=by
 have A:(s.size:Int)<=1000000:=κ
 have Q:(n:Int)<=1000000:=κ
 have E:=mV s n;have a:s.extract n s.size=bs (s.data.toList.drop n):=by apply ByteArray.ext;apply Array.ext';rw[jW];rfl
 by_cases h:s.size<n
 ·have H:(s.size:Int)<n:=by omega
  rw[if_pos h];go_enter func215,ntmps215;go_wp2
  go_ret3
  exact⟨rfl,Below.refl _ _⟩
 ·have H:¬(s.size:Int)<n:=by omega
  have I:(n:Int)<=s.size:=κ
  rw[if_neg h];rw[<-E,<-a];clear E a;go_enter func215,ntmps215;go_wp2_with fail
  go_region
  go_wp2
  go_ret3
  exact⟨rfl,by first|exact Below.refl _ _|exact dF w 1⟩
theorem mM (s:ByteArray) (w:World) (hs:s.size<=8):
  Calls prog 216 #[cu s] w fun e w'=>e=c8 (bf eZ (Wl.dec s.data.toList:Nat))/\w'=w:=by
 have A:(s.size:Int)<=8:=κ
 go_enter func216,ntmps216;go_wp2
 go_loop [3,4] (fun n i=>∃k:Nat,k<=s.size/\i=bf ct k/\n=bf eZ (Wl.dec (s.data.toList.take k):Nat)) (fun _ i=>s.size-(RowKit.intOf i).toNat)
 case atStart=>exact⟨0,aA _,rfl,rfl⟩
 case round=>
  obtain⟨k,H,rfl,rfl⟩:=hrel;by_cases h:k<s.size
  ·have b:=s[k].toNat_lt;have hd:Wl.dec (s.data.toList.take k)<2^56:=(by have c:=Wl.l9 (s.data.toList.take k);have d:(s.data.toList.take k).length=k:=(by rw[aJ,aU];exact bT H);rw[d] at c;have h3:256^k<=256^7:=Nat.pow_le_pow_right ξ κ;have h4:(256:Nat)^7=2^56:=ξ;omega);have f:=aa (show Wl.dec (s.data.toList.take (k+1))=Wl.dec (s.data.toList.take k)*256+s[k].toNat by rw[m9 s k h,Wl.ld]);have g:=aa (K7 _ _ hd b);generalize Wl.dec (s.data.toList.take k)=a at*;have Q:(a:Int)<72057594037927936:=κ;have j:(0:Int)<=a:=κ;clear hd;go_wp2
   go_round
   case rel=>exact⟨k+1,κ,ς,by rw[g.o,f.o]⟩
   case measure=>simp[RowKit.intOf];omega
  ·have m:k=s.size:=κ;subst m;go_wp2;go_ret;refine⟨?_,rfl⟩;rw[bD zaQ];rfl
theorem Qk (w:World):(convert 151 9 (cx aK 0 0)).run prog w=.ok (cu (bs [])) w:=η
theorem iZ.back {B:Nat} {w:World} {v:Value} {l:List UInt8} (h:iZ B w v l):(convert 151 9 v).run prog w=.ok (cu (bs l)) w:=by
 rcases h.2 with⟨rfl,H⟩|⟨g,cap,cur,rfl,_⟩;·have:l=[]:=List.eq_nil_of_length_eq_zero H;subst this;exact Qk w
 ·exact (fW.aap h).back
theorem mj (B:Nat) (w:World) (v:Value) (l:List UInt8) (n width:Nat) (hown:iZ B w v l) (p:B<=w.heap.size) (hl:l.length<=800000000) (hn:n<2^64) (C:width<=8):
  Calls prog 199 #[v,bf eZ n,bf ct width] w fun e w'=>∃v',e=c8 v'/\iZ B w' v' (l++Wl.enc width n)/\aE (fun k=>v.ownBlock=av k) w w'/\(v'.ownBlock=v.ownBlock\/∀k,v'.ownBlock=av k->w.heap.size<=k):=by
 have d:(width:Int)<=8:=κ
 have t:=aa hown;have x:=aa p;have E:=aa hn;clear hown p hn;go_enter func199,ntmps199;go_wp2
 go_loopw [0,7] (fun u i wr=>∃j:Nat,j<=width/\i=bf ct ((width:Int)-1-j)/\Hid (iZ B wr u (l++Wl.enc j (n/256^(width-j))))/\Hid (aE (fun k=>v.ownBlock=av k) w wr)/\Hid (u.ownBlock=v.ownBlock\/∀k,u.ownBlock=av k->w.heap.size<=k)) (fun _ i _=>((RowKit.intOf i)+1).toNat)
 case atStart=>refine⟨0,aA _,ν,aa ?_,aa (aE.refl _ _),aa (cS rfl)⟩;rw[Wl.enc,bh];exact t.o
 case round=>
  obtain⟨j,q,rfl,r,c,Q⟩:=hrel;by_cases H:j<width
  ·obtain⟨k,a⟩:∃k:Nat,(width:Int)-1-j=k:=⟨width-1-j,κ⟩;have y:(k:Int)<=7:=κ;have P:(0:Int)<=k:=κ;have z:=aa (show k=width-(j+1) by omega);have f:=aa (And.intro H q);rw[a];have D:=aa a;clear a H q d;have X:=aa (wo n k);go_wp2_with (at_builtin;refine Hid.o ?_);refine aa ?_;rw[X.o];refine fB IW rfl _ _ rfl rfl (r.o.alloc _) (by have:=x.o;have:=c.o.size;simp;omega) wr.heap.size 0 1 1 [az (n/256^k)] rfl rfl (bg.dZ (aW.new wr #[bf eD ((az (n/256^k)).toNat:Int)] 5) rfl) (by rw[aq,Wl.bO];have:=f.o;omega) ?_;intro v' W G iE s
   have g:=aa (show iZ B W v' (l++Wl.enc (j+1) (n/256^(width-(j+1))))/\aE (fun k=>v.ownBlock=av k) w W/\(v'.ownBlock=v.ownBlock\/∀k,v'.ownBlock=av k->w.heap.size<=k) by
    have A:=c.o.size;refine⟨?_, ?_, ?_⟩;·rw[Fg width j n f.o.1,<-aD,<-z.o];exact G
    ·refine (c.o.alloc _).trans (aE.dK iE) fun i hi e=> ?_;rcases Q.o with h|h;·rw[<-h];exact e
     ·have:=h i e;omega
    ·rcases s with h|h;·rw[h];exact Q.o
     ·exact dc fun k a=>by have:=h k a;simp at this;omega)
   clear G iE s;go_wp2;go_roundw
   case rel=>exact⟨j+1,f.o.1,congrArg (Value.int ct) (by have:=D.o;omega),aa g.o.1,aa g.o.2.1,aa g.o.2.2⟩
   case measure=>have:=D.o;simp[RowKit.intOf]<;>omega
  ·have m:j=width:=κ;subst m;have b:(j:Int)-1-j=-1:=κ;rw[b];go_wp2;go_ret;refine⟨_,rfl, ?_,c.o,Q.o⟩;have:=r.o
   rwa [dm,Nat.pow_zero,Nat.div_one] at this
end
end Go.Proofs.YtgfdijemhanfkaaGreatDoor
