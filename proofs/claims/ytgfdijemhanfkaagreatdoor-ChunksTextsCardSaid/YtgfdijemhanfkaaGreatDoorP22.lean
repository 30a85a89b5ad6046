/- Elder texts, cut down and merged (22). -/
import Derived.Test.YtgfdijemhanfkaaGreatDoorP11
import Derived.Test.YtgfdijemhanfkaaGreatDoorP6
import Derived.Test.YtgfdijemhanfkaaGreatDoorP9
import Derived.Deep.RegionHeld3
import Derived.Deep.RegionHeldLaw
import Derived.Test.YtgfdijemhanfkaaGreatDoorPTk
set_option maxRecDepth 100000
set_option maxHeartbeats 8000000
namespace Go.Proofs.YtgfdijemhanfkaaGreatDoor
open _root_.Go.Proofs.Tryz
open Or renaming inl→cS,inr→dc
open Ending renaming returned→c8
open Value renaming int→bf,string→cu,tuple→ec,pointer→dr,bool→ey
open IntKind renaming i64→ct
open Option renaming none→aK,some→av
open Nat renaming lt_of_lt_of_le->bL
open List renaming getD_eq_getElem?_getD->bC,getElem?_eq_getElem->aI,map_append->bM,setIfInBounds_toArray->aC,set_cons_succ->aB,set_cons_zero->ay
open Int renaming tmod_eq_emod_of_nonneg->wB
open World renaming drew->bu
section
open Go.RowKit Lib
section
variable {w0 X X':World} {Z:Nat->Option Obj} {ring g N lb tb:Nat} {H H':List Wl.Text} {ps ps':Γ} {V:Value} {L:List Wl.Text} {A T T':Φ}
theorem Kept.aaW (h:Kept A ring X lb g N H) (d:∀k,T k->A k) (b:b9 T X T' X') (c:∀k,T' k->k<X'.heap.size):Kept (fun k=>A k\/T' k) ring X' lb g N H:=by
 obtain⟨F,s,hl,f,hf,ha,U⟩:=h;refine⟨F,s,hl.but b.1 (fun k i hn=>ha k i (d k hn)),f,hf,fun x a hn=> ?_,fun x a=>a.elim (fun h=>bL (U x h) b.1.size) (c x)⟩;rcases hn with hn|hn;·exact ha x a hn
 ·rcases b.2 x hn with e|e;·exact ha x a (d x e)
  ·have:=hl.lt x a;omega
end
def C1 (R:Φ) (ring g N lb tb:Nat) (H:List Wl.Text) (ps:Γ) (X:World):Prop:=
 ∃A T,Kept A ring X lb g N H/\Bk X T tb lb ps/\(∀k,T k->A k)/\∀k,R k->A k/\¬T k
section
variable {X X':World} {R R' S:Φ} {ring g N lb tb:Nat} {H H':List Wl.Text} {ps ps':Γ} {A T T':Φ}
theorem C1.lt (h:C1 R ring g N lb tb H ps X):∀k,R k->k<X.heap.size:=by obtain⟨A,T,⟨F,s,hl,d,hf,ha,U⟩,x,a,b⟩:=h;exact fun k c=>U k (b k c).1
theorem C1.fN (h:C1 R ring g N lb tb H ps X) (e:aE S X X') (hS:∀k,k<X.heap.size->S k->R k) (E:∀k,R' k->R k\/(X.heap.size<=k/\k<X'.heap.size)):C1 R' ring g N lb tb H ps X':=by
 obtain⟨A,T,⟨F,s,hl,i,hf,ha,U⟩,x,a,f⟩:=h;have c:aE R X X':=e.mono hS;refine⟨fun k=>A k\/(X.heap.size<=k/\k<X'.heap.size),T,⟨F,s,hl.but c (fun k b hn=>ha k b (f k hn).1),i,hf,fun x d hn=> ?_,fun x d=>d.elim (fun h=>bL (U x h) e.size) (fun h=>h.2)⟩,x.but c (fun k b hn=>(f k hn).2 b),fun k b=>cS (a k b),fun k b=> ?_⟩
 ·rcases hn with hn|hn;·exact ha x d hn
  ·have:=hl.lt x d;omega
 ·grind
theorem C1.still (h:C1 R ring g N lb tb H ps X) (a:Below X.heap.size X X'):C1 R ring g N lb tb H ps X':=
 h.fN (aE.aF a (fun _=>False)) (fun _ _ h=>h.elim) (fun _ b=>cS b)
theorem C1.less (h:C1 R ring g N lb tb H ps X) (E:∀k,R' k->R k):C1 R' ring g N lb tb H ps X:=
 h.fN (aE.refl (fun _=>False) X) (fun _ _ h=>h.elim) (fun k a=>cS (E k a))
theorem Lw (b:Kept A ring X lb g N H) (a:∀k,T k->A k) (c:∀k,R k->A k/\¬T k) (d:b9 T X T' X') (e:Bk X' T' tb lb ps'):
  C1 R ring g N lb tb H ps' X'/\aE (fun k=>¬R k) X X':=by
 have f:∀k,A k->k<X.heap.size:=by obtain⟨F,s,hl,l,hf,ha,U⟩:=b;exact U
 refine⟨⟨fun k=>A k\/T' k,T',b.aaW a d e.lt,e,fun k b=>dc b,fun k b=>⟨cS (c k b).1,fun i=> ?_⟩⟩,d.1.mono (fun k _ j hr=>(c k hr).2 j)⟩;rcases d.2 k i with h|h;·exact (c k b).2 h
 ·grind
theorem zR (c:Kept A ring X lb g N H):
  Calls prog 9 #[ptr lb] X fun e X'=>∃tb,e=c8 (ptr tb)/\C1 A ring g N lb tb H [] X'/\Below X.heap.size X X':=by
 refine (Jj X lb).mono ?_;rintro e X' ⟨tb,T,rfl,b,f,a⟩;obtain⟨F,s,hl,i,hf,ha,U⟩:=c;refine⟨tb,rfl,⟨fun k=>A k\/T k,T,⟨F,s,hl.below a,i,hf,fun x b hn=> ?_,fun x d=>d.elim (fun h=>bL (U x h) a.size) (b.lt x)⟩,b,fun k h=>dc h,fun k c=>⟨cS c,fun j=> ?_⟩⟩,a⟩
 ·rcases hn with hn|hn;·exact ha x b hn
  ·have:=f x hn;have:=hl.lt x b;omega
 ·grind
theorem uO (h:C1 R ring g N lb tb H ps X) (i:Nat) (s:ByteArray) (hi:i<H.length) (hn:H.length<=65536) (hs:s.size<=512) (hp:ps.length<=90000000):
  Calls prog 94 #[ptr tb,bf ct i,cu s] X fun e X'=>e=c8 (bf ct 0)/\C1 R ring g N lb tb H (ps++[(i,s.data.toList)]) X'/\aE (fun k=>¬R k) X X':=by
 obtain⟨A,T,c,x,a,d⟩:=h;refine (Jm X T tb lb H.length ps i s x c.Cb hi hn hs hp).mono ?_;rintro e X' ⟨rfl,T',b,f⟩;exact⟨rfl,Lw c a d f b⟩
theorem Gg (h:C1 R ring g N lb tb H ps X) (i:Int) (s:ByteArray) (c:Int) (hc:(c=2/\(i<0\/(H.length:Int)<=i))\/(c=5/\0<=i/\i<H.length/\512<s.size)):
  Calls prog 94 #[ptr tb,bf ct i,cu s] X fun e X'=>e=c8 (bf ct c)/\X'=X:=by
 obtain⟨A,T,b,x,a,d⟩:=h;exact Jo X T tb lb H.length ps i s x b.Cb c hc
theorem UI (h:C1 R ring g N lb tb H ps X) (i:Nat) (hi:i<H.length) (hn:H.length<=65536):
  Calls prog 166 #[ptr tb,bf ct i] X fun e X'=>e=c8 (ec #[cu (bs ((Wl.along H (Tx.qR ps)).getD i [])),bf ct 0])/\Below X.heap.size X X':=by
 obtain⟨A,T,b,x,_⟩:=h;have a:i<(Wl.along H (Tx.qR ps)).length:=by rw[Wl.cW];omega
 refine (Jq X T A tb lb ring g N H ps i x b hi hn).mono ?_;rintro e X' ⟨rfl,c⟩;refine⟨?_,c⟩;rw[q_ a,bC,aI a,Option.getD_some]
theorem JK (h:C1 R ring g N lb tb H ps X) (i:Int) (hi:i<0\/(H.length:Int)<=i) (hr:-9223372036854775808<=i/\i<=9223372036854775807) (hs:∀p∈ps,p.1<H.length):
  Calls prog 166 #[ptr tb,bf ct i] X fun e X'=>e=c8 (ec #[cu ⟨#[]⟩,bf ct 2])/\Below X.heap.size X X':=by
 obtain⟨A,T,a,x,_⟩:=h;exact Jr X T A tb lb ring g N H ps i x a hi hr hs
theorem Rj (h:C1 R ring g N lb tb H ps X):
  Calls prog 178 #[ptr tb] X fun e X'=>e=c8 (bf ct H.length)/\X'=X:=by
 obtain⟨A,T,a,x,_⟩:=h;exact FE X T tb lb H.length ps x a.Cb
end
structure gM (R:Φ) (ring g N lb tb rb:Nat) (H:List Wl.Text) (ps:Γ) (pg:Ξ) (rt:Δ) (X:World):Prop where
 c:C1 R ring g N lb tb H ps X
 blk:aW X rb 62 [ptr tb]
 rr:R rb
 rep:Rm.dQ (Wl.along H (Tx.qR ps)) pg rt
 ins:∀p∈ps,p.1<H.length
 pos:1<=pg.length
section
variable {X X':World} {R R' S:Φ} {ring g N lb tb rb:Nat} {H H':List Wl.Text} {ps ps':Γ} {pg cy:Ξ} {rt rt':Δ}
theorem gM.len (h:gM R ring g N lb tb rb H ps pg rt X):H.length=pg.length+2:=by
 have:=h.rep.len
 rwa [Wl.cW] at this
theorem gM.cell (h:gM R ring g N lb tb rb H ps pg rt X):X.cell? ⟨rb,0,aK⟩=av (dr (av ⟨tb,0,aK⟩)):=h.blk.cell rfl
theorem gM.fN (h:gM R ring g N lb tb rb H ps pg rt X) (b:aE S X X') (hS:∀k,k<X.heap.size->S k->R k) (hr:¬S rb) (E:∀k,R' k->R k\/(X.heap.size<=k/\k<X'.heap.size)) (a:R' rb):gM R' ring g N lb tb rb H ps pg rt X':=
 ⟨h.c.fN b hS E,h.blk.but b hr,a,h.rep,h.ins,h.pos⟩
theorem gM.still (h:gM R ring g N lb tb rb H ps pg rt X) (a:Below X.heap.size X X'):gM R ring g N lb tb rb H ps pg rt X':=
 ⟨h.c.still a,h.blk.below a h.blk.lt,h.rr,h.rep,h.ins,h.pos⟩
theorem gM.less (h:gM R ring g N lb tb rb H ps pg rt X) (a:∀k,R' k->R k) (hr:R' rb):gM R' ring g N lb tb rb H ps pg rt X:=⟨h.c.less a,h.blk,hr,h.rep,h.ins,h.pos⟩
theorem eu (h:gM R ring g N lb tb rb H ps pg rt X):
  Calls prog 125 #[ptr rb] X fun e X'=>e=c8 (bf ct pg.length)/\X'=X:=by
 have c0:=h.cell;have hl:=h.len;have hf:=h.rep.few;have hp:=h.pos;have a:=aa h;clear h;have b:=aa (show Rm.pages H.length=pg.length by rw[hl,Rm.Mk κ κ];omega);have d:=aa (show H.length<=5000 by omega);clear hl;go_enter func125,ntmps125;unfold ptr;go_wp2_with fail;refine (Rj a.o.c).mono ?_;rintro e X' ⟨rfl,rfl⟩;go_wp2_with fail;refine (MT X' H.length (by have:=d.o;omega)).mono ?_;rintro e X' ⟨rfl,rfl⟩;rw[b.o];go_wp2;go_ret;exact⟨rfl,rfl⟩
theorem ry (h:gM R ring g N lb tb rb H ps pg rt X) (i:Nat) (hi:i<H.length):
  Calls prog 121 #[ptr rb,bf ct i] X fun e X'=>e=c8 (ec #[cu (bs ((Wl.along H (Tx.qR ps)).getD i [])),bf ct 0])/\Below X.heap.size X X':=by
 have c0:=h.cell;have b:=aa h;have a:=aa (show i<H.length/\H.length<=65536 by have:=h.len;have:=h.rep.few;omega);clear h hi;go_enter func121,ntmps121;unfold ptr;go_wp2_with fail;refine (UI b.o.c i a.o.1 a.o.2).mono ?_;rintro e X' ⟨rfl,d⟩;go_wp2
 go_ret2
 exact⟨rfl,d⟩
theorem zas {G:Prop} (h:G:=by
 rintro e X' ⟨rfl,b⟩;go_wp2
 go_ret2
 exact⟨rfl,b⟩):G:=h
theorem uP (h:gM R ring g N lb tb rb H ps pg rt X):
  Calls prog 121 #[ptr rb,bf ct (-1)] X fun e X'=>e=c8 (ec #[cu ⟨#[]⟩,bf ct 2])/\Below X.heap.size X X':=by
 have c0:=h.cell;have a:=aa h;clear h;go_enter func121,ntmps121;unfold ptr;go_wp2_with fail;refine (JK a.o.c (-1) (cS ξ) ξ a.o.ins).mono ?_;exact zas
theorem zS (h:gM R ring g N lb tb rb H ps pg rt X):
  Calls prog 174 #[ptr rb] X fun e X'=>e=c8 (bf ct 0)/\Below X.heap.size X X':=by
 have a:=aa h;clear h;go_enter func174,ntmps174;unfold ptr;go_wp2_with fail;refine (ry a.o 0 (by have:=a.o.len;omega)).mono ?_;rintro e X' ⟨rfl,b⟩;go_wp2;go_ret;exact⟨rfl,b⟩
theorem rz (h:gM R ring g N lb tb rb H ps pg rt X) (p:Nat) (hp:p<pg.length):
  Calls prog 175 #[ptr rb,bf ct p] X fun e X'=>e=c8 (ec #[cu (bs ((Wl.along H (Tx.qR ps)).getD 1 [])),bf ct 0])/\Below X.heap.size X X':=by
 have a:=aa h;have b:=aa (show p<pg.length/\p<=4095 by have:=h.rep.few;omega);clear h;have d:¬(p:Int)<0:=κ
 have f:¬(pg.length:Int)<=p:=κ
 clear hp;go_enter func175,ntmps175;unfold ptr;go_wp2_with fail;refine (eu a.o).mono ?_;rintro e X' ⟨rfl,rfl⟩;go_wp2_with fail;refine (uq X' p (by have:=b.o;omega)).mono ?_;rintro e X' ⟨rfl,rfl⟩;rw[show 1+p/4096=1 by have:=b.o;omega];go_wp2_with fail;refine (ry a.o 1 (by have:=a.o.len;omega)).mono ?_;rintro e X' ⟨rfl,c⟩;go_wp2
 go_ret2
 exact⟨rfl,c⟩
theorem DS (h:gM R ring g N lb tb rb H ps pg rt X) (i:Int) (hi:i<0\/(pg.length:Int)<=i):
  Calls prog 175 #[ptr rb,bf ct i] X fun e X'=>e=c8 (ec #[cu ⟨#[]⟩,bf ct 2])/\Below X.heap.size X X':=by
 have a:=aa h;clear h;by_cases c:i<0
 ·go_enter func175,ntmps175;unfold ptr;go_wp2_with fail;refine (uP a.o).mono ?_;exact zas
 ·have d:(pg.length:Int)<=i:=hi.resolve_left c;clear hi;go_enter func175,ntmps175;unfold ptr;go_wp2_with fail;refine (eu a.o).mono ?_;rintro e X' ⟨rfl,rfl⟩;go_wp2_with fail;refine (uP a.o).mono ?_;exact zas
theorem gY (h:gM R ring g N lb tb rb H ps pg rt X) (p:Nat) (hp:p<pg.length):
  Calls prog 182 #[ptr rb,bf ct p] X fun e X'=>e=c8 (bf ct (2+p:Nat))/\X'=X:=by
 have b:=aa h;have a:=aa (show p<pg.length/\pg.length<=4096/\1<=pg.length by have:=h.rep.few;have:=h.pos;omega);have x:(p:Int)<=4095:=zaL
 clear h hp;go_enter func182,ntmps182;unfold ptr;go_wp2_with fail;refine (eu b.o).mono ?_;rintro e X' ⟨rfl,rfl⟩;go_wp2_with fail;refine (wy X' pg.length 4096 zaL ξ ξ).mono ?_;rintro e X' ⟨rfl,rfl⟩;rw[show (pg.length+4096-1)/4096=1 by have:=a.o;omega];go_wp2;go_ret;exact⟨ν,rfl⟩
theorem Rk (h:gM R ring g N lb tb rb H ps pg rt X) (i:Int):
  Calls prog 230 #[ptr rb,bf ct i] X fun e X'=>e=c8 (ec #[ey (Rm.has pg i),bf ct (Rm.yO pg i)])/\Below X.heap.size X X':=by
 have c:=aa h;have key:∀p:Nat,p<pg.length->Calls prog 230 #[ptr rb,bf ct p] X fun e X'=>e=c8 (ec #[ey (pg.getD p aK).isSome,bf ct 0])/\Below X.heap.size X X':=by
  intro p hp;have a:=aa (show p<pg.length/\p<=4095 by have:=h.rep.few;omega);have f:=aa (h.rep.bit p hp);have d:=aa (h.rep.home (i:=1) zaO);clear h;generalize (pg.getD p aK).isSome=o at*;have k:(p:Int).tmod 4096=(p:Int):=by rw[wB κ];have:=a.o;omega
  clear hp;go_enter func230,ntmps230;unfold ptr;go_wp2_with fail;refine (rz c.o p a.o.1).mono ?_;rintro e X' ⟨rfl,b⟩;generalize (Wl.along H (Tx.qR ps)).getD 1 []=T at*;go_wp2_with fail;refine (MU X' (bs T) p (by rw[aG,d.o];have:=a.o;omega) zbt).mono ?_;rintro e X' ⟨rfl,rfl⟩;rw[bJ,f.o];go_wp2
  go_ret2
  exact⟨rfl,b⟩
 rcases Rm.nX pg i with⟨j,hr,hg,hh,hn⟩|⟨p,rfl,hp,hs,hr,hg,hh,hn⟩|⟨p,t,rfl,hp,hs,hr,hg,hh,hn⟩
 ·rw[hh,hn];clear h key;go_enter func230,ntmps230;unfold ptr;go_wp2_with fail;refine (DS c.o i j).mono ?_;exact zas
 ·rw[hh,hn];have:=key p hp
  rwa [hs] at this
 ·rw[hh,hn];have:=key p hp
  rwa [hs] at this
theorem oV (h:gM R ring g N lb tb rb H ps pg rt X) (i:Int):
  Calls prog 181 #[ptr rb,bf ct i] X fun e X'=>e=c8 (bf ct (Rm.refuse pg i))/\Below X.heap.size X X':=by
 have hc:=Rk h i;clear h;rcases Rm.nX pg i with⟨c,hr,hg,hh,hn⟩|⟨p,rfl,hp,hs,hr,hg,hh,hn⟩|⟨p,t,rfl,hp,hs,hr,hg,hh,hn⟩
 all_goals (
  rw[hh,hn] at hc
  rw[hr]
  have a:=aa hc
  clear hc hh hn hr hg
  go_enter func181,ntmps181
  unfold ptr
  go_wp2_with fail
  refine a.o.mono ?_
  rintro e X' ⟨rfl,b⟩
  go_wp2
  go_ret
  exact⟨rfl,b⟩)
end
section
variable {X X':World} {R R' S:Φ} {ring g N lb tb rb:Nat} {H H':List Wl.Text} {ps ps':Γ} {pg cy:Ξ} {rt rt':Δ}
theorem uQ (w:World) (p:Nat) (hp:p<=4095):Calls prog 225 #[bf ct p] w fun e w'=>e=c8 (bf ct (1:Nat))/\w'=w:=by grind [uq]
theorem zT (H:List Wl.Text) (ps:Γ) (i:Nat) (t:List UInt8):Wl.along H (Tx.qR (ps++[(i,t)]))=(Wl.along H (Tx.qR ps)).set i (Dk.full t):=by unfold Tx.qR;rw[bM,Wl.C8];rfl
theorem Rl {n i:Nat} {t:List UInt8} (h:∀p∈ps,p.1<n) (hi:i<n):∀p∈ps++[(i,t)],p.1<n:=zaB
theorem Bw {α:Type} {l:List (Option α)} {p:Nat} {t:α} (h:l.getD p aK=av t):l[p]?=av (av t):=zaB
theorem wG (h:gM R ring g N lb tb rb H ps pg rt X) (i:Int):
  Calls prog 167 #[ptr rb,bf ct i] X fun e X'=>e=c8 (ec #[cu (bs (Rm.got pg i)),bf ct (Rm.refuse pg i)])/\Below X.heap.size X X':=by
 have hc:=oV h i;have c:=aa hc;clear hc;rcases Rm.nX pg i with⟨j,hr,hg,hh,hn⟩|⟨p,rfl,hp,hs,hr,hg,hh,hn⟩|⟨p,t,rfl,hp,hs,hr,hg,hh,hn⟩
 ·rw[hg,hr];have b:=aa hr;clear hr hg hh hn h j;go_enter func167,ntmps167;unfold ptr;go_wp2_with fail;refine c.o.mono ?_;rintro e X' ⟨rfl,a⟩;rw[b.o];go_wp2
  go_ret2
  exact⟨rfl,a⟩
 ·rw[hg,hr];have b:=aa hr;clear hr hg hh hn h hp hs;go_enter func167,ntmps167;unfold ptr;go_wp2_with fail;refine c.o.mono ?_;rintro e X' ⟨rfl,a⟩;rw[b.o];go_wp2
  go_ret2
  exact⟨rfl,a⟩
 ·rw[hg,hr];have b:=aa hr;have k:=aa h;have d:=aa (show p<pg.length/\2+p<H.length by have:=h.len;omega);have l:=aa (h.rep.page p t (Bw hs));clear hr hg hh hn h hp hs;go_enter func167,ntmps167;unfold ptr;go_wp2_with fail;refine c.o.mono ?_;rintro e X' ⟨rfl,a⟩;rw[b.o];have f:=aa (k.o.still a);go_wp2_with fail;refine (gY f.o p d.o.1).mono ?_;rintro e X2 ⟨rfl,rfl⟩;go_wp2_with fail;try simp only[Act.eval]
  refine (ry f.o (2+p) d.o.2).mono ?_;rintro e X3 ⟨rfl,B⟩;rw[l.o];go_wp2
  go_ret2
  exact⟨rfl,a.trans (B.mono a.size)⟩
theorem Ny (h:gM R ring g N lb tb rb H ps pg rt X):
  Calls prog 124 #[ptr rb] X fun e X'=>e=c8 (ec #[bf ct (Rm.used pg:Nat),bf ct 0])/\Below X.heap.size X X':=by
 have j:=aa h;have m:=aa (Rm.Ip h.rep.bit);have k:=aa (h.rep.home (i:=1) zaO);have a:=aa (show 1<=pg.length/\pg.length<=4096 from⟨h.pos,h.rep.few⟩);have t:(0:Int)<pg.length:=zaL
 have n:(pg.length:Int)<=4096:=zaL
 have O:¬(4096:Int)<pg.length:=κ
 have hu:=Rm.nY pg;have q:(Rm.used pg:Int)<=4096:=κ
 clear h hu;go_enter func124,ntmps124;unfold ptr;go_wp2_with fail;refine (zS j.o).mono ?_;rintro e X1 ⟨rfl,A⟩;have b:=aa (j.o.still A);go_wp2
 go_loopw [5,6] (fun c i wr=>(i=bf ct 0/\c=bf ct 0/\wr=X1)\/(i=bf ct 4096/\c=bf ct (Rm.used pg:Nat)/\Below X.heap.size X wr/\Hid (gM R ring g N lb tb rb H ps pg rt wr))) (fun _ i _=>if RowKit.intOf i=0 then 1 else 0)
 case atStart=>exact cS ⟨rfl,rfl,rfl⟩
 case round=>
  rcases hrel with⟨rfl,rfl,rfl⟩|⟨rfl,rfl,L,r⟩
  ·go_wp2_with fail;refine (eu b.o).mono ?_;rintro e X2 ⟨rfl,rfl⟩;go_wp2_with fail;refine (rz b.o 0 zaL).mono ?_;rintro e X3 ⟨rfl,B⟩;have l:=aa (b.o.still B);have p:=aa (A.trans (B.mono A.size));generalize (Wl.along H (Tx.qR ps)).getD 1 []=T at*;clear A B;go_wp2_with fail;refine (eu l.o).mono ?_;rintro e X4 ⟨rfl,rfl⟩;go_wp2_with fail;rw[show min (pg.length:Int) 4096=pg.length by omega];refine (Dy X4 (bs T) pg.length (by rw[aG,k.o];decide) (by rw[aG,k.o];have:=a.o;omega)).mono ?_;rintro e X5 ⟨rfl,d⟩;rw[bJ,m.o];have s:=aa (l.o.still d);have f:=aa (p.o.trans (d.mono p.o.size));clear d;go_wp2;go_roundw
   case rel=>exact dc ⟨rfl,rfl,f.o,s⟩
   case measure=>decide
  ·go_wp2_with fail;refine (eu r.o).mono ?_;rintro e X2 ⟨rfl,rfl⟩;go_wp2
   go_ret2
   exact⟨rfl,L⟩
theorem zU (h:gM R ring g N lb tb rb H ps pg rt X):
  Calls prog 179 #[ptr rb] X fun e X'=>e=c8 (match Rm.firstFree pg with|some p=>ec #[bf ct (p:Nat),bf ct 0]|none=>ec #[bf ct 0,bf ct 4])/\Below X.heap.size X X':=by
 have s:=aa h;have u:=aa h.rep.bit;have d:=aa (h.rep.home (i:=1) zaO);have c:=aa (show 1<=pg.length/\pg.length<=4096 from⟨h.pos,h.rep.few⟩);have z:(0:Int)<pg.length:=zaz
 have v:(pg.length:Int)<=4096:=zaz
 have O:¬(4096:Int)<pg.length:=κ
 obtain⟨V,j⟩:=ξx ((match Rm.firstFree pg with|some p=>Value.tuple #[bf ct (p:Nat),bf ct 0]|none=>ec #[bf ct 0,bf ct 4]));rw[<-j];have t:=aa j;clear h j;go_enter func179,ntmps179;unfold ptr;go_wp2_with fail;refine (zS s.o).mono ?_;rintro e X1 ⟨rfl,A⟩;have k:=aa (s.o.still A);go_wp2
 go_loopw [5] (fun i wr=>(i=bf ct 0/\wr=X1)\/(i=bf ct 4096/\Rm.firstFree pg=aK/\Below X.heap.size X wr/\Hid (gM R ring g N lb tb rb H ps pg rt wr))) (fun i _=>if RowKit.intOf i=0 then 1 else 0)
 case atStart=>exact cS ⟨rfl,rfl⟩
 case round=>
  rcases hrel with⟨rfl,rfl⟩|⟨rfl,a,L,w⟩
  ·go_wp2_with fail;refine (eu k.o).mono ?_;rintro e X2 ⟨rfl,rfl⟩;go_wp2_with fail;refine (rz k.o 0 zaz).mono ?_;rintro e X3 ⟨rfl,B⟩;have l:=aa (k.o.still B);have P:=aa (A.trans (B.mono A.size));generalize (Wl.along H (Tx.qR ps)).getD 1 []=T at*;clear A B;go_wp2_with fail;refine (zn X3 (bs T) zbt).mono ?_;rintro e X4 ⟨f,rfl,hf,rfl⟩;rw[bJ] at hf;have x:(f:Int)<=4096:=(by have:=hf.2.1;rw[d.o] at this;omega);rcases Rm.Iq u.o d.o c.o.2 hf with⟨m,b⟩|⟨m,b⟩
   ·have n:=aa b;have y:¬(f:Int)<pg.length:=κ;clear hf m b;go_wp2_with fail;refine (eu l.o).mono ?_;rintro e X5 ⟨rfl,rfl⟩;have q:min (pg.length:Int) 4096=pg.length:=κ;go_wp2;go_roundw
    case rel=>exact dc ⟨rfl,n.o,P.o,l⟩
    case measure=>decide
   ·have n:=aa b;have y:(f:Int)<pg.length:=κ;clear hf m b;go_wp2_with fail;refine (eu l.o).mono ?_;rintro e X5 ⟨rfl,rfl⟩;have q:min (pg.length:Int) 4096=pg.length:=κ;go_wp2
    go_ret2
    exact⟨by rw[t.o,n.o];rfl,P.o⟩
  ·have Y:=t.o;rw[a] at Y;have r:=aa Y;clear a Y;go_wp2_with fail;refine (eu w.o).mono ?_;rintro e X2 ⟨rfl,rfl⟩;go_wp2
   go_ret2
   exact⟨by rw[r.o];rfl,L⟩
theorem gM.put (h:gM R ring g N lb tb rb H ps pg rt X) {i:Nat} {t:List UInt8} (hi:i<H.length) (hc:C1 R ring g N lb tb H (ps++[(i,t)]) X') (a:aE (fun k=>¬R k) X X') (hr:Rm.dQ ((Wl.along H (Tx.qR ps)).set i (Dk.full t)) cy rt') (hl:cy.length=pg.length):gM R ring g N lb tb rb H (ps++[(i,t)]) cy rt' X':=
 ⟨hc,h.blk.but a (fun hn=>hn h.rr),h.rr,by rw[zT];exact hr,Rl h.ins hi,by rw[hl];exact h.pos⟩
theorem Ci (h:gM R ring g N lb tb rb H ps pg rt X) (p:Nat) (hp:p<pg.length) (q:ps.length<=90000000):
  Calls prog 229 #[ptr rb,bf ct p] X fun e X'=>e=c8 (bf ct 0)/\C1 R ring g N lb tb H (ps++[(1,Rm.flip ((Wl.along H (Tx.qR ps)).getD 1 []) p)]) X'/\aE (fun k=>¬R k) X X':=by
 have m:=aa h;obtain⟨T,j⟩:=ξx ((Wl.along H (Tx.qR ps)).getD 1 []);have r:=aa j;have d:=aa (show T.length=512 by rw[j];exact h.rep.home (i:=1) zaO);rw[<-j];clear j;have b:=aa (show p<pg.length/\p<=4095/\1<H.length/\H.length<=65536/\ps.length<=90000000 by have:=h.rep.few;have:=h.len;omega);have v:(p:Int).tmod 4096=(p:Int):=by rw[wB κ];have:=b.o;omega
 clear h hp q;go_enter func229,ntmps229;unfold ptr;go_wp2_with fail;refine (rz m.o p b.o.1).mono ?_;rintro e X1 ⟨rfl,l⟩;rw[<-r.o];have s:=aa (m.o.still l);have y:=aa (s.o.still ((Below.refl X1.heap.size X1).drew));have G:=aa (show aE (fun k=>¬R k) X X1.drew from (aE.aF l _).drew);have t:=aa (show X1.drew.cell? ⟨rb,0,aK⟩=av (dr (av ⟨tb,0,aK⟩)) from y.o.cell);clear l;have x:=t.o;go_wp2_with (refine wp_region_any η ?_;refine Hid.o ?_);refine aa ?_;try (change wpAny _ _ _ _ _ _ _ (bu _))
 refine tk 0 ?_;refine tk 1 ?_;refine tk 2 ?_;refine tk 4 ?_;refine tk 6 ?_;refine tk 7 ?_;refine tk 8 ?_;try simp only[Act.put,aC,aB,ay]
 refine rd [3,5] (AllReady.cons rfl (fun K a=> ?_) (rn fun K a=> ?_))
 focus
  go_simp
  refine a _ _ ?_;clear a K
  refine rd [5] (rn fun K a=> ?_)
  go_simp
  refine (uQ _ p b.o.2.1).mono ?_
  rintro e w1 ⟨rfl,rfl⟩
  refine a _ _ ?_;clear a K
  refine rd [9] (rn fun K a=> ?_)
  go_simp
  refine (p9 _ (bs T) p (by rw[aG,d.o];have:=b.o;omega) zbt).mono ?_
  rintro e w ⟨rfl,A⟩
  have f:=aa (y.o.still A)
  have n:=f.o.cell
  have P:=aa (G.o.trans (aE.aF A (fun k=>¬R k)) (fun _ _ h=>h))
  clear A
  refine a _ _ ?_;clear a K
 rotate_left
 focus
  go_simp
  refine (uQ _ p b.o.2.1).mono ?_
  rintro e w1 ⟨rfl,rfl⟩
  refine a _ _ ?_;clear a K
  refine rd [3,9] (AllReady.cons rfl (fun K a=> ?_) (rn fun K a=> ?_))
  focus
   go_simp
   refine a _ _ ?_;clear a K
   refine rd [9] (rn fun K a=> ?_)
   go_simp
   refine (p9 _ (bs T) p (by rw[aG,d.o];have:=b.o;omega) zbt).mono ?_
   rintro e w ⟨rfl,A⟩
   have f:=aa (y.o.still A)
   have n:=f.o.cell
   have P:=aa (G.o.trans (aE.aF A (fun k=>¬R k)) (fun _ _ h=>h))
   clear A
   refine a _ _ ?_;clear a K
  rotate_left
  focus
   go_simp
   refine (p9 _ (bs T) p (by rw[aG,d.o];have:=b.o;omega) zbt).mono ?_
   rintro e w ⟨rfl,A⟩
   have f:=aa (y.o.still A)
   have n:=f.o.cell
   have P:=aa (G.o.trans (aE.aF A (fun k=>¬R k)) (fun _ _ h=>h))
   clear A
   refine a _ _ ?_;clear a K
   refine rd [3] (rn fun K a=> ?_)
   go_simp
   refine a _ _ ?_;clear a K
 all_goals
  refine rd [10] (rn fun K a=> ?_)
  go_simp
  refine (uO f.o.c 1 _ b.o.2.2.1 b.o.2.2.2.1 (by rw[aG,Rm.l_,bJ,d.o];decide) b.o.2.2.2.2).mono ?_;rintro e w3 ⟨rfl,h3,B⟩
  refine a _ _ ?_;clear a K
  rw[bJ,bJ] at h3
  have u:=aa (And.intro h3 (P.o.trans B (fun _ _ h=>h)))
  clear B h3
  refine rd [11] (rn fun K a=> ?_)
  go_simp
  refine a _ _ ?_;clear a K
  refine wpAny_done η ?_ _
  go_wp2
  go_ret
  exact⟨rfl,u.o⟩
end
end
end Go.Proofs.YtgfdijemhanfkaaGreatDoor
