/- Elder texts, cut down and merged (26). -/
import Derived.Test.YtgfdijemhanfkaaGreatDoorP25
import Derived.Test.YtgfdijemhanfkaaGreatDoorP10
import Derived.Test.YtgfdijemhanfkaaGreatDoorP5
import Derived.Test.YtgfdijemhanfkaaGreatDoorP23
import Derived.Test.YtgfdijemhanfkaaGreatDoorPTk
set_option linter.unusedSimpArgs false
set_option linter.unusedVariables false
set_option maxRecDepth 100000
set_option maxHeartbeats 8000000
namespace Go.Proofs.YtgfdijemhanfkaaGreatDoor
open _root_.Go.Proofs.Tryz
open Option renaming some→av,none→aK
open Or renaming inl→cS,inr→dc
open Value renaming slice→cx,int→bf,string→cu,bool→ey,tuple→ec,pointer→dr
open Ending renaming returned→c8
open IntKind renaming i64→ct
open Obj renaming cells→dg
open List renaming length_append->aq,mem_append->ah,setIfInBounds_toArray->aC,set_cons_succ->aB,set_cons_zero->ay,length_pos_iff->d_,length_map->aL,map_append->bM,getElem_mem->bp,length_cons->a_,mem_singleton->bB,flatten_cons->dy,nodup_append->aP,nodup_cons->cA,mem_cons_self->au,mem_cons_of_mem->aH,mem_cons->aM,append_assoc->aD,flatten_append->dI,length_nil->gd,length_eq_zero_iff->ff,filter_cons->c9,length_set->bV,tail_cons->p4
open World renaming drew->bu,size_alloc->aY,block_lt_of_cell?->bA
open Nat renaming le_refl->af,le_trans->aN,lt_of_lt_of_le->bL,zero_le->aA
section
open Go.RowKit Lib
section
variable {E:Ev} {X0 X X':World} {R0 R R' S:Φ} {ps ps':Γ} {pg cy:Ξ} {rt rt':Δ} {M M':Nat->Option NV} {p q:Nat} {n m:NV} {sb:Nat} {sv:Value} {l:List Int}
def NR (E:Ev) (X0:World) (R0 R:Φ) (ps:Γ) (pg:Ξ) (rt:Δ) (M:Nat->Option NV) (X:World) (sb:Nat) (sv:Value) (M':Nat->Option NV) (l':List Int) (X':World):Prop:=
 ∃R' fI,SS E X0 R0 R' ps pg rt M' X' sb fI l'/\(∀k,R k->R' k)/\(∀k,R' k->R k\/X.heap.size<=k)/\aE (fun k=>k=sb\/sv.ownBlock=av k\/MB M k) X X'/\(∀k,MB M' k->MB M k\/X.heap.size<=k)/\(∀k,fI.ownBlock=av k->sv.ownBlock=av k\/X.heap.size<=k)/\Dom M M'
theorem uZ {W a w:World} {n':NV} {r:Φ} (h:SS E X0 R0 R ps pg rt M W sb sv l) (b:SS E X0 R0 r ps pg rt (upd M p n') a sb sv l/\(∀k,R k->r k)/\(∀k,r k->R k\/W.heap.size<=k)/\aE (fun k=>k=p) W a/\∀k,MB (upd M p n') k->MB M k\/W.heap.size<=k) {x:Int} {e:Ending} (hl:lI a sb E.tb sv (l++[x]) e w) (hp:MB M p):
  NR E X0 R0 R ps pg rt M W sb sv (upd M p n') (l++[x]) w:=by
 obtain⟨c,d,h3,h4,f⟩:=b;obtain⟨fI,R',K,g,i,j,m⟩:=c.left hl;refine⟨R',fI,K,fun k H=>g k (d k H),fun k H=> ?_, ?_,f,fun k H=> ?_,Dom.upd _ _ _⟩
 ·rcases i k H with H|H;·exact h3 k H
  ·right;have:=h4.size;omega
 ·refine (aE.refl (fun k=>k=sb\/sv.ownBlock=av k\/MB M k) W).trans h4 (fun k _ e=>dc (dc (by rw[e];exact hp)))|>.trans j fun k _ e=> ?_
  rcases e with e|e;·exact cS e
  ·exact dc (cS e)
 ·rcases m k H with H|H;·exact cS H
  ·right;have:=h4.size;omega
theorem oW (W V:World) (its rs:List It) {lX lY NL fJ rg ro RL ij:Nat} (H:Below W.heap.size W V) (d:aW V W.heap.size 166 [cx (av ⟨lX,lY,aK⟩) NL fJ,cx (av ⟨rg,ro,aK⟩) RL ij]) (f:bg aj W lX lY its) (i:bg aj W rg ro rs) (j:NL=its.length) (k:RL=rs.length) (hl:its.length+rs.length<=400) (hpos:0<its.length):
  Calls prog 263 #[cx (av ⟨W.heap.size,0,aK⟩) 2 2] V fun e w'=>∃g c,e=c8 (cx (av ⟨g,0,aK⟩) ((NL:Nat)+(RL:Nat)) c)/\bk W.heap.size w' (cx (av ⟨g,0,aK⟩) (its++rs).length c) (its++rs)/\Below V.heap.size V w':=by
 subst j k;refine (DY V W.heap.size lX lY fJ rg ro ij its rs d (eX f H) (eX i H) κ κ κ).mono ?_;rintro e w' ⟨v,rfl,b,a⟩;obtain⟨g,c,rfl,_,_,_⟩:=Own.form b zaV;have h:(its++rs).length=its.length+rs.length:=aq;exact⟨g,c,by rw[h],Own.mono b H.size,a⟩
theorem NS (h:SS E X0 R0 R ps pg rt M X sb sv l) (hp:M p=av n) (L:M q=av m) (u:p≠q) (v:n.level=0) (key:ByteArray) (hl:l.length<=100000) (hn:n.its.length+m.its.length<=400) (hpos:0<n.its.length):
  Calls prog 239 #[ptr sb,ptr p,ptr q,cu key] X fun e X'=>e=c8 (bf ct 0)/\∃g c,NR E X0 R0 R ps pg rt M X sb sv (upd M p (n.mu (n.its++m.its) g c m.hi)) (l++[m.page]) X':=by
 have b:=h.ts.mem.nd p n hp;have P:=h.ts.mem.nd q m L;have c0:=b.c0;rw[v] at c0;have c1:=b.c1;have c4:=b.c4;have c7:=b.c7;have N:=P.c1;have Q:=P.c4;have O:=h.blk.lt;obtain⟨hh,S⟩:∃hh,bs m.hi=hh:=⟨_,rfl⟩;rw[S] at Q;have ZJ:=aa S;obtain⟨NL,T⟩:=ξx n.its.length;obtain⟨RL,x⟩:=ξx m.its.length;rw[<-T] at c1;rw[<-x] at N;obtain⟨lX,U⟩:∃g,g=n.rg:=⟨_,rfl⟩;obtain⟨lY,Y⟩:∃g,g=n.ro:=⟨_,rfl⟩;obtain⟨fJ,Cs⟩:∃g,g=n.cap:=⟨_,rfl⟩;obtain⟨rg,Z⟩:∃g,g=m.rg:=⟨_,rfl⟩;obtain⟨ro,s⟩:∃g,g=m.ro:=⟨_,rfl⟩;obtain⟨ij,Ct⟩:∃g,g=m.cap:=⟨_,rfl⟩;rw[<-U,<-Y,<-Cs] at c1;rw[<-Z,<-s,<-Ct] at N;obtain⟨W,t⟩:=ξx X;have y:=aa (fun V hb hk=>oW W V n.its m.its (lX:=lX) (lY:=lY) (NL:=NL) (fJ:=fJ) (rg:=rg) (ro:=ro) (RL:=RL) (ij:=ij) hb hk (by rw[t,U,Y];exact b.row) (by rw[t,Z,s];exact P.row) T x hn hpos);have r:(n.its++m.its).length=NL+RL:=by rw[aq,T,x]
 have wC:=aa (show (n.its++m.its).length<=400/\(∀i∈n.its++m.its,i.key.length<=200/\i.val.length<=200)/\NL+RL=(n.its++m.its).length from⟨zaV,fun i hi=>by
  rcases ah.1 hi with hi|hi;·exact b.small.each i hi
  ·exact P.small.each i hi,r.symm⟩)
 have jD:=aa (show l.length<=1000000 by omega);have d:=aa (show p<W.heap.size/\q<W.heap.size by rw[t];exact⟨b.blk.lt,P.blk.lt⟩);have J:=aa (show Nd W p n by rw[t];exact b);have Ez:=aa (show SS E X0 R0 R ps pg rt M W sb sv l by rw[t];exact h);have HP:=aa hp;have HQ:=aa L;have ZK:=aa (Ne.symm u);rw[<-t] at c0 c1 c4 c7 N Q O |-;have ef:=d.o.1;have Gh:=d.o.2;clear h hp L u v hl hn hpos b P S T x U Y Cs Z s Ct r t;go_enter func239,ntmps239;unfold ptr;go_wp2_with (refine wp_region_any η ?_;refine Hid.o ?_);refine aa ?_;try (change wpAny _ _ _ _ _ _ _ (bu _))
 refine tk 0 ?_;refine tk 1 ?_;refine tk 2 ?_;refine tk 3 ?_;refine tk 4 ?_;refine tk 5 ?_;refine tk 7 ?_;refine tk 10 ?_;refine tk 11 ?_;refine tk 12 ?_;refine tk 13 ?_;try simp only[Act.put,aC,aB,ay]
 refine rd [6,14] (AllReady.cons rfl (fun K H=> ?_) (rn fun K H=> ?_))
 focus
  go_simp
  refine H _ _ ?_;clear H K
  refine rd [8,14] (AllReady.cons rfl (fun K H=> ?_) (rn fun K H=> ?_))
  focus
   go_simp
   have j:=aa (show Below W.heap.size W ((W.alloc (dg #[cx (av ⟨lX,lY,aK⟩) NL fJ,cx (av ⟨rg,ro,aK⟩) RL ij] 166)).drew) from ((Below.refl _ W).alloc (af _) _).drew)
   refine H _ _ ?_;clear H K
   refine rd [9,14] (AllReady.cons rfl (fun K H=> ?_) (rn fun K H=> ?_))
   focus
    go_simp
    refine (y.o _ j.o υ).mono ?_
    rintro e z ⟨g,c,rfl,f,k⟩
    have a:=aa (And.intro f (j.o.trans (k.mono j.o.size)))
    clear k f
    have D:=(a.o.2.cell (p:=⟨p,1,aK⟩) d.o.1).trans c1
    have A:=(a.o.2.cell (p:=⟨p,4,aK⟩) d.o.1).trans c4
    have B:=(a.o.2.cell (p:=⟨p,7,aK⟩) d.o.1).trans c7
    have C:=(a.o.2.cell (p:=⟨q,4,aK⟩) d.o.2).trans Q
    have F:=(J.o.still a.o.2).blk.frozen 1
    have G:=(J.o.still a.o.2).blk.frozen 4
    have I:=(J.o.still a.o.2).blk.frozen 7
    refine H _ _ ?_;clear H K
    refine rd [14] (rn fun K H=> ?_)
    go_simp
    refine H _ _ ?_;clear H K
   rotate_left
   focus
    go_simp
    refine H _ _ ?_;clear H K
    refine rd [9] (rn fun K H=> ?_)
    go_simp
    refine (y.o _ j.o υ).mono ?_
    rintro e z ⟨g,c,rfl,f,k⟩
    have a:=aa (And.intro f (j.o.trans (k.mono j.o.size)))
    clear k f
    have D:=(a.o.2.cell (p:=⟨p,1,aK⟩) d.o.1).trans c1
    have A:=(a.o.2.cell (p:=⟨p,4,aK⟩) d.o.1).trans c4
    have B:=(a.o.2.cell (p:=⟨p,7,aK⟩) d.o.1).trans c7
    have C:=(a.o.2.cell (p:=⟨q,4,aK⟩) d.o.2).trans Q
    have F:=(J.o.still a.o.2).blk.frozen 1
    have G:=(J.o.still a.o.2).blk.frozen 4
    have I:=(J.o.still a.o.2).blk.frozen 7
    refine H _ _ ?_;clear H K
  rotate_left 2
  focus
   go_simp
   refine H _ _ ?_;clear H K
   refine rd [8] (rn fun K H=> ?_)
   go_simp
   have j:=aa (show Below W.heap.size W ((W.alloc (dg #[cx (av ⟨lX,lY,aK⟩) NL fJ,cx (av ⟨rg,ro,aK⟩) RL ij] 166)).drew) from ((Below.refl _ W).alloc (af _) _).drew)
   refine H _ _ ?_;clear H K
   refine rd [9] (rn fun K H=> ?_)
   go_simp
   refine (y.o _ j.o υ).mono ?_
   rintro e z ⟨g,c,rfl,f,k⟩
   have a:=aa (And.intro f (j.o.trans (k.mono j.o.size)))
   clear k f
   have D:=(a.o.2.cell (p:=⟨p,1,aK⟩) d.o.1).trans c1
   have A:=(a.o.2.cell (p:=⟨p,4,aK⟩) d.o.1).trans c4
   have B:=(a.o.2.cell (p:=⟨p,7,aK⟩) d.o.1).trans c7
   have C:=(a.o.2.cell (p:=⟨q,4,aK⟩) d.o.2).trans Q
   have F:=(J.o.still a.o.2).blk.frozen 1
   have G:=(J.o.still a.o.2).blk.frozen 4
   have I:=(J.o.still a.o.2).blk.frozen 7
   refine H _ _ ?_;clear H K
 rotate_left 3
 focus
  go_simp
  refine H _ _ ?_;clear H K
  refine rd [6] (rn fun K H=> ?_)
  go_simp
  refine H _ _ ?_;clear H K
  refine rd [8] (rn fun K H=> ?_)
  go_simp
  have j:=aa (show Below W.heap.size W ((W.alloc (dg #[cx (av ⟨lX,lY,aK⟩) NL fJ,cx (av ⟨rg,ro,aK⟩) RL ij] 166)).drew) from ((Below.refl _ W).alloc (af _) _).drew)
  refine H _ _ ?_;clear H K
  refine rd [9] (rn fun K H=> ?_)
  go_simp
  refine (y.o _ j.o υ).mono ?_
  rintro e z ⟨g,c,rfl,f,k⟩
  have a:=aa (And.intro f (j.o.trans (k.mono j.o.size)))
  clear k f
  have D:=(a.o.2.cell (p:=⟨p,1,aK⟩) d.o.1).trans c1
  have A:=(a.o.2.cell (p:=⟨p,4,aK⟩) d.o.1).trans c4
  have B:=(a.o.2.cell (p:=⟨p,7,aK⟩) d.o.1).trans c7
  have C:=(a.o.2.cell (p:=⟨q,4,aK⟩) d.o.2).trans Q
  have F:=(J.o.still a.o.2).blk.frozen 1
  have G:=(J.o.still a.o.2).blk.frozen 4
  have I:=(J.o.still a.o.2).blk.frozen 7
  refine H _ _ ?_;clear H K
 all_goals
  try simp only[Act.put,aC,aB,ay]
  refine tk 15 ?_
  refine tk 16 ?_
  refine rd [17] (rn fun K H=> ?_)
  go_simp
  refine H _ _ ?_;clear H K
  refine tk 18 ?_
  refine tk 19 ?_
  refine tk 20 ?_
  refine rd [21] (rn fun K H=> ?_)
  go_simp
  refine H _ _ ?_;clear H K
  refine tk 22 ?_
  refine tk 23 ?_
  refine rd [24] (rn fun K H=> ?_)
  go_simp
  refine H _ _ ?_;clear H K
  refine wpAny_done η ?_ _
  obtain⟨W9,wH⟩:=ξx (((z.setCell ⟨p,1,aK⟩ (cx (av ⟨g,0,aK⟩) (NL+RL) c)).setCell ⟨p,4,aK⟩ (cu hh)).setCell ⟨p,7,aK⟩ (ey true))
  rw[<-wH]
  obtain⟨R9,w,RD,Aj,ny,RE⟩:=Ez.o.row HP.o a.o.2 ZJ.o a.o.1 wC.o.1 wC.o.2.1 wC.o.2.2 wH
  have H9:=aa (And.intro w (And.intro RD (And.intro Aj (And.intro ny RE))))
  have A_:=aa (jO W9 sb E.tb q sv l m w.blk w.sp (w.ts.mem.nd q m ((aX ZK.o).trans HQ.o)) jD.o)
  clear w RD Aj ny RE wH D A B C F G I
  unfold ptr at A_
  go_wp2_with fail
  refine A_.o.mono ?_
  intro e W10 td
  have he:=td.1
  subst he
  have H10:=aa td
  clear td A_
  go_wp2_with fail
  go_ret
  exact⟨rfl,g,c,uZ Ez.o H9.o H10.o ⟨p,n,HP.o,cS rfl⟩⟩
end
namespace Tr
theorem Ec:∀{k:Nat} {n m:E (k+1)} {x:Tx},its n≠[]->its m≠[]->hd (join k n m x).1=⟨(hd n).page,true⟩
 |0,_,_,_,_,_=>rfl
 |k+1,n,m,x,hn,hm=>by
  obtain⟨A,a,hA⟩:=dX hn;cases h:its m with
  |nil=>exact absurd h hm
  |cons b r=>
   rw[m6 hA h]
   split<;>rfl
end Tr
section
variable {E:Ev} {X0 X X':World} {R0 R R' S:Φ} {ps ps':Γ} {pg cy:Ξ} {rt rt':Δ} {M M':Nat->Option NV} {p q:Nat} {n m:NV} {sb:Nat} {sv:Value} {l:List Int}
def iF (l:Δ):List Int:=l.map fun (p:Nat)=>(p:Int)
theorem jQ {o:Option Nat} (h:o.isSome=true):[Cq o]=iF o.toList:=by
 cases o with
 |none=>cases h
 |some p=>rfl
def u_ (E:Ev) (X0:World) (R0 R:Φ) (ps:Γ) (pg:Ξ) (rt:Δ) (M:Nat->Option NV) (X:World) (sb:Nat) (sv:Value) (k p:Nat) (n m:NV) (F:Δ) (j:Tr.E (k+1)) (l':List Int) (X':World):Prop:=
 ∃M' n' f,NR E X0 R0 R ps pg rt M X sb sv M' l' X'/\dQ M' pg k p j f/\M' p=av n'/\n'.lo=n.lo/\n'.hi=m.hi/\f.Nodup/\(∀r∈f,r∈F\/X.heap.size<=r)/\(∀r x,r∉F->M r=av x->M' r=av x)
theorem wN {k:Nat} {t:Tr.E (k+1)} {lo:Tr.Tx} {h:Option Tr.Tx} (H:lV pg k n t) (hs:Tr.Ok (k+1) lo h t):Tr.Ok (k+1) n.lo (j8 n.hi) t:=H.near.ok hs.1 hs.2.1
theorem ve {k:Nat} {lo:Tr.Tx} {h:Option Tr.Tx} {t:Tr.E (k+1)} (H:Tr.Ok (k+1) lo h t):(Tr.its t).length<=255/\0<(Tr.its t).length:=by have:=Tr.jP k (Tr.its t);have a:=H.2.1;exact⟨κ,d_.2 H.1⟩
theorem NT {tn tm:Tr.E 1} {F i:Δ} {x:Tr.Tx} {B:Tr.Tx} {u:Option Tr.Tx} (h:SS E X0 R0 R ps pg rt M X sb sv l) (r1:dQ M pg 0 p tn F) (r2:dQ M pg 0 q tm i) (hp:M p=av n) (s:M q=av m) (v:(F++i).Nodup)
  (on:Tr.Ok 1 B (av x) tn) (o:Tr.Ok 1 x u tm) (w:x.length<=96) (hc:¬Tr.cut 1 tn x tm) (hold:Tr.Old 1 tm) (hl:l.length<=100000):
  Calls prog 239 #[ptr sb,ptr p,ptr q,cu (bs x)] X fun e X'=>e=c8 (bf ct 0)/\u_ E X0 R0 R ps pg rt M X sb sv 0 p n m (F++i) (Tr.join 0 tn tm x).1 (l++iF (Tr.join 0 tn tm x).2) X':=by
 obtain⟨n',H,f,a,rfl⟩:=r1;rw[hp] at H;injection H with H;subst H;obtain⟨z,N,G,b,rfl⟩:=r2;rw[s] at N;injection N with N;subst N;have j:p≠q:=zaB
 have A:n.its.length=(Tr.its tn).length:=by rw[a];unfold ak;rw[aL]
 have C:m.its.length=(Tr.its tm).length:=by rw[b];unfold ak;rw[aL]
 have b1:=ve on;have b2:=ve o;have d:n.its.length+m.its.length<=400:=by have s1:=Tr.jP 0 (Tr.its tn);have s2:=Tr.jP 0 (Tr.its tm);rw[Tr.xZ] at hc;omega
 refine (NS h hp s j f.level (bs x) hl d κ).mono ?_;rintro e X' ⟨rfl,g,c,k⟩;have J:=Tr.tQ 0 (Tr.Ok.mix (wN f on) on) (Tr.Ok.mix o (wN G o)) w hc;have t:=Tr.Ec (x:=x) on.1 o.1;have O:(Tr.hd tm).page.isSome=true:=hold.1;refine⟨rfl,upd M p (n.mu (n.its++m.its) g c m.hi),n.mu (n.its++m.its) g c m.hi,[p], ?_,⟨_,bF _ _ _,⟨f.level, ?_, ?_,J.ok.near,fun hf=> ?_⟩, ?_,rfl⟩,bF _ _ _,rfl,rfl,ν,fun r hr=>cS ?_,fun r y hr hy=> ?_⟩
 ·have:[m.page]=iF (Tr.join 0 tn tm x).2:=by rw[G.page];exact jQ O
  rw[<-this];exact k
 ·rw[t];exact f.page
 ·rw[t];rfl
 ·grind
 ·show n.its++m.its=ak 0 (Tr.its tn++Tr.its tm);rw[a,b];unfold ak;rw[bM]
 ·grind
 ·simp_all[aX]
end
section
variable {E:Ev} {X0 X X' X1 X2:World} {R0 R R' R1 R2 S:Φ} {ps ps':Γ} {pg cy:Ξ} {rt rt':Δ} {M M' M1 M2:Nat->Option NV} {p q:Nat} {n m:NV} {sb:Nat} {sv sv1 sv2:Value} {l:List Int}
structure nP (R:Φ) (M:Nat->Option NV) (X:World) (sb:Nat) (sv:Value) (R':Φ) (M':Nat->Option NV) (fI:Value) (X':World):Prop where
 sub:∀k,R k->R' k
 new:∀k,R' k->R k\/X.heap.size<=k
 but:aE (fun k=>k=sb\/sv.ownBlock=av k\/MB M k) X X'
 mb:∀k,MB M' k->MB M k\/X.heap.size<=k
 sp:∀k,fI.ownBlock=av k->sv.ownBlock=av k\/X.heap.size<=k
 dom:Dom M M'
theorem nP.trans (H:nP R M X sb sv R1 M1 sv1 X1) (a:nP R1 M1 X1 sb sv1 R2 M2 sv2 X2):nP R M X sb sv R2 M2 sv2 X2:=by
 have hs:=H.but.size;refine⟨fun k h=>a.sub k (H.sub k h),fun k h=> ?_,H.but.trans a.but fun k b h=> ?_,fun k h=> ?_,fun k h=> ?_,H.dom.trans a.dom⟩
 ·rcases a.new k h with h|h;·exact H.new k h
  ·right;omega
 ·rcases h with h|h|h;·exact cS h
  ·rcases H.sp k h with h|h;·exact dc (cS h)
   ·omega
  ·rcases H.mb k h with h|h;·exact dc (dc h)
   ·omega
 ·rcases a.mb k h with h|h;·exact H.mb k h
  ·right;omega
 ·rcases a.sp k h with h|h;·exact H.sp k h
  ·right;omega
theorem nE {l':List Int}:NR E X0 R0 R ps pg rt M X sb sv M' l' X'↔∃R' fI,SS E X0 R0 R' ps pg rt M' X' sb fI l'/\nP R M X sb sv R' M' fI X':=
 ⟨fun ⟨R',fI,a,b,c,d,e,f,g⟩=>⟨R',fI,a,⟨b,c,d,e,f,g⟩⟩,fun ⟨R',fI,a,s⟩=>⟨R',fI,a,s.sub,s.new,s.but,s.mb,s.sp,s.dom⟩⟩
theorem nP.nodes (H:aE S X X') (hS:∀k,S k->MB M k) (a:∀k,R k->R' k) (E:∀k,R' k->R k\/X.heap.size<=k) (b:∀k,MB M' k->MB M k\/X.heap.size<=k) (hd:Dom M M'):nP R M X sb sv R' M' sv X':=
 ⟨a,E,(aE.refl (fun k=>k=sb\/sv.ownBlock=av k\/MB M k) X).trans H fun k _ c=>dc (dc (hS k c)),b,fun _ h=>cS h,hd⟩
theorem nP.still (H:Below X.heap.size X X'):nP R M X sb sv R M sv X':=
 ⟨fun _ h=>h,fun _ h=>cS h,aE.aF H _,fun _ h=>cS h,fun _ h=>cS h,Dom.refl _⟩
theorem SS.key (h:SS E X0 R0 R ps pg rt M X sb sv l) (b:M q=av m) (hpos:0<m.its.length) (x:List UInt8) (f:x.length<=200) {xb:ByteArray} (O:bs x=xb):
  SS E X0 R0 R ps pg rt (upd M q {m with its:=m.its.set 0 {m.its[0] with key:=x}}) (X.setCell ⟨m.rg,m.ro,aK⟩ (cu xb)) sb sv l/\nP R M X sb sv R (upd M q {m with its:=m.its.set 0 {m.its[0] with key:=x}}) sv (X.setCell ⟨m.rg,m.ro,aK⟩ (cu xb)):=by
 have B:=(h.ts.mem.nd q m b).small;have g:=h.ts.mem.item b 0 0 hpos ξ {m.its[0] with key:=x} (cu xb) (by rw[<-O];rfl) ⟨f,(B.each _ (bp hpos)).2⟩;have c:aE (fun k=>k=m.rg) X (X.setCell ⟨m.rg,m.ro,aK⟩ (cu xb)):=(aE.refl (fun k=>k=m.rg) X).setCell _ _ fun _=>rfl;have a:∀k,MB (upd M q {m with its:=m.its.set 0 {m.its[0] with key:=x}}) k->MB M k:=by
  rintro k ⟨r,y,hr,H⟩;rcases aO hr with⟨rfl,rfl⟩|⟨_,hr⟩;·exact⟨_,m,b,H⟩
  ·exact⟨r,y,hr,H⟩
 have d:=h.ts.own c (fun k _ e=>by rw[e];exact h.ts.lT _ ⟨q,m,b,dc rfl⟩) g (fun k H=>h.ts.lT k (a k H)) (fun _ h=>h) (fun _ h=>cS h);have hS:∀k,k=m.rg->MB M k:=fun k e=>by rw[e];exact⟨q,m,b,dc rfl⟩
 exact⟨h.nodes d c hS (fun _ h=>h) fun k H=>cS (a k H),nP.nodes c hS (fun _ h=>h) (fun _ h=>cS h) (fun k H=>cS (a k H)) (Dom.upd _ _ _)⟩
end
section
variable {E:Ev} {X0 X X' V:World} {R0 R R' S:Φ} {ps ps':Γ} {pg cy:Ξ} {rt rt':Δ} {M M':Nat->Option NV} {p q:Nat} {n m:NV}
structure acW (E:Ev) (X0:World) (R0 R:Φ) (ps:Γ) (pg:Ξ) (rt:Δ) (M:Nat->Option NV) (X:World) (p:Nat) (n:NV) (k:Nat) (I1:List It) (i:It) (I2:List It) (c:Tr.E (k+1)) (f:Δ) (q:Nat) (M':Nat->Option NV) (R':Φ) (fq:Δ) (X':World):Prop where
 ts:TS E X0 R0 R' ps pg rt M' X'
 at_:M' p=av {n with its:=I1++{i with node:=av q}::I2}
 Cr:dQ M' pg k q c fq
 same:∀r m,r≠p->M r=av m->M' r=av m
 news:∀r∈fq,r∈f\/X.heap.size<=r
 pn:p∉fq
 nd:fq.Nodup
 size:X.heap.size<=X'.heap.size
 but:aE (fun b=>b=n.rg) X X'
 sub:∀b,R b->R' b
 new:∀b,R' b->R b\/X.heap.size<=b
 mb:∀b,MB M' b->MB M b\/X.heap.size<=b
theorem Cu {k:Nat} {I1 I2:List It} {i:It} {key:Tr.Tx} {c:Tr.E (k+1)} {f:Δ} {j:Int}
  (h:TS E X0 R0 R ps pg rt M X) (a:Below X.heap.size X V) (hp:M p=av n) (u:n.level=k+1) (hi:n.its=I1++i::I2) (P:j9 pg k (dQ M pg k) i (key,c) f) (Q:i.node=aK->Tr.Ok (k+1) (fP n I1.length) (j8 (eM n I1.length)) c) (v:p∉f) (w:f.Nodup) (S:k<=15) (t:j=I1.length):
  Calls prog 131 #[ptr E.tb,ptr p,bf ct j] V fun e X'=>∃q M' R' fq,e=c8 (ec #[ptr q,bf ct 0])/\acW E X0 R0 R ps pg rt M X p n k I1 i I2 c f q M' R' fq X':=by
 subst t;have t:I1.length<n.its.length:=by rw[hi,aq,a_];omega
 have K:n.its[I1.length]=i:=zaB
 have hS:=h.still a (fun _ h=>h) (fun _ h=>cS h);obtain⟨T,W,Y⟩:=P;rcases Y with⟨H,Z,hval,x⟩|⟨q,y,hr⟩
 ·obtain⟨⟨page,C,z,J⟩,l,U⟩:=x;have hs:=Q H;have nD:=iX S ⟨⟨page,C,z,J⟩,l,U⟩ C hs;have hv:n.its[I1.length].val=pv page:=by rw[K,hval];show pv ((Tr.hd c).page.getD 0)=_;rw[C];rfl
  refine (wL hS hp I1.length t (by rw[K];exact H) page z hv k u (ak k (Tr.its c)) nD).mono ?_;rintro e X' ⟨q,rg,cap,R',rfl,d,A,B,F,hR,G⟩;have O:=aN a.size A;have Vb:=aN a.size B;have EE:∀b,R' b->R b\/X.heap.size<=b:=fun b o=>(G b o).imp_right fun h=>aN a.size h;have L:aE (fun b=>b=n.rg) X X':=(aE.aF a (fun b=>b=n.rg)).trans F fun _ _ h=>h;have jk:n.its.set I1.length {(n.its.getD I1.length ⟨[],[],aK⟩) with node:=av q}=I1++{i with node:=av q}::I2:=zaB
  rw[jk] at d;obtain⟨M',D⟩:=ξx (upd (upd M q (NV.got k (ak k (Tr.its c)) rg cap page (fP n I1.length) (eM n I1.length))) p {n with its:=I1++{i with node:=av q}::I2});rw[<-D] at d;have ef:=(h.mem.lt hp).1;have s:q≠p:=κ
  have g:∀r m,r≠p->M r=av m->M' r=av m:=by intro r m hr N;have Cm:r≠q:=(by have:=(h.mem.lt N).1;omega);rw[D,aX hr,aX Cm];exact N
  refine⟨q,M',R',[q],rfl,⟨d,by rw[D,bF], ?_,g,fun r hr=>by rw[bB.1 hr];exact dc O,by simpa using Ne.symm s,ν,L.size,L,hR,EE, ?_⟩⟩;·exact LB ⟨⟨page,C,z,J⟩,l,U⟩ C hs (by rw[D,aX s,bF])
  ·rintro b ⟨r,m,hr,o⟩;rw[D] at hr;rcases aO hr with⟨rfl,rfl⟩|⟨_,hr⟩;·exact cS ⟨_,n,hp,o⟩
   ·rcases aO hr with⟨rfl,rfl⟩|⟨_,hr⟩
    ·right;rcases o with rfl|rfl;·exact O
     ·exact Vb
    ·exact cS ⟨r,m,hr,o⟩
 ·refine (xE hS hp I1.length t (by rw[K];exact y)).mono ?_;rintro e X' ⟨rfl,rfl⟩;have I:{i with node:=av q}=i:=by cases i;simp only at y;subst y;rfl
  refine⟨q,M,R,f,rfl,⟨hS, ?_,hr,fun _ _ _ h=>h,fun r hr=>cS hr,v,w,a.size,aE.aF a _,fun _ h=>h,fun _ h=>cS h,fun _ h=>cS h⟩⟩;rw[I,<-hi];exact hp
end
section
variable {E:Ev} {X0 Xs X X':World} {R0 Rs R R' S:Φ} {ps:Γ} {pg:Ξ} {rt:Δ} {Ms M M':Nat->Option NV} {p q:Nat} {n m:NV} {sb:Nat} {iA sv fI lv:Value} {l l':List Int} {L LI:List It}
structure Row (E:Ev) (X0:World) (R0:Φ) (ps:Γ) (pg:Ξ) (rt:Δ) (Rs:Φ) (Ms:Nat->Option NV) (Xs:World) (sb:Nat) (iA:Value) (R:Φ) (M:Nat->Option NV) (X:World) (sv:Value) (l:List Int) (lv:Value) (LI:List It):Prop where
 base:X0.heap.size<=Xs.heap.size
 ss:SS E X0 R0 R ps pg rt M X sb sv l
 Cv:nP Rs Ms Xs sb iA R M sv X
 own:bk Xs.heap.size X lv LI
 WH:∀b,lv.ownBlock=av b->R b/\¬MB M b/\b≠sb/\sv.ownBlock≠av b
theorem Row.step (h:Row E X0 R0 ps pg rt Rs Ms Xs sb iA R M X sv l lv LI) (hs:SS E X0 R0 R' ps pg rt M' X' sb fI l') (a:nP R M X sb sv R' M' fI X'):Row E X0 R0 ps pg rt Rs Ms Xs sb iA R' M' X' fI l' lv LI:=by
 refine⟨h.base,hs,h.Cv.trans a,Own.but h.own a.but fun b c H=> ?_,fun b c=> ?_⟩
 ·obtain⟨_,d,h3,h4⟩:=h.WH b c;rcases H with H|H|H;·exact h3 H
  ·exact h4 H
  ·exact d H
 ·obtain⟨e,d,h3,h4⟩:=h.WH b c;have f:=(Own.block h.own b c).2;refine⟨a.sub b e,fun H=> ?_,h3,fun H=> ?_⟩
  ·rcases a.mb b H with H|H;·exact d H
   ·omega
  ·rcases a.sp b H with H|H;·exact h4 H
   ·omega
theorem Row.add {e:Ending} (h:Row E X0 R0 ps pg rt Rs Ms Xs sb iA R M X sv l lv LI) (ha:Co Xs.heap.size X lv L e X'):
  ∃nB R',e=c8 (ec #[nB,bf ct 0])/\Row E X0 R0 ps pg rt Rs Ms Xs sb iA R' M X' sv l nB L/\aE (fun b=>lv.ownBlock=av b) X X'/\(∀b,nB.ownBlock=av b->lv.ownBlock=av b\/X.heap.size<=b):=by
 obtain⟨nB,rfl,i,c,a⟩:=ha;have hS:∀k,lv.ownBlock=av k->R k/\X0.heap.size<=k/\¬MB M k:=fun k H=>⟨(h.WH k H).1,aN h.base (Own.block h.own k H).1,(h.WH k H).2.1⟩;have d:=h.ss.ts.mem.keep c fun k H hs=>(hS k hs).2.2 H;have g:=Own.block i;have z:=h.ss.blk.lt;have j:=Own.block h.ss.sp;have f:∀k,nB.ownBlock=av k->R k\/X.heap.size<=k:=fun k H=>by
  rcases a with a|a;·grind
  ·exact dc (a k H)
 have N:∀k,(R k\/nB.ownBlock=av k)->R k\/X.heap.size<=k:=fun k H=>by
  rcases H with H|H;·exact cS H
  ·exact f k H
 refine⟨nB,fun k=>R k\/nB.ownBlock=av k,rfl,⟨h.base,⟨h.ss.ts.own c (fun k _ hs=>⟨(hS k hs).1,(hS k hs).2.1⟩) d (fun k H=>⟨cS (h.ss.ts.lT k H).1,(h.ss.ts.lT k H).2⟩) (fun k H=>cS H) (fun k H=> ?_),h.ss.blk.but c fun hs=>(h.WH _ hs).2.2.1 rfl,Own.but h.ss.sp c fun k H hs=>(h.WH k hs).2.2.2 H,⟨cS h.ss.yj.1,h.ss.yj.2⟩,fun k H=>⟨cS (h.ss.Vc k H).1,(h.ss.Vc k H).2⟩⟩,⟨fun k H=>cS (h.Cv.sub k H),fun k H=> ?_,h.Cv.but.trans c fun k g H=> ?_,h.Cv.mb,h.Cv.sp,h.Cv.dom⟩,i,fun k H=>⟨dc H, ?_⟩⟩,c,fun k H=> ?_⟩;·grind
 ·rcases N k H with H|H;·exact h.Cv.new k H
  ·exact dc (aN h.Cv.but.size H)
 ·have:=(Own.block h.own k H).1;omega
 ·rcases a with a|a;·rw[a] at H;exact (h.WH k H).2
  ·have o:=a k H;refine⟨fun m=> ?_,κ,fun n=> ?_⟩;·have:=h.ss.ts.mem.nA m;omega
   ·grind
 ·grind
end
section
variable {E:Ev} {X0 X X1 X2:World} {R0 R R1 R2:Φ} {ps:Γ} {pg:Ξ} {rt:Δ} {M M1 M2:Nat->Option NV} {p q:Nat} {n m:NV} {sb:Nat} {sv:Value} {l:List Int}
structure Mid (E:Ev) (X0:World) (R0 R:Φ) (ps:Γ) (pg:Ξ) (rt:Δ) (M:Nat->Option NV) (X:World) (sb:Nat) (sv:Value) (l:List Int) (k p q:Nat) (n m:NV) (I1:List It) (i j:It) (J:List It) (A r:List (Tr.Tx×Tr.E (k+1))) (a b:Tr.E (k+1)) (x:Tr.Tx) (f1 f2:List (Δ)) (fa fb:Δ) (R3:Φ) (M3:Nat->Option NV) (X3:World) (la lb:Nat) (kX rR:Δ) (m3:NV):Prop where
 ss:SS E X0 R0 R3 ps pg rt M3 X3 sb sv l
 Cv:nP R M X sb sv R3 M3 sv X3
 atp:M3 p=av {n with its:=I1++[{i with node:=av la}]}
 atq:M3 q=av m3
 its:m3.its=⟨x,j.val,av lb⟩::J
 like:m3.hi=m.hi/\m3.page=m.page/\m3.rg=m.rg/\m3.ro=m.ro/\m3.cap=m.cap
 ra:dQ M3 pg k la a kX
 rb:dQ M3 pg k lb b rR
 kl:bz pg k (dQ M3 pg k) I1 A f1
 kr:bz pg k (dQ M3 pg k) J r f2
 nd:(p::(f1.flatten++(kX++(rR++f2.flatten)))).Nodup
 qn:q∉p::(f1.flatten++(kX++(rR++f2.flatten)))
 na:∀r∈kX,r∈fa\/X.heap.size<=r
 nb:∀r∈rR,r∈fb\/X.heap.size<=r
 same:∀r y,r≠p->r≠q->M r=av y->M3 r=av y
theorem RF {k:Nat} {I1:List It} {i j:It} {J:List It} {A r:List (Tr.Tx×Tr.E (k+1))} {a b:Tr.E (k+1)} {x ka kb:Tr.Tx} {f1 f2:List (Δ)} {fa fb kX rR:Δ} {la lb:Nat}
  (h:SS E X0 R0 R ps pg rt M X sb sv l) (hp:M p=av n) (hq:M q=av m) (k1:bz pg k (dQ M pg k) I1 A f1) (k2:j9 pg k (dQ M pg k) i (ka,a) fa) (k3:j9 pg k (dQ M pg k) j (kb,b) fb) (k4:bz pg k (dQ M pg k) J r f2)
  (u:((p::(f1++[fa]).flatten)++(q::(fb::f2).flatten)).Nodup) (hx:x.length<=96)
  (b1:D7 E X0 R0 R ps pg rt M X p n k I1 i [] A a [] f1 [] fa la M1 R1 kX X1) (s1:SS E X0 R0 R1 ps pg rt M1 X1 sb sv l)
  (b2:D7 E X0 R0 R1 ps pg rt M1 X1 q m k [] j J [] b r [] f2 fb lb M2 R2 rR X2) (s2:SS E X0 R0 R2 ps pg rt M2 X2 sb sv l) (t2:nP R M X sb sv R2 M2 sv X2):
  ∃M3 m3,Mid E X0 R0 R ps pg rt M X sb sv l k p q n m I1 i j J A r a b x f1 f2 fa fb R2 M3 (X2.setCell ⟨m.rg,m.ro,aK⟩ (cu (bs x))) la lb kX rR m3:=by
 have c:∀r,(∃y,M r=av y)->r<X.heap.size:=fun r ⟨y,hy⟩=>(h.ts.mem.lt hy).1;have K:∀r,(∃y,M1 r=av y)->r<X1.heap.size:=fun r ⟨y,hy⟩=>(s1.ts.mem.lt hy).1;have NM:=b1.size;have L:(f1++[fa]).flatten=f1.flatten++fa:=ν
 rw[L,dy] at u;have v:=k1.dom;have w:=k4.dom;have O:∀r∈fa,∃y,M r=av y:=by
  obtain⟨_,_,hi⟩:=k2;rcases hi with⟨_,e,_⟩|⟨y,_,hr⟩;·rw[e];intro r hr;cases hr
  ·exact hr.dom
 have P:∀r∈fb,∃y,M r=av y:=by
  obtain⟨_,_,hi⟩:=k3;rcases hi with⟨_,e,_⟩|⟨y,_,hr⟩;·rw[e];intro r hr;cases hr
  ·exact hr.dom
 obtain⟨tG,S,z⟩:=aP.1 u;obtain⟨T,U⟩:=cA.1 tG;obtain⟨B,V⟩:=cA.1 S;obtain⟨n1,na0,W⟩:=aP.1 U;obtain⟨nb0,n2,Y⟩:=aP.1 V;have C:p≠q:=fun e=>z p au q au e;have o:∀s t,s∈p::(f1.flatten++fa)->t∈q::(fb++f2.flatten)->s≠t:=fun s t hs H=>z s hs t H;have hpX:=c p ⟨n,hp⟩;have hqX:=c q ⟨m,hq⟩;have aeJ:∀r,r≠p->(∃y,M r=av y)->M1 r=M r:=fun r hr ⟨y,hy⟩=>by rw[hy];exact b1.same r y hr hy
 have D:∀r,r≠q->(∃y,M1 r=av y)->M2 r=M1 r:=fun r hr ⟨y,hy⟩=>by rw[hy];exact b2.same r y hr hy
 have Z:∀r y,r≠p->r≠q->M r=av y->M2 r=av y:=fun r y h1 I hy=>b2.same r y I (b1.same r y h1 hy);have Q:q∉kX:=fun e=>by
  rcases b1.news q e with e|e;·grind [aH,au]
  ·omega
 have pfa:p∉kX:=fun e=>by
  rcases b1.news p e with e|e;·grind
  ·omega
 have F:q∉rR:=fun e=>by
  rcases b2.news q e with e|e;·grind
  ·omega
 have pfb:p∉rR:=fun e=>by
  rcases b2.news p e with e|e;·grind
  ·omega
 have WJ:=b1.Cr.dom;have ac4:dQ M2 pg k la a kX:=b1.Cr.frame fun r hr=>D r (fun e=>Q zaC) (WJ r hr);have ac5:bz pg k (dQ M2 pg k) I1 A f1:=b1.left.frame fun r hr=>D r (fun e=>o q q (aH _ (ah.2 (cS zaC))) au rfl) (b1.left.dom r hr);have aaF:M2 p=av {n with its:=I1++[{i with node:=av la}]}:=b2.same p _ C b1.at_;obtain⟨f,g⟩:∃f:NV,f={m with its:=[]++{j with node:=av lb}::J}:=⟨_,rfl⟩;have RG:M2 q=av f:=by rw[g];exact b2.at_
 have hpos:0<f.its.length:=by rw[g];show 0<([]++{j with node:=av lb}::J).length;simp
 have wF:f.rg=m.rg:=by rw[g]
 have hro:f.ro=m.ro:=by rw[g]
 obtain⟨m3,KI⟩:∃m3:NV,m3={f with its:=f.its.set 0 {f.its[0] with key:=x}}:=⟨_,rfl⟩;obtain⟨s3,t3⟩:SS E X0 R0 R2 ps pg rt (upd M2 q m3) (X2.setCell ⟨m.rg,m.ro,aK⟩ (cu (bs x))) sb sv l/\nP R2 M2 X2 sb sv R2 (upd M2 q m3) sv (X2.setCell ⟨m.rg,m.ro,aK⟩ (cu (bs x))):=by rw[<-wF,<-hro,KI];exact s2.key RG hpos x κ rfl
 have ac6:m3.its=⟨x,j.val,av lb⟩::J:=zaB
 have N:∀r,r≠q->upd M2 q m3 r=M2 r:=fun r hr=>aX hr;refine⟨upd M2 q m3,m3,⟨s3,t2.trans t3, ?_,bF _ _ _,ac6, ?_, ?_, ?_, ?_, ?_, ?_, ?_,b1.news,fun r hr=>(b2.news r hr).imp_right fun h=>aN NM h,fun r y h1 I hy=> ?_⟩⟩;·grind
 ·grind
 ·exact ac4.frame fun r hr=>N r fun e=>Q zaC
 ·exact b2.Cr.frame fun r hr=>N r fun e=>F zaC
 ·exact ac5.frame fun r hr=>N r fun e=>o q q (aH _ (ah.2 (cS zaC))) au rfl
 ·exact b2.right.frame fun r hr=>N r fun e=>B (ah.2 (dc zaC))
 ·have dab:∀s∈kX,∀t∈rR,s≠t:=by
   intro s hs t H e;subst e;rcases b1.news s hs with d|d
   ·rcases b2.news s H with G|G;·exact o s s (aH _ (ah.2 (dc d))) (aH _ (ah.2 (cS G))) rfl
    ·have:=c s (O s d);omega
   ·rcases b2.news s H with G|G;·have:=c s (P s G);omega
    ·have:=K s (WJ s hs);omega
  have da2:∀s∈kX,∀t∈f2.flatten,s≠t:=by
   intro s hs t H e;subst e;rcases b1.news s hs with d|d;·exact o s s (aH _ (ah.2 (dc d))) (aH _ (ah.2 (dc H))) rfl
   ·have:=c s (w s H);omega
  have ac7:∀s∈rR,∀t∈f2.flatten,s≠t:=by
   intro s hs t H e;subst e;rcases b2.news s hs with d|d;·exact Y s d s H rfl
   ·have:=c s (w s H);omega
  have ac8:∀s∈f1.flatten,∀t∈kX,s≠t:=by
   intro s hs t H e;subst e;rcases b1.news s H with d|d;·exact W s hs s d rfl
   ·have:=c s (v s hs);omega
  have d1b:∀s∈f1.flatten,∀t∈rR,s≠t:=by
   intro s hs t H e;subst e;rcases b2.news s H with d|d;·exact o s s (aH _ (ah.2 (cS hs))) (aH _ (ah.2 (cS d))) rfl
   ·have:=c s (v s hs);omega
  have d12:∀s∈f1.flatten,∀t∈f2.flatten,s≠t:=fun s hs t H=>o s t (aH _ (ah.2 (cS hs))) (aH _ (ah.2 (dc H)));refine cA.2 ⟨?_,aP.2 ⟨n1,aP.2 ⟨b1.nd,aP.2 ⟨b2.nd,n2,ac7⟩, ?_⟩, ?_⟩⟩
  ·intro e;rcases ah.1 e with e|e;·exact T (ah.2 (cS e))
   ·rcases ah.1 e with e|e;·exact pfa e
    ·rcases ah.1 e with e|e;·exact pfb e
     ·exact o p p au (aH _ (ah.2 (dc e))) rfl
  ·intro s hs t H;rcases ah.1 H with H|H;·exact dab s hs t H
   ·exact da2 s hs t H
  ·intro s hs t H;rcases ah.1 H with H|H;·exact ac8 s hs t H
   ·rcases ah.1 H with H|H;·exact d1b s hs t H
    ·exact d12 s hs t H
 ·intro e;rcases aM.1 e with e|e;·exact C e.symm
  ·rcases ah.1 e with e|e;·exact o q q (aH _ (ah.2 (cS e))) au rfl
   ·rcases ah.1 e with e|e;·exact Q e
    ·rcases ah.1 e with e|e;·exact F e
     ·exact B (ah.2 (dc e))
 ·rw[aX I];exact Z r y h1 I hy
end
section
variable {E:Ev} {X0 X X3 X4 X5 X':World} {R0 R R3:Φ} {ps:Γ} {pg:Ξ} {rt:Δ} {M M3 M5:Nat->Option NV} {p q:Nat} {n m m3:NV} {sb:Nat} {sv:Value} {l:List Int}
 {k:Nat} {I1:List It} {i j:It} {J:List It} {A r:List (Tr.Tx×Tr.E (k+1))} {a b:Tr.E (k+1)} {x ka kb:Tr.Tx} {f1 f2:List (Δ)} {fa fb kX rR:Δ} {la lb:Nat} {tn tm:Tr.E (k+2)}
theorem bz.cons {R1:Nat->Tr.E (k+1)->Δ->Prop} {is:List It} {xs:List (Tr.Tx×Tr.E (k+1))} {fs:List (Δ)} {y:Tr.Tx×Tr.E (k+1)} {f:Δ} (h:j9 pg k R1 i y f) (h':bz pg k R1 is xs fs):bz pg k R1 (i::is) (y::xs) (f::fs):=⟨h,h'⟩
theorem j9.fN {R1 R2:Nat->Tr.E (k+1)->Δ->Prop} {f f':Δ} {a':Tr.E (k+1)} (h:j9 pg k R1 i (ka,a) f) (q:Nat) (hr:R2 q a' f'):j9 pg k R2 {i with node:=av q} (ka,a') f':=⟨h.1,h.2.1,dc ⟨q,rfl,hr⟩⟩
theorem Ak {g c:Nat} {its:List It} {t:Tr.E (k+2)} {n0:NV} (r:lV pg (k+1) n tn) (a:n0.level=n.level) (b:n0.page=n.page) (h3:n0.lo=n.lo) (H:Tr.hd t=⟨(Tr.hd tn).page,true⟩) (h:Tr.jz (k+1) n.lo (j8 m.hi) t):lV pg (k+1) (n0.mu its g c m.hi) t:=by
 refine⟨a.trans r.level, ?_, ?_, ?_,fun hf=> ?_⟩;·show n0.page=_;rw[b,H];exact r.page
 ·rw[H];rfl
 ·show Tr.jz (k+1) n0.lo (j8 m.hi) t;rw[h3];exact h
 ·grind
theorem By {L:Tr.Tx} {P:Option Tr.Tx} (md:Mid E X0 R0 R ps pg rt M X sb sv l k p q n m I1 i j J A r a b x f1 f2 fa fb R3 M3 X3 la lb kX rR m3)
  (u:Below X3.heap.size X3 X4) (G:lV pg (k+1) n tn) (I:lV pg (k+1) m tm) (hA:Tr.its tn=A++[(ka,a)]) (Q:Tr.its tm=(kb,b)::r) (U:j9 pg k (dQ M pg k) i (ka,a) fa) (V:j9 pg k (dQ M pg k) j (kb,b) fb)
  (on:Tr.Ok (k+2) L (av x) tn) (O:Tr.Ok (k+2) x P tm) (W:x.length<=96) (hc:¬Tr.cut (k+2) tn x tm) (hold:Tr.Old (k+2) tm) (hcut:Tr.cut (k+1) a x b) {g c:Nat}
  (v:NR E X0 R0 R3 ps pg rt M3 X4 sb sv (upd M3 p (NV.mu {n with its:=I1++[{i with node:=av la}]} ((I1++[{i with node:=av la}])++m3.its) g c m3.hi)) (l++[m3.page]) X'):
  u_ E X0 R0 R ps pg rt M X sb sv (k+1) p n m ((p::(f1++[fa]).flatten)++(q::(fb::f2).flatten)) (Tr.join (k+1) tn tm x).1 (l++iF (Tr.join (k+1) tn tm x).2) X':=by
 have Y:=Tr.tQ (k+1) (Tr.Ok.mix (wN G on) on) (Tr.Ok.mix O (wN I O)) W hc;have Z:=Tr.Ec (x:=x) on.1 O.1;have w:=Tr.m6 (x:=x) hA Q;rw[if_pos hcut] at w;have oK:(Tr.hd tm).page.isSome=true:=hold.1;have z:(Tr.join (k+1) tn tm x).2=(Tr.hd tm).page.toList:=by rw[w]
 have B:Tr.its (Tr.join (k+1) tn tm x).1=A++(ka,a)::(x,b)::r:=by rw[w];rfl
 obtain⟨R5,ZL,S,T⟩:=nE.1 v;obtain⟨lG,C,_⟩:=md.like;rw[lG] at S T;have xz:p∉f1.flatten++(kX++(rR++f2.flatten)):=(cA.1 md.nd).1;obtain⟨N,d⟩:=ξx (NV.mu {n with its:=I1++[{i with node:=av la}]} ((I1++[{i with node:=av la}])++m3.its) g c m.hi);rw[<-d] at S T;obtain⟨f,D⟩:=ξx (upd M3 p N);rw[<-D] at S T;have hat:f p=av N:=by rw[D];exact bF _ _ _
 have K:∀s,s≠p->f s=M3 s:=fun s hs=>by rw[D];exact aX hs
 have H:∀s,s∈f1.flatten++(kX++(rR++f2.flatten))->f s=M3 s:=fun s hs=>K s fun e=>xz (by rw[<-e];exact hs);have gH:N.its=I1++{i with node:=av la}::⟨x,j.val,av lb⟩::J:=by rw[d];show (I1++[{i with node:=av la}])++m3.its=_;rw[md.its,aD];rfl
 have e2:(l++[m3.page]:List Int)=l++iF (Tr.join (k+1) tn tm x).2:=by rw[C,I.page,z,jQ oK]
 rw[e2] at S;have o:(f1++(kX::(rR::f2))).flatten=f1.flatten++(kX++(rR++f2.flatten)):=ν
 refine⟨_,_,p::(f1++(kX::(rR::f2))).flatten,nE.2 ⟨R5,ZL,S,(md.Cv.trans (nP.still u)).trans T⟩,⟨N,f1++(kX::(rR::f2)),hat,by rw[d];exact Ak G rfl rfl rfl Z Y.ok.near, ?_,rfl⟩,hat,by rw[d];rfl,by rw[d];rfl,by rw[o];exact md.nd,fun s hs=> ?_,fun s y hs hy=> ?_⟩
 ·rw[B,gH];refine (md.kl.frame fun s hs=>H s (ah.2 (cS hs))).append (bz.cons (U.fN la (md.ra.frame fun s hs=>H s ?_)) (bz.cons (y:=(x,b)) ⟨rfl,V.2.1,dc ⟨lb,rfl,md.rb.frame fun s hs=>H s ?_⟩⟩ (md.kr.frame fun s hs=>H s ?_)));·grind
  ·grind
  ·grind
 ·rw[o] at hs;rcases aM.1 hs with hs|hs;·exact cS (ah.2 (cS (by rw[hs];exact au)))
  ·rcases ah.1 hs with hs|hs;·exact cS (ah.2 (cS (aH _ (by simp only[dI,ah];exact cS hs))))
   ·rcases ah.1 hs with hs|hs;·exact (md.na s hs).imp_left fun h=>ah.2 (cS (aH _ (by simp only[dI,ah];right;simpa using h)))
    ·rcases ah.1 hs with hs|hs;·exact (md.nb s hs).imp_left fun h=>ah.2 (dc (aH _ (by rw[dy];exact ah.2 (cS h))))
     ·grind
 ·have t:s≠p:=fun e=>hs (by rw[e];exact ah.2 (cS au));have F:s≠q:=fun e=>hs (by rw[e];exact ah.2 (dc au));rw[K s t];exact md.same s y t F hy
theorem BA (P:∀s y,M s=av y->s<X.heap.size) {Ba:Tr.Tx} {EF:Option Tr.Tx} {ZL:Value} {R5:Φ} {F:Δ} {Q:List Int} (md:Mid E X0 R0 R ps pg rt M X sb sv l k p q n m I1 i j J A r a b x f1 f2 fa fb R3 M3 X3 la lb kX rR m3)
  (o:Below X3.heap.size X3 X4) (rO:lV pg (k+1) n tn) (gz:lV pg (k+1) m tm) (hA:Tr.its tn=A++[(ka,a)]) (hB:Tr.its tm=(kb,b)::r) (k2:j9 pg k (dQ M pg k) i (ka,a) fa)
  (on:Tr.Ok (k+2) Ba (av x) tn) (U:Tr.Ok (k+2) x EF tm) (hx:x.length<=96) (hc:¬Tr.cut (k+2) tn x tm) (hold:Tr.Old (k+2) tm) (hcut:¬Tr.cut (k+1) a x b)
  (t5:nP R3 M3 X4 sb sv R5 M5 ZL X5) (ZF:Q=l++iF (Tr.join k a b x).2) (V:dQ M5 pg k la (Tr.join k a b x).1 F) (W:F.Nodup) (H:∀s∈F,s∈kX++rR\/X4.heap.size<=s) (d:∀s y,s∉kX++rR->M3 s=av y->M5 s=av y) {g c:Nat}
  (Y:NR E X0 R0 R5 ps pg rt M5 X5 sb ZL (upd M5 p (NV.mu {n with its:=I1++[{i with node:=av la}]} ((I1++[{i with node:=av la}])++J) g c m3.hi)) (Q++[m3.page]) X'):
  u_ E X0 R0 R ps pg rt M X sb sv (k+1) p n m ((p::(f1++[fa]).flatten)++(q::(fb::f2).flatten)) (Tr.join (k+1) tn tm x).1 (l++iF (Tr.join (k+1) tn tm x).2) X':=by
 have J0:=Tr.tQ (k+1) (Tr.Ok.mix (wN rO on) on) (Tr.Ok.mix U (wN gz U)) hx hc;have Hw:=Tr.Ec (x:=x) on.1 U.1;have Z:=Tr.m6 (x:=x) hA hB;rw[if_neg hcut] at Z;have oK:(Tr.hd tm).page.isSome=true:=hold.1;have hj2:(Tr.join (k+1) tn tm x).2=(Tr.join k a b x).2++(Tr.hd tm).page.toList:=by rw[Z]
 have hji:Tr.its (Tr.join (k+1) tn tm x).1=A++(ka,(Tr.join k a b x).1)::r:=by rw[Z];rfl
 obtain⟨R6,sv6,S,T⟩:=nE.1 Y;obtain⟨lG,hl2,_⟩:=md.like;rw[lG] at S T;obtain⟨xz,hnd⟩:=cA.1 md.nd;have hdom:∀s,s∈f1.flatten++(kX++(rR++f2.flatten))->∃y,M3 s=av y:=by
  intro s hs;rcases ah.1 hs with hs|hs;·exact md.kl.dom s hs
  ·rcases ah.1 hs with hs|hs;·exact md.ra.dom s hs
   ·rcases ah.1 hs with hs|hs;·exact md.rb.dom s hs
    ·exact md.kr.dom s hs
 have u:∀s y,M3 s=av y->s<X4.heap.size:=fun s y hy=>bL (md.ss.ts.mem.lt hy).1 o.size;have hX3:X.heap.size<=X3.heap.size:=md.Cv.but.size;have hpX:p<X4.heap.size:=u p _ md.atp;have v:p∉F:=fun e=>by
  rcases H p e with e|e;·grind
  ·omega
 obtain⟨n1,kE,d1⟩:=aP.1 hnd;obtain⟨_,Ed,d2⟩:=aP.1 kE;obtain⟨_,n2,d3⟩:=aP.1 Ed;have w:∀s∈f1.flatten,s∉kX++rR:=fun s hs e=>by
  rcases ah.1 e with e|e;·grind
  ·grind
 have z:∀s∈f2.flatten,s∉kX++rR:=fun s hs e=>by
  rcases ah.1 e with e|e;·grind
  ·exact d3 s e s hs rfl
 have B:∀s,s∉kX++rR->(∃y,M3 s=av y)->M5 s=M3 s:=fun s hs ⟨y,hy⟩=>by rw[hy];exact d s y hs hy
 obtain⟨N,C⟩:=ξx (NV.mu {n with its:=I1++[{i with node:=av la}]} ((I1++[{i with node:=av la}])++J) g c m.hi);rw[<-C] at S T;obtain⟨L,Te⟩:=ξx (upd M5 p N);rw[<-Te] at S T;have hat:L p=av N:=by rw[Te];exact bF _ _ _
 have O:∀s,s≠p->L s=M5 s:=fun s hs=>by rw[Te];exact aX hs
 have gH:N.its=I1++{i with node:=av la}::J:=by rw[C];show (I1++[{i with node:=av la}])++J=_;rw[aD];rfl
 have D:∀s∈f1.flatten,s≠p:=fun s hs e=>xz (by rw[<-e];exact ah.2 (cS hs));have G:∀s∈f2.flatten,s≠p:=fun s hs e=>xz (by rw[<-e];exact ah.2 (dc (ah.2 (dc (ah.2 (dc hs))))));have e2:(Q++[m3.page]:List Int)=l++iF (Tr.join (k+1) tn tm x).2:=by rw[ZF,hl2,gz.page,hj2,jQ oK,aD];unfold iF;rw[bM]
 rw[e2] at S;have I:(f1++(F::f2)).flatten=f1.flatten++(F++f2.flatten):=ν
 have dj1:∀s∈f1.flatten,∀t∈F,s≠t:=by
  intro s hs t f e;subst e;rcases H s f with e|e;·exact w s hs e
  ·obtain⟨y,hy⟩:=md.kl.dom s hs;have:=u s y hy;omega
 have dj2:∀s∈F,∀t∈f2.flatten,s≠t:=by
  intro s hs t f e;subst e;rcases H s hs with e|e;·exact z s f e
  ·obtain⟨y,hy⟩:=md.kr.dom s f;have:=u s y hy;omega
 refine⟨_,_,p::(f1++(F::f2)).flatten,nE.2 ⟨R6,sv6,S,((md.Cv.trans (nP.still o)).trans t5).trans T⟩,⟨N,f1++(F::f2),hat,by rw[C];exact Ak rO rfl rfl rfl Hw J0.ok.near, ?_,rfl⟩,hat,by rw[C];rfl,by rw[C];rfl, ?_,fun s hs=> ?_,fun s y hs hy=> ?_⟩;·rw[hji,gH];exact (md.kl.frame fun s hs=>(O s (D s hs)).trans (B s (w s hs) (md.kl.dom s hs))).append (bz.cons (k2.fN la (V.frame fun s hs=>O s fun e=>v (by rw[<-e];exact hs))) (md.kr.frame fun s hs=>(O s (G s hs)).trans (B s (z s hs) (md.kr.dom s hs))))
 ·rw[I];refine cA.2 ⟨fun e=> ?_,aP.2 ⟨n1,aP.2 ⟨W,n2,dj2⟩,fun s hs t f=> ?_⟩⟩
  ·rcases ah.1 e with e|e;·exact D p e rfl
   ·rcases ah.1 e with e|e;·exact v e
    ·exact G p e rfl
  ·rcases ah.1 f with f|f;·exact dj1 s hs t f
   ·exact d1 s hs t (ah.2 (dc (ah.2 (dc f))))
 ·rw[I] at hs;have hin:∀s,s∈kX++rR->s∈(p::(f1++[fa]).flatten)++(q::(fb::f2).flatten)\/X.heap.size<=s:=by
   intro s hs;rcases ah.1 hs with hs|hs;·exact (md.na s hs).imp_left fun h=>ah.2 (cS (aH _ (by simp only[dI,ah];right;simpa using h)))
   ·exact (md.nb s hs).imp_left fun h=>ah.2 (dc (aH _ (by rw[dy];exact ah.2 (cS h))))
  rcases aM.1 hs with hs|hs;·exact cS (ah.2 (cS (by rw[hs];exact au)))
  ·rcases ah.1 hs with hs|hs;·exact cS (ah.2 (cS (aH _ (by simp only[dI,ah];exact cS hs))))
   ·rcases ah.1 hs with hs|hs
    ·rcases H s hs with e|e;·exact hin s e
     ·right;have:=o.size;omega
    ·exact cS (ah.2 (dc (aH _ (by rw[dy];exact ah.2 (dc hs)))))
 ·have K:s≠p:=fun e=>hs (by rw[e];exact ah.2 (cS au));have hsq:s≠q:=fun e=>hs (by rw[e];exact ah.2 (dc au));rw[O s K];refine d s y (fun e=> ?_) (md.same s y K hsq hy);have hyX:s<X.heap.size:=P s y hy;rcases ah.1 e with e|e
  ·rcases md.na s e with e|e;·exact hs (ah.2 (cS (aH _ (by simp only[dI,ah];right;simpa using e))))
   ·omega
  ·rcases md.nb s e with e|e;·exact hs (ah.2 (dc (aH _ (by rw[dy];exact ah.2 (cS e)))))
   ·omega
end
section
variable {E:Ev} {X0 X X':World} {R0 R R' S:Φ} {ps ps':Γ} {pg cy:Ξ} {rt rt':Δ} {M M':Nat->Option NV} {p q:Nat} {n m:NV} {sb:Nat} {sv:Value} {l:List Int}
theorem Gq {k NL RL:Nat} {tn tm:Tr.E (k+2)} {A r:List (Tr.Tx×Tr.E (k+1))} {u v:Tr.Tx×Tr.E (k+1)} {x:Tr.Tx} (H:NL=A.length+1) (b:RL=r.length+1) (hA:Tr.its tn=A++[u]) (h:Tr.its tm=v::r) (hc:¬Tr.cut (k+2) tn x tm):NL+RL<=400:=by rw[Tr.x6,hA,h] at hc;have e:=Tr.jP (k+1) (A++[u]);have a:=Tr.jP (k+1) (v::r);rw[aq] at e;simp only[a_,gd] at e a;omega
theorem Gr:∀(k:Nat) (n m:Tr.E (k+1)) (x:Tr.Tx),(Tr.join k n m x).2.length<=k+1
 |0,n,m,x=>by rw[Tr.vR];cases (Tr.hd m).page<;>simp
 |k+1,n,m,x=>by
  cases h:Tr.its m with
  |nil=>unfold Tr.join;rw[h];cases (Tr.its n).getLast?<;>simp
  |cons b r=>
   by_cases hn:Tr.its n=[];·unfold Tr.join;rw[hn,h];simp
   ·obtain⟨A,a,hA⟩:=Tr.dX hn;rw[Tr.m6 hA h];have i:=Gr k a.2 b.2 x
    split
    ·cases (Tr.hd m).page<;>simp
    ·rw[aq];cases (Tr.hd m).page<;>simp<;>omega
theorem NW {k:Nat} {tn:Tr.E (k+2)} {A:List (Tr.Tx×Tr.E (k+1))} {ka:Tr.Tx} {a:Tr.E (k+1)} {B:Tr.Tx} {h:Option Tr.Tx} (on:Tr.Ok (k+2) B h tn) (hA:Tr.its tn=A++[(ka,a)]):∃lo,Tr.Ok (k+1) lo h a:=by
 obtain⟨_,_,_,h4⟩:=on;rw[Tr.dN,hA] at h4;cases A with
 |nil=>exact⟨B,h4⟩
 |cons c A=>
  have H:Tr.dz (Tr.Ok (k+1)) (Tr.cut (k+1)) h (((B,c.2)::A)++[(ka,a)]):=h4;exact⟨ka,H.last⟩
theorem JW {k:Nat} {tm:Tr.E (k+2)} {r:List (Tr.Tx×Tr.E (k+1))} {kb:Tr.Tx} {b:Tr.E (k+1)} {x:Tr.Tx} {h:Option Tr.Tx} (o:Tr.Ok (k+2) x h tm) (a:Tr.its tm=(kb,b)::r):∃hi,Tr.Ok (k+1) x hi b:=by obtain⟨_,_,_,h4⟩:=o;rw[Tr.dN,a] at h4;have H:Tr.dz (Tr.Ok (k+1)) (Tr.cut (k+1)) h ([]++(x,b)::r):=h4;exact⟨_,D6 H⟩
def JX (E:Ev) (X0:World) (R0:Φ) (ps:Γ) (pg:Ξ) (rt:Δ) (sb:Nat) (k:Nat):Prop:=
 ∀(M:Nat->Option NV) (X:World) (R:Φ) (sv:Value) (l:List Int) (p q:Nat) (n m:NV) (tn tm:Tr.E (k+1)) (F f:Δ) (x B:Tr.Tx) (a:Option Tr.Tx),
  SS E X0 R0 R ps pg rt M X sb sv l->dQ M pg k p tn F->dQ M pg k q tm f->M p=av n->M q=av m->(F++f).Nodup->Tr.Ok (k+1) B (av x) tn->Tr.Ok (k+1) x a tm->x.length<=96->¬Tr.cut (k+1) tn x tm->Tr.Old (k+1) tm->l.length+k<=100000->
  Calls prog 239 #[ptr sb,ptr p,ptr q,cu (bs x)] X fun e X'=>e=c8 (bf ct 0)/\u_ E X0 R0 R ps pg rt M X sb sv k p n m (F++f) (Tr.join k tn tm x).1 (l++iF (Tr.join k tn tm x).2) X'
theorem Al {k:Nat} {t:Tr.E (k+2)} {I1 I2:List It} {i:It} {A B:List (Tr.Tx×Tr.E (k+1))} {key:Tr.Tx} {c:Tr.E (k+1)} {f1 f2:List (Δ)} {f:Δ} {V:World}
  (h:TS E X0 R0 R ps pg rt M X) (H:Below X.heap.size X V) (hp:M p=av n) (d:lV pg (k+1) n t) (hi:n.its=I1++i::I2) (g:Tr.its t=A++(key,c)::B) (l:bz pg k (dQ M pg k) I1 A f1) (m:j9 pg k (dQ M pg k) i (key,c) f) (o:bz pg k (dQ M pg k) I2 B f2) (a:(p::(f1++f::f2).flatten).Nodup) (s:k<=15) {j:Int} (u:j=A.length):
  Calls prog 131 #[ptr E.tb,ptr p,bf ct j] V fun e X'=>∃q M' R' fq,e=c8 (ec #[ptr q,bf ct 0])/\D7 E X0 R0 R ps pg rt M X p n k I1 i I2 A c B f1 f2 f q M' R' fq X':=by
 subst u;refine (NQ (h.still H (fun _ h=>h) (fun _ h=>cS h)) hp d hi g l m o a s).mono ?_;rintro e X' ⟨q,M',R',fq,v,b⟩;refine⟨q,M',R',fq,v,⟨b.ts,b.at_,b.Cr,b.left,b.right,b.same,fun r hr=> ?_,b.nd,aN H.size b.size,(aE.aF H (fun b=>b=n.rg)).trans b.but fun _ _ h=>h,b.sub,fun r hr=> ?_,fun r hr=> ?_⟩⟩;·exact (b.news r hr).imp_right fun h=>aN H.size h
 ·exact (b.new r hr).imp_right fun h=>aN H.size h
 ·exact (b.mb r hr).imp_right fun h=>aN H.size h
theorem zag {G:Prop} (h:G:=by
 rw[<-wH]
 obtain⟨R9,I,RD,Aj,ny,RE⟩:=Ez.o.row HP.o d.o.2 ZJ.o d.o.1 Y.o.1 Y.o.2.1 Y.o.2.2 wH
 have H9:=aa (And.intro I (And.intro RD (And.intro Aj (And.intro ny RE))))
 have A_:=aa (jO W9 sb E.tb q svW lW F I.blk I.sp (I.ts.mem.nd q F ((aX ZK.o).trans HQ.o)) jD.o)
 clear I RD Aj ny RE wH d1 d4 d7 e4 D_ Ea Eb
 unfold ptr at A_
 go_wp2_with fail
 refine A_.o.mono ?_
 intro e W10 td
 have he:=td.1
 subst he
 have H10:=aa td
 clear td A_
 go_wp2_with fail
 go_ret
 exact⟨rfl,xU.o g c _ (uZ Ez.o H9.o H10.o ⟨p,_,HP.o,cS rfl⟩)⟩):G:=h
theorem NY {k:Nat} (IH:JX E X0 R0 ps pg rt sb k) (hk:k<=14):JX E X0 R0 ps pg rt sb (k+1):=by
 intro M X R sv l p q n m tn tm F1 F2 x Ba EF h r1 r2 hp hq hnd on om hx hc hold hl;obtain⟨n',fs1,hp',rO,ks1,rfl⟩:=r1;rw[hp] at hp';injection hp' with hp';subst hp';obtain⟨m',fs2,nM,gz,ks2,rfl⟩:=r2;rw[hq] at nM;injection nM with nM;subst nM;obtain⟨A,⟨ka,a⟩,hA⟩:=Tr.dX on.1;obtain⟨⟨kb,b⟩,r,hB⟩:∃c r,Tr.its tm=c::r:=by
  cases hh:Tr.its tm with
  |nil=>exact absurd hh om.1
  |cons c r=>exact⟨c,r,rfl⟩
 have RI:=ks1;have abo:=ks2;rw[hA] at ks1;rw[hB] at ks2;obtain⟨I1,I',f1,f',hI,rfl,ka1,ka2⟩:=ks1.parts;obtain⟨i,I0,fa,f0,rfl,rfl,ka3,ka4⟩:=ka2.cons_inv;obtain⟨rfl,rfl⟩:=ka4.yh;obtain⟨j,J,fb,f2,hJ,rfl,kb1,kb2⟩:=ks2.cons_inv;have oX:(p::(f1++fa::[]).flatten).Nodup:=(aP.1 hnd).1;have kE:(q::([]++fb::f2).flatten).Nodup:=(aP.1 hnd).2.1;have Ee:∀r,r∈p::(f1++[fa]).flatten->r∈q::(fb::f2).flatten->False:=fun r h1 h2=>(aP.1 hnd).2.2 r h1 r h2 rfl;have hpq:p≠q:=fun e=>Ee p au zbc;have gV:=aa (fun V hV=>Al (V:=V) (j:=(A.length:Int)) h.ts hV hp rO hI hA ka1 ka3 (show bz pg k (dQ M pg k) [] [] [] from trivial) oX κ rfl);have f:=h.ts.mem.nd p n hp;have G:=h.ts.mem.nd q m hq;have c0:=f.c0;have c1:=f.c1;have q1:=G.c1;have hsb:=h.blk.lt;have s0:X.cell? ⟨sb,0,aK⟩=av (ptr E.tb):=h.blk.cell rfl;have Tn:n.its.length=A.length+1:=by have:=RI.len.1;rw[hA,aq] at this;exact this
 have WG:m.its.length=r.length+1:=by have:=abo.len.1;rw[hB] at this;exact this
 have FA:(0:Int)<n.level:=by rw[rO.level];omega
 have ad1:(n.level:Int)>0:=FA;have bn:=ve on;have bm:=ve om;have hwr:IntKind.i64.wrap (((A.length+1:Nat):Int)-1)=(A.length:Int):=by rw[show ((A.length+1:Nat):Int)-1=(A.length:Int) by omega];exact bQ _ (by rw[hA,aq] at bn;have:=bn.1;simp at this;omega)
 obtain⟨NL,Vd⟩:=ξx (A.length+1);obtain⟨RL,Yt⟩:=ξx (r.length+1);obtain⟨lX,JU⟩:∃g,g=n.rg:=⟨_,rfl⟩;obtain⟨lY,JV⟩:∃g,g=n.ro:=⟨_,rfl⟩;obtain⟨fJ,Cs⟩:∃g,g=n.cap:=⟨_,rfl⟩;obtain⟨rg,wF⟩:∃g,g=m.rg:=⟨_,rfl⟩;obtain⟨ro,hro⟩:∃g,g=m.ro:=⟨_,rfl⟩;obtain⟨ij,Ct⟩:∃g,g=m.cap:=⟨_,rfl⟩;rw[Tn,<-Vd,<-JU,<-JV,<-Cs] at c1;rw[WG,<-Yt,<-wF,<-hro,<-Ct] at q1;have P:=aa (And.intro Vd (And.intro Yt (And.intro JU (And.intro JV (And.intro Cs (And.intro wF (And.intro hro Ct)))))));rw[<-Vd] at hwr;have aeK:IntKind.i64.wrap ((A.length:Nat):Int)=(A.length:Int):=bQ _ (by rw[hA,aq] at bn;have:=bn.1;simp at this;omega);have aeL:((NL:Nat):Int)-1=(A.length:Int):=κ
 have aeM:(1:Int)<=NL:=κ
 have aeN:(0:Int)<RL:=κ
 have aeO:(RL:Int)<=255:=by rw[hB] at bm;have:=bm.1;simp at this;omega
 have aeP:RL<=ij:=by have:=G.small.cap.1;omega
 have ef:=f.blk.lt;have Gh:=G.blk.lt;unfold ptr at s0 gV;have HH:=aa (And.intro h (And.intro hp (And.intro hq (And.intro rO gz))));have HT:=aa (And.intro hA (And.intro hB (And.intro hI hJ)));have T:=aa (And.intro ka1 (And.intro ka3 (And.intro kb1 kb2)));have HD:=aa (And.intro hnd (And.intro oX (And.intro kE (And.intro Ee hpq))));have C:=aa (And.intro on (And.intro om (And.intro hx (And.intro hc (And.intro hold hl)))));have HZ:=aa (And.intro Tn (And.intro WG (And.intro bn bm)));clear h hp hq rO gz hA hB hI hJ ka1 ka3 kb1 kb2 hnd oX kE Ee hpq on om hx hc hold hl Tn WG bn bm f G Vd Yt JU JV Cs wF hro Ct RI abo ks1 ks2 ka2 ka4;go_enter func239,ntmps239;unfold ptr;go_wp2_with (refine wp_region_any η ?_;refine Hid.o ?_);refine aa ?_;try (change wpAny _ _ _ _ _ _ _ (bu _))
 refine tk 0 ?_;refine tk 1 ?_;refine tk 2 ?_;refine tk 4 ?_;refine tk 5 ?_;refine tk 6 ?_;refine tk 7 ?_;try simp only[Act.put,aC,aB,ay]
 refine rd [3,8] (AllReady.cons rfl (fun K H=> ?_) (rn fun K H=> ?_))
 focus
  go_simp
  refine H _ _ ?_;clear H K
  refine rd [8] (rn fun K H=> ?_)
  go_simp
  refine H _ _ ?_;clear H K
  refine tk 9 ?_
  refine tk 10 ?_
  refine rd [11] (rn fun K H=> ?_)
  go_simp
  refine (gV.o _ (show Below X.heap.size X X.drew from (Below.refl _ X).drew)).mono ?_
  rintro e X1 ⟨la,M1,R1,kX,rfl,Gs⟩
  have H1:=aa Gs
  clear Gs
  refine H _ _ ?_;clear H K
 rotate_left
 focus
  go_simp
  refine H _ _ ?_;clear H K
  refine tk 9 ?_
  refine tk 10 ?_
  refine rd [3] (rn fun K H=> ?_)
  go_simp
  refine H _ _ ?_;clear H K
  refine rd [11] (rn fun K H=> ?_)
  go_simp
  refine (gV.o _ (show Below X.heap.size X X.drew from (Below.refl _ X).drew)).mono ?_
  rintro e X1 ⟨la,M1,R1,kX,rfl,Gs⟩
  have H1:=aa Gs
  clear Gs
  refine H _ _ ?_;clear H K
 all_goals
  try unfold ptr
  try simp only[Act.put,aC,aB,ay]
  refine tk 12 ?_
  refine tk 13 ?_
  refine tk 14 ?_
  refine tk 15 ?_
  refine tk 16 ?_
  try simp only[Act.put,aC,aB,ay]
  refine wpAny_done η ?_ _
  have b1:=H1.o
  have JY:∀k,k=n.rg->MB M k:=fun k e=>by rw[e];exact⟨p,n,HH.o.2.1,dc rfl⟩
  have WK:=aa (HH.o.1.nodes b1.ts b1.but JY b1.sub b1.mb)
  have RJ:=aa (show nP R M X sb sv R1 M1 sv X1 from nP.nodes b1.but JY b1.sub b1.new b1.mb (Dom.but b1.at_ b1.same))
  have hag:∀r,r≠p->(∃m,M r=av m)->M1 r=M r:=fun r hr ⟨y,hy⟩=>by rw[hy];exact b1.same r y hr hy
  have hq1:M1 q=av m:=b1.same q m (Ne.symm HD.o.2.2.2.2) HH.o.2.2.1
  have Zy:∀r∈q::(fb::f2).flatten,r≠p:=fun r hr e=>HD.o.2.2.2.1 p au zaC
  have Yu:j9 pg k (dQ M1 pg k) j (kb,b) fb:=T.o.2.2.1.mono fun y _ hy=>hy.frame fun r hr=>hag r (Zy r (by rw[dy];exact aH _ (ah.2 (cS hr)))) (hy.dom r hr)
  have Yv:bz pg k (dQ M1 pg k) J r f2:=T.o.2.2.2.frame fun r hr=>hag r (Zy r (by rw[dy];exact aH _ (ah.2 (dc hr)))) (T.o.2.2.2.dom r hr)
  have pE:=aa (fun V hV=>Al (V:=V) (j:=(0:Int)) WK.o.ts hV hq1 HH.o.2.2.2.2 (I1:=[]) HT.o.2.2.2 (A:=[]) HT.o.2.1 (show bz pg k (dQ M1 pg k) [] [] [] from trivial) Yu Yv HD.o.2.2.1 κ rfl)
  have HK2:=aa (And.intro hq1 (And.intro Yu Yv))
  have t0:X1.cell? ⟨sb,0,aK⟩=av (ptr E.tb):=WK.o.blk.cell rfl
  have aeQ:=WK.o.blk.lt
  unfold ptr at t0
  clear b1 hag hq1 Zy Yu Yv c0 c1 q1 s0 JY gV
  unfold ptr at pE
  go_wp2_with fail
  refine (pE.o X1 (Below.refl _ _)).mono ?_
  rintro e X2 ⟨lb,M2,R2,rR,rfl,WL⟩
  have H2:=aa WL
  clear WL pE t0
  try unfold ptr
  have b2:=H2.o
  have JY:∀k,k=m.rg->MB M1 k:=fun k e=>by rw[e];exact⟨q,m,HK2.o.1,dc rfl⟩
  have Lm:=aa (WK.o.nodes b2.ts b2.but JY b2.sub b2.mb)
  have nO:=aa (RJ.o.trans (show nP R1 M1 X1 sb sv R2 M2 sv X2 from nP.nodes b2.but JY b2.sub b2.new b2.mb (Dom.but b2.at_ b2.same)))
  have hit:=bt (Lm.o.ts.mem.nd q _ b2.at_).row 0 (by show 0<([]++{j with node:=av lb}::J).length;simp)
  have w0:X2.cell? ⟨rg,ro,aK⟩=av (cu (bs j.key)):=by have:=hit.1;rw[P.o.2.2.2.2.2.1,P.o.2.2.2.2.2.2.1];simpa using this
  have fz:X2.frozen? ⟨rg,ro,aK⟩=false:=by obtain⟨cur,p5⟩:=Lm.o.ts.mem.ty q _ b2.at_;have abp:X2.heap[rg]?=av (dg cur 175 (0,0)):=(by rw[P.o.2.2.2.2.2.1];exact p5);simp[World.frozen?,abp]
  obtain⟨M3,m3,z⟩:=RF HH.o.1 HH.o.2.1 HH.o.2.2.1 T.o.1 T.o.2.1 T.o.2.2.1 T.o.2.2.2 HD.o.1 C.o.2.2.1 H1.o WK.o H2.o Lm.o nO.o
  rw[<-P.o.2.2.2.2.2.1,<-P.o.2.2.2.2.2.2.1] at z
  obtain⟨X3,hX3⟩:=ξx (X2.setCell ⟨rg,ro,aK⟩ (cu (bs x)))
  rw[<-hX3] at z
  have B:=aa z
  obtain⟨na,hna,ZM,-⟩:=z.ra.head
  obtain⟨nb,hnb,hob,-⟩:=z.rb.head
  have hsa:=z.ra.sz hna
  have abq:=z.rb.sz hnb
  have HF:=aa (mN (z.ss.ts.mem.nd la na hna) (z.ss.ts.mem.nd lb nb hnb) x (by have:=C.o.2.2.1;omega))
  rw[hsa.1,abq.1,ZM.level] at HF
  have HN:=aa (And.intro hna (And.intro hnb (And.intro ZM hob)))
  clear b2 JY hit z hna ZM hnb hob hsa abq
  unfold ptr at HF
  by_cases hcut:Tr.cut (k+1) a x b
  ·have Gt:¬(Tr.sz k (Tr.its a)+Tr.sz k (Tr.its b)+(if k=0 then 0 else x.length)<=510):=(by unfold Tr.cut at hcut;omega);rw[decide_eq_false Gt] at HF;have tg:=aa hcut;clear hcut Gt;go_wp2_with fail;rw[<-hX3];refine HF.o.mono ?_;rintro e W ⟨rfl,O⟩;have F_:=aa O;have Ez:=aa (B.o.ss.still O);have xU:=aa (fun (g c:Nat) (X':World) hto=>By (g:=g) (c:=c) (X':=X') B.o F_.o HH.o.2.2.2.1 HH.o.2.2.2.2 HT.o.1 HT.o.2.1 T.o.2.1 T.o.2.2.1 C.o.1 C.o.2.1 C.o.2.2.1 C.o.2.2.2.1 C.o.2.2.2.2.1 tg.o hto);clear O HF w0 fz;obtain⟨N,Q⟩:∃N:NV,N={n with its:=I1++[{i with node:=av la}]}:=⟨_,rfl⟩;rw[<-Q] at xU;obtain⟨F,O4⟩:=ξx m3;have Yw:M3 p=av N:=(by rw[Q];exact B.o.atp);have RG:M3 q=av F:=(by rw[O4];exact B.o.atq);have Td:N.its.length=NL:=(by rw[Q,P.o.1];show (I1++[_]).length=_;rw[aq,T.o.1.len.1];rfl);have ZN:F.its.length=RL:=(by rw[O4,B.o.its,P.o.2.1,a_,T.o.2.2.2.len.1]);have f:=Ez.o.ts.mem.nd p N Yw;have G:=Ez.o.ts.mem.nd q F RG;have hNR:NL+RL<=400:=Gq P.o.1 P.o.2.1 HT.o.1 HT.o.2.1 C.o.2.2.2.1;have c1:W.cell? ⟨p,1,aK⟩=av (cx (av ⟨lX,lY,aK⟩) NL fJ):=zbn;have c4:=f.c4;have c7:=f.c7;have S:=G.c4;obtain⟨hh,O2⟩:∃hh,bs F.hi=hh:=⟨_,rfl⟩;rw[O2] at S;have ZJ:=aa O2;have U:=aa (fun V hb hk=>oW W V N.its F.its (lX:=lX) (lY:=lY) (NL:=NL) (fJ:=fJ) (rg:=rg) (ro:=ro) (RL:=RL) (ij:=ij) hb hk (by have:=f.row;rw[Q] at this |-;rw[P.o.2.2.1,P.o.2.2.2.1];exact this) (by have:=G.row;rw[O4] at this |-;rw[B.o.like.2.2.1,B.o.like.2.2.2.1,<-P.o.2.2.2.2.2.1,<-P.o.2.2.2.2.2.2.1] at this;exact this) Td.symm ZN.symm κ κ)
   have Y:=aa (show (N.its++F.its).length<=400/\(∀i∈N.its++F.its,i.key.length<=200/\i.val.length<=200)/\NL+RL=(N.its++F.its).length from⟨zaV,fun i hi=>by
    rcases ah.1 hi with hi|hi;·exact f.small.each i hi
    ·exact G.small.each i hi,zaV⟩)
   have jD:=aa (show l.length<=1000000 by have:=C.o.2.2.2.2.2;omega);have D:=aa (show p<W.heap.size/\q<W.heap.size from⟨f.blk.lt,G.blk.lt⟩);have u:=aa f;have HP:=aa Yw;have HQ:=aa RG;have ZK:=aa (Ne.symm HD.o.2.2.2.2);have ac9:=D.o.1;have ac_:=D.o.2;rw[<-O4] at xU;have gH:N.its=I1++[{i with node:=av la}]:=(by rw[Q]);rw[<-gH] at xU;clear f G Yw RG O2 Td ZN hNR Q O4 hsb ef Gh gH;go_wp2_with (refine wp_region_any η ?_;refine Hid.o ?_);refine aa ?_;try (change wpAny _ _ _ _ _ _ _ (bu _))
   refine tk 0 ?_;refine tk 1 ?_;refine tk 2 ?_;refine tk 3 ?_;refine tk 4 ?_;refine tk 5 ?_;refine tk 7 ?_;refine tk 10 ?_;refine tk 11 ?_;refine tk 12 ?_;refine tk 13 ?_;try simp only[Act.put,aC,aB,ay]
   refine rd [6,14] (AllReady.cons rfl (fun K H=> ?_) (rn fun K H=> ?_))
   focus
    go_simp
    refine H _ _ ?_;clear H K
    refine rd [8,14] (AllReady.cons rfl (fun K H=> ?_) (rn fun K H=> ?_))
    focus
     go_simp
     have t:=aa (show Below W.heap.size W ((W.alloc (dg #[cx (av ⟨lX,lY,aK⟩) NL fJ,cx (av ⟨rg,ro,aK⟩) RL ij] 166)).drew) from ((Below.refl _ W).alloc (af _) _).drew)
     refine H _ _ ?_;clear H K
     refine rd [9,14] (AllReady.cons rfl (fun K H=> ?_) (rn fun K H=> ?_))
     focus
      go_simp
      refine (U.o _ t.o υ).mono ?_
      rintro e Z ⟨g,c,rfl,v,w⟩
      have d:=aa (And.intro v (t.o.trans (w.mono t.o.size)))
      clear w v
      have d1:=(d.o.2.cell (p:=⟨p,1,aK⟩) D.o.1).trans c1
      have d4:=(d.o.2.cell (p:=⟨p,4,aK⟩) D.o.1).trans c4
      have d7:=(d.o.2.cell (p:=⟨p,7,aK⟩) D.o.1).trans c7
      have e4:=(d.o.2.cell (p:=⟨q,4,aK⟩) D.o.2).trans S
      have D_:=(u.o.still d.o.2).blk.frozen 1
      have Ea:=(u.o.still d.o.2).blk.frozen 4
      have Eb:=(u.o.still d.o.2).blk.frozen 7
      refine H _ _ ?_;clear H K
      refine rd [14] (rn fun K H=> ?_)
      go_simp
      refine H _ _ ?_;clear H K
     rotate_left
     focus
      go_simp
      refine H _ _ ?_;clear H K
      refine rd [9] (rn fun K H=> ?_)
      go_simp
      refine (U.o _ t.o υ).mono ?_
      rintro e Z ⟨g,c,rfl,v,w⟩
      have d:=aa (And.intro v (t.o.trans (w.mono t.o.size)))
      clear w v
      have d1:=(d.o.2.cell (p:=⟨p,1,aK⟩) D.o.1).trans c1
      have d4:=(d.o.2.cell (p:=⟨p,4,aK⟩) D.o.1).trans c4
      have d7:=(d.o.2.cell (p:=⟨p,7,aK⟩) D.o.1).trans c7
      have e4:=(d.o.2.cell (p:=⟨q,4,aK⟩) D.o.2).trans S
      have D_:=(u.o.still d.o.2).blk.frozen 1
      have Ea:=(u.o.still d.o.2).blk.frozen 4
      have Eb:=(u.o.still d.o.2).blk.frozen 7
      refine H _ _ ?_;clear H K
    rotate_left 2
    focus
     go_simp
     refine H _ _ ?_;clear H K
     refine rd [8] (rn fun K H=> ?_)
     go_simp
     have t:=aa (show Below W.heap.size W ((W.alloc (dg #[cx (av ⟨lX,lY,aK⟩) NL fJ,cx (av ⟨rg,ro,aK⟩) RL ij] 166)).drew) from ((Below.refl _ W).alloc (af _) _).drew)
     refine H _ _ ?_;clear H K
     refine rd [9] (rn fun K H=> ?_)
     go_simp
     refine (U.o _ t.o υ).mono ?_
     rintro e Z ⟨g,c,rfl,v,w⟩
     have d:=aa (And.intro v (t.o.trans (w.mono t.o.size)))
     clear w v
     have d1:=(d.o.2.cell (p:=⟨p,1,aK⟩) D.o.1).trans c1
     have d4:=(d.o.2.cell (p:=⟨p,4,aK⟩) D.o.1).trans c4
     have d7:=(d.o.2.cell (p:=⟨p,7,aK⟩) D.o.1).trans c7
     have e4:=(d.o.2.cell (p:=⟨q,4,aK⟩) D.o.2).trans S
     have D_:=(u.o.still d.o.2).blk.frozen 1
     have Ea:=(u.o.still d.o.2).blk.frozen 4
     have Eb:=(u.o.still d.o.2).blk.frozen 7
     refine H _ _ ?_;clear H K
   rotate_left 3
   focus
    go_simp
    refine H _ _ ?_;clear H K
    refine rd [6] (rn fun K H=> ?_)
    go_simp
    refine H _ _ ?_;clear H K
    refine rd [8] (rn fun K H=> ?_)
    go_simp
    have t:=aa (show Below W.heap.size W ((W.alloc (dg #[cx (av ⟨lX,lY,aK⟩) NL fJ,cx (av ⟨rg,ro,aK⟩) RL ij] 166)).drew) from ((Below.refl _ W).alloc (af _) _).drew)
    refine H _ _ ?_;clear H K
    refine rd [9] (rn fun K H=> ?_)
    go_simp
    refine (U.o _ t.o υ).mono ?_
    rintro e Z ⟨g,c,rfl,v,w⟩
    have d:=aa (And.intro v (t.o.trans (w.mono t.o.size)))
    clear w v
    have d1:=(d.o.2.cell (p:=⟨p,1,aK⟩) D.o.1).trans c1
    have d4:=(d.o.2.cell (p:=⟨p,4,aK⟩) D.o.1).trans c4
    have d7:=(d.o.2.cell (p:=⟨p,7,aK⟩) D.o.1).trans c7
    have e4:=(d.o.2.cell (p:=⟨q,4,aK⟩) D.o.2).trans S
    have D_:=(u.o.still d.o.2).blk.frozen 1
    have Ea:=(u.o.still d.o.2).blk.frozen 4
    have Eb:=(u.o.still d.o.2).blk.frozen 7
    refine H _ _ ?_;clear H K
   all_goals
    try simp only[Act.put,aC,aB,ay]
    refine tk 15 ?_
    refine tk 16 ?_
    refine rd [17] (rn fun K H=> ?_)
    go_simp
    refine H _ _ ?_;clear H K
    refine tk 18 ?_
    refine tk 19 ?_
    refine tk 20 ?_
    refine rd [21] (rn fun K H=> ?_)
    go_simp
    refine H _ _ ?_;clear H K
    refine tk 22 ?_
    refine tk 23 ?_
    refine rd [24] (rn fun K H=> ?_)
    go_simp
    refine H _ _ ?_;clear H K
    refine wpAny_done η ?_ _
    obtain⟨W9,wH⟩:=ξx (((Z.setCell ⟨p,1,aK⟩ (cx (av ⟨g,0,aK⟩) (NL+RL) c)).setCell ⟨p,4,aK⟩ (cu hh)).setCell ⟨p,7,aK⟩ (ey true))
    rw[<-wH]
    obtain⟨R9,I,RD,Aj,ny,RE⟩:=Ez.o.row HP.o d.o.2 ZJ.o d.o.1 Y.o.1 Y.o.2.1 Y.o.2.2 wH
    have H9:=aa (And.intro I (And.intro RD (And.intro Aj (And.intro ny RE))))
    have A_:=aa (jO W9 sb E.tb q sv l F I.blk I.sp (I.ts.mem.nd q F ((aX ZK.o).trans HQ.o)) jD.o)
    clear I RD Aj ny RE wH d1 d4 d7 e4 D_ Ea Eb
    unfold ptr at A_
    go_wp2_with fail
    refine A_.o.mono ?_
    intro e W10 td
    have he:=td.1
    subst he
    have H10:=aa td
    clear td A_
    go_wp2_with fail
    go_ret
    exact⟨rfl,xU.o g c _ (uZ Ez.o H9.o H10.o ⟨p,_,HP.o,cS rfl⟩)⟩
  ·have Gt:Tr.sz k (Tr.its a)+Tr.sz k (Tr.its b)+(if k=0 then 0 else x.length)<=510:=(by unfold Tr.cut at hcut;omega);rw[decide_eq_true Gt] at HF;have tg:=aa hcut;clear hcut Gt;go_wp2_with fail;rw[<-hX3];refine HF.o.mono ?_;rintro e X4 ⟨rfl,O⟩;have F_:=aa O;have ada:=aa (B.o.ss.still O);obtain⟨lo',on'⟩:=NW C.o.1 HT.o.1;obtain⟨hi',om'⟩:=JW C.o.2.1 HT.o.2.1;have abr:(kX++rR).Nodup:=(by have h1:=(aP.1 (cA.1 B.o.nd).2).2.1;rw[<-aD] at h1;exact (aP.1 h1).1);have HIH:=aa (IH M3 X4 R2 sv l la lb na nb a b kX rR x lo' hi' ada.o B.o.ra B.o.rb HN.o.1 HN.o.2.1 abr on' om' C.o.2.2.1 tg.o (C.o.2.2.2.2.1.2 _ (by rw[HT.o.2.1];rfl)) (by have:=C.o.2.2.2.2.2;omega));clear O HF w0 fz on' om' abr;unfold ptr at HIH;go_wp2_with fail;refine HIH.o.mono ?_;rintro e W ⟨rfl,M5,na5,Fj,Yx,hrj,abt,abu,abv,hnj,RK,Am⟩;obtain⟨RW,ZL,s5,t5⟩:=nE.1 Yx;have Ez:=aa s5;have xU:=aa (fun (g c:Nat) (X':World) hto=>BA (g:=g) (c:=c) (X':=X') (fun s y hy=>(HH.o.1.ts.mem.lt hy).1) B.o F_.o HH.o.2.2.2.1 HH.o.2.2.2.2 HT.o.1 HT.o.2.1 T.o.2.1 C.o.1 C.o.2.1 C.o.2.2.1 C.o.2.2.2.1 C.o.2.2.2.2.1 tg.o t5 rfl hrj hnj RK Am hto)
   have Yy:p∉kX++rR:=fun e=>(cA.1 B.o.nd).1 (by
    rcases ah.1 e with e|e;·exact ah.2 (dc (ah.2 (cS e)))
    ·exact ah.2 (dc (ah.2 (dc (ah.2 (cS e))))))
   have Yz:q∉kX++rR:=fun e=>B.o.qn (aH _ (by
    rcases ah.1 e with e|e;·exact ah.2 (dc (ah.2 (cS e)))
    ·exact ah.2 (dc (ah.2 (dc (ah.2 (cS e)))))))
   have Gu:=Am p _ Yy B.o.atp;have Gv:=Am q _ Yz B.o.atq;have hll:=Gr k a b x;obtain⟨N,Q⟩:∃N:NV,N={n with its:=I1++[{i with node:=av la}]}:=⟨_,rfl⟩;rw[<-Q] at xU Gu;have gH:N.its=I1++[{i with node:=av la}]:=(by rw[Q]);rw[<-gH] at xU;obtain⟨F,O4⟩:=ξx m3;rw[<-O4] at xU Gv;have Td:N.its.length=NL:=(by rw[Q,P.o.1];show (I1++[_]).length=_;rw[aq,T.o.1.len.1];rfl);have hJ0:J.length=r.length:=T.o.2.2.2.len.1;have ZN:J.length=RL-1:=(by rw[hJ0,P.o.2.1];rfl);have f:=Ez.o.ts.mem.nd p N Gu;have G:=Ez.o.ts.mem.nd q F Gv;have hNR:NL+RL<=400:=Gq P.o.1 P.o.2.1 HT.o.1 HT.o.2.1 C.o.2.2.2.1;have c1:W.cell? ⟨p,1,aK⟩=av (cx (av ⟨lX,lY,aK⟩) NL fJ):=zbn;have c4:=f.c4;have c7:=f.c7;have S:=G.c4;obtain⟨hh,O2⟩:∃hh,bs F.hi=hh:=⟨_,rfl⟩;rw[O2] at S;have ZJ:=aa O2;have J1:N.rg=lX/\N.ro=lY:=by rw[Q,P.o.2.2.1,P.o.2.2.2.1];exact⟨rfl,rfl⟩
   have Y:=aa (show (N.its++J).length<=400/\(∀i∈N.its++J,i.key.length<=200/\i.val.length<=200)/\NL+(RL-1)=(N.its++J).length from⟨zaV,fun i hi=>by
    rcases ah.1 hi with hi|hi;·exact f.small.each i hi
    ·exact G.small.each i (by rw[O4,B.o.its];exact aH _ hi),zaV⟩)
   have jD:=aa (show (l++iF (Tr.join k a b x).2).length<=1000000 by rw[aq];unfold iF;rw[aL];have:=C.o.2.2.2.2.2;omega);have D:=aa (show p<W.heap.size/\q<W.heap.size from⟨f.blk.lt,G.blk.lt⟩);have u:=aa f;have HP:=aa Gu;have HQ:=aa Gv;have ZK:=aa (Ne.symm HD.o.2.2.2.2);have ac9:=D.o.1;have ac_:=D.o.2;obtain⟨svW,adb⟩:=ξx ZL;obtain⟨lW,hlW⟩:=ξx (l++iF (Tr.join k a b x).2);rw[<-adb] at Ez xU;rw[<-hlW] at Ez jD xU;have aeR:(1:Int)<=RL:=κ;have ad2:(RL:Int)<=ij:=κ;by_cases ade:ij=1
   ·subst ade;have L:bg aj W rg ro J:=(by have hJe:J=[]:=ff.1 κ;have h1:=G.row;rw[O4,B.o.its,B.o.like.2.2.1,B.o.like.2.2.2.1,<-P.o.2.2.2.2.2.1,<-P.o.2.2.2.2.2.2.1] at h1;have h2:=h1.part 0 0 ν;rw[hJe];simpa[aj] using h2);have U:=aa (show ∀(V:World) (rc:Nat),Below W.heap.size W V->aW V W.heap.size 166 [cx (av ⟨lX,lY,aK⟩) NL fJ,cx (av ⟨rg,ro,aK⟩) 0 rc]->Calls prog 263 #[cx (av ⟨W.heap.size,0,aK⟩) 2 2] V fun e w'=>∃g c,e=c8 (cx (av ⟨g,0,aK⟩) NL c)/\bk W.heap.size w' (cx (av ⟨g,0,aK⟩) (N.its++J).length c) (N.its++J)/\Below V.heap.size V w' from fun V rc hb hk=>oW W V N.its J (lX:=lX) (lY:=lY) (NL:=NL) (fJ:=fJ) (rg:=rg) (ro:=ro) (RL:=0) (ij:=rc) hb hk (by have:=f.row;rw[J1.1,J1.2] at this;exact this) L Td.symm κ κ κ);have Y:=aa (And.intro Y.o.1 (And.intro Y.o.2.1 (show NL=(N.its++J).length by have:=Y.o.2.2;omega)));clear f G Gu Gv O2 Td hJ0 ZN hNR Q O4 hsb ef Gh s5 t5 Yx hrj abt abu abv hnj RK Am Yy Yz hll L J1 HIH gH;go_wp2_with (refine wp_region_any η ?_;refine Hid.o ?_);refine aa ?_;try (change wpAny _ _ _ _ _ _ _ (bu _))
    refine tk 0 ?_;refine tk 1 ?_;refine tk 2 ?_;refine tk 3 ?_;refine tk 4 ?_;refine tk 5 ?_;refine tk 7 ?_;refine tk 10 ?_;refine tk 11 ?_;refine tk 12 ?_;refine tk 13 ?_;try simp only[Act.put,aC,aB,ay]
    refine rd [6,14] (AllReady.cons rfl (fun K H=> ?_) (rn fun K H=> ?_))
    focus
     go_simp
     refine H _ _ ?_;clear H K
     refine rd [8,14] (AllReady.cons rfl (fun K H=> ?_) (rn fun K H=> ?_))
     focus
      go_simp
      have t:=aa (show Below W.heap.size W ((W.alloc (dg #[cx (av ⟨lX,lY,aK⟩) NL fJ,cx (av ⟨rg,ro,aK⟩) 0 0] 166)).drew) from ((Below.refl _ W).alloc (af _) _).drew)
      refine H _ _ ?_;clear H K
      refine rd [9,14] (AllReady.cons rfl (fun K H=> ?_) (rn fun K H=> ?_))
      focus
       go_simp
       refine (U.o _ _ t.o zav).mono ?_
       rintro e Z ⟨g,c,rfl,v,w⟩
       have d:=aa (And.intro v (t.o.trans (w.mono t.o.size)))
       clear w v
       have d1:=(d.o.2.cell (p:=⟨p,1,aK⟩) D.o.1).trans c1
       have d4:=(d.o.2.cell (p:=⟨p,4,aK⟩) D.o.1).trans c4
       have d7:=(d.o.2.cell (p:=⟨p,7,aK⟩) D.o.1).trans c7
       have e4:=(d.o.2.cell (p:=⟨q,4,aK⟩) D.o.2).trans S
       have D_:=(u.o.still d.o.2).blk.frozen 1
       have Ea:=(u.o.still d.o.2).blk.frozen 4
       have Eb:=(u.o.still d.o.2).blk.frozen 7
       refine H _ _ ?_;clear H K
       refine rd [14] (rn fun K H=> ?_)
       go_simp
       refine H _ _ ?_;clear H K
      rotate_left
      focus
       go_simp
       refine H _ _ ?_;clear H K
       refine rd [9] (rn fun K H=> ?_)
       go_simp
       refine (U.o _ _ t.o zav).mono ?_
       rintro e Z ⟨g,c,rfl,v,w⟩
       have d:=aa (And.intro v (t.o.trans (w.mono t.o.size)))
       clear w v
       have d1:=(d.o.2.cell (p:=⟨p,1,aK⟩) D.o.1).trans c1
       have d4:=(d.o.2.cell (p:=⟨p,4,aK⟩) D.o.1).trans c4
       have d7:=(d.o.2.cell (p:=⟨p,7,aK⟩) D.o.1).trans c7
       have e4:=(d.o.2.cell (p:=⟨q,4,aK⟩) D.o.2).trans S
       have D_:=(u.o.still d.o.2).blk.frozen 1
       have Ea:=(u.o.still d.o.2).blk.frozen 4
       have Eb:=(u.o.still d.o.2).blk.frozen 7
       refine H _ _ ?_;clear H K
     rotate_left 2
     focus
      go_simp
      refine H _ _ ?_;clear H K
      refine rd [8] (rn fun K H=> ?_)
      go_simp
      have t:=aa (show Below W.heap.size W ((W.alloc (dg #[cx (av ⟨lX,lY,aK⟩) NL fJ,cx (av ⟨rg,ro,aK⟩) 0 0] 166)).drew) from ((Below.refl _ W).alloc (af _) _).drew)
      refine H _ _ ?_;clear H K
      refine rd [9] (rn fun K H=> ?_)
      go_simp
      refine (U.o _ _ t.o zav).mono ?_
      rintro e Z ⟨g,c,rfl,v,w⟩
      have d:=aa (And.intro v (t.o.trans (w.mono t.o.size)))
      clear w v
      have d1:=(d.o.2.cell (p:=⟨p,1,aK⟩) D.o.1).trans c1
      have d4:=(d.o.2.cell (p:=⟨p,4,aK⟩) D.o.1).trans c4
      have d7:=(d.o.2.cell (p:=⟨p,7,aK⟩) D.o.1).trans c7
      have e4:=(d.o.2.cell (p:=⟨q,4,aK⟩) D.o.2).trans S
      have D_:=(u.o.still d.o.2).blk.frozen 1
      have Ea:=(u.o.still d.o.2).blk.frozen 4
      have Eb:=(u.o.still d.o.2).blk.frozen 7
      refine H _ _ ?_;clear H K
    rotate_left 3
    focus
     go_simp
     refine H _ _ ?_;clear H K
     refine rd [6] (rn fun K H=> ?_)
     go_simp
     refine H _ _ ?_;clear H K
     refine rd [8] (rn fun K H=> ?_)
     go_simp
     have t:=aa (show Below W.heap.size W ((W.alloc (dg #[cx (av ⟨lX,lY,aK⟩) NL fJ,cx (av ⟨rg,ro,aK⟩) 0 0] 166)).drew) from ((Below.refl _ W).alloc (af _) _).drew)
     refine H _ _ ?_;clear H K
     refine rd [9] (rn fun K H=> ?_)
     go_simp
     refine (U.o _ _ t.o zav).mono ?_
     rintro e Z ⟨g,c,rfl,v,w⟩
     have d:=aa (And.intro v (t.o.trans (w.mono t.o.size)))
     clear w v
     have d1:=(d.o.2.cell (p:=⟨p,1,aK⟩) D.o.1).trans c1
     have d4:=(d.o.2.cell (p:=⟨p,4,aK⟩) D.o.1).trans c4
     have d7:=(d.o.2.cell (p:=⟨p,7,aK⟩) D.o.1).trans c7
     have e4:=(d.o.2.cell (p:=⟨q,4,aK⟩) D.o.2).trans S
     have D_:=(u.o.still d.o.2).blk.frozen 1
     have Ea:=(u.o.still d.o.2).blk.frozen 4
     have Eb:=(u.o.still d.o.2).blk.frozen 7
     refine H _ _ ?_;clear H K
    all_goals
     try simp only[Act.put,aC,aB,ay]
     refine tk 15 ?_
     refine tk 16 ?_
     refine rd [17] (rn fun K H=> ?_)
     go_simp
     refine H _ _ ?_;clear H K
     refine tk 18 ?_
     refine tk 19 ?_
     refine tk 20 ?_
     refine rd [21] (rn fun K H=> ?_)
     go_simp
     refine H _ _ ?_;clear H K
     refine tk 22 ?_
     refine tk 23 ?_
     refine rd [24] (rn fun K H=> ?_)
     go_simp
     refine H _ _ ?_;clear H K
     refine wpAny_done η ?_ _
     obtain⟨W9,wH⟩:=ξx (((Z.setCell ⟨p,1,aK⟩ (cx (av ⟨g,0,aK⟩) NL c)).setCell ⟨p,4,aK⟩ (cu hh)).setCell ⟨p,7,aK⟩ (ey true))
     exact zag
   ·skip
    have L:bg aj W rg (ro+3) J:=(by have h1:=G.row;rw[O4,B.o.its,B.o.like.2.2.1,B.o.like.2.2.2.1,<-P.o.2.2.2.2.2.1,<-P.o.2.2.2.2.2.2.1] at h1;have h2:=h1.part 1 J.length ν;simpa[aj] using h2);have U:=aa (fun V rc hb hk=>oW W V N.its J (lX:=lX) (lY:=lY) (NL:=NL) (fJ:=fJ) (rg:=rg) (ro:=ro+3) (RL:=RL-1) (ij:=rc) hb hk (by have:=f.row;rw[J1.1,J1.2] at this;exact this) L Td.symm ZN.symm κ κ);clear f G Gu Gv O2 Td hJ0 ZN hNR Q O4 hsb ef Gh s5 t5 Yx hrj abt abu abv hnj RK Am Yy Yz hll L J1 HIH gH;go_wp2_with (refine wp_region_any η ?_;refine Hid.o ?_);refine aa ?_;try (change wpAny _ _ _ _ _ _ _ (bu _))
    refine tk 0 ?_;refine tk 1 ?_;refine tk 2 ?_;refine tk 3 ?_;refine tk 4 ?_;refine tk 5 ?_;refine tk 7 ?_;refine tk 10 ?_;refine tk 11 ?_;refine tk 12 ?_;refine tk 13 ?_;try simp only[Act.put,aC,aB,ay]
    refine rd [6,14] (AllReady.cons rfl (fun K H=> ?_) (rn fun K H=> ?_))
    focus
     go_simp
     refine H _ _ ?_;clear H K
     refine rd [8,14] (AllReady.cons rfl (fun K H=> ?_) (rn fun K H=> ?_))
     focus
      go_simp
      have t:=aa (show Below W.heap.size W ((W.alloc (dg #[cx (av ⟨lX,lY,aK⟩) NL fJ,cx (av ⟨rg,ro+3,aK⟩) (RL-1) (ij-1)] 166)).drew) from ((Below.refl _ W).alloc (af _) _).drew)
      refine H _ _ ?_;clear H K
      refine rd [9,14] (AllReady.cons rfl (fun K H=> ?_) (rn fun K H=> ?_))
      focus
       go_simp
       refine (U.o _ _ t.o zau).mono ?_
       rintro e Z ⟨g,c,rfl,v,w⟩
       have d:=aa (And.intro v (t.o.trans (w.mono t.o.size)))
       clear w v
       have d1:=(d.o.2.cell (p:=⟨p,1,aK⟩) D.o.1).trans c1
       have d4:=(d.o.2.cell (p:=⟨p,4,aK⟩) D.o.1).trans c4
       have d7:=(d.o.2.cell (p:=⟨p,7,aK⟩) D.o.1).trans c7
       have e4:=(d.o.2.cell (p:=⟨q,4,aK⟩) D.o.2).trans S
       have D_:=(u.o.still d.o.2).blk.frozen 1
       have Ea:=(u.o.still d.o.2).blk.frozen 4
       have Eb:=(u.o.still d.o.2).blk.frozen 7
       refine H _ _ ?_;clear H K
       refine rd [14] (rn fun K H=> ?_)
       go_simp
       refine H _ _ ?_;clear H K
      rotate_left
      focus
       go_simp
       refine H _ _ ?_;clear H K
       refine rd [9] (rn fun K H=> ?_)
       go_simp
       refine (U.o _ _ t.o zau).mono ?_
       rintro e Z ⟨g,c,rfl,v,w⟩
       have d:=aa (And.intro v (t.o.trans (w.mono t.o.size)))
       clear w v
       have d1:=(d.o.2.cell (p:=⟨p,1,aK⟩) D.o.1).trans c1
       have d4:=(d.o.2.cell (p:=⟨p,4,aK⟩) D.o.1).trans c4
       have d7:=(d.o.2.cell (p:=⟨p,7,aK⟩) D.o.1).trans c7
       have e4:=(d.o.2.cell (p:=⟨q,4,aK⟩) D.o.2).trans S
       have D_:=(u.o.still d.o.2).blk.frozen 1
       have Ea:=(u.o.still d.o.2).blk.frozen 4
       have Eb:=(u.o.still d.o.2).blk.frozen 7
       refine H _ _ ?_;clear H K
     rotate_left 2
     focus
      go_simp
      refine H _ _ ?_;clear H K
      refine rd [8] (rn fun K H=> ?_)
      go_simp
      have t:=aa (show Below W.heap.size W ((W.alloc (dg #[cx (av ⟨lX,lY,aK⟩) NL fJ,cx (av ⟨rg,ro+3,aK⟩) (RL-1) (ij-1)] 166)).drew) from ((Below.refl _ W).alloc (af _) _).drew)
      refine H _ _ ?_;clear H K
      refine rd [9] (rn fun K H=> ?_)
      go_simp
      refine (U.o _ _ t.o zau).mono ?_
      rintro e Z ⟨g,c,rfl,v,w⟩
      have d:=aa (And.intro v (t.o.trans (w.mono t.o.size)))
      clear w v
      have d1:=(d.o.2.cell (p:=⟨p,1,aK⟩) D.o.1).trans c1
      have d4:=(d.o.2.cell (p:=⟨p,4,aK⟩) D.o.1).trans c4
      have d7:=(d.o.2.cell (p:=⟨p,7,aK⟩) D.o.1).trans c7
      have e4:=(d.o.2.cell (p:=⟨q,4,aK⟩) D.o.2).trans S
      have D_:=(u.o.still d.o.2).blk.frozen 1
      have Ea:=(u.o.still d.o.2).blk.frozen 4
      have Eb:=(u.o.still d.o.2).blk.frozen 7
      refine H _ _ ?_;clear H K
    rotate_left 3
    focus
     go_simp
     refine H _ _ ?_;clear H K
     refine rd [6] (rn fun K H=> ?_)
     go_simp
     refine H _ _ ?_;clear H K
     refine rd [8] (rn fun K H=> ?_)
     go_simp
     have t:=aa (show Below W.heap.size W ((W.alloc (dg #[cx (av ⟨lX,lY,aK⟩) NL fJ,cx (av ⟨rg,ro+3,aK⟩) (RL-1) (ij-1)] 166)).drew) from ((Below.refl _ W).alloc (af _) _).drew)
     refine H _ _ ?_;clear H K
     refine rd [9] (rn fun K H=> ?_)
     go_simp
     refine (U.o _ _ t.o zau).mono ?_
     rintro e Z ⟨g,c,rfl,v,w⟩
     have d:=aa (And.intro v (t.o.trans (w.mono t.o.size)))
     clear w v
     have d1:=(d.o.2.cell (p:=⟨p,1,aK⟩) D.o.1).trans c1
     have d4:=(d.o.2.cell (p:=⟨p,4,aK⟩) D.o.1).trans c4
     have d7:=(d.o.2.cell (p:=⟨p,7,aK⟩) D.o.1).trans c7
     have e4:=(d.o.2.cell (p:=⟨q,4,aK⟩) D.o.2).trans S
     have D_:=(u.o.still d.o.2).blk.frozen 1
     have Ea:=(u.o.still d.o.2).blk.frozen 4
     have Eb:=(u.o.still d.o.2).blk.frozen 7
     refine H _ _ ?_;clear H K
    all_goals
     try simp only[Act.put,aC,aB,ay]
     refine tk 15 ?_
     refine tk 16 ?_
     refine rd [17] (rn fun K H=> ?_)
     go_simp
     refine H _ _ ?_;clear H K
     refine tk 18 ?_
     refine tk 19 ?_
     refine tk 20 ?_
     refine rd [21] (rn fun K H=> ?_)
     go_simp
     refine H _ _ ?_;clear H K
     refine tk 22 ?_
     refine tk 23 ?_
     refine rd [24] (rn fun K H=> ?_)
     go_simp
     refine H _ _ ?_;clear H K
     refine wpAny_done η ?_ _
     obtain⟨W9,wH⟩:=ξx (((Z.setCell ⟨p,1,aK⟩ (cx (av ⟨g,0,aK⟩) (NL+(RL-1)) c)).setCell ⟨p,4,aK⟩ (cu hh)).setCell ⟨p,7,aK⟩ (ey true))
     exact zag
end
section
variable {w:World} {p q sb:Nat} {m:NV}
theorem Ef (h:Nd w q m) (hf:cJ m.its<=510) (hs:m.was<=cJ m.its):
  Calls prog 137 #[ptr sb,ptr p,ptr q] w fun e w'=>e=c8 (bf ct 0)/\Below w.heap.size w w':=by
 have f:=aa (fun V (c:Below w.heap.size w V)=>jL (h.still c));have g:=aa (fun V (c:Below w.heap.size w V)=>iV (h.still c));have i:=aa (fun V (c:Below w.heap.size w V)=>(h.still c).c5);rw[decide_eq_true hf] at f;have j:(cJ m.its:Int)≥m.was:=κ
 have c5:=h.c5;have a:=aa (Below.refl w.heap.size w);unfold ptr at f g;clear h hf hs;go_enter func137,ntmps137;unfold ptr;go_wp2_with (refine wp_region_any η ?_;refine Hid.o ?_);refine aa ?_;try (change wpAny _ _ _ _ _ _ _ (bu _))
 refine tk 0 ?_;refine rd [1] (rn fun K H=> ?_);go_simp;refine (f.o _ ((Below.refl _ w).drew)).mono ?_;rintro e w1 ⟨rfl,A⟩;refine H _ _ ?_;clear H K;have a:=aa (((Below.refl w.heap.size w).drew).trans A);have d:=aa (i.o w1 a.o);have c5:=d.o;clear A;refine tk 2 ?_;refine tk 3 ?_;refine tk 5 ?_;refine tk 6 ?_;refine tk 7 ?_;try simp only[Act.put,aC,aB,ay]
 refine rd [4,8] (AllReady.cons rfl (fun K H=> ?_) (rn fun K H=> ?_))
 focus
  go_simp
  refine (g.o _ a.o).mono ?_
  rintro e W ⟨rfl,b⟩
  have a:=aa (a.o.trans (b.mono a.o.size))
  have d:=aa (i.o W a.o)
  have c5:=d.o
  clear b
  refine H _ _ ?_;clear H K
  refine rd [8] (rn fun K H=> ?_)
  go_simp
  refine H _ _ ?_;clear H K
 rotate_left
 focus
  go_simp
  refine H _ _ ?_;clear H K
  refine rd [4] (rn fun K H=> ?_)
  go_simp
  refine (g.o _ a.o).mono ?_
  rintro e W ⟨rfl,b⟩
  have a:=aa (a.o.trans (b.mono a.o.size))
  have d:=aa (i.o W a.o)
  have c5:=d.o
  clear b
  refine H _ _ ?_;clear H K
 all_goals
  try simp only[Act.put,aC,aB,ay]
  refine tk 9 ?_
  refine tk 10 ?_
  refine wpAny_done η ?_ _
  go_wp2_with fail
  go_ret
  exact⟨rfl,a.o⟩
end
section
variable {w:World} {p sb tb:Nat} {n:NV} {sv:Value} {l:List Int}
def YA (w:World) (sb tb:Nat) (sv:Value) (l:List Int) (e:Ending) (w':World):Prop:=e=c8 (ec #[dr aK,bf ct 0])/\lI w sb tb sv l (c8 (ec #[])) w'
theorem NZ (hs:aW w sb 226 [ptr tb,sv]) (a:p8 0 w sv l) (h:Nd w p n) (hl:l.length<=1000000) (hn:n.its=[]):
  Calls prog 138 #[ptr sb,ptr p] w fun e w'=>YA w sb tb sv (l++[n.page]) e w':=by
 have c1:=h.c1;rw[hn] at c1;have c:w.cell? ⟨p,1,aK⟩=av (cx (av ⟨n.rg,n.ro,aK⟩) 0 n.cap):=c1;have H:=aa (jO w sb tb p sv l n hs a h hl);clear h hs a c1;go_enter func138,ntmps138;unfold ptr at H |-;go_wp2_with fail;refine H.o.mono ?_;intro e W b;have d:=aa b;obtain⟨rfl,-⟩:=b;clear H;go_wp2_with fail
 go_ret2
 exact⟨rfl,d.o⟩
theorem N0 (h:Nd w p n) (hn:n.its≠[]) (b:n.level=0\/n.its.length≠1) (f:cJ n.its<=510):
  Calls prog 138 #[ptr sb,ptr p] w fun e w'=>e=c8 (ec #[ptr p,bf ct 0])/\Below w.heap.size w w':=by
 have c0:=h.c0;have c1:=h.c1;have j:(n.its.length:Int)<=400:=by have:=h.small.len;omega
 have H:=aa (jL h);rw[decide_eq_true f] at H;obtain⟨L,d⟩:=ξx n.its.length;rw[<-d] at c1 j b;have R:((L:Int)==0)=false:=zaZ
 clear h hn d;by_cases g:n.level=0
 ·have U:decide ((n.level:Int)>0)=false:=decide_eq_false κ;have V:¬(n.level:Int)>0:=by omega
  clear b;go_enter func138,ntmps138;unfold ptr at H |-;go_wp2_with fail;refine H.o.mono ?_;rintro e W ⟨rfl,a⟩;have c:=aa a;clear a H;go_wp2_with fail
  go_ret2
  exact⟨rfl,c.o⟩
 ·have U:decide ((n.level:Int)>0)=true:=decide_eq_true κ;have V:(n.level:Int)>0:=by omega
  have N:((L:Int)==1)=false:=by rw[beq_eq_false_iff_ne];rcases b with e|e<;>omega
  clear b;go_enter func138,ntmps138;unfold ptr at H |-;go_wp2_with fail;refine H.o.mono ?_;rintro e W ⟨rfl,a⟩;have c:=aa a;clear a H;go_wp2_with fail
  go_ret2
  exact⟨rfl,c.o⟩
theorem N1 {Q:Value->Int->Ψ} (hs:aW w sb 226 [ptr tb,sv]) (c:p8 0 w sv l) (h:Nd w p n) (hl:l.length<=1000000) (g:n.level≠0) (hn:n.its.length=1)
  (d:∀w1,lI w sb tb sv (l++[n.page]) (c8 (ec #[])) w1->Calls prog 131 #[ptr tb,ptr p,bf ct (0:Nat)] w1 fun e w'=>∃(v:Value) (x:Int),e=c8 (ec #[v,bf ct x])/\Q v x w'):
  Calls prog 138 #[ptr sb,ptr p] w fun e w'=>∃(v:Value) (x:Int),e=c8 (ec #[v,bf ct x])/\Q v x w':=by
 have c0:=h.c0;have c1:=h.c1;rw[hn] at c1;have U:decide ((n.level:Int)>0)=true:=decide_eq_true κ;have V:(n.level:Int)>0:=κ
 have H:=aa (jO w sb tb p sv l n hs c h hl);have a:=aa d;clear h hs c hl d hn g;go_enter func138,ntmps138;unfold ptr at H a |-;go_wp2_with fail;refine H.o.mono ?_;intro e W b;obtain⟨rfl,fI,k,h3⟩:=id b;have i:=aa (a.o W b);have s0:=k.cell (j:=0) rfl;unfold ptr at s0;clear H a b k h3;go_wp2_with fail;refine i.o.mono ?_;rintro e w3 ⟨v,x,rfl,f⟩;have m:=aa f;clear f;go_wp2_with fail
 go_ret2
 exact⟨v,x,rfl,m.o⟩
end
section
variable {X:World} {M:Nat->Option NV} {p sb:Nat} {n:NV}
def rootOf (n:NV) (p q rg H:Nat):NV:=⟨n.level+1,[⟨[],pv 0,av p⟩,⟨between n H,pv 0,av q⟩],rg,0,2,-1,[],[],0,0,true,true⟩
def RM (X:World) (M:Nat->Option NV) (p:Nat) (n:NV) (H:Nat) (e:Ending) (X':World):Prop:=
 ∃r q rg,e=c8 (ec #[ptr r,bf ct 0])/\Mem X' (upd (upd (upd M p (iz n H)) q (ku n H)) r (rootOf n p q rg H))/\X.heap.size<=q/\X.heap.size<=r/\X.heap.size<=rg/\aE (fun k=>k=p\/k=n.rg) X X'/\q<r
theorem Gw {q H:Nat} {w:World} (h:Mem w (upd (upd M p (iz n H)) q (ku n H))) (a:aE (fun k=>k=p\/k=n.rg) X w) (f:X.heap.size<=q) (P:(between n H).length<=200):
  RM X M p n H (c8 (ec #[ptr (w.heap.size+1),bf ct 0])) ((w.alloc (dg #[cu ⟨#[]⟩,cu (bs (pv 0)),ptr p,cu (bs (between n H)),cu (bs (pv 0)),ptr q] 175)).alloc (dg #[bf ct ((n.level:Int)+1),cx (av ⟨w.heap.size,0,aK⟩) 2 2,bf ct (-1),cu ⟨#[]⟩,cu ⟨#[]⟩,bf ct 0,bf ct 0,ey true] 170)):=by
 have g:=wK w [⟨[],pv 0,av p⟩,⟨between n H,pv 0,av q⟩] [cu ⟨#[]⟩,cu (bs (pv 0)),ptr p,cu (bs (between n H)),cu (bs (pv 0)),ptr q] rfl (show 2<=400 by decide) (L:=2) rfl;obtain⟨W,x⟩:=ξx (w.alloc (dg #[cu ⟨#[]⟩,cu (bs (pv 0)),ptr p,cu (bs (between n H)),cu (bs (pv 0)),ptr q] 175));have l:W.heap.size=w.heap.size+1:=by rw[x,aY]
 have b:bk w.heap.size W (cx (av ⟨w.heap.size,0,aK⟩) 2 2) [⟨[],pv 0,av p⟩,⟨between n H,pv 0,av q⟩]:=by rw[x];exact g
 have m:Below w.heap.size w W:=by rw[x];exact (Below.refl _ w).alloc (af _) _
 rw[<-x,<-l];have j:=b.alloc (dg #[bf ct ((n.level:Int)+1),cx (av ⟨w.heap.size,0,aK⟩) 2 2,bf ct (-1),cu ⟨#[]⟩,cu ⟨#[]⟩,bf ct 0,bf ct 0,ey true] 170);have J:=m.alloc (show w.heap.size<=W.heap.size by omega) (dg #[bf ct ((n.level:Int)+1),cx (av ⟨w.heap.size,0,aK⟩) 2 2,bf ct (-1),cu ⟨#[]⟩,cu ⟨#[]⟩,bf ct 0,bf ct 0,ey true] 170);have c:=aW.new W #[bf ct ((n.level:Int)+1),cx (av ⟨w.heap.size,0,aK⟩) 2 2,bf ct (-1),cu ⟨#[]⟩,cu ⟨#[]⟩,bf ct 0,bf ct 0,ey true] 170;have d:(pv 0).length<=200:=ξ
 refine⟨_,q,w.heap.size,rfl,h.add J κ (af _) ⟨?_,Own.lies j,⟨show 2<=400 by decide, ?_,show 2<=2/\2<=maxLen from⟨af _,zat⟩⟩⟩ ⟨rfl,Own.mono j (aA _)⟩,f, ?_,a.size,a.trans (aE.aF J (fun _=>False)) (fun _ _ h=>h.elim),by have:=(h.lt (p:=q) (n:=ku n H) (bF _ _ _)).1;omega⟩;·exact c
 ·intro i hi;have:i=⟨[],pv 0,av p⟩\/i=⟨between n H,pv 0,av q⟩:=by
   rcases aM.1 hi with e|hi;·exact cS e
   ·grind
  rcases this with rfl|rfl;·grind
  ·exact⟨P,d⟩
 ·have:=a.size;omega
theorem zad {G:Prop} (h:G:=by
 clear z;go_enter func138,ntmps138;unfold ptr at j |-;go_wp2_with fail;refine j.o.mono ?_;rintro e F ⟨rfl,A⟩;have l:=aa (sZ (a.o.1.still A) a.o.2.1 H a.o.2.2.1 a.o.2.2.2.1 a.o.2.2.2.2.1);have D:=(d.still A).c0;have s:=aa (show Below X.heap.size X F from A);clear A j c0 c1;unfold ptr at l;go_wp2_with fail;refine l.o.mono ?_;rintro e w3 ⟨q,rfl,K,t,B⟩;have g:=aa (show Mem w3 (upd (upd M p (iz n H)) q (ku n H))/\X.heap.size<=q/\aE (fun k=>k=p\/k=n.rg) X w3 from⟨K,aN s.o.size t,(aE.aF s.o _).trans B fun _ _ h=>h⟩);have Y:=aa (lJ w3 ⟨#[]⟩ p);have Q:=aa (fun W=>lJ W (bs (between n H)) q);clear l K t B D;unfold ptr at Y Q |-;go_wp2_with fail;refine Y.o.mono ?_;rintro e G ⟨rfl,f⟩;have u:=aa f;clear f Y;go_wp2_with fail;refine (Q.o G).mono ?_;rintro e w ⟨rfl,v⟩;have J:Below w3.heap.size w3 w:=u.o.trans (v.mono u.o.size);have i:=aa (show Mem w (upd (upd M p (iz n H)) q (ku n H))/\aE (fun k=>k=p\/k=n.rg) X w from⟨g.o.1.still J,g.o.2.2.trans (aE.aF J (fun _=>False)) fun _ _ h=>h.elim⟩);have c:p≠q:=by have:=(a.o.1.lt a.o.2.1).1;have:=g.o.2.1;omega
 have D:w.cell? ⟨p,0,aK⟩=av (bf ct n.level):=(i.o.1.nd p (iz n H) ((aX c).trans (bF _ _ _))).c0;have Z:p<w.heap.size:=(i.o.1.nd p (iz n H) ((aX c).trans (bF _ _ _))).blk.lt;have x:=aa (Gw i.o.1 i.o.2 g.o.2.1 a.o.2.2.2.2.2);unfold ptr at x;clear v J Q c;go_wp2_with fail
 go_ret2
 exact x.o):G:=h
theorem J3 (h:Mem X M) (hp:M p=av n) (H:Nat) (C:H=fT (cJ n.its) 0 n.its) (I:0<H) (N:n.level=0->Tr.lt ((n.its.map It.key).getD (H-1) []) ((n.its.map It.key).getD H [])=true) (y:¬cJ n.its<=510) (R:n.level<15) (P:(between n H).length<=200):
  Calls prog 138 #[ptr sb,ptr p] X fun e X'=>RM X M p n H e X':=by
 have m:n.its≠[]:=by rintro e;rw[e] at y;exact y ξ
 have r:H<n.its.length:=by rw[C];exact rB _ _ _ m
 have d:=h.nd p n hp;have c0:=d.c0;have c1:=d.c1;have S:(n.its.length:Int)<=400:=by have:=d.small.len;omega
 have j:=aa (jL d);rw[decide_eq_false y] at j;obtain⟨L,O⟩:=ξx n.its.length;rw[<-O] at c1 S r;have Ry:((L:Int)==0)=false:=θ
 have NI:((L:Int)==1)=false:=θ
 have T:((n.level:Int)==15)=false:=θ
 have FA:(n.level:Int)<=15:=κ
 have a:=aa (And.intro h (And.intro hp (And.intro C (And.intro I (And.intro N P)))));obtain⟨b,z⟩:=ξx (decide ((n.level:Int)>0));clear h hp C I N y m r O P;have E:b=true\/b=false:=by cases b<;>simp
 rcases E with rfl|rfl
 ·have U:decide ((n.level:Int)>0)=true:=z.symm;have V:(n.level:Int)>0:=of_decide_eq_true U;exact zad
 ·have U:decide ((n.level:Int)>0)=false:=z.symm;have V:¬(n.level:Int)>0:=of_decide_eq_false U;exact zad
end
section
variable {pg cy:Ξ} {M M':Nat->Option NV}
theorem rD {k:Nat} {x:Nat} {p:Tr.Tx×Tr.E k} {l:List (Tr.Tx×Tr.E k)} (hp:p∈l) (h:x∈Tr.cF k p.2):x∈Tr.ed k l:=List.mem_flatMap.2 ⟨p,hp,h⟩
theorem gw:∀{k:Nat} {t:Tr.E k},cZ pg k t->(∀x∈Tr.cF k t,cy.getD x aK=pg.getD x aK)->cZ cy k t
 |0,_,_,_=>trivial
 |k+1,t,h,hs=>by
  obtain⟨⟨page,hp,H,B⟩,hf,b⟩:=h;refine⟨⟨page,hp,H, ?_⟩,hf,fun p a=>gw (b p a) fun x c=>hs x ?_⟩;·rw[hs page (by rw[Tr.bE,hp];exact au)];exact B
  ·rw[Tr.bE];exact ah.2 (dc (rD a c))
theorem Ao {k:Nat} {n:NV} {t:Tr.E (k+1)} (o:lV pg k n t) (hs:∀x∈Tr.cF (k+1) t,cy.getD x aK=pg.getD x aK):lV cy k n t:=by refine⟨o.level,o.page,o.fresh,o.near,fun hf=> ?_⟩;obtain⟨page,hp,h,B,hr⟩:=o.held hf;exact⟨page,hp,h,by rw[hs page (by rw[Tr.bE,hp];exact au)];exact B,hr⟩
theorem Ap {k:Nat} {R R':Nat->Tr.E (k+1)->Δ->Prop}:∀{is:List It} {xs:List (Tr.Tx×Tr.E (k+1))} {fs:List (Δ)},bz pg k R is xs fs->(∀x∈Tr.ed (k+1) xs,cy.getD x aK=pg.getD x aK)->(∀q c f,f∈fs->R q c f->(∀x∈Tr.cF (k+1) c,cy.getD x aK=pg.getD x aK)->R' q c f)->bz cy k R' is xs fs
 |[],[],[],_,_,_=>trivial
 |i::is,x::xs,f::fs,h,hs,hR=>by
  rw[Tr.gR] at hs;refine⟨⟨h.1.1,h.1.2.1, ?_⟩,Ap h.2 (fun y hy=>hs y (ah.2 (dc hy))) fun q c g hg=>hR q c g (aH _ hg)⟩;rcases h.1.2.2 with⟨H,a,h3,h4⟩|⟨q,b,hr⟩;·grind [gw]
  ·grind
 |[],[],_::_,h,_,_=>h.elim
 |[],_::_,_,h,_,_=>h.elim
 |_::_,[],_,h,_,_=>h.elim
 |_::_,_::_,[],h,_,_=>h.elim
theorem Cw:∀{k p:Nat} {t:Tr.E (k+1)} {F:Δ},dQ M pg k p t F->(∀q∈F,M' q=M q)->(∀x∈Tr.cF (k+1) t,cy.getD x aK=pg.getD x aK)->dQ M' cy k p t F
 |0,p,t,F,⟨n,h1,h2,h3,h4⟩,hF,hs=>⟨n,by rw[hF p zbl];exact h1,Ao h2 hs,h3,h4⟩
 |k+1,p,t,F,⟨n,fs,h1,h2,h3,h4⟩,hF,hs=>⟨n,fs,by rw[hF p zbl];exact h1,Ao h2 hs,Ap h3 (fun x h=>hs x (by rw[Tr.bE];exact ah.2 (dc h))) (fun _ _ f hf hr h=>Cw hr (fun q H=>hF q (by rw[h4];exact aH _ (List.mem_flatten.2 ⟨f,hf,H⟩))) h),h4⟩
structure jB (pg cy:Ξ) (RO al:Δ):Prop where
 len:cy.length=pg.length
 same:∀x,x∉RO->cy.getD x aK=pg.getD x aK
 lZ:∀x,x∈RO\/x∈al->(cy.getD x aK).isSome=true
 free:∀x∈al,pg.getD x aK=aK/\x<pg.length
 nd:al.Nodup
 used:Rm.used cy=Rm.used pg+al.length
theorem jB.refl (pg:Ξ):jB pg pg [] []:=⟨rfl,fun _ _=>rfl,fun _ h=>(by rcases h with h|h<;>cases h),fun _ h=>χ,List.nodup_nil,rfl⟩
theorem jB.trans {p:Ξ} {t T A c:Δ} (a:jB pg cy t A) (b:jB cy p T c):jB pg p (t++T) (A++c):=by
 have hn:∀x∈c,x∉t/\x∉A:=fun x H=>by
  have h:=(b.free x H).1;refine⟨fun d=> ?_,fun d=> ?_⟩;·have:=a.lZ x (cS d);rw[h] at this;cases this
  ·have:=a.lZ x (dc d);rw[h] at this;cases this
 have hs:∀x,(cy.getD x aK).isSome=true->(p.getD x aK).isSome=true:=fun x H=>by
  by_cases e:x∈T;·exact b.lZ x (cS e)
  ·rw[b.same x e];exact H
 refine⟨b.len.trans a.len,fun x H=> ?_,fun x H=> ?_,fun x H=> ?_,aP.2 ⟨a.nd,b.nd,fun x H y hy e=> ?_⟩, ?_⟩;·rw[b.same x fun h=>H (ah.2 (dc h)),a.same x fun h=>H (ah.2 (cS h))]
 ·rcases H with H|H
  ·rcases ah.1 H with H|H;·exact hs x (a.lZ x (cS H))
   ·exact b.lZ x (cS H)
  ·rcases ah.1 H with H|H;·exact hs x (a.lZ x (dc H))
   ·exact b.lZ x (dc H)
 ·rcases ah.1 H with H|H;·exact a.free x H
  ·have:=b.free x H;rw[a.same x (hn x H).1,a.len] at this;exact this
 ·grind
 ·rw[b.used,a.used,aq];omega
theorem jB.keeps {RO al:Δ} (h:jB pg cy RO al) {x:Nat} (H:(pg.getD x aK).isSome=true):(cy.getD x aK).isSome=true:=by
 by_cases e:x∈RO;·exact h.lZ x (cS e)
 ·rw[h.same x e];exact H
theorem m7:∀{pg:Ξ} {p:Nat} {o:Option Wl.Text},p<pg.length->Rm.used (pg.set p o)+(if (pg.getD p aK).isSome then 1 else 0)=Rm.used pg+(if o.isSome then 1 else 0)
 |[],_,_,h=>χ
 |a::pg,0,o,_=>by
  show Rm.used (o::pg)+(if a.isSome then 1 else 0)=_;unfold Rm.used;cases a<;>cases o<;>simp
 |a::pg,p+1,o,h=>by
  have i:=m7 (pg:=pg) (p:=p) (o:=o) zax;show Rm.used (a::pg.set p o)+(if (pg.getD p aK).isSome then 1 else 0)=_;unfold Rm.used at i |-;cases a<;>simp only[c9,Option.isSome] at i |-<;>simp at i |-<;>omega
theorem qA {pg:Ξ} {p x:Nat} {o:Option Wl.Text} (hp:p<pg.length):(pg.set p o).getD x aK=if x=p then o else pg.getD x none:=Rm.dQ.dL pg p x o aK hp
theorem jB.one {p:Nat} {t:Wl.Text} (hp:p<pg.length):jB pg (pg.set p (av t)) [p] (if (pg.getD p aK).isSome then [] else [p]):=by
 have hu:=m7 (pg:=pg) (p:=p) (o:=av t) hp;refine⟨bV,fun x h=> ?_,fun x h=> ?_,fun x h=> ?_, ?_, ?_⟩;·grind
 ·grind
 ·simp_all
 ·grind
 ·grind
end
section
variable {w:World} {sb tb:Nat} {l:List Int} {x:Int}
def Vf (w:World) (sb tb g:Nat) (x:Int) (l:List Int) (e:Ending) (w':World):Prop:=
 e=c8 (ec #[bf ct x,bf ct 0])/\∃o c,aW w' sb 226 [ptr tb,cx (av ⟨g,o,aK⟩) l.length c]/\l.length<=c/\bg (eo ct) w' g o l/\aE (fun k=>k=sb) w w'
theorem J5 {g o c:Nat} (hs:aW w sb 226 [ptr tb,cx (av ⟨g,o,aK⟩) (x::l).length c]) (hc:(x::l).length<=c) (hl:bg (eo ct) w g o (x::l)) (hg:g≠sb) (m:l.length<=1000000):
  Calls prog 244 #[ptr sb] w fun e w'=>Vf w sb tb g x l e w':=by
 have c1:=hs.cell (j:=1) rfl;have f1:=hs.frozen 1;have I:w.cell? ⟨g,o,aK⟩=av (bf ct x):=hl 0 _ rfl;have b:bg (eo ct) w g (o+1) l:=by have:=hl.part 1 l.length (by simp only[a_];omega);rw[Nat.one_mul,List.drop_one,p4,List.take_length] at this;exact this
 obtain⟨L,H⟩:=ξx l.length;have d:=aa (And.intro hs (And.intro b (And.intro hg H)));rw[a_,<-H] at c1 hc;have h:(1:Int)<=(L:Int)+1:=κ
 have n:(0:Int)<(L:Int)+1:=κ
 have p:(((L:Int)+1)==0)=false:=θ
 have z:(L:Int)<=1000000:=κ
 clear hs hl b hg H m;go_enter func244,ntmps244;unfold ptr;by_cases a:c=1
 ·subst a;go_wp2_with fail
  go_ret2
  obtain⟨h,f,h3,h4⟩:=d.o;obtain rfl:l=[]:=List.eq_nil_of_length_eq_zero κ;exact⟨rfl,o,0,h.set 1 _,af _,fun j u hu=>by simp[Elem.cells] at hu,(aE.refl (fun k=>k=sb) w).setCell _ _ fun _=>rfl⟩
 ·go_wp2_with fail
  go_ret2
  obtain⟨h,f,h3,h4⟩:=d.o;have i:aE (fun k=>k=sb) w (w.setCell ⟨sb,1,aK⟩ (cx (av ⟨g,o+1,aK⟩) L (c-1))):=(aE.refl (fun k=>k=sb) w).setCell _ _ fun _=>rfl;exact⟨rfl,o+1,c-1,by rw[<-h4];exact h.set 1 _,κ,f.but i h3,i⟩
end
section
variable {E:Ev} {X0 X:World} {R0 R:Φ} {ps:Γ} {pg:Ξ} {rt:Δ} {M:Nat->Option NV}
def RP (E:Ev) (R:Φ) (ps:Γ) (pg:Ξ) (rt:Δ) (X:World) (e:Ending) (X':World):Prop:=
 e=c8 (ec #[bf ct (Rm.alloc pg).1,bf ct (Rm.alloc pg).2])/\DT R E.ring E.g E.N E.lb E.xb E.rb E.H ps (Rm.jV pg) rt X X'
theorem J6 (h:TS E X0 R0 R ps pg rt M X) {sb c:Nat} {a:Option Addr} (hs:aW X sb 226 [ptr E.tb,cx a 0 c]) (H:ps.length<=80000000):
  Calls prog 244 #[ptr sb] X fun e X'=>RP E R ps pg rt X e X':=by
 have c0:=hs.cell (j:=0) rfl;have c1:=hs.cell (j:=1) rfl;have t:=h.tree.cell (j:=0) rfl;have b:=aa (zV h.rm H);clear h hs;go_enter func244,ntmps244;unfold ptr at c0 t |-;go_wp2_with fail;refine b.o.mono ?_;rintro e w ⟨rfl,hd⟩;have d:=aa hd;clear hd;go_wp2_with fail
 go_ret2
 exact⟨rfl,d.o⟩
end
structure Way (sb tb rb pr L mk:Nat) (q:Nat->Nat) (P:Nat->Ψ) (N:Value->Ψ) (G:Int->Ψ):Prop where
 cells:∀i X,P i X->∀j,j<=i->X.cell? ⟨pr,j,aK⟩=av (dr (av ⟨q j,0,aK⟩))
 drew:∀i X,P i X->P i X.drew
 step:∀i X,P (i+1) X->Calls prog 137 #[ptr sb,ptr (q i),ptr (q (i+1))] X fun e X'=>e=c8 (bf ct 0)/\P i X'
 top:∀X,P 0 X->Calls prog 138 #[ptr sb,ptr (q 0)] X fun e X'=>∃v,e=c8 (ec #[v,bf ct 0])/\N v X'
 mark:∀v X,N v X->X.cell? ⟨tb,0,aK⟩=av (dr (av ⟨rb,0,aK⟩))/\Calls prog 81 #[ptr rb] X fun e X'=>e=c8 (bf ct mk)/\X'=X
 store:∀v X,N v X->Calls prog 139 #[ptr sb,v] X fun e X'=>(e=c8 (bf ct 0)/\G 0 X')\/(e=c8 (bf ct 4)/\X'.cell? ⟨tb,0,aK⟩=av (dr (av ⟨rb,0,aK⟩))/\Calls prog 92 #[ptr rb,bf ct mk] X' fun e iG=>e=c8 (ec #[])/\G 4 iG)
section
variable {w:World}
theorem Gx {tb rb pr L cap mk:Nat} {q:Nat->Nat} {P:Nat->Ψ} {N:Value->Ψ} {G:Int->Ψ} (p:Way w.heap.size tb rb pr (L+1) mk q P N G) (z:L<=100) (J:w.cell? ⟨pr,L,aK⟩=av (dr (av ⟨q L,0,aK⟩))) (B:∃v,w.cell? ⟨q L,7,aK⟩=av v) (hf:w.frozen? ⟨q L,7,aK⟩=false)
  (a:∀W,W=(w.setCell ⟨q L,7,aK⟩ (ey true)).alloc (dg #[dr (av ⟨tb,0,aK⟩),cx aK 0 0] 226)->P L W):
  Calls prog 90 #[ptr tb,cx (av ⟨pr,0,aK⟩) (L+1) cap] w fun e w'=>∃c,e=c8 (bf ct c)/\G c w':=by
 have b:=aa p;have C:=aa a;obtain⟨V,c7⟩:=B;have Z:(L:Int)<=100:=κ
 have T:IntKind.i64.wrap ((L:Int)+1-1)=L:=zaA
 have U:(L:Int)+1-1=L:=κ
 have X:=bA w ⟨pr,L,aK⟩ J;have Y:=bA w ⟨q L,7,aK⟩ c7;clear p a z;unfold ptr at b |-;go_enter func90,ntmps90;go_wp2_with fail;obtain⟨j,n⟩:=ξx ((w.setCell ⟨q L,7,aK⟩ (ey true)).alloc (dg #[dr (av ⟨tb,0,aK⟩),cx aK 0 0] 226));have k:=aa (C.o j n);rw[<-n];clear n J c7 hf
 go_loopw [6,7] (fun kv _ wr=>∃i:Nat,i<=L/\kv=bf ct i/\Hid (P i wr)) (fun kv _ _=>(RowKit.intOf kv).toNat)
 case atStart=>exact⟨L,af _,rfl,k⟩
 case round=>
  obtain⟨i,hi,rfl,a⟩:=hrel;cases i with
  |zero=>
   have r:¬((0:Nat):Int)>0:=ξ;have A:=b.o.cells 0 _ a.o 0 (af _);have D:=aa (b.o.top _ a.o);have Ry:(0:Int)<L+1:=κ;go_wp2_with fail;refine D.o.mono ?_;rintro e w2 ⟨v,rfl,l⟩;obtain⟨t,s⟩:=b.o.mark _ _ l;have E:=aa s;have F:=aa (b.o.store _ _ l);clear s l A;go_wp2_with fail;refine E.o.mono ?_;rintro e w3 ⟨rfl,rfl⟩;go_wp2_with fail;refine F.o.mono ?_;rintro e w4 (⟨rfl,d⟩|⟨rfl,t4,u⟩);·have m:=aa d;clear d t;go_wp2_with fail;go_ret;exact⟨0,rfl,m.o⟩
   ·have I:=aa u;clear u t;go_wp2_with fail;refine I.o.mono ?_;rintro e w5 ⟨rfl,d⟩;have m:=aa d;clear d;go_wp2_with fail;go_ret;exact⟨4,rfl,m.o⟩
  |succ i=>
   have r:((i+1:Nat):Int)>0:=κ;have A:=b.o.cells (i+1) _ a.o i κ;have M:=b.o.cells (i+1) _ a.o (i+1) (af _);have f:=b.o.drew _ _ a.o;have x:=aa (b.o.step _ _ f);have O:(i:Int)<L+1:=κ;have Q:(i:Int)+1<L+1:=κ;have y:((i+1:Nat):Int)-1=i:=κ;have wi:IntKind.i64.wrap (i:Int)=i:=zaA;have R:(0:Int)<=i:=κ;have S:(0:Int)<=(i:Int)+1:=κ;clear f;go_wp2_with fail;go_wp2_with (refine wp_region_any η ?_;refine Hid.o ?_);refine aa ?_;try (change wpAny _ _ _ _ _ _ _ (bu _))
   refine tk 0 ?_;refine tk 1 ?_;refine tk 2 ?_;refine tk 3 ?_;refine tk 4 ?_;refine tk 6 ?_;refine tk 7 ?_;refine tk 8 ?_;try simp only[Act.put,aC,aB,ay]
   refine rd [5,9] (AllReady.cons rfl (fun K h=> ?_) (rn fun K h=> ?_))
   focus
    go_simp
    refine h _ _ ?_;clear h K
    refine rd [9] (rn fun K h=> ?_)
    go_simp
    refine h _ _ ?_;clear h K
    refine rd [10] (rn fun K h=> ?_)
    go_simp
    refine x.o.mono ?_
    rintro e w3 ⟨rfl,H⟩
    have g:=aa H
    clear H
    refine h _ _ ?_;clear h K
   rotate_left
   focus
    go_simp
    refine h _ _ ?_;clear h K
    refine rd [5] (rn fun K h=> ?_)
    go_simp
    refine h _ _ ?_;clear h K
    refine rd [10] (rn fun K h=> ?_)
    go_simp
    refine x.o.mono ?_
    rintro e w3 ⟨rfl,H⟩
    have g:=aa H
    clear H
    refine h _ _ ?_;clear h K
   all_goals
    refine tk 11 ?_
    refine wpAny_done η ?_ _
    clear A M a r
    go_wp2_with fail
    go_roundw
    case rel=>exact⟨i,Nat.le_of_succ_le hi,ς,g⟩
    case measure=>simp[RowKit.intOf]
end
end
end Go.Proofs.YtgfdijemhanfkaaGreatDoor
