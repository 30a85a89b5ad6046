/- Elder texts, cut down and merged (9). -/
import Derived.Test.YtlpfhjbpknbndaaGreatDoorP7
import Derived.Test.YtlpfhjbpknbndaaGreatDoorP8
import Derived.Test.YtlpfhjbpknbndaaGreatDoorP1
import Derived.Test.YtlpfhjbpknbndaaGreatDoorP4
import Derived.Test.YtlpfhjbpknbndaaGreatDoorPTk
set_option maxRecDepth 100000
set_option maxHeartbeats 8000000
namespace Go.Proofs.YtlpfhjbpknbndaaGreatDoor
open Option renaming none→av,some→aD
open Value renaming int→bf,tuple→gu,pointer→e7,string→bR,slice→cx,bool→eX,agg→iK
open IntKind renaming i64→cu
open Ending renaming returned→eb
open Or renaming inl→dc,inr→dn
open Obj renaming cells→ey
open List renaming getD_eq_getElem?_getD->bZ,getElem?_eq_getElem->aK,getElem_mem->bI,setIfInBounds_toArray->aA,set_cons_succ->az,set_cons_zero->ay,append_assoc->aF,append_nil->bA,perm_append_comm->m7,mem_singleton->cQ,mem_cons->aX,mem_cons_self->aE,mem_cons_of_mem->aI,mem_append->aj,exists_cons_of_ne_nil->sS,nil_append->dI,length_cons->a_,map_cons->bM,length_map->aT,pairwise_cons->cF,flatten_cons->dA,length_append->au
open Nat renaming add_assoc->gH,le_trans->aH,zero_le->aB,le_refl->ah,zero_add->bE,succ_ne_zero->dy
open World renaming drew->bJ
section
open Go.RowKit Lib
section
variable {E:Ev} {X0 X X':World} {R0 R R' S:Nat->Prop} {ps ps':List (Nat×List UInt8)} {pg dh:List (Option Wl.Text)} {rt rt':List Nat} {M M':Nat->Option NV} {p q:Nat} {n m:NV}
structure O9 (pg:List (Option Wl.Text)) (page level:Nat) (its:List It) (lo hi:List UInt8):Prop where
 page:pg.getD page av=aD (Dk.full (cJ level its))
 sound:∀rg cap,Sound (NV.read level its rg cap)
 len:its.length<=255
 none:∀i∈its,i.node=av
 size:cz its<=510
 within:∀i∈(if level=0 then its else its.tail),hasB lo hi i.key=true
theorem oD (h:TS E X0 R0 R ps pg rt M X) (hp:M p=aD n) (j:Nat) (i:j<n.its.length) (page:Nat) (P:page<65536) (q:n.its[j].val=pv page) (level:Nat) (l:n.level=level+1) (its:List It) (hh:O9 pg page level its (eW n j) (eu n j)):
  Calls Tryz.prog 123 #[ptr E.tb,ptr p,bf cu j] X fun e X'=>rD E X0 R0 R ps pg rt M X (fun rg cap=>NV.got level its rg cap page (eW n j) (eu n j)) e X':=by
 have H:=h.mem.nd p n hp;have c1:=H.c1;have dV:=H.blk.lt;have hl:=H.small.len;have J:(n.its.length:Int)<=400:=by omega
 have I:(j:Int)<n.its.length:=by omega
 obtain⟨s1,s2,S⟩:=bh H.row j i;rw[q] at s2;have w:=aa h;have f:=aa (And.intro H (And.intro i hp));have a:=aa hh;have x:=aa (And.intro l P);obtain⟨L,s⟩:∃L,L=n.its.length:=⟨_,rfl⟩;rw[<-s] at c1 J I;have m:=aa (Ej X page P);generalize y:bs (pv page)=z at*;clear h H hh q hl P s;go_enter Tryz.func123,Tryz.ntmps123;unfold ptr;go_wp2_with fail;refine m.o.mono ?_;rintro e X1 ⟨rfl,B⟩;have g:=aa (show TS E X0 R0 R ps pg rt M X1/\Below X.heap.size X X1 from⟨w.o.still B (fun _ h=>h) (fun _ h=>dc h),B⟩);clear B;go_wp2_with fail;refine (BU (g.o.1.mem.nd p n f.o.2.2) j f.o.2.1).mono ?_;rintro e X2 ⟨rfl,A⟩;have b:=aa (show TS E X0 R0 R ps pg rt M X2/\Below X.heap.size X X2 from⟨g.o.1.still A (fun _ h=>h) (fun _ h=>dc h),g.o.2.trans (A.mono g.o.2.size)⟩);clear A;go_wp2_with fail;refine (yY b.o.1 page level its (eW n j) (eu n j) a.o.page a.o.sound a.o.len a.o.none a.o.size a.o.within).mono ?_;rintro e X3 ⟨c,rg,cap,R3,rfl,h3,t,N,D,d,V⟩;unfold ptr;have K:p≠c:=fun e=>by have:=(b.o.1.mem.lt f.o.2.2).1;omega
 have F:=aa (show rD E X0 R0 R ps pg rt M X (fun rg cap=>NV.got level its rg cap page (eW n j) (eu n j)) (eb (gu #[ptr c,bf cu 0])) X3 from⟨c,rg,cap,R3,rfl,h3,b.o.2.trans (t.mono b.o.2.size),by have:=b.o.2.size;omega,by have:=b.o.2.size;omega,d,fun k G=>(V k G).imp_right fun h=>by have:=b.o.2.size;omega⟩);have O:=(h3.mem.nd c _ (bG _ _ _)).c0;have d1:=(h3.mem.nd p n ((aW K).trans f.o.2.2)).c0;have v:((NV.got level its rg cap page (eW n j) (eu n j)).level:Int)=level:=rfl;have Z:(n.level:Int)-1=level:=by have:=x.o.1;omega
 have Q:IntKind.i64.wrap ((n.level:Int)-1)=level:=by rw[Z];exact cX _ (by have:=(a.o.sound 0 0).level;have T:level<=15:=this;omega)
 rw[v] at O;clear h3 t N D d V s1 s2 S c1 v i;have U:IntKind.i64.wrap (level:Int)=level:=cX _ (by have:=(a.o.sound 0 0).level;have T:level<=15:=this;omega);go_wp2_with fail
 go_quiet (fail)
 have W:=aa (show rD E X0 R0 R ps pg rt M X (fun rg cap=>NV.got level its rg cap page (eW n j) (eu n j)) (eb (gu #[ptr c,bf cu 0])) (X3.drewN nq) from by
  obtain⟨Y,r,C,R',e,ht,u,h1,h2,h3,h4⟩:=F.o;exact⟨Y,r,C,R',e,ht.still (eN _ _) (fun _ h=>h) (fun _ h=>dc h),u.trans ((eN X3 nq).mono u.size),h1,h2,h3,h4⟩)
 go_wp2
 go_ret2
 exact W.o
theorem ud (h:TS E X0 R0 R ps pg rt M X) (hp:M p=aD n) (j:Nat) (b:j<n.its.length) (a:n.its[j].node=aD q):
  Calls Tryz.prog 79 #[ptr E.tb,ptr p,bf cu j] X fun e X'=>e=eb (gu #[ptr q,bf cu 0])/\X'=X:=by
 have H:=h.mem.nd p n hp;have c1:=H.c1;have hl:=H.small.len;have J:(n.its.length:Int)<=400:=by omega
 have I:(j:Int)<n.its.length:=by omega
 obtain⟨s1,s2,s⟩:=bh H.row j b;rw[a] at s;have S:X.cell? ⟨n.rg,n.ro+j*3+2,av⟩=aD (e7 (aD ⟨q,0,av⟩)):=s;clear h H a hl s hp;go_enter Tryz.func79,Tryz.ntmps79;unfold ptr;go_wp2
 go_ret2
 exact⟨rfl,rfl⟩
def GH (E:Ev) (X0:World) (R0 R:Nat->Prop) (ps:List (Nat×List UInt8)) (pg:List (Option Wl.Text)) (rt:List Nat) (M:Nat->Option NV) (X:World) (p j:Nat) (n:NV) (got:Nat->Nat->NV) (e:Ending) (X':World):Prop:=
 ∃c rg cap R',e=eb (gu #[ptr c,bf cu 0])/\TS E X0 R0 R' ps pg rt (upd (upd M c (got rg cap)) p {n with its:=n.its.set j {(n.its.getD j ⟨[],[],av⟩) with node:=aD c}}) X'/\X.heap.size<=c/\X.heap.size<=rg/\aG (fun k=>k=n.rg) X X'/\(∀k,R k->R' k)/\∀k,R' k->R k\/X.heap.size<=k
theorem IV (h:TS E X0 R0 R ps pg rt M X) (hp:M p=aD n) (j:Nat) (b:j<n.its.length) (got:Nat->Nat->NV) {c rg cap:Nat} {R1:Nat->Prop} {X1:World} (a:TS E X0 R0 R1 ps pg rt (upd M c (got rg cap)) X1) (l:Below X.heap.size X X1) (hc:X.heap.size<=c) (hr:X.heap.size<=rg) (o:∀k,R k->R1 k) (D:∀k,R1 k->R k\/X.heap.size<=k):
  GH E X0 R0 R ps pg rt M X p j n got (eb (gu #[ptr c,bf cu 0])) (X1.setCell ⟨n.rg,n.ro+(j*3+2),av⟩ (e7 (aD ⟨c,0,av⟩))):=by
 have s:=h.mem.lt hp;have d:p≠c:=by omega
 have H:upd M c (got rg cap) p=aD n:=(aW d).trans hp;have f:=h.mem.nd p n hp;have J:n.its.getD j ⟨[],[],av⟩=n.its[j]:=by rw[bZ,aK b];rfl
 refine⟨c,rg,cap,R1,rfl, ?_,hc,hr, ?_,o,D⟩
 ·rw[J];have r:=a.mem.item H j 2 b (by decide) {n.its[j] with node:=aD c} (e7 (aD ⟨c,0,av⟩)) rfl (by have:=f.small.each n.its[j] (bI b);exact this);refine a.own (S:=fun k=>k=n.rg) ((aG.refl (fun k=>k=n.rg) X1).setCell _ _ fun _=>rfl) (fun k _ e=>by rw[e];exact a.kM _ ⟨p,n,H,dn rfl⟩) r ?_ (fun _ h=>h) (fun _ h=>dc h);rintro k ⟨q,m,g,i⟩;rcases aN g with⟨rfl,rfl⟩|⟨_,g⟩;·exact a.kM k ⟨_,n,H,i⟩
  ·exact a.kM k ⟨q,m,g,i⟩
 ·exact ((aG.aJ l (fun k=>k=n.rg)).trans ((aG.refl (fun k=>k=n.rg) X1).setCell _ _ fun _=>rfl) (fun _ _ h=>h))
theorem sQ (h:TS E X0 R0 R ps pg rt M X) (hp:M p=aD n) (j:Nat) (i:j<n.its.length) (m:n.its[j].node=av) (page:Nat) (P:page<65536) (q:n.its[j].val=pv page) (level:Nat) (b:n.level=level+1) (its:List It) (hh:O9 pg page level its (eW n j) (eu n j)):
  Calls Tryz.prog 79 #[ptr E.tb,ptr p,bf cu j] X fun e X'=>GH E X0 R0 R ps pg rt M X p j n (fun rg cap=>NV.got level its rg cap page (eW n j) (eu n j)) e X':=by
 have H:=h.mem.nd p n hp;have c1:=H.c1;have hl:=H.small.len;have J:(n.its.length:Int)<=400:=by omega
 have I:(j:Int)<n.its.length:=by omega
 obtain⟨s1,s2,s⟩:=bh H.row j i;rw[m] at s;have S:X.cell? ⟨n.rg,n.ro+j*3+2,av⟩=aD (e7 av):=s;have r:=aa (oD h hp j i page P q level b its hh);have d:=aa (And.intro h hp);have t:=aa i;obtain⟨L,k⟩:∃L,L=n.its.length:=⟨_,rfl⟩;rw[<-k] at c1 J I;unfold ptr at r;have w:=aa k;clear h H m hl s1 s2 s hp q b hh P k;go_enter Tryz.func79,Tryz.ntmps79;unfold ptr;go_wp2_with fail;refine r.o.mono ?_;rintro e X1 ⟨c,rg,cap,R1,rfl,f,B,g,u,T,V⟩;unfold ptr;have l:p≠c:=by have:=d.o.1.mem.lt d.o.2;omega
 have a:=(aW (M:=M) (n:=NV.got level its rg cap page (eW n j) (eu n j)) l).trans d.o.2;have D:=(f.mem.nd p n a).c1;rw[<-w.o] at D;have x:=(bh (f.mem.nd p n a).row j t.o).2.2;have F:X1.frozen? ⟨n.rg,n.ro+j*3+2,av⟩=false:=by obtain⟨cur,N⟩:=f.mem.ty p n a;simp[World.frozen?,N]
 have v:=aa (IV d.o.1 d.o.2 j t.o (fun rg cap=>NV.got level its rg cap page (eW n j) (eu n j)) f B g u T V);rw[<-gH] at v;clear f B g u T V a S c1 i;go_wp2
 go_ret2
 exact v.o
end
section
variable {E:Ev} {X0 X:World} {R0 R:Nat->Prop} {ps:List (Nat×List UInt8)} {pg:List (Option Wl.Text)} {rt:List Nat} {M:Nat->Option NV}
theorem oF (h:TS E X0 R0 R ps pg rt M X) (b:E.place<16) (c:rt.getD E.place 0=0):
  Calls Tryz.prog 77 #[ptr E.tb] X fun e X'=>e=eb (gu #[e7 av,bf cu 0])/\Below X.heap.size X X':=by
 have t:=h.tree.cell (j:=0) rfl;have T:=h.tree.cell (j:=1) rfl;have f:=h.tree.lt;have a:=aa (fun W (g:Below X.heap.size X W)=>o_ (h.rm.still g) E.place b);rw[c] at a;clear h b c;go_enter Tryz.func77,Tryz.ntmps77;unfold ptr at t a |-;go_wp2_with fail;go_wp2_with (refine wp_region_any (by kernel_rfl) ?_;refine Hid.o ?_);refine aa ?_;try (change wpAny _ _ _ _ _ _ _ (bJ _))
 refine tk 0 ?_;refine tk 1 ?_;refine tk 2 ?_;refine tk 4 ?_;refine tk 5 ?_;refine tk 6 ?_;try simp only[Act.put,aA,az,ay]
 refine rd [3,7] (AllReady.cons rfl (fun K H=> ?_) (rn fun K H=> ?_))
 focus
  go_simp
  refine H _ _ ?_;clear H K
  refine rd [7] (rn fun K H=> ?_)
  go_simp
  refine H _ _ ?_;clear H K
  refine rd [8] (rn fun K H=> ?_)
  go_simp
  refine (a.o _ ((Below.refl _ X).drew)).mono ?_
  rintro e w ⟨rfl,A⟩
  have d:=aa (show Below X.heap.size X w from ((Below.refl _ X).drew).trans A)
  refine H _ _ ?_;clear H K A a
 rotate_left
 focus
  go_simp
  refine H _ _ ?_;clear H K
  refine rd [3] (rn fun K H=> ?_)
  go_simp
  refine H _ _ ?_;clear H K
  refine rd [8] (rn fun K H=> ?_)
  go_simp
  refine (a.o _ ((Below.refl _ X).drew)).mono ?_
  rintro e w ⟨rfl,A⟩
  have d:=aa (show Below X.heap.size X w from ((Below.refl _ X).drew).trans A)
  refine H _ _ ?_;clear H K A a
 all_goals
  try simp only[Act.put,aA,az,ay]
  refine tk 9 ?_
  refine tk 10 ?_
  refine tk 11 ?_
  refine tk 12 ?_
  refine tk 13 ?_
  refine wpAny_done (by kernel_rfl) ?_ _
  go_wp2_with fail
  go_ret2
  exact⟨rfl,d.o⟩
theorem GI (n:Nat) (h:n<=1000000):IntKind.u64.wrap (n:Int)=n:=by unfold IntKind.wrap;simp[IntKind.bits,IntKind.signed];omega
theorem rD.back {X w:World} {got:Nat->Nat->NV} {e:Ending} {X':World} (H:Below X.heap.size X w) (h:rD E X0 R0 R ps pg rt M w got e X'):rD E X0 R0 R ps pg rt M X got e X':=by obtain⟨p,rg,cap,R',a,b,h3,h4,c,d,f⟩:=h;exact⟨p,rg,cap,R',a,b,H.trans (h3.mono H.size),aH H.size h4,aH H.size c,d,fun k g=>(f k g).imp_right fun h=>aH H.size h⟩
theorem oG (h:TS E X0 R0 R ps pg rt M X) (k:E.place<16) (page level:Nat) (its:List It) (l:rt.getD E.place 0=page+1) (hd:O9 pg page level its [] []) (P:page<pg.length):
  Calls Tryz.prog 77 #[ptr E.tb] X fun e X'=>rD E X0 R0 R ps pg rt M X (fun rg cap=>NV.got level its rg cap page [] []) e X':=by
 have t:=h.tree.cell (j:=0) rfl;have T:=h.tree.cell (j:=1) rfl;have f:=h.tree.lt;have a:=aa (fun W (n:Below X.heap.size X W)=>o_ (h.rm.still n) E.place k);rw[l] at a;have O:=h.rm.rep.few;have B:(page:Int)<pg.length:=by omega
 have q:(pg.length:Int)<=1000000:=by omega
 have b:=aa hd;have h:=aa h;clear k l hd P O;go_enter Tryz.func77,Tryz.ntmps77;unfold ptr at t a |-;go_wp2_with fail;go_wp2_with (refine wp_region_any (by kernel_rfl) ?_;refine Hid.o ?_);refine aa ?_;try (change wpAny _ _ _ _ _ _ _ (bJ _))
 refine tk 0 ?_;refine tk 1 ?_;refine tk 2 ?_;refine tk 4 ?_;refine tk 5 ?_;refine tk 6 ?_;try simp only[Act.put,aA,az,ay]
 refine rd [3,7] (AllReady.cons rfl (fun K H=> ?_) (rn fun K H=> ?_))
 focus
  go_simp
  refine H _ _ ?_;clear H K
  refine rd [7] (rn fun K H=> ?_)
  go_simp
  refine H _ _ ?_;clear H K
  refine rd [8] (rn fun K H=> ?_)
  go_simp
  refine (a.o _ ((Below.refl _ X).drew)).mono ?_
  rintro e w ⟨rfl,A⟩
  have d:=aa (show Below X.heap.size X w from ((Below.refl _ X).drew).trans A)
  refine H _ _ ?_;clear H K A a
 rotate_left
 focus
  go_simp
  refine H _ _ ?_;clear H K
  refine rd [3] (rn fun K H=> ?_)
  go_simp
  refine H _ _ ?_;clear H K
  refine rd [8] (rn fun K H=> ?_)
  go_simp
  refine (a.o _ ((Below.refl _ X).drew)).mono ?_
  rintro e w ⟨rfl,A⟩
  have d:=aa (show Below X.heap.size X w from ((Below.refl _ X).drew).trans A)
  refine H _ _ ?_;clear H K A a
 all_goals
  try simp only[Act.put,aA,az,ay]
  refine tk 9 ?_
  refine tk 10 ?_
  refine tk 11 ?_
  refine tk 12 ?_
  refine tk 13 ?_
  refine wpAny_done (by kernel_rfl) ?_ _
  have m:=aa (h.o.still d.o (fun _ h=>h) (fun _ h=>dc h))
  have g:=aa (gh m.o.rm)
  have i:=aa (yY m.o page level its [] [] b.o.page b.o.sound b.o.len b.o.none b.o.size b.o.within)
  have x:=(d.o.cell (p:=⟨E.tb,0,av⟩) f).trans t
  unfold ptr at g i
  go_wp2_with fail
  refine g.o.mono ?_
  rintro e w3 ⟨rfl,rfl⟩
  have r:decide ((page:Int)+1>pg.length)=false:=decide_eq_false (by omega)
  have s:¬(page:Int)+1>pg.length:=by omega
  have u:IntKind.u64.wrap (pg.length:Int)=pg.length:=GI _ (by omega)
  have J:IntKind.u64.wrap ((page:Int)+1-1)=page:=by rw[Int.add_sub_cancel];exact GI _ (by omega)
  have y:IntKind.i64.wrap (page:Int)=page:=cX _ (by omega)
  clear g
  go_wp2_with fail
  refine i.o.mono ?_
  intro e z hg
  have v:=aa (hg.back d.o)
  obtain⟨c,rg,cap,C,rfl,-⟩:=id hg
  clear hg i
  go_wp2_with fail
  go_ret2
  exact v.o
end
theorem Sh:dx Tryz.prog 115 118 dH.size:=dx.of (size:=1) (bytes:=8) (z:=.pointer av) Tryz.underlying115 (by kernel_rfl) rfl (by decide)
abbrev wh (B:Nat) (w:World) (v:Value) (l:List Nat):Prop:=Own dH 118 B w v l
def QZ (v:Value) (X:World):Nat:=
 match v with
 |e7 (aD a)=>match X.cell? ⟨a.block,0,av⟩ with
  |some (bf _ n)=>n.toNat
  |_=>0
 |_=>0
theorem zb {X:World} {q lv:Nat} (h:X.cell? ⟨q,0,av⟩=aD (bf cu lv)):QZ (e7 (aD ⟨q,0,av⟩)) X=lv:=by
 show (match X.cell? ⟨q,0,av⟩ with
  |some (bf _ n)=>n.toNat
  |_=>0)=lv
 rw[h];simp
structure Fnd (tb:Nat) (key:ByteArray) (P:Nat->Nat->Value->World->Prop) (Q:Nat->Nat->Value->World->Prop):Prop where
 yg:∀lv q pv X,P lv q pv X->X.cell? ⟨q,0,av⟩=aD (bf cu lv)/\lv<=15/\(0<lv->Calls Tryz.prog 78 #[ptr q,bR key] X fun e X'=>∃a:Nat,e=eb (bf cu a)/\(∃v,X'.cell? ⟨q,6,av⟩=aD v)/\X'.frozen? ⟨q,6,av⟩=false/\
  Calls Tryz.prog 79 #[ptr tb,ptr q,bf cu a] (X'.setCell ⟨q,6,av⟩ (bf cu a)) fun e gL=>∃q' mA,e=eb (gu #[ptr q',bf cu 0])/\mA<lv/\Q mA q' pv gL)
 app:∀lv q pv X,Q lv q pv X->∃pl,wh 0 X pv pl/\pl.length<=100/\∀W XI W',W=X.alloc (ey #[e7 (aD ⟨q,0,av⟩)] 118)->wh 0 W' XI (pl++[q])->W.grownBy W' pv.ownBlock->(XI.ownBlock=pv.ownBlock\/∀k,XI.ownBlock=aD k->W.heap.size<=k)->P lv q XI W'
section
variable {w:World} {tb:Nat}
theorem zc {key:ByteArray} {P Q:Nat->Nat->Value->World->Prop} {G0:World->Prop} (hF:Fnd tb key P Q) (k:Calls Tryz.prog 77 #[ptr tb] w fun e X=>(e=eb (gu #[e7 av,bf cu 0])/\G0 X)\/∃q lv,e=eb (gu #[ptr q,bf cu 0])/\∀W,W=X.alloc (ey #[e7 (aD ⟨q,0,av⟩)] 118)->P lv q (cx (aD ⟨X.heap.size,0,av⟩) 1 1) W):
  Calls Tryz.prog 51 #[ptr tb,bR key] w fun e w'=>(e=eb (gu #[cx av 0 0,bf cu 0])/\G0 w')\/∃q pv,e=eb (gu #[pv,bf cu 0])/\P 0 q pv w':=by
 have f:=aa hF;have n:=aa k;clear hF k;unfold ptr at f n |-;go_enter Tryz.func51,Tryz.ntmps51;go_wp2_with fail;refine n.o.mono ?_;rintro e X (⟨rfl,p⟩|⟨q,lv,rfl,H⟩)
 ·have y:=aa p;clear p;go_wp2_with fail
  go_ret2
  exact dc ⟨rfl,y.o⟩
 ·obtain⟨i,m⟩:∃i,i=X.alloc (ey #[e7 (aD ⟨q,0,av⟩)] 118):=⟨_,rfl⟩;have A:=aa (H i m);clear H;go_wp2_with fail;rw[<-m];clear m
  go_loopw [6,7,8] (fun j _ pv wr=>∃lv q,j=e7 (aD ⟨q,0,av⟩)/\Hid (P lv q pv wr)) (fun j _ _ wr=>QZ j wr)
  case atStart=>exact⟨lv,q,rfl,A⟩
  case round=>
   obtain⟨lv,q,rfl,H⟩:=hrel;obtain⟨c0,B,S⟩:=f.o.yg _ _ _ _ H.o;have jD:(lv:Int)<=15:=(by omega);by_cases C:0<lv
   ·have hpos:(lv:Int)>0:=(by omega);have G:=aa (S C);have I:=aa (zb c0);clear S;go_wp2_with fail;refine G.o.mono ?_;rintro e L ⟨a,rfl,⟨v,r⟩,M,h⟩;obtain⟨W2,s⟩:∃W2,W2=L.setCell ⟨q,6,av⟩ (bf cu a):=⟨_,rfl⟩;have O:W2.cell? ⟨q,6,av⟩=aD (bf cu a):=(by rw[s];exact World.cell?_setCell_same _ _ _ r);rw[<-s] at h;have R:=aa h;clear h c0;go_wp2_with fail;rw[<-s];clear s r M;refine R.o.mono ?_;rintro e b ⟨q',mA,rfl,c,t⟩;unfold ptr;obtain⟨pl,hown,D,E⟩:=f.o.app _ _ _ _ t;obtain⟨T,U,V,Y⟩:=Own.slice hown;subst V;have g:=aa (And.intro hown D);have u:=aa E;have dX:=aa c;obtain⟨N,Z⟩:∃N,N=pl.length:=⟨_,rfl⟩;rw[<-Z] at g u Y |-;have HN:=aa Z;have IP:(N:Int)<=100:=(by have:=g.o.2;omega);have z:=aa (show wh 0 (b.alloc (ey #[e7 (aD ⟨q',0,av⟩)] 118)) (cx T N U) pl/\bu dH (b.alloc (ey #[e7 (aD ⟨q',0,av⟩)] 118)) b.heap.size 0 [q']/\pl.length+1<=1000000000 from⟨g.o.1.alloc _,bu.fN (K:=dH) (l:=[q']) (aU.new b #[e7 (aD ⟨q',0,av⟩)] 118) rfl,by have:=g.o.2;have:=HN.o;omega⟩);clear hown E D c t Z O;go_wp2_with (at_builtin;refine Hid.o ?_);refine aa ?_;refine cT (K:=dH) Sh rfl _ _ rfl rfl z.o.1 (aB _) b.heap.size 0 1 1 [q'] rfl rfl z.o.2.1 z.o.2.2 ?_;intro v2 w5 F x J;have d:=aa (u.o _ v2 w5 rfl F x J);clear F x J;go_wp2_with fail;go_roundw
    case rel=>exact⟨mA,q',rfl,d⟩
    case measure=>have h1:=zb (f.o.yg _ _ _ _ d.o).1;have h2:=I.o;have h3:=dX.o;rw[h1,h2];exact h3
   ·obtain rfl:lv=0:=by omega
    have hpos:¬((0:Nat):Int)>0:=(by decide);clear S;go_wp2_with fail
    go_ret2
    exact dn ⟨q,_,rfl,H.o⟩
end
structure Eac (tb q:Nat) (lo hi:ByteArray) (fn:Nat) (caps:Array Value) (xb rg ro NL cap:Nat) (L:Nat->World->Prop) (G:Bool->World->Prop):Prop where
 item:∀a X,L a X->X.cell? ⟨xb,0,av⟩=aD (bR lo)/\X.cell? ⟨xb,1,av⟩=aD (bR hi)/\X.cell? ⟨q,1,av⟩=aD (cx (aD ⟨rg,ro,av⟩) NL cap)/\a<=NL/\NL<=cap/\(a=NL->G true X.drew)/\
  (a<NL->∃kb,X.cell? ⟨rg,ro+a*3,av⟩=aD (bR kb)/\Calls Tryz.prog 144 #[iK #[bR lo,bR hi],bR kb] X.drew fun e X'=>∃b,e=eb (eX b)/\X'.cell? ⟨xb,0,av⟩=aD (bR lo)/\X'.cell? ⟨xb,1,av⟩=aD (bR hi)/\X'.cell? ⟨q,1,av⟩=aD (cx (aD ⟨rg,ro,av⟩) NL cap)/\X'.cell? ⟨rg,ro+a*3,av⟩=aD (bR kb)/\(b=true->G true X')/\
   (b=false->Calls Tryz.prog 123 #[ptr tb,ptr q,bf cu a] X' fun e X1=>∃q',e=eb (gu #[ptr q',bf cu 0])/\X1.cell? ⟨xb,0,av⟩=aD (bR lo)/\X1.cell? ⟨xb,1,av⟩=aD (bR hi)/\
    Calls Tryz.prog 143 #[ptr tb,ptr q',iK #[bR lo,bR hi],.func (.func fn) #[] caps] X1 fun e X2=>∃b,e=eb (gu #[eX b,bf cu 0])/\(b=true->L (a+1) X2)/\(b=false->G false X2)))
section
variable {w:World} {tb q:Nat}
theorem ze {lo hi:ByteArray} {fn:Nat} {caps:Array Value} {lv:Nat} {G:Bool->World->Prop} (v:∀(W:World) (args:Array Value),Sem.run Tryz.prog (callFunc fn args) W=.ok (.enter fn args) W) (g:lv<=15)
  (hS:∀W,W=w.alloc (ey #[bR lo,bR hi] 125)->Calls Tryz.prog fn (#[ptr q]++caps) W fun e X=>∃b,e=eb (eX b)/\(b=false->G false X)/\(b=true->X.cell? ⟨q,0,av⟩=aD (bf cu lv)/\X.cell? ⟨w.heap.size,0,av⟩=aD (bR lo)/\(lv=0->G true X)/\
   (0<lv->Calls Tryz.prog 78 #[ptr q,bR lo] X fun e X1=>∃a:Nat,e=eb (bf cu a)/\a<=400/\∃rg ro NL cap L,NL<=400/\Eac tb q lo hi fn caps w.heap.size rg ro NL cap L G/\L a X1))):
  Calls Tryz.prog 143 #[ptr tb,ptr q,iK #[bR lo,bR hi],.func (.func fn) #[] caps] w fun e w'=>∃b,e=eb (gu #[eX b,bf cu 0])/\G b w':=by
 obtain⟨i,m⟩:∃i,i=w.alloc (ey #[bR lo,bR hi] 125):=⟨_,rfl⟩
 have y:=aa (hS i m)
 have jD:(lv:Int)<=15:=by omega
 have J:=aa v
 clear hS g v
 unfold ptr at y |-
 go_enter Tryz.func143,Tryz.ntmps143
 go_wp2_with fail
 rw[<-m]
 rw[J.o,Oper.upon_enter]
 refine y.o.mono ?_
 rintro e X ⟨b,rfl,D,x⟩
 obtain⟨xb,T⟩:∃xb,xb=w.heap.size:=⟨_,rfl⟩
 rw[<-T] at x |-
 clear m T
 cases b with
 |false=>
  have H:=aa (D rfl);clear D x;go_wp2_with fail
  go_ret2
  exact⟨false,rfl,H.o⟩
 |true=>
  obtain⟨c0,s0,j,l⟩:=x rfl;clear D x;by_cases z:lv=0
  ·subst z;have H:=aa (j rfl);clear j l;go_wp2_with fail
   go_ret2
   exact⟨true,rfl,H.o⟩
  ·have TB:((lv:Int)==0)=false:=(by rw[beq_eq_false_iff_ne];omega);have Z:=aa (l (Nat.pos_of_ne_zero z));clear j l;go_wp2_with fail;refine Z.o.mono ?_;rintro e X1 ⟨a,rfl,n,rg,ro,NL,cap,L,N,V,c⟩;have M:=aa V;have O:=aa c;have LB:(a:Int)<=400:=(by omega);have IP:(NL:Int)<=400:=(by omega);clear c0 s0 n V c N;go_wp2_with fail
   go_loopw [10,11,12,13] (fun p _ _ _ wr=>∃a:Nat,p=bf cu a/\Hid (L a wr)) (fun p _ _ _ _=>NL-(RowKit.intOf p).toNat)
   case atStart=>exact⟨a,rfl,O⟩
   case round=>
    obtain⟨a,rfl,c⟩:=hrel;obtain⟨s0,s1,B,XH,P,h,r⟩:=M.o.item _ _ c.o;have xM:(NL:Int)<=cap:=(by omega);by_cases t:a<NL
    ·have R:(a:Int)<NL:=(by omega);obtain⟨kb,U,C⟩:=r t;have u:=aa C;clear C h r c;go_wp2_with (refine wp_region_held_drew (S:=(fun X=>X.cell? ⟨xb,0,av⟩=aD (bR lo)/\X.cell? ⟨xb,1,av⟩=aD (bR hi)/\X.cell? ⟨q,1,av⟩=aD (cx (aD ⟨rg,ro,av⟩) NL cap)/\X.cell? ⟨rg,ro+a*3,av⟩=aD (bR kb))) (by kernel_rfl) ?_ (fun A=> ?_);focus skip;rotate_left;refine Hid.o ?_);refine aa ?_;·first|trivial|exact⟨s0,s1,B,U⟩
     refine bF 0 A ?_;refine bF 1 A ?_;refine bF 2 A ?_;refine bF 3 A ?_;refine bF 4 A ?_;refine bF 5 A ?_;refine bF 6 A ?_;refine bF 7 A ?_;try simp only[Act.put,aA,az,ay]
     refine bF 8 A ?_;refine bF 9 A ?_;refine bF 10 A ?_;refine bF 11 A ?_;refine bF 12 A ?_;try simp only[Act.put,aA,az,ay]
     refine bF 13 A ?_;refine bF 14 A ?_;refine bF 15 A ?_;refine bF 16 A ?_;refine bF 17 A ?_;try simp only[Act.put,aA,az,ay]
     refine iV [18] (iW fun K F=> ?_);go_simp;refine u.o.mono ?_;rintro e w6 ⟨b,rfl,s,d,Q,k,x,D⟩;have E:=aa (And.intro x D);refine F.out _ _ ⟨s,d,Q,k⟩ (fun A=> ?_);clear F K x D;refine bF 19 A ?_;refine bF 20 A ?_;refine wpAnyH_done (by kernel_rfl) ?_ _;try simp only[Act.put,aA,az,ay]
     cases b with
     |true=>
      have H:=aa (E.o.1 rfl);clear E;go_wp2_with fail
      go_ret2
      exact⟨true,rfl,H.o⟩
     |false=>
      have f:=aa (E.o.2 rfl);clear E;unfold ptr at f;go_wp2_with fail;refine f.o.mono ?_;rintro e w7 ⟨q',rfl,Y,t1,C⟩;have I:=aa C;clear C Q k s d;unfold ptr at I;go_wp2_with fail;refine I.o.mono ?_;rintro e w8 ⟨b,rfl,x,D⟩;clear Y t1;cases b with
      |true=>
       have BZ:=aa (x rfl);clear x D;go_wp2_with fail;go_roundw
       case rel=>exact⟨a+1,by go_num,BZ⟩
       case measure=>simp[RowKit.intOf];omega
      |false=>
       have H:=aa (D rfl);clear x D;go_wp2_with fail
       go_ret2
       exact⟨false,rfl,H.o⟩
    ·obtain rfl:a=NL:=by omega
     have R:¬(a:Int)<a:=(by omega);have H:=aa (h rfl);clear h r c;go_wp2_with (refine wp_region_held_drew (S:=(fun X=>X.cell? ⟨xb,0,av⟩=aD (bR lo)/\X.cell? ⟨xb,1,av⟩=aD (bR hi)/\X.cell? ⟨q,1,av⟩=aD (cx (aD ⟨rg,ro,av⟩) a cap))) (by kernel_rfl) ?_ (fun A=> ?_);focus skip;rotate_left;refine Hid.o ?_);refine aa ?_;·first|trivial|exact⟨s0,s1,B⟩
     refine zS 0 A ?_;refine zS 1 A ?_;refine zS 2 A ?_;refine zS 3 A ?_;refine zS 4 A ?_;refine zS 5 A ?_;refine zS 6 A ?_;refine zS 7 A ?_;try simp only[Act.put,aA,az,ay]
     refine tJ 8 A ?_;refine tJ 9 A ?_;try simp only[Act.put,aA,az,ay]
     refine tJ 10 A ?_;refine tJ 11 A ?_;try simp only[Act.put,aA,az,ay]
     refine tJ 12 A ?_;refine tJ 13 A ?_;try simp only[Act.put,aA,az,ay]
     refine tJ 14 A ?_;refine tJ 15 A ?_;try simp only[Act.put,aA,az,ay]
     refine tJ 16 A ?_;refine tJ 17 A ?_;try simp only[Act.put,aA,az,ay]
     refine tJ 18 A ?_;refine tJ 19 A ?_;try simp only[Act.put,aA,az,ay]
     refine zS 20 A ?_;refine wpAnyH_done (by kernel_rfl) ?_ _;try simp only[Act.put,aA,az,ay]
     go_wp2_with fail
     go_ret2
     exact⟨true,rfl,H.o⟩
end
end
namespace Tr
def bO (k:Nat) (x:Tx) (acc:List (Tx×E (k+1))) (sp:List Nat) (i:Tx×E (k+1)):List (Tx×E (k+1))×List Nat:=
 match acc.getLast? with
 |none=>([(x,i.2)],sp)
 |some a=>if cut (k+1) a.2 i.1 i.2 then (acc++[i],sp) else (acc.dropLast++[(a.1,(join k a.2 i.2 i.1).1)],sp++(join k a.2 i.2 i.1).2)
theorem jz (k:Nat) (x:Tx) (sp:List Nat) (i:Tx×E (k+1)):bO k x [] sp i=([(x,i.2)],sp):=rfl
theorem dS (k:Nat) (x:Tx) (A:List (Tx×E (k+1))) (a:Tx×E (k+1)) (sp:List Nat) (i:Tx×E (k+1)):
  bO k x (A++[a]) sp i=if cut (k+1) a.2 i.1 i.2 then (A++[a]++[i],sp) else (A++[(a.1,(join k a.2 i.2 i.1).1)],sp++(join k a.2 i.2 i.1).2):=by
 unfold bO;rw[cN,pW]
def dM (k:Nat) (x:Tx) (st:List (Tx×E (k+1))×List Nat) (c:Tx×E (k+1)):List (Tx×E (k+1))×List Nat:=
 if (its c.2).isEmpty then (st.1,st.2++(hd c.2).page.toList)
 else if sz k (its c.2)<=510 then bO k x st.1 st.2 c
 else bO k x (bO k x st.1 st.2 (c.1,(part k c.2).low)).1 (bO k x st.1 st.2 (c.1,(part k c.2).low)).2 ((part k c.2).key,(part k c.2).up)
def bL (k:Nat) (st:List (Tx×E (k+1))×List Nat) (c:Tx×E (k+1)):List (Tx×E (k+1))×List Nat:=dM k c.1 st c
structure Acc (k:Nat) (x:Tx) (h:Option Tx) (acc:List (Tx×E (k+1))):Prop where
 seg:dB (Ok (k+1)) (cut (k+1)) h acc
 head:∀p,acc.head?=aD p->p.1=x/\Old (k+1) p.2
theorem Acc.nil (k:Nat) (x:Tx) (h:Option Tx):Acc k x h []:=⟨trivial,fun _ h=>by cases h⟩
structure Zh (k:Nat) (x:Tx) (h:Option Tx) (acc:List (Tx×E (k+1))) (sp:List Nat) (i:Tx×E (k+1)) (r:List (Tx×E (k+1))×List Nat):Prop where
 row:Acc k x h r.1
 ne:r.1≠[]
 cB:cB (k+1) r.1=cB (k+1) acc++cB k (its i.2)
 ck:(dW (k+1) r.1++r.2).Perm (dW (k+1) acc++ck (k+1) i.2++sp)
 fy:kK (k+1) r.1=kK (k+1) acc+fy (k+1) i.2
 last:∀b,r.1.getLast?=aD b->sz k (its i.2)<=sz k (its b.2)
 first:∀p,acc.head?=aD p->∃q,r.1.head?=aD q/\sz k (its p.2)<=sz k (its q.2)
 none:acc=[]->r.1=[(x,i.2)]
theorem gU (k:Nat) (p:Tx×E k):dW k [p]=ck k p.2:=by simp[dW]
theorem iG (k:Nat) (p:Tx×E k):kK k [p]=fy k p.2:=by simp[kK]
theorem nj {k:Nat} {x:Tx} {h:Option Tx} {acc:List (Tx×E (k+1))} {sp:List Nat} {i:Tx×E (k+1)}
  (ha:Acc k x (aD i.1) acc) (f:acc=[]->le x i.1/\Old (k+1) i.2) (hl:acc≠[]->i.1.length<=96) (oi:Ok (k+1) i.1 h i.2)
  (hn:Old (k+1) i.2\/∀a,acc.getLast?=aD a->cut (k+1) a.2 i.1 i.2):Zh k x h acc sp i (bO k x acc sp i):=by
 by_cases e:acc=[]
 ·subst e;rw[jz];refine⟨⟨?_, ?_⟩,by simp, ?_, ?_, ?_, ?_, ?_,fun _=>rfl⟩;·exact oi.lo (f rfl).1
  ·grind
  ·rw[dY,ld];rfl
  ·rw[gU];exact List.Perm.refl _
  ·rw[iG];show fy (k+1) i.2=0+fy (k+1) i.2;omega
  ·grind
  ·intro p hp;cases hp
 ·have H:=hl e;obtain⟨A,a,rfl⟩:=dR e;rw[dS];by_cases hc:cut (k+1) a.2 i.1 i.2
  ·rw[if_pos hc];have c:lt a.1 i.1=true:=ha.seg.last.lt;refine⟨⟨?_, ?_⟩,by simp, ?_, ?_, ?_, ?_, ?_,fun h=>absurd h e⟩;·show dB _ _ h (A++[a]++[i]);rw[aF];exact dB.append.2 ⟨ha.seg,⟨c,H,hc⟩,oi⟩
   ·intro p hp;refine ha.head p ?_;cases A<;>exact hp
   ·simp_all[cB]
   ·simp_all[dW]
   ·grind [kK,cH,iG]
   ·grind
   ·grind
  ·rw[if_neg hc];have g:Old (k+1) i.2:=hn.resolve_right fun hn=>hc (hn a (cN A a));have J:=qV k ha.seg.last oi H hc;generalize join k a.2 i.2 i.1=j at J;refine⟨⟨?_, ?_⟩,by simp, ?_, ?_, ?_, ?_, ?_,fun h=>absurd h e⟩;·exact dB.ij ha.seg J.ok fun _ _ hc=>mj hc J.left
   ·intro p hp;cases A with
    |nil=>cases hp;have:=ha.head a rfl;exact⟨this.1,J.old this.2⟩
    |cons q A=>exact ha.head p hp
   ·show cB (k+1) (A++[(a.1,j.1)])=_;rw[bT,bT,dY,dY,J.cB,aF]
   ·show (dW (k+1) (A++[(a.1,j.1)])++(sp++j.2)).Perm _;rw[bU,bU,gU,gU];simp only[aF];refine List.Perm.append_left _ ?_;have l:(ck (k+1) j.1++(sp++j.2)).Perm ((ck (k+1) j.1++j.2)++sp):=(by grind);refine l.trans ((List.Perm.append_right _ J.ck).trans ?_);rw[aF]
   ·show kK (k+1) (A++[(a.1,j.1)])=_;rw[cH,cH,iG,iG,J.fy g,gH]
   ·intro b d;rw[cN] at d;cases d;exact J.right
   ·intro p hp;cases A with
    |nil=>cases hp;exact⟨_,rfl,J.left⟩
    |cons q A=>exact⟨p,hp,ah _⟩
def ji (k:Nat) (h:Option Tx):List (Tx×E (k+1))->Prop
 |[]=>True
 |[a]=>iP k a.1 h a.2/\tT a.1 h/\Old (k+1) a.2
 |a::b::r=>iP k a.1 (aD b.1) a.2/\(lt a.1 b.1=true/\b.1.length<=96/\Old (k+1) a.2)/\ji k h (b::r)
def uL {α:Type} (h:Option Tx):List (Tx×α)->Option Tx
 |[]=>h
 |b::_=>aD b.1
theorem ji.at {k:Nat} {h:Option Tx} {a:Tx×E (k+1)}:∀{r:List (Tx×E (k+1))},ji k h (a::r)->iP k a.1 (uL h r) a.2/\tT a.1 (uL h r)/\Old (k+1) a.2/\ji k h r/\(∀b l,r=b::l->b.1.length<=96)
 |[],h=>⟨h.1,h.2.1,h.2.2,trivial,fun _ _ e=>by cases e⟩
 |_::_,h=>⟨h.1,h.2.1.1,h.2.1.2.2,h.2.2,fun _ _ e=>by cases e;exact h.2.1.2.1⟩
def big (k:Nat):List (Tx×E (k+1))->Nat
 |[]=>0
 |c::r=>(if sz k (its c.2)<=510 then 0 else 1)+big k r
structure Walk (k:Nat) (x:Tx) (h:Option Tx) (acc:List (Tx×E (k+1))) (sp:List Nat) (W:List (Tx×E (k+1))) (r:List (Tx×E (k+1))×List Nat):Prop where
 row:Acc k x h r.1
 cB:cB (k+1) r.1=cB (k+1) acc++cB (k+1) W
 ck:(dW (k+1) r.1++r.2).Perm (dW (k+1) acc++dW (k+1) W++sp)
 fy:kK (k+1) r.1=kK (k+1) acc+kK (k+1) W+big k W
 first:∀p,acc.head?=aD p->∃q,r.1.head?=aD q/\sz k (its p.2)<=sz k (its q.2)
 start:acc=[]->∀c l,W=c::l->its c.2≠[]->sz k (its c.2)<=510->∃q,r.1.head?=aD q/\sz k (its c.2)<=sz k (its q.2)
 last:∀V c,W=V++[c]->its c.2≠[]->sz k (its c.2)<=510->∃b,r.1.getLast?=aD b/\sz k (its c.2)<=sz k (its b.2)
 none:r.1=[]->acc=[]/\∀c∈W,its c.2=[]
theorem ES {α:Type} {l:List α} (h:l≠[]):∃b,l.getLast?=aD b:=⟨l.getLast h,List.getLast?_eq_some_getLast h⟩
theorem step_ok {k:Nat} {x:Tx} {h:Option Tx} {acc:List (Tx×E (k+1))} {sp:List Nat} {c:Tx×E (k+1)} (ha:Acc k x (aD c.1) acc) (n:acc=[]->le x c.1) (hl:acc≠[]->c.1.length<=96)
  (o:iP k c.1 h c.2) (g:tT c.1 h) (f:Old (k+1) c.2):Walk k x h acc sp [c] (dM k x (acc,sp) c):=by
 unfold dM;cases e:(its c.2).isEmpty with
 |true=>
  have d:=List.isEmpty_iff.1 e;rw[if_pos rfl];refine⟨⟨ha.seg.later (Ec g),ha.head⟩, ?_, ?_, ?_,fun p hp=>⟨p,hp,ah _⟩, ?_, ?_, ?_⟩;·rw[dY,d,ld,bA]
  ·simp_all[bC,dW,hd,bA,aF,List.Perm.append_left,m7]
  ·rw[iG,bX,if_pos f.1,d];show kK (k+1) acc=_+(0+0)+((if sz k (its c.2)<=510 then 0 else 1)+0);rw[d,if_pos (show sz k ([]:List (Tx×E k))<=510 from aB _)];omega
  ·grind
  ·intro V c' H;have:=List.append_inj_right' (s₁:=([]:List (Tx×E (k+1)))) (t₁:=[c]) (s₂:=V) (t₂:=[c']) H rfl;cases this;exact fun h=>absurd d h
  ·intro h;exact⟨h,fun c' y=>by rw[cQ.1 y];exact d⟩
 |false=>
  have d:its c.2≠[]:=fun h=>by rw[h] at e;cases e
  rw[if_neg Bool.false_ne_true];by_cases hs:sz k (its c.2)<=510
  ·rw[if_pos hs];have J:=nj (sp:=sp) ha (fun e=>⟨n e,f⟩) hl (o.ok d hs) (dc f);refine⟨J.row, ?_, ?_, ?_,J.first, ?_, ?_,fun h=>absurd h J.ne⟩;·rw[dY];exact J.cB
   ·rw[gU];exact J.ck
   ·rw[iG];show _=_+((if sz k (its c.2)<=510 then 0 else 1)+0);rw[if_pos hs];exact J.fy
   ·rintro ha c' l H _ _;cases H;exact⟨(x,c.2),by rw[J.none ha];rfl,ah _⟩
   ·intro V c' H _ _;have:=List.append_inj_right' (s₁:=([]:List (Tx×E (k+1)))) (t₁:=[c]) (s₂:=V) (t₂:=[c']) H rfl;cases this;obtain⟨b,g⟩:=ES J.ne;exact⟨b,g,J.last b g⟩
  ·rw[if_neg hs];have S:=oZ k o (by omega);generalize part k c.2=s at S;have J:=nj (i:=(c.1,s.low)) (sp:=sp) ha (fun e=>⟨n e,S.old f⟩) hl S.low (dc (S.old f));show Walk k x h acc sp [c] (bO k x (bO k x acc sp (c.1,s.low)).1 (bO k x acc sp (c.1,s.low)).2 (s.key,s.up));generalize bO k x acc sp (c.1,s.low)=t at J;have j:=nj (i:=(s.key,s.up)) (sp:=t.2) J.row (fun e=>absurd e J.ne) (fun _=>S.len) S.up (dn fun a ha=>n_ S.cut (J.last a ha));generalize bO k x t.1 t.2 (s.key,s.up)=r at j;refine⟨j.row, ?_, ?_, ?_, ?_, ?_, ?_,fun h=>absurd h j.ne⟩;·rw[dY,j.cB,J.cB,aF,S.cB]
   ·rw[gU,<-S.ck];refine j.ck.trans ?_;show (dW (k+1) t.1++ck (k+1) s.up++t.2).Perm _;have m:(dW (k+1) t.1++ck (k+1) s.up++t.2).Perm ((dW (k+1) t.1++t.2)++ck (k+1) s.up):=(by rw[aF,aF];exact List.Perm.append_left _ m7);refine m.trans ((List.Perm.append_right _ J.ck).trans ?_);simp only[aF];exact List.Perm.append_left _ (List.Perm.append_left _ m7)
   ·have:=S.fy;have m:=j.fy;have u:=J.fy;rw[iG];show _=_+((if sz k (its c.2)<=510 then 0 else 1)+0);rw[if_neg hs];simp only at m u;omega
   ·intro p hp;obtain⟨q,v,M⟩:=J.first p hp;obtain⟨Q,G,L⟩:=j.first q v;exact⟨Q,G,aH M L⟩
   ·rintro _ c' l H _ h;cases H;exact absurd h hs
   ·intro V c' H _ h;have:=List.append_inj_right' (s₁:=([]:List (Tx×E (k+1)))) (t₁:=[c]) (s₂:=V) (t₂:=[c']) H rfl;cases this;exact absurd h hs
theorem Av {k:Nat} {x:Tx} {h:Option Tx}:∀(W:List (Tx×E (k+1))) (acc:List (Tx×E (k+1))) (sp:List Nat),Acc k x (uL h W) acc->(∀c l,W=c::l->(acc=[]->le x c.1)/\(acc≠[]->c.1.length<=96))->ji k h W->
  Walk k x h acc sp W (W.foldl (dM k x) (acc,sp))
 |[],acc,sp,ha,_,_=>by
  refine⟨ha, ?_, ?_,rfl,fun p hp=>⟨p,hp,ah _⟩,fun _ _ _ e=>(by cases e),fun V c e=>(by cases V<;>cases e),fun e=>⟨e,fun _ h=>(by cases h)⟩⟩;·rw[ld,bA];rfl
  ·simp_all[dW,bA]
 |c::W,acc,sp,ha,hx,hn=>by
  obtain⟨n1,n,n3,N,i⟩:=hn.at;obtain⟨X,j⟩:=hx c W rfl;have S:=step_ok (sp:=sp) ha X j n1 n n3;show Walk k x h acc sp (c::W) (W.foldl (dM k x) (dM k x (acc,sp) c));generalize dM k x (acc,sp) c=t at S;obtain⟨T,b⟩:=t;have f:∀c' l,W=c'::l->(T=[]->le x c'.1)/\(T≠[]->c'.1.length<=96):=by rintro c' l rfl;exact⟨fun h=>le_trans (X (S.none h).1) (le_of_lt n),fun _=>i _ _ rfl⟩
  have F:=Av W T b S.row f N;generalize hr:W.foldl (dM k x) (T,b)=r at F;refine⟨F.row, ?_, ?_, ?_, ?_, ?_, ?_, ?_⟩;·rw[F.cB,S.cB,show c::W=[c]++W from rfl,bT,aF]
  ·refine F.ck.trans ?_;have H:(dW (k+1) T++dW (k+1) W++b).Perm ((dW (k+1) T++b)++dW (k+1) W):=(by grind);refine H.trans ((List.Perm.append_right _ S.ck).trans ?_);rw[show c::W=[c]++W from rfl,bU];simp only[aF];exact List.Perm.append_left _ (List.Perm.append_left _ m7)
  ·have H:=F.fy;have a:=S.fy;simp only at H a;rw[iG] at a;rw[eP];simp only[big] at a |-;omega
  ·intro p hp;obtain⟨q,g,m⟩:=S.first p hp;obtain⟨Q,G,L⟩:=F.first q g;exact⟨Q,G,aH m L⟩
  ·rintro ha c' l d H a;cases d;obtain⟨q,g,m⟩:=S.start ha c [] rfl H a;obtain⟨Q,G,L⟩:=F.first q g;exact⟨Q,G,aH m L⟩
  ·intro V c' d H a;cases V with
   |nil=>cases d;subst hr;exact S.last [] c rfl H a
   |cons v V=>cases d;exact F.last V c' rfl H a
  ·intro h;obtain⟨H,a⟩:=F.none h;obtain⟨h3,h4⟩:=S.none H
   exact⟨h3,fun c' y=>by
    rcases aX.1 y with rfl|y;·exact h4 _ aE
    ·exact a c' y⟩
end Tr
namespace Tr
section
variable {α:Type} {O:Tx->Option Tx->α->Prop} {C:α->Tx->α->Prop} {h:Option Tx}
theorem dB.glue:∀{A B:List (Tx×α)},dB O C (uL h B) A->dB O C h B->(∀a b,A.getLast?=aD a->B.head?=aD b->lt a.1 b.1=true/\b.1.length<=96/\C a.2 b.1 b.2)->dB O C h (A++B)
 |A,[],h1,_,_=>by rw[bA];exact h1
 |A,b::B,h1,h2,h3=>by
  by_cases e:A=[];·subst e;exact h2
  ·obtain⟨c,a,rfl⟩:=dR e;rw[aF];exact dB.append.2 ⟨h1,h3 a b (cN c a) rfl,h2⟩
theorem dB.wj:∀{A B:List (Tx×α)},dB O C h (A++B)->dB O C (uL h B) A/\dB O C h B/\(∀a b,A.getLast?=aD a->B.head?=aD b->lt a.1 b.1=true/\b.1.length<=96/\C a.2 b.1 b.2)
 |A,[],h1=>by rw[bA] at h1;exact⟨h1,trivial,fun _ _ _ e=>by cases e⟩
 |A,b::B,h1=>by
  by_cases e:A=[];·subst e;exact⟨trivial,h1,fun _ _ e=>by cases e⟩
  ·obtain⟨d,a,rfl⟩:=dR e;rw[aF] at h1;obtain⟨p,P,c⟩:=dB.append.1 h1;refine⟨p,c,fun a' f ha H=> ?_⟩;rw[cN] at ha;cases ha;cases H;exact P
end
theorem lQ (k:Nat) (x y:Tx) (acc:List (Tx×E (k+1))) (sp:List Nat) (i:Tx×E (k+1)):
  (bO k y acc sp i).2=(bO k x (bH x acc) sp i).2/\bH x (bO k y acc sp i).1=(bO k x (bH x acc) sp i).1:=by
 by_cases e:acc=[];·subst e;exact⟨rfl,rfl⟩
 ·obtain⟨A,a,rfl⟩:=dR e;obtain⟨b,z,h,H⟩:=j8 x A a;rw[h,dS,dS];by_cases hc:cut (k+1) a.2 i.1 i.2;·grind [bH,fD]
  ·grind
theorem ET {k:Nat} {x y:Tx} {acc a:List (Tx×E (k+1))} (h:a=bH x acc) (sp:List Nat) (i:Tx×E (k+1)):
  (bO k y acc sp i).2=(bO k x a sp i).2/\bH x (bO k y acc sp i).1=(bO k x a sp i).1:=by subst h;exact lQ k x y acc sp i
theorem Cj (k:Nat) (x y:Tx) (acc:List (Tx×E (k+1))) (sp:List Nat) (c:Tx×E (k+1)):
  (dM k y (acc,sp) c).2=(dM k x (bH x acc,sp) c).2/\bH x (dM k y (acc,sp) c).1=(dM k x (bH x acc,sp) c).1:=by
 unfold dM;by_cases e:(its c.2).isEmpty;·grind
 ·grind [sz,its,lQ,part,ET]
theorem oH (k:Nat) (x:Tx):∀(W:List (Tx×E (k+1))) (acc:List (Tx×E (k+1))) (sp:List Nat),
  (W.foldl (bL k) (acc,sp)).2=(W.foldl (dM k x) (bH x acc,sp)).2/\bH x (W.foldl (bL k) (acc,sp)).1=(W.foldl (dM k x) (bH x acc,sp)).1
 |[],acc,sp=>⟨rfl,rfl⟩
 |c::W,acc,sp=>by
  obtain⟨h,H⟩:=Cj k x c.1 acc sp c;have i:=oH k x W (bL k (acc,sp) c).1 (bL k (acc,sp) c).2;show (W.foldl (bL k) (bL k (acc,sp) c)).2=(W.foldl (dM k x) (dM k x (bH x acc,sp) c)).2/\_;have e:dM k x (bH x acc,sp) c=(bH x (bL k (acc,sp) c).1,(bL k (acc,sp) c).2):=by
   refine Prod.ext ?_ ?_;·exact H.symm
   ·exact h.symm
  rw[e];show _/\bH x (W.foldl (bL k) (bL k (acc,sp) c)).1=(W.foldl (dM k x) (dM k x (bH x acc,sp) c)).1;rw[e];exact i
theorem Ck (k:Nat) (x z:Tx) (sp:List Nat) (W:List (Tx×E (k+1))):(bH z W).foldl (dM k x) ([],sp)=W.foldl (dM k x) ([],sp):=by
 cases W with
 |nil=>rfl
 |cons c W=>rfl
def Vx {k:Nat} (x:Tx):List (Tx×E (k+1))->List (Tx×E (k+1))->Nat
 |[],[]=>0
 |[],_::r=>4+x.length+sz (k+1) r
 |a::acc,W=>sz (k+1) (a::acc)+sz (k+1) W
theorem Sj {k:Nat} {x:Tx} {acc W:List (Tx×E (k+1))} (h:acc≠[]):Vx x acc W=sz (k+1) acc+sz (k+1) W:=by
 cases acc with
 |nil=>exact absurd rfl h
 |cons a acc=>rfl
theorem EU (k:Nat) (x:Tx) (acc:List (Tx×E (k+1))) (sp:List Nat) (i:Tx×E (k+1)):(bO k x acc sp i).1≠[]/\sz (k+1) (bO k x acc sp i).1<=sz (k+1) acc+4+(if acc=[] then x.length else i.1.length):=by
 by_cases e:acc=[];·simp_all[jz,sz,eC]
 ·rw[if_neg e];obtain⟨A,a,rfl⟩:=dR e;rw[dS];by_cases hc:cut (k+1) a.2 i.1 i.2;·grind [sz,ep,eC]
  ·grind [sz,ep,eC]
theorem GJ {k:Nat} {x:Tx}:∀(W:List (Tx×E (k+1))) (acc:List (Tx×E (k+1))) (sp:List Nat),(∀c∈W,510<sz k (its c.2)->(part k c.2).key.length<=96)->
  sz (k+1) (W.foldl (dM k x) (acc,sp)).1<=Vx x acc W+100*big k W
 |[],[],sp,_=>aB _
 |[],a::acc,sp,_=>by show sz (k+1) (a::acc)<=sz (k+1) (a::acc)+0+_;omega
 |c::W,acc,sp,hb=>by
  have i:=GJ (x:=x) W (dM k x (acc,sp) c).1 (dM k x (acc,sp) c).2 (fun d hd=>hb d (aI _ hd));show sz (k+1) (W.foldl (dM k x) (dM k x (acc,sp) c)).1<=_;refine aH i ?_;show _<=_+100*((if sz k (its c.2)<=510 then 0 else 1)+big k W);have h:sz (k+1) (c::W)=4+c.1.length+sz (k+1) W:=by rw[sz,eC]
  unfold dM;by_cases e:(its c.2).isEmpty
  ·rw[if_pos e];show Vx x acc W+_<=_;cases acc with
   |nil=>
    cases W with
    |nil=>show 0+_<=_;omega
    |cons d W=>
     show 4+x.length+sz (k+1) W+_<=4+x.length+sz (k+1) (d::W)+_;rw[sz];omega
   |cons a acc=>
    show sz (k+1) (a::acc)+sz (k+1) W+_<=sz (k+1) (a::acc)+sz (k+1) (c::W)+_;omega
  ·grind [sz,its,EU,Vx,bO,Sj,E,aE]
theorem pz {k:Nat} {h:Option Tx} {kc:Tx} {c0 c:E (k+1)} {N:List (Tx×E (k+1))}:∀{P:List (Tx×E (k+1))},dB (Ok (k+1)) (cut (k+1)) h (P++(kc,c0)::N)->iP k kc (uL h N) c->(∀p∈P,Old (k+1) p.2)->Old (k+1) c->(∀p∈N,Old (k+1) p.2)->ji k h (P++(kc,c)::N)
 |[],hs,hc,_,H,hN=>by
  have all:∀(l:List (Tx×E (k+1))),dB (Ok (k+1)) (cut (k+1)) h l->(∀p∈l,Old (k+1) p.2)->ji k h l:=by
   intro l;induction l with
   |nil=>intro _ _;trivial
   |cons a l i=>
    intro hs H;cases l with
    |nil=>exact⟨hs.near,hs.lt,H a aE⟩
    |cons b l=>exact⟨hs.1.near,⟨hs.2.1.1,hs.2.1.2.1,H a aE⟩,i hs.2.2 fun p hp=>H p (aI _ hp)⟩
  cases N with
  |nil=>exact⟨hc,Ok.lt hs,H⟩
  |cons b N=>exact⟨hc,⟨hs.2.1.1,hs.2.1.2.1,H⟩,all _ hs.2.2 hN⟩
 |[p],hs,hc,hP,H,hN=>by refine⟨hs.1.near,⟨hs.2.1.1,hs.2.1.2.1,hP p aE⟩,pz (P:=[]) hs.2.2 hc (fun _ h=>by cases h) H hN⟩
 |p::q::P,hs,hc,hP,H,hN=>⟨hs.1.near,⟨hs.2.1.1,hs.2.1.2.1,hP p aE⟩,pz (P:=q::P) hs.2.2 hc (fun x d=>hP x (aI _ d)) H hN⟩
end Tr
namespace Tr
theorem wk {α:Type} (h:Option Tx) (B N:List (Tx×α)):uL h (B++N)=uL (uL h N) B:=by cases B<;>rfl
theorem Cl {α:Type} (A:List (Tx×α)) (kc:Tx) (c c':α) (B:List (Tx×α)):cj (A++(kc,c)::B)=cj (A++(kc,c')::B):=by cases A<;>rfl
theorem Pb {k:Nat} (W:List (Tx×E (k+1))):Vx (cj W) [] W=sz (k+1) W:=by
 cases W with
 |nil=>rfl
 |cons c r=>show 4+c.1.length+sz (k+1) r=_;rw[sz,eC]
theorem LP {α:Type} {l:List α} (h:l≠[]):∃a,l.head?=aD a:=by
 cases l with
 |nil=>exact absurd rfl h
 |cons a l=>exact⟨a,rfl⟩
structure Sk (k:Nat) (x:Tx) (h:Option Tx) (P W N:List (Tx×E (k+1))) (sp:List Nat) (r:List (Tx×E (k+1))×List Nat):Prop where
 seg:dB (Ok (k+1)) (cut (k+1)) h (P++(r.1++N))
 cB:cB (k+1) r.1=cB (k+1) W
 ck:(dW (k+1) r.1++r.2).Perm (dW (k+1) W++sp)
 fy:kK (k+1) r.1=kK (k+1) W+big k W
 head:∀p,r.1.head?=aD p->p.1=x/\Old (k+1) p.2
 none:r.1=[]->P=[]/\N=[]
 size:sz (k+1) r.1<=sz (k+1) W+100*big k W
 each:∀p∈W,sz k (its p.2)<=510->its p.2≠[]->r.1≠[]
theorem IX {k:Nat} {h:Option Tx} {P A B N:List (Tx×E (k+1))} {kc:Tx} {c0 c:E (k+1)} (sp:List Nat)
  (s:dB (Ok (k+1)) (cut (k+1)) h (P++((A++(kc,c0)::B)++N))) (v:iP k kc (uL h (B++N)) c)
  (hA:A=[]->P=[]) (J:B=[]->N=[]) (O:∀p∈A,Old (k+1) p.2) (K:Old (k+1) c) (L:∀p∈B,Old (k+1) p.2):
  Sk k (cj (A++(kc,c)::B)) h P (A++(kc,c)::B) N sp ((A++(kc,c)::B).foldl (dM k (cj (A++(kc,c)::B))) ([],sp)):=by
 obtain⟨s1,s2,Q⟩:=dB.wj s;obtain⟨S,R,U⟩:=dB.wj s2;rw[wk] at v;have ns:=pz S v O K L;have V:=Cl A kc c c0 B;have W:A++(kc,c)::B≠[]:=by simp
 have w:∀p∈A++(kc,c)::B,p.2=c\/(p∈A\/p∈B):=by grind
 have j:∀p,p∈A\/p∈B->its p.2≠[]/\sz k (its p.2)<=510:=by
  intro p hp;have:p∈A++(kc,c0)::B:=by grind
  obtain⟨u,hu⟩:=S.each p this;exact⟨hu.1,hu.2.1⟩
 generalize T:cj (A++(kc,c)::B)=x at*
 have F:=Av (x:=x) (A++(kc,c)::B) [] sp (Acc.nil k x _) (by
  intro c' l e;refine⟨fun _=> ?_,fun h=>absurd rfl h⟩;rw[e] at T;have:c'.1=x:=T;rw[this];exact le_refl _) ns
 have Z:=GJ (x:=x) (A++(kc,c)::B) [] sp (by
  intro d hd f;rcases w d hd with e|e;·rw[e] at f |-;exact (oZ k v f).len
  ·have:=(j d e).2;omega)
 have o:=Pb (A++(kc,c)::B);rw[T] at o;rw[o] at Z;generalize hr:(A++(kc,c)::B).foldl (dM k x) ([],sp)=r at F Z;have m:r.1=[]->A=[]/\B=[]:=by
  intro e;have:=(F.none e).2;refine⟨?_, ?_⟩
  ·cases A with
   |nil=>rfl
   |cons a A=>exact absurd (this a aE) (j a (dc aE)).1
  ·cases B with
   |nil=>rfl
   |cons b B=>exact absurd (this b (aj.2 (dn (aI _ aE)))) (j b (dn aE)).1
 have X:r.1=[]\/uL h (r.1++N)=aD x:=by
  by_cases e:r.1=[];·exact dc e
  ·right;obtain⟨q,H⟩:=LP e;have:=(F.row.head q H).1;cases M:r.1 with
   |nil=>exact absurd M e
   |cons z r'=>rw[M] at H;have Y:z=q:=Option.some.inj H;show aD z.1=aD x;rw[Y,this]
 have aa8:uL h ((A++(kc,c0)::B)++N)=aD x:=by rw[V];cases A<;>rfl
 refine⟨?_, ?_, ?_, ?_, ?_, ?_,Z, ?_⟩
 ·have g1:dB (Ok (k+1)) (cut (k+1)) h (r.1++N):=by
   refine dB.glue F.row.seg R ?_;intro a b ha f;by_cases eB:B=[];·grind
   ·obtain⟨B',g,rfl⟩:=dR eB;have y:A++(kc,c)::(B'++[g])=(A++(kc,c)::B')++[g]:=(by simp);obtain⟨q,H,C⟩:=F.last (A++(kc,c)::B') g y (j g (dn (by simp))).1 (j g (dn (by simp))).2;rw[H] at ha;cases ha;have hl:=U g b (by rw[show A++(kc,c0)::(B'++[g])=(A++(kc,c0)::B')++[g] by simp];exact cN _ _) f;refine⟨?_,hl.2.1,n_ hl.2.2 C⟩;obtain⟨R',q',I⟩:=dR (l:=r.1) (by intro e;rw[e] at H;cases H);rw[I,cN] at H;cases H;have i:=F.row.seg;rw[I] at i;have:=i.last.lt;cases N with
    |nil=>cases f
    |cons n N=>cases f;exact this
  by_cases e:r.1=[];·grind
  ·refine dB.glue ?_ g1 ?_;·grind
   ·intro a b ha f;have Zi:A≠[]:=(by intro eA;rw[hA eA] at ha;cases ha);obtain⟨a',A',rfl⟩:=sS Zi;obtain⟨q,H,C⟩:=F.start rfl a' (A'++(kc,c)::B) rfl (j a' (dc aE)).1 (j a' (dc aE)).2;have D:b=q:=by
     cases M:r.1 with
     |nil=>exact absurd M e
     |cons z r'=>rw[M] at H f;cases H;cases f;rfl
    subst D;have hl:=Q a a' ha rfl;have t:=(F.row.head b H).1;have G:a'.1=x:=T;rw[t,<-G];exact⟨hl.1,hl.2.1,mj hl.2.2 C⟩
 ·have:=F.cB;rw[ld] at this;exact this
 ·have:=F.ck;exact this
 ·have:=F.fy;rw[show kK (k+1) ([]:List (Tx×E (k+1)))=0 from rfl,bE] at this;exact this
 ·exact F.row.head
 ·intro e;obtain⟨y,e2⟩:=m e;exact⟨hA y,J e2⟩
 ·intro p hp _ h2 e;exact h2 ((F.none e).2 p hp)
theorem dN (k:Nat) (lo:Tx) (l:List (Tx×E (k+1))):r9 (k+1) lo l=bH lo l:=by unfold r9;rw[if_neg (dy _)]
theorem mB {k:Nat} {lo:Tx} {l:List (Tx×E (k+1))}:Head (k+1) lo l↔∀p,l.head?=aD p->p.1=[]:=by simp_all[Head]
structure uM (k:Nat) (lo:Tx) (h:Option Tx) (all l:List (Tx×E (k+1))) (b:Nat) (sp sp':List Nat):Prop where
 row:Rw (k+1) lo h l
 cB:cB (k+1) l=cB (k+1) all
 ck:(dW (k+1) l++sp').Perm (dW (k+1) all++sp)
 fy:kK (k+1) l=kK (k+1) all+b
 size:sz (k+1) l<=sz (k+1) all+100*b
 old:(∀p∈all,Old (k+1) p.2)->∀p,l.head?=aD p->Old (k+1) p.2
theorem mC {α:Type} (x:Tx) (A:List (Tx×α)) (kc:Tx) (c:α) (B:List (Tx×α)):bH x (A++(kc,c)::B)=(bH x A)++((if A.isEmpty then x else kc),c)::B:=by
 cases A with
 |nil=>rfl
 |cons a A=>rfl
theorem wm {α:Type} (l:List (Tx×α)):bH (cj l) l=l:=by cases l<;>rfl
theorem lR {α:Type} (x:Tx) {l:List (Tx×α)} (h:l≠[]):cj (bH x l)=x:=by
 cases l with
 |nil=>exact absurd rfl h
 |cons a l=>rfl
theorem Pc {k:Nat} {A B:List (Tx×E (k+1))} {kc:Tx} {c:E (k+1)} (h:∀p,p∈A\/p∈B->sz k (its p.2)<=510):big k (A++(kc,c)::B)=big k [(kc,c)]:=by
 have H:∀(l:List (Tx×E (k+1))),(∀p∈l,sz k (its p.2)<=510)->big k l=0:=by
  intro l;induction l with
  |nil=>intro _;rfl
  |cons a l i=>intro hl;show (if sz k (its a.2)<=510 then 0 else 1)+big k l=0;rw[if_pos (hl a aE),i fun p hp=>hl p (aI _ hp)]
 have e:∀(l r:List (Tx×E (k+1))),(∀p∈l,sz k (its p.2)<=510)->big k (l++r)=big k r:=by
  intro l r;induction l with
  |nil=>intro _;rfl
  |cons a l i=>intro hl;show (if sz k (its a.2)<=510 then 0 else 1)+big k (l++r)=_;rw[if_pos (hl a aE),i fun p hp=>hl p (aI _ hp)];omega
 rw[e A _ fun p hp=>h p (dc hp)];show (if sz k (its c)<=510 then 0 else 1)+big k B=(if sz k (its c)<=510 then 0 else 1)+0;rw[H B fun p hp=>h p (dn hp)]
theorem IY {k:Nat} {lo:Tx} {h:Option Tx} {P A B N:List (Tx×E (k+1))} {kc:Tx} {c0 c:E (k+1)} (sp:List Nat)
  (o:Rw (k+1) lo h (P++((A++(kc,c0)::B)++N))) (F:iP k (if P=[]/\A=[] then lo else kc) (uL h (B++N)) c)
  (hA:A=[]->P=[]) (I:B=[]->N=[]) (O:∀p∈A,Old (k+1) p.2) (J:Old (k+1) c) (K:∀p∈B,Old (k+1) p.2):
  uM k lo h (P++((A++(kc,c)::B)++N)) (P++(bH (cj (A++(kc,c)::B)) ((A++(kc,c)::B).foldl (bL k) ([],sp)).1++N)) (big k [(kc,c)]) sp ((A++(kc,c)::B).foldl (bL k) ([],sp)).2:=by
 obtain⟨h3,h4⟩:=o;rw[dN] at h4;rw[mB] at h3
 obtain⟨P',d,C,Z,Q,v,i,L,w⟩:∃(P' d:List (Tx×E (k+1))) (C:Tx),
   (∀(x:E (k+1)) (R:List (Tx×E (k+1))),bH lo (P++((A++(kc,x)::B)++R))=P'++((d++(C,x)::B)++R))/\
   (∀x:E (k+1),d++(C,x)::B=A++(kc,x)::B\/(P=[]/\d++(C,x)::B=bH lo (A++(kc,x)::B)))/\
   C=(if P=[]/\A=[] then lo else kc)/\(P'=[]↔P=[])/\(d=[]↔A=[])/\(∀p∈d,∃q∈A,p.2=q.2):=by
  cases P with
  |cons p P=>refine⟨(lo,p.2)::P,A,kc,fun _ _=>rfl,fun _=>dc rfl, ?_,by simp,Iff.rfl,fun p hp=>⟨p,hp,rfl⟩⟩;rw[if_neg (by simp)]
  |nil=>
   cases A with
   |nil=>refine⟨[],[],lo,fun _ _=>rfl,fun _=>dn ⟨rfl,rfl⟩, ?_,Iff.rfl,Iff.rfl,fun p hp=>(by cases hp)⟩;rw[if_pos ⟨rfl,rfl⟩]
   |cons a A=>
    refine⟨[],(lo,a.2)::A,kc,fun _ _=>rfl,fun _=>dn ⟨rfl,rfl⟩, ?_,Iff.rfl,by simp,fun p hp=> ?_⟩;·rw[if_neg (by simp)]
    ·grind
 rw[Z c0 N] at h4;rw[<-v] at F;have W:=IX sp h4 F (fun e=>i.2 (hA (L.1 e))) I (fun p hp=>by obtain⟨q,M,e⟩:=w p hp;rw[e];exact O q M) J K;have S:∀(x:Tx),x=cj (d++(C,c)::B)->((d++(C,c)::B).foldl (dM k x) ([],sp)).2=((A++(kc,c)::B).foldl (bL k) ([],sp)).2/\((d++(C,c)::B).foldl (dM k x) ([],sp)).1=bH x ((A++(kc,c)::B).foldl (bL k) ([],sp)).1:=by
  intro x g;obtain⟨f1,f2⟩:=oH k x (A++(kc,c)::B) [] sp;rw[setHd_nil] at f1 f2;rcases Q c with e|⟨_,e⟩;·rw[e];exact⟨f1.symm,f2.symm⟩
  ·rw[e,Ck];exact⟨f1.symm,f2.symm⟩
 obtain⟨f1,f2⟩:=S _ rfl;generalize g:cj (d++(C,c)::B)=x at*;generalize (d++(C,c)::B).foldl (dM k x) ([],sp)=r at*;generalize (A++(kc,c)::B).foldl (bL k) ([],sp)=rc at*;generalize j:cj (A++(kc,c)::B)=k0 at*;have H:big k (d++(C,c)::B)=big k [(kc,c)]:=by
  rw[Pc];·rfl
  ·intro p hp;have T:p∈P'++((d++(C,c0)::B)++N):=by
    rcases hp with hp|hp;·exact aj.2 (dn (aj.2 (dc (aj.2 (dc hp)))))
    ·exact aj.2 (dn (aj.2 (dc (aj.2 (dn (aI _ hp))))))
   obtain⟨u,hu⟩:=h4.each p T;exact hu.2.1
 have U:cB (k+1) (d++(C,c)::B)=cB (k+1) (A++(kc,c)::B):=by
  rcases Q c with e|⟨_,e⟩;·rw[e]
  ·rw[e,jQ]
 have X:dW (k+1) (d++(C,c)::B)=dW (k+1) (A++(kc,c)::B):=by
  rcases Q c with e|⟨_,e⟩;·rw[e]
  ·rw[e,sF]
 have Y:kK (k+1) (d++(C,c)::B)=kK (k+1) (A++(kc,c)::B):=by
  rcases Q c with e|⟨_,e⟩;·rw[e]
  ·rw[e,sG]
 have VC:cB (k+1) rc.1=cB (k+1) r.1:=by rw[f2,jQ]
 have VD:dW (k+1) rc.1=dW (k+1) r.1:=by rw[f2,sF]
 have VE:kK (k+1) rc.1=kK (k+1) r.1:=by rw[f2,sG]
 have n:P=[]->k0=[]:=by
  intro e;rw[<-j];cases A with
  |nil=>exact h3 (kc,c0) (by rw[e];rfl)
  |cons a A=>exact h3 a (by rw[e];rfl)
 have Zl:P≠[]->x=k0:=by
  intro e;rcases Q c with f|⟨f,_⟩;·rw[<-g,f,j]
  ·exact absurd f e
 have TL:∀R:List (Tx×E (k+1)),P≠[]->bH lo (P++R)=P'++R:=by
  intro R e;have:=Z c0 [];rw[fD _ _ _ e] at this;have f:bH lo P=P':=by
   rcases Q c0 with z|⟨z,_⟩;·rw[z] at this;exact List.append_cancel_right this
   ·exact absurd z e
  rw[fD _ _ _ e,f]
 refine⟨⟨?_, ?_⟩, ?_, ?_, ?_, ?_, ?_⟩
 ·rw[mB];intro p hp;by_cases e:P=[]
  ·subst e;cases m:rc.1 with
   |nil=>
    have:r.1=[]:=(by rw[f2,m];rfl);rw[m,(W.none this).2] at hp;cases hp
   |cons q l=>rw[m] at hp;cases hp;exact n rfl
  ·obtain⟨q,P2,rfl⟩:=sS e;exact h3 p hp
 ·rw[dN];have t:=W.seg;rw[f2] at t;by_cases e:P=[]
  ·have s:=i.2 e;subst e;rw[s] at t;by_cases m:rc.1=[]
   ·have:r.1=[]:=(by rw[f2,m];rfl);rw[(W.none this).2,m]
    trivial
   ·have hx2:bH lo (bH k0 rc.1++N)=bH x rc.1++N:=by
     rw[fD _ _ _ (by rw[ne_eq,qT];exact m),BR];congr 1;have D:x=lo:=by
      rcases Q c with f|⟨_,f⟩;·have:=Z c [];rw[s,dI,dI,bA,bA] at this;rw[<-g,<-this];exact lR lo (by simp)
      ·rw[<-g,f];exact lR lo (by simp)
     rw[D]
    rw[dI,hx2];exact t
  ·rw[TL _ e,<-Zl e];exact t
 ·rw[bT,bT,bT,bT,jQ,VC,W.cB,U]
 ·rw[bU,bU,bU,bU,sF,VD,<-X];have hp:=W.ck;rw[f1] at hp;generalize dW (k+1) r.1=a at*;generalize dW (k+1) (d++(C,c)::B)=b at*;generalize dW (k+1) P=pp;generalize dW (k+1) N=G;simp only[aF];refine List.Perm.append_left _ ?_;have h1:(a++(G++rc.2)).Perm ((a++rc.2)++G):=by rw[aF];exact List.Perm.append_left _ m7
  refine h1.trans ((List.Perm.append_right _ hp).trans ?_);rw[aF];exact List.Perm.append_left _ m7
 ·rw[cH,cH,cH,cH,sG,VE,W.fy,Y,H];omega
 ·have hs:=W.size;rw[H] at hs;rw[ep,ep,ep,ep];have e1:sz (k+1) (bH k0 rc.1)<=sz (k+1) (A++(kc,c)::B)+100*big k [(kc,c)]:=by
   have V:A++(kc,c)::B≠[]:=(by simp);have kL:sz (k+1) (bH x (A++(kc,c)::B))=sz (k+1) (d++(C,c)::B):=by
    rcases Q c with f|⟨_,f⟩;·have:x=k0:=(by rw[<-g,f,j]);rw[this,<-j,wm,f]
    ·rw[f];have:x=lo:=(by rw[<-g,f];exact lR lo V);rw[this]
   have sJ:∀y:Tx,sz (k+1) (bH y (A++(kc,c)::B))+k0.length=sz (k+1) (A++(kc,c)::B)+y.length:=(by intro y;obtain⟨q,l,e⟩:=sS V;rw[e,setHd_cons];have:q.1=k0:=(by rw[<-j,e];rfl);simp only[sz,eC];rw[<-this];omega);have:=sJ x;rw[f2] at hs;cases m:rc.1 with
   |nil=>exact aB _
   |cons q l=>rw[m,setHd_cons] at hs;rw[setHd_cons];simp only[sz,eC] at hs |-;omega
  omega
 ·intro ho p hp;by_cases e:P=[]
  ·subst e;cases m:rc.1 with
   |nil=>
    have:r.1=[]:=(by rw[f2,m];rfl);rw[m,(W.none this).2] at hp;cases hp
   |cons q l=>rw[m] at hp;cases hp;exact (W.head (x,q.2) (by rw[f2,m];rfl)).2
  ·obtain⟨q,P2,rfl⟩:=sS e;cases hp;exact ho _ (by simp)
end Tr
section
open Go.RowKit Lib
def jA (hi:List UInt8):Option Tr.Tx:=if hi=[] then av else aD hi
def ej:(k:Nat)->Tr.E k->List UInt8
 |0,v=>v
 |_+1,n=>pv ((Tr.hd n).page.getD 0)
def aq (k:Nat) (l:List (Tr.Tx×Tr.E k)):List It:=l.map fun p=>⟨p.1,ej k p.2,av⟩
def cS (pg:List (Option Wl.Text)):(k:Nat)->Tr.E k->Prop
 |0,_=>True
 |k+1,n=>(∃page,(Tr.hd n).page=aD page/\page<65536/\pg.getD page av=aD (Dk.full (cJ k (aq k (Tr.its n)))))/\(Tr.hd n).fresh=false/\∀p∈Tr.its n,cS pg k p.2
def zf:Option Nat->Int
 |none=>-1
 |some p=>p
def jB (pg:List (Option Wl.Text)) (k:Nat) (R:Nat->Tr.E (k+1)->List Nat->Prop) (i:It) (x:Tr.Tx×Tr.E (k+1)) (f:List Nat):Prop:=
 i.key=x.1/\i.val.length=2/\((i.node=av/\f=[]/\i.val=ej (k+1) x.2/\cS pg (k+1) x.2)\/∃q,i.node=aD q/\R q x.2 f)
def bp (pg:List (Option Wl.Text)) (k:Nat) (R:Nat->Tr.E (k+1)->List Nat->Prop):List It->List (Tr.Tx×Tr.E (k+1))->List (List Nat)->Prop
 |[],[],[]=>True
 |i::is,x::xs,f::fs=>jB pg k R i x f/\bp pg k R is xs fs
 |_,_,_=>False
structure kQ (pg:List (Option Wl.Text)) (k:Nat) (n:NV) (t:Tr.E (k+1)):Prop where
 level:n.level=k
 page:n.page=zf (Tr.hd t).page
 fresh:n.fresh=(Tr.hd t).fresh
 near:Tr.iP k n.lo (jA n.hi) t
 held:(Tr.hd t).fresh=false->∃page,(Tr.hd t).page=aD page/\page<65536/\pg.getD page av=aD (Dk.full (cJ k (aq k (Tr.its t))))/\(0<k->∀p∈Tr.its t,(match k,p.2 with|0,_=>True|_+1,c=>(Tr.hd c).page.isSome=true))
def dO (M:Nat->Option NV) (pg:List (Option Wl.Text)):(k:Nat)->Nat->Tr.E (k+1)->List Nat->Prop
 |0,p,t,F=>∃n,M p=aD n/\kQ pg 0 n t/\n.its=aq 0 (Tr.its t)/\F=[p]
 |k+1,p,t,F=>∃n fs,M p=aD n/\kQ pg (k+1) n t/\bp pg k (dO M pg k) n.its (Tr.its t) fs/\F=p::fs.flatten
section
variable {M M':Nat->Option NV} {pg:List (Option Wl.Text)} {k:Nat} {R R':Nat->Tr.E (k+1)->List Nat->Prop}
theorem jB.mono {i:It} {x:Tr.Tx×Tr.E (k+1)} {f:List Nat} (h:jB pg k R i x f) (b:∀q,i.node=aD q->R q x.2 f->R' q x.2 f):jB pg k R' i x f:=by
 obtain⟨H,a,h3⟩:=h;refine⟨H,a, ?_⟩;rcases h3 with h3|⟨q,c,h3⟩;·exact dc h3
 ·grind
theorem bp.mono:∀{is:List It} {xs:List (Tr.Tx×Tr.E (k+1))} {fs:List (List Nat)},bp pg k R is xs fs->(∀q c f,f∈fs->R q c f->R' q c f)->bp pg k R' is xs fs
 |[],[],[],_,_=>trivial
 |_::_,_::_,f::_,h,hR=>⟨h.1.mono fun _ _ h'=>hR _ _ f aE h',bp.mono h.2 fun q c g hg=>hR q c g (aI _ hg)⟩
 |[],[],_::_,h,_=>h.elim
 |[],_::_,_,h,_=>h.elim
 |_::_,[],_,h,_=>h.elim
 |_::_,_::_,[],h,_=>h.elim
theorem bp.len:∀{is:List It} {xs:List (Tr.Tx×Tr.E (k+1))} {fs:List (List Nat)},bp pg k R is xs fs->is.length=xs.length/\fs.length=xs.length
 |[],[],[],_=>⟨rfl,rfl⟩
 |_::_,_::_,_::_,h=>by have:=bp.len h.2;simp only[a_];omega
 |[],[],_::_,h=>h.elim
 |[],_::_,_,h=>h.elim
 |_::_,[],_,h=>h.elim
 |_::_,_::_,[],h=>h.elim
theorem bp.append:∀{is:List It} {xs:List (Tr.Tx×Tr.E (k+1))} {fs:List (List Nat)} {T:List It} {x:List (Tr.Tx×Tr.E (k+1))} {f:List (List Nat)},bp pg k R is xs fs->bp pg k R T x f->bp pg k R (is++T) (xs++x) (fs++f)
 |[],[],[],_,_,_,_,h=>h
 |_::_,_::_,_::_,_,_,_,h,h'=>⟨h.1,bp.append h.2 h'⟩
 |[],[],_::_,_,_,_,h,_=>h.elim
 |[],_::_,_,_,_,_,h,_=>h.elim
 |_::_,[],_,_,_,_,h,_=>h.elim
 |_::_,_::_,[],_,_,_,h,_=>h.elim
theorem bp.parts:∀{xs X:List (Tr.Tx×Tr.E (k+1))} {is:List It} {fs:List (List Nat)},bp pg k R is (xs++X) fs->∃I a f1 f2,is=I++a/\fs=f1++f2/\bp pg k R I xs f1/\bp pg k R a X f2
 |[],_,is,fs,h=>⟨[],is,[],fs,rfl,rfl,trivial,h⟩
 |x::xs,X,i::is,f::fs,h=>by obtain⟨I,a,f1,f2,rfl,rfl,H,b⟩:=bp.parts (xs:=xs) h.2;exact⟨i::I,a,f::f1,f2,rfl,rfl,⟨h.1,H⟩,b⟩
 |_::_,_,[],_,h=>h.elim
 |_::_,_,_::_,[],h=>h.elim
theorem bp.cons_inv {x:Tr.Tx×Tr.E (k+1)} {xs:List (Tr.Tx×Tr.E (k+1))} {is:List It} {fs:List (List Nat)} (h:bp pg k R is (x::xs) fs):∃i T f F,is=i::T/\fs=f::F/\jB pg k R i x f/\bp pg k R T xs F:=by
 match is,fs,h with
 |i::is,f::fs,h=>exact⟨i,is,f,fs,rfl,rfl,h.1,h.2⟩
 |[],_,h=>exact h.elim
 |_::_,[],h=>exact h.elim
theorem bp.uN {is:List It} {fs:List (List Nat)} (h:bp pg k R is [] fs):is=[]/\fs=[]:=by
 match is,fs,h with
 |[],[],_=>exact⟨rfl,rfl⟩
 |_::_,_,h=>exact h.elim
 |[],_::_,h=>exact h.elim
end
section
variable {M M':Nat->Option NV} {pg:List (Option Wl.Text)}
theorem dO.head:∀{k p:Nat} {t:Tr.E (k+1)} {F:List Nat},dO M pg k p t F->∃n,M p=aD n/\kQ pg k n t/\p∈F
 |0,_,_,_,⟨n,h1,h2,_,h4⟩=>⟨n,h1,h2,by rw[h4];exact aE⟩
 |_+1,_,_,_,⟨n,_,h1,h2,_,h4⟩=>⟨n,h1,h2,by rw[h4];exact aE⟩
theorem dO.frame:∀{k p:Nat} {t:Tr.E (k+1)} {F:List Nat},dO M pg k p t F->(∀q∈F,M' q=M q)->dO M' pg k p t F
 |0,_,_,_,⟨n,h1,h2,h3,h4⟩,hF=>⟨n,by rw[hF _ (by rw[h4];exact aE)];exact h1,h2,h3,h4⟩
 |k+1,_,_,_,⟨n,fs,h1,h2,h3,h4⟩,hF=>⟨n,fs,by rw[hF _ (by rw[h4];exact aE)];exact h1,h2,h3.mono fun _ _ f hf hr=>dO.frame hr fun q h=>hF q (by rw[h4];exact aI _ (List.mem_flatten.2 ⟨f,hf,h⟩)),h4⟩
theorem bp.frame {k:Nat} {is:List It} {xs:List (Tr.Tx×Tr.E (k+1))} {fs:List (List Nat)} (h:bp pg k (dO M pg k) is xs fs) (hF:∀q∈fs.flatten,M' q=M q):bp pg k (dO M' pg k) is xs fs:=
 h.mono fun _ _ f hf hr=>dO.frame hr fun q H=>hF q (List.mem_flatten.2 ⟨f,hf,H⟩)
end
theorem pY:∀(l:List (Tr.Tx×Tr.E 0)),cz (aq 0 l)=Tr.sz 0 l
 |[]=>rfl
 |p::l=>by
  show 2+p.1.length+(ej 0 p.2).length+cz (aq 0 l)=_;rw[pY l];rfl
theorem Sl (p:Nat):(pv p).length=2:=rfl
theorem pZ (k:Nat):∀(l:List (Tr.Tx×Tr.E (k+1))),cz (aq (k+1) l)=Tr.sz (k+1) l
 |[]=>rfl
 |p::l=>by
  show 2+p.1.length+(ej (k+1) p.2).length+cz (aq (k+1) l)=_;rw[pZ k l];rfl
theorem iH:∀(k:Nat) (l:List (Tr.Tx×Tr.E k)),cz (aq k l)=Tr.sz k l
 |0,l=>pY l
 |k+1,l=>pZ k l
theorem bp.sz {pg:List (Option Wl.Text)} {k:Nat} {R:Nat->Tr.E (k+1)->List Nat->Prop}:∀{is:List It} {xs:List (Tr.Tx×Tr.E (k+1))} {fs:List (List Nat)},bp pg k R is xs fs->cz is=Tr.sz (k+1) xs
 |[],[],[],_=>rfl
 |i::is,x::xs,_::fs,h=>by
  have I:=bp.sz h.2;show 2+i.key.length+i.val.length+cz is=2+x.1.length+2+Tr.sz (k+1) xs;rw[I,h.1.1,h.1.2.1]
 |[],[],_::_,h=>h.elim
 |[],_::_,_,h=>h.elim
 |_::_,[],_,h=>h.elim
 |_::_,_::_,[],h=>h.elim
theorem bp.keys {pg:List (Option Wl.Text)} {k:Nat} {R:Nat->Tr.E (k+1)->List Nat->Prop}:∀{is:List It} {xs:List (Tr.Tx×Tr.E (k+1))} {fs:List (List Nat)},bp pg k R is xs fs->is.map It.key=xs.map (·.1)
 |[],[],[],_=>rfl
 |i::is,x::xs,_::fs,h=>by rw[bM,bM,bp.keys h.2,h.1.1]
 |[],[],_::_,h=>h.elim
 |[],_::_,_,h=>h.elim
 |_::_,[],_,h=>h.elim
 |_::_,_::_,[],h=>h.elim
theorem dO.sz {M:Nat->Option NV} {pg:List (Option Wl.Text)}:∀{k p:Nat} {t:Tr.E (k+1)} {F:List Nat} {n:NV},dO M pg k p t F->M p=aD n->cz n.its=Tr.sz k (Tr.its t)/\n.its.map It.key=(Tr.its t).map (·.1)/\n.its.length=(Tr.its t).length
 |0,_,t,_,n,⟨n',h1,_,h3,_⟩,hn=>by rw[hn] at h1;injection h1 with h1;subst h1;rw[h3];exact⟨iH 0 _,by unfold aq;rw[List.map_map];rfl,by unfold aq;rw[aT]⟩
 |k+1,_,t,_,n,⟨n',fs,h1,_,h3,_⟩,hn=>by rw[hn] at h1;injection h1 with h1;subst h1;exact⟨h3.sz,h3.keys,h3.len.1⟩
namespace Tr
theorem wo {α:Type} {O:Tx->Option Tx->α->Prop} {C:α->Tx->α->Prop} {h:Option Tx} (d:∀a u x,O a u x->tT a u):∀{l:List (Tx×α)},dB O C h l->(l.map (·.1)).Pairwise (fun a b=>lt a b=true)/\∀p∈l,tT p.1 h
 |[],_=>⟨List.Pairwise.nil,fun p hp=>by cases hp⟩
 |[a],s=>⟨List.pairwise_singleton _ _,fun p hp=>by rw[cQ.1 hp];exact d _ _ _ s⟩
 |a::b::r,s=>by
  obtain⟨H,e⟩:=wo d (l:=b::r) s.2.2;refine⟨?_,fun p hp=> ?_⟩
  ·rw[bM,cF];refine⟨fun c hc=> ?_,H⟩;rw[bM] at hc H;rcases aX.1 hc with rfl|hc;·exact s.2.1.1
   ·exact lt_trans s.2.1.1 ((cF.1 H).1 c hc)
  ·rcases aX.1 hp with rfl|hp;·exact vE (le_of_lt s.2.1.1) (e b aE)
   ·exact e p hp
theorem jk:∀(k:Nat) (l:List (Tx×E k)),2*l.length<=sz k l
 |_,[]=>aB _
 |k,p::l=>by
  have:=jk k l;rw[a_,sz];unfold jw;omega
end Tr
theorem Pd {lo hi key:List UInt8} (H:Tr.le lo key) (h:Tr.tT key (jA hi)):hasB lo hi key=true:=by
 unfold hasB;have e:Tr.lt key lo=false:=H;rw[e];by_cases hh:hi=[];·subst hh;rfl
 ·have E:Tr.lt key hi=true:=by unfold jA at h;rw[if_neg hh] at h;exact h
  rw[E];simp
theorem iI {k:Nat} {lo:Tr.Tx} {h:Option Tr.Tx} {l:List (Tr.Tx×Tr.E k)} (j:Tr.Rw k lo h l):
  (l.map (·.1)).Pairwise (fun a b=>Tr.lt a b=true)/\(∀p∈(if k=0 then l else l.tail),Tr.le lo p.1/\Tr.tT p.1 h)/\∀p∈l,p.1.length<=96:=by
 obtain⟨m,H⟩:=j;have i:∀a u (x:Tr.E k),Tr.Ok k a u x->Tr.tT a u:=fun a u x=>Tr.Ok.lt;unfold Tr.r9 at H;cases l with
 |nil=>exact⟨List.Pairwise.nil,(fun p hp=>by by_cases e:k=0<;>simp[e] at hp),fun p hp=>by cases hp⟩
 |cons a r=>
  have hh:=m a rfl;by_cases e:k=0
  ·rw[if_pos e] at H hh |-;obtain⟨K,f⟩:=Tr.wo i H;refine⟨K,fun p hp=>⟨?_,f p hp⟩,fun p hp=> ?_⟩
   ·rcases aX.1 hp with rfl|hp;·exact hh.1
    ·rw[bM,cF] at K;exact Tr.le_trans hh.1 (Tr.le_of_lt (K.1 _ (List.mem_map_of_mem hp)))
   ·rcases aX.1 hp with rfl|hp;·exact hh.2
    ·exact Tr.dB.lens H p hp
  ·rw[if_neg e] at H hh |-;have d:Tr.dB (Tr.Ok k) (Tr.cut k) h ((lo,a.2)::r):=H;obtain⟨K,f⟩:=Tr.wo i d;rw[bM,cF] at K;have g:∀p∈r,Tr.lt lo p.1=true:=fun p hp=>K.1 _ (List.mem_map_of_mem hp);refine⟨?_,fun p hp=>⟨Tr.le_of_lt (g p hp),f p (aI _ hp)⟩,fun p hp=> ?_⟩
   ·rw[bM,cF];refine⟨fun c hc=> ?_,K.2⟩;rw[hh];have:=K.1 c hc;cases c with
    |nil=>exact absurd this (by rw[show Tr.lt lo []=false from by cases lo<;>rfl];decide)
    |cons _ _=>rfl
   ·rcases aX.1 hp with rfl|hp;·grind
    ·exact Tr.dB.lens d p hp
theorem dJ (k:Nat) (l:List (Tr.Tx×Tr.E k)):(aq k l).map It.key=l.map (·.1):=by unfold aq;rw[List.map_map];rfl
theorem wu {its:List It} (h:(its.map It.key).Pairwise (fun a b=>Tr.lt a b=true)):KS its:=by grind [KS]
theorem h_ {pg:List (Option Wl.Text)} {k page:Nat} {c:Tr.E (k+1)} {lo hi:List UInt8} (g:k<=15) (hs:cS pg (k+1) c) (hp:(Tr.hd c).page=aD page) (j:Tr.Ok (k+1) lo (jA hi) c):O9 pg page k (aq k (Tr.its c)) lo hi:=by
 obtain⟨⟨Q,b,_,Y⟩,_,r⟩:=hs;rw[hp] at b;injection b with b;subst b;obtain⟨O,l,o⟩:=j;obtain⟨m,K,n⟩:=iI o;have d:=iH k (Tr.its c);have a:(aq k (Tr.its c)).length=(Tr.its c).length:=by unfold aq;rw[aT]
 refine⟨Y,fun rg cap=>⟨g, ?_, ?_, ?_, ?_⟩, ?_, ?_,by rw[d];exact l, ?_⟩
 ·show aq k (Tr.its c)≠[];intro e;have:(aq k (Tr.its c)).length=0:=by rw[e];rfl
  rw[a] at this;exact O (List.eq_nil_of_length_eq_zero this)
 ·show 0<k->∀h:0<(aq k (Tr.its c)).length,(aq k (Tr.its c))[0].key=[];intro P h;have f:0<(Tr.its c).length:=by rw[<-a];exact h
  have hh:=o.1 ((Tr.its c)[0]) (by rw[List.head?_eq_getElem?,aK f]);rw[if_neg (by omega)] at hh;have e:(aq k (Tr.its c))[0]=⟨((Tr.its c)[0]).1,ej k ((Tr.its c)[0]).2,av⟩:=List.getElem_map ..;rw[e];exact hh
 ·exact wu (by rw[show (NV.read k (aq k (Tr.its c)) rg cap).its=aq k (Tr.its c) from rfl,dJ];exact m)
 ·show ∀i∈aq k (Tr.its c),i.key.length<=96/\i.val.length<=56/\(0<k->i.val.length=2);intro i H;unfold aq at H;obtain⟨p,y,rfl⟩:=List.mem_map.1 H;refine⟨n p y, ?_⟩
  match k,c,p,y,o with
  |0,c,p,y,o=>
   have q:Tr.dB (Tr.Ok 0) (Tr.cut 0) (jA hi) (Tr.its c):=o.2;obtain⟨u,hu⟩:=q.each p y;exact⟨hu.1,fun h=>absurd h (by decide)⟩
  |k+1,c,p,_,_=>exact⟨(by show (pv _).length<=56;rw[Sl];decide),fun _=>rfl⟩
 ·rw[a];have:=Tr.jk k (Tr.its c);omega
 ·grind [aq]
 ·intro i H;have:∃p∈(if k=0 then Tr.its c else (Tr.its c).tail),i.key=p.1:=by
   by_cases P:k=0;·grind [aq]
   ·rw[if_neg P] at H |-;unfold aq at H;rw[<-List.map_tail] at H;obtain⟨p,y,rfl⟩:=List.mem_map.1 H;exact⟨p,y,rfl⟩
  obtain⟨p,y,e⟩:=this;rw[e];exact Pd (K p y).1 (K p y).2
theorem dO.dom {M:Nat->Option NV} {pg:List (Option Wl.Text)}:∀{k p:Nat} {t:Tr.E (k+1)} {F:List Nat},dO M pg k p t F->∀q∈F,∃m,M q=aD m
 |0,p,_,_,⟨n,h1,_,_,h4⟩,q,H=>by rw[h4] at H;rw[cQ.1 H];exact⟨n,h1⟩
 |k+1,p,t,_,⟨n,fs,h1,_,h3,h4⟩,q,H=>by
  rw[h4] at H;rcases aX.1 H with rfl|H;·exact⟨n,h1⟩
  ·have key:∀{is:List It} {xs:List (Tr.Tx×Tr.E (k+1))} {fs:List (List Nat)},bp pg k (dO M pg k) is xs fs->∀q∈fs.flatten,∃m,M q=aD m:=by
    intro is;induction is with
    |nil=>
     intro xs fs h q H;cases xs with
     |nil=>cases fs with
      |nil=>cases H
      |cons _ _=>exact h.elim
     |cons _ _=>exact h.elim
    |cons i is I=>
     intro xs fs h q H;cases xs with
     |nil=>exact h.elim
     |cons x xs=>cases fs with
      |nil=>exact h.elim
      |cons f fs=>
       rw[dA] at H;rcases aj.1 H with H|H
       ·obtain⟨⟨_,_,hi⟩,_⟩:=h;rcases hi with⟨_,e,_⟩|⟨r,_,hr⟩;·rw[e] at H;cases H
        ·exact dO.dom hr q H
       ·exact I h.2 q H
   exact key h3 q H
theorem bp.dom {M:Nat->Option NV} {pg:List (Option Wl.Text)} {k:Nat}:∀{is:List It} {xs:List (Tr.Tx×Tr.E (k+1))} {fs:List (List Nat)},bp pg k (dO M pg k) is xs fs->∀q∈fs.flatten,∃m,M q=aD m
 |[],[],[],_,q,H=>by cases H
 |i::is,x::xs,f::fs,h,q,H=>by
  rw[dA] at H;rcases aj.1 H with H|H
  ·obtain⟨⟨_,_,hi⟩,_⟩:=h;rcases hi with⟨_,e,_⟩|⟨r,_,hr⟩;·rw[e] at H;cases H
   ·exact dO.dom hr q H
  ·exact bp.dom h.2 q H
 |[],[],_::_,h,_,_=>h.elim
 |[],_::_,_,h,_,_=>h.elim
 |_::_,[],_,h,_,_=>h.elim
 |_::_,_::_,[],h,_,_=>h.elim
theorem ia {pg:List (Option Wl.Text)} {k:Nat} {R:Nat->Tr.E (k+1)->List Nat->Prop}:∀{l:List (Tr.Tx×Tr.E (k+1))},(∀p∈l,cS pg (k+1) p.2)->bp pg k R (aq (k+1) l) l (l.map fun _=>[])
 |[],_=>trivial
 |p::l,h=>⟨⟨rfl,rfl,dc ⟨rfl,rfl,rfl,h p aE⟩⟩,ia (l:=l) fun q H=>h q (aI _ H)⟩
theorem iJ {α β:Type} (l:List α):(l.map fun _=>([]:List β)).flatten=[]:=by simp_all
theorem qh {pg:List (Option Wl.Text)} {k page:Nat} {c:Tr.E (k+1)} {lo hi:List UInt8} {rg cap:Nat} (hs:cS pg (k+1) c) (hp:(Tr.hd c).page=aD page) (b:Tr.Ok (k+1) lo (jA hi) c):kQ pg k (NV.got k (aq k (Tr.its c)) rg cap page lo hi) c:=by
 obtain⟨⟨Q,h,H,y⟩,a,r⟩:=hs;rw[hp] at h;injection h with h;subst h;refine⟨rfl,by rw[hp];rfl,a.symm,b.near,fun _=>⟨page,hp,H,y,fun f p d=> ?_⟩⟩
 match k,c,p,r p d with
 |0,_,_,_=>trivial
 |k+1,_,_,hst=>obtain⟨⟨pq,e,_⟩,_⟩:=hst;show (Tr.hd _).page.isSome=true;rw[e];rfl
theorem GK {M:Nat->Option NV} {pg:List (Option Wl.Text)} {k page p:Nat} {c:Tr.E (k+1)} {lo hi:List UInt8} {rg cap:Nat} (hs:cS pg (k+1) c) (hp:(Tr.hd c).page=aD page) (H:Tr.Ok (k+1) lo (jA hi) c) (h:M p=aD (NV.got k (aq k (Tr.its c)) rg cap page lo hi)):dO M pg k p c [p]:=by
 have hown:=qh (rg:=rg) (cap:=cap) hs hp H
 match k,c,hs,hp,H,h,hown with
 |0,c,hs,hp,H,h,hown=>exact⟨_,h,hown,rfl,rfl⟩
 |k+1,c,hs,hp,H,h,hown=>refine⟨_,(Tr.its c).map fun _=>[],h,hown,ia hs.2.2, ?_⟩;rw[iJ]
theorem Aw {α:Type} {O:Tr.Tx->Option Tr.Tx->α->Prop} {C:α->Tr.Tx->α->Prop} {h:Option Tr.Tx} {A:List (Tr.Tx×α)} {x:Tr.Tx×α} {B:List (Tr.Tx×α)} (s:Tr.dB O C h (A++x::B)):O x.1 (Tr.uL h B) x.2:=by
 have s2:=Tr.dB.behind s;cases B with
 |nil=>exact s2
 |cons b B=>exact s2.1
theorem fK {α:Type} (f:α->List UInt8) (A:List α) (b:α) (B:List α):((A++b::B).map f).getD A.length []=f b:=by grind
theorem mD {k:Nat} {n:NV} {t:Tr.E (k+2)} {A B:List (Tr.Tx×Tr.E (k+1))} {key:Tr.Tx} {c:Tr.E (k+1)} (hn:Tr.iP (k+1) n.lo (jA n.hi) t) (g:Tr.its t=A++(key,c)::B) (i:n.its.map It.key=(Tr.its t).map (·.1)):
  Tr.Ok (k+1) (eW n A.length) (jA (eu n A.length)) c:=by
 obtain⟨_,_,h4⟩:=hn;rw[Tr.dN,g] at h4;have f:n.its.length=(A++(key,c)::B).length:=by grind [List.length,aT]
 have H:eW n A.length=if A=[] then n.lo else key:=by simp_all[eW]
 have l:∀b B',B=b::B'->eu n A.length=b.1:=by simp_all[eu,au]
 have N:B=[]->eu n A.length=n.hi:=by simp_all[eu]
 have j:Tr.Ok (k+1) (if A=[] then n.lo else key) (Tr.uL (jA n.hi) B) c/\(∀b B',B=b::B'->b.1≠[]):=by
  cases A with
  |nil=>
   have h:Tr.dB (Tr.Ok (k+1)) (Tr.cut (k+1)) (jA n.hi) ([]++(n.lo,c)::B):=h4;refine⟨by rw[if_pos rfl];exact Aw h,fun b B' e=> ?_⟩;rw[e] at h;have:=h.2.1.1;intro d;rw[d] at this;rw[show Tr.lt n.lo []=false from by cases n.lo<;>rfl] at this;cases this
  |cons a A=>
   have h:Tr.dB (Tr.Ok (k+1)) (Tr.cut (k+1)) (jA n.hi) (((n.lo,a.2)::A)++(key,c)::B):=h4;refine⟨by rw[if_neg (by simp)];exact Aw h,fun b B' e=> ?_⟩;rw[e] at h;have:=(Tr.dB.append.1 h).2.1.1;intro d;rw[d] at this;rw[show Tr.lt key []=false from by cases key<;>rfl] at this;cases this
 rw[H];cases B with
 |nil=>rw[N rfl];exact j.1
 |cons b B'=>
  rw[l b B' rfl];have:jA b.1=aD b.1:=by unfold jA;rw[if_neg (j.2 b B' rfl)]
  rw[this];exact j.1
end
end Go.Proofs.YtlpfhjbpknbndaaGreatDoor
