/- Elder texts, cut down and merged (35). -/
import Derived.Test.YtgfdijemhanfkaaGreatDoorP34
import Derived.Test.YtgfdijemhanfkaaGreatDoorP27
import Derived.Test.YtgfdijemhanfkaaGreatDoorP21
import Derived.Test.YtgfdijemhanfkaaGreatDoorPTk
set_option linter.unusedSimpArgs false
set_option linter.unusedVariables false
set_option maxRecDepth 100000
set_option maxHeartbeats 8000000
namespace Go.Proofs.YtgfdijemhanfkaaGreatDoor
open _root_.Go.Proofs.Tryz
open Option renaming none→aK,some→av
open Value renaming slice→cx,int→bf,string→cu,bool→ey,pointer→dr,tuple→ec
open Or renaming inl→cS,inr→dc
open IntKind renaming i64→ct
open Ending renaming returned→c8
open Obj renaming cells→dg
open Nat renaming le_trans->aN,le_refl->af,zero_le->aA,lt_succ_self->lK,zero_add->bG
open World renaming size_alloc->aY
open List renaming mem_singleton->bB,length_map->aL,getElem?_map->cY,getElem?_eq_getElem->aI,getElem_mem->bp,map_append->bM
section
open Go.RowKit Lib
section
variable {E:Ev} {X0 X X' Y V w:World} {R0 R R':Φ} {ps:Γ} {pg:Ξ} {rt:Δ} {key vl:List UInt8} {q pr:Nat}
def WY:Tr.E 1:=Tr.mk ⟨aK,false⟩ ([]:List (Tr.Tx×Tr.E 0))
theorem VA (h:TS E X0 R0 R ps pg rt (fun _=>aK) V) (a:Below V.heap.size V Y) (w:V.heap.size<=q) (J:V.heap.size<=pr) (o:pr≠q) {g c':Nat} {m:NV} (hg:V.heap.size<=g) (T:g≠pr) (H:m=⟨0,ak 0 [((key,vl):Tr.Tx×Tr.E 0)],g,0,c',-1,[],[],0,0,false,true⟩) (c:Nd Y q m) (d:bk 0 Y (cx (av ⟨g,0,aK⟩) 1 c') (ak 0 [((key,vl):Tr.Tx×Tr.E 0)])) (i:bg dA Y pr 0 [q]) (F:pr<Y.heap.size) (j:key.length<=96) (z:vl.length<=56):
  ∃R',LM E X0 R0 R' ps pg rt (upd (fun _=>aK) q m) Y q m WY ([(key,vl)]:List (Tr.Tx×Tr.E 0)) 0 WY [] [] [] [] pr:=by
 have L:Tr.Ord [] aK ([(key,vl)]:Tr.eO):=Tr.Ord.put (key:=key) (v:=vl) (l:=[]) ⟨.nil,fun _ h=>χ,fun _ h=>χ,fun _ h=>χ,fun _ h=>χ⟩ (Tr.nil_le _) trivial j z;have B:q<Y.heap.size/\g<Y.heap.size:=⟨c.blk.lt,(Own.block d g rfl).2⟩;have A:m.rg=g:=zaI
 have k:Mem Y (upd (fun _=>aK) q m):=h.mem.add a w (by rw[A];exact hg) c ⟨zaI,by rw[H];exact d⟩;have n:∀b,MB (upd (fun _=>aK) q m) b->b=q\/b=g:=by
  rintro b ⟨r,y,hr,j⟩;rcases aO hr with⟨rfl,rfl⟩|⟨_,hr⟩
  ·rcases j with rfl|j;·exact cS rfl
   ·exact dc (j.trans A)
  ·cases hr
 have G:=h.but.size
 have p:TS E X0 R0 (fun b=>R b\/b=q\/b=g\/b=pr) ps pg rt (upd (fun _=>aK) q m) Y:=h.own (S:=fun _=>False) (aE.aF a _) (fun _ _ f=>f.elim) k (fun b a=>by
  rcases n b a with rfl|rfl;·exact⟨dc (cS rfl),κ⟩
  ·exact⟨dc (dc (cS rfl)),κ⟩) (fun _ h=>cS h) (fun b a=>by
  rcases a with a|rfl|rfl|rfl;·exact cS a
  ·right;omega
  ·right;omega
  ·right;omega)
 have t:m.lo=[]:=zaI
 have u:m.hi=[]:=zaI
 refine⟨_,p, ?_,bF _ _ _,zaI,zaI,zaK,zaK,⟨?_, ?_⟩,dc ⟨rfl,List.cons_ne_nil _ _⟩,ν,i,⟨dc (dc (dc rfl)),fun s=> ?_⟩,List.nodup_nil,fun x C=>(by cases C),ξ⟩;·rw[t,u];exact .top
 ·show Tr.sz 0 ([(key,vl)]:List (Tr.Tx×Tr.E 0))<=664;have D:=Tr.PV (key:=key) (v:=vl) ([]:Tr.eO);refine aN D ?_;show 0+_<=664;omega
 ·show Tr.Rw 0 m.lo (j8 m.hi) _;rw[t,u];exact Tr.PT L
 ·rcases n _ s with e|e;·exact o e
  ·exact T e.symm
theorem x_ (h:TS E X0 R0 R ps pg rt (fun _=>aK) V) (t:X=(V.alloc (dg #[bf ct 0,cx aK 0 0,bf ct (-1),cu ⟨#[]⟩,cu ⟨#[]⟩,bf ct 0,bf ct 0,ey false] 170)).alloc (dg #[dr (av ⟨V.heap.size,0,aK⟩)] 165)) (hq:q=V.heap.size) (J7:pr=V.heap.size+1) (u:key.length<=96) (hv:vl.length<=56) (ZY:ps.length<=60000000) (ef:E.place<16):
  X.cell? ⟨pr,0,aK⟩=av (dr (av ⟨q,0,aK⟩))/\Calls prog 88 #[ptr q,cu (bs key)] X fun e X'=>
  (∃a:Nat,e=c8 (ec #[bf ct a,ey false])/\a<=400/\∃rv rn rc,X'.cell? ⟨q,1,aK⟩=av (cx rv rn rc)/\∀W ib,W=X'.alloc (dg #[cu (bs key),cu ⟨#[]⟩,dr aK] 175)->ib=X'.heap.size->Calls prog 89 #[cx rv rn rc,bf ct a,cx (av ⟨ib,0,aK⟩) 1 1] W fun e iG=>
   ∃g n' c',e=c8 (cx (av ⟨g,0,aK⟩) n' c')/\a<n'/\n'<=c'/\n'<=401/\(∃v,iG.cell? ⟨q,1,aK⟩=av v)/\iG.frozen? ⟨q,1,aK⟩=false/\(∃v,iG.cell? ⟨g,a*3+1,aK⟩=av v)/\iG.frozen? ⟨g,a*3+1,aK⟩=false/\g≠q/\
    Calls prog 90 #[ptr E.tb,cx (av ⟨pr,0,aK⟩) (0+1) 1] ((iG.setCell ⟨q,1,aK⟩ (cx (av ⟨g,0,aK⟩) n' c')).setCell ⟨g,a*3+1,aK⟩ (cu (bs vl))) fun e w'=>∃c:Int,e=c8 (bf ct c)/\Done E X0 R0 ps pg rt (Tr.put [] key vl) [] c w'):=by
 obtain⟨d,H⟩:=ξx (V.alloc (dg #[bf ct 0,cx aK 0 0,bf ct (-1),cu ⟨#[]⟩,cu ⟨#[]⟩,bf ct 0,bf ct 0,ey false] 170))
 have J:Below V.heap.size V d:=by rw[H];exact (Below.refl _ V).alloc (af _) _
 have A:d.heap.size=V.heap.size+1:=by rw[H,aY]
 have L:aW d q 170 [bf ct 0,cx aK 0 0,bf ct (-1),cu ⟨#[]⟩,cu ⟨#[]⟩,bf ct 0,bf ct 0,ey false]:=by rw[H,hq];exact aW.new V _ _
 rw[<-H] at t
 have aQ:Below d.heap.size d X:=by rw[t];exact (Below.refl _ d).alloc (af _) _
 have ZV:Below V.heap.size V X:=J.trans (aQ.mono κ)
 have hsX:X.heap.size=V.heap.size+2:=by rw[t,aY,A]
 have w:=L.below aQ κ
 have x:aW X pr 165 [dr (av ⟨q,0,aK⟩)]:=by rw[t,J7,<-A,hq];exact aW.new d _ _
 have M:bg dA X pr 0 [q]:=bg.dZ x rfl
 clear H t
 refine⟨x.cell (j:=0) rfl,(Jb q (w.cell (j:=1) rfl) key).mono ?_⟩
 rintro e X' ⟨rfl,p⟩
 have y:=w.below p κ
 refine⟨0,rfl,ξ,aK,0,0,y.cell (j:=1) rfl,fun W ib hW N=> ?_⟩
 have f:Below X'.heap.size X' W:=by rw[hW];exact (Below.refl _ X').alloc (af _) _
 have z:aW W ib 175 [cu (bs key),cu ⟨#[]⟩,dr aK]:=by rw[hW,N];exact aW.new X' _ _
 have jK:bg aj W ib 0 [⟨key,[],aK⟩]:=bg.dZ z rfl
 have hs1:=p.size
 have kH:=f.size
 refine (Aa (B:=0) (l:=[]) (it:=⟨key,[],aK⟩) (i:=0) (Own.nil aj _ 0 W) (aA _) ξ jK (fun k u=>by cases u) ⟨_,z⟩ (af _)).mono ?_
 rintro e iG ⟨v',rfl,r,OY,P,ZU⟩
 have r:bk 0 iG v' [⟨key,[],aK⟩]:=r
 obtain⟨g,c',rfl,-,Gd,Q⟩:=Own.form r (lK 0)
 have hgr:W.heap.size<=g:=by
  rcases P with e|e;·cases e
  ·exact e g rfl
 have U:g≠q:=κ
 have Tl:g≠pr:=κ
 have S:Below W.heap.size W iG:=OY.below (af _) fun k _ e=>zaH
 have o:=(y.below f κ).below S κ
 have Z:=bt (Own.lies r) 0 (lK 0)
 have n:=zY [⟨key,[],aK⟩] 0 1 (lK 0) ξ ⟨key,vl,aK⟩ (cu (bs vl)) rfl
 obtain⟨Y,SE⟩:=ξx (iG.setCell ⟨q,1,aK⟩ (cx (av ⟨g,0,aK⟩) 1 c'))
 have K:aE (fun b=>b=q) iG Y:=by rw[SE];exact (aE.refl (fun b=>b=q) iG).setCell _ _ fun _=>rfl
 have YY:bk 0 Y (cx (av ⟨g,0,aK⟩) 1 c') [⟨key,[],aK⟩]:=Own.but r K fun b p e=>U (by have e2:g=b:=Option.some.inj p;rw[e2,e])
 have O:bk 0 (Y.setCell ⟨g,0*3+1,aK⟩ (cu (bs vl))) (cx (av ⟨g,0,aK⟩) 1 c') [⟨key,vl,aK⟩]:=by have h1:=(World.ownsRow.stored YY (0*3+1) (cu (bs vl))).1;unfold bk Own;have A8:aj.cells ([⟨key,vl,aK⟩]:List It)=_:=n;rw[A8];exact h1
 have C:aE (fun b=>b=g) Y (Y.setCell ⟨g,0*3+1,aK⟩ (cu (bs vl))):=(aE.refl (fun b=>b=g) Y).setCell _ _ fun _=>rfl
 have adP:aW Y q 170 [bf ct 0,cx (av ⟨g,0,aK⟩) 1 c',bf ct (-1),cu ⟨#[]⟩,cu ⟨#[]⟩,bf ct 0,bf ct 0,ey false]:=by rw[SE];exact o.set 1 _
 have D:=adP.but C (fun e=>U e.symm)
 have WZ:Below V.heap.size V (Y.setCell ⟨g,0*3+1,aK⟩ (cu (bs vl))):=
  (((ZV.trans (p.mono κ)).trans (f.mono κ)).trans (S.mono κ)).trans (((K.mono (T:=fun b=>b=q\/b=g) fun _ _ e=>cS e).trans C fun b _ e=>dc e).below (by have:=S.size;omega) fun k u e=>κ)
 have hlY:=K.size
 have adQ:=C.size
 have ae_:=S.size
 obtain⟨G,F⟩:=ξx (Y.setCell ⟨g,0*3+1,aK⟩ (cu (bs vl)))
 refine⟨g,1,c',rfl,lK 0,Q,ξ,⟨_,o.cell (j:=1) rfl⟩,o.frozen 1,⟨_,by have:=Z.2.1;rw[bG] at this;exact this⟩,Own.frozen r _,U, ?_⟩
 rw[<-SE,<-F]
 rw[<-F] at O C D WZ adQ
 have hrY:bg dA G pr 0 [q]:=((((M.below p κ).below f κ).below S κ).but K κ).but C κ
 obtain⟨m,I⟩:∃m:NV,m=⟨0,ak 0 [((key,vl):Tr.Tx×Tr.E 0)],g,0,c',-1,[],[],0,0,false,true⟩:=⟨_,rfl⟩
 have yW:=jg O
 have hnd:Nd G q m:=by
  refine⟨?_,by rw[I];exact Own.lies O, ?_⟩;·rw[I];exact D
  ·rw[I];refine⟨Nat.succ_le_succ (aA _),fun i hi=> ?_,yW.2⟩;have e:i=⟨key,vl,aK⟩:=bB.1 hi;rw[e];exact⟨aN u ξ,aN hv ξ⟩
 obtain⟨R',s⟩:=VA (key:=key) (vl:=vl) h WZ κ κ κ κ Tl I hnd O hrY κ u hv
 exact (AG s ZY ef).mono fun _ _ h=>h.imp fun _ h=>⟨h.1,h.2.1⟩
theorem wU {lv:Nat} {pw:Value} {K:Nat} {T:Tr.E (K+1)} (h:LN E X0 R0 ps pg rt key K T lv q pw X):∃pr cap R M m c path pre post out,pw=cx (av ⟨pr,0,aK⟩) (path.length+1) cap/\iD E X0 R0 ps pg rt key K T lv q (cx (av ⟨pr,0,aK⟩) (path.length+1) cap) X R M m c path pre post out (q::path).reverse:=by
 obtain⟨R,M,m,c,path,pre,post,out,f⟩:=h;have hl:(q::path).reverse.length=path.length+1:=ν
 obtain⟨pr,cap,e,_⟩:=Own.form f.row (by rw[hl];omega);rw[hl] at e;subst e;exact⟨pr,cap,R,M,m,c,path,pre,post,out,rfl,f⟩
theorem VB {l:List (Tr.Tx×Tr.Tx)} {pages:Δ} (h:TS E X0 R0 R ps pg rt (fun _=>aK) w) (k:jx pg (rt.getD E.place 0) l pages) (b:key.length<=96) (d:vl.length<=56) (Z:ps.length<=60000000) (g:E.place<16):
  Calls prog 47 #[ptr E.tb,cu (bs key),cu (bs vl)] w fun e w'=>∃c:Int,e=c8 (bf ct c)/\Done E X0 R0 ps pg rt (Tr.put l key vl) pages c w':=by
 refine RV (L:=fun q pr n cap X=>(∃(K:Nat) (T:Tr.E (K+1)) (R:Φ) (M:Nat->Option NV) (m:NV) (c:Tr.E 1) (path:Δ) (pre post:List (Tr.Tx×Tr.Tx)) (out:Δ),path.length=n/\l=Tr.cH K (Tr.its T)/\pages=Tr.cF (K+1) T/\pages.Nodup/\iD E X0 R0 ps pg rt key K T 0 q (cx (av ⟨pr,0,aK⟩) (path.length+1) cap) X R M m c path pre post out (q::path).reverse)\/
   ∃V,n=0/\cap=1/\l=[]/\pages=[]/\q=V.heap.size/\pr=V.heap.size+1/\X=(V.alloc (dg #[bf ct 0,cx aK 0 0,bf ct (-1),cu ⟨#[]⟩,cu ⟨#[]⟩,bf ct 0,bf ct 0,ey false] 170)).alloc (dg #[dr (av ⟨V.heap.size,0,aK⟩)] 165)/\TS E X0 R0 R ps pg rt (fun _=>aK) V) (G:=fun c w'=>Done E X0 R0 ps pg rt (Tr.put l key vl) pages c w') ⟨?_⟩ (by rw[aG];exact b) d ((AH h g k key).mono ?_)
 ·rintro q pr n cap X (⟨K,T,R1,M,m,c,path,pre,post,out,rfl,rfl,rfl,i,f⟩|⟨V,rfl,rfl,rfl,rfl,o,J,p,j⟩);·have H:=f.above.level;have a:=f.BB;exact⟨wR (Own.lies f.row) rfl,κ,Vz f b d k i Z g⟩
  ·have H:=x_ (key:=key) (vl:=vl) j p o J b d Z g;exact⟨H.1,aA _,H.2.mono fun e X' h=>cS h⟩
 ·rintro e X (⟨rfl,t,H,a,r⟩|⟨K,T,q,pw,rfl,H,a,h3,hf⟩);·exact cS ⟨rfl,fun W s=>dc ⟨X,rfl,rfl,H,a,rfl,rfl,s,h.still r (fun _ h=>h) (fun _ h=>cS h)⟩⟩
  ·obtain⟨pr,cap,R1,M,m,c,path,pre,post,out,rfl,f⟩:=wU hf;exact dc ⟨q,pr,path.length,cap,rfl,cS ⟨K,T,R1,M,m,c,path,pre,post,out,rfl,H,a,h3,f⟩⟩
end
section
variable {E:Ev} {X0 X X' Y V w:World} {R0 R R':Φ} {ps:Γ} {pg:Ξ} {rt:Δ} {M M':Nat->Option NV} {K:Nat} {T:Tr.E (K+1)} {key vl:List UInt8} {q pr cap:Nat} {m:NV} {c:Tr.E 1} {path out:Δ} {pre post:List (Tr.Tx×Tr.Tx)}
def xI (E:Ev) (X0:World) (R0:Φ) (ps:Γ) (pg:Ξ) (rt:Δ) (X:World):Prop:=∃R M,TS E X0 R0 R ps pg rt M X
theorem VC (f:iD E X0 R0 ps pg rt key K T 0 q (cx (av ⟨pr,0,aK⟩) (path.length+1) cap) X R M m c path pre post out (q::path).reverse):
  Calls prog 88 #[ptr q,cu (bs key)] X fun e X'=>
  (∃a:Nat,e=c8 (ec #[bf ct a,ey false])/\Tr.got (Tr.cH K (Tr.its T)) key=aK/\xI E X0 R0 ps pg rt X')\/
  (∃(a g o n' c':Nat) (v0:List UInt8),e=c8 (ec #[bf ct a,ey true])/\a<n'/\n'<=400/\X'.cell? ⟨q,1,aK⟩=av (cx (av ⟨g,o,aK⟩) n' c')/\X'.cell? ⟨g,o+a*3+1,aK⟩=av (cu (bs v0))/\v0.length<=200/\∀iG,Below X'.heap.size X' iG->Tr.got (Tr.cH K (Tr.its T)) key=av v0/\xI E X0 R0 ps pg rt iG):=by
 obtain⟨lf,gH,L,w,G,V,z,d,hown⟩:=wT f;have r:m.its.length=lf.length:=by rw[gH,aL]
 have i:=f.ts.mem.nd q m f.mS;have s:posOf m.its key=(lf.takeWhile fun x=>Tr.lt x.1 key).length:=by rw[gH];exact vq lf key
 have t:Tr.got (Tr.cH K (Tr.its T)) key=Tr.got lf key:=by rw[V];exact Tr.Di f.YQ f.YR
 refine (mo i G key).mono ?_;rintro e X' ⟨rfl,u⟩;have f':=f.still u;have Q:=i.still u;have j:=Q.c1;rw[d] at j;have n:=tC (key:=key) L.ni;rw[<-show m.its=ak 0 lf from gH] at n;cases v:eY m.its key with
 |false=>exact cS ⟨_,rfl,by rw[t];exact Tr.Fb (n.1 v),_,_,f'.ts⟩
 |true=>
  right;obtain⟨k,p⟩:=n.2 v;obtain⟨a,ha⟩:=ξx (posOf m.its key);rw[<-ha] at s k |-;have H:(lf[a]'k).1=key:=by have h:=p;simp only[<-ha] at h;exact h
  have b:a<m.its.length:=κ
  have y:m.its[a]=⟨key,(lf[a]'k).2,aK⟩:=by have e:m.its[a]?=av ⟨(lf[a]'k).1,(lf[a]'k).2,aK⟩:=(by rw[gH,cY,aI k];rfl);rw[aI b] at e;rw[Option.some.inj e,H]
  have l:=bt Q.row a b;rw[y,d] at l;exact⟨a,m.rg,0,m.its.length,m.cap,(lf[a]'k).2,rfl,b,κ,j,l.2.1,aN (L.vals _ (bp k)) ξ,fun iG A=>⟨by rw[t];exact Tr.Fc L.ni s k H,_,_,(f'.still A).ts⟩⟩
theorem VD {l:List (Tr.Tx×Tr.Tx)} {pages:Δ} (h:TS E X0 R0 R ps pg rt (fun _=>aK) w) (b:jx pg (rt.getD E.place 0) l pages) (d:E.place<16):
  Calls prog 51 #[ptr E.tb,cu (bs key)] w fun e w'=>e=c8 (ec #[cu (bs ((Tr.got l key).getD [])),ey (Tr.got l key).isSome,bf ct 0])/\xI E X0 R0 ps pg rt w':=by
 refine (RQ (L:=fun q pr n cap X=>∃(K:Nat) (T:Tr.E (K+1)) (R:Φ) (M:Nat->Option NV) (m:NV) (c:Tr.E 1) (path:Δ) (pre post:List (Tr.Tx×Tr.Tx)) (out:Δ),path.length=n/\l=Tr.cH K (Tr.its T)/\iD E X0 R0 ps pg rt key K T 0 q (cx (av ⟨pr,0,aK⟩) (path.length+1) cap) X R M m c path pre post out (q::path).reverse) (G:=fun v w'=>Tr.got l key=v/\xI E X0 R0 ps pg rt w') ⟨?_⟩ ((AH h d b key).mono ?_)).mono ?_;·rintro q pr n cap X ⟨K,T,R1,M,m,c,path,pre,post,out,rfl,rfl,f⟩;have H:=f.above.level;have a:=f.BB;exact⟨wR (Own.lies f.row) rfl,κ,VC f⟩
 ·rintro e X (⟨rfl,k,H,a,g⟩|⟨K,T,q,pw,rfl,H,a,h3,hf⟩);·exact cS ⟨rfl,zaK,_,_,h.still g (fun _ h=>h) (fun _ h=>cS h)⟩
  ·obtain⟨pr,cap,R1,M,m,c,path,pre,post,out,rfl,f⟩:=wU hf;exact dc ⟨q,pr,path.length,cap,rfl,K,T,R1,M,m,c,path,pre,post,out,rfl,H,f⟩
 ·rintro e w' ⟨v,rfl,i,j⟩;rw[i];exact⟨rfl,j⟩
theorem VE (f:iD E X0 R0 ps pg rt key K T 0 q (cx (av ⟨pr,0,aK⟩) (path.length+1) cap) X R M m c path pre post out (q::path).reverse) (hm:jx pg (rt.getD E.place 0) (Tr.cH K (Tr.its T)) (Tr.cF (K+1) T)) (t:(Tr.cF (K+1) T).Nodup) (hq:ps.length<=60000000) (ef:E.place<16):
  Calls prog 88 #[ptr q,cu (bs key)] X fun e X'=>
  (∃a:Nat,e=c8 (ec #[bf ct a,ey false])/\Tr.got (Tr.cH K (Tr.its T)) key=aK/\xI E X0 R0 ps pg rt X')\/
  (∃(a g n' c':Nat),e=c8 (ec #[bf ct a,ey true])/\a<n'/\n'<=400/\X'.cell? ⟨q,1,aK⟩=av (cx (av ⟨g,0,aK⟩) n' c')/\
   Calls prog 203 #[cx (av ⟨g,0,aK⟩) n' c',bf ct a,bf ct (a+1:Nat)] X' fun e iG=>∃(n'':Nat) (v:Value),e=c8 v/\v=cx (av ⟨g,0,aK⟩) n'' c'/\(∃u,iG.cell? ⟨q,1,aK⟩=av u)/\iG.frozen? ⟨q,1,aK⟩=false/\
    Calls prog 90 #[ptr E.tb,cx (av ⟨pr,0,aK⟩) (path.length+1) cap] (iG.setCell ⟨q,1,aK⟩ v) fun e w'=>∃c:Int,e=c8 (bf ct c)/\(Tr.got (Tr.cH K (Tr.its T)) key).isSome=true/\c=0/\Done E X0 R0 ps pg rt (Tr.del (Tr.cH K (Tr.its T)) key) (Tr.cF (K+1) T) c w'):=by
 obtain⟨lf,gH,L,k,G3,V,Rf,w,hown⟩:=wT f
 have O:m.its.length=lf.length:=by rw[gH,aL]
 have y:=ke hm
 have l:=f.ts.mem.nd q m f.mS
 have S:posOf m.its key=(lf.takeWhile fun x=>Tr.lt x.1 key).length:=by rw[gH];exact vq lf key
 have P:Tr.got (Tr.cH K (Tr.its T)) key=Tr.got lf key:=by rw[V];exact Tr.Di f.YQ f.YR
 have A:Tr.del (Tr.cH K (Tr.its T)) key=pre++Tr.del lf key++post:=by rw[V];exact Tr.KU f.YQ f.YR
 have Q:m.rg≠q:=by have:=f.ts.mem.JL f.mS f.mS;exact this
 refine (mo l G3 key).mono ?_
 rintro e X' ⟨rfl,n⟩
 have f':=f.still n
 have U:=l.still n
 have d:bk 0 X' (cx (av ⟨m.rg,0,aK⟩) m.its.length m.cap) m.its:=Own.below hown n (af _)
 have o:=U.c1
 rw[w] at o
 have z:=tC (key:=key) L.ni
 rw[<-show m.its=ak 0 lf from gH] at z
 cases W:eY m.its key with
 |false=>exact cS ⟨_,rfl,by rw[P];exact Tr.Fb (z.1 W),_,_,f'.ts⟩
 |true=>
  right;obtain⟨s,B⟩:=z.2 W;obtain⟨a,ha⟩:=ξx (posOf m.its key);rw[<-ha] at S s |-;have H:(lf[a]'s).1=key:=by have h:=B;simp only[<-ha] at h;exact h
  have p:a<m.its.length:=κ
  have C:=Tr.PR L.ni S s H;refine⟨a,m.rg,m.its.length,m.cap,rfl,p,κ,o,(DQ X' m.rg m.cap a m.its d p κ).mono ?_⟩;rintro e iG ⟨rfl,D,r⟩;have i:=U.blk.but r (fun e=>Q e.symm);have F:m.its.take a++m.its.drop (a+1)=ak 0 (Tr.del lf key:Tr.eO):=by rw[<-C,wQ,gH,bM,<-List.map_take,<-List.map_drop];rfl
  have G:(Tr.del lf key).length=m.its.length-1:=zaB
  rw[F] at D;refine⟨m.its.length-1,_,rfl,rfl,⟨_,i.cell (j:=1) rfl⟩,i.frozen 1, ?_⟩;rw[<-G] at D |-;obtain⟨Y,I⟩:=ξx (iG.setCell ⟨q,1,aK⟩ (cx (av ⟨m.rg,0,aK⟩) (Tr.del lf key).length m.cap));have Z:aE (fun b=>b=q) iG Y:=by rw[I];exact (aE.refl (fun b=>b=q) iG).setCell _ _ fun _=>rfl
  have J:bk 0 Y (cx (av ⟨m.rg,0,aK⟩) (Tr.del lf key).length m.cap) (ak 0 (Tr.del lf key:Tr.eO)):=Own.but D Z fun b n e=>Q (by have e2:m.rg=b:=Option.some.inj n;rw[e2,e]);have N:aW Y q 170 (m.cells.set 1 (cx (av ⟨m.rg,0,aK⟩) (Tr.del lf key).length m.cap)):=by rw[I];exact i.set 1 _
  rw[<-I];have ZG:aE (fun b=>b=q\/b=m.rg) X' Y:=(r.mono fun _ _ e=>dc e).trans Z fun b _ e=>cS e;have Ur:Tr.sz 0 ((Tr.del lf key:Tr.eO):List (Tr.Tx×Tr.E 0))<=664:=aN (Tr.v_ _ lf) (aN k ξ);refine (wS f' ZG (fun b h=>h) N J (cS rfl) L.del Ur t y hq ef).mono ?_;rintro e w' ⟨c,rfl,hd,hz⟩;exact⟨c,rfl,by rw[P,Tr.Fc L.ni S s H];rfl,hz (aN (Tr.v_ _ lf) k),by rw[A];exact hd⟩
theorem VF {l:List (Tr.Tx×Tr.Tx)} {pages:Δ} (h:TS E X0 R0 R ps pg rt (fun _=>aK) w) (d:jx pg (rt.getD E.place 0) l pages) (Z:ps.length<=60000000) (g:E.place<16):
  Calls prog 148 #[ptr E.tb,cu (bs key)] w fun e w'=>(e=c8 (ec #[ey false,bf ct 0])/\Tr.got l key=aK/\xI E X0 R0 ps pg rt w')\/(e=c8 (ec #[ey true,bf ct 0])/\(Tr.got l key).isSome=true/\mA E X0 R0 ps pg rt (Tr.del l key) pages 0 w'):=by
 refine (RU (L:=fun q pr n cap X=>∃(K:Nat) (T:Tr.E (K+1)) (R:Φ) (M:Nat->Option NV) (m:NV) (c:Tr.E 1) (path:Δ) (pre post:List (Tr.Tx×Tr.Tx)) (out:Δ),path.length=n/\l=Tr.cH K (Tr.its T)/\pages=Tr.cF (K+1) T/\pages.Nodup/\iD E X0 R0 ps pg rt key K T 0 q (cx (av ⟨pr,0,aK⟩) (path.length+1) cap) X R M m c path pre post out (q::path).reverse) (N:=fun w'=>Tr.got l key=aK/\xI E X0 R0 ps pg rt w') (G:=fun c w'=>(Tr.got l key).isSome=true/\c=0/\Done E X0 R0 ps pg rt (Tr.del l key) pages c w') ⟨?_⟩ ((AH h g d key).mono ?_)).mono ?_;·rintro q pr n cap X ⟨K,T,R1,M,m,c,path,pre,post,out,rfl,rfl,rfl,b,f⟩;have a:=f.above.level;have H:=f.BB;exact⟨wR (Own.lies f.row) rfl,κ,VE f d b Z g⟩
 ·rintro e X (⟨rfl,j,a,H,i⟩|⟨K,T,q,pw,rfl,a,H,h3,hf⟩);·exact cS ⟨rfl,by rw[a];rfl,_,_,h.still i (fun _ h=>h) (fun _ h=>cS h)⟩
  ·obtain⟨pr,cap,R1,M,m,c,path,pre,post,out,rfl,f⟩:=wU hf;exact dc ⟨q,pr,path.length,cap,rfl,K,T,R1,M,m,c,path,pre,post,out,rfl,a,H,h3,f⟩
 ·rintro e w' (h|⟨c,rfl,a,rfl,H|⟨H,_⟩⟩);·exact cS h
  ·grind
  ·cases H
end
end
end Go.Proofs.YtgfdijemhanfkaaGreatDoor
