/- Elder texts, cut down and merged (33). -/
import Derived.Test.YtgfdijemhanfkaaGreatDoorP25
import Derived.Test.YtgfdijemhanfkaaGreatDoorP32
import Derived.Test.YtgfdijemhanfkaaGreatDoorP5
import Derived.Test.YtgfdijemhanfkaaGreatDoorP26
import Derived.Test.YtgfdijemhanfkaaGreatDoorP24
import Derived.Test.YtgfdijemhanfkaaGreatDoorP28
import Derived.Test.YtgfdijemhanfkaaGreatDoorP21
import Derived.Test.YtgfdijemhanfkaaGreatDoorP31
import Derived.Test.YtgfdijemhanfkaaGreatDoorPTk
set_option linter.unusedSimpArgs false
set_option linter.unusedVariables false
set_option maxRecDepth 100000
set_option maxHeartbeats 8000000
namespace Go.Proofs.YtgfdijemhanfkaaGreatDoor
open _root_.Go.Proofs.Tryz
open Option renaming some→av,none→aK
open Value renaming string→cu,pointer→dr,agg→eU,int→bf,tuple→ec,slice→cx,bool→ey
open Ending renaming returned→c8
open Or renaming inl→cS,inr→dc
open IntKind renaming i64→ct
open Obj renaming cells→dg
open List renaming length_pos_iff->d_,length_map->aL,getD_eq_getElem?_getD->bC,getElem?_eq_getElem->aI,pairwise_iff_getElem->gh,append_nil->bh,mem_singleton->bB,mem_cons->aM,drop_eq_getElem_cons->cE,length_drop->aS,flatten_cons->dy,append_assoc->aD,nodup_append->aP,getElem_mem->bp,mem_append->ah,nodup_cons->cA,mem_cons_self->au,map_append->bM,length_append->aq,map_cons->bI,mem_map->bY,flatten_append->dI,nil_append->cM,mem_cons_of_mem->aH,take_of_length_le->bD,cons_append->fQ,length_take->aJ,length_cons->a_,getElem_cons_drop->mR,take_append_drop->b_,length_nil->gd,drop_eq_nil_of_le->gj,length_eq_zero_iff->ff,perm_iff_count->AA,count_append->AB,take_succ_eq_append_getElem->cz,getElem?_append_right->gO,set_append_right->iP,set_cons_zero->ay
open Nat renaming le_trans->aN,le_refl->af,zero_le->aA,mul_succ->mI,sub_self->dm,min_eq_left->bT,succ_ne_zero->dS
section
open Go.RowKit Lib
def Tr.parted (k:Nat) (c:Tr.Tx×Tr.E (k+1)):List (Tr.Tx×Tr.E (k+1))×Δ:=
 if (Tr.its c.2).isEmpty then ([],(Tr.hd c.2).page.toList)
 else if Tr.sz k (Tr.its c.2)<=510 then ([c],[])
 else ([(c.1,(Tr.part k c.2).low),((Tr.part k c.2).key,(Tr.part k c.2).up)],[])
theorem Eh (k:Nat) (x:Tr.Tx) (st:List (Tr.Tx×Tr.E (k+1))×Δ) (c:Tr.Tx×Tr.E (k+1)):
  Tr.dM k x st c=(Tr.parted k c).1.foldl (fun s i=>Tr.bP k x s.1 s.2 i) (st.1,st.2++(Tr.parted k c).2):=by
 unfold Tr.dM Tr.parted;by_cases e:(Tr.its c.2).isEmpty=true;·grind
 ·grind
section
variable {E:Ev} {X0 X X':World} {R0 R R':Φ} {ps:Γ} {pg:Ξ} {rt:Δ} {M M':Nat->Option NV} {p q:Nat} {n m:NV} {sb:Nat} {sv fI:Value} {l l':List Int} {it:It} {k:Nat}
structure Vi (E:Ev) (X0:World) (R0:Φ) (ps:Γ) (pg:Ξ) (rt:Δ) (sb:Nat) (k:Nat) (R:Φ) (M:Nat->Option NV) (X:World) (sv:Value) (f:Δ) (cs:List (Tr.Tx×Tr.E (k+1))) (l':List Int) (rv:Value) (R':Φ) (M':Nat->Option NV) (fI:Value) (IT:List It) (fs:List (Δ)) (X':World):Prop where
 ss:SS E X0 R0 R' ps pg rt M' X' sb fI l'
 Cv:nP R M X sb sv R' M' fI X'
 own:bk X.heap.size X' rv IT
 GI:∀b,rv.ownBlock=av b->¬MB M' b/\fI.ownBlock≠av b
 kids:bz pg k (dQ M' pg k) IT cs fs
 got:∀i∈IT,i.node.isSome=true
 nd:fs.flatten.Nodup
 news:∀r∈fs.flatten,r∈f\/X.heap.size<=r
 same:∀r y,r∉f->M r=av y->M' r=av y
theorem GJ {t:Tr.E (k+1)} {F:Δ} {H:Nat} (hr:dQ M pg k p t F) (hn:M p=av n) (i:510<Tr.sz k (Tr.its t)) (f:H=fT (cJ n.its) 0 n.its):
  0<H/\(n.level=0->Tr.lt ((n.its.map It.key).getD (H-1) []) ((n.its.map It.key).getD H [])=true):=by
 obtain⟨n',a,g,_⟩:=hr.head;rw[hn] at a;cases a;have b:=hr.sz hn;have c:n.its≠[]:=by intro e;have j:=b.1;rw[e] at j;have:cJ ([]:List It)=0:=rfl;omega
 have d:=rB (cJ n.its) n.its 0 c;rw[<-f] at d;have Y:H=(Tr.cI k (Tr.sz k (Tr.its t)) 0 (Tr.its t)).1.length:=by rw[f,b.1];exact Ah k _ _ _ _ (LC hr hn)
 have l:=Tr.n_ k _ (Tr.its t) rfl (fun x m=>by have:=g.near.2.size x m;omega) i;have o:0<H:=by rw[Y];exact d_.2 l
 refine⟨o,fun _=> ?_⟩;have hp:=(jq g.near.2).1;rw[<-b.2.1] at hp;have h:(n.its.map It.key).length=n.its.length:=aL _;rw[bC,bC,aI (by rw[h];omega),aI (by rw[h];omega)];exact gh.1 hp (H-1) H (by rw[h];omega) (by rw[h];omega) κ
theorem Oe {key:Tr.Tx} {c:Tr.E (k+1)} {f:Δ} (h:SS E X0 R0 R ps pg rt M X sb sv l) (hr:dQ M pg k q c f) (hi:j9 pg k (dQ M pg k) it (key,c) f) (x:it.node=av q) (hf:f.Nodup) (hp:(Tr.hd c).page.isSome=true) (hl:l.length<=1000000):
  Calls prog 189 #[ptr sb,ptr q,eU #[cu (bs it.key),cu (bs it.val),dr (pa it.node)]] X fun e X'=>∃rv R' M' fI IT fs,e=c8 rv/\Vi E X0 R0 ps pg rt sb k R M X sv f (Tr.parted k (key,c)).1 (l++iF (Tr.parted k (key,c)).2) rv R' M' fI IT fs X':=by
 obtain⟨nq,P,ho,z⟩:=hr.head;have U:=hr.sz P;have u:=h.ts.mem.nd q nq P;unfold Tr.parted;by_cases e:(Tr.its c).isEmpty=true
 ·rw[if_pos e];have B:nq.its=[]:=by grind
  refine (JQ h.blk h.sp u hl B).mono ?_;rintro e X' ⟨rfl,w⟩;rw[ho.page,<-List.singleton_append (l:=[]),bh] at w;obtain⟨fI,R',s',C,h2,h3,h4⟩:=h.left w;rw[jQ hp] at s';exact⟨_,R',M,fI,[],[],rfl,⟨s',⟨C,h2,(aE.refl _ X).trans h3 fun b _ a=>a.imp_right cS,fun _ a=>cS a,h4,Dom.refl _⟩,Own.nil _ _ _ _,(fun b a=>by cases a),trivial,(fun i hi=>by cases hi),List.nodup_nil,(fun r hr=>by cases hr),fun _ _ _ hy=>hy⟩⟩
 ·rw[if_neg e];have F:nq.its≠[]:=by grind
  by_cases hs:Tr.sz k (Tr.its c)<=510
  ·rw[if_pos hs];refine (NJ u F (by rw[U.1];exact hs)).mono ?_;rintro e X' ⟨v,rfl,S,a⟩;have o:=h.still a;refine⟨v,R,M,sv,[it],[f],rfl,⟨?_,nP.still a,S,fun b A=> ?_,⟨hi,trivial⟩,fun i hi=>by rw[bB.1 hi,x];rfl,by simpa using hf,fun r hr=>cS (by simpa using hr),fun _ _ _ hy=>hy⟩⟩;·show SS _ _ _ _ _ _ _ _ _ _ _ (l++[]);rw[bh];exact o
   ·have C:=(Own.block S b A).1;refine⟨fun s=> ?_,fun G=> ?_⟩;·have:=h.ts.mem.nA s;omega
    ·have:=(Own.block h.sp b G).2;omega
  ·rw[if_neg hs];obtain⟨H,I⟩:=ξx (fT (cJ nq.its) 0 nq.its);have V:510<Tr.sz k (Tr.its c):=κ;obtain⟨h0,pY⟩:=GJ hr P V I;refine (NK h.ts.mem P H I h0 pY (by rw[U.1];exact hs)).mono ?_;rintro e X' ⟨v,q',rfl,S,j,N,L⟩;obtain⟨M',D⟩:=ξx (upd (upd M q (iz nq H)) q' (ku nq H));rw[<-D] at j;have J:q'∉f:=fun hh=>by obtain⟨y,hy⟩:=hr.dom q' hh;have:=(h.ts.mem.lt hy).1;omega
   obtain⟨A9,F1,F2,r1,r2,kE,hF⟩:=Ai hr P hf J V I D;have t:∀b,MB M' b->MB M b\/b=q':=by
    rintro b ⟨r,y,hy,a⟩;rw[D] at hy;rcases aO hy with⟨rfl,rfl⟩|⟨_,hy⟩
    ·rcases a with rfl|rfl;·exact dc rfl
     ·exact cS ⟨q,nq,P,dc rfl⟩
    ·rcases aO hy with⟨rfl,rfl⟩|⟨_,hy⟩;·exact cS ⟨_,nq,P,a⟩
     ·exact cS ⟨r,y,hy,a⟩
   have Z:∀b,(b=q\/b=nq.rg)->MB M b:=fun b a=>⟨q,nq,P,a⟩;have K:q'<X'.heap.size:=(j.lt (p:=q') (n:=ku nq H) (by rw[D,bF])).1
   have O:TS E X0 R0 (fun b=>R b\/b=q') ps pg rt M' X':=h.ts.own L (fun b _ a=>h.ts.lT b (Z b a)) j (fun b a=>by
    rcases t b a with a|rfl;·exact⟨cS (h.ts.lT b a).1,(h.ts.lT b a).2⟩
    ·exact⟨dc rfl,aN h.ts.but.size N⟩) (fun b a=>cS a) (fun b a=>a.imp_right fun a=>by rw[a];exact⟨N,K⟩)
   have W:∀b,MB M' b->MB M b\/X.heap.size<=b:=fun b a=>(t b a).imp_right fun a=>by rw[a];exact N
   have m:∀b,R b->R b\/b=q':=fun b a=>cS a;have o:=h.nodes O L Z m W;refine⟨v,_,M',sv,_,[F1,F2],rfl,⟨?_,nP.nodes L Z m (fun b a=>a.imp_right fun a=>by rw[a];exact N) W (by rw[D];exact (Dom.upd _ _ _).trans (Dom.upd _ _ _)),S,fun b A=> ?_,⟨⟨hi.1,hi.2.1,dc ⟨q,x,r1⟩⟩,⟨A9,rfl,dc ⟨q',rfl,r2⟩⟩,trivial⟩,fun i hi=> ?_,by simpa using kE,fun r hr=> ?_,fun r y hr hy=> ?_⟩⟩;·show SS _ _ _ _ _ _ _ _ _ _ _ (l++[]);rw[bh];exact o
   ·have C:=(Own.block S b A).1;refine⟨fun s=> ?_,fun G=> ?_⟩
    ·rcases t b s with s|s;·have:=h.ts.mem.nA s;omega
     ·subst s;obtain⟨g,cap,Y,_,_,_⟩:=Own.form S ν;rw[Y] at A;have hg:g=b:=(by have e2:av g=av b:=A;exact Option.some.inj e2);subst hg;have d:=(j.nd g (ku nq H) (by rw[D,bF])).blk;rcases S.2 with⟨_,Q⟩|⟨g2,cap2,cur,B9,_,hh,_⟩;·simp at Q
      ·rw[Y] at B9;injection B9 with e1 e2 e3;injection e1 with e1;injection e1 with e1;subst e1;unfold aW at d;rw[hh] at d;injection d with d;injection d with _ hty _;exact absurd hty ξ
    ·have:=(Own.block h.sp b G).2;omega
   ·rcases aM.1 hi with rfl|hi;·rw[x];rfl
    ·rw[bB.1 hi];rfl
   ·rcases hF r (by simpa using hr) with hr|rfl;·exact cS hr
    ·exact dc N
   ·have Cm:r≠q:=fun e=>hr (by rw[e];exact z);have T:r≠q':=fun e=>by have:=(h.ts.mem.lt hy).1;omega
    rw[D,aX T,aX Cm];exact hy
end
theorem GK (k:Nat) (x:Tr.Tx) (acc:List (Tr.Tx×Tr.E (k+1))) (sp:Δ) (i:Tr.Tx×Tr.E (k+1)) (h:acc=[]->x=i.1):Tr.bP k x acc sp i=Tr.bP k i.1 acc sp i:=by
 by_cases e:acc=[];·rw[h e]
 ·obtain⟨A,a,rfl⟩:=Tr.dX e;rw[Tr.dY,Tr.dY]
def rowAt (k:Nat) (x:Tr.Tx) (st:List (Tr.Tx×Tr.E (k+1))×Δ) (cs:List (Tr.Tx×Tr.E (k+1))) (j:Nat):List (Tr.Tx×Tr.E (k+1))×Δ:=(cs.take j).foldl (fun s i=>Tr.bP k x s.1 s.2 i) st
theorem th {k:Nat} {x:Tr.Tx} {st:List (Tr.Tx×Tr.E (k+1))×Δ} {cs:List (Tr.Tx×Tr.E (k+1))} {j:Nat} (h:j<cs.length):rowAt k x st cs (j+1)=Tr.bP k x (rowAt k x st cs j).1 (rowAt k x st cs j).2 cs[j]:=by unfold rowAt;rw[List.take_add_one,aI h,List.foldl_append];rfl
theorem bz.Vk {pg:Ξ} {k:Nat} {R:Nat->Tr.E (k+1)->Δ->Prop} {is:List It} {xs:List (Tr.Tx×Tr.E (k+1))} {fs:List (Δ)} {j:Nat} (h:bz pg k R (is.drop j) (xs.drop j) (fs.drop j)) (H:j<is.length) (a:j<xs.length) (h3:j<fs.length):
  j9 pg k R is[j] xs[j] fs[j]/\bz pg k R (is.drop (j+1)) (xs.drop (j+1)) (fs.drop (j+1)):=by
 rw[cE H,cE a,cE h3] at h;exact h
section
variable {E:Ev} {X0 Xs Xb X V:World} {R0 Rs R R':Φ} {ps:Γ} {pg:Ξ} {rt:Δ} {Ms Mb M M':Nat->Option NV} {sb:Nat} {iA sv fI lv rv:Value} {l0:List Int} {LI IT:List It} {k j:Nat}
structure As (E:Ev) (X0:World) (R0:Φ) (ps:Γ) (pg:Ξ) (rt:Δ) (Rs:Φ) (Ms:Nat->Option NV) (Xs:World) (sb:Nat) (iA:Value) (k:Nat) (Mb:Nat->Option NV) (Xb:World) (F:Δ) (l0:List Int) (rv:Value) (IT:List It) (cs:List (Tr.Tx×Tr.E (k+1))) (fs:List (Δ)) (st:List (Tr.Tx×Tr.E (k+1))×Δ) (j:Nat) (R:Φ) (M:Nat->Option NV) (X:World) (sv:Value) (lv:Value) (LI:List It) (fa:List (Δ)):Prop where
 row:R7 E X0 R0 ps pg rt Rs Ms Xs sb iA k R M X sv (l0++iF st.2) lv LI st.1 fa
 rest:bz pg k (dQ M pg k) (IT.drop j) (cs.drop j) (fs.drop j)
 nd:(fa.flatten++(fs.drop j).flatten).Nodup
 own:bk Xs.heap.size X rv IT
 GI:∀b,rv.ownBlock=av b->¬MB M b/\b≠sb/\sv.ownBlock≠av b/\lv.ownBlock≠av b
 news:∀r∈fa.flatten++(fs.drop j).flatten,r∈F\/Xb.heap.size<=r
 same:∀r y,r∉F->Mb r=av y->M r=av y
 size:Xb.heap.size<=X.heap.size
 low:∀r y,Mb r=av y->r<Xb.heap.size
 dom:Dom Mb M
theorem Ka {F:Δ} {cs:List (Tr.Tx×Tr.E (k+1))} {fs:List (Δ)} {st:List (Tr.Tx×Tr.E (k+1))×Δ} {fa:List (Δ)}
  (h:As E X0 R0 ps pg rt Rs Ms Xs sb iA k Mb Xb F l0 rv IT cs fs st j R M X sv lv LI fa) (m:Below X.heap.size X V) (B:j<IT.length) (hc:j<cs.length) (G:∀i∈IT,i.node.isSome=true) (n:LI.length<=400) (o:(cs[j]).1.length<=96) (hl:(l0++iF st.2).length+k<=100000) (C:k<=15)
  (q:∀A a,st.1=A++[a]->¬Tr.cut (k+1) a.2 (cs[j]).1 (cs[j]).2->∃D I,Tr.Ok (k+1) D (av (cs[j]).1) a.2/\Tr.Ok (k+1) (cs[j]).1 I (cs[j]).2/\Tr.Old (k+1) (cs[j]).2):
  Calls prog 190 #[ptr sb,lv,eU #[cu (bs (IT[j]).key),cu (bs (IT[j]).val),dr (pa (IT[j]).node)]] V fun e V'=>∃nB R' M' fI Tq kX,e=c8 (ec #[nB,bf ct 0])/\As E X0 R0 ps pg rt Rs Ms Xs sb iA k Mb Xb F l0 rv IT cs fs (Tr.bP k (cs[j]).1 st.1 st.2 cs[j]) (j+1) R' M' V' fI nB Tq kX:=by
 have t:=h.rest.len;simp only[aS] at t;have hf:j<fs.length:=κ
 obtain⟨J,u⟩:=h.rest.Vk B hc hf;have K:fs.drop j=fs[j]::fs.drop (j+1):=cE hf;have p:=h.nd;have H:=h.news;rw[K,dy,<-aD] at p H;have hd:=aP.1 p;have v:R7 E X0 R0 ps pg rt Rs Ms Xs sb iA k R M V sv (l0++iF st.2) lv LI st.1 fa:=⟨h.row.row.step (h.row.row.ss.still m) (nP.still m),h.row.kids,h.row.got,h.row.nd⟩;have hown:bk Xs.heap.size V rv IT:=Own.below h.own m (af _);refine (R8 v J (G _ (bp _)) hd.1 n o hl C q).mono ?_;rintro e V' ⟨nB,R',M',fI,Tq,kX,rfl,g,l,d,Z⟩;have w:∀r∈(fs.drop (j+1)).flatten,M' r=M r:=fun r hr=>by obtain⟨y,hy⟩:=u.dom r hr;rw[hy];exact d r y (fun c=>hd.2.2 r c r hr rfl) hy
 have P:=Own.block hown;refine⟨nB,R',M',fI,Tq,kX,rfl,⟨g,u.frame w,aP.2 ⟨g.nd,hd.2.1,fun r hr s hs e=> ?_⟩,Own.but hown Z.but fun b f hs=> ?_,fun b f=>⟨fun c=> ?_,(h.GI b f).2.1,fun hs=> ?_,fun hs=> ?_⟩,fun r hr=> ?_,fun r y hr hy=> ?_,by have:=Z.but.size;have:=m.size;have:=h.size;omega,h.low,h.dom.trans Z.dom⟩⟩
 ·subst e;rcases l r hr with hr|hr;·grind
  ·obtain⟨y,hy⟩:=u.dom r hs;have:=(h.row.row.ss.ts.mem.lt hy).1;have:=m.size;omega
 ·obtain⟨n1,N,n3,L⟩:=h.GI b f;rcases hs with hs|hs|hs|hs;·exact N hs
  ·exact n3 hs
  ·exact n1 hs
  ·exact L hs
 ·rcases Z.mb b c with c|c;·exact (h.GI b f).1 c
  ·have:=(P b f).2;omega
 ·rcases Z.sp b hs with c|c;·exact (h.GI b f).2.2.1 c
  ·have:=(P b f).2;omega
 ·rcases Z.li b hs with c|c;·exact (h.GI b f).2.2.2 c
  ·have:=(P b f).2;omega
 ·rcases ah.1 hr with hr|hr
  ·rcases l r hr with hr|hr;·exact H r (ah.2 (cS hr))
   ·right;have:=m.size;have:=h.size;omega
  ·exact H r (ah.2 (dc hr))
 ·have x:=h.same r y hr hy;refine d r y (fun c=> ?_) x;rcases H r (ah.2 (cS c)) with z|z;·exact hr z
  ·have:=h.low r y hy;omega
end
theorem BG {α:Type} {x:Tr.Tx} {l:List (Tr.Tx×α)}:Tr.bH x l=[]↔l=[]:=by cases l<;>simp
theorem Ei {k:Nat} {x:Tr.Tx} {h:Option Tr.Tx} {acc:List (Tr.Tx×Tr.E (k+1))} {i:Tr.Tx×Tr.E (k+1)} (ha:Tr.Acc k x (av i.1) (Tr.bH x acc)) (oi:Tr.Ok (k+1) i.1 h i.2)
  (hn:Tr.Old (k+1) i.2\/∀a,acc.getLast?=av a->Tr.cut (k+1) a.2 i.1 i.2):∀A a,acc=A++[a]->¬Tr.cut (k+1) a.2 i.1 i.2->∃B e,Tr.Ok (k+1) B (av i.1) a.2/\Tr.Ok (k+1) i.1 e i.2/\Tr.Old (k+1) i.2:=by
 rintro A a rfl hc;obtain⟨b,y,H,-⟩:=Tr.lz x A a;have hs:=ha.seg;rw[H] at hs;exact⟨y,h,hs.last,oi,hn.resolve_right fun hn=>hc (hn a (Tr.cV A a))⟩
theorem Av {k:Nat} {c:Tr.Tx×Tr.E (k+1)} (e:¬(Tr.its c.2).isEmpty=true) (hs:Tr.sz k (Tr.its c.2)<=510):(Tr.parted k c).1=[c]:=by unfold Tr.parted;rw[if_neg e,if_pos hs]
theorem Aw {k:Nat} {c:Tr.Tx×Tr.E (k+1)} (e:¬(Tr.its c.2).isEmpty=true) (hs:¬Tr.sz k (Tr.its c.2)<=510):(Tr.parted k c).1=[(c.1,(Tr.part k c.2).low),((Tr.part k c.2).key,(Tr.part k c.2).up)]:=by unfold Tr.parted;rw[if_neg e,if_neg hs]
theorem xG {k:Nat} {c:Tr.Tx×Tr.E (k+1)} (e:(Tr.its c.2).isEmpty=true):(Tr.parted k c).1=[]:=by unfold Tr.parted;rw[if_pos e]
def Hok (k:Nat) (st:List (Tr.Tx×Tr.E (k+1))) (i:Tr.Tx×Tr.E (k+1)):Prop:=
 i.1.length<=96/\∀A a,st=A++[a]->¬Tr.cut (k+1) a.2 i.1 i.2->∃B e,Tr.Ok (k+1) B (av i.1) a.2/\Tr.Ok (k+1) i.1 e i.2/\Tr.Old (k+1) i.2
theorem Sd {k:Nat} {x:Tr.Tx} {h:Option Tr.Tx} {acc:List (Tr.Tx×Tr.E (k+1))} {sp:Δ} {c:Tr.Tx×Tr.E (k+1)} (ha:Tr.Acc k x (av c.1) (Tr.bH x acc)) (m:acc=[]->Tr.le x c.1) (hl:c.1.length<=96)
  (o:Tr.jz k c.1 h c.2) (H:Tr.Old (k+1) c.2):∀j (d:j<(Tr.parted k c).1.length),Hok k (rowAt k c.1 (acc,sp) (Tr.parted k c).1 j).1 (Tr.parted k c).1[j]:=by
 by_cases e:(Tr.its c.2).isEmpty=true;·simp_all[xG]
 ·have n:Tr.its c.2≠[]:=fun h=>e (List.isEmpty_iff.2 h);by_cases hs:Tr.sz k (Tr.its c.2)<=510;·rw[Av e hs];intro j d;have p:j=0:=(by simpa using d);subst p;exact⟨hl,Ei ha (o.ok n hs) (cS H)⟩
  ·rw[Aw e hs];have S:=Tr.qP k o κ;generalize Tr.part k c.2=s at S;intro j d
   match j,d with
   |0,_=>exact⟨hl,Ei (i:=(c.1,s.low)) ha S.low (cS (S.old H))⟩
   |1,_=>
    have J:=Tr.ox (i:=(c.1,s.low)) (sp:=sp) ha (fun e=>⟨m (BG.1 e),S.old H⟩) (fun _=>hl) S.low (cS (S.old H));have g:=(Tr.mG k x c.1 acc sp (c.1,s.low)).2;refine⟨S.len,Ei (i:=(s.key,s.up)) (x:=x) ?_ S.up (dc fun a f=> ?_)⟩;·show Tr.Acc k x _ (Tr.bH x (Tr.bP k c.1 acc sp (c.1,s.low)).1);rw[g];exact J.row
    ·have V:(Tr.bP k c.1 acc sp (c.1,s.low)).1.getLast?=av a:=f;obtain⟨A,b,hA⟩:=Tr.dX (l:=(Tr.bP k c.1 acc sp (c.1,s.low)).1) (fun e=>by rw[e] at V;cases V);rw[hA,Tr.cV] at V;cases V;obtain⟨r,y,q,-⟩:=Tr.lz x A a;refine Tr.pV S.cut (J.last (y,a.2) ?_);rw[<-g,hA,q,Tr.cV]
theorem Ej {k:Nat} {acc:List (Tr.Tx×Tr.E (k+1))} {sp:Δ} {c:Tr.Tx×Tr.E (k+1)}:rowAt k c.1 (acc,sp++(Tr.parted k c).2) (Tr.parted k c).1 (Tr.parted k c).1.length=Tr.bK k (acc,sp) c:=by unfold rowAt Tr.bK;rw[Eh,List.take_length]
theorem CA {k:Nat} {h:Option Tr.Tx} {c:Tr.Tx×Tr.E (k+1)} {W2:List (Tr.Tx×Tr.E (k+1))}:∀{W1:List (Tr.Tx×Tr.E (k+1))},Tr.jG k h (W1++c::W2)->Tr.jG k (av c.1) W1
 |[],_=>trivial
 |[_],hn=>⟨hn.1,hn.2.1.1,hn.2.1.2.2⟩
 |_::b::r,hn=>⟨hn.1,hn.2.1,CA (W1:=b::r) hn.2.2⟩
theorem tj {k:Nat} {h:Option Tr.Tx} {W2:List (Tr.Tx×Tr.E (k+1))}:∀{W1:List (Tr.Tx×Tr.E (k+1))},Tr.jG k h (W1++W2)->Tr.jG k h W2
 |[],hn=>hn
 |_::W1,hn=>tj (W1:=W1) hn.at.2.2.2.1
theorem LJ {k:Nat} {x:Tr.Tx} {h:Option Tr.Tx} {c:Tr.Tx×Tr.E (k+1)} {W2:List (Tr.Tx×Tr.E (k+1))}:∀{W1:List (Tr.Tx×Tr.E (k+1))},Tr.jG k h (W1++c::W2)->(∀d l,W1++c::W2=d::l->Tr.le x d.1)->Tr.le x c.1
 |[],_,hx=>hx c W2 rfl
 |[a],hn,hx=>Tr.le_trans (hx a _ rfl) (Tr.le_of_lt hn.2.1.1)
 |a::b::r,hn,hx=>LJ (W1:=b::r) hn.2.2 fun d l hd=>by
  have e:b=d:=(List.cons.inj hd).1;rw[<-e];exact Tr.le_trans (hx a _ rfl) (Tr.le_of_lt hn.2.1.1)
theorem Vm {k:Nat} {x:Tr.Tx} {h:Option Tr.Tx} {W1 W2:List (Tr.Tx×Tr.E (k+1))} {c:Tr.Tx×Tr.E (k+1)} (sp:Δ) (hn:Tr.jG k h (W1++c::W2)) (H:∀d l,W1++c::W2=d::l->Tr.le x d.1):
  Tr.Acc k x (av c.1) (Tr.bH x (W1.foldl (Tr.bK k) ([],sp)).1)/\Tr.le x c.1:=by
 refine⟨?_,LJ hn H⟩;rw[(Tr.pX k x W1 [] sp).2];refine (Tr.Dc (h:=av c.1) W1 [] sp (Tr.Acc.nil _ _ _) ?_ (CA hn)).row;rintro d l rfl;exact⟨fun _=>H d _ rfl,fun h=>absurd rfl h⟩
theorem Kb {k:Nat} {x:Tr.Tx} {h:Option Tr.Tx} {W1 W2:List (Tr.Tx×Tr.E (k+1))} {c:Tr.Tx×Tr.E (k+1)} (sp sp':Δ) (hn:Tr.jG k h (W1++c::W2)) (H:∀d l,W1++c::W2=d::l->Tr.le x d.1) (hl:c.1.length<=96):
  ∀j (e:j<(Tr.parted k c).1.length),Hok k (rowAt k c.1 ((W1.foldl (Tr.bK k) ([],sp)).1,sp') (Tr.parted k c).1 j).1 (Tr.parted k c).1[j]:=by
 obtain⟨a,b⟩:=Vm sp hn H;have hc:=(tj (W1:=W1) hn).at;exact Sd a (fun _=>b) hl hc.1 hc.2.2.1
theorem CB {n n':NV} (h:n'.its.map It.key=n.its.map It.key) (H:n'.lo=n.lo) (j:Nat):fP n' j=fP n j:=by unfold fP;rw[h,H]
theorem CD {n n':NV} (h:n'.its.map It.key=n.its.map It.key) (H:n'.hi=n.hi) (j:Nat):eM n' j=eM n j:=by grind [List.length,aL,eM]
section
variable {E:Ev} {X0 Xs X X' V:World} {R0 Rs R R':Φ} {ps:Γ} {pg:Ξ} {rt:Δ} {Ms M M':Nat->Option NV} {sb p q:Nat} {n0:NV} {iA sv fI lv rv:Value} {l0:List Int} {LI IT I1 I2 ju Ax:List It} {k:Nat}
structure nF (E:Ev) (X0:World) (R0:Φ) (ps:Γ) (pg:Ξ) (rt:Δ) (Rs:Φ) (Ms:Nat->Option NV) (Xs:World) (sb:Nat) (iA:Value) (k p:Nat) (n0:NV) (I1 I2:List It) (F:Δ) (l0:List Int) (st:List (Tr.Tx×Tr.E (k+1))×Δ) (ju Ax:List It) (W2:List (Tr.Tx×Tr.E (k+1))) (f2:List (Δ)) (R:Φ) (M:Nat->Option NV) (X:World) (sv:Value) (lv:Value) (LI:List It) (fa:List (Δ)):Prop where
 row:R7 E X0 R0 ps pg rt Rs Ms Xs sb iA k R M X sv (l0++iF st.2) lv LI st.1 fa
 at_:M p=av {n0 with its:=I1++(ju++(Ax++I2))}
 keys:(I1++(ju++(Ax++I2))).map It.key=n0.its.map It.key
 rest:bz pg k (dQ M pg k) Ax W2 f2
 nd:(p::(fa.flatten++f2.flatten)).Nodup
 news:∀r∈fa.flatten++f2.flatten,r∈F\/Xs.heap.size<=r
 same:∀r y,r∉p::F->Ms r=av y->M r=av y
 low:∀r y,Ms r=av y->r<Xs.heap.size
 GM:∀i∈ju,∀q,i.node=av q->∃y,M q=av y
structure YE (E:Ev) (X0:World) (R0:Φ) (ps:Γ) (pg:Ξ) (rt:Δ) (Rs:Φ) (Ms:Nat->Option NV) (Xs:World) (sb:Nat) (iA:Value) (k p:Nat) (n0:NV) (I1 I2:List It) (F:Δ) (l0:List Int) (st:List (Tr.Tx×Tr.E (k+1))×Δ) (ju:List It) (i:It) (Ax:List It) (c:Tr.Tx×Tr.E (k+1)) (W2:List (Tr.Tx×Tr.E (k+1))) (f:Δ) (f2:List (Δ)) (q:Nat) (R:Φ) (M:Nat->Option NV) (X:World) (sv:Value) (lv:Value) (LI:List It) (fa:List (Δ)):Prop where
 out:nF E X0 R0 ps pg rt Rs Ms Xs sb iA k p n0 I1 I2 F l0 st ju (i::Ax) (c::W2) (f::f2) R M X sv lv LI fa
 node:i.node=av q
 Cr:dQ M pg k q c.2 f
abbrev YE.o:=@YE.out
theorem GN {F:Δ} {st:List (Tr.Tx×Tr.E (k+1))×Δ} {i:It} {c:Tr.Tx×Tr.E (k+1)} {W2:List (Tr.Tx×Tr.E (k+1))} {f:Δ} {f2 fa:List (Δ)} {j:Int}
  (h:nF E X0 R0 ps pg rt Rs Ms Xs sb iA k p n0 I1 I2 F l0 st ju (i::Ax) (c::W2) (f::f2) R M X sv lv LI fa) (L:Below X.heap.size X V) (x:n0.level=k+1) (N:k<=15) (z:j=(I1++ju).length)
  (O:i.node=aK->Tr.Ok (k+1) (fP n0 (I1++ju).length) (j8 (eM n0 (I1++ju).length)) c.2):
  Calls prog 131 #[ptr E.tb,ptr p,bf ct j] V fun e X'=>∃q R' M' f',e=c8 (ec #[ptr q,bf ct 0])/\YE E X0 R0 ps pg rt Rs Ms Xs sb iA k p n0 I1 I2 F l0 st ju {i with node:=av q} Ax c W2 f' f2 q R' M' X' sv lv LI fa:=by
 obtain⟨A,I⟩:=h.rest;have a:=cA.1 h.nd;have K:=aP.1 a.2;rw[dy] at K;have l:=aP.1 K.2.1;have B:p∉f:=fun H=>a.1 (ah.2 (dc (by rw[dy];exact ah.2 (cS H))));have m:p∉f2.flatten:=fun H=>a.1 (ah.2 (dc (by rw[dy];exact ah.2 (dc H))));have o:p∉fa.flatten:=fun H=>a.1 (ah.2 (cS H));have t:=h.row.row.ss.ts;refine (Cu (I1:=I1++ju) (I2:=Ax++I2) (key:=c.1) t L h.at_ x (show I1++(ju++(i::Ax++I2))=(I1++ju)++i::(Ax++I2) by simp) A (fun hn=> ?_) B l.1 N z).mono ?_;·rw[CB (n:=n0) (n':={n0 with its:=I1++(ju++(i::Ax++I2))}) h.keys rfl,CD (n:=n0) (n':={n0 with its:=I1++(ju++(i::Ax++I2))}) h.keys rfl];exact O hn
 rintro e X' ⟨q,M',R',fq,rfl,b⟩;have W:∀b,b=n0.rg->MB M b:=fun b P=>⟨p,_,h.at_,dc P⟩;have C:=h.row.row.ss.nodes b.ts b.but W b.sub b.mb;have u:nP R M X sb sv R' M' sv X':=nP.nodes b.but W b.sub b.new b.mb (Dom.but b.at_ b.same);have v:∀{fs:List (Δ)} {is:List It} {xs:List (Tr.Tx×Tr.E (k+1))},bz pg k (dQ M pg k) is xs fs->p∉fs.flatten->bz pg k (dQ M' pg k) is xs fs:=fun d Q=>d.frame fun r hr=>by obtain⟨y,hy⟩:=d.dom r hr;rw[hy];exact b.same r y (fun e=>Q zaC) hy
 have g:∀r∈fq,r∈f\/X.heap.size<=r:=b.news;have S:=h.row.row.Cv.but.size;have J:∀{fs:List (Δ)} {is:List It} {xs:List (Tr.Tx×Tr.E (k+1))},bz pg k (dQ M pg k) is xs fs->(∀r∈f,r∉fs.flatten)->∀r∈fq,r∉fs.flatten:=fun d hd r hr H=>by
  rcases g r hr with w|w;·exact hd r w H
  ·obtain⟨y,hy⟩:=d.dom r H;have:=(t.mem.lt hy).1;omega
 have D:=J h.row.kids fun r hr H=>K.2.2 r H r (ah.2 (cS hr)) rfl;have G:=J I fun r hr H=>l.2.2 r hr r H rfl;refine⟨q,R',M',fq,rfl,⟨⟨⟨h.row.row.step C u,v h.row.kids o,h.row.got,h.row.nd⟩, ?_, ?_,⟨⟨A.1,A.2.1,dc ⟨q,rfl,b.Cr⟩⟩,v I m⟩, ?_,fun r hr=> ?_,fun r y hr hy=> ?_,h.low,fun j z s hs=>by obtain⟨y,hy⟩:=h.GM j z s hs;exact u.dom s y hy⟩,rfl,b.Cr⟩⟩;·rw[b.at_];simp
 ·rw[<-h.keys];simp
 ·rw[dy];refine cA.2 ⟨fun H=> ?_,aP.2 ⟨K.1,aP.2 ⟨b.nd,l.2.1,fun r hr s hs e=>G r hr (by rw[e];exact hs)⟩,fun r hr s hs e=> ?_⟩⟩
  ·rcases ah.1 H with H|H;·exact o H
   ·rcases ah.1 H with H|H;·exact b.pn H
    ·exact m H
  ·subst e;rcases ah.1 hs with hs|hs;·exact D r hs hr
   ·exact K.2.2 r hr r (ah.2 (dc hs)) rfl
 ·rw[dy] at hr;rcases ah.1 hr with hr|hr;·exact h.news r (ah.2 (cS hr))
  ·rcases ah.1 hr with hr|hr
   ·rcases g r hr with w|w;·exact h.news r (ah.2 (dc (by rw[dy];exact ah.2 (cS w))))
    ·right;omega
   ·exact h.news r (ah.2 (dc (by rw[dy];exact ah.2 (dc hr))))
 ·exact b.same r y (fun e=>hr zbc) (h.same r y hr hy)
end
section
variable {E:Ev} {X0 Xs X X' V:World} {R0 Rs R R':Φ} {ps:Γ} {pg:Ξ} {rt:Δ} {Ms M M':Nat->Option NV} {sb p q:Nat} {n0:NV} {iA sv fI lv nB rv:Value} {l0:List Int} {LI Tq IT I1 I2 ju Ax:List It} {k:Nat}
theorem Of {F:Δ} {st:List (Tr.Tx×Tr.E (k+1))×Δ} {i:It} {c:Tr.Tx×Tr.E (k+1)} {W2:List (Tr.Tx×Tr.E (k+1))} {f:Δ} {f2 fa:List (Δ)}
  (h:YE E X0 R0 ps pg rt Rs Ms Xs sb iA k p n0 I1 I2 F l0 st ju i Ax c W2 f f2 q R M X sv lv LI fa) (j:Below X.heap.size X V) (hp:(Tr.hd c.2).page.isSome=true) (hl:(l0++iF st.2).length<=1000000):
  Calls prog 189 #[ptr sb,ptr q,eU #[cu (bs i.key),cu (bs i.val),dr (pa i.node)]] V fun e X'=>∃rv R' M' fI IT fs,e=c8 rv/\(∀t∈IT,t.node.isSome=true)/\As E X0 R0 ps pg rt Rs Ms Xs sb iA k M X (fa.flatten++f) l0 rv IT (Tr.parted k c).1 fs (st.1,st.2++(Tr.parted k c).2) 0 R' M' X' fI lv LI fa:=by
 obtain⟨o,hn,J⟩:=h;obtain⟨w,C⟩:=o.rest;have l:=cA.1 o.nd;have K:=aP.1 l.2;rw[dy] at K;have m:=aP.1 K.2.1;have H:=o.row.row.ss;refine (Oe (key:=c.1) (H.still j) J w hn m.1 hp hl).mono ?_;rintro e X' ⟨rv,R',M',fI,IT,fs,rfl,it⟩;have a:nP R M X sb sv R' M' fI X':=(nP.still j).trans it.Cv;have x:=j.size;have g:∀r∈fa.flatten,r∉f:=fun r hr n=>K.2.2 r hr r (ah.2 (cS n)) rfl;have u:bz pg k (dQ M' pg k) LI st.1 fa:=o.row.kids.frame fun r hr=>by obtain⟨y,hy⟩:=o.row.kids.dom r hr;rw[hy];exact it.same r y (g r hr) hy
 have z:=o.row.row.Cv.but.size;have A:l0++iF (st.2++(Tr.parted k c).2)=(l0++iF st.2)++iF (Tr.parted k c).2:=by unfold iF;rw[bM,aD]
 refine⟨rv,R',M',fI,IT,fs,rfl,it.got,⟨⟨?_,u,o.row.got,o.row.nd⟩,it.kids, ?_,it.own.mono κ,fun b v=> ?_,fun r hr=> ?_,fun r y hr hy=>it.same r y (fun n=>hr (ah.2 (dc n))) hy,a.but.size,fun r y hy=>(H.ts.mem.lt hy).1,a.dom⟩⟩;·show Row _ _ _ _ _ _ _ _ _ _ _ _ _ _ _ (l0++iF (st.2++(Tr.parted k c).2)) _ _;rw[A];exact o.row.row.step it.ss a
 ·show (fa.flatten++fs.flatten).Nodup;refine aP.2 ⟨K.1,it.nd,fun r hr s hs e=> ?_⟩;subst e;rcases it.news r hs with d|d;·exact g r hr d
  ·obtain⟨y,hy⟩:=o.row.kids.dom r hr;have:=(H.ts.mem.lt hy).1;omega
 ·have d:=(Own.block it.own b v).1;obtain⟨B,h3⟩:=it.GI b v;refine⟨B,fun e=> ?_,h3,fun e=> ?_⟩;·have:=H.blk.lt;omega
  ·have:=(Own.block o.row.row.own b e).2;omega
 ·have N:r∈fa.flatten++fs.flatten:=hr;rcases ah.1 N with hr|hr;·exact cS (ah.2 (cS hr))
  ·rcases it.news r hr with d|d;·exact cS (ah.2 (dc d))
   ·right;omega
theorem Kc {F:Δ} {st S:List (Tr.Tx×Tr.E (k+1))×Δ} {i:It} {c:Tr.Tx×Tr.E (k+1)} {W2 cs:List (Tr.Tx×Tr.E (k+1))} {f:Δ} {f2 fs fa kX:List (Δ)} {j:Nat}
  (h:YE E X0 R0 ps pg rt Rs Ms Xs sb iA k p n0 I1 I2 F l0 st ju i Ax c W2 f f2 q R M X sv lv LI fa) (hi:As E X0 R0 ps pg rt Rs Ms Xs sb iA k M X (fa.flatten++f) l0 rv IT cs fs S j R' M' X' fI nB Tq kX):
  nF E X0 R0 ps pg rt Rs Ms Xs sb iA k p n0 I1 I2 F l0 S (ju++[i]) Ax W2 f2 R' M' X' fI nB Tq kX:=by
 obtain⟨o,hn,J⟩:=h;obtain⟨K,v⟩:=o.rest;have H:=cA.1 o.nd;rw[dy,<-aD] at H;have hd:=aP.1 H.2;have Z:p∉fa.flatten++f:=fun a=>H.1 (ah.2 (cS a));have m:p∉f2.flatten:=fun a=>H.1 (ah.2 (dc a));have n:=o.row.row.Cv.but.size;have t:=(o.row.row.ss.ts.mem.lt o.at_).1;have b:∀r∈kX.flatten,r∈fa.flatten++f\/X.heap.size<=r:=fun r hr=>hi.news r (ah.2 (cS hr));have A:∀r,r∈fa.flatten++f\/r∈f2.flatten->r∈F\/Xs.heap.size<=r:=fun r hr=>by refine o.news r ?_;rw[dy,<-aD];exact ah.2 hr
 refine⟨hi.row, ?_, ?_,v.frame fun r hr=> ?_,cA.2 ⟨fun a=> ?_,aP.2 ⟨hi.row.nd,hd.2.1,fun r hr s hs e=> ?_⟩⟩,fun r hr=> ?_,fun r y hr hy=> ?_,o.low,fun j d s hs=> ?_⟩;·rw[hi.same p _ Z o.at_];simp
 ·rw[<-o.keys];simp
 ·obtain⟨y,hy⟩:=v.dom r hr;rw[hy];exact hi.same r y (fun a=>hd.2.2 r a r hr rfl) hy
 ·grind
 ·subst e;rcases b r hr with g|g;·grind
  ·obtain⟨y,hy⟩:=v.dom r hs;have:=(o.row.row.ss.ts.mem.lt hy).1;omega
 ·grind
 ·have l:=o.same r y hr hy;refine hi.same r y (fun a=> ?_) l;rcases A r (cS a) with g|g;·grind
  ·have:=o.low r y hy;omega
 ·rcases ah.1 d with d|d;·obtain⟨y,hy⟩:=o.GM j d s hs;exact hi.dom s y hy
  ·rw[bB.1 d,hn] at hs;cases hs;obtain⟨y,hy,-,-⟩:=J.head;exact hi.dom q y hy
end
theorem lN {pg:Ξ}:∀{k:Nat} {n:Tr.E (k+1)},cZ pg (k+1) n->Tr.Old (k+1) n
 |0,_,h=>by obtain⟨⟨page,hp,_⟩,_,_⟩:=h;exact⟨by rw[hp];rfl,fun _ _=>trivial⟩
 |k+1,_,h=>by obtain⟨⟨page,hp,_⟩,_,H⟩:=h;exact⟨by rw[hp];rfl,fun p a=>lN (H p (List.mem_of_mem_head? a))⟩
theorem CE {k:Nat} {n:NV} {A B:List (Tr.Tx×Tr.E (k+1))} {key:Tr.Tx} {c:Tr.E (k+1)} (hn:Tr.Rw (k+1) n.lo (j8 n.hi) (A++(key,c)::B)) (d:n.its.map It.key=(A++(key,c)::B).map (·.1)):
  fP n A.length=(if A=[] then n.lo else key)/\j8 (eM n A.length)=Tr.x7 (j8 n.hi) B:=by
 obtain⟨_,h4⟩:=hn;rw[Tr.dN] at h4;have a:n.its.length=(A++(key,c)::B).length:=by grind [List.length,aL]
 have h:fP n A.length=if A=[] then n.lo else key:=by simp_all[fP]
 have f:∀b B',B=b::B'->eM n A.length=b.1:=by simp_all[eM,aq]
 have T:B=[]->eM n A.length=n.hi:=by simp_all[eM]
 have H:∀b B',B=b::B'->b.1≠[]:=by
  intro b B' e g;rw[e,Tr.nh] at h4;have:=(Tr.dz.append.1 h4).2.1.1;rw[g] at this;have i:∀x:Tr.Tx,Tr.lt x []=false:=fun x=>by cases x<;>rfl
  rw[i] at this;cases this
 refine⟨h, ?_⟩;cases B with
 |nil=>rw[T rfl];rfl
 |cons b B'=>rw[f b B' rfl];unfold j8;rw[if_neg (H b B' rfl)];rfl
theorem Ek {k:Nat} {A B:List (Tr.Tx×Tr.E (k+1))} {kc:Tr.Tx} {c0 c:Tr.E (k+1)}:Tr.sz (k+1) (A++(kc,c)::B)=Tr.sz (k+1) (A++(kc,c0)::B):=by rw[Tr.eL,Tr.eL];rfl
theorem GO {k:Nat} {c0 c:Tr.E (k+1)} (h:(Tr.hd c).page=(Tr.hd c0).page):eG (k+1) c=eG (k+1) c0:=by show pv ((Tr.hd c).page.getD 0)=pv ((Tr.hd c0).page.getD 0);rw[h]
theorem dD (k:Nat) (a b:List (Tr.Tx×Tr.E k)):ak k (a++b)=ak k a++ak k b:=bM
theorem BH {k:Nat} {a b:List (Tr.Tx×Tr.E (k+1))} (h:a.map (fun p=>(p.1,(Tr.hd p.2).page))=b.map fun p=>(p.1,(Tr.hd p.2).page)):ak (k+1) a=ak (k+1) b:=by
 have e:∀l:List (Tr.Tx×Tr.E (k+1)),ak (k+1) l=(l.map fun p=>(p.1,(Tr.hd p.2).page)).map fun x=>(⟨x.1,pv (x.2.getD 0),aK⟩:It):=by intro l;unfold ak;rw[List.map_map];rfl
 rw[e,e,h]
section
variable {E:Ev} {X0 X X':World} {R0 R R':Φ} {ps:Γ} {pg:Ξ} {rt:Δ} {M M':Nat->Option NV} {k p q sb:Nat} {n m:NV} {sv fI:Value} {h:Tr.Hd} {A B:List (Tr.Tx×Tr.E (k+1))} {kc:Tr.Tx} {c0 c:Tr.E (k+1)} {F:Δ} {l0:List Int} {sp:Δ}
structure Slot (pg:Ξ) (M:Nat->Option NV) (k p q:Nat) (n m:NV) (h:Tr.Hd) (A B:List (Tr.Tx×Tr.E (k+1))) (kc:Tr.Tx) (c0 c:Tr.E (k+1)) (F:Δ):Prop where
 at_:M p=av n
 its:n.its=ak (k+1) A++⟨kc,eG (k+1) c0,av q⟩::ak (k+1) B
 sides:∀x,x∈A\/x∈B->cZ pg (k+1) x.2
 own:n.own=true
 nG:lV pg (k+1) n (Tr.mk h (A++(kc,c0)::B))
 idx:n.at_=A.length
 Cr:dQ M pg k q c F
 mS:M q=av m
 near:Tr.jz k (fP n A.length) (j8 (eM n A.length)) c
 page:(Tr.hd c).page=(Tr.hd c0).page
 old:Tr.Old (k+1) c
 was:m.was=Tr.sz k (Tr.its c0)
 fit:Tr.sz (k+1) (A++(kc,c0)::B)<=510
 fresh:h.fresh=false
 nd:(p::F).Nodup
theorem Slot.keys (s:Slot pg M k p q n m h A B kc c0 c F):n.its.map It.key=(A++(kc,c0)::B).map (·.1):=by rw[s.its,bM,bI,dB,dB,bM,bI]
theorem Slot.WO (s:Slot pg M k p q n m h A B kc c0 c F):n.its.map It.key=(A++(kc,c)::B).map (·.1):=by rw[s.keys,bM,bI,bM,bI]
theorem Slot.rw0 (s:Slot pg M k p q n m h A B kc c0 c F):Tr.Rw (k+1) n.lo (j8 n.hi) (A++(kc,c0)::B):=s.nG.near.2
theorem Slot.ends (s:Slot pg M k p q n m h A B kc c0 c F):fP n A.length=(if A=[] then n.lo else kc)/\j8 (eM n A.length)=Tr.x7 (j8 n.hi) B:=CE s.rw0 s.keys
theorem Slot.WQ (s:Slot pg M k p q n m h A B kc c0 c F):Tr.jz k (if A=[] then n.lo else kc) (Tr.x7 (j8 n.hi) B) c:=by
 have:=s.near
 rwa [s.ends.1,s.ends.2] at this
theorem Slot.ok0 (s:Slot pg M k p q n m h A B kc c0 c F):Tr.Ok (k+1) (fP n A.length) (j8 (eM n A.length)) c0:=nC s.nG.near rfl s.keys
theorem CF {n n':NV} {h:Tr.Hd} {l l':List (Tr.Tx×Tr.E (k+1))} (o:lV pg (k+1) n (Tr.mk h l)) (H:n'.level=n.level) (a:n'.page=n.page) (h3:n'.fresh=n.fresh) (h4:n'.lo=n.lo) (b:n'.hi=n.hi) (c:Tr.sz (k+1) l'<=664) (d:Tr.Rw (k+1) n.lo (j8 n.hi) l') (hp:l'.map (fun p=>(p.1,(Tr.hd p.2).page))=l.map fun p=>(p.1,(Tr.hd p.2).page)):lV pg (k+1) n' (Tr.mk h l'):=by
 refine⟨by rw[H];exact o.level,by rw[a];exact o.page,by rw[h3];exact o.fresh,by rw[h4,b];exact⟨c,d⟩,fun hf=> ?_⟩;obtain⟨page,f,g,i,j⟩:=o.held hf;refine⟨page,f,g, ?_,fun _ x m=> ?_⟩;·show pg.getD page aK=av (Dk.full (cT (k+1) (ak (k+1) l')));rw[BH hp];exact i
 ·have q:(x.1,(Tr.hd x.2).page)∈l.map fun p=>(p.1,(Tr.hd p.2).page):=by rw[<-hp];exact bY.2 ⟨x,m,rfl⟩
  obtain⟨y,hy,e⟩:=bY.1 q;have r:=j (Nat.succ_pos k) y hy;have s:(Tr.hd y.2).page=(Tr.hd x.2).page:=(Prod.mk.inj e).2;show (Tr.hd x.2).page.isSome=true;rw[<-s];exact r
theorem CG (hp:(Tr.hd c).page=(Tr.hd c0).page):(A++(kc,c)::B).map (fun p=>(p.1,(Tr.hd p.2).page))=(A++(kc,c0)::B).map fun p=>(p.1,(Tr.hd p.2).page):=zaB
def GQ (E:Ev) (X0:World) (R0 R:Φ) (ps:Γ) (pg:Ξ) (rt:Δ) (M:Nat->Option NV) (X:World) (sb:Nat) (sv:Value) (l0:List Int) (sp:Δ) (k p:Nat) (n:NV) (h:Tr.Hd) (all:List (Tr.Tx×Tr.E (k+1))) (b:Nat) (F:Δ) (X':World):Prop:=
 ∃R' M' fI n' t' f sp',SS E X0 R0 R' ps pg rt M' X' sb fI (l0++iF sp')/\nP R M X sb sv R' M' fI X'/\M' p=av n'/\(n'.lo=n.lo/\n'.hi=n.hi/\n'.was=n.was/\n'.own=true)/\dQ M' pg (k+1) p t' f/\(Tr.hd t').page=h.page/\
  Tr.x8 k n.lo (j8 n.hi) all (Tr.its t') b sp sp'/\f.Nodup/\(∀r∈f,r∈p::F\/X.heap.size<=r)/\∀r y,r∉p::F->M r=av y->M' r=av y
theorem qC {R1:Nat->Tr.E (k+1)->Δ->Prop} {I:List It} {W:List (Tr.Tx×Tr.E (k+1))} {fs:List (Δ)} {P N:List (Tr.Tx×Tr.E (k+1))} (h:∀x∈P,cZ pg (k+1) x.2) (H:∀x∈N,cZ pg (k+1) x.2) (a:bz pg k R1 I W fs):
  ∃f,bz pg k R1 (ak (k+1) P++(I++ak (k+1) N)) (P++(W++N)) f/\f.flatten=fs.flatten:=
 ⟨_,(iY h).append (a.append (iY H)),by rw[dI,dI,jr,jr,cM,bh]⟩
theorem Og (s:Slot pg M k p q n m h A B kc c0 c F) (hs:SS E X0 R0 R ps pg rt M X sb sv (l0++iF sp)) (d:Tr.sz k (Tr.its c)<=510) (hg:Tr.sz k (Tr.its c0)<=Tr.sz k (Tr.its c)) (f:Below X.heap.size X X'):
  GQ E X0 R0 R ps pg rt M X sb sv l0 sp k p n h (A++(kc,c)::B) (Tr.big k [(kc,c)]) F X':=by
 have g:Tr.its c≠[]:=by intro e;have t:=Tr.TK s.ok0.1;rw[e] at hg;have:Tr.sz k ([]:List (Tr.Tx×Tr.E k))=0:=rfl;omega
 have H:=Tr.PK s.rw0 s.WQ d g hg;have i:Tr.big k [(kc,c)]=0:=by unfold Tr.big;rw[if_pos d];rfl
 have o:=CG (A:=A) (B:=B) (kc:=kc) s.page;have hfit:=s.fit;obtain⟨fs,j,a⟩:=qC (R1:=dQ M pg k) (fun x b=>s.sides x (cS b)) (fun x b=>s.sides x (dc b)) (show bz pg k (dQ M pg k) [⟨kc,eG (k+1) c0,av q⟩] [(kc,c)] [F] from⟨⟨rfl,rfl,dc ⟨q,rfl,s.Cr⟩⟩,trivial⟩);refine⟨R,M,sv,n,Tr.mk h (A++(kc,c)::B),p::F,sp,hs.still f,nP.still f,s.at_,⟨rfl,rfl,rfl,s.own⟩, ?_,rfl, ?_,s.nd,fun r hr=>cS hr,fun _ _ _ hy=>hy⟩
 ·refine⟨n,fs,s.at_,CF s.nG rfl rfl rfl rfl rfl (by rw[Ek (c0:=c0)];omega) H o, ?_, ?_⟩;·rw[s.its];exact j
  ·rw[a];simp
 ·rw[i];refine⟨H,rfl,List.Perm.refl _,rfl,Nat.le_add_right _ _,fun l p hp=>l p (List.mem_of_mem_head? hp)⟩
end
section
variable {E:Ev} {X0 Xs X X' V:World} {R0 Rs R R':Φ} {ps:Γ} {pg:Ξ} {rt:Δ} {Ms M M':Nat->Option NV} {k p q sb:Nat} {n0 n m:NV} {iA sv fI lv:Value} {h:Tr.Hd} {P A B N:List (Tr.Tx×Tr.E (k+1))} {kc:Tr.Tx} {c0 c:Tr.E (k+1)} {F:Δ} {l0:List Int} {sp:Δ} {I1 I2 LI WI:List It} {fa:List (Δ)} {st:List (Tr.Tx×Tr.E (k+1))×Δ}
theorem mw {Ax:List It} {W2:List (Tr.Tx×Tr.E (k+1))} {f2:List (Δ)} (o:nF E X0 R0 ps pg rt Rs Ms Xs sb iA k p n0 I1 I2 F l0 st WI Ax W2 f2 R M X sv lv LI fa) (h:Below X.heap.size X V):nF E X0 R0 ps pg rt Rs Ms Xs sb iA k p n0 I1 I2 F l0 st WI Ax W2 f2 R M V sv lv LI fa:=
 ⟨⟨o.row.row.step (o.row.row.ss.still h) (nP.still h),o.row.kids,o.row.got,o.row.nd⟩,o.at_,o.keys,o.rest,o.nd,o.news,o.same,o.low,o.GM⟩
theorem bz.first {R1:Nat->Tr.E (k+1)->Δ->Prop} {i:It} {is:List It} {xs:List (Tr.Tx×Tr.E (k+1))} {fs:List (Δ)} (x:Tr.Tx) (h:bz pg k R1 (i::is) xs fs):bz pg k R1 ({i with key:=x}::is) (Tr.bH x xs) fs:=by
 match xs,fs,h with
 |_::_,_::_,h=>exact⟨⟨rfl,h.1.2.1,h.1.2.2⟩,h.2⟩
 |[],_,h=>exact h.elim
 |_::_,[],h=>exact h.elim
theorem Oh {i:It} (o:nF E X0 R0 ps pg rt Rs Ms Xs sb iA k p n0 I1 I2 F l0 st WI [] [] [] R M X sv lv (i::LI) fa) (x:Tr.Tx) {xb:ByteArray} (O:bs x=xb) {g L cp:Nat} (H:lv=cx (av ⟨g,0,aK⟩) L cp):
  ∃R',nF E X0 R0 ps pg rt Rs Ms Xs sb iA k p n0 I1 I2 F l0 (Tr.bH x st.1,st.2) WI [] [] [] R' M (X.setCell ⟨g,0,aK⟩ (cu xb)) sv lv ({i with key:=x}::LI) fa:=by
 subst H;obtain⟨d,-,-⟩:=jg o.row.row.own;subst d;have h:=zY (i::LI) 0 0 ν ξ {i with key:=x} (cu xb) (by rw[<-O];rfl);have hown:bk Xs.heap.size (X.setCell ⟨g,0,aK⟩ (cu xb)) (cx (av ⟨g,0,aK⟩) (i::LI).length cp) ({i with key:=x}::LI):=by have f:=(World.ownsRow.stored o.row.row.own 0 (cu xb)).1;have e:aj.cells ({i with key:=x}::LI)=(aj.cells (i::LI)).set 0 (cu xb):=h;unfold bk Own;rw[e];exact f
 have l:aE (fun b=>(Value.slice (av ⟨g,0,aK⟩) (i::LI).length cp).ownBlock=av b) X (X.setCell ⟨g,0,aK⟩ (cu xb)):=(aE.refl _ X).setCell _ _ fun _=>rfl;obtain⟨nB,R',m,hr,-,-⟩:=o.row.row.add (e:=c8 (ec #[cx (av ⟨g,0,aK⟩) (i::LI).length cp,bf ct 0])) ⟨_,rfl,hown,l,cS rfl⟩;have a:Value.slice (av ⟨g,0,aK⟩) (i::LI).length cp=nB:=zaB
 subst a;refine⟨R',⟨⟨hr,o.row.kids.first x,fun j c=> ?_,o.row.nd⟩,o.at_,o.keys,o.rest,o.nd,o.news,o.same,o.low,o.GM⟩⟩;rcases aM.1 c with rfl|c;·exact o.row.got i au
 ·exact o.row.got j (aH _ c)
theorem Ay (o:nF E X0 R0 ps pg rt Rs Ms Xs sb iA k p n0 (ak (k+1) P) (ak (k+1) N) F l0 st WI [] [] [] R M X sv lv LI fa) {W:List (Tr.Tx×Tr.E (k+1))} (H:n0.its.map It.key=(P++(W++N)).map (·.1)):WI.map It.key=W.map (·.1):=by have h:=o.keys;rw[cM,H,bM,bM,bM,bM,dB,dB] at h;exact List.append_cancel_right (List.append_cancel_left h)
theorem GR {α:Type} {a b:List (Tr.Tx×α)} (h:a.map (·.1)=b.map (·.1)):Tr.cD a=Tr.cD b:=by
 cases a with
 |nil=>cases b with
  |nil=>rfl
  |cons _ _=>cases h
 |cons x a=>cases b with
  |nil=>cases h
  |cons y b=>exact (List.cons.inj h).1
theorem all_eq (P A B N:List (Tr.Tx×Tr.E (k+1))) (kc:Tr.Tx) (c:Tr.E (k+1)):(P++A)++(kc,c)::(B++N)=P++((A++(kc,c)::B)++N):=ν
theorem oY (s:Slot pg Ms k p q n m h (P++A) (B++N) kc c0 c F) (hA:A=[]->P=[]) (b:B=[]->N=[]) (sp:Δ):
  Tr.x8 k n.lo (j8 n.hi) (P++((A++(kc,c)::B)++N)) (P++(Tr.bH (Tr.cD (A++(kc,c)::B)) ((A++(kc,c)::B).foldl (Tr.bK k) ([],sp)).1++N)) (Tr.big k [(kc,c)]) sp ((A++(kc,c)::B).foldl (Tr.bK k) ([],sp)).2/\∃h',Tr.jG k h' (A++(kc,c)::B):=by
 have H:=s.rw0;rw[all_eq] at H;have hn:=s.WQ;have e:(if P++A=[] then n.lo else kc)=if P=[]/\A=[] then n.lo else kc:=by simp_all
 rw[e] at hn;have o:∀p∈A,Tr.Old (k+1) p.2:=fun x a=>lN (s.sides x (cS (ah.2 (dc a))));have O:∀p∈B,Tr.Old (k+1) p.2:=fun x a=>lN (s.sides x (dc (ah.2 (cS a))));exact⟨Tr.Mu sp H hn hA b o s.old O,Tr.E_ H hn o s.old O⟩
theorem El (k:Nat) (kc:Tr.Tx) (c:Tr.E (k+1)):Tr.big k [(kc,c)]<=1:=by
 unfold Tr.big
 split
 ·exact aA _
 ·exact af _
theorem CH (s:Slot pg Ms k p q n m h (P++A) (B++N) kc c0 c F) {l:List (Tr.Tx×Tr.E (k+1))} {sp sp':Δ} (hs:Tr.x8 k n.lo (j8 n.hi) (P++((A++(kc,c)::B)++N)) l (Tr.big k [(kc,c)]) sp sp'):Tr.sz (k+1) l<=610:=by have H:=hs.size;have a:=El k kc c;have h3:=s.fit;rw[<-all_eq,Ek (c0:=c0)] at H;omega
theorem Se (s:Slot pg Ms k p q n m h (P++A) (B++N) kc c0 c F) (hA:A=[]->P=[]) (j:B=[]->N=[])
  (o:nF E X0 R0 ps pg rt Rs Ms Xs sb iA k p n (ak (k+1) P) (ak (k+1) N) F l0 ((A++(kc,c)::B).foldl (Tr.bK k) ([],sp)) WI [] [] [] R M X sv lv WI fa):
  GQ E X0 R0 Rs ps pg rt Ms Xs sb iA l0 sp k p n h (P++((A++(kc,c)::B)++N)) (Tr.big k [(kc,c)]) F X:=by
 obtain⟨a,h',l⟩:=oY s hA j sp;have d:=s.WO;rw[all_eq] at d;have f:=Ay o d;have b:((A++(kc,c)::B).foldl (Tr.bK k) ([],sp)).1.map (·.1)=(A++(kc,c)::B).map (·.1):=o.row.kids.keys.symm.trans f;have Y:=Tr.My sp l b;rw[<-GR b,Tr.yZ] at a;have t:=CH s a;obtain⟨fs,u,g⟩:=qC (pg:=pg) (P:=P) (N:=N) (fun x i=>s.sides x (cS (ah.2 (cS i)))) (fun x i=>s.sides x (dc (ah.2 (dc i)))) o.row.kids;have e:=o.nd;have H:=o.news;rw[show ([]:List (Δ)).flatten=[] from rfl,bh] at e H;refine⟨R,M,sv,_,Tr.mk h (P++(((A++(kc,c)::B).foldl (Tr.bK k) ([],sp)).1++N)),p::fa.flatten,_,o.row.row.ss,o.row.row.Cv,o.at_,⟨rfl,rfl,rfl,s.own⟩,⟨_,fs,o.at_,CF s.nG rfl rfl rfl rfl rfl κ a.row ?_, ?_,by rw[g]⟩,rfl,a,e,fun r hr=> ?_,o.same⟩;·rw[all_eq,bM,bM,bM,bM,Y,CG s.page]
 ·simp_all
 ·rcases aM.1 hr with rfl|hr;·exact cS au
  ·exact (H r hr).imp_left (aH _)
theorem Vn (s:Slot pg Ms k p q n m h (P++A) (B++N) kc c0 c F) (hA:A=[]->P=[]) (hB:B=[]->N=[])
  (o:nF E X0 R0 ps pg rt Rs Ms Xs sb iA k p n (ak (k+1) P) (ak (k+1) N) F l0 (Tr.bH (Tr.cD (A++(kc,c)::B)) ((A++(kc,c)::B).foldl (Tr.bK k) ([],sp)).1,((A++(kc,c)::B).foldl (Tr.bK k) ([],sp)).2) WI [] [] [] R M X sv lv LI fa)
  {v':Value} {NL:Nat} (I:bk 0 V v' (ak (k+1) P++(LI++ak (k+1) N))) (g:aE (fun b=>(Value.slice (av ⟨n.rg,0,aK⟩) NL n.cap).ownBlock=av b) X V) (hw:v'.ownBlock=(Value.slice (av ⟨n.rg,0,aK⟩) NL n.cap).ownBlock\/∀b,v'.ownBlock=av b->X.heap.size<=b) (hs:v'.ownBlock.isSome=true)
  (hX:X'=(V.setCell ⟨p,1,aK⟩ v').setCell ⟨p,7,aK⟩ (ey true)):
  GQ E X0 R0 Rs ps pg rt Ms Xs sb iA l0 sp k p n h (P++((A++(kc,c)::B)++N)) (Tr.big k [(kc,c)]) F X':=by
 obtain⟨v,h',NU⟩:=oY s hA hB sp;have hsz:=CH s v;obtain⟨fs,d,L⟩:=qC (pg:=pg) (P:=P) (N:=N) (fun x K=>s.sides x (cS (ah.2 (cS K)))) (fun x K=>s.sides x (dc (ah.2 (dc K)))) o.row.kids;have z:=o.nd;have t:=o.news;rw[show ([]:List (Δ)).flatten=[] from rfl,bh] at z t;obtain⟨J,gH⟩:=ξx (ak (k+1) P++(LI++ak (k+1) N));rw[<-gH] at I d;dsimp only at d;obtain⟨G,c',rfl⟩:∃G c',v'=cx (av ⟨G,0,aK⟩) J.length c':=by
  obtain⟨a,c',rfl,-⟩:=Own.slice I;rcases I.2 with⟨e,_⟩|⟨G,cap',cur,e,_⟩;·rw[e] at hs;cases hs
  ·grind
 have hlt:G<V.heap.size:=(Own.block I G rfl).2;have O:=jg I;have hat:=o.at_;have W:=o.row.row.ss.ts.mem;have ef:=W.lt hat;have UJ:n.rg≠p:=by have:=W.JL hat hat;exact this
 have w:G=n.rg\/X.heap.size<=G:=by
  rcases hw with e|e;·left;exact Option.some.inj e
  ·exact dc (e G rfl)
 have Tl:G≠p:=by
  rcases w with e|e;·rw[e];exact UJ
  ·intro Y;have:=ef.1;omega
 obtain⟨n',H⟩:∃n':NV,n'=⟨n.level,J,G,0,c',n.page,n.lo,n.hi,n.was,n.at_,true,true⟩:=⟨_,rfl⟩;have aT:aE (fun b=>b=n.rg\/b=p) X V:=g.mono fun b _ e=>cS (Option.some.inj e).symm;have ny:aE (fun b=>b=p) V X':=by rw[hX];exact ((aE.refl (fun b=>b=p) V).setCell _ _ fun _=>rfl).setCell _ _ fun _=>rfl
 have Z:aE (fun b=>b=n.rg\/b=p) X X':=aT.trans ny fun _ _ e=>dc e;have Q:bk 0 X' (cx (av ⟨G,0,aK⟩) J.length c') J:=Own.but I ny fun b g e=>Tl (by have Y:av G=av b:=g;injection Y with Y;rw[Y,e]);have hlen:=d.len.1;have aeV:=d.sz;have zb:=Tr.jP (k+1) (P++(Tr.bH (Tr.cD (A++(kc,c)::B)) ((A++(kc,c)::B).foldl (Tr.bK k) ([],sp)).1++N));have B8:NV.Small n':=by
  rw[H];refine⟨by show J.length<=400;omega,fun i hi=> ?_,O.2⟩;have S:∀{is:List It} {xs:List (Tr.Tx×Tr.E (k+1))} {fs:List (Δ)},bz pg k (dQ M pg k) is xs fs->(∀x∈xs,x.1.length<=96)->∀i∈is,i.key.length<=200/\i.val.length<=200:=by
   intro is;induction is with
   |nil=>intro _ _ _ _ i hi;cases hi
   |cons j is ih=>
    intro xs fs u K i hi;cases xs with
    |nil=>exact u.elim
    |cons x xs=>cases fs with
     |nil=>exact u.elim
     |cons f fs=>
      rcases aM.1 hi with rfl|hi;·have:=K x au;rw[u.1.1,u.1.2.1];exact⟨κ,ξ⟩
      ·exact ih u.2 (fun y hy=>K y (aH _ hy)) i hi
  exact S d (jq v.row).2.2 i hi
 have Ys:=W.nd p _ hat;have adp:Nd X' p n':=by refine⟨?_,by rw[H];exact Own.lies Q,B8⟩;rw[hX,H];exact ((Ys.blk.but g fun e=>UJ (Option.some.inj e)).set 1 _).set 7 _
 have T:Mem X' (upd M p n'):=W.renew hat n' Z (fun b g=>by
  rcases g with e|e;·exact dc ⟨e,s.own⟩
  ·exact cS e) adp zaI (by rw[H];exact Q) (by
  rw[H];rcases w with e|e;·exact cS ⟨e,s.own⟩
  ·exact dc e)
 have C:∀b,MB (upd M p n') b->MB M b\/X.heap.size<=b:=by
  rintro b ⟨r,y,hr,d⟩;rcases aO hr with⟨rfl,rfl⟩|⟨_,hr⟩
  ·rcases d with rfl|d;·exact cS ⟨_,_,hat,cS rfl⟩
   ·rw[H] at d;have d:b=G:=d;rcases w with e|e;·exact cS ⟨_,_,hat,dc (by rw[d,e])⟩
    ·right;omega
  ·exact cS ⟨r,y,hr,d⟩
 have hS:∀b,(b=n.rg\/b=p)->MB M b:=fun b g=>by
  rcases g with e|e;·exact⟨p,_,hat,dc e⟩
  ·exact⟨p,_,hat,cS e⟩
 have l:=o.row.row.ss;have aeW:=ny.size;have U:∀b,(R b\/b=G)->R b\/X.heap.size<=b:=fun b g=>by
  rcases g with g|rfl;·exact cS g
  ·rcases w with e|e;·rw[e];exact cS (l.ts.lT _ (hS _ (cS rfl))).1
   ·exact dc e
 have hts:TS E X0 R0 (fun b=>R b\/b=G) ps pg rt (upd M p n') X':=by
  refine l.ts.own Z (fun b _ e=>l.ts.lT b (hS b e)) T (fun b g=> ?_) (fun _ h=>cS h) (fun b g=> ?_)
  ·refine⟨?_, ?_⟩
   ·obtain⟨r,y,hr,d⟩:=g;rcases aO hr with⟨rfl,rfl⟩|⟨_,hr⟩
    ·rcases d with rfl|d;·exact cS (l.ts.lT _ (hS _ (dc rfl))).1
     ·rw[H] at d;exact dc d
    ·exact cS (l.ts.lT b ⟨r,y,hr,d⟩).1
   ·rcases C b g with D|D;·exact (l.ts.lT b D).2
    ·exact aN l.ts.but.size D
  ·rcases g with g|rfl;·exact cS g
   ·rcases U _ (dc rfl) with D|D;·exact cS D
    ·exact dc ⟨D,κ⟩
 have hsp:∀r∈fa.flatten,upd M p n' r=M r:=fun r hr=>aX fun e=>(cA.1 z).1 zaC
 refine⟨_,upd M p n',sv,n',Tr.mk ⟨h.page,true⟩ (P++(Tr.bH (Tr.cD (A++(kc,c)::B)) ((A++(kc,c)::B).foldl (Tr.bK k) ([],sp)).1++N)),p::fa.flatten,_,l.nodes hts Z hS (fun _ h=>cS h) C,o.row.row.Cv.trans (nP.nodes Z hS (fun _ h=>cS h) U C (Dom.upd _ _ _)),bF _ _ _,⟨zaI,zaI,zaI,zaI⟩,
  ⟨n',fs,bF _ _ _,⟨by rw[H];exact s.nG.level,by rw[H];exact s.nG.page,zaK,by rw[H];exact⟨by show Tr.sz (k+1) _<=664;exact aN hsz ξ,v.row⟩,fun e=>zaH⟩, ?_,by rw[L]⟩,rfl,v,z,fun r hr=> ?_,fun r y hr hy=> ?_⟩
 ·have e:n'.its=J:=by rw[H]
  rw[e];exact d.frame fun r hr=>by rw[L] at hr;exact hsp r hr
 ·rcases aM.1 hr with rfl|hr;·exact cS au
  ·exact (t r hr).imp_left (aH _)
 ·rw[aX (fun e=>hr zbc)];exact o.same r y hr hy
end
section
variable {E:Ev} {X0 Xs X X' V:World} {R0 Rs R R':Φ} {ps:Γ} {pg:Ξ} {rt:Δ} {Ms M M':Nat->Option NV} {k p q sb:Nat} {n m:NV} {iA sv fI lv:Value} {h:Tr.Hd} {P A B N:List (Tr.Tx×Tr.E (k+1))} {kc:Tr.Tx} {c0 c:Tr.E (k+1)} {F:Δ} {l0:List Int} {sp:Δ}
def tq (k:Nat) (A B:List (Tr.Tx×Tr.E (k+1))) (kc:Tr.Tx) (c0:Tr.E (k+1)) (q:Nat):List It:=ak (k+1) A++⟨kc,eG (k+1) c0,av q⟩::ak (k+1) B
def YG (E:Ev) (X0:World) (R0:Φ) (ps:Γ) (pg:Ξ) (rt:Δ) (Rs:Φ) (Ms:Nat->Option NV) (Xs:World) (sb:Nat) (iA:Value) (k p:Nat) (n:NV) (P N W:List (Tr.Tx×Tr.E (k+1))) (w:List It) (F:Δ) (l0:List Int) (sp:Δ) (j:Nat) (lv:Value) (X:World):Prop:=
 ∃ju f2 R M sv LI fa,ju.length=j/\j<=W.length/\nF E X0 R0 ps pg rt Rs Ms Xs sb iA k p n (ak (k+1) P) (ak (k+1) N) F l0 ((W.take j).foldl (Tr.bK k) ([],sp)) ju (w.drop j) (W.drop j) f2 R M X sv lv LI fa
def adq (E:Ev) (X0:World) (R0:Φ) (ps:Γ) (pg:Ξ) (rt:Δ) (Rs:Φ) (Ms:Nat->Option NV) (Xs:World) (sb:Nat) (iA:Value) (k p:Nat) (n:NV) (P N W:List (Tr.Tx×Tr.E (k+1))) (w:List It) (F:Δ) (l0:List Int) (sp:Δ) (j:Nat) (lv:Value) (nq:Nat) (X:World):Prop:=
 ∃ju i f f2 R M sv LI fa,∃h:j<W.length,ju.length=j/\YE E X0 R0 ps pg rt Rs Ms Xs sb iA k p n (ak (k+1) P) (ak (k+1) N) F l0 ((W.take j).foldl (Tr.bK k) ([],sp)) ju i (w.drop (j+1)) W[j] (W.drop (j+1)) f f2 nq R M X sv lv LI fa
def WIn (E:Ev) (X0:World) (R0:Φ) (ps:Γ) (pg:Ξ) (rt:Δ) (Rs:Φ) (Ms:Nat->Option NV) (Xs:World) (sb:Nat) (iA:Value) (k p:Nat) (n:NV) (P N W:List (Tr.Tx×Tr.E (k+1))) (w:List It) (F:Δ) (l0:List Int) (sp:Δ) (j L:Nat) (ra:Option Addr) (J:Nat) (lv:Value) (X:World):Prop:=
 ∃ju i f f2 nq r Mb Xb Z z b a rv IT fs R M sv LI fa,∃h:j<W.length,ju.length=j/\YE E X0 R0 ps pg rt Rs Ms Xs sb iA k p n (ak (k+1) P) (ak (k+1) N) F l0 ((W.take j).foldl (Tr.bK k) ([],sp)) ju i (w.drop (j+1)) W[j] (W.drop (j+1)) f f2 nq r Mb Xb Z z b a/\
  (∃rc,rv=cx ra L rc)/\IT.length=L/\(∀t∈IT,t.node.isSome=true)/\J<=L/\
  As E X0 R0 ps pg rt Rs Ms Xs sb iA k Mb Xb (a.flatten++f) l0 rv IT (Tr.parted k W[j]).1 fs (rowAt k W[j].1 (((W.take j).foldl (Tr.bK k) ([],sp)).1,((W.take j).foldl (Tr.bK k) ([],sp)).2++(Tr.parted k W[j]).2) (Tr.parted k W[j]).1 J) J R M X sv lv LI fa
theorem GU {IT LI:List It} {cs:List (Tr.Tx×Tr.E (k+1))} {fs fa:List (Δ)} {st:List (Tr.Tx×Tr.E (k+1))×Δ} {j:Nat} {rv:Value} {Mb:Nat->Option NV} {Xb:World} (o:As E X0 R0 ps pg rt Rs Ms Xs sb iA k Mb Xb F l0 rv IT cs fs st j R M X sv lv LI fa) (h:Below X.heap.size X V):As E X0 R0 ps pg rt Rs Ms Xs sb iA k Mb Xb F l0 rv IT cs fs st j R M V sv lv LI fa:=
 ⟨⟨o.row.row.step (o.row.row.ss.still h) (nP.still h),o.row.kids,o.row.got,o.row.nd⟩,o.rest,o.nd,Own.below o.own h (af _),o.GI,o.news,o.same,aN o.size h.size,o.low,o.dom⟩
theorem Oi {ju Ax LI:List It} {i:It} {c:Tr.Tx×Tr.E (k+1)} {W2:List (Tr.Tx×Tr.E (k+1))} {f:Δ} {f2 fa:List (Δ)} {st:List (Tr.Tx×Tr.E (k+1))×Δ} {I1 I2:List It} (o:YE E X0 R0 ps pg rt Rs Ms Xs sb iA k p n I1 I2 F l0 st ju i Ax c W2 f f2 q R M X sv lv LI fa) (h:Below X.heap.size X V):YE E X0 R0 ps pg rt Rs Ms Xs sb iA k p n I1 I2 F l0 st ju i Ax c W2 f f2 q R M V sv lv LI fa:=
 ⟨mw o.o h,o.node,o.Cr⟩
theorem Sf {k:Nat} {x:Tr.Tx} {st:List (Tr.Tx×Tr.E (k+1))×Δ} {cs:List (Tr.Tx×Tr.E (k+1))} {j:Nat} (h:j<cs.length):(rowAt k x st cs (j+1)).1≠[]:=by rw[th h];exact Tr.y4 _ _ _ _ _
theorem Em {c:Tr.Tx×Tr.E (k+1)} (h:0<(Tr.parted k c).1.length):((Tr.parted k c).1[0]).1=c.1:=by
 by_cases e:(Tr.its c.2).isEmpty=true;·grind [xG]
 ·grind [Av,Aw]
theorem Az (c:Tr.Tx×Tr.E (k+1)):(Tr.parted k c).1.length<=2/\(Tr.parted k c).2.length<=1:=by
 unfold Tr.parted
 split
 ·grind
 ·grind
theorem CJ (x:Tr.Tx) (st:List (Tr.Tx×Tr.E (k+1))×Δ) (cs:List (Tr.Tx×Tr.E (k+1))):∀j,(rowAt k x st cs j).1.length<=st.1.length+j/\(rowAt k x st cs j).2.length<=st.2.length+(k+1)*j
 |0=>⟨af _,Nat.le_add_right _ _⟩
 |j+1=>by
  have i:=CJ x st cs j;by_cases h:j<cs.length;·rw[th h];have:=Tr.xj k x (rowAt k x st cs j).1 (rowAt k x st cs j).2 cs[j];rw[mI];omega
  ·have e:rowAt k x st cs (j+1)=rowAt k x st cs j:=(by grind [rowAt,bD]);rw[e,mI];omega
theorem Sg (s:Slot pg Ms k p q n m h (P++A) (B++N) kc c0 c F) {j:Nat} (H:j<(A++(kc,c)::B).length) (a:j<(tq k A B kc c0 q).length) (hn:(tq k A B kc c0 q)[j].node=aK):
  Tr.Ok (k+1) (fP n (P.length+j)) (j8 (eM n (P.length+j))) ((A++(kc,c)::B)[j]).2:=by
 have b:j≠A.length:=by
  rintro rfl;have e:(tq k A B kc c0 q)[A.length]?=av ⟨kc,eG (k+1) c0,av q⟩:=by simp_all[tq,ak,aL,dm]
  rw[aI a] at e;rw[Option.some.inj e] at hn;cases hn
 have d:j<(A++(kc,c0)::B).length:=zaY
 have E:(A++(kc,c)::B)[j]=(A++(kc,c0)::B)[j]:=zaB
 rw[E];have hd:(P++A)++(kc,c0)::(B++N)=(P++(A++(kc,c0)::B).take j)++(A++(kc,c0)::B)[j]::((A++(kc,c0)::B).drop (j+1)++N):=by
  have f:(A++(kc,c0)::B)=(A++(kc,c0)::B).take j++(A++(kc,c0)::B)[j]::(A++(kc,c0)::B).drop (j+1):=by simp_all
  rw[all_eq]
  conv=>lhs;rw[f]
  simp only[aD,fQ]
 have hl:(P++(A++(kc,c0)::B).take j).length=P.length+j:=by rw[aq,aJ,bT κ]
 have:=nC (A:=P++(A++(kc,c0)::B).take j) (key:=((A++(kc,c0)::B)[j]).1) (c:=((A++(kc,c0)::B)[j]).2) (B:=(A++(kc,c0)::B).drop (j+1)++N) s.nG.near (by rw[Tr.its_mk,hd]) s.keys
 rwa [hl] at this
theorem GV:(tq k A B kc c0 q).length=(A++(kc,c)::B).length:=by unfold tq ak;simp
theorem Oj (s:Slot pg Ms k p q n m h (P++A) (B++N) kc c0 c F) (hA:A.length<=1) (hB:B.length<=1) (hk:k<=15) (hl:l0.length+sp.length<=50000) (T:∃h',Tr.jG k h' (A++(kc,c)::B)):
  Steps p q sb E.tb P.length (P.length+(A++(kc,c)::B).length) n.rg n.ro n.its.length n.cap
   (fun a lv X=>∃j,a=P.length+j/\YG E X0 R0 ps pg rt Rs Ms Xs sb iA k p n P N (A++(kc,c)::B) (tq k A B kc c0 q) F l0 sp j lv X)
   (fun a lv nq X=>∃j,a=P.length+j/\adq E X0 R0 ps pg rt Rs Ms Xs sb iA k p n P N (A++(kc,c)::B) (tq k A B kc c0 q) F l0 sp j lv nq X)
   (fun a L ra J lv X=>∃j,a=P.length+j/\WIn E X0 R0 ps pg rt Rs Ms Xs sb iA k p n P N (A++(kc,c)::B) (tq k A B kc c0 q) F l0 sp j L ra J lv X):=by
 obtain⟨h',T⟩:=T
 have hwl:(tq k A B kc c0 q).length=(A++(kc,c)::B).length:=GV
 have hW3:(A++(kc,c)::B).length<=3:=by rw[aq,a_];omega
 have w:∀x∈A++(kc,c)::B,x.1.length<=96:=by
  have H:=(jq s.rw0).2.2;intro x D;rcases ah.1 D with D|D;·grind
  ·rcases aM.1 D with rfl|D;·exact H (kc,c0) (ah.2 (dc au))
   ·grind
 have hcell:∀{I1 I2:List It} {R M X},TS E X0 R0 R ps pg rt M X->M p=av {n with its:=I1++I2}->(I1++I2).map It.key=n.its.map It.key->X.cell? ⟨p,1,aK⟩=av (cx (av ⟨n.rg,n.ro,aK⟩) n.its.length n.cap):=by
  intro I1 I2 R M X ht hm hks;have r:(I1++I2).length=n.its.length:=by have:=congrArg List.length hks;rwa [aL,aL] at this
  have:=(ht.mem.nd p _ hm).c1;rw[<-r];exact this
 generalize hWe:A++(kc,c)::B=W at*
 generalize hWi:tq k A B kc c0 q=W0 at*
 refine⟨?_, ?_, ?_, ?_, ?_, ?_, ?_, ?_⟩
 ·rintro a lv X ⟨j,rfl,ju,f2,R,M,sv,LI,fa,H,G,o⟩;exact⟨o.row.row.ss.blk.cell (j:=0) rfl,hcell o.row.row.ss.ts o.at_ o.keys⟩
 ·rintro a lv X V ⟨j,rfl,ju,f2,R,M,sv,LI,fa,H,G,o⟩ y;exact⟨j,rfl,ju,f2,R,M,sv,LI,fa,H,G,mw o y⟩
 ·rintro a lv X ⟨j,rfl,ju,f2,R,M,sv,LI,fa,H,G,o⟩-hlt;have b:j<W.length:=by omega
  have hj0:j<W0.length:=κ
  rw[cE b,cE hj0] at o;obtain⟨i1,i2,f,f2,e1,rfl,-,-⟩:=o.rest.cons_inv;have hI:(ak (k+1) P++ju).length=P.length+j:=by rw[aq,H];unfold ak;rw[aL]
  refine (GN o (Below.refl _ _) s.nG.level hk (by rw[hI]) (fun hn=> ?_)).mono ?_;·grind [Sg]
  ·rintro e X' ⟨nq,R',M',f',rfl,g⟩;exact⟨nq,rfl,j,rfl,ju,_,f',f2,R',M',sv,LI,fa,b,H,g⟩
 ·rintro a lv nq X V ⟨j,rfl,ju,i,f,f2,R,M,sv,LI,fa,b,H,g⟩ y;exact⟨j,rfl,ju,i,f,f2,R,M,sv,LI,fa,b,H,Oi g y⟩
 ·rintro a lv nq X ⟨j,rfl,ju,i,f,f2,R,M,sv,LI,fa,b,H,g⟩;have I:=g.o.row.row.ss.ts;refine⟨hcell I g.o.at_ g.o.keys,i, ?_, ?_⟩;·have Ol:=(I.mem.nd p _ g.o.at_).row;have hI:(ak (k+1) P++ju).length=P.length+j:=(by rw[aq,H];unfold ak;rw[aL]);have hidx:P.length+j<(ak (k+1) P++(ju++(i::W0.drop (j+1)++ak (k+1) N))).length:=(by rw[<-aD,aq,hI];simp);have:=Ad.of (j:=P.length+j) Ol hidx;have e:(ak (k+1) P++(ju++(i::W0.drop (j+1)++ak (k+1) N)))[P.length+j]'hidx=i:=zaB;rw[<-e];exact this
  ·have hold:=(Tr.jG.at (tj (W1:=W.take j) (W2:=W[j]::W.drop (j+1)) (by rw[mR,b_];exact T))).2.2.1;have t:=(Tr.qT k (W.take j) ([],sp)).2;have hlb:(2*k+3)*(W.take j).length<=99:=by
    have:(W.take j).length<=3:=zaE
    calc (2*k+3)*(W.take j).length<=33*3:=Nat.mul_le_mul κ this
     _=99:=rfl
   refine (Of g (Below.refl _ _) hold.1 (by rw[aq];unfold iF;rw[aL];simp only at t;omega)).mono ?_;rintro e X' ⟨rv,R',M',fI,IT,fs,rfl,GL,z⟩;obtain⟨ra,rc,rfl,-⟩:=Own.slice z.own;have u:=z.rest.len.1;have hp2:=(Az W[j]).1;have hL:IT.length=(Tr.parted k W[j]).1.length:=u;refine⟨IT.length,ra,rc,rfl,κ,j,rfl,ju,i,f,f2,nq,R,M,X,sv,lv,LI,fa,_,IT,fs,R',M',fI,LI,fa,b,H,g,⟨rc,rfl⟩,rfl,GL,aA _,z⟩
 ·rintro a L ra J lv X V ⟨j,rfl,ju,i,f,f2,nq,U,Mb,Xb,Z,Y,ZT,v,rv,IT,fs,R,M,sv,LI,fa,b,H,g,G,h3,h4,h5,o⟩ y;exact⟨j,rfl,ju,i,f,f2,nq,U,Mb,Xb,Z,Y,ZT,v,rv,IT,fs,R,M,sv,LI,fa,b,H,g,G,h3,h4,h5,GU o y⟩
 ·rintro a L ra J lv X ⟨j,rfl,ju,i,f,f2,nq,U,Mb,Xb,Z,Y,ZT,v,rv,IT,fs,R,M,sv,LI,fa,b,H,g,⟨rc,rfl⟩,h3,h4,h5,o⟩ hlt;have MX:J<IT.length:=by omega
  obtain⟨gr,cr,hv,-,Gd,-⟩:=Own.form o.own κ;have hra:ra=av ⟨gr,0,aK⟩:=by injection hv
  have u:=o.rest.len.1;rw[aS,aS] at u;have Zt:J<(Tr.parted k W[j]).1.length:=κ
  have K:=o.own;rw[hv] at K;have abD:=Ad.of (Own.lies K) MX;refine⟨gr,IT[J],hra,abD,fun V y=> ?_⟩;have t:=Tr.qT k (W.take j) ([],sp);have O:=CJ W[j].1 (((W.take j).foldl (Tr.bK k) ([],sp)).1,((W.take j).foldl (Tr.bK k) ([],sp)).2++(Tr.parted k W[j]).2) (Tr.parted k W[j]).1 J;have htk:(W.take j).length<=3:=zaE
  have hlb:(2*k+3)*(W.take j).length<=99:=by
   calc (2*k+3)*(W.take j).length<=33*3:=Nat.mul_le_mul κ htk
    _=99:=rfl
  have hp2:=Az W[j];have aeX:(k+1)*J<=32:=by
   calc (k+1)*J<=16*2:=Nat.mul_le_mul κ κ
    _=32:=rfl
  have aeY:=o.row.kids.len.1;have Q:=Kb (x:=[]) sp (((W.take j).foldl (Tr.bK k) ([],sp)).2++(Tr.parted k W[j]).2) (W1:=W.take j) (c:=W[j]) (W2:=W.drop (j+1)) (h:=h') (by rw[mR,b_];exact T) (fun d l _=>Tr.nil_le _) (w _ (bp b)) J Zt;have e2:(((W.take j).foldl (Tr.bK k) ([],sp)).2++(Tr.parted k W[j]).2).length=((W.take j).foldl (Tr.bK k) ([],sp)).2.length+(Tr.parted k W[j]).2.length:=aq
  refine (Ka o y MX Zt h4 (by simp only at O t;simp only[gd] at t;omega) Q.1 (by
   rw[aq];unfold iF;rw[aL];simp only at O t;omega) hk Q.2).mono ?_
  rintro e V' ⟨nB,R',M',fI,Tq,kX,rfl,o'⟩
  have C:Tr.bP k ((Tr.parted k W[j]).1[J]).1 (rowAt k W[j].1 (((W.take j).foldl (Tr.bK k) ([],sp)).1,((W.take j).foldl (Tr.bK k) ([],sp)).2++(Tr.parted k W[j]).2) (Tr.parted k W[j]).1 J).1 (rowAt k W[j].1 (((W.take j).foldl (Tr.bK k) ([],sp)).1,((W.take j).foldl (Tr.bK k) ([],sp)).2++(Tr.parted k W[j]).2) (Tr.parted k W[j]).1 J).2 (Tr.parted k W[j]).1[J]=
    rowAt k W[j].1 (((W.take j).foldl (Tr.bK k) ([],sp)).1,((W.take j).foldl (Tr.bK k) ([],sp)).2++(Tr.parted k W[j]).2) (Tr.parted k W[j]).1 (J+1):=by
   rw[th Zt];refine (GK k _ _ _ _ fun he=> ?_).symm;cases J with
   |zero=>exact (Em Zt).symm
   |succ J=>exact absurd he (Sf κ)
  rw[C] at o';exact⟨nB,rfl,j,rfl,ju,i,f,f2,nq,U,Mb,Xb,Z,Y,ZT,v,_,IT,fs,R',M',fI,Tq,kX,b,H,g,⟨rc,rfl⟩,h3,h4,κ,o'⟩
 ·rintro a L ra lv X ⟨j,rfl,ju,i,f,f2,nq,U,Mb,Xb,Z,Y,ZT,v,rv,IT,fs,R,M,sv,LI,fa,b,H,g,⟨rc,rfl⟩,h3,h4,h5,o⟩;have u:=o.rest.len.1;rw[aS,aS] at u;have S:=Kc g o;have r:(Tr.parted k W[j]).1.length<=L:=by omega
  have C:rowAt k W[j].1 (((W.take j).foldl (Tr.bK k) ([],sp)).1,((W.take j).foldl (Tr.bK k) ([],sp)).2++(Tr.parted k W[j]).2) (Tr.parted k W[j]).1 L=(W.take (j+1)).foldl (Tr.bK k) ([],sp):=by have e1:rowAt k W[j].1 (((W.take j).foldl (Tr.bK k) ([],sp)).1,((W.take j).foldl (Tr.bK k) ([],sp)).2++(Tr.parted k W[j]).2) (Tr.parted k W[j]).1 L=rowAt k W[j].1 (((W.take j).foldl (Tr.bK k) ([],sp)).1,((W.take j).foldl (Tr.bK k) ([],sp)).2++(Tr.parted k W[j]).2) (Tr.parted k W[j]).1 (Tr.parted k W[j]).1.length:=(by unfold rowAt;rw[bD r,bD (af _)]);rw[e1,Ej,List.take_add_one,aI b,List.foldl_append];rfl
  rw[C] at S;exact⟨j+1,κ,ju++[i],f2,R,M,sv,LI,fa,by rw[aq,H];rfl,κ,S⟩
end
theorem GX (w:World) (a:Option Addr) (c1 g o c2:Nat) (l m:List It) (hl:l.length<=400) (c:m.length<=400) (H:l.length≠m.length):
  Calls prog 191 #[cx a l.length c1,cx (av ⟨g,o,aK⟩) m.length c2] w fun e w'=>DR l m w e w':=by
 have j:(l.length:Int)<=400:=κ
 have T:(m.length:Int)<=400:=κ
 have b:((l.length:Int)==m.length)=false:=θ
 go_enter func191,ntmps191;go_wp2;go_ret;exact (show DR l m w (c8 (ey false)) w from⟨false,rfl,⟨fun h=>χ,fun h=>absurd (congrArg List.length h) H⟩,Below.refl _ _⟩)
theorem Sh {α:Type} {w0:It} {WI:List It} {W:List (Tr.Tx×α)} (h:(w0::WI).map It.key=W.map (·.1)):w0.key=Tr.cD W:=by
 cases W with
 |nil=>cases h
 |cons x W=>exact (List.cons.inj h).1
theorem GY {X:World} {M:Nat->Option NV} {q:Nat} {y:NV} (h:Mem X M) (H:M q=av y):∃cur t,X.heap[q]?=av (dg cur t (0,0)):=⟨_,_,(h.nd q y H).blk⟩
theorem bz.GM {X:World} {M:Nat->Option NV} {pg:Ξ} {k:Nat} (b:Mem X M):∀{is:List It} {xs:List (Tr.Tx×Tr.E (k+1))} {fs:List (Δ)},bz pg k (dQ M pg k) is xs fs->Ge X is
 |[],[],[],_=>fun i hi=>by cases hi
 |i::is,x::xs,f::fs,h=>fun j H q a=>by
  rcases aM.1 H with rfl|H
  ·rcases h.1.2.2 with⟨hn,_⟩|⟨q',n,hr⟩;·grind
   ·rw[n] at a;cases a;obtain⟨y,hy,-,-⟩:=hr.head;exact GY b hy
  ·exact bz.GM b h.2 j H q a
 |[],[],_::_,h=>h.elim
 |[],_::_,_,h=>h.elim
 |_::_,[],_,h=>h.elim
 |_::_,_::_,[],h=>h.elim
section
variable {E:Ev} {X0 Xs X X' V:World} {R0 Rs R R':Φ} {ps:Γ} {pg:Ξ} {rt:Δ} {Ms M M':Nat->Option NV} {k p q sb:Nat} {n m:NV} {iA sv fI lv:Value} {h:Tr.Hd} {P A B N:List (Tr.Tx×Tr.E (k+1))} {kc:Tr.Tx} {c0 c:Tr.E (k+1)} {F:Δ} {l0:List Int} {sp:Δ}
def abF (E:Ev) (X0:World) (R0:Φ) (ps:Γ) (pg:Ξ) (rt:Δ) (Rs:Φ) (Ms:Nat->Option NV) (Xs:World) (sb:Nat) (iA:Value) (k p:Nat) (n:NV) (P N:List (Tr.Tx×Tr.E (k+1))) (F:Δ) (l0:List Int) (st:List (Tr.Tx×Tr.E (k+1))×Δ) (W:Nat) (la:Option Addr) (ln lc:Nat) (X:World):Prop:=
 ∃WI R M sv LI fa,ln=LI.length/\WI.length=W/\nF E X0 R0 ps pg rt Rs Ms Xs sb iA k p n (ak (k+1) P) (ak (k+1) N) F l0 st WI [] [] [] R M X sv (cx la ln lc) LI fa
theorem tu {st:List (Tr.Tx×Tr.E (k+1))×Δ} {I1 I2 WI LI:List It} {fa:List (Δ)} (o:nF E X0 R0 ps pg rt Rs Ms Xs sb iA k p n I1 I2 F l0 st WI [] [] [] R M X sv lv LI fa):
  X.cell? ⟨p,1,aK⟩=av (cx (av ⟨n.rg,n.ro,aK⟩) n.its.length n.cap)/\(I1++(WI++I2)).length=n.its.length/\bg aj X n.rg n.ro (I1++(WI++I2)):=by
 have h:=o.keys;rw[cM] at h;have H:(I1++(WI++I2)).length=n.its.length:=by have:=congrArg List.length h;rwa [aL,aL] at this
 have hat:=o.at_;rw[cM] at hat;have a:=o.row.row.ss.ts.mem.nd p _ hat;have:=a.c1;rw[<-H];exact⟨this,rfl,a.row⟩
theorem Si (s:Slot pg Ms k p q n m h (P++A) (B++N) kc c0 c F) (hA:A=[]->P=[]) (W:B=[]->N=[]) (Xl:A.length<=1) (OU:B.length<=1):
  Ends p P.length (P.length+(A++(kc,c)::B).length) n.rg n.ro n.its.length n.cap
   (fun a lv X=>∃j,a=P.length+j/\YG E X0 R0 ps pg rt Rs Ms Xs sb iA k p n P N (A++(kc,c)::B) (tq k A B kc c0 q) F l0 sp j lv X)
   (fun X=>GQ E X0 R0 Rs ps pg rt Ms Xs sb iA l0 sp k p n h (P++((A++(kc,c)::B)++N)) (Tr.big k [(kc,c)]) F X)
   (fun la ln lc X=>abF E X0 R0 ps pg rt Rs Ms Xs sb iA k p n P N F l0 ((A++(kc,c)::B).foldl (Tr.bK k) ([],sp)) (A++(kc,c)::B).length la ln lc X)
   (fun la ln lc X=>abF E X0 R0 ps pg rt Rs Ms Xs sb iA k p n P N F l0 (Tr.bH (Tr.cD (A++(kc,c)::B)) ((A++(kc,c)::B).foldl (Tr.bK k) ([],sp)).1,((A++(kc,c)::B).foldl (Tr.bK k) ([],sp)).2) (A++(kc,c)::B).length la ln lc X):=by
 have hW3:(A++(kc,c)::B).length<=3:=by rw[aq,a_];omega
 have nN:0<(A++(kc,c)::B).length:=by rw[aq,a_];omega
 have w:=(Tr.qT k (A++(kc,c)::B) ([],sp)).1
 have d:(ak (k+1) P).length=P.length:=aL _
 have z:=s.WO
 rw[all_eq] at z
 refine⟨?_, ?_, ?_, ?_⟩
 ·rintro lv X ⟨j,hj,ju,f2,R,M,sv,LI,fa,Y,h2,o⟩;obtain rfl:j=(A++(kc,c)::B).length:=by omega
  rw[List.take_length,List.drop_length,gj (by rw[GV (c:=c)];exact af _)] at o;obtain⟨-,rfl⟩:=o.rest.yh;obtain⟨la,lc,rfl,-⟩:=Own.slice o.row.row.own;have Z:=o.row.kids.len.1;have aeZ:LI.length<=6:=by simp only[gd] at w;omega
  refine⟨la,LI.length,lc,rfl,κ, ?_⟩;obtain⟨-,f,O⟩:=tu o;have v:=o.row.row.ss.ts.mem;have e:P.length+(A++(kc,c)::B).length-P.length=ju.length:=κ
  rw[e];have cL:Calls prog 191 #[cx la LI.length lc,cx (av ⟨n.rg,n.ro+P.length*3,aK⟩) ju.length (n.cap-P.length)] X fun e w'=>DR LI ju X e w':=by
   by_cases hl:LI.length=ju.length;·obtain⟨g,c',C,-,-,-⟩:=Own.form o.row.row.own κ;have u:la=av ⟨g,0,aK⟩:=(by injection C);subst u;have r:=bg.part O P.length ju.length (by rw[aq,d];omega);rw[<-d,List.drop_left,List.take_left,d] at r;refine Gf X g 0 lc n.rg (n.ro+P.length*3) (n.cap-P.length) LI ju (Own.lies o.row.row.own) r κ κ (bz.GM v o.row.kids) (fun i hi q hq=> ?_);obtain⟨y,hy⟩:=o.GM i hi q hq;exact GY v hy
   ·grind [GX,LI]
  refine cL.mono ?_;rintro e X' ⟨b,rfl,K,t⟩;refine⟨b,rfl,fun ht=> ?_,fun _=>⟨ju,R,M,sv,LI,fa,rfl,Y,mw o t⟩⟩;obtain rfl:=K.1 ht;exact Se s hA W (mw o t)
 ·rintro la lc X ⟨WI,R,M,sv,LI,fa,hl,D,o⟩;have Z:LI=[]:=ff.1 hl.symm;subst Z;have G:((A++(kc,c)::B).foldl (Tr.bK k) ([],sp)).1=[]:=ff.1 o.row.kids.len.1.symm;refine⟨WI,R,M,sv,[],fa,hl,D, ?_⟩;have e:(Tr.bH (Tr.cD (A++(kc,c)::B)) ((A++(kc,c)::B).foldl (Tr.bK k) ([],sp)).1,((A++(kc,c)::B).foldl (Tr.bK k) ([],sp)).2)=(A++(kc,c)::B).foldl (Tr.bK k) ([],sp):=by rw[G];exact Prod.ext G.symm rfl
  rw[e];exact o
 ·rintro la ln lc X ⟨WI,R,M,sv,LI,fa,rfl,D,o⟩ hpos;obtain⟨hc,f,O⟩:=tu o;refine⟨hc, ?_⟩;obtain⟨g,c',C,-,Gd,-⟩:=Own.form o.row.row.own hpos;have u:la=av ⟨g,0,aK⟩:=by injection C
  subst u;cases LI with
  |nil=>cases hpos
  |cons i LI=>
   have L:=Ay o z;have hidx:P.length<(ak (k+1) P++(WI++ak (k+1) N)).length:=(by rw[aq,aq,d];omega);have Q:=Ad.of O hidx;have I:((ak (k+1) P++(WI++ak (k+1) N))[P.length]'hidx).key=Tr.cD (A++(kc,c)::B):=by
    have e1:(ak (k+1) P++(WI++ak (k+1) N))[P.length]'hidx=WI[0]' κ:=zaB;rw[e1];cases WI with
    |nil=>simp at D
    |cons w0 WI=>exact Sh L
   have q9:=Own.lies o.row.row.own;refine⟨g,bs (Tr.cD (A++(kc,c)::B)),bs i.key,rfl, ?_, ?_,Own.frozen o.row.row.own 0, ?_⟩;·rw[<-I];exact Q.key
   ·have:=(bt q9 0 ν).1;simpa using this
   ·obtain⟨R',o'⟩:=Oh o (Tr.cD (A++(kc,c)::B)) rfl rfl;exact⟨WI,R',M,sv,{i with key:=Tr.cD (A++(kc,c)::B)}::LI,fa,rfl,D,o'⟩
 ·rintro la ln lc X ⟨WI,R,M,sv,LI,fa,rfl,D,o⟩;obtain⟨hc,f,O⟩:=tu o;refine⟨hc, ?_⟩;have v:=o.row.row.ss.ts.mem;have hat:=o.at_;have hown:=v.own p _ hat s.own;have S:n.ro=0:=hown.1;have zN:bk 0 X (cx (av ⟨n.rg,0,aK⟩) (ak (k+1) P++(WI++ak (k+1) N)).length n.cap) (ak (k+1) P++(WI++ak (k+1) N)):=hown.2;have J:=v.nd p _ hat;have B8:(ak (k+1) P++(WI++ak (k+1) N)).length<=400:=J.small.len;have Z:=o.row.kids.len.1;have zb:∀(x:Tr.Tx) (l:List (Tr.Tx×Tr.E (k+1))),(Tr.bH x l).length=l.length:=fun x l=>by cases l<;>rfl
  rw[zb] at Z;have XH:LI.length<=400:=by simp only[gd] at w;omega
  rw[S,<-f]
  refine (Gl zN (aA _) B8 (Own.mono o.row.row.own (aA _)) (fun b K=>fun e=> ?_) XH (i:=P.length) (j:=P.length+(A++(kc,c)::B).length) κ (by
   have Y:(ak (k+1) P++(WI++ak (k+1) N)).length=P.length+(WI.length+(ak (k+1) N).length):=(by rw[aq,aq,d]);omega)).mono ?_
  ·exact (o.row.row.WH b K).2.1 ⟨p,_,hat,dc e⟩
  ·rintro e X' ⟨v',rfl,T,OY,U,ZU⟩;have gH:(ak (k+1) P++(WI++ak (k+1) N)).take P.length++LI++(ak (k+1) P++(WI++ak (k+1) N)).drop (P.length+(A++(kc,c)::B).length)=ak (k+1) P++(LI++ak (k+1) N):=(by grind [List.take_left,aq,aD,ak,List.drop_left]);rw[gH] at T;have UJ:p≠n.rg:=fun e=>v.JL hat hat e.symm;have V:¬(Value.slice (av ⟨n.rg,0,aK⟩) (ak (k+1) P++(WI++ak (k+1) N)).length n.cap).ownBlock=av p:=fun e=>UJ (Option.some.inj e).symm;have H:=J.blk.but OY V;obtain⟨a,cc,C,-⟩:=Own.slice T;subst C;refine⟨a,_,cc,rfl,⟨_,H.cell (j:=1) rfl⟩,⟨_,H.cell (j:=7) rfl⟩,H.frozen 1,H.frozen 7, ?_⟩;exact Vn s hA W o T OY U (ZU rfl) rfl
theorem xV (s:Slot pg M k p q n m h A B kc c0 c F) (hs:SS E X0 R0 R ps pg rt M X sb sv (l0++iF sp)) (I:k<=15) (hl:l0.length+sp.length<=50000):
  Calls prog 137 #[ptr sb,ptr p,ptr q] X fun e X'=>e=c8 (bf ct 0)/\GQ E X0 R0 R ps pg rt M X sb sv l0 sp k p n h (A++(kc,c)::B) (Tr.big k [(kc,c)]) F X':=by
 have t:=hs.ts.mem.nd q m s.mS;have hp:=hs.ts.mem.nd p n s.at_;have u:=(s.Cr.sz s.mS).1;by_cases H:Tr.sz k (Tr.its c)<=510/\Tr.sz k (Tr.its c0)<=Tr.sz k (Tr.its c);·refine (Ef (sb:=sb) (p:=p) t (by rw[u];exact H.1) (by rw[s.was,u];exact_mod_cast H.2)).mono ?_;rintro e X' ⟨rfl,v⟩;exact⟨rfl,Og s hs H.1 H.2 v⟩
 ·obtain⟨P,d,rfl,C,hA⟩:∃P d,A=P++d/\d.length<=1/\(d=[]->P=[]):=by
   by_cases e:A=[];·exact⟨[],[],e,aA _,fun _=>rfl⟩
   ·obtain⟨P,a,rfl⟩:=Tr.dX e;exact⟨P,[a],rfl,af _,fun e=>zaH⟩
  obtain⟨B',N,rfl,O,w⟩:∃B' N,B=B'++N/\B'.length<=1/\(B'=[]->N=[]):=by
   cases B with
   |nil=>exact⟨[],[],rfl,aA _,fun _=>rfl⟩
   |cons b B=>exact⟨[b],B,rfl,af _,fun e=>zaH⟩
  have J:=(oY s hA w sp).2;have f:=Oj (E:=E) (X0:=X0) (Xs:=X) (R0:=R0) (Rs:=R) (ps:=ps) (rt:=rt) (iA:=sv) (sb:=sb) s C O I hl J;have K:=Si (E:=E) (X0:=X0) (Xs:=X) (R0:=R0) (Rs:=R) (ps:=ps) (rt:=rt) (iA:=sv) (sb:=sb) (l0:=l0) (sp:=sp) s hA w C O;have D:n.its.length=P.length+(d.length+1+(B'.length+N.length)):=by rw[s.its,aq,a_];unfold ak;rw[aL,aL,aq,aq];omega
  have L:(d++(kc,c)::B').length=d.length+1+B'.length:=by rw[aq,a_];omega
  have Q:d.length=0->P.length=0:=fun e=>by rw[hA (ff.1 e)];rfl
  have S:B'.length=0->N.length=0:=fun e=>by rw[w (ff.1 e)];rfl
  have hidx:n.at_=((P.length+d.length:Nat):Int):=by rw[s.idx,aq]
  have c6:=hp.c6;rw[hidx] at c6;have Z:=hp.small.len;have T:=cA.1 s.nd;have W:∀V,Below X.heap.size X V->∃j,P.length=P.length+j/\YG E X0 R0 ps pg rt R M X sb sv k p n P N (d++(kc,c)::B') (tq k d B' kc c0 q) F l0 sp j (cx aK 0 0) V:=by
   intro V G;refine⟨0,rfl,[],(d.map fun _=>[])++F::B'.map (fun _=>[]),R,M,sv,[],[],rfl,aA _, ?_⟩;have g:((d.map fun _=>[])++F::B'.map (fun _=>[])).flatten=F:=(by rw[dI,jr,dy,jr,bh,cM]);have l:n.its=ak (k+1) P++([]++(tq k d B' kc c0 q++ak (k+1) N)):=(by rw[s.its,dD,dD];unfold tq;simp);refine⟨⟨⟨hs.ts.but.size,hs.still G,nP.still G,Own.nil _ _ _ _,fun b v=>by cases v⟩,trivial,fun i hi=>(by cases hi),List.nodup_nil⟩, ?_, ?_, ?_, ?_,fun r hr=> ?_,fun r y _ hy=>hy,fun r y hy=>(hs.ts.mem.lt hy).1,fun i hi=>(by cases hi)⟩;·rw[List.drop_zero,<-l];exact s.at_
   ·rw[List.drop_zero,<-l]
   ·rw[List.drop_zero,List.drop_zero];exact (iY fun x z=>s.sides x (cS (ah.2 (dc z)))).append ⟨⟨rfl,rfl,dc ⟨q,rfl,s.Cr⟩⟩,iY fun x z=>s.sides x (dc (ah.2 (cS z)))⟩
   ·rw[g];exact s.nd
   ·rw[g] at hr;exact cS hr
  have o:=all_eq P d B' N kc c;rw[o];by_cases hf:cJ m.its<=510;·refine Eg t hf (by rw[s.was,u];have:¬Tr.sz k (Tr.its c0)<=Tr.sz k (Tr.its c):=fun e=>H ⟨κ,e⟩;omega) c6 hp.c1 hp.blk.lt κ κ Z κ W f K hp.small.cap.1
  ·exact Gn t hf c6 hp.c1 hp.blk.lt κ κ Z κ W f K hp.small.cap.1
end
inductive jw (M:Nat->Option NV) (pg:Ξ):(k q:Nat)->(lo hi:List UInt8)->(c0:Tr.E (k+1))->(K:Nat)->(T:Tr.E (K+1))->(ps:Δ)->(pre post:List (Tr.Tx×Tr.Tx))->(out:Δ)->Prop
 |top {k q:Nat} {c0:Tr.E (k+1)}:jw M pg k q [] [] c0 k c0 [] [] [] []
 |up {k p q:Nat} {n:NV} {h:Tr.Hd} {A B:List (Tr.Tx×Tr.E (k+1))} {kc:Tr.Tx} {c0:Tr.E (k+1)} {K:Nat} {T:Tr.E (K+1)} {ps:Δ} {pre post:List (Tr.Tx×Tr.Tx)} {out:Δ} (hat:M p=av n) (gH:n.its=ak (k+1) A++⟨kc,eG (k+1) c0,av q⟩::ak (k+1) B) (lP:∀x,x∈A\/x∈B->cZ pg (k+1) x.2) (hown:n.own=true)
   (kI:lV pg (k+1) n (Tr.mk h (A++(kc,c0)::B))) (hidx:n.at_=A.length) (Sj:n.was=Tr.sz (k+1) (A++(kc,c0)::B)) (hfit:Tr.sz (k+1) (A++(kc,c0)::B)<=510) (hfresh:h.fresh=false) (hu:jw M pg (k+1) p n.lo n.hi (Tr.mk h (A++(kc,c0)::B)) K T ps pre post out):
   jw M pg k q (fP n A.length) (eM n A.length) c0 K T (p::ps) (pre++Tr.cH (k+1) A) (Tr.cH (k+1) B++post) (h.page.toList++(Tr.ed (k+1) A++Tr.ed (k+1) B)++out)
section
variable {M M':Nat->Option NV} {pg:Ξ} {k q K:Nat} {lo hi:List UInt8} {c0:Tr.E (k+1)} {T:Tr.E (K+1)} {ps:Δ} {pre post:List (Tr.Tx×Tr.Tx)} {out:Δ}
theorem jw.frame (h:jw M pg k q lo hi c0 K T ps pre post out) (H:∀r∈ps,M' r=M r):jw M' pg k q lo hi c0 K T ps pre post out:=by
 induction h with
 |top=>exact .top
 |up hat gH lP hown kI hidx Sj hfit hfresh hu i=>exact .up (by rw[H _ au];exact hat) gH lP hown kI hidx Sj hfit hfresh (i fun r hr=>H r (aH _ hr))
theorem jw.level (h:jw M pg k q lo hi c0 K T ps pre post out):k+ps.length=K:=by
 induction h with
 |top=>rfl
 |up _ _ _ _ _ _ _ _ _ _ i=>rw[a_];omega
theorem jw.dom (h:jw M pg k q lo hi c0 K T ps pre post out):∀r∈ps,∃n,M r=av n:=by
 induction h with
 |top=>intro r hr;cases hr
 |up hat _ _ _ _ _ _ _ _ _ i=>
  intro r hr;rcases aM.1 hr with rfl|hr;·exact⟨_,hat⟩
  ·exact i r hr
theorem jw.cH (h:jw M pg k q lo hi c0 K T ps pre post out):Tr.cH K (Tr.its T)=pre++Tr.cH k (Tr.its c0)++post:=by
 induction h with
 |top=>simp
 |up _ _ _ _ _ _ _ _ _ _ i=>rw[i,Tr.its_mk,Tr.bW,show ∀(x:Tr.Tx×Tr.E _) l,x::l=[x]++l from fun _ _=>rfl,Tr.bW,Tr.eE];simp only[aD]
theorem jw.cF (h:jw M pg k q lo hi c0 K T ps pre post out):(out++Tr.cF (k+1) c0).Perm (Tr.cF (K+1) T):=by
 induction h with
 |top=>exact List.Perm.refl _
 |@up k p q n h A B kc c0 K T ps pre post out hat gH lP hown kI hidx Sj hfit hfresh hu ih=>refine List.Perm.trans ?_ ih;show (h.page.toList++(Tr.ed (k+1) A++Tr.ed (k+1) B)++out++Tr.cF (k+1) c0).Perm (out++(h.page.toList++Tr.ed (k+1) (A++(kc,c0)::B)));rw[Tr.bX,Tr.gR];show (h.page.toList++(Tr.ed (k+1) A++Tr.ed (k+1) B)++out++Tr.cF (k+1) c0).Perm (out++(h.page.toList++(Tr.ed (k+1) A++(Tr.cF (k+1) c0++Tr.ed (k+1) B))));rw[AA];intro a;simp only[AB];omega
end
section
variable {E:Ev} {X0 X X' V:World} {R0 R R':Φ} {ps:Γ} {pg:Ξ} {rt:Δ} {M M':Nat->Option NV} {k q sb K:Nat} {sv:Value} {l0:List Int} {lo hi:List UInt8} {c0 c:Tr.E (k+1)} {T:Tr.E (K+1)} {path:Δ} {pre post tgt:List (Tr.Tx×Tr.Tx)} {out F sp:Δ} {d:Nat}
structure Zip (E:Ev) (X0:World) (R0 R:Φ) (ps:Γ) (pg:Ξ) (rt:Δ) (M:Nat->Option NV) (X:World) (sb:Nat) (sv:Value) (k q:Nat) (lo hi:List UInt8) (c0 c:Tr.E (k+1)) (K:Nat) (T:Tr.E (K+1)) (path:Δ) (pre post tgt:List (Tr.Tx×Tr.Tx)) (out F sp:Δ) (d:Nat):Prop where
 ss:SS E X0 R0 R ps pg rt M X sb sv (iF sp)
 above:jw M pg k q lo hi c0 K T path pre post out
 Cr:dQ M pg k q c F
 mS:∃m,M q=av m/\m.was=Tr.sz k (Tr.its c0)/\m.lo=lo/\m.hi=hi
 near:Tr.jz k lo (j8 hi) c
 page:(Tr.hd c).page=(Tr.hd c0).page
 old:path≠[]->Tr.Old (k+1) c
 nd:(path++F).Nodup
 cH:pre++Tr.cH k (Tr.its c)++post=tgt
 cF:(out++Tr.cF (k+1) c++sp).Perm (Tr.cF (K+1) T)
 fV:Tr.fV (k+1) c<=d+k
 few:(Tr.cF (K+1) T).length<=40000
 BB:K<=15
 quiet:d=0->Tr.fV (k+1) c=0/\Tr.sz k (Tr.its c)<=510
theorem oZ {pg:Ξ}:∀{k:Nat} {n:Tr.E (k+1)},cZ pg (k+1) n->Tr.fV (k+1) n=0
 |0,n,h=>by
  obtain⟨⟨page,hp,_⟩,_,_⟩:=h;rw[Tr.b7,hp];have:∀l:List (Tr.Tx×Tr.E 0),Tr.lS 0 l=0:=by
   intro l;induction l with
   |nil=>rfl
   |cons x l i=>rw[Tr.fD,i];rfl
  rw[this];rfl
 |k+1,n,h=>by
  obtain⟨⟨page,hp,_⟩,_,H⟩:=h;rw[Tr.b7,hp];have:∀l:List (Tr.Tx×Tr.E (k+1)),(∀p∈l,cZ pg (k+1) p.2)->Tr.lS (k+1) l=0:=by
   intro l;induction l with
   |nil=>intro _;rfl
   |cons x l i=>intro hl;rw[Tr.fD,i (fun p hp=>hl p (aH _ hp)),oZ (hl x au)]
  rw[this _ H];rfl
theorem o7 {l:List (Tr.Tx×Tr.E (k+1))} (h:∀p∈l,cZ pg (k+1) p.2):Tr.lS (k+1) l=0:=by
 induction l with
 |nil=>rfl
 |cons x l i=>rw[Tr.fD,i (fun p hp=>h p (aH _ hp)),oZ (h x au)]
theorem Sk {p:Nat} (z:Zip E X0 R0 R ps pg rt M X sb sv k q lo hi c0 c K T (p::path) pre post tgt out F sp d):
  Calls prog 137 #[ptr sb,ptr p,ptr q] X fun e X'=>e=c8 (bf ct 0)/\∃R' M' fI L v w c' l P out' D sp',Zip E X0 R0 R' ps pg rt M' X' sb fI (k+1) p L v w c' K T path l P tgt out' D sp' d/\nP R M X sb sv R' M' fI X'/\(Tr.hd c').page.isSome=true:=by
 obtain⟨ss,above,Cr,⟨m,mS,was,-,-⟩,near,page,old,nd,W,U,Vo,few,BB,quiet⟩:=z;have Y:=above.level;generalize Z:p::path=pp at above;cases above with
 |top=>cases Z
 |@up _ p' _ n h A B kc _ _ _ ps' pre post out hat gH lP hown kI hidx Sj hfit hfresh hu=>
  obtain⟨rfl,rfl⟩:=List.cons.inj Z;have b:=cA.1 nd;have G:(p::F).Nodup:=cA.2 ⟨fun i=>b.1 (ah.2 (dc i)),(aP.1 b.2).2.1⟩;have ho:=old ν;have s:Slot pg M k p q n m h A B kc c0 c F:=⟨hat,gH,lP,hown,kI,hidx,Cr,mS,near,page,ho,was,hfit,hfresh,G⟩;have hsp:sp.length<=40000:=by have:=U.length_eq;rw[aq] at this;omega
  rw[a_] at Y;refine (xV (l0:=[]) s ss κ (by rw[gd];omega)).mono ?_;rintro e X' ⟨rfl,R',M',fI,n',t',D,sp',I,J,N,⟨h1,h2,h3,h4⟩,R_,C,j,qB,o,f⟩;refine⟨rfl,R',M',fI,n.lo,n.hi,Tr.mk h (A++(kc,c0)::B),t',_,_,_,D,sp',⟨I,hu.frame fun r hr=> ?_,R_,⟨n',N,by rw[h3];exact Sj,h1,h2⟩,⟨?_,j.row⟩,C,fun hne=>⟨?_,fun x H=> ?_⟩, ?_, ?_, ?_, ?_,few,BB,fun hd=> ?_⟩,J, ?_⟩
  ·obtain⟨y,hy⟩:=hu.dom r hr;rw[hy];refine f r y (fun i=> ?_) hy;rcases aM.1 i with rfl|i;·grind
   ·grind
  ·have O:=j.size;have hb:=El k kc c;rw[Ek (c0:=c0)] at O;omega
  ·obtain⟨cy,e,_⟩:=kI.held hfresh;rw[C];have e:h.page=av cy:=e;rw[e];rfl
  ·refine j.old (fun y hy=> ?_) x H;rcases ah.1 hy with hy|hy;·grind [lN]
   ·grind [lN]
  ·refine aP.2 ⟨(aP.1 b.2).1,qB,fun r hr r' Q e=> ?_⟩;subst e;rcases o r Q with i|i;·grind
   ·obtain⟨y,hy⟩:=hu.dom r hr;have:=(ss.ts.mem.lt hy).1;omega
  ·rw[j.cH,<-W,Tr.bW,show (kc,c)::B=[(kc,c)]++B from rfl,Tr.bW,Tr.eE];simp only[aD]
  ·refine List.Perm.trans ?_ U;have t:Tr.cF (k+1+1) t'=h.page.toList++Tr.ed (k+1) (Tr.its t'):=(by rw[Tr.bE,C]);rw[t];have S:=j.cF;rw[Tr.bX,Tr.gR] at S;rw[AA] at S |-;intro a;have e3:=S a;simp only[AB] at e3 |-;have V:List.count a (Tr.cF (k+1) (kc,c).2)=List.count a (Tr.cF (k+1) c):=rfl;omega
  ·have t:=j.fV;rw[Tr.cP,Tr.fD,o7 (fun x H=>lP x (cS H)),o7 (fun x H=>lP x (dc H))] at t;have hb:=El k kc c;have g:(Tr.hd t').page.isSome=true:=(by obtain⟨cy,e,_⟩:=kI.held hfresh;rw[C];have e:h.page=av cy:=e;rw[e];rfl);rw[Tr.b7,if_pos g];have V:Tr.fV (k+1) (kc,c).2=Tr.fV (k+1) c:=rfl;omega
  ·obtain⟨q1,q2⟩:=quiet hd;have u:Tr.big k [(kc,c)]=0:=(by unfold Tr.big;rw[if_pos q2];rfl);have O:=j.size;rw[Ek (c0:=c0),u] at O;have t:=j.fV;rw[Tr.cP,Tr.fD,o7 (fun x H=>lP x (cS H)),o7 (fun x H=>lP x (dc H)),u] at t;have g:(Tr.hd t').page.isSome=true:=(by obtain⟨cy,e,_⟩:=kI.held hfresh;rw[C];have e:h.page=av cy:=e;rw[e];rfl);rw[Tr.b7,if_pos g];have V:Tr.fV (k+1) (kc,c).2=Tr.fV (k+1) c:=rfl;exact⟨κ,κ⟩
  ·obtain⟨cy,e,_⟩:=kI.held hfresh;rw[C];have e:h.page=av cy:=e;rw[e];rfl
end
section
variable {E:Ev} {X0 X X' V:World} {R0 R R':Φ} {ps:Γ} {pg:Ξ} {rt:Δ} {M M':Nat->Option NV} {k q sb:Nat} {sv:Value} {c:Tr.E (k+1)} {F sp:Δ} {m:NV}
def LK (E:Ev) (X0:World) (R0:Φ) (ps:Γ) (pg:Ξ) (rt:Δ) (sb k:Nat) (c:Tr.E (k+1)) (sp:Δ) (v:Value) (X':World):Prop:=
 ∃R' M' fI sp',SS E X0 R0 R' ps pg rt M' X' sb fI (iF sp')/\((v=dr aK/\Tr.its c=[]/\sp'=sp++(Tr.hd c).page.toList)\/
  ∃(r k':Nat) (c':Tr.E (k'+1)) (F:Δ),v=ptr r/\dQ M' pg k' r c' F/\F.Nodup/\Tr.Ok (k'+1) [] aK c'/\k'<=15/\Tr.cH k' (Tr.its c')=Tr.cH k (Tr.its c)/\(Tr.cF (k'+1) c'++sp').Perm (Tr.cF (k+1) c++sp)/\Tr.fV (k'+1) c'<=Tr.fV (k+1) c+2/\(Tr.sz k (Tr.its c)<=510->Tr.fV (k'+1) c'<=Tr.fV (k+1) c))
theorem Vp {low up:Tr.E (k+1)} {key:Tr.Tx} (h:Tr.Ok (k+1) [] (av key) low) (H:Tr.Ok (k+1) key aK up) (hl:key.length<=96) (hc:Tr.cut (k+1) low key up):Tr.Ok (k+2) [] aK (Tr.mk ⟨aK,true⟩ [([],low),(key,up)]):=by
 refine⟨ν, ?_, ?_, ?_⟩;·show 2+0+2+(2+key.length+2+0)<=510;omega
 ·intro p hp;cases hp;rfl
 ·show Tr.dz (Tr.Ok (k+1)) (Tr.cut (k+1)) aK [([],low),(key,up)];exact⟨h,⟨h.lt,hl,hc⟩,H⟩
theorem GZ (h:SS E X0 R0 R ps pg rt M X sb sv (iF sp)) (hr:dQ M pg k q c F) (j:M q=av m) (hF:F.Nodup) (hn:Tr.jz k [] aK c) (N:m.lo=[]/\m.hi=[]) (hp:(Tr.hd c).page.isSome=true\/(k=0/\Tr.its c≠[])) (W:k<=15) (w:510<Tr.sz k (Tr.its c)->k<15) (hl:sp.length<=100000):
  Calls prog 138 #[ptr sb,ptr q] X fun e X'=>∃v,e=c8 (ec #[v,bf ct 0])/\LK E X0 R0 ps pg rt sb k c sp v X':=by
 have A:=h.ts.mem.nd q m j;have B:=hr.sz j;obtain⟨m',t,z,hqF⟩:=hr.head;rw[j] at t;cases t;have Ob:(iF sp).length<=1000000:=by unfold iF;rw[aL];omega
 by_cases C:Tr.its c=[];·have Y:m.its=[]:=ff.1 (by rw[B.2.2,C];rfl);refine (NZ h.blk h.sp A Ob Y).mono ?_;rintro e X' ⟨rfl,D⟩;have G:=hp.resolve_right (fun I=>I.2 C);obtain⟨fI,R',s',h1,h2,h3,h4⟩:=h.left D;rw[z.page,jQ G] at s';exact⟨_,rfl,R',M,fI,sp++(Tr.hd c).page.toList,by unfold iF at s' |-;rw[bM];exact s',cS ⟨rfl,C,rfl⟩⟩
 ·have Z:m.its≠[]:=fun e=>C (ff.1 (by rw[<-B.2.2,e];rfl));by_cases h1:0<k/\m.its.length=1
  ·obtain⟨pY,lG⟩:=h1
   match k,c,hr,hn,hp,w,B,z,C,W,pY with
   |k+1,c,hr,hn,hp,w,B,z,C,W,_=>
    obtain⟨m',fs,t,ho',J,rfl⟩:=hr;rw[j] at t;cases t;obtain⟨i,hi⟩:∃i,m.its=[i]:=List.length_eq_one_iff.1 lG;obtain⟨x,g⟩:∃x,Tr.its c=[x]:=List.length_eq_one_iff.1 (by rw[<-B.2.2];exact lG);have ae0:=J;rw[hi,g] at J;obtain⟨i',ZH,f,fs',e1,rfl,ki,vh⟩:=J.cons_inv;obtain⟨rfl,rfl⟩:=List.cons.inj e1;obtain⟨-,rfl⟩:=vh.yh;rw[show [f].flatten=f by simp] at hF;have G:(Tr.hd c).page.isSome=true:=hp.resolve_right (fun I=>absurd I.1 (dS k));have j_:Tr.Ok (k+1) [] aK x.2:=(by obtain⟨_,_,Oa⟩:=hn;rw[Tr.dN,g] at Oa;exact Oa);have wM:fP m 0=[]/\j8 (eM m 0)=none:=(by refine⟨by unfold fP;rw[if_pos rfl];exact N.1, ?_⟩;unfold eM;rw[if_neg (by rw[hi];simp),N.2];rfl);refine (N1 (sb:=sb) (tb:=E.tb) (Q:=fun v x' X'=>x'=0/\LK E X0 R0 ps pg rt sb (k+1) c sp v X') h.blk h.sp A Ob (by rw[z.level];omega) lG (fun w1 D=> ?_)).mono ?_
    ·obtain⟨fI,R',s',g1,g2,g3,g4⟩:=h.left D;have hk1:j9 pg k (dQ M pg k) i (x.1,x.2) f:=ki;refine (Cu (I1:=[]) (I2:=[]) (key:=x.1) s'.ts (Below.refl _ _) j z.level hi hk1 (fun _=>by rw[show ([]:List It).length=0 from rfl,wM.1,wM.2];exact j_) (cA.1 hF).1 (cA.1 hF).2 κ rfl).mono ?_;rintro e X' ⟨q',M',R2,fq,rfl,b⟩;have wF:∀b,b=m.rg->MB M b:=fun b e=>⟨q,m,j,dc e⟩;have o:=s'.nodes b.ts b.but wF b.sub b.mb;rw[z.page] at o
     ·rw[jQ G] at o;refine⟨_,0,rfl,rfl,R2,M',fI,sp++(Tr.hd c).page.toList,by unfold iF at o |-;rw[bM];exact o,dc ⟨q',k,x.2,fq,rfl,b.Cr,b.nd,j_,κ, ?_, ?_, ?_⟩⟩;·rw[g,Tr.eE]
      ·rw[Tr.bE (k+1) c,g,Tr.jU,AA];intro a;simp only[AB];omega
      ·rw[Tr.b7 (k+1) c,g,Tr.jf];exact⟨κ,fun _=>κ⟩
    ·rintro e X' ⟨v,x',rfl,rfl,ht⟩;exact⟨v,rfl,ht⟩
  ·by_cases hs:Tr.sz k (Tr.its c)<=510;·refine (N0 (sb:=sb) A Z (by rw[z.level];omega) (by rw[B.1];exact hs)).mono ?_;rintro e X' ⟨rfl,d⟩;exact⟨_,rfl,R,M,sv,sp,h.still d,dc ⟨q,k,c,F,rfl,hr,hF,hn.ok C hs,W,rfl,List.Perm.refl _,Nat.le_add_right _ _,fun _=>af _⟩⟩
   ·obtain⟨H,T⟩:=ξx (fT (cJ m.its) 0 m.its);have L:510<Tr.sz k (Tr.its c):=κ;obtain⟨g0,gk0⟩:=GJ hr j L T;have P:=Tr.qP k hn L;have adu:between m H=(Tr.part k c).key:=(Ai (q:=X.heap.size) hr j hF (fun hh=>by obtain⟨y,hy⟩:=hr.dom _ hh;have:=(h.ts.mem.lt hy).1;omega) L T rfl).1;refine (J3 (sb:=sb) h.ts.mem j H T g0 gk0 (by rw[B.1];exact hs) (by rw[z.level];exact w L) (by rw[adu];have:=P.len;omega)).mono ?_;rintro e X' ⟨r,q',rg,rfl,l,nM,hr',ae1,lM,hqr⟩;obtain⟨M1,K⟩:=ξx (upd (upd M q (iz m H)) q' (ku m H));rw[<-K] at l;have hqf:q'∉F:=fun hh=>by obtain⟨y,hy⟩:=hr.dom q' hh;have:=(h.ts.mem.lt hy).1;omega
    obtain⟨A9,U,V,r1,r2,kE,adv⟩:=Ai hr j hF hqf L T K;have Gh:=(h.ts.mem.lt j).1;have Qx:∀x∈U++V,x≠r:=fun x g e=>by
     rcases adv x g with h3|h3;·obtain⟨y,hy⟩:=hr.dom x h3;have:=(h.ts.mem.lt hy).1;omega
     ·omega
    obtain⟨M2,s⟩:=ξx (upd M1 r (rootOf m q q' rg H));rw[<-s] at l;have f1:dQ M2 pg k q (Tr.part k c).low U:=r1.frame fun x g=>by rw[s,aX (Qx x (ah.2 (cS g)))]
    have f2:dQ M2 pg k q' (Tr.part k c).up V:=r2.frame fun x g=>by rw[s,aX (Qx x (ah.2 (dc g)))]
    have O:∀b,MB M2 b->MB M b\/b=q'\/b=r\/b=rg:=by
     rintro b ⟨x,y,g,d⟩;rw[s] at g;rcases aO g with⟨rfl,rfl⟩|⟨_,g⟩
     ·rcases d with rfl|rfl;·omega
      ·omega
     ·rw[K] at g;rcases aO g with⟨rfl,rfl⟩|⟨_,g⟩
      ·rcases d with rfl|rfl;·exact dc (cS rfl)
       ·exact cS ⟨q,m,j,dc rfl⟩
      ·rcases aO g with⟨rfl,rfl⟩|⟨_,g⟩;·exact cS ⟨_,m,j,d⟩
       ·exact cS ⟨x,y,g,d⟩
    have ZP:∀b,(b=q\/b=m.rg)->MB M b:=fun b d=>⟨q,m,j,d⟩;have hrl:=(l.lt (p:=r) (n:=rootOf m q q' rg H) (by rw[s,bF]));have ae2:rg<X'.heap.size:=hrl.2;have u:∀b,(b=q'\/b=r\/b=rg)->X.heap.size<=b/\b<X'.heap.size:=κ
    have hts:TS E X0 R0 (fun b=>R b\/b=q'\/b=r\/b=rg) ps pg rt M2 X':=h.ts.own lM (fun b _ d=>h.ts.lT b (ZP b d)) l (fun b d=>by
     rcases O b d with d|d;·exact⟨cS (h.ts.lT b d).1,(h.ts.lT b d).2⟩
     ·exact⟨dc d,aN h.ts.but.size (u b d).1⟩) (fun _ h=>cS h) (fun b d=>d.imp_right fun d=>u b d)
    have o:=h.nodes hts lM ZP (fun _ h=>cS h) (fun b d=>(O b d).imp_right fun d=>(u b d).1);have S:=Vp P.low P.up P.len P.cut;refine⟨_,rfl,_,M2,sv,sp,o,dc ⟨r,k+1,Tr.mk ⟨aK,true⟩ [([],(Tr.part k c).low),((Tr.part k c).key,(Tr.part k c).up)],r::[U,V].flatten,rfl,⟨rootOf m q q' rg H,[U,V],by rw[s,bF],⟨?_,rfl,rfl, ?_,fun e=>zaH⟩, ?_,rfl⟩, ?_,S,by have:=w L;omega, ?_, ?_, ?_⟩⟩;·show m.level+1=k+1;rw[z.level]
    ·exact S.near
    ·exact⟨⟨rfl,rfl,dc ⟨q,rfl,f1⟩⟩,⟨A9,rfl,dc ⟨q',rfl,f2⟩⟩,trivial⟩
    ·grind
    ·rw[Tr.its_mk,show [([],(Tr.part k c).low),((Tr.part k c).key,(Tr.part k c).up)]=[([],(Tr.part k c).low)]++[((Tr.part k c).key,(Tr.part k c).up)] from rfl,Tr.bW,Tr.eE,Tr.eE];exact P.cH
    ·rw[Tr.bE (k+1),Tr.hd_mk,Tr.its_mk,Tr.gR,Tr.jU,<-P.cF];exact List.Perm.refl _
    ·rw[Tr.b7 (k+1),Tr.hd_mk,Tr.its_mk,Tr.fD,Tr.jf];have:=P.fV;refine⟨?_,fun hq=>absurd hq κ⟩;show 1+_<=_;dsimp only;omega
end
section
variable {E:Ev} {X0 X X' X1 V:World} {R0 R R' R1 S:Φ} {ps ps' ps1:Γ} {pg cy h_:Ξ} {rt:Δ} {M M' M1:Nat->Option NV} {k p q sb:Nat} {n:NV} {sp kY al F:Δ} {J:List It} {l':List (Tr.Tx×Tr.E (k+1))} {t:Tr.E (k+2)} {fs:List (Δ)} {j:Nat}
theorem Om (K:pK E X0 R0 rt sb R ps pg M X sp k p t fs n j J l' R1 ps1 h_ M1 kY al X1) (l:j<n.its.length) (b:j<(Tr.its t).length) (d:(Tr.cF (k+2) t++sp).Nodup) (f:∀x∈Tr.cF (k+2) t++sp,(pg.getD x aK).isSome=true)
  (c:n.its[j].key=((Tr.its t)[j]).1) (hval:n.its[j].val=eG (k+1) ((Tr.its t)[j]).2) (g:cZ pg (k+1) ((Tr.its t)[j]).2) (i:(fs.take j).flatten=(fs.take (j+1)).flatten):
  pK E X0 R0 rt sb R ps pg M X sp k p t fs n (j+1) (J++[n.its[j]]) (l'++[(Tr.its t)[j]]) R1 ps1 h_ M1 kY al X1:=by
 obtain⟨o,r,h3⟩:=wP K b d f;have m:(Tr.its t).take (j+1)=(Tr.its t).take j++[(Tr.its t)[j]]:=cz b;have A:cZ h_ (k+1) ((Tr.its t)[j]).2:=gw g fun x h=>(o x h).1;have H:Tr.ed (k+1) [(Tr.its t)[j]]=Tr.cF (k+1) ((Tr.its t)[j]).2:=Tr.jU _ _;refine⟨K.sw,K.pre, ?_, ?_,fun x h=> ?_, ?_,by rw[aq,K.jl];rfl,l, ?_,fun hs=> ?_, ?_, ?_, ?_,by rw[<-i];exact K.same,K.but,K.sub,K.new,K.mb⟩;·have:=(vg (fun p:Tr.Tx×Tr.E (k+1)=>Tr.cnt (k+1) p.2) (Tr.its t) j b).1;have:=K.few;omega
 ·rw[m];exact K.sm.append ⟨⟨rfl,Tr.Sm.refl _ _⟩,trivial⟩
 ·rcases ah.1 h with h|h;·exact K.st x h
  ·grind
 ·rw[K.at_,aD,List.singleton_append,mR]
 ·rw[bM,K.kvs,dD,bM];congr 1;show [kv n.its[j]]=[kv _];unfold kv;rw[c,hval]
 ·rw[m,dD,dD,K.keep fun x h=>hs x (by rw[m];exact ah.2 (cS h))]
 ·rw[m,Tr.bX,Tr.bX,H];have e:=K.cF;rw[AA] at e |-;intro a;have q:=e a;simp only[AB] at q |-;omega
 ·rw[Tr.bX,H];exact K.pg.abz fun x h=>h3 x (ah.2 (cS h))
 ·rw[m,Tr.cP];have:=K.fV;omega
theorem Sl {a b a' B:Nat} (K:pK E X0 R0 rt sb R ps pg M X sp k p t fs n j J l' R1 ps1 h_ M1 kY al X1) (h:GB E X0 R0 rt ps1 h_ a b X') (ha:(((Tr.its t).take j).map fun p=>Tr.cnt (k+1) p.2).sum+a<=a') (d:Tr.lS (k+1) ((Tr.its t).take j)+b<=B):GB E X0 R0 rt ps pg a' B X':=by
 obtain⟨R',M',ps',cy,H,c,h3,h4⟩:=h;refine⟨R',M',ps',cy,H,K.pre.trans c, ?_, ?_⟩;·have:=K.few;omega
 ·have:=K.pg.len;have:=K.pg.used;have:=K.fV;omega
theorem Kf {q:Nat} {f:Δ} {R2 R3:Φ} {Y:Γ} {P:Ξ} {M3:Nat->Option NV} {T:Tr.E (k+1)} {s A:Δ} {X3:World} {page:Nat}
  (K:pK E X0 R0 rt sb R ps pg M X sp k p t fs n j J l' R1 ps1 h_ M1 kY al X1) (U:Below X1.heap.size X1 V) (Z:∀b,R1 b->R2 b) (B:∀b,R2 b->R1 b\/X1.heap.size<=b) (C:j<n.its.length) (l:j<(Tr.its t).length) (m:(Tr.cF (k+2) t++sp).Nodup) (u:∀x∈Tr.cF (k+2) t++sp,(pg.getD x aK).isSome=true)
  (v:n.its[j].key=((Tr.its t)[j]).1) (D:(fs.take (j+1)).flatten=(fs.take j).flatten++f) (F:p∉f) (eP:n.its[j].key.length<=200)
  (wr:WN E X0 R0 rt sb R2 ps1 h_ M1 V kY k q ((Tr.its t)[j]).2 f R3 Y P M3 T s A X3) (cO:(Tr.hd T).page=av page) {W:World} (hW:Below X3.heap.size X3 W):
  ∃M4,pK E X0 R0 rt sb R ps pg M X sp k p t fs n (j+1) (J++[{n.its[j] with val:=pv page}]) (l'++[(((Tr.its t)[j]).1,T)]) R3 Y P M4 s (al++A) (W.setCell ⟨n.rg,n.ro+(j*3+1),aK⟩ (cu (bs (pv page)))):=by
 obtain⟨h1,h2,h3⟩:=wP K l m u;have o:(Tr.its t).take (j+1)=(Tr.its t).take j++[(Tr.its t)[j]]:=cz l;have i:Tr.ed (k+1) [(((Tr.its t)[j]).1,T)]=Tr.cF (k+1) T:=Tr.jU _ _;have I:Tr.ed (k+1) [(Tr.its t)[j]]=Tr.cF (k+1) ((Tr.its t)[j]).2:=Tr.jU _ _;have Vq:M3 p=av {n with its:=J++n.its.drop j}:=by rw[wr.same p F];exact K.at_
 have L:=wr.sw.still (R':=R3) hW (fun _ h=>h) (fun _ h=>cS h);have w:j<(J++n.its.drop j).length:=by rw[aq,K.jl,aS];omega
 have kD:(J++n.its.drop j)[j]=n.its[j]:=by
  have e:(J++n.its.drop j)[j]?=av n.its[j]:=by rw[gO (by rw[K.jl];exact af _),K.jl,dm,List.getElem?_drop,Nat.add_zero,aI C]
  rw[aI w] at e;exact Option.some.inj e
 have N:=L.item Vq j 1 w ξ {n.its[j] with val:=pv page} (cu (bs (pv page))) (by
  show aj.enc {n.its[j] with val:=pv page}=(aj.enc ((J++n.its.drop j)[j])).set 1 _;rw[kD];rfl) ⟨eP,by show 2<=200;decide⟩
 have jk:(J++n.its.drop j).set j {n.its[j] with val:=pv page}=(J++[{n.its[j] with val:=pv page}])++n.its.drop (j+1):=by rw[cE C,iP _ _ (by rw[K.jl];exact af _),K.jl,dm,ay,aD];rfl
 have LD:∀x∈Tr.ed (k+1) l',x∉Tr.cF (k+1) T:=fun x c d=>by
  have h4:=(wr.cF.mem_iff (a:=x)).1 (ah.2 (cS d));have zb:x∈Tr.ed (k+1) l'++kY:=ah.2 (cS c);rcases ah.1 h4 with h4|h4
  ·rcases ah.1 h4 with h4|h4;·exact (h1 x h4).2 c
   ·have z:(Tr.ed (k+1) l'++kY).Nodup:=by
     rw[Tr.bE,aD] at m;have oX:=(aP.1 m).2.1;refine (K.cF.nodup_iff).2 (aP.2 ⟨?_,K.pg.nd,fun a ha b H e=> ?_⟩);·have g:Tr.its t=(Tr.its t).take j++(Tr.its t).drop j:=(b_ _ _).symm;rw[g,Tr.bX,aD] at oX;have G:=aP.1 oX;have O:=aP.1 G.2.1;exact aP.2 ⟨G.1,O.2.1,fun a ha b H=>G.2.2 a ha b (ah.2 (dc H))⟩
     ·subst e
      have G:(pg.getD a aK).isSome=true:=u a (by
       rw[Tr.bE,aD];refine ah.2 (dc ?_);rcases ah.1 ha with ha|ha;·obtain⟨y,hy,Q⟩:=List.mem_flatMap.1 ha;exact ah.2 (cS (rD (List.mem_of_mem_take hy) Q))
       ·exact ah.2 (dc ha))
      rw[(K.pg.free a H).1] at G;cases G
    exact (aP.1 z).2.2 x c x h4 rfl
  ·have h5:=K.pg.lZ x (cS c);rw[(wr.pg.free x h4).1] at h5;cases h5
 have hXV:=U.size;refine⟨upd M3 p {n with its:=(J++[{n.its[j] with val:=pv page}])++n.its.drop (j+1)},⟨?_,K.pre.trans wr.pre, ?_, ?_,fun x c=> ?_,bF _ _ _,by rw[aq,K.jl];rfl,C, ?_,fun hs=> ?_, ?_, ?_, ?_,fun r hr=> ?_, ?_,fun b H=>wr.sub b (Z b (K.sub b H)),fun b H=> ?_,fun b H=> ?_⟩⟩;·have:=N;dsimp only at this;rw[jk] at this;exact this
 ·have e1:=(vg (fun p:Tr.Tx×Tr.E (k+1)=>Tr.cnt (k+1) p.2) (Tr.its t) j l).1;have S:=K.few;have e3:=wr.few;omega
 ·rw[o];exact K.sm.append ⟨⟨rfl,wr.sm⟩,trivial⟩
 ·rcases ah.1 c with c|c;·exact gw (K.st x c) fun y hy=>wr.pg.same y fun d=>LD y (rD c hy) d
  ·rw[bB.1 c];exact wr.st
 ·rw[bM,K.kvs,dD,bM];congr 1;show [kv {n.its[j] with val:=pv page}]=[kv _];unfold kv;dsimp only;rw[v];show [(_,pv page)]=[(_,pv ((Tr.hd T).page.getD 0))];rw[cO];rfl
 ·rw[o,dD,dD,K.keep fun x c=>hs x (by rw[o];exact ah.2 (cS c))];congr 1;have h4:=wr.keep (hs _ (by rw[o];exact ah.2 (dc au)));show [(⟨((Tr.its t)[j]).1,eG (k+1) T,aK⟩:It)]=[⟨((Tr.its t)[j]).1,eG (k+1) ((Tr.its t)[j]).2,aK⟩];rw[GO h4]
 ·rw[o,Tr.bX,Tr.bX,i,I];have e:=K.cF;have e':=wr.cF;rw[AA] at e e' |-;intro a;have S:=e a;have e3:=e' a;simp only[AB] at S e3 |-;omega
 ·rw[Tr.bX,i];exact K.pg.trans wr.pg
 ·rw[o,Tr.cP,Tr.jf,aq];have e1:=K.fV;have S:=wr.fV;omega
 ·rw[D] at hr;have UJ:r≠p:=fun e=>hr zbc;rw[aX UJ,wr.same r fun d=>hr (aH _ (ah.2 (dc d)))]
  exact K.same r fun d=>hr (by
   rcases aM.1 d with rfl|d;·exact au
   ·exact aH _ (ah.2 (cS d)))
 ·have G:=K.but.trans (aE.aF U (fun _=>False)) (fun _ _ f=>f.elim)
  have O:=G.trans wr.but (fun b hlt H=>by
   rcases H with H|H|H;·exact cS fun hr=>H (Z b (K.sub b hr))
   ·exact dc (cS H)
   ·exact dc (dc (K.mb b H)))
  have g3:=O.trans (aE.aF hW (fun _=>False)) (fun _ _ f=>f.elim);exact g3.trans ((aE.refl (fun b=>b=n.rg) W).setCell _ _ fun _=>rfl) (fun b _ e=>by rw[e];exact dc (dc (K.mb _ ⟨p,_,K.at_,dc rfl⟩)))
 ·rcases wr.new b H with H|H
  ·rcases B b H with H|H;·exact K.new b H
   ·right;have:=K.but.size;omega
  ·right;have:=K.but.size;omega
 ·obtain⟨r,y,hr,hk⟩:=H;rcases aO hr with⟨rfl,rfl⟩|⟨_,hr⟩;·exact K.mb b ⟨_,_,K.at_,hk⟩
  ·exact K.mb b (wr.mb b ⟨r,y,hr,hk⟩)
end
theorem bz.at_ {pg:Ξ} {k:Nat} {R:Nat->Tr.E (k+1)->Δ->Prop} {is:List It} {xs:List (Tr.Tx×Tr.E (k+1))} {fs:List (Δ)} {j:Nat} (h:bz pg k R is xs fs) (H:j<is.length) (a:j<xs.length) (h3:j<fs.length):j9 pg k R is[j] xs[j] fs[j]:=by
 induction is generalizing xs fs j with
 |nil=>cases H
 |cons i is I=>
  cases xs with
  |nil=>cases a
  |cons x xs=>cases fs with
   |nil=>cases h3
   |cons f fs=>
    cases j with
    |zero=>exact h.1
    |succ j=>exact I h.2 zaY (by simpa using a) (by simpa using h3)
theorem vk {fs:List (Δ)} {j:Nat} (h:j<fs.length):(fs.take (j+1)).flatten=(fs.take j).flatten++fs[j]:=by rw[cz h,dI];simp
theorem Kg {k:Nat} (hk:k+1<=15) (ih:ym k):ym (k+1):=by
 intro E X0 X R0 R ps pg rt M p sb sp F t hs hr hF s i d oK y;obtain⟨n,fs,hn,N,T,rfl⟩:=hr;obtain⟨lo,h,s⟩:=s;have Od:=hs.ts.mem.nd p n hn;have hl:=T.len;have xz:=(cA.1 hF).1;have u:=(cA.1 hF).2;have qh:Tr.cnt (k+1+1) t=1+((Tr.its t).map fun p=>Tr.cnt (k+1) p.2).sum:=rfl;have h0:pK E X0 R0 rt sb R ps pg M X sp k p t fs n 0 [] [] R ps pg M sp [] X:=⟨hs,List.prefix_refl _,ν,trivial,fun _ A=>(by cases A),hn,rfl,aA _,rfl,fun _=>rfl,by simp[Tr.ed],jB.refl pg,aA _,fun _ _=>rfl,aE.refl _ _,fun _ h=>h,fun _ h=>cS h,fun _ h=>h⟩;have B:Wrs sb p E.tb E.rb n.its.length n.rg n.ro n.cap (fun j V=>∃J l' R1 ps1 h_ M1 kY al,pK E X0 R0 rt sb R ps pg M X sp k p t fs n j J l' R1 ps1 h_ M1 kY al V) (fun page V=>∃n1 l' R2 P O M2 Q S,n1.level=k+1/\Zn E X0 R0 rt sb R ps pg M X sp (k+1) p t (p::fs.flatten) n1 l' page R2 P O M2 Q S V) (fun c V=>rE E X0 R0 rt sb R ps pg M X sp (k+1) p t (p::fs.flatten) c V):=by
  have hcell:∀{j J l' R1 ps1 h_ M1 kY al X1},pK E X0 R0 rt sb R ps pg M X sp k p t fs n j J l' R1 ps1 h_ M1 kY al X1->Nd X1 p {n with its:=J++n.its.drop j}/\(J++n.its.drop j).length=n.its.length:=fun K=>⟨K.sw.ts.mem.nd p _ K.at_,by
   have:=K.jl;have:=K.le;rw[aq,aS];omega⟩
  refine⟨?_, ?_, ?_, ?_⟩;·rintro j V ⟨J,l',R1,ps1,h_,M1,kY,al,K⟩;obtain⟨G,C⟩:=hcell K;have:=G.c1;rw[show ({n with its:=J++n.its.drop j}:NV).its.length=n.its.length from C] at this;exact this
  ·rintro j V ⟨J,l',R1,ps1,h_,M1,kY,al,K⟩ U;obtain⟨G,C⟩:=hcell K;have g:j<(Tr.its t).length:=κ;have D:j<fs.length:=κ;have w:=T.at_ U g D;have kD:(J++n.its.drop j)[j]' κ=n.its[j]:=(by have e:(J++n.its.drop j)[j]?=av n.its[j]:=(by rw[gO (by rw[K.jl];exact af _),K.jl,dm,List.getElem?_drop,Nat.add_zero,aI U]);rw[aI κ] at e;exact Option.some.inj e);have hit:Ad V n.rg n.ro j n.its[j]:=(by have:=Ad.of (j:=j) G.row (by show j<(J++n.its.drop j).length;omega);rw[<-kD];exact this);obtain⟨q1,q2,q3⟩:=wP K g i d;refine⟨n.its[j],hit,fun H W B=> ?_,fun q y V2 ib hV ady adz=> ?_⟩
   ·rcases w.2.2 with⟨_,hfe,hv,hst⟩|⟨q,y,_⟩;·exact⟨_,_,R1,ps1,h_,M1,kY,al,(Om K U g i d w.1 hv hst (by rw[vk D,hfe,bh])).still B⟩
    ·rw[y] at H;cases H
   ·rcases w.2.2 with⟨H,_⟩|⟨q',nM,Cm⟩;·rw[H] at y;cases y
    ·rw[y] at nM;cases nM;have WR:∀r∈fs[j],r∉p::(fs.take j).flatten:=fun r hr I=>by
      have Y:fs.flatten=(fs.take j).flatten++(fs[j]++(fs.drop (j+1)).flatten):=by
       have e:fs=fs.take j++fs[j]::fs.drop (j+1):=by rw[mR,b_]
       conv=>lhs;rw[e]
       rw[dI,dy]
      rcases aM.1 I with rfl|I;·exact xz (by rw[Y];exact ah.2 (dc (ah.2 (cS hr))))
      ·rw[Y] at u;exact (aP.1 u).2.2 r I r (ah.2 (cS hr)) rfl
     have Z:p∉fs[j]:=fun I=>WR p I au;have hfj:fs[j].Nodup:=(by have e:fs=fs.take j++fs[j]::fs.drop (j+1):=(by rw[mR,b_]);rw[e,dI,dy] at u;exact (aP.1 (aP.1 u).2.1).1);have mE:dQ M1 h_ k q ((Tr.its t)[j]).2 fs[j]:=Cw Cm (fun r hr=>K.same r (WR r hr)) fun x A=>(q1 x A).1;obtain⟨R2,Cl⟩:∃R2:Φ,R2=fun b=>R1 b\/(V.heap.size<=b/\b<V2.heap.size):=⟨_,rfl⟩;have adA:SW E X0 R0 R2 ps1 h_ rt M1 V2 sb (iF kY):=K.sw.still hV (by rw[Cl];exact fun _ h=>cS h) (by rw[Cl];exact fun _ h=>h);have hcs:=vg (fun p:Tr.Tx×Tr.E (k+1)=>Tr.cnt (k+1) p.2) (Tr.its t) j g;have NU:Tr.lS (k+1) ((Tr.its t).take j)+Tr.fV (k+1) ((Tr.its t)[j]).2<=Tr.fV (k+2) t:=(by have e:=vg (fun p:Tr.Tx×Tr.E (k+1)=>Tr.fV (k+1) p.2) (Tr.its t) j g;have L:Tr.fV (k+2) t=_:=Tr.b7 (k+1) t;unfold Tr.lS at L |-;omega);have U_:=K.few;have ad3:=K.pg.len;refine (ih adA mE hfj (yl s _ (bp g)) q2 q3 κ κ).mono ?_;rintro e X3 ⟨c,rfl,⟨rfl,R3,YH,pg3,M3,t3,sp3,al3,wr⟩|⟨rfl,hlk⟩⟩
     ·left;obtain⟨page,cO,rQ,-⟩:=wr.st.1;obtain⟨n3,hn3,adB⟩:=wr.at_;have Vq:M3 p=av {n with its:=J++n.its.drop j}:=(by rw[wr.same p Z];exact K.at_);have Sq:=wr.sw.ts.mem;have Ed:=Sq.nd p _ Vq;have adC:ib≠sb:=(by have:=K.sw.adk;omega);have adD:¬MB M1 ib:=fun I=>by have:=K.sw.ts.mem.nA I;omega
      have adE:¬(¬R2 ib\/ib=sb\/MB M1 ib):=by
       rw[Cl];rintro (hh|hh|hh);·exact hh (dc ⟨ady,adz⟩)
       ·exact adC hh
       ·exact adD hh
      have hfz:∀W,Below X3.heap.size X3 W->W.frozen? ⟨n.rg,n.ro+j*3+1,aK⟩=false:=fun W B=>by obtain⟨cur,hc⟩:=(Sq.still B).ty p _ Vq;have yW:W.heap[n.rg]?=av (dg cur 175 (0,0)):=hc;simp[World.frozen?,yW]
      have adF:=bt Ed.row j (by show j<(J++n.its.drop j).length;omega);refine⟨page,rfl,fun o v hv=> ?_, ?_, ?_,rQ,⟨_,adF.2.1⟩,hfz,fun W B=> ?_⟩;·exact wr.but.cell hv adE
      ·have:=Ed.c1;rw[show ({n with its:=J++n.its.drop j}:NV).its.length=n.its.length from C] at this;exact this
      ·have:=(Sq.nd q _ hn3).c2;rw[adB,cO] at this;exact this
      ·obtain⟨M4,kd4⟩:=Kf (R2:=R2) K hV (by rw[Cl];exact fun _ h=>cS h) (by rw[Cl];exact fun _ h=>h.imp_right fun h=>h.1) U g i d w.1 (vk D) Z (Od.small.each _ (bp U)).1 wr cO B;exact⟨_,_,_,_,_,M4,_,_,kd4⟩
     ·right;exact⟨4,rfl,ξ,dc ⟨rfl,Sl K hlk (by rw[qh];omega) NU⟩⟩
  ·rintro V ⟨J,l',R1,ps1,h_,M1,kY,al,K⟩;have hL:(Tr.its t).take n.its.length=Tr.its t:=bD κ;have hLf:fs.take n.its.length=fs:=bD κ;have hat:=K.at_;rw[List.drop_length,bh] at hat;have B8:=K.sm;have l:=K.keep;have AD:=K.cF;have Vo:=K.fV;have m:=K.same;have U_:=K.few;rw[hL] at B8 l AD Vo U_;rw[hLf] at m;have Ob:kY.length<=65536:=by
    have oX:(Tr.ed (k+1) (Tr.its t)++sp++al).Nodup:=(by rw[Tr.bE,aD] at i d;refine aP.2 ⟨(aP.1 i).2.1,K.pg.nd,fun a ha b hb e=> ?_⟩;subst e;have G:=d a (ah.2 (dc ha));rw[(K.pg.free a hb).1] at G;cases G);have O0:=(aP.1 ((AD.nodup_iff).2 oX)).2.1;refine aN (fU O0 fun x A=> ?_) oK;have h1:=(AD.mem_iff (a:=x)).1 (ah.2 (dc A));rcases ah.1 h1 with h1|h1;·refine cU (d x ?_);rw[Tr.bE,aD];exact ah.2 (dc h1)
    ·exact (K.pg.free x h1).2
   have kd1:Kids E X0 R0 rt sb R ps pg M X sp (k+1) p t (p::fs.flatten) {n with its:=J} l' R1 ps1 h_ M1 kY al V:=⟨K.sw,K.pre,by rw[qh];omega,B8,K.st,hat,K.kvs,AD,K.pg,Vo,m,K.but,K.sub,K.new,K.mb⟩
   obtain⟨f,G,C,g3⟩:=GG kd1 N.level N.page N.fresh (fun hf=>by
    obtain⟨page,e1,L,e3,e4⟩:=N.held hf;exact⟨page,e1,L,e3,l fun x A=>e4 (Nat.succ_pos k) x A⟩) i d y au κ
   refine⟨f,G,C,fun hf=> ?_⟩;obtain⟨ZO,e1,⟨L,e3⟩|⟨page,L,R2,P,O,M2,Q,S,z⟩⟩:=g3 hf
   ·refine⟨ZO,e1,cS ⟨L,e3.mono ?_⟩⟩;rintro e X' (⟨page,rfl,d1,d2,R2,P,O,M2,Q,S,z⟩|hno);·exact cS ⟨page,rfl,d1,d2,{n with its:=J},_,R2,P,O,M2,Q,S,N.level,z⟩
    ·exact dc hno
   ·exact⟨ZO,e1,dc ⟨page,L,{n with its:=J},_,R2,P,O,M2,Q,S,N.level,z⟩⟩
  ·rintro page V ⟨n1,l',R2,P,O,M2,Q,S,hlv,z⟩;obtain⟨G,C,g3,g4,g5⟩:=GF z ⟨lo,h,s⟩ hlv hk oK y;exact⟨G,C,g3,_,g4,g5⟩
 exact Ar B ⟨[],[],R,ps,pg,M,sp,[],h0⟩ Od.small.len Od.small.cap.1
theorem xH:∀k,k<=15->ym k
 |0,_=>J_
 |k+1,hk=>Kg hk (xH k κ)
end
end Go.Proofs.YtgfdijemhanfkaaGreatDoor
