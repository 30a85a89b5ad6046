/- Elder texts, cut down and merged (14). -/
import Derived.Test.YtlpfhjbpknbndaaGreatDoorP13
import Derived.Test.YtlpfhjbpknbndaaGreatDoorP8
import Derived.Test.YtlpfhjbpknbndaaGreatDoorP4
import Derived.Test.YtlpfhjbpknbndaaGreatDoorP9
import Derived.Test.YtlpfhjbpknbndaaGreatDoorP12
import Derived.Test.YtlpfhjbpknbndaaGreatDoorP5
import Derived.Test.YtlpfhjbpknbndaaGreatDoorP7
import Derived.Test.YtlpfhjbpknbndaaGreatDoorP10
import Derived.Test.YtlpfhjbpknbndaaGreatDoorPTk
set_option maxRecDepth 100000
set_option maxHeartbeats 8000000
namespace Go.Proofs.YtlpfhjbpknbndaaGreatDoor
open Option renaming some→aD,none→av
open Value renaming int→bf,pointer→e7,tuple→gu,slice→cx,string→bR,bool→eX
open IntKind renaming i64→cu,u64→dg
open Ending renaming returned→eb
open Or renaming inl→dc,inr→dn
open Obj renaming cells→ey
open List renaming mem_cons_of_mem->aI,mem_cons_self->aE,nodup_cons->cL,mem_append->aj,nodup_append->aR,length_append->au,length_cons->a_,length_nil->ef,mem_cons->aX,append_assoc->aF,length_eq_zero_iff->eG,length_map->aT,map_append->bQ,setIfInBounds_toArray->aA,set_cons_succ->az,set_cons_zero->ay,map_cons->bM,sum_cons->ku,filter_cons->cW,length_set->bP,length_pos_iff->eL
open World renaming size_alloc->aS,block_lt_of_cell?->bD,drew->bJ
open Nat renaming le_refl->ah,zero_le->aB,le_trans->aH,succ_ne_zero->dy
section
open Go.RowKit Lib
section
variable {E:Ev} {X0 X X' V:World} {R0 R R':Nat->Prop} {ps:List (Nat×List UInt8)} {pg:List (Option Wl.Text)} {rt:List Nat} {M M':Nat->Option NV} {k q sb K:Nat} {sv:Value} {l0:List Int} {lo hi:List UInt8} {c0 c:Tr.E (k+1)} {T:Tr.E (K+1)} {path:List Nat} {pre post tgt:List (Tr.Tx×Tr.Tx)} {out F sp:List Nat} {d:Nat}
structure Zip (E:Ev) (X0:World) (R0 R:Nat->Prop) (ps:List (Nat×List UInt8)) (pg:List (Option Wl.Text)) (rt:List Nat) (M:Nat->Option NV) (X:World) (sb:Nat) (sv:Value) (k q:Nat) (lo hi:List UInt8) (c0 c:Tr.E (k+1)) (K:Nat) (T:Tr.E (K+1)) (path:List Nat) (pre post tgt:List (Tr.Tx×Tr.Tx)) (out F sp:List Nat) (d:Nat):Prop where
 ss:SS E X0 R0 R ps pg rt M X sb sv (gP sp)
 above:iM M pg k q lo hi c0 K T path pre post out
 zg:dO M pg k q c F
 lS:∃m,M q=aD m/\m.was=Tr.sz k (Tr.its c0)/\m.lo=lo/\m.hi=hi
 near:Tr.iP k lo (jA hi) c
 page:(Tr.hd c).page=(Tr.hd c0).page
 old:path≠[]->Tr.Old (k+1) c
 nd:(path++F).Nodup
 cB:pre++Tr.cB k (Tr.its c)++post=tgt
 ck:(out++Tr.ck (k+1) c++sp).Perm (Tr.ck (K+1) T)
 fy:Tr.fy (k+1) c<=d+k
 few:(Tr.ck (K+1) T).length<=40000
 yg:K<=15
 quiet:d=0->Tr.fy (k+1) c=0/\Tr.sz k (Tr.its c)<=510
theorem qw {pg:List (Option Wl.Text)}:∀{k:Nat} {n:Tr.E (k+1)},cS pg (k+1) n->Tr.fy (k+1) n=0
 |0,n,h=>by
  obtain⟨⟨page,hp,_⟩,_,_⟩:=h;rw[Tr.bX,hp];have:∀l:List (Tr.Tx×Tr.E 0),Tr.kK 0 l=0:=by
   intro l;induction l with
   |nil=>rfl
   |cons x l i=>rw[Tr.eP,i];rfl
  rw[this];rfl
 |k+1,n,h=>by
  obtain⟨⟨page,hp,_⟩,_,H⟩:=h;rw[Tr.bX,hp];have:∀l:List (Tr.Tx×Tr.E (k+1)),(∀p∈l,cS pg (k+1) p.2)->Tr.kK (k+1) l=0:=by
   intro l;induction l with
   |nil=>intro _;rfl
   |cons x l i=>intro hl;rw[Tr.eP,i (fun p hp=>hl p (aI _ hp)),qw (hl x aE)]
  rw[this _ H];rfl
theorem ny {l:List (Tr.Tx×Tr.E (k+1))} (h:∀p∈l,cS pg (k+1) p.2):Tr.kK (k+1) l=0:=by
 induction l with
 |nil=>rfl
 |cons x l i=>rw[Tr.eP,i (fun p hp=>h p (aI _ hp)),qw (h x aE)]
theorem Me {p:Nat} (z:Zip E X0 R0 R ps pg rt M X sb sv k q lo hi c0 c K T (p::path) pre post tgt out F sp d):
  Calls Tryz.prog 87 #[ptr sb,ptr p,ptr q] X fun e X'=>e=eb (bf cu 0)/\∃R' M' eT L v w c' l b out' D sp',Zip E X0 R0 R' ps pg rt M' X' sb eT (k+1) p L v w c' K T path l b tgt out' D sp' d/\mQ R M X sb sv R' M' eT X'/\(Tr.hd c').page.isSome=true:=by
 obtain⟨ss,above,zg,⟨m,lS,was,-,-⟩,near,page,old,nd,U,W,Pv,few,yg,quiet⟩:=z;have V:=above.level;generalize Q:p::path=pp at above;cases above with
 |top=>cases Q
 |@up _ p' _ n h A B kc _ _ _ ps' pre post out hat fQ ko hown nJ hidx Md hfit hfresh hu=>
  obtain⟨rfl,rfl⟩:=List.cons.inj Q;have f:=cL.1 nd;have Z:(p::F).Nodup:=cL.2 ⟨fun j=>f.1 (aj.2 (dn j)),(aR.1 f.2).2.1⟩;have Y:=old (by simp);have s:Slot pg M k p q n m h A B kc c0 c F:=⟨hat,fQ,ko,hown,nJ,hidx,zg,lS,near,page,Y,was,hfit,hfresh,Z⟩;have hsp:sp.length<=40000:=by have:=W.length_eq;rw[au] at this;omega
  rw[a_] at V;refine (uz (l0:=[]) s ss (by omega) (by rw[ef];omega)).mono ?_;rintro e X' ⟨rfl,R',M',eT,n',t',D,sp',G,I,Z3,⟨h1,h2,h3,h4⟩,L4,C,P,oI,o,g⟩;refine⟨rfl,R',M',eT,n.lo,n.hi,Tr.mk h (A++(kc,c0)::B),t',_,_,_,D,sp',⟨G,hu.frame fun r hr=> ?_,L4,⟨n',Z3,by rw[h3];exact Md,h1,h2⟩,⟨?_,P.row⟩,C,fun hne=>⟨?_,fun x H=> ?_⟩, ?_, ?_, ?_, ?_,few,yg,fun hd=> ?_⟩,I, ?_⟩
  ·obtain⟨y,hy⟩:=hu.dom r hr;rw[hy];refine g r y (fun j=> ?_) hy;rcases aX.1 j with rfl|j;·grind
   ·grind
  ·have J:=P.size;have hb:=AR k kc c;rw[AM (c0:=c0)] at J;omega
  ·obtain⟨dh,e,_⟩:=nJ.held hfresh;rw[C];have e:h.page=aD dh:=e;rw[e];rfl
  ·refine P.old (fun y hy=> ?_) x H;rcases aj.1 hy with hy|hy;·grind [kj]
   ·grind [kj]
  ·refine aR.2 ⟨(aR.1 f.2).1,oI,fun r hr r' N e=> ?_⟩;subst e;rcases o r N with j|j;·grind
   ·obtain⟨y,hy⟩:=hu.dom r hr;have:=(ss.ts.mem.lt hy).1;omega
  ·rw[P.cB,<-U,Tr.bT,show (kc,c)::B=[(kc,c)]++B from rfl,Tr.bT,Tr.dY];simp only[aF]
  ·refine List.Perm.trans ?_ W;have t:Tr.ck (k+1+1) t'=h.page.toList++Tr.dW (k+1) (Tr.its t'):=(by rw[Tr.bC,C]);rw[t];have O:=P.ck;rw[Tr.bU,Tr.f_] at O;rw[List.perm_iff_count] at O |-;intro a;have e3:=O a;simp only[List.count_append] at e3 |-;have S:List.count a (Tr.ck (k+1) (kc,c).2)=List.count a (Tr.ck (k+1) c):=rfl;omega
  ·have t:=P.fy;rw[Tr.cH,Tr.eP,ny (fun x H=>ko x (dc H)),ny (fun x H=>ko x (dn H))] at t;have hb:=AR k kc c;have i:(Tr.hd t').page.isSome=true:=(by obtain⟨dh,e,_⟩:=nJ.held hfresh;rw[C];have e:h.page=aD dh:=e;rw[e];rfl);rw[Tr.bX,if_pos i];have S:Tr.fy (k+1) (kc,c).2=Tr.fy (k+1) c:=rfl;omega
  ·obtain⟨q1,q2⟩:=quiet hd;have u:Tr.big k [(kc,c)]=0:=(by unfold Tr.big;rw[if_pos q2];rfl);have J:=P.size;rw[AM (c0:=c0),u] at J;have t:=P.fy;rw[Tr.cH,Tr.eP,ny (fun x H=>ko x (dc H)),ny (fun x H=>ko x (dn H)),u] at t;have i:(Tr.hd t').page.isSome=true:=(by obtain⟨dh,e,_⟩:=nJ.held hfresh;rw[C];have e:h.page=aD dh:=e;rw[e];rfl);rw[Tr.bX,if_pos i];have S:Tr.fy (k+1) (kc,c).2=Tr.fy (k+1) c:=rfl;exact⟨by omega,by omega⟩
  ·obtain⟨dh,e,_⟩:=nJ.held hfresh;rw[C];have e:h.page=aD dh:=e;rw[e];rfl
end
section
variable {w:World} {p sb tb:Nat} {n:NV} {sv:Value} {l:List Int}
def SK (w:World) (sb tb:Nat) (sv:Value) (l:List Int) (e:Ending) (w':World):Prop:=e=eb (gu #[e7 av,bf cu 0])/\j_ w sb tb sv l (eb (gu #[])) w'
theorem Jl (hs:aU w sb 169 [ptr tb,sv]) (a:oq 0 w sv l) (h:Nd w p n) (hl:l.length<=1000000) (hn:n.its=[]):
  Calls Tryz.prog 88 #[ptr sb,ptr p] w fun e w'=>SK w sb tb sv (l++[n.page]) e w':=by
 have c1:=h.c1;rw[hn] at c1;have c:w.cell? ⟨p,1,av⟩=aD (cx (aD ⟨n.rg,n.ro,av⟩) 0 n.cap):=c1;have H:=aa (jh w sb tb p sv l n hs a h hl);clear h hs a c1;go_enter Tryz.func88,Tryz.ntmps88;unfold ptr at H |-;go_wp2_with fail;refine H.o.mono ?_;intro e W b;have d:=aa b;obtain⟨rfl,-⟩:=b;clear H;go_wp2_with fail
 go_ret2
 exact⟨rfl,d.o⟩
theorem Jm (h:Nd w p n) (hn:n.its≠[]) (b:n.level=0\/n.its.length≠1) (f:cz n.its<=510):
  Calls Tryz.prog 88 #[ptr sb,ptr p] w fun e w'=>e=eb (gu #[ptr p,bf cu 0])/\Below w.heap.size w w':=by
 have c0:=h.c0;have c1:=h.c1;have j:(n.its.length:Int)<=400:=by have:=h.small.len;omega
 have H:=aa (je h);rw[decide_eq_true f] at H;obtain⟨L,d⟩:∃L,L=n.its.length:=⟨_,rfl⟩;rw[<-d] at c1 j b;have l:((L:Int)==0)=false:=by rw[beq_eq_false_iff_ne];intro e;exact hn (eG.1 (by omega))
 clear h hn d;by_cases g:n.level=0
 ·have O:decide ((n.level:Int)>0)=false:=decide_eq_false (by omega);have P:¬(n.level:Int)>0:=by omega
  clear b;go_enter Tryz.func88,Tryz.ntmps88;unfold ptr at H |-;go_wp2_with fail;refine H.o.mono ?_;rintro e W ⟨rfl,a⟩;have c:=aa a;clear a H;go_wp2_with fail
  go_ret2
  exact⟨rfl,c.o⟩
 ·have O:decide ((n.level:Int)>0)=true:=decide_eq_true (by omega);have P:(n.level:Int)>0:=by omega
  have I:((L:Int)==1)=false:=by rw[beq_eq_false_iff_ne];rcases b with e|e<;>omega
  clear b;go_enter Tryz.func88,Tryz.ntmps88;unfold ptr at H |-;go_wp2_with fail;refine H.o.mono ?_;rintro e W ⟨rfl,a⟩;have c:=aa a;clear a H;go_wp2_with fail
  go_ret2
  exact⟨rfl,c.o⟩
theorem Jn {Q:Value->Int->World->Prop} (hs:aU w sb 169 [ptr tb,sv]) (c:oq 0 w sv l) (h:Nd w p n) (hl:l.length<=1000000) (g:n.level≠0) (hn:n.its.length=1)
  (d:∀w1,j_ w sb tb sv (l++[n.page]) (eb (gu #[])) w1->Calls Tryz.prog 79 #[ptr tb,ptr p,bf cu (0:Nat)] w1 fun e w'=>∃(v:Value) (x:Int),e=eb (gu #[v,bf cu x])/\Q v x w'):
  Calls Tryz.prog 88 #[ptr sb,ptr p] w fun e w'=>∃(v:Value) (x:Int),e=eb (gu #[v,bf cu x])/\Q v x w':=by
 have c0:=h.c0;have c1:=h.c1;rw[hn] at c1;have O:decide ((n.level:Int)>0)=true:=decide_eq_true (by omega);have P:(n.level:Int)>0:=by omega
 have H:=aa (jh w sb tb p sv l n hs c h hl);have a:=aa d;clear h hs c hl d hn g;go_enter Tryz.func88,Tryz.ntmps88;unfold ptr at H a |-;go_wp2_with fail;refine H.o.mono ?_;intro e W b;obtain⟨rfl,eT,k,h3⟩:=id b;have i:=aa (a.o W b);have s0:=k.cell (j:=0) rfl;unfold ptr at s0;clear H a b k h3;go_wp2_with fail;refine i.o.mono ?_;rintro e w3 ⟨v,x,rfl,f⟩;have m:=aa f;clear f;go_wp2_with fail
 go_ret2
 exact⟨v,x,rfl,m.o⟩
end
section
variable {X:World} {M:Nat->Option NV} {p sb:Nat} {n:NV}
def rootOf (n:NV) (p q rg H:Nat):NV:=⟨n.level+1,[⟨[],pv 0,aD p⟩,⟨between n H,pv 0,aD q⟩],rg,0,2,-1,[],[],0,0,true,true⟩
def Mf (X:World) (M:Nat->Option NV) (p:Nat) (n:NV) (H:Nat) (e:Ending) (X':World):Prop:=
 ∃r q rg,e=eb (gu #[ptr r,bf cu 0])/\Mem X' (upd (upd (upd M p (gE n H)) q (jG n H)) r (rootOf n p q rg H))/\X.heap.size<=q/\X.heap.size<=r/\X.heap.size<=rg/\aG (fun k=>k=p\/k=n.rg) X X'/\q<r
theorem CQ {q H:Nat} {w:World} (h:Mem w (upd (upd M p (gE n H)) q (jG n H))) (a:aG (fun k=>k=p\/k=n.rg) X w) (d:X.heap.size<=q) (Q:(between n H).length<=200):
  Mf X M p n H (eb (gu #[ptr (w.heap.size+1),bf cu 0])) ((w.alloc (ey #[bR ⟨#[]⟩,bR (bs (pv 0)),ptr p,bR (bs (between n H)),bR (bs (pv 0)),ptr q] 122)).alloc (ey #[bf cu ((n.level:Int)+1),cx (aD ⟨w.heap.size,0,av⟩) 2 2,bf cu (-1),bR ⟨#[]⟩,bR ⟨#[]⟩,bf cu 0,bf cu 0,eX true] 127)):=by
 have g:=sO w [⟨[],pv 0,aD p⟩,⟨between n H,pv 0,aD q⟩] [bR ⟨#[]⟩,bR (bs (pv 0)),ptr p,bR (bs (between n H)),bR (bs (pv 0)),ptr q] rfl (show 2<=400 by decide) (L:=2) rfl;obtain⟨W,N⟩:∃W,W=w.alloc (ey #[bR ⟨#[]⟩,bR (bs (pv 0)),ptr p,bR (bs (between n H)),bR (bs (pv 0)),ptr q] 122):=⟨_,rfl⟩;have x:W.heap.size=w.heap.size+1:=by rw[N,aS]
 have l:aY w.heap.size W (cx (aD ⟨w.heap.size,0,av⟩) 2 2) [⟨[],pv 0,aD p⟩,⟨between n H,pv 0,aD q⟩]:=by rw[N];exact g
 have J:Below w.heap.size w W:=by rw[N];exact (Below.refl _ w).alloc (ah _) _
 rw[<-N,<-x];have j:=l.alloc (ey #[bf cu ((n.level:Int)+1),cx (aD ⟨w.heap.size,0,av⟩) 2 2,bf cu (-1),bR ⟨#[]⟩,bR ⟨#[]⟩,bf cu 0,bf cu 0,eX true] 127);have f:=J.alloc (show w.heap.size<=W.heap.size by omega) (ey #[bf cu ((n.level:Int)+1),cx (aD ⟨w.heap.size,0,av⟩) 2 2,bf cu (-1),bR ⟨#[]⟩,bR ⟨#[]⟩,bf cu 0,bf cu 0,eX true] 127);have b:=aU.new W #[bf cu ((n.level:Int)+1),cx (aD ⟨w.heap.size,0,av⟩) 2 2,bf cu (-1),bR ⟨#[]⟩,bR ⟨#[]⟩,bf cu 0,bf cu 0,eX true] 127;have c:(pv 0).length<=200:=by decide
 refine⟨_,q,w.heap.size,rfl,h.add f (by omega) (ah _) ⟨?_,Own.lies j,⟨show 2<=400 by decide, ?_,show 2<=2/\2<=maxLen from⟨ah _,by unfold maxLen;omega⟩⟩⟩ ⟨rfl,Own.mono j (aB _)⟩,d, ?_,a.size,a.trans (aG.aJ f (fun _=>False)) (fun _ _ h=>h.elim),by have:=(h.lt (p:=q) (n:=jG n H) (bG _ _ _)).1;omega⟩;·exact b
 ·intro i hi;have:i=⟨[],pv 0,aD p⟩\/i=⟨between n H,pv 0,aD q⟩:=by
   rcases aX.1 hi with e|hi;·exact dc e
   ·grind
  rcases this with rfl|rfl;·grind
  ·exact⟨Q,c⟩
 ·have:=a.size;omega
theorem Fb (h:Mem X M) (hp:M p=aD n) (H:Nat) (C:H=eZ (cz n.its) 0 n.its) (J:0<H) (K:n.level=0->Tr.lt ((n.its.map It.key).getD (H-1) []) ((n.its.map It.key).getD H [])=true) (y:¬cz n.its<=510) (S:n.level<15) (N:(between n H).length<=200):
  Calls Tryz.prog 88 #[ptr sb,ptr p] X fun e X'=>Mf X M p n H e X':=by
 have r:n.its≠[]:=by rintro e;rw[e] at y;exact y (by decide)
 have s:H<n.its.length:=by rw[C];exact pe _ _ _ r
 have d:=h.nd p n hp;have c0:=d.c0;have c1:=d.c1;have T:(n.its.length:Int)<=400:=by have:=d.small.len;omega
 have j:=aa (je d);rw[decide_eq_false y] at j;obtain⟨L,R⟩:∃L,L=n.its.length:=⟨_,rfl⟩;rw[<-R] at c1 T s;have LJ:((L:Int)==0)=false:=by rw[beq_eq_false_iff_ne];omega
 have I4:((L:Int)==1)=false:=by rw[beq_eq_false_iff_ne];omega
 have U:((n.level:Int)==15)=false:=by rw[beq_eq_false_iff_ne];omega
 have BW:(n.level:Int)<=15:=by omega
 have a:=aa (And.intro h (And.intro hp (And.intro C (And.intro J (And.intro K N)))));obtain⟨b,z⟩:∃b,b=decide ((n.level:Int)>0):=⟨_,rfl⟩;clear h hp C J K y r s R N;have Z:b=true\/b=false:=by cases b<;>simp
 rcases Z with rfl|rfl
 ·have O:decide ((n.level:Int)>0)=true:=z.symm;have V:(n.level:Int)>0:=of_decide_eq_true O;clear z;go_enter Tryz.func88,Tryz.ntmps88;unfold ptr at j |-;go_wp2_with fail;refine j.o.mono ?_;rintro e E ⟨rfl,A⟩;have l:=aa (qg (a.o.1.still A) a.o.2.1 H a.o.2.2.1 a.o.2.2.2.1 a.o.2.2.2.2.1);have D:=(d.still A).c0;have t:=aa (show Below X.heap.size X E from A);clear A j c0 c1;unfold ptr at l;go_wp2_with fail;refine l.o.mono ?_;rintro e w3 ⟨q,rfl,G,Q,B⟩;have g:=aa (show Mem w3 (upd (upd M p (gE n H)) q (jG n H))/\X.heap.size<=q/\aG (fun k=>k=p\/k=n.rg) X w3 from⟨G,aH t.o.size Q,(aG.aJ t.o _).trans B fun _ _ h=>h⟩);have P:=aa (ke w3 ⟨#[]⟩ p);have m:=aa (fun W=>ke W (bs (between n H)) q);clear l G Q B D;unfold ptr at P m |-;go_wp2_with fail;refine P.o.mono ?_;rintro e I ⟨rfl,f⟩;have u:=aa f;clear f P;go_wp2_with fail;refine (m.o I).mono ?_;rintro e w ⟨rfl,v⟩;have F:Below w3.heap.size w3 w:=u.o.trans (v.mono u.o.size);have i:=aa (show Mem w (upd (upd M p (gE n H)) q (jG n H))/\aG (fun k=>k=p\/k=n.rg) X w from⟨g.o.1.still F,g.o.2.2.trans (aG.aJ F (fun _=>False)) fun _ _ h=>h.elim⟩);have c:p≠q:=by have:=(a.o.1.lt a.o.2.1).1;have:=g.o.2.1;omega
  have D:w.cell? ⟨p,0,av⟩=aD (bf cu n.level):=(i.o.1.nd p (gE n H) ((aW c).trans (bG _ _ _))).c0;have Y:p<w.heap.size:=(i.o.1.nd p (gE n H) ((aW c).trans (bG _ _ _))).blk.lt;have x:=aa (CQ i.o.1 i.o.2 g.o.2.1 a.o.2.2.2.2.2);unfold ptr at x;clear v F m c;go_wp2_with fail
  go_ret2
  exact x.o
 ·have O:decide ((n.level:Int)>0)=false:=z.symm;have V:¬(n.level:Int)>0:=of_decide_eq_false O;clear z;go_enter Tryz.func88,Tryz.ntmps88;unfold ptr at j |-;go_wp2_with fail;refine j.o.mono ?_;rintro e E ⟨rfl,A⟩;have l:=aa (qg (a.o.1.still A) a.o.2.1 H a.o.2.2.1 a.o.2.2.2.1 a.o.2.2.2.2.1);have D:=(d.still A).c0;have t:=aa (show Below X.heap.size X E from A);clear A j c0 c1;unfold ptr at l;go_wp2_with fail;refine l.o.mono ?_;rintro e w3 ⟨q,rfl,G,Q,B⟩;have g:=aa (show Mem w3 (upd (upd M p (gE n H)) q (jG n H))/\X.heap.size<=q/\aG (fun k=>k=p\/k=n.rg) X w3 from⟨G,aH t.o.size Q,(aG.aJ t.o _).trans B fun _ _ h=>h⟩);have P:=aa (ke w3 ⟨#[]⟩ p);have m:=aa (fun W=>ke W (bs (between n H)) q);clear l G Q B D;unfold ptr at P m |-;go_wp2_with fail;refine P.o.mono ?_;rintro e I ⟨rfl,f⟩;have u:=aa f;clear f P;go_wp2_with fail;refine (m.o I).mono ?_;rintro e w ⟨rfl,v⟩;have F:Below w3.heap.size w3 w:=u.o.trans (v.mono u.o.size);have i:=aa (show Mem w (upd (upd M p (gE n H)) q (jG n H))/\aG (fun k=>k=p\/k=n.rg) X w from⟨g.o.1.still F,g.o.2.2.trans (aG.aJ F (fun _=>False)) fun _ _ h=>h.elim⟩);have c:p≠q:=by have:=(a.o.1.lt a.o.2.1).1;have:=g.o.2.1;omega
  have D:w.cell? ⟨p,0,av⟩=aD (bf cu n.level):=(i.o.1.nd p (gE n H) ((aW c).trans (bG _ _ _))).c0;have Y:p<w.heap.size:=(i.o.1.nd p (gE n H) ((aW c).trans (bG _ _ _))).blk.lt;have x:=aa (CQ i.o.1 i.o.2 g.o.2.1 a.o.2.2.2.2.2);unfold ptr at x;clear v F m c;go_wp2_with fail
  go_ret2
  exact x.o
end
section
variable {E:Ev} {X0 X X' V:World} {R0 R R':Nat->Prop} {ps:List (Nat×List UInt8)} {pg:List (Option Wl.Text)} {rt:List Nat} {M M':Nat->Option NV} {k q sb:Nat} {sv:Value} {c:Tr.E (k+1)} {F sp:List Nat} {m:NV}
def GQ (E:Ev) (X0:World) (R0:Nat->Prop) (ps:List (Nat×List UInt8)) (pg:List (Option Wl.Text)) (rt:List Nat) (sb k:Nat) (c:Tr.E (k+1)) (sp:List Nat) (v:Value) (X':World):Prop:=
 ∃R' M' eT sp',SS E X0 R0 R' ps pg rt M' X' sb eT (gP sp')/\((v=e7 av/\Tr.its c=[]/\sp'=sp++(Tr.hd c).page.toList)\/
  ∃(r k':Nat) (c':Tr.E (k'+1)) (F:List Nat),v=ptr r/\dO M' pg k' r c' F/\F.Nodup/\Tr.Ok (k'+1) [] av c'/\k'<=15/\Tr.cB k' (Tr.its c')=Tr.cB k (Tr.its c)/\(Tr.ck (k'+1) c'++sp').Perm (Tr.ck (k+1) c++sp)/\Tr.fy (k'+1) c'<=Tr.fy (k+1) c+2/\(Tr.sz k (Tr.its c)<=510->Tr.fy (k'+1) c'<=Tr.fy (k+1) c))
theorem Py {low up:Tr.E (k+1)} {key:Tr.Tx} (h:Tr.Ok (k+1) [] (aD key) low) (H:Tr.Ok (k+1) key av up) (hl:key.length<=96) (hc:Tr.cut (k+1) low key up):Tr.Ok (k+2) [] av (Tr.mk ⟨av,true⟩ [([],low),(key,up)]):=by
 refine⟨by simp, ?_, ?_, ?_⟩;·show 2+0+2+(2+key.length+2+0)<=510;omega
 ·intro p hp;cases hp;rfl
 ·show Tr.dB (Tr.Ok (k+1)) (Tr.cut (k+1)) av [([],low),(key,up)];exact⟨h,⟨h.lt,hl,hc⟩,H⟩
theorem CR (h:SS E X0 R0 R ps pg rt M X sb sv (gP sp)) (hr:dO M pg k q c F) (j:M q=aD m) (hF:F.Nodup) (hn:Tr.iP k [] av c) (N:m.lo=[]/\m.hi=[]) (hp:(Tr.hd c).page.isSome=true\/(k=0/\Tr.its c≠[])) (V:k<=15) (w:510<Tr.sz k (Tr.its c)->k<15) (hl:sp.length<=100000):
  Calls Tryz.prog 88 #[ptr sb,ptr q] X fun e X'=>∃v,e=eb (gu #[v,bf cu 0])/\GQ E X0 R0 ps pg rt sb k c sp v X':=by
 have A:=h.ts.mem.nd q m j;have B:=hr.sz j;obtain⟨m',t,z,hqF⟩:=hr.head;rw[j] at t;cases t;have Jo:(gP sp).length<=1000000:=by unfold gP;rw[aT];omega
 by_cases C:Tr.its c=[];·have W:m.its=[]:=eG.1 (by rw[B.2.2,C];rfl);refine (Jl h.blk h.sp A Jo W).mono ?_;rintro e X' ⟨rfl,D⟩;have G:=hp.resolve_right (fun I=>I.2 C);obtain⟨eT,R',s',h1,h2,h3,h4⟩:=h.left D;rw[z.page,jm G] at s';exact⟨_,rfl,R',M,eT,sp++(Tr.hd c).page.toList,by unfold gP at s' |-;rw[bQ];exact s',dc ⟨rfl,C,rfl⟩⟩
 ·have Z5:m.its≠[]:=fun e=>C (eG.1 (by rw[<-B.2.2,e];rfl));by_cases h1:0<k/\m.its.length=1
  ·obtain⟨pM,Y⟩:=h1
   match k,c,hr,hn,hp,w,B,z,C,V,pM with
   |k+1,c,hr,hn,hp,w,B,z,C,V,_=>
    obtain⟨m',fs,t,ho',J,rfl⟩:=hr;rw[j] at t;cases t;obtain⟨i,hi⟩:∃i,m.its=[i]:=List.length_eq_one_iff.1 Y;obtain⟨x,g⟩:∃x,Tr.its c=[x]:=List.length_eq_one_iff.1 (by rw[<-B.2.2];exact Y);have abt:=J;rw[hi,g] at J;obtain⟨i',TM,f,fs',e1,rfl,ki,rL⟩:=J.cons_inv;obtain⟨rfl,rfl⟩:=List.cons.inj e1;obtain⟨-,rfl⟩:=rL.uN;rw[show [f].flatten=f by simp] at hF;have G:(Tr.hd c).page.isSome=true:=hp.resolve_right (fun I=>absurd I.1 (dy k));have jC:Tr.Ok (k+1) [] av x.2:=(by obtain⟨_,_,Jp⟩:=hn;rw[Tr.dN,g] at Jp;exact Jp);have yl:eW m 0=[]/\jA (eu m 0)=none:=(by refine⟨by unfold eW;rw[if_pos rfl];exact N.1, ?_⟩;unfold eu;rw[if_neg (by rw[hi];simp),N.2];rfl);refine (Jn (sb:=sb) (tb:=E.tb) (Q:=fun v x' X'=>x'=0/\GQ E X0 R0 ps pg rt sb (k+1) c sp v X') h.blk h.sp A Jo (by rw[z.level];omega) Y (fun w1 D=> ?_)).mono ?_
    ·obtain⟨eT,R',s',g1,g2,g3,g4⟩:=h.left D;have Z:jB pg k (dO M pg k) i (x.1,x.2) f:=ki;refine (zj (I1:=[]) (I2:=[]) (key:=x.1) s'.ts (Below.refl _ _) j z.level hi Z (fun _=>by rw[show ([]:List It).length=0 from rfl,yl.1,yl.2];exact jC) (cL.1 hF).1 (cL.1 hF).2 (by omega) rfl).mono ?_;rintro e X' ⟨q',M',R2,fq,rfl,b⟩;have xP:∀b,b=m.rg->MB M b:=fun b e=>⟨q,m,j,dn e⟩;have o:=s'.nodes b.ts b.but xP b.sub b.mb;rw[z.page] at o
     ·rw[jm G] at o;refine⟨_,0,rfl,rfl,R2,M',eT,sp++(Tr.hd c).page.toList,by unfold gP at o |-;rw[bQ];exact o,dn ⟨q',k,x.2,fq,rfl,b.zg,b.nd,jC,by omega, ?_, ?_, ?_⟩⟩;·rw[g,Tr.dY]
      ·rw[Tr.bC (k+1) c,g,Tr.gU,List.perm_iff_count];intro a;simp only[List.count_append];omega
      ·rw[Tr.bX (k+1) c,g,Tr.iG];exact⟨by omega,fun _=>by omega⟩
    ·rintro e X' ⟨v,x',rfl,rfl,ht⟩;exact⟨v,rfl,ht⟩
  ·by_cases hs:Tr.sz k (Tr.its c)<=510;·refine (Jm (sb:=sb) A Z5 (by rw[z.level];omega) (by rw[B.1];exact hs)).mono ?_;rintro e X' ⟨rfl,d⟩;exact⟨_,rfl,R,M,sv,sp,h.still d,dn ⟨q,k,c,F,rfl,hr,hF,hn.ok C hs,V,rfl,List.Perm.refl _,Nat.le_add_right _ _,fun _=>ah _⟩⟩
   ·obtain⟨H,S⟩:∃H,H=eZ (cz m.its) 0 m.its:=⟨_,rfl⟩;have L:510<Tr.sz k (Tr.its c):=(by omega);obtain⟨g0,gk0⟩:=Cx hr j L S;have P:=Tr.oZ k hn L;have Z6:between m H=(Tr.part k c).key:=(wy (q:=X.heap.size) hr j hF (fun hh=>by obtain⟨y,hy⟩:=hr.dom _ hh;have:=(h.ts.mem.lt hy).1;omega) L S rfl).1;refine (Fb (sb:=sb) h.ts.mem j H S g0 gk0 (by rw[B.1];exact hs) (by rw[z.level];exact w L) (by rw[Z6];have:=P.len;omega)).mono ?_;rintro e X' ⟨r,q',rg,rfl,l,mO,hr',abu,kg,Xu⟩;obtain⟨M1,K⟩:∃M1,M1=upd (upd M q (gE m H)) q' (jG m H):=⟨_,rfl⟩;rw[<-K] at l;have Wf:q'∉F:=fun hh=>by obtain⟨y,hy⟩:=hr.dom q' hh;have:=(h.ts.mem.lt hy).1;omega
    obtain⟨xQ,T,U,r1,r2,jJ,Z7⟩:=wy hr j hF Wf L S K;have GN:=(h.ts.mem.lt j).1;have Xv:∀x∈T++U,x≠r:=fun x g e=>by
     rcases Z7 x g with h3|h3;·obtain⟨y,hy⟩:=hr.dom x h3;have:=(h.ts.mem.lt hy).1;omega
     ·omega
    obtain⟨M2,s⟩:∃M2,M2=upd M1 r (rootOf m q q' rg H):=⟨_,rfl⟩;rw[<-s] at l;have f1:dO M2 pg k q (Tr.part k c).low T:=r1.frame fun x g=>by rw[s,aW (Xv x (aj.2 (dc g)))]
    have f2:dO M2 pg k q' (Tr.part k c).up U:=r2.frame fun x g=>by rw[s,aW (Xv x (aj.2 (dn g)))]
    have O:∀b,MB M2 b->MB M b\/b=q'\/b=r\/b=rg:=by
     rintro b ⟨x,y,g,d⟩;rw[s] at g;rcases aN g with⟨rfl,rfl⟩|⟨_,g⟩
     ·rcases d with rfl|rfl;·omega
      ·omega
     ·rw[K] at g;rcases aN g with⟨rfl,rfl⟩|⟨_,g⟩
      ·rcases d with rfl|rfl;·exact dn (dc rfl)
       ·exact dc ⟨q,m,j,dn rfl⟩
      ·rcases aN g with⟨rfl,rfl⟩|⟨_,g⟩;·exact dc ⟨_,m,j,d⟩
       ·exact dc ⟨x,y,g,d⟩
    have TU:∀b,(b=q\/b=m.rg)->MB M b:=fun b d=>⟨q,m,j,d⟩;have hrl:=(l.lt (p:=r) (n:=rootOf m q q' rg H) (by rw[s,bG]));have abv:rg<X'.heap.size:=hrl.2;have u:∀b,(b=q'\/b=r\/b=rg)->X.heap.size<=b/\b<X'.heap.size:=by omega
    have hts:TS E X0 R0 (fun b=>R b\/b=q'\/b=r\/b=rg) ps pg rt M2 X':=h.ts.own kg (fun b _ d=>h.ts.kM b (TU b d)) l (fun b d=>by
     rcases O b d with d|d;·exact⟨dc (h.ts.kM b d).1,(h.ts.kM b d).2⟩
     ·exact⟨dn d,aH h.ts.but.size (u b d).1⟩) (fun _ h=>dc h) (fun b d=>d.imp_right fun d=>u b d)
    have o:=h.nodes hts kg TU (fun _ h=>dc h) (fun b d=>(O b d).imp_right fun d=>(u b d).1);have Wv:=Py P.low P.up P.len P.cut;refine⟨_,rfl,_,M2,sv,sp,o,dn ⟨r,k+1,Tr.mk ⟨av,true⟩ [([],(Tr.part k c).low),((Tr.part k c).key,(Tr.part k c).up)],r::[T,U].flatten,rfl,⟨rootOf m q q' rg H,[T,U],by rw[s,bG],⟨?_,rfl,rfl, ?_,fun e=>(by cases e)⟩, ?_,rfl⟩, ?_,Wv,by have:=w L;omega, ?_, ?_, ?_⟩⟩;·show m.level+1=k+1;rw[z.level]
    ·exact Wv.near
    ·exact⟨⟨rfl,rfl,dn ⟨q,rfl,f1⟩⟩,⟨xQ,rfl,dn ⟨q',rfl,f2⟩⟩,trivial⟩
    ·grind
    ·rw[Tr.its_mk,show [([],(Tr.part k c).low),((Tr.part k c).key,(Tr.part k c).up)]=[([],(Tr.part k c).low)]++[((Tr.part k c).key,(Tr.part k c).up)] from rfl,Tr.bT,Tr.dY,Tr.dY];exact P.cB
    ·rw[Tr.bC (k+1),Tr.hd_mk,Tr.its_mk,Tr.f_,Tr.gU,<-P.ck];exact List.Perm.refl _
    ·rw[Tr.bX (k+1),Tr.hd_mk,Tr.its_mk,Tr.eP,Tr.iG];have:=P.fy;refine⟨?_,fun hq=>absurd hq (by omega)⟩;show 1+_<=_;dsimp only;omega
end
structure Z8 (sb tb rb:Nat) (place:Int) (Fr:Nat->Option Addr->Nat->Nat->World->Prop) (G:Int->World->Prop):Prop where
 free:∀num a L i X,Fr num a L i X->i<L->X.cell? ⟨sb,0,av⟩=aD (e7 (aD ⟨tb,0,av⟩))/\X.cell? ⟨tb,0,av⟩=aD (e7 (aD ⟨rb,0,av⟩))/\∃g o x,a=aD ⟨g,o,av⟩/\X.cell? ⟨g,o+i,av⟩=aD (bf cu x)/\Calls Tryz.prog 140 #[ptr rb,bf cu x] X fun e X'=>e=eb (bf cu 0)/\Fr num a L (i+1) X'
 root:∀num a L X,Fr num a L L X->X.cell? ⟨sb,0,av⟩=aD (e7 (aD ⟨tb,0,av⟩))/\X.cell? ⟨tb,0,av⟩=aD (e7 (aD ⟨rb,0,av⟩))/\X.cell? ⟨tb,1,av⟩=aD (bf cu place)/\Calls Tryz.prog 47 #[ptr rb,bf cu place] X.drew fun e X'=>∃before:Nat,e=eb (gu #[bf dg before,bf cu 0])/\
  X'.cell? ⟨sb,0,av⟩=aD (e7 (aD ⟨tb,0,av⟩))/\X'.cell? ⟨tb,0,av⟩=aD (e7 (aD ⟨rb,0,av⟩))/\X'.cell? ⟨tb,1,av⟩=aD (bf cu place)/\(before=num->G 0 X')/\
  (before≠num->Calls Tryz.prog 141 #[ptr rb,bf cu place,bf dg num] X'.drew fun e gL=>e=eb (bf cu 0)/\gL.cell? ⟨sb,0,av⟩=aD (e7 (aD ⟨tb,0,av⟩))/\gL.cell? ⟨tb,0,av⟩=aD (e7 (aD ⟨rb,0,av⟩))/\gL.cell? ⟨tb,1,av⟩=aD (bf cu place)/\G 0 gL)
section
variable {w:World} {sb tb rb:Nat}
theorem Fe {place:Int} {Fr:Nat->Option Addr->Nat->Nat->World->Prop} {G:Int->World->Prop} {a:Option Addr} {L c:Nat} (k:Z8 sb tb rb place Fr G) (c1:w.cell? ⟨sb,1,av⟩=aD (cx a L c)) (p:L<=70000) (V:L<=c) (hF:Fr 0 a L 0 w):
  Calls Tryz.prog 90 #[ptr sb,e7 av] w fun e w'=>∃c:Int,e=eb (bf cu c)/\G c w':=by
 have d:=aa k;obtain⟨num,J⟩:∃num,num=0:=⟨_,rfl⟩;have q:=aa (show Fr num a L 0 w by rw[J];exact hF);have r:=aa J;have N:(L:Int)<=70000:=by omega
 have O:(L:Int)<=c:=by omega
 clear k p hF J V;unfold ptr at d |-;go_enter Tryz.func90,Tryz.ntmps90;go_wp2_with fail;have l:Value.int dg 0=Value.int dg ((num:Nat):Int):=by rw[r.o];rfl
 rw[l];clear l
 go_loopw [8,9,31] (fun _ _ I wr=>∃i:Nat,i<=L/\I=bf cu i/\Hid (Fr num a L i wr)) (fun _ _ I _=>L-(RowKit.intOf I).toNat)
 case atStart=>exact⟨0,aB _,rfl,q⟩
 case round=>
  obtain⟨i,hi,rfl,hF⟩:=hrel;by_cases H:i<L
  ·have u:(i:Int)<L:=(by omega);obtain⟨s0,f,g,o,x,rfl,v,C⟩:=d.o.free _ _ _ _ _ hF.o H;have y:=aa C;clear C;go_wp2_with fail;refine y.o.mono ?_;rintro e P ⟨rfl,W⟩;have Z:=aa W;clear W v s0 f;go_wp2_with fail;go_roundw
   case rel=>exact⟨i+1,H,by go_num,Z⟩
   case measure=>simp[RowKit.intOf];omega
  ·obtain rfl:i=L:=by omega
   have u:¬(i:Int)<i:=(by omega);obtain⟨s0,f,z,h⟩:=d.o.root _ _ _ _ hF.o;have B:=aa h;clear h;go_wp2_with fail;go_wp2_with (refine wp_region_held_drew (S:=(fun X=>X.cell? ⟨sb,0,av⟩=aD (e7 (aD ⟨tb,0,av⟩))/\X.cell? ⟨tb,0,av⟩=aD (e7 (aD ⟨rb,0,av⟩))/\X.cell? ⟨tb,1,av⟩=aD (bf cu place))) (by kernel_rfl) ?_ (fun A=> ?_);focus skip;rotate_left;refine Hid.o ?_);refine aa ?_;·first|trivial|exact⟨s0,f,z⟩
   refine bg 0 A ?_;refine bg 1 A ?_;refine bg 2 A ?_;refine bg 3 A ?_;refine bg 4 A ?_;refine bg 5 A ?_;refine bg 6 A ?_;refine bg 7 A ?_;refine bg 8 A ?_;refine bg 9 A ?_;refine bg 10 A ?_;refine bg 11 A ?_;refine bg 12 A ?_;refine bg 13 A ?_;try simp only[Act.put,aA,az,ay]
   refine iV [14] (iW fun K b=> ?_);go_simp;refine B.o.mono ?_;rintro e Q ⟨before,rfl,s,t,T,m,R⟩;have E:=aa (And.intro m R);refine b.out _ _ ⟨s,t,T⟩ (fun A=> ?_);clear b K m R;refine bg 15 A ?_;refine bg 16 A ?_;refine bg 17 A ?_;refine bg 18 A ?_;refine bg 19 A ?_;refine wpAnyH_done (by kernel_rfl) ?_ _;try simp only[Act.put,aA,az,ay]
   by_cases M:before=num;·subst M;have D:((before:Int)==before)=true:=(by simp);have j:=aa (E.o.1 rfl);go_wp2_with fail;go_ret;exact⟨0,rfl,j.o⟩
   ·have D:((before:Int)==num)=false:=(by rw[beq_eq_false_iff_ne];omega);have F:=aa (E.o.2 M);go_wp2_with fail;go_wp2_with (refine wp_region_held_drew (S:=(fun X=>X.cell? ⟨sb,0,av⟩=aD (e7 (aD ⟨tb,0,av⟩))/\X.cell? ⟨tb,0,av⟩=aD (e7 (aD ⟨rb,0,av⟩))/\X.cell? ⟨tb,1,av⟩=aD (bf cu place))) (by kernel_rfl) ?_ (fun A=> ?_);focus skip;rotate_left;refine Hid.o ?_);refine aa ?_;·first|trivial|exact⟨s,t,T⟩
    refine bg 0 A ?_;refine bg 1 A ?_;refine bg 2 A ?_;refine bg 3 A ?_;refine bg 4 A ?_;refine bg 5 A ?_;refine bg 6 A ?_;refine bg 7 A ?_;refine bg 8 A ?_;refine bg 9 A ?_;refine bg 10 A ?_;refine bg 11 A ?_;refine bg 12 A ?_;refine bg 13 A ?_;refine bg 14 A ?_;try simp only[Act.put,aA,az,ay]
    refine iV [15] (iW fun K b=> ?_);go_simp;refine F.o.mono ?_;rintro e U ⟨rfl,s,t,T,n⟩;have j:=aa n;refine b.out _ _ ⟨s,t,T⟩ (fun A=> ?_);clear b K n;refine bg 16 A ?_;refine wpAnyH_done (by kernel_rfl) ?_ _;try simp only[Act.put,aA,az,ay]
    go_wp2_with fail;go_ret;exact⟨0,rfl,j.o⟩
theorem Ff {place:Int} {Fr:Nat->Option Addr->Nat->Nat->World->Prop} {G:Int->World->Prop} {r:Nat} (l:Z8 sb tb rb place Fr G)
  (m:Calls Tryz.prog 139 #[ptr sb,ptr r] w fun e X'=>(∃page:Nat,e=eb (bf cu 0)/\X'.cell? ⟨r,2,av⟩=aD (bf cu page)/\page<65536/\∃a L c,X'.cell? ⟨sb,1,av⟩=aD (cx a L c)/\L<=70000/\L<=c/\Fr (page+1) a L 0 X')\/(∃c:Int,e=eb (bf cu c)/\c≠0/\G c X')):
  Calls Tryz.prog 90 #[ptr sb,ptr r] w fun e w'=>∃c:Int,e=eb (bf cu c)/\G c w':=by
 have j:=aa l;have n:=aa m;clear l m;unfold ptr at j n |-;go_enter Tryz.func90,Tryz.ntmps90;go_wp2_with fail;refine n.o.mono ?_;rintro e w3 (⟨page,rfl,r2,P,a,L,c,c1,u,V,hF⟩|⟨c,rfl,hc,H⟩)
 ·have p:=aa hF;have U:(L:Int)<=70000:=by omega
  have Y:(L:Int)<=c:=by omega
  have B:(page:Int)<65536:=by omega
  obtain⟨num,J⟩:∃num,num=page+1:=⟨_,rfl⟩;rw[<-J] at p;have Q:(page:Int)+1=((num:Nat):Int):=by omega
  clear hF u V J;go_wp2_with fail;clear r2 B P Q
  go_loopw [8,9,31] (fun _ _ I wr=>∃i:Nat,i<=L/\I=bf cu i/\Hid (Fr num a L i wr)) (fun _ _ I _=>L-(RowKit.intOf I).toNat)
  case atStart=>exact⟨0,aB _,rfl,p⟩
  case round=>
   obtain⟨i,hi,rfl,hF⟩:=hrel;by_cases b:i<L
   ·have v:(i:Int)<L:=(by omega);obtain⟨s0,k,g,o,x,rfl,y,C⟩:=j.o.free _ _ _ _ _ hF.o b;have z:=aa C;clear C;go_wp2_with fail;refine z.o.mono ?_;rintro e w5 ⟨rfl,W⟩;have Z:=aa W;clear W y s0 k;go_wp2_with fail;go_roundw
    case rel=>exact⟨i+1,b,by go_num,Z⟩
    case measure=>simp[RowKit.intOf];omega
   ·obtain rfl:i=L:=by omega
    have v:¬(i:Int)<i:=(by omega);obtain⟨s0,k,D,h⟩:=j.o.root _ _ _ _ hF.o;have F:=aa h;clear h;go_wp2_with fail;go_wp2_with (refine wp_region_held_drew (S:=(fun X=>X.cell? ⟨sb,0,av⟩=aD (e7 (aD ⟨tb,0,av⟩))/\X.cell? ⟨tb,0,av⟩=aD (e7 (aD ⟨rb,0,av⟩))/\X.cell? ⟨tb,1,av⟩=aD (bf cu place))) (by kernel_rfl) ?_ (fun A=> ?_);focus skip;rotate_left;refine Hid.o ?_);refine aa ?_;·first|trivial|exact⟨s0,k,D⟩
    refine bg 0 A ?_;refine bg 1 A ?_;refine bg 2 A ?_;refine bg 3 A ?_;refine bg 4 A ?_;refine bg 5 A ?_;refine bg 6 A ?_;refine bg 7 A ?_;refine bg 8 A ?_;refine bg 9 A ?_;refine bg 10 A ?_;refine bg 11 A ?_;refine bg 12 A ?_;refine bg 13 A ?_;try simp only[Act.put,aA,az,ay]
    refine iV [14] (iW fun K d=> ?_);go_simp;refine F.o.mono ?_;rintro e w6 ⟨before,rfl,s,t,T,q,R⟩;have E:=aa (And.intro q R);refine d.out _ _ ⟨s,t,T⟩ (fun A=> ?_);clear d K q R;refine bg 15 A ?_;refine bg 16 A ?_;refine bg 17 A ?_;refine bg 18 A ?_;refine bg 19 A ?_;refine wpAnyH_done (by kernel_rfl) ?_ _;try simp only[Act.put,aA,az,ay]
    by_cases M:before=num;·subst M;have N:((before:Int)==before)=true:=(by simp);have f:=aa (E.o.1 rfl);go_wp2_with fail;go_ret;exact⟨0,rfl,f.o⟩
    ·have N:((before:Int)==num)=false:=(by rw[beq_eq_false_iff_ne];omega);have O:=aa (E.o.2 M);go_wp2_with fail;go_wp2_with (refine wp_region_held_drew (S:=(fun X=>X.cell? ⟨sb,0,av⟩=aD (e7 (aD ⟨tb,0,av⟩))/\X.cell? ⟨tb,0,av⟩=aD (e7 (aD ⟨rb,0,av⟩))/\X.cell? ⟨tb,1,av⟩=aD (bf cu place))) (by kernel_rfl) ?_ (fun A=> ?_);focus skip;rotate_left;refine Hid.o ?_);refine aa ?_;·first|trivial|exact⟨s,t,T⟩
     refine bg 0 A ?_;refine bg 1 A ?_;refine bg 2 A ?_;refine bg 3 A ?_;refine bg 4 A ?_;refine bg 5 A ?_;refine bg 6 A ?_;refine bg 7 A ?_;refine bg 8 A ?_;refine bg 9 A ?_;refine bg 10 A ?_;refine bg 11 A ?_;refine bg 12 A ?_;refine bg 13 A ?_;refine bg 14 A ?_;try simp only[Act.put,aA,az,ay]
     refine iV [15] (iW fun K d=> ?_);go_simp;refine O.o.mono ?_;rintro e w7 ⟨rfl,s,t,T,H⟩;have f:=aa H;refine d.out _ _ ⟨s,t,T⟩ (fun A=> ?_);clear d K H;refine bg 16 A ?_;refine wpAnyH_done (by kernel_rfl) ?_ _;try simp only[Act.put,aA,az,ay]
     go_wp2_with fail;go_ret;exact⟨0,rfl,f.o⟩
 ·have f:=aa H;have sL:(c !=0)=true:=by simpa using hc
  clear H;go_wp2_with fail;go_ret;exact⟨c,rfl,f.o⟩
end
end
namespace Tr
def mJ {α:Type} (R:α->α->Prop):List (Tx×α)->List (Tx×α)->Prop
 |[],[]=>True
 |x::xs,y::ys=>(x.1=y.1/\R x.2 y.2)/\mJ R xs ys
 |_,_=>False
def Sm:(k:Nat)->E k->E k->Prop
 |0,a,b=>a=b
 |k+1,a,b=>mJ (Sm k) (its a) (its b)
section
variable {α:Type} {R:α->α->Prop}
theorem mJ.refl (h:∀a,R a a):∀l:List (Tx×α),mJ R l l
 |[]=>trivial
 |_::l=>⟨⟨rfl,h _⟩,mJ.refl h l⟩
theorem mJ.len:∀{a b:List (Tx×α)},mJ R a b->a.length=b.length
 |[],[],_=>rfl
 |_::_,_::_,h=>by rw[a_,a_,mJ.len h.2]
 |[],_::_,h=>h.elim
 |_::_,[],h=>h.elim
theorem mJ.append:∀{a b a' B:List (Tx×α)},mJ R a b->mJ R a' B->mJ R (a++a') (b++B)
 |[],[],_,_,_,h=>h
 |_::_,_::_,_,_,h,h'=>⟨h.1,mJ.append h.2 h'⟩
 |[],_::_,_,_,h,_=>h.elim
 |_::_,[],_,_,h,_=>h.elim
end
theorem Sm.refl:∀(k:Nat) (a:E k),Sm k a a
 |0,_=>rfl
 |k+1,_=>mJ.refl (Sm.refl k) _
theorem Sm.Ik:∀{k:Nat} {a b:E k},Sm k a b->Ik k a=Ik k b
 |0,_,_,h=>by cases h;rfl
 |_+1,_,_,_=>rfl
theorem mJ.sz {k:Nat}:∀{a b:List (Tx×E k)},mJ (Sm k) a b->sz k a=sz k b
 |[],[],_=>rfl
 |x::a,y::b,h=>by
  have e:jw k x=jw k y:=by unfold jw;rw[h.1.1,h.1.2.Ik]
  rw[Tr.sz,Tr.sz,mJ.sz h.2,e]
 |[],_::_,h=>h.elim
 |_::_,[],h=>h.elim
theorem Sm.sz {k:Nat} {a b:E (k+1)} (h:Sm (k+1) a b):Tr.sz k (its a)=Tr.sz k (its b):=mJ.sz h
theorem Sm.cB:∀{k:Nat} {a b:List (Tx×E k)},mJ (Sm k) a b->cB k a=cB k b
 |0,[],[],_=>rfl
 |0,x::a,y::b,h=>by
  have i:=Sm.cB (k:=0) h.2;have e:x=y:=Prod.ext h.1.1 h.1.2;show x::a=y::b;rw[e];exact congrArg _ i
 |_+1,[],[],_=>rfl
 |k+1,x::a,y::b,h=>by
  have i:=Sm.cB (k:=k+1) h.2;have e:Tr.cB k (its x.2)=Tr.cB k (its y.2):=Sm.cB h.1.2;show Tr.cB (k+1) ([x]++a)=Tr.cB (k+1) ([y]++b);rw[bT,bT,dY,dY,i,e]
 |_,[],_::_,h=>h.elim
 |_,_::_,[],h=>h.elim
theorem Sm.cut:∀{k:Nat} {a a' b B:E k} {x:Tx},Sm k a a'->Sm k b B->cut k a x b->cut k a' x B
 |0,_,_,_,_,_,_,_,_=>trivial
 |k+1,a,a',b,B,x,h1,h2,h=>by
  have h':510<Tr.sz k (its a)+Tr.sz k (its b)+(if k=0 then 0 else x.length):=h;show 510<Tr.sz k (its a')+Tr.sz k (its B)+(if k=0 then 0 else x.length);rw[<-h1.sz,<-h2.sz];exact h'
theorem mJ.seg {k:Nat} {h:Option Tx} (H:∀{lo:Tx} {u:Option Tx} {a b:E k},Sm k a b->Ok k lo u a->Ok k lo u b):∀{a b:List (Tx×E k)},mJ (Sm k) a b->dB (Ok k) (Tr.cut k) h a->dB (Ok k) (Tr.cut k) h b
 |[],[],_,_=>trivial
 |[x],[y],hs,s=>by
  have s1:Ok k x.1 h x.2:=s;show Ok k y.1 h y.2;rw[<-hs.1.1];exact H hs.1.2 s1
 |x::x2::a,y::y2::b,hs,s=>by
  obtain⟨s1,s2,S⟩:=s;refine⟨?_, ?_,mJ.seg H hs.2 S⟩;·rw[<-hs.1.1,<-hs.2.1.1];exact H hs.1.2 s1
  ·rw[<-hs.1.1,<-hs.2.1.1];exact⟨s2.1,s2.2.1,Sm.cut hs.1.2 hs.2.1.2 s2.2.2⟩
 |[],_::_,h,_=>h.elim
 |_::_,[],h,_=>h.elim
 |[_],_::_::_,h,_=>h.2.elim
 |_::_::_,[_],h,_=>h.2.elim
theorem mJ.bH {α:Type} {R:α->α->Prop} (x:Tx):∀{a b:List (Tx×α)},mJ R a b->mJ R (bH x a) (bH x b)
 |[],[],_=>trivial
 |_::_,_::_,h=>⟨⟨rfl,h.1.2⟩,h.2⟩
 |[],_::_,h=>h.elim
 |_::_,[],h=>h.elim
theorem mJ.r9 {k:Nat} {lo:Tx} {a b:List (Tx×E k)} (h:mJ (Sm k) a b):mJ (Sm k) (r9 k lo a) (r9 k lo b):=by
 unfold Tr.r9
 split
 ·exact h
 ·exact h.bH lo
theorem mJ.head {k:Nat} {lo:Tx} {a b:List (Tx×E k)} (h:mJ (Sm k) a b) (hh:Head k lo a):Head k lo b:=by
 intro p hp
 match a,b,h with
 |[],[],_=>cases hp
 |x::a,y::b,h=>cases hp;have:=hh x rfl;rw[h.1.1] at this;exact this
 |[],_::_,h=>exact h.elim
 |_::_,[],h=>exact h.elim
theorem Sm.ok:∀{k:Nat} {lo:Tx} {u:Option Tx} {a b:E k},Sm k a b->Ok k lo u a->Ok k lo u b
 |0,_,_,_,_,h,o=>by cases h;exact o
 |k+1,lo,u,a,b,h,o=>by obtain⟨O,c,d,f⟩:=o;refine⟨fun e=>O (eG.1 (by rw[mJ.len h,e];rfl)),by rw[<-h.sz];exact c,mJ.head h d,mJ.seg (fun hs H=>Sm.ok hs H) (mJ.r9 h) f⟩
theorem Sm.cons {k:Nat} {h h':Hd} {l l':List (Tx×E k)} (hs:mJ (Sm k) l l'):Sm (k+1) (mk h l) (mk h' l'):=hs
def cnt:(k:Nat)->E k->Nat
 |0,_=>0
 |k+1,n=>1+((its n).map fun p=>cnt k p.2).sum
theorem AX:∀(k:Nat) (n:E k),cnt k n=(ck k n).length+fy k n
 |0,_=>rfl
 |k+1,n=>by
  have h:∀l:List (Tx×E k),(l.map fun p=>cnt k p.2).sum=(dW k l).length+kK k l:=by
   intro l;induction l with
   |nil=>rfl
   |cons x l i=>rw[bM,ku,i,AX k x.2,f_,eP,au];omega
  show 1+_=_;rw[h,bC,bX,au];cases (hd n).page with
  |none=>simp;omega
  |some x=>simp;omega
end Tr
section
open Go.RowKit Lib
section
variable {pg dh:List (Option Wl.Text)} {M M':Nat->Option NV}
theorem pF {k:Nat} {x:Nat} {p:Tr.Tx×Tr.E k} {l:List (Tr.Tx×Tr.E k)} (hp:p∈l) (h:x∈Tr.ck k p.2):x∈Tr.dW k l:=List.mem_flatMap.2 ⟨p,hp,h⟩
theorem fH:∀{k:Nat} {t:Tr.E k},cS pg k t->(∀x∈Tr.ck k t,dh.getD x av=pg.getD x av)->cS dh k t
 |0,_,_,_=>trivial
 |k+1,t,h,hs=>by
  obtain⟨⟨page,hp,H,y⟩,hf,b⟩:=h;refine⟨⟨page,hp,H, ?_⟩,hf,fun p a=>fH (b p a) fun x c=>hs x ?_⟩;·rw[hs page (by rw[Tr.bC,hp];exact aE)];exact y
  ·rw[Tr.bC];exact aj.2 (dn (pF a c))
theorem wP {k:Nat} {n:NV} {t:Tr.E (k+1)} (o:kQ pg k n t) (hs:∀x∈Tr.ck (k+1) t,dh.getD x av=pg.getD x av):kQ dh k n t:=by refine⟨o.level,o.page,o.fresh,o.near,fun hf=> ?_⟩;obtain⟨page,hp,h,y,hr⟩:=o.held hf;exact⟨page,hp,h,by rw[hs page (by rw[Tr.bC,hp];exact aE)];exact y,hr⟩
theorem wQ {k:Nat} {R R':Nat->Tr.E (k+1)->List Nat->Prop}:∀{is:List It} {xs:List (Tr.Tx×Tr.E (k+1))} {fs:List (List Nat)},bp pg k R is xs fs->(∀x∈Tr.dW (k+1) xs,dh.getD x av=pg.getD x av)->(∀q c f,f∈fs->R q c f->(∀x∈Tr.ck (k+1) c,dh.getD x av=pg.getD x av)->R' q c f)->bp dh k R' is xs fs
 |[],[],[],_,_,_=>trivial
 |i::is,x::xs,f::fs,h,hs,hR=>by
  rw[Tr.f_] at hs;refine⟨⟨h.1.1,h.1.2.1, ?_⟩,wQ h.2 (fun y hy=>hs y (aj.2 (dn hy))) fun q c g hg=>hR q c g (aI _ hg)⟩;rcases h.1.2.2 with⟨H,a,h3,h4⟩|⟨q,b,hr⟩;·grind [fH]
  ·grind
 |[],[],_::_,h,_,_=>h.elim
 |[],_::_,_,h,_,_=>h.elim
 |_::_,[],_,h,_,_=>h.elim
 |_::_,_::_,[],h,_,_=>h.elim
theorem zB:∀{k p:Nat} {t:Tr.E (k+1)} {F:List Nat},dO M pg k p t F->(∀q∈F,M' q=M q)->(∀x∈Tr.ck (k+1) t,dh.getD x av=pg.getD x av)->dO M' dh k p t F
 |0,p,t,F,⟨n,h1,h2,h3,h4⟩,hF,hs=>⟨n,by rw[hF p (by rw[h4];exact aE)];exact h1,wP h2 hs,h3,h4⟩
 |k+1,p,t,F,⟨n,fs,h1,h2,h3,h4⟩,hF,hs=>⟨n,fs,by rw[hF p (by rw[h4];exact aE)];exact h1,wP h2 hs,wQ h3 (fun x h=>hs x (by rw[Tr.bC];exact aj.2 (dn h))) (fun _ _ f hf hr h=>zB hr (fun q H=>hF q (by rw[h4];exact aI _ (List.mem_flatten.2 ⟨f,hf,H⟩))) h),h4⟩
structure iR (pg dh:List (Option Wl.Text)) (Mh al:List Nat):Prop where
 len:dh.length=pg.length
 same:∀x,x∉Mh->dh.getD x av=pg.getD x av
 kT:∀x,x∈Mh\/x∈al->(dh.getD x av).isSome=true
 free:∀x∈al,pg.getD x av=av/\x<pg.length
 nd:al.Nodup
 used:Rm.used dh=Rm.used pg+al.length
theorem iR.refl (pg:List (Option Wl.Text)):iR pg pg [] []:=⟨rfl,fun _ _=>rfl,fun _ h=>(by rcases h with h|h<;>cases h),fun _ h=>(by cases h),List.nodup_nil,rfl⟩
theorem iR.trans {n:List (Option Wl.Text)} {t T a1 A:List Nat} (a:iR pg dh t a1) (b:iR dh n T A):iR pg n (t++T) (a1++A):=by
 have hn:∀x∈A,x∉t/\x∉a1:=fun x H=>by
  have h:=(b.free x H).1;refine⟨fun c=> ?_,fun c=> ?_⟩;·have:=a.kT x (dc c);rw[h] at this;cases this
  ·have:=a.kT x (dn c);rw[h] at this;cases this
 have hs:∀x,(dh.getD x av).isSome=true->(n.getD x av).isSome=true:=fun x H=>by
  by_cases e:x∈T;·exact b.kT x (dc e)
  ·rw[b.same x e];exact H
 refine⟨b.len.trans a.len,fun x H=> ?_,fun x H=> ?_,fun x H=> ?_,aR.2 ⟨a.nd,b.nd,fun x H y hy e=> ?_⟩, ?_⟩;·rw[b.same x fun h=>H (aj.2 (dn h)),a.same x fun h=>H (aj.2 (dc h))]
 ·rcases H with H|H
  ·rcases aj.1 H with H|H;·exact hs x (a.kT x (dc H))
   ·exact b.kT x (dc H)
  ·rcases aj.1 H with H|H;·exact hs x (a.kT x (dn H))
   ·exact b.kT x (dn H)
 ·rcases aj.1 H with H|H;·exact a.free x H
  ·have:=b.free x H;rw[a.same x (hn x H).1,a.len] at this;exact this
 ·grind
 ·rw[b.used,a.used,au];omega
theorem iR.keeps {Mh al:List Nat} (h:iR pg dh Mh al) {x:Nat} (H:(pg.getD x av).isSome=true):(dh.getD x av).isSome=true:=by
 by_cases e:x∈Mh;·exact h.kT x (dc e)
 ·rw[h.same x e];exact H
theorem wR:∀{pg:List (Option Wl.Text)} {p:Nat} {o:Option Wl.Text},p<pg.length->Rm.used (pg.set p o)+(if (pg.getD p av).isSome then 1 else 0)=Rm.used pg+(if o.isSome then 1 else 0)
 |[],_,_,h=>by cases h
 |a::pg,0,o,_=>by
  show Rm.used (o::pg)+(if a.isSome then 1 else 0)=_;unfold Rm.used;cases a<;>cases o<;>simp
 |a::pg,p+1,o,h=>by
  have i:=wR (pg:=pg) (p:=p) (o:=o) (by simpa using h);show Rm.used (a::pg.set p o)+(if (pg.getD p av).isSome then 1 else 0)=_;unfold Rm.used at i |-;cases a<;>simp only[cW,Option.isSome] at i |-<;>simp at i |-<;>omega
theorem oL {pg:List (Option Wl.Text)} {p x:Nat} {o:Option Wl.Text} (hp:p<pg.length):(pg.set p o).getD x av=if x=p then o else pg.getD x none:=Rm.dO.dU pg p x o av hp
theorem iR.one {p:Nat} {t:Wl.Text} (hp:p<pg.length):iR pg (pg.set p (aD t)) [p] (if (pg.getD p av).isSome then [] else [p]):=by
 have hu:=wR (pg:=pg) (p:=p) (o:=aD t) hp;refine⟨bP,fun x h=> ?_,fun x h=> ?_,fun x h=> ?_, ?_, ?_⟩;·grind
 ·grind
 ·simp_all
 ·grind
 ·grind
end
structure Wrs (sb p tb rb L rg ro cap:Nat) (P:Nat->World->Prop) (Z:Nat->World->Prop) (G:Int->World->Prop):Prop where
 cells:∀j X,P j X->X.cell? ⟨p,1,av⟩=aD (cx (aD ⟨rg,ro,av⟩) L cap)
 item:∀j X,P j X->j<L->∃i:It,v_ X rg ro j i/\(i.node=av->∀V,Below X.heap.size X V->P (j+1) V)/\
  ∀q,i.node=aD q->∀V ib,Below X.heap.size X V->X.heap.size<=ib->ib<V.heap.size->Calls Tryz.prog 139 #[ptr sb,ptr q] V fun e X'=>
   (∃page:Nat,e=eb (bf cu 0)/\(∀o v,V.cell? ⟨ib,o,av⟩=aD v->X'.cell? ⟨ib,o,av⟩=aD v)/\X'.cell? ⟨p,1,av⟩=aD (cx (aD ⟨rg,ro,av⟩) L cap)/\X'.cell? ⟨q,2,av⟩=aD (bf cu page)/\page<65536/\(∃v,X'.cell? ⟨rg,ro+j*3+1,av⟩=aD v)/\(∀W,Below X'.heap.size X' W->W.frozen? ⟨rg,ro+j*3+1,av⟩=false)/\
    ∀W,Below X'.heap.size X' W->P (j+1) (W.setCell ⟨rg,ro+j*3+1,av⟩ (bR (bs (pv page)))))\/
   (∃c:Int,e=eb (bf cu c)/\c≠0/\G c X')
 fresh:∀X,P L X->∃f,X.cell? ⟨p,7,av⟩=aD (eX f)/\(f=false->G 0 X)/\
  (f=true->∃pg:Int,X.cell? ⟨p,2,av⟩=aD (bf cu pg)/\((pg=-1/\Calls Tryz.prog 180 #[ptr sb] X fun e X'=>(∃page:Nat,e=eb (gu #[bf cu page,bf cu 0])/\(∃v,X'.cell? ⟨p,2,av⟩=aD v)/\X'.frozen? ⟨p,2,av⟩=false/\Z page (X'.setCell ⟨p,2,av⟩ (bf cu page)))\/(∃v c:Int,e=eb (gu #[bf cu v,bf cu c])/\c≠0/\G c X'))\/∃page:Nat,pg=page/\Z page X))
 write:∀page X,Z page X->X.cell? ⟨sb,0,av⟩=aD (e7 (aD ⟨tb,0,av⟩))/\X.cell? ⟨tb,0,av⟩=aD (e7 (aD ⟨rb,0,av⟩))/\X.cell? ⟨p,2,av⟩=aD (bf cu page)/\∃txt:ByteArray,
  (∀V,Below X.heap.size X V->Calls Tryz.prog 182 #[ptr p] V fun e V'=>e=eb (bR txt)/\Below V.heap.size V V')/\∀V,Below X.heap.size X V->Calls Tryz.prog 181 #[ptr rb,bf cu page,bR txt] V fun e X'=>∃c:Int,e=eb (bf cu c)/\G c X'/\X'.cell? ⟨sb,0,av⟩=aD (e7 (aD ⟨tb,0,av⟩))/\X'.cell? ⟨tb,0,av⟩=aD (e7 (aD ⟨rb,0,av⟩))/\X'.cell? ⟨p,2,av⟩=aD (bf cu page)
section
variable {w:World} {p sb tb rb:Nat}
theorem wS {L rg ro cap:Nat} {P Z:Nat->World->Prop} {G:Int->World->Prop} (hW:Wrs sb p tb rb L rg ro cap P Z G) (hP:P 0 w) (hL:L<=400) (Ki:L<=cap):
  Calls Tryz.prog 139 #[ptr sb,ptr p] w fun e w'=>∃c:Int,e=eb (bf cu c)/\G c w':=by
 have Q:=aa hW;have HP:=aa hP;have c1:=hW.cells 0 _ hP;have EO:(L:Int)<=400:=by omega
 have xM:(L:Int)<=cap:=by omega
 clear hW hP hL Ki;unfold ptr at Q |-;go_enter Tryz.func139,Tryz.ntmps139;go_wp2_with fail
 go_loopw [5,6,7,15] (fun _ _ _ kv wr=>∃j:Nat,j<=L/\kv=bf cu j/\Hid (P j wr)) (fun _ _ _ kv _=>L-(RowKit.intOf kv).toNat)
 case atStart=>exact⟨0,aB _,rfl,HP⟩
 case round=>
  clear c1;obtain⟨j,hj,rfl,R⟩:=hrel;by_cases z:j<L
  ·have hI:(j:Int)<L:=(by omega);obtain⟨i,A,g,k⟩:=Q.o.item j _ R.o z;have a0:=A.key;have a1:=A.val;have N:=A.node;have Pz:=aa g;have HSO:=aa k;clear g k;obtain⟨W1,l⟩:∃W1,W1=wr.alloc (ey #[bR (bs i.key),bR (bs i.val),e7 (pa i.node)] 122):=⟨_,rfl⟩;obtain⟨ib,m⟩:∃ib,ib=wr.heap.size:=⟨_,rfl⟩;have B:W1.cell? ⟨ib,2,av⟩=aD (e7 (pa i.node)):=(by rw[l,m];exact (aU.new wr _ _).cell rfl);have U:Below wr.heap.size wr W1:=(by rw[l];exact (Below.refl _ wr).alloc (ah _) _);have QY:=aa (show Below wr.heap.size wr W1/\wr.heap.size<=ib/\ib<W1.heap.size from⟨U,by omega,by rw[l,m];simp[aS]⟩);clear U;cases hn:i.node with
   |none=>rw[hn] at N B l;have HD:=aa (Pz.o hn _ QY.o.1);generalize bs i.key=kb at*;generalize bs i.val=vb at*;rw[show pa av=av from rfl] at N B l;go_wp2_with fail;exact⟨⟨j+1,z,by go_num,by rw[<-l];exact HD⟩,by simp[RowKit.intOf];omega⟩
   |some q=>
    rw[hn] at N B l;have Kl:=aa (HSO.o q hn W1 ib QY.o.1 QY.o.2.1 QY.o.2.2);generalize bs i.key=kb at*;generalize bs i.val=vb at*;rw[show pa (aD q)=aD ⟨q,0,av⟩ from rfl] at N B l;go_wp2_with fail;rw[<-l,<-m];refine Kl.o.mono ?_;rintro e w3 (⟨page,rfl,kx,D,dq,py,⟨v1,b⟩,F,V⟩|⟨c,rfl,hc,n⟩)
    ·have B:=kx 2 _ B;have J:=aa V;have H:=aa (And.intro py (And.intro (bD _ _ D) (And.intro (bD _ _ b) F)));clear kx V F a0 a1 N l m;go_wp2_with fail;go_wp2_with (refine wp_region_any (by kernel_rfl) ?_;refine Hid.o ?_);refine aa ?_;try (change wpAny _ _ _ _ _ _ _ (bJ _))
     refine tk 0 ?_;refine tk 1 ?_;refine tk 2 ?_;refine tk 4 ?_;refine tk 5 ?_;try simp only[Act.put,aA,az,ay]
     refine rd [3,6] (AllReady.cons rfl (fun K h=> ?_) (rn fun K h=> ?_))
     focus
      go_simp
      refine h _ _ ?_;clear h K
      refine rd [6] (rn fun K h=> ?_)
      go_simp
      refine h _ _ ?_;clear h K
      refine rd [7] (rn fun K h=> ?_)
      go_simp
      refine h _ _ ?_;clear h K
      refine rd [8] (rn fun K h=> ?_)
      go_simp
      refine h _ _ ?_;clear h K
      refine rd [9] (rn fun K h=> ?_)
      go_simp
      refine h _ _ ?_;clear h K
      refine rd [10] (rn fun K h=> ?_)
      go_simp
      refine (gd _ page H.o.1).mono ?_
      rintro e W ⟨rfl,d⟩
      have d:Below w3.heap.size w3 W:=((Below.refl w3.heap.size w3).drew).trans d
      have D:=(d.cell H.o.2.1).trans D
      have b:=(d.cell H.o.2.2.1).trans b
      have F:=H.o.2.2.2 _ d
      have J:=aa (J.o _ d)
      clear d
      refine h _ _ ?_;clear h K
     rotate_left
     focus
      go_simp
      refine h _ _ ?_;clear h K
      refine rd [3,7] (AllReady.cons rfl (fun K h=> ?_) (rn fun K h=> ?_))
      focus
       go_simp
       refine h _ _ ?_;clear h K
       refine rd [7] (rn fun K h=> ?_)
       go_simp
       refine h _ _ ?_;clear h K
       refine rd [8] (rn fun K h=> ?_)
       go_simp
       refine h _ _ ?_;clear h K
       refine rd [9] (rn fun K h=> ?_)
       go_simp
       refine h _ _ ?_;clear h K
       refine rd [10] (rn fun K h=> ?_)
       go_simp
       refine (gd _ page H.o.1).mono ?_
       rintro e W ⟨rfl,d⟩
       have d:Below w3.heap.size w3 W:=((Below.refl w3.heap.size w3).drew).trans d
       have D:=(d.cell H.o.2.1).trans D
       have b:=(d.cell H.o.2.2.1).trans b
       have F:=H.o.2.2.2 _ d
       have J:=aa (J.o _ d)
       clear d
       refine h _ _ ?_;clear h K
      rotate_left
      focus
       go_simp
       refine h _ _ ?_;clear h K
       refine rd [3,8] (AllReady.cons rfl (fun K h=> ?_) (rn fun K h=> ?_))
       focus
        go_simp
        refine h _ _ ?_;clear h K
        refine rd [8] (rn fun K h=> ?_)
        go_simp
        refine h _ _ ?_;clear h K
        refine rd [9] (rn fun K h=> ?_)
        go_simp
        refine h _ _ ?_;clear h K
        refine rd [10] (rn fun K h=> ?_)
        go_simp
        refine (gd _ page H.o.1).mono ?_
        rintro e W ⟨rfl,d⟩
        have d:Below w3.heap.size w3 W:=((Below.refl w3.heap.size w3).drew).trans d
        have D:=(d.cell H.o.2.1).trans D
        have b:=(d.cell H.o.2.2.1).trans b
        have F:=H.o.2.2.2 _ d
        have J:=aa (J.o _ d)
        clear d
        refine h _ _ ?_;clear h K
       rotate_left
       focus
        go_simp
        refine h _ _ ?_;clear h K
        refine rd [3,9] (AllReady.cons rfl (fun K h=> ?_) (rn fun K h=> ?_))
        focus
         go_simp
         refine h _ _ ?_;clear h K
         refine rd [9] (rn fun K h=> ?_)
         go_simp
         refine h _ _ ?_;clear h K
         refine rd [10] (rn fun K h=> ?_)
         go_simp
         refine (gd _ page H.o.1).mono ?_
         rintro e W ⟨rfl,d⟩
         have d:Below w3.heap.size w3 W:=((Below.refl w3.heap.size w3).drew).trans d
         have D:=(d.cell H.o.2.1).trans D
         have b:=(d.cell H.o.2.2.1).trans b
         have F:=H.o.2.2.2 _ d
         have J:=aa (J.o _ d)
         clear d
         refine h _ _ ?_;clear h K
        rotate_left
        focus
         go_simp
         refine h _ _ ?_;clear h K
         refine rd [3,10] (AllReady.cons rfl (fun K h=> ?_) (rn fun K h=> ?_))
         focus
          go_simp
          refine h _ _ ?_;clear h K
          refine rd [10] (rn fun K h=> ?_)
          go_simp
          refine (gd _ page H.o.1).mono ?_
          rintro e W ⟨rfl,d⟩
          have d:Below w3.heap.size w3 W:=((Below.refl w3.heap.size w3).drew).trans d
          have D:=(d.cell H.o.2.1).trans D
          have b:=(d.cell H.o.2.2.1).trans b
          have F:=H.o.2.2.2 _ d
          have J:=aa (J.o _ d)
          clear d
          refine h _ _ ?_;clear h K
         rotate_left
         focus
          go_simp
          refine (gd _ page H.o.1).mono ?_
          rintro e W ⟨rfl,d⟩
          have d:Below w3.heap.size w3 W:=((Below.refl w3.heap.size w3).drew).trans d
          have D:=(d.cell H.o.2.1).trans D
          have b:=(d.cell H.o.2.2.1).trans b
          have F:=H.o.2.2.2 _ d
          have J:=aa (J.o _ d)
          clear d
          refine h _ _ ?_;clear h K
          refine rd [3] (rn fun K h=> ?_)
          go_simp
          refine h _ _ ?_;clear h K
     all_goals
      try simp only[Act.put,aA,az,ay]
      refine tk 11 ?_
      refine tk 12 ?_
      refine tk 13 ?_
      try simp only[Act.put,aA,az,ay]
      refine rd [14] (rn fun K h=> ?_)
      go_simp
      refine h _ _ ?_;clear h K
      refine wpAny_done (by kernel_rfl) ?_ _
      go_wp2_with fail
      go_roundw
      case rel=>exact⟨j+1,z,by go_num,J⟩
      case measure=>simp[RowKit.intOf];omega
    ·have x:=aa n;have sL:(c !=0)=true:=(by simpa using hc);clear n a0 a1 N B l m;go_wp2_with fail;go_ret;exact⟨c,rfl,x.o⟩
  ·obtain rfl:j=L:=by omega
   have hI:¬(j:Int)<j:=(by omega);obtain⟨f,d7,Un,X6⟩:=Q.o.fresh _ R.o;cases f with
   |false=>
    have x:=aa (Un rfl);clear Un X6;go_wp2_with fail;go_ret;exact⟨0,rfl,x.o⟩
   |true=>
    obtain⟨pg,u,⟨rfl,ht⟩|⟨page,rfl,O⟩⟩:=X6 rfl
    ·have HT:=aa ht;clear Un X6 ht;go_wp2_with fail;refine HT.o.mono ?_;rintro e w3 (⟨page,rfl,⟨v2,r⟩,f2,O⟩|⟨v,c,rfl,hc,n⟩)
     ·obtain⟨X1,IU⟩:∃X1,X1=w3.setCell ⟨p,2,av⟩ (bf cu page):=⟨_,rfl⟩;rw[<-IU] at O;have HZ:=aa O;have C:=aa ((Below.refl X1.heap.size X1).drew);clear O u d7;go_wp2_with fail;rw[<-IU];clear IU r f2;obtain⟨s0,T,u,txt,s,t⟩:=Q.o.write _ _ HZ.o;have qG:=aa s;have TZ:=aa t;have E:=aa (And.intro (bD _ _ s0) (And.intro (bD _ _ T) (bD _ _ u)));clear s t;go_wp2_with fail;go_wp2_with (refine wp_region_held_drew (S:=(fun X=>X.cell? ⟨sb,0,av⟩=aD (e7 (aD ⟨tb,0,av⟩))/\X.cell? ⟨tb,0,av⟩=aD (e7 (aD ⟨rb,0,av⟩))/\X.cell? ⟨p,2,av⟩=aD (bf cu page))) (by kernel_rfl) ?_ (fun a=> ?_);focus skip;rotate_left;refine Hid.o ?_);refine aa ?_;·first|trivial|exact⟨s0,T,u⟩
      refine bg 0 a ?_;refine bg 1 a ?_;refine bg 2 a ?_;refine bg 3 a ?_;refine bg 4 a ?_;refine bg 5 a ?_;refine bg 6 a ?_;refine bg 7 a ?_;refine bg 8 a ?_;refine bg 9 a ?_;refine bg 10 a ?_;refine bg 11 a ?_;try simp only[Act.put,aA,az,ay]
      refine iV [12] (iW fun K h=> ?_);go_simp;refine (qG.o _ C.o).mono ?_;rintro e w6 ⟨rfl,Y⟩;have y:=aa (C.o.trans (Y.mono C.o.size));refine h.out _ _ ⟨(y.o.cell E.o.1).trans s0,(y.o.cell E.o.2.1).trans T,(y.o.cell E.o.2.2).trans u⟩ (fun a=> ?_);clear h K Y;refine iV [13] (iW fun K h=> ?_);go_simp;refine (TZ.o _ y.o).mono ?_;rintro e w7 ⟨c,rfl,n,I,M,r⟩;have x:=aa n;refine h.out _ _ ⟨I,M,r⟩ (fun a=> ?_);clear h K n;refine bg 14 a ?_;refine wpAnyH_done (by kernel_rfl) ?_ _;go_wp2_with fail;go_ret;exact⟨c,rfl,x.o⟩
     ·have x:=aa n;have sL:(c !=0)=true:=(by simpa using hc);clear n;go_wp2_with fail;go_ret;exact⟨c,rfl,x.o⟩
    ·have HZ:=aa O;clear Un X6 O;have hne:((page:Int)==-1)=false:=(by rw[beq_eq_false_iff_ne];omega);have C:=aa ((Below.refl wr.heap.size wr).drew);go_wp2_with fail;clear u d7;obtain⟨s0,T,u,txt,s,t⟩:=Q.o.write _ _ HZ.o;have qG:=aa s;have TZ:=aa t;have E:=aa (And.intro (bD _ _ s0) (And.intro (bD _ _ T) (bD _ _ u)));clear s t;go_wp2_with fail;go_wp2_with (refine wp_region_held_drew (S:=(fun X=>X.cell? ⟨sb,0,av⟩=aD (e7 (aD ⟨tb,0,av⟩))/\X.cell? ⟨tb,0,av⟩=aD (e7 (aD ⟨rb,0,av⟩))/\X.cell? ⟨p,2,av⟩=aD (bf cu page))) (by kernel_rfl) ?_ (fun a=> ?_);focus skip;rotate_left;refine Hid.o ?_);refine aa ?_;·first|trivial|exact⟨s0,T,u⟩
     refine bg 0 a ?_;refine bg 1 a ?_;refine bg 2 a ?_;refine bg 3 a ?_;refine bg 4 a ?_;refine bg 5 a ?_;refine bg 6 a ?_;refine bg 7 a ?_;refine bg 8 a ?_;refine bg 9 a ?_;refine bg 10 a ?_;refine bg 11 a ?_;try simp only[Act.put,aA,az,ay]
     refine iV [12] (iW fun K h=> ?_);go_simp;refine (qG.o _ C.o).mono ?_;rintro e w6 ⟨rfl,Y⟩;have y:=aa (C.o.trans (Y.mono C.o.size));refine h.out _ _ ⟨(y.o.cell E.o.1).trans s0,(y.o.cell E.o.2.1).trans T,(y.o.cell E.o.2.2).trans u⟩ (fun a=> ?_);clear h K Y;refine iV [13] (iW fun K h=> ?_);go_simp;refine (TZ.o _ y.o).mono ?_;rintro e w7 ⟨c,rfl,n,I,M,r⟩;have x:=aa n;refine h.out _ _ ⟨I,M,r⟩ (fun a=> ?_);clear h K n;refine bg 14 a ?_;refine wpAnyH_done (by kernel_rfl) ?_ _;go_wp2_with fail;go_ret;exact⟨c,rfl,x.o⟩
end
section
variable {w:World} {sb tb:Nat} {l:List Int} {x:Int}
def PA (w:World) (sb tb g:Nat) (x:Int) (l:List Int) (e:Ending) (w':World):Prop:=
 e=eb (gu #[bf cu x,bf cu 0])/\∃o c,aU w' sb 169 [ptr tb,cx (aD ⟨g,o,av⟩) l.length c]/\l.length<=c/\bu (gq cu) w' g o l/\aG (fun k=>k=sb) w w'
theorem Fg {g o c:Nat} (hs:aU w sb 169 [ptr tb,cx (aD ⟨g,o,av⟩) (x::l).length c]) (hc:(x::l).length<=c) (hl:bu (gq cu) w g o (x::l)) (hg:g≠sb) (i:l.length<=1000000):
  Calls Tryz.prog 180 #[ptr sb] w fun e w'=>PA w sb tb g x l e w':=by
 have c1:=hs.cell (j:=1) rfl;have f1:=hs.frozen 1;have I:w.cell? ⟨g,o,av⟩=aD (bf cu x):=hl 0 _ rfl;have y:bu (gq cu) w g (o+1) l:=by have:=hl.part 1 l.length (by simp only[a_];omega);rw[Nat.one_mul,List.drop_one,List.tail_cons,List.take_length] at this;exact this
 obtain⟨L,H⟩:∃L,L=l.length:=⟨_,rfl⟩;have b:=aa (And.intro hs (And.intro y (And.intro hg H)));rw[a_,<-H] at c1 hc;have h:(1:Int)<=(L:Int)+1:=by omega
 have m:(0:Int)<(L:Int)+1:=by omega
 have n:(((L:Int)+1)==0)=false:=by rw[beq_eq_false_iff_ne];omega
 have E:(L:Int)<=1000000:=by omega
 clear hs hl y hg H i;go_enter Tryz.func180,Tryz.ntmps180;unfold ptr;by_cases a:c=1
 ·subst a;go_wp2_with fail
  go_ret2
  obtain⟨h,d,h3,h4⟩:=b.o;obtain rfl:l=[]:=List.eq_nil_of_length_eq_zero (by omega);exact⟨rfl,o,0,h.set 1 _,ah _,fun j u hu=>by simp[Elem.cells] at hu,(aG.refl (fun k=>k=sb) w).setCell _ _ fun _=>rfl⟩
 ·go_wp2_with fail
  go_ret2
  obtain⟨h,d,h3,h4⟩:=b.o;have f:aG (fun k=>k=sb) w (w.setCell ⟨sb,1,av⟩ (cx (aD ⟨g,o+1,av⟩) L (c-1))):=(aG.refl (fun k=>k=sb) w).setCell _ _ fun _=>rfl;exact⟨rfl,o+1,c-1,by rw[<-h4];exact h.set 1 _,by omega,d.but f h3,f⟩
end
section
variable {E:Ev} {X0 X:World} {R0 R:Nat->Prop} {ps:List (Nat×List UInt8)} {pg:List (Option Wl.Text)} {rt:List Nat} {M:Nat->Option NV}
def Mj (E:Ev) (R:Nat->Prop) (ps:List (Nat×List UInt8)) (pg:List (Option Wl.Text)) (rt:List Nat) (X:World) (e:Ending) (X':World):Prop:=
 e=eb (gu #[bf cu (Rm.alloc pg).1,bf cu (Rm.alloc pg).2])/\Al R E.ring E.g E.N E.lb E.xb E.rb E.H ps (Rm.lz pg) rt X X'
theorem Fh (h:TS E X0 R0 R ps pg rt M X) {sb c:Nat} {a:Option Addr} (hs:aU X sb 169 [ptr E.tb,cx a 0 c]) (H:ps.length<=80000000):
  Calls Tryz.prog 180 #[ptr sb] X fun e X'=>Mj E R ps pg rt X e X':=by
 have c0:=hs.cell (j:=0) rfl;have c1:=hs.cell (j:=1) rfl;have t:=h.tree.cell (j:=0) rfl;have b:=aa (EI h.rm H);clear h hs;go_enter Tryz.func180,Tryz.ntmps180;unfold ptr at c0 t |-;go_wp2_with fail;refine b.o.mono ?_;rintro e w ⟨rfl,hd⟩;have d:=aa hd;clear hd;go_wp2_with fail
 go_ret2
 exact⟨rfl,d.o⟩
end
section
variable {E:Ev} {X0 X X' V:World} {R0 R R' S:Nat->Prop} {ps ps':List (Nat×List UInt8)} {pg dh:List (Option Wl.Text)} {rt:List Nat} {M M':Nat->Option NV} {k p q sb:Nat} {n m:NV} {sv:Value} {l:List Int} {x:Int}
structure SW (E:Ev) (X0:World) (R0 R:Nat->Prop) (ps:List (Nat×List UInt8)) (pg:List (Option Wl.Text)) (rt:List Nat) (M:Nat->Option NV) (X:World) (sb:Nat) (l:List Int):Prop where
 ts:TS E X0 R0 R ps pg rt M X
 uO:R sb/\X0.heap.size<=sb/\¬MB M sb
 sp:∃a c,aU X sb 169 [ptr E.tb,cx a l.length c]/\l.length<=c/\(l≠[]->∃g o,a=aD ⟨g,o,av⟩/\bu (gq cu) X g o l/\R g/\¬MB M g/\g≠sb)
theorem SS.sw (h:SS E X0 R0 R ps pg rt M X sb sv l):SW E X0 R0 R ps pg rt M X sb l:=by
 refine⟨h.ts,h.uO, ?_⟩;obtain⟨a,c,rfl,hc⟩:=Own.slice h.sp;refine⟨a,c,h.blk,hc,fun hl=> ?_⟩;obtain⟨g,c',H,-,-,-⟩:=Own.form h.sp (eL.2 hl);have ha:a=aD ⟨g,0,av⟩:=by injection H
 subst ha;have hg:=h.Pg g rfl;exact⟨g,0,rfl,Own.lies h.sp,hg.1,hg.2.2,fun e=>Own.dG h.sp h.blk (by decide) (by rw[<-e];rfl)⟩
theorem SW.aaa (h:SW E X0 R0 R ps pg rt M X sb l):sb<X.heap.size:=h.ts.IK sb h.uO.1
theorem SW.step (h:SW E X0 R0 R ps pg rt M X sb l) (n:TS E X0 R0 R' ps' dh rt M' X') (f:aG S X X') (hS:∀b,R b->S b->MB M b) (i:∀b,R b->R' b) (j:∀b,MB M' b->MB M b):SW E X0 R0 R' ps' dh rt M' X' sb l:=by obtain⟨a,c,H,hc,hl⟩:=h.sp;refine⟨n,⟨i _ h.uO.1,h.uO.2.1,fun d=>h.uO.2.2 (j _ d)⟩,a,c,H.but f fun hs=>h.uO.2.2 (hS _ h.uO.1 hs),hc,fun e=> ?_⟩;obtain⟨g,o,rfl,C,k,m,h3⟩:=hl e;exact⟨g,o,rfl,C.but f fun hs=>m (hS _ k hs),i _ k,fun d=>m (j _ d),h3⟩
theorem SW.still (h:SW E X0 R0 R ps pg rt M X sb l) (H:Below X.heap.size X X') (a:∀k,R k->R' k) (b:∀k,R' k->R k\/(X.heap.size<=k/\k<X'.heap.size)):SW E X0 R0 R' ps pg rt M X' sb l:=
 h.step (h.ts.still H a b) (aG.aJ H (fun _=>False)) (fun _ _ f=>f.elim) a (fun _ c=>c)
theorem SW.room (h:SW E X0 R0 R ps pg rt M X sb l) (hr:jE R E.ring E.g E.N E.lb E.xb E.rb E.H ps' dh rt X') (a:aG (fun k=>¬R k) X X'):SW E X0 R0 R ps' dh rt M X' sb l:=
 h.step (h.ts.vX hr a) a (fun _ hr hn=>absurd hr hn) (fun _ h=>h) (fun _ h=>h)
theorem SW.cell (h:SW E X0 R0 R ps pg rt M X sb l) (hp:M p=aD n) (n':NV) (j:Nat) (v:Value) (hi:n'.its=n.its) (hg:n'.rg=n.rg) (d:n'.ro=n.ro) (hc:n'.cap=n.cap) (f:n'.own=n.own) (hcs:n.cells.set j v=n'.cells):SW E X0 R0 R ps pg rt (upd M p n') (X.setCell ⟨p,j,av⟩ v) sb l:=by
 have a:aG (fun b=>b=p) X (X.setCell ⟨p,j,av⟩ v):=(aG.refl (fun b=>b=p) X).setCell _ _ fun _=>rfl;have H:∀b,MB (upd M p n') b->MB M b:=by
  rintro b ⟨r,y,hr,c⟩;rcases aN hr with⟨rfl,rfl⟩|⟨_,hr⟩;·exact⟨_,n,hp,by rw[hg] at c;exact c⟩
  ·exact⟨r,y,hr,c⟩
 exact h.step (h.ts.own a (fun b _ e=>by rw[e];exact h.ts.kM p ⟨p,n,hp,dc rfl⟩) (h.ts.mem.cell hp n' j v hi hg d hc f hcs) (fun b a=>h.ts.kM b (H b a)) (fun _ h=>h) (fun _ h=>dc h)) a (fun b _ e=>by rw[e];exact⟨p,n,hp,dc rfl⟩) (fun _ h=>h) H
theorem SW.item (h:SW E X0 R0 R ps pg rt M X sb l) (hp:M p=aD n) (j f:Nat) (d:j<n.its.length) (hf:f<3) (it:It) (v:Value) (g:ak.enc it=(ak.enc n.its[j]).set f v) (hs:it.key.length<=200/\it.val.length<=200):
  SW E X0 R0 R ps pg rt (upd M p {n with its:=n.its.set j it}) (X.setCell ⟨n.rg,n.ro+(j*3+f),av⟩ v) sb l:=by
 have a:aG (fun b=>b=n.rg) X (X.setCell ⟨n.rg,n.ro+(j*3+f),av⟩ v):=(aG.refl (fun b=>b=n.rg) X).setCell _ _ fun _=>rfl;have H:∀b,MB (upd M p {n with its:=n.its.set j it}) b->MB M b:=by
  rintro b ⟨r,y,hr,c⟩;rcases aN hr with⟨rfl,rfl⟩|⟨_,hr⟩;·exact⟨_,n,hp,c⟩
  ·exact⟨r,y,hr,c⟩
 exact h.step (h.ts.own a (fun b _ e=>by rw[e];exact h.ts.kM _ ⟨p,n,hp,dn rfl⟩) (h.ts.mem.item hp j f d hf it v g hs) (fun b a=>h.ts.kM b (H b a)) (fun _ h=>h) (fun _ h=>dc h)) a (fun b _ e=>by rw[e];exact⟨p,n,hp,dn rfl⟩) (fun _ h=>h) H
theorem SW.take (h:SW E X0 R0 R ps pg rt M X sb (x::l)) (hl:l.length<=1000000):
  Calls Tryz.prog 180 #[ptr sb] X fun e X'=>e=eb (gu #[bf cu x,bf cu 0])/\SW E X0 R0 R ps pg rt M X' sb l/\aG (fun b=>b=sb) X X':=by
 obtain⟨a,c,d,hc,i⟩:=h.sp;obtain⟨g,o,rfl,C,j,k,h3⟩:=i (by simp);refine (Fg d hc C h3 hl).mono ?_;rintro e X' ⟨rfl,O,c',W,y,A,H⟩;have f:=h.ts.mem.keep H fun b H e=>h.uO.2.2 (by rw[<-e];exact H);refine⟨rfl,⟨h.ts.own H (fun b _ e=>by rw[e];exact⟨h.uO.1,h.uO.2.1⟩) f (fun b H=>h.ts.kM b H) (fun _ h=>h) (fun _ h=>dc h),h.uO,aD ⟨g,O,av⟩,c',W,y,fun _=>⟨g,O,rfl,A,j,k,h3⟩⟩,H⟩
structure Rh (E:Ev) (X0:World) (R0:Nat->Prop) (rt:List Nat) (sb:Nat) (R:Nat->Prop) (ps:List (Nat×List UInt8)) (pg:List (Option Wl.Text)) (M:Nat->Option NV) (X:World) (sp:List Nat) (k p:Nat) (t:Tr.E (k+1)) (F:List Nat) (R':Nat->Prop) (ps':List (Nat×List UInt8)) (dh:List (Option Wl.Text)) (M':Nat->Option NV) (t':Tr.E (k+1)) (sp' al:List Nat) (X':World):Prop where
 sw:SW E X0 R0 R' ps' dh rt M' X' sb (gP sp')
 pre:ps<+:ps'
 few:ps'.length<=ps.length+4*Tr.cnt (k+1) t
 sm:Tr.Sm (k+1) t t'
 st:cS dh (k+1) t'
 at_:∃n',M' p=aD n'/\n'.page=zf (Tr.hd t').page
 keep:(Tr.hd t).page.isSome=true->(Tr.hd t').page=(Tr.hd t).page
 ck:(Tr.ck (k+1) t'++sp').Perm (Tr.ck (k+1) t++sp++al)
 pg:iR pg dh (Tr.ck (k+1) t') al
 fy:al.length<=Tr.fy (k+1) t
 same:∀r,r∉F->M' r=M r
 but:aG (fun b=>¬R b\/b=sb\/MB M b) X X'
 sub:∀b,R b->R' b
 new:∀b,R' b->R b\/X.heap.size<=b
 mb:∀b,MB M' b->MB M b
def CU (E:Ev) (X0:World) (R0:Nat->Prop) (rt:List Nat) (ps:List (Nat×List UInt8)) (pg:List (Option Wl.Text)) (a b:Nat) (X':World):Prop:=
 ∃R' M' ps' dh,TS E X0 R0 R' ps' dh rt M' X'/\ps<+:ps'/\ps'.length<=ps.length+4*a/\pg.length<Rm.used pg+b
def pG (E:Ev) (X0:World) (R0:Nat->Prop) (rt:List Nat) (sb:Nat) (R:Nat->Prop) (ps:List (Nat×List UInt8)) (pg:List (Option Wl.Text)) (M:Nat->Option NV) (X:World) (sp:List Nat) (k p:Nat) (t:Tr.E (k+1)) (F:List Nat) (c:Int) (X':World):Prop:=
 (c=0/\∃R' ps' dh M' t' sp' al,Rh E X0 R0 rt sb R ps pg M X sp k p t F R' ps' dh M' t' sp' al X')\/(c=4/\CU E X0 R0 rt ps pg (Tr.cnt (k+1) t) (Tr.fy (k+1) t) X')
def kv (i:It):List UInt8×List UInt8:=(i.key,i.val)
theorem GR:∀{a b:List It},a.map kv=b.map kv->a.flatMap ed=b.flatMap ed
 |[],[],_=>rfl
 |x::a,y::b,h=>by obtain⟨H,c⟩:=List.cons.inj h;rw[List.flatMap_cons,List.flatMap_cons,GR c];unfold ed;rw[show x.key=y.key from (Prod.mk.inj H).1,show x.val=y.val from (Prod.mk.inj H).2]
 |[],_::_,h=>by cases h
 |_::_,[],h=>by cases h
theorem Ju {level:Nat} {a b:List It} (h:a.map kv=b.map kv):cJ level a=cJ level b:=by grind [cJ,GR,List.length,aT]
theorem iR.more {Mh al:List Nat} {x:Nat} (h:iR pg dh Mh al) (H:(dh.getD x av).isSome=true):iR pg dh (x::Mh) al:=
 ⟨h.len,fun y hy=>h.same y fun a=>hy (aI _ a),fun y hy=>by
  rcases hy with hy|hy
  ·rcases aX.1 hy with rfl|hy;·exact H
   ·exact h.kT y (dc hy)
  ·exact h.kT y (dn hy),h.free,h.nd,h.used⟩
theorem Jv {pg:List (Option Wl.Text)} (h:Rm.firstFree pg=av):pg.length<=Rm.used pg:=by
 rcases Nat.lt_or_ge (Rm.used pg) pg.length with H|H;·obtain⟨p,hp⟩:=Bl.lg H;rw[h] at hp;cases hp
 ·exact H
structure Kids (E:Ev) (X0:World) (R0:Nat->Prop) (rt:List Nat) (sb:Nat) (R:Nat->Prop) (ps:List (Nat×List UInt8)) (pg:List (Option Wl.Text)) (M:Nat->Option NV) (X:World) (sp:List Nat) (k p:Nat) (t:Tr.E (k+1)) (F:List Nat) (n1:NV) (l':List (Tr.Tx×Tr.E k)) (R1:Nat->Prop) (ps1:List (Nat×List UInt8)) (gm:List (Option Wl.Text)) (M1:Nat->Option NV) (jW al:List Nat) (X1:World):Prop where
 sw:SW E X0 R0 R1 ps1 gm rt M1 X1 sb (gP jW)
 pre:ps<+:ps1
 few:ps1.length+4<=ps.length+4*Tr.cnt (k+1) t
 sm:Tr.mJ (Tr.Sm k) (Tr.its t) l'
 st:∀x∈l',cS gm k x.2
 at_:M1 p=aD n1
 kvs:n1.its.map kv=(aq k l').map kv
 ck:(Tr.dW k l'++jW).Perm (Tr.dW k (Tr.its t)++sp++al)
 pg:iR pg gm (Tr.dW k l') al
 fy:al.length<=Tr.kK k (Tr.its t)
 same:∀r,r∉F->M1 r=M r
 but:aG (fun b=>¬R b\/b=sb\/MB M b) X X1
 sub:∀b,R b->R1 b
 new:∀b,R1 b->R b\/X.heap.size<=b
 mb:∀b,MB M1 b->MB M b
end
end
end Go.Proofs.YtlpfhjbpknbndaaGreatDoor
