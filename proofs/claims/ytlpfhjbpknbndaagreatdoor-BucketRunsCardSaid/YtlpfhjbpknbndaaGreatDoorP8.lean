/- Elder texts, cut down and merged (8). -/
import Derived.Test.YtlpfhjbpknbndaaGreatDoorP7
import Derived.Test.YtlpfhjbpknbndaaGreatDoorP1
import Derived.Test.YtlpfhjbpknbndaaGreatDoorP4
import Derived.BigRegion
import Derived.Lib.MinMax
import Derived.Test.YtlpfhjbpknbndaaGreatDoorPTk
set_option maxRecDepth 100000
set_option maxHeartbeats 8000000
namespace Go.Proofs.YtlpfhjbpknbndaaGreatDoor
open Obj renaming cells→ey
open Option renaming none→av,some→aD
open Value renaming string→bR,pointer→e7,agg→iK,slice→cx,tuple→gu,int→bf,bool→eX
open Ending renaming returned→eb
open Or renaming inl→dc,inr→dn
open IntKind renaming i64→cu
open Nat renaming le_refl->ah,zero_le->aB,add_zero->d_,lt_succ_self->kf,zero_add->bE,lt_of_le_of_lt->fP,le_trans->aH,min_eq_left->ct
open List renaming drop_eq_getElem_cons->cw,length_cons->a_,take_of_length_le->cg,length_drop->aZ,length_take->aO,getElem_mem->bI,length_set->bP,getD_eq_getElem?_getD->bZ,getElem?_map->cD,getElem?_eq_getElem->aK,append_nil->bA,length_eq_zero_iff->eG,setIfInBounds_toArray->aA,set_cons_succ->az,set_cons_zero->ay,take_append_drop->cP,length_append->au,append_assoc->aF
open World renaming drew->bJ,size_alloc->aS
open _root_.Array renaming length_toList->bk,getElem?_eq_some_iff->iY
section
open Go.RowKit Lib
theorem LG {fn:Func} {p:Tmp} (h:fn.results=#[.cell p 122]) (tmps:Array Value) (w:World) (g:Nat) (x y z:Value) (fr:Nat×Nat)
  (hp:tmps.getD p undef=.pointer (aD ⟨g,0,av⟩)) (hg:w.heap[g]?=aD (ey #[x,y,z] 122 fr)):
  (results fn tmps).run Tryz.prog w=.ok (.agg #[x,y,z]) w:=
 results_cell_row h tmps w g _ _ fr _ hp hg Tryz.underlying122 rfl (by kernel_rfl)
theorem ke (w:World) (key:ByteArray) (q:Nat):
  Calls Tryz.prog 137 #[bR key,ptr q] w fun e w'=>e=eb (iK #[bR key,bR (bs (pv 0)),ptr q])/\Below w.heap.size w w':=by
 obtain⟨w1,h⟩:∃w1,w1=w.alloc (ey #[bR ⟨#[]⟩,bR ⟨#[]⟩,e7 av] 122):=⟨_,rfl⟩;obtain⟨g,hg⟩:∃g,g=w.heap.size:=⟨_,rfl⟩;have a:=aa (show aU w1 g 122 [bR ⟨#[]⟩,bR ⟨#[]⟩,e7 av]/\Below w.heap.size w w1/\g=w.heap.size from⟨by rw[h,hg];exact aU.new w _ _,by rw[h];exact (Below.refl _ w).alloc (ah _) _,hg⟩);have b:=aa (gd w1 0 (by decide));generalize bs (pv 0)=p at*;go_enter Tryz.func137,Tryz.ntmps137;unfold ptr;go_wp2_with fail;rw[<-h,<-hg];refine b.o.mono ?_;rintro e W ⟨rfl,A⟩;have H:=aa (show aU W g 122 [bR ⟨#[]⟩,bR ⟨#[]⟩,e7 av]/\Below w.heap.size w W from⟨a.o.1.below A a.o.1.lt,a.o.2.1.trans (A.mono a.o.2.1.size)⟩);have d:=H.o.1.cell (j:=0) rfl;have D:=H.o.1.cell (j:=1) rfl;have c:=H.o.1.cell (j:=2) rfl;have f:=H.o.1.frozen 0;have f1:=H.o.1.frozen 1;have f2:=H.o.1.frozen 2;clear h hg A;go_wp2;refine bodyPost_ret (LG rfl _ _ g _ _ _ (0,0) rfl (((H.o.1.set 0 _).set 1 _).set 2 _)) rfl ?_;have T:w.heap.size<=g:=Nat.le_of_eq a.o.2.2.symm;exact⟨rfl,((H.o.2.setCell T _).setCell T _).setCell T _⟩
def eZ (tot:Nat):Nat->List It->Nat
 |_,[]=>0
 |_,[_]=>0
 |s,i::j::r=>if 2*s<tot then eZ tot (s+jw i) (j::r)+1 else 0
theorem rE (w:World) (a:Option Addr) (n c:Nat) (h:n<=c) (hn:n<=1000000) (_:(c:Int)<=9223372036854775807):Calls Tryz.prog 178 #[cx a n c] w fun e w'=>e=eb (cx a n n)/\w'=w:=by
 have H:(n:Int)<=c:=by omega
 have b:(0:Int)<=n:=by omega
 go_enter Tryz.func178,Tryz.ntmps178;go_wp2;go_ret;exact⟨rfl,rfl⟩
theorem t_ (tot s:Nat) (i j:It) (r:List It):eZ tot s (i::j::r)=if 2*s<tot then eZ tot (s+jw i) (j::r)+1 else 0:=rfl
theorem Ce {tot s h:Nat} {l:List It} (hh:h+1<l.length) (hs:2*s<tot):h+eZ tot s (l.drop h)=h+1+eZ tot (s+jw l[h]) (l.drop (h+1)):=by rw[cw (show h<l.length by omega),cw hh,t_,if_pos hs];omega
theorem uc {tot s h:Nat} {l:List It} (hh:¬h+1<l.length\/¬2*s<tot):eZ tot s (l.drop h)=0:=by grind [Nat.lt_or_ge,cw,eZ,List.drop_eq_nil_of_le]
theorem pe (tot:Nat):∀(l:List It) (s:Nat),l≠[]->eZ tot s l<l.length
 |[],_,h=>absurd rfl h
 |[_],_,_=>by simp[eZ]
 |i::j::r,s,_=>by
  unfold eZ
  split
  ·have:=pe tot (j::r) (s+jw i) (by simp);simp only[a_] at this |-;omega
  ·grind
theorem bu.parts {g o:Nat} {its:List It} {X:World} (h:bu ak X g o its) (k:Nat) (H:k<=its.length):bu ak X g o (its.take k)/\bu ak X g (o+k*3) (its.drop k):=by
 constructor;·have:=bu.part h 0 k (aB _);rw[Nat.zero_mul,d_,List.drop_zero] at this;exact this
 ·have:=bu.part h k (its.length-k) H;rw[cg (by rw[aZ];exact ah _)] at this;exact this
theorem Mem.part {X X':World} {M:Nat->Option NV} {p q:Nat} {n low up:NV} (h:Mem X M) (hp:M p=aD n) (o:¬MB M q) (k:Nat) (g:k<=n.its.length)
  (hl:low.its=n.its.take k/\low.rg=n.rg/\low.ro=n.ro/\low.cap=k/\low.own=false)
  (hu:up.its=n.its.drop k/\up.rg=n.rg/\up.ro=n.ro+k*3/\up.cap=n.cap-k/\up.own=false)
  (b:aG (fun j=>j=p\/j=q) X X') (v:aU X' p 127 low.cells) (w:aU X' q 127 up.cells):
  Mem X' (upd (upd M p low) q up):=by
 obtain⟨l,l2,z,A,J⟩:=hl;obtain⟨u,U,B,C,K⟩:=hu;have hn:=h.nd p n hp;have D:p≠q:=fun e=>o ⟨p,n,hp,dc e.symm⟩;have Y:∀x m,M x=aD m->¬(m.rg=p\/m.rg=q):=by
  rintro x m H (e|e);·exact h.EK H hp e
  ·exact o ⟨x,m,H,dn e.symm⟩
 have c:=hn.row.but b (Y p n hp);obtain⟨rl,R⟩:=c.parts k g;have L:low.its.length=k:=by rw[l,aO];omega
 have r:up.its.length=n.its.length-k:=by rw[u,aZ]
 have sm:=hn.small;have old:∀x m,upd (upd M p low) q up x=aD m->(x=q/\m=up)\/(x=p/\m=low)\/(x≠q/\x≠p/\M x=aD m):=by grind [aN]
 have t:∃cur,X'.heap[n.rg]?=aD (ey cur 122 (0,0)):=by obtain⟨cur,hc⟩:=h.ty p n hp;exact⟨cur,by rw[b.block n.rg (h.lt hp).2 (Y p n hp)];exact hc⟩
 have N:∀x m,M x=aD m->x≠p->n.rg≠m.rg\/(m.own=false/\(n.ro+3*n.its.length<=m.ro\/m.ro+3*m.its.length<=n.ro)):=by
  intro x m H a;rcases h.apart p x n m hp H (fun e=>a e.symm) with e|⟨_,E,F⟩;·exact dc e
  ·exact dn ⟨E,F⟩
 refine⟨fun x m H=> ?_,fun x m H=> ?_,fun x y m s H hy a=> ?_,fun x m H hown=> ?_⟩
 ·rcases old x m H with⟨rfl,rfl⟩|⟨rfl,rfl⟩|⟨d,f,h3⟩;·exact⟨w,by rw[U,B,u];exact R,⟨by rw[r];have:=sm.len;omega,fun i hi=>sm.each i (by rw[u] at hi;exact List.mem_of_mem_drop hi),by rw[r,C];have:=sm.cap;omega⟩⟩
  ·exact⟨v,by rw[l2,z,l];exact rl,⟨by rw[L];have:=sm.len;omega,fun i hi=>sm.each i (by rw[l] at hi;exact List.mem_of_mem_take hi),by rw[L,A];have:=sm.cap;omega⟩⟩
  ·exact (h.nd x m h3).but b (fun e=>e.elim f d) (Y x m h3)
 ·rcases old x m H with⟨rfl,rfl⟩|⟨rfl,rfl⟩|⟨d,f,h3⟩;·rw[U];exact t
  ·rw[l2];exact t
  ·obtain⟨cur,hc⟩:=h.ty x m h3;exact⟨cur,by rw[b.block m.rg (h.lt h3).2 (Y x m h3)];exact hc⟩
 ·rcases old x m H with⟨rfl,rfl⟩|⟨rfl,rfl⟩|⟨d,f,h3⟩<;>rcases old y s hy with⟨rfl,rfl⟩|⟨rfl,rfl⟩|⟨P,Q,G⟩;·exact absurd rfl a
  ·grind
  ·grind
  ·grind
  ·exact absurd rfl a
  ·grind
  ·grind
  ·grind
  ·exact h.apart x y m s h3 G a
 ·rcases old x m H with⟨rfl,rfl⟩|⟨rfl,rfl⟩|⟨d,f,h3⟩;·grind
  ·grind
  ·obtain⟨O,I⟩:=h.own x m h3 hown;exact⟨O,Own.but I b fun k g=>by have e:aD m.rg=aD k:=g;injection e with e;rw[<-e];exact Y x m h3⟩
section
variable {E:Ev} {X0 X X':World} {R0 R R' S:Nat->Prop} {ps ps':List (Nat×List UInt8)} {pg dh:List (Option Wl.Text)} {rt rt':List Nat} {M M':Nat->Option NV} {p q:Nat} {n m:NV}
def uK:List It->List It
 |[]=>[]
 |i::l=>{i with key:=[]}::l
def between (n:NV) (h:Nat):List UInt8:=if n.level=0 then Tr.cI ((n.its.map It.key).getD (h-1) []) ((n.its.map It.key).getD h []) else (n.its.map It.key).getD h []
def gE (n:NV) (h:Nat):NV:={n with its:=n.its.take h,cap:=h,hi:=between n h,fresh:=true,own:=false}
def jG (n:NV) (h:Nat):NV:=⟨n.level,if n.level=0 then n.its.drop h else uK (n.its.drop h),n.rg,n.ro+h*3,n.cap-h,-1,between n h,n.hi,0,0,true,false⟩
def GF (X:World) (M:Nat->Option NV) (p:Nat) (n:NV) (h:Nat) (e:Ending) (X':World):Prop:=
 ∃q,e=eb (gu #[ptr q,bR (bs (between n h))])/\Mem X' (upd (upd M p (gE n h)) q (jG n h))/\X.heap.size<=q/\aG (fun k=>k=p\/k=n.rg) X X'
end
section
variable {X:World} {M:Nat->Option NV} {p:Nat} {n:NV}
structure jH (X:World) (M:Nat->Option NV) (p:Nat) (n:NV) (k L q:Nat) (w3:World) (M3:Nat->Option NV) (n3:NV):Prop where
 mem:Mem w3 M3
 XE:M3 p=aD n3
 other:∀x,x≠p->M3 x=M x
 same:n3.level=n.level/\n3.rg=n.rg/\n3.ro=n.ro/\n3.cap=n.cap/\n3.page=n.page/\n3.lo=n.lo/\n3.was=n.was/\n3.at_=n.at_
 hi:n3.hi=n.hi
 len:n3.its.length=L
 take:n3.its.take k=n.its.take k
 drop:n3.its.drop k=(jG n k).its
 blk:aU w3 q 127 [bf cu n.level,cx (aD ⟨n.rg,n.ro+k*3,av⟩) (L-k) (n.cap-k),bf cu (-1),bR ⟨#[]⟩,bR ⟨#[]⟩,bf cu 0,bf cu 0,eX true]
 but:aG (fun k=>k=p\/k=n.rg) X w3
 not:¬MB M3 q
theorem jH.nd {w3:World} {M3:Nat->Option NV} {n3:NV} {k L q:Nat} (h:jH X M p n k L q w3 M3 n3):Nd w3 p n3:=h.mem.nd p n3 h.XE
theorem jH.pq {w3:World} {M3:Nat->Option NV} {n3:NV} {k L q:Nat} (h:jH X M p n k L q w3 M3 n3):p≠q:=fun e=>h.not ⟨p,n3,h.XE,dc e.symm⟩
theorem jH.rq {w3:World} {M3:Nat->Option NV} {n3:NV} {k L q:Nat} (h:jH X M p n k L q w3 M3 n3):n3.rg≠q:=fun e=>h.not ⟨p,n3,h.XE,dn e.symm⟩
theorem jH.keys {w3:World} {M3:Nat->Option NV} {n3:NV} {k L q:Nat} (h:jH X M p n k L q w3 M3 n3) (_:M p=aD n) (b:ByteArray):
  Nd ((w3.setCell ⟨q,3,av⟩ (bR b)).setCell ⟨q,4,av⟩ (bR (bs n.hi))) p n3/\
  aU ((w3.setCell ⟨q,3,av⟩ (bR b)).setCell ⟨q,4,av⟩ (bR (bs n.hi))) q 127 [bf cu n.level,cx (aD ⟨n.rg,n.ro+k*3,av⟩) (L-k) (n.cap-k),bf cu (-1),bR b,bR (bs n.hi),bf cu 0,bf cu 0,eX true]:=by
 refine⟨?_,(h.blk.set 3 _).set 4 _⟩;have H:aG (fun j=>j=q) w3 ((w3.setCell ⟨q,3,av⟩ (bR b)).setCell ⟨q,4,av⟩ (bR (bs n.hi))):=((aG.refl (fun j=>j=q) w3).setCell _ _ fun _=>rfl).setCell _ _ fun _=>rfl;exact h.nd.but H h.pq h.rq
theorem vY {w w3:World} {k q:Nat} (c:Mem w M) (hp:M p=aD n) {L:Nat} (d:L=n.its.length) (h:n.level=0) (H:Below w.heap.size w w3)
  (a:aU w q 127 [bf cu n.level,cx (aD ⟨n.rg,n.ro+k*3,av⟩) (L-k) (n.cap-k),bf cu (-1),bR ⟨#[]⟩,bR ⟨#[]⟩,bf cu 0,bf cu 0,eX true])
  (b:Below X.heap.size X w) (hn:¬MB M q):jH X M p n k L q w3 M n:=
 ⟨c.still H,hp,fun _ _=>rfl,⟨rfl,rfl,rfl,rfl,rfl,rfl,rfl,rfl⟩,rfl,d.symm,rfl,by unfold jG;rw[if_pos h],a.below H a.lt,aG.aJ (b.trans (H.mono b.size)) _,hn⟩
theorem y9 {w:World} {k q:Nat} (c:Mem w M) (hp:M p=aD n) {L:Nat} (f:L=n.its.length) (a:¬n.level=0) (H:k<n.its.length)
  (g:aU w q 127 [bf cu n.level,cx (aD ⟨n.rg,n.ro+k*3,av⟩) (L-k) (n.cap-k),bf cu (-1),bR ⟨#[]⟩,bR ⟨#[]⟩,bf cu 0,bf cu 0,eX true])
  (i:Below X.heap.size X w) (hn:¬MB M q):
  jH X M p n k L q (w.setCell ⟨n.rg,n.ro+k*3,av⟩ (bR ⟨#[]⟩)) (upd M p {n with its:=n.its.set k {n.its[k] with key:=[]}}) {n with its:=n.its.set k {n.its[k] with key:=[]}}:=by
 have h:=c.item hp k 0 H (by decide) {n.its[k] with key:=[]} (bR ⟨#[]⟩) rfl ⟨aB _,((c.nd p n hp).small.each _ (bI H)).2⟩;rw[d_] at h;refine⟨h,bG _ _ _,fun x b=>aW b,⟨rfl,rfl,rfl,rfl,rfl,rfl,rfl,rfl⟩,rfl,by rw[f];exact bP,List.take_set_of_le (ah _), ?_,g.other _ _ fun e=>hn ⟨p,n,hp,dn e⟩,(aG.aJ i _).setCell _ _ fun _=>dn rfl, ?_⟩;·unfold jG;simp only[];rw[if_neg a,cw (show k<(n.its.set k _).length by rw[bP];exact H),List.getElem_set_self,List.drop_set_of_lt (kf k),cw H];rfl
 ·rintro⟨x,m,b,d⟩;rcases aN b with⟨rfl,rfl⟩|⟨_,j⟩;·exact hn ⟨x,n,hp,d⟩
  ·exact hn ⟨x,m,j,d⟩
theorem jH.done {w3:World} {M3:Nat->Option NV} {n3:NV} {k L q:Nat} (h:jH X M p n k L q w3 M3 n3) (hp:M p=aD n) (b:k<=n.its.length) (c:L=n.its.length) (d:X.heap.size<=q):
  GF X M p n k (eb (gu #[ptr q,bR (bs (between n k))]))
   (((((w3.setCell ⟨q,3,av⟩ (bR (bs (between n k)))).setCell ⟨q,4,av⟩ (bR (bs n.hi))).setCell ⟨p,1,av⟩ (cx (aD ⟨n.rg,n.ro,av⟩) k k)).setCell ⟨p,4,av⟩ (bR (bs (between n k)))).setCell ⟨p,7,av⟩ (eX true)):=by
 obtain⟨f,g⟩:=h.keys hp (bs (between n k))
 obtain⟨s1,s2,s,S,l,m,o,r⟩:=h.same
 have t:(n.its.take k).length=k:=by rw[aO];omega
 have H:aG (fun j=>j=p\/j=q) w3 (((((w3.setCell ⟨q,3,av⟩ (bR (bs (between n k)))).setCell ⟨q,4,av⟩ (bR (bs n.hi))).setCell ⟨p,1,av⟩ (cx (aD ⟨n.rg,n.ro,av⟩) k k)).setCell ⟨p,4,av⟩ (bR (bs (between n k)))).setCell ⟨p,7,av⟩ (eX true)):=
  (((((aG.refl (fun j=>j=p\/j=q) w3).setCell _ _ fun _=>Or.inr rfl).setCell _ _ fun _=>Or.inr rfl).setCell _ _ fun _=>Or.inl rfl).setCell _ _ fun _=>Or.inl rfl).setCell _ _ fun _=>Or.inl rfl
 have u:=h.mem.part h.XE h.not k (by rw[h.len,c];exact b) (low:=gE n k) (up:=jG n k)
  ⟨h.take.symm,s2.symm,s.symm,rfl,rfl⟩ ⟨h.drop.symm,s2.symm,by rw[s];rfl,by rw[S];rfl,rfl⟩ H
  (by
   have e:((n3.cells.set 1 (cx (aD ⟨n.rg,n.ro,av⟩) k k)).set 4 (bR (bs (between n k)))).set 7 (eX true)=(gE n k).cells:=(by unfold NV.cells;rw[s1,l,m,o,r];show _=[_,Value.slice _ (n.its.take k).length k,_,_,_,_,_,_];rw[t];rfl);rw[<-e];exact ((f.blk.set 1 _).set 4 _).set 7 _)
  (by
   have U:(jG n k).its.length=L-k:=(by rw[<-h.drop,aZ,h.len]);have e:(jG n k).cells=[bf cu n.level,cx (aD ⟨n.rg,n.ro+k*3,av⟩) (L-k) (n.cap-k),bf cu (-1),bR (bs (between n k)),bR (bs n.hi),bf cu 0,bf cu 0,eX true]:=(by unfold NV.cells;rw[U];rfl);rw[e];exact ((g.other _ _ h.pq.symm).other _ _ h.pq.symm).other _ _ h.pq.symm)
 refine⟨q,rfl, ?_,d, ?_⟩
 ·have e:upd (upd M3 p (gE n k)) q (jG n k)=upd (upd M p (gE n k)) q (jG n k):=by
   funext x;unfold upd;by_cases a:x=q;·rw[if_pos a,if_pos a]
   ·rw[if_neg a,if_neg a];by_cases E:x=p;·rw[if_pos E,if_pos E]
    ·rw[if_neg E,if_neg E];exact h.other x E
  rw[<-e];exact u
 ·exact h.but.trans (H.mono fun i _ hi=>hi) fun i hi e=>e.elim dc fun e=>absurd hi (by omega)
theorem qg (h:Mem X M) (hp:M p=aD n) (H:Nat) (hH:H=eZ (cz n.its) 0 n.its) (h0:0<H) (hk:n.level=0->Tr.lt ((n.its.map It.key).getD (H-1) []) ((n.its.map It.key).getD H [])=true):
  Calls Tryz.prog 136 #[ptr p] X fun e X'=>GF X M p n H e X':=by
 have b:=h.nd p n hp;have c1:=b.c1;have dV:=b.blk.lt;have hl:=b.small.len;have jD:(n.its.length:Int)<=400:=by omega
 have hne:n.its≠[]:=by rintro e;rw[e] at hH;rw[hH] at h0;exact absurd h0 (by decide)
 have hHl:H<n.its.length:=by rw[hH];exact pe _ _ _ hne
 have hts:=b.small.size;have g:=aa (And.intro h (And.intro hp (And.intro hH (And.intro h0 (And.intro hk hHl)))));have HS:=aa (fun (W:World) (hb:Below X.heap.size X W)=>gZ (b.still hb));obtain⟨T,hT⟩:∃T,T=cz n.its:=⟨_,rfl⟩;obtain⟨L,hL⟩:∃L,L=n.its.length:=⟨_,rfl⟩;rw[<-hT] at HS hts;rw[<-hL] at c1 jD;have c:=aa (And.intro hT hL);clear h hp hH h0 hk hl hne hT hL hHl;go_enter Tryz.func136,Tryz.ntmps136;unfold ptr;go_wp2
 go_loopw [4,5] (fun hv sv wr=>∃k s:Nat,hv=bf cu k/\sv=bf cu s/\Hid (k<L/\s=cz (n.its.take k)/\s<=160800/\k+eZ T s (n.its.drop k)=H)/\Hid (Below X.heap.size X wr)) (fun hv _ _=>L-(RowKit.intOf hv).toNat)
 case atStart=>exact⟨0,0,rfl,rfl,aa ⟨by have:=g.o;have:=c.o;omega,rfl,aB _,by rw[g.o.2.2.1,c.o.1,List.drop_zero,bE]⟩,aa (Below.refl _ _)⟩
 case round=>
  obtain⟨k,s,rfl,rfl,N,P⟩:=hrel;have d1:=(P.o.cell (p:=⟨p,1,av⟩) dV).trans c1;have hw:Nd wr p n:=b.still P.o;have uD:(k:Int)<L:=by have:=N.out.1;omega
  have yF:(s:Int)<=160800:=by have:=N.out.2.2.1;omega
  by_cases D:k+1<L
  ·have R_:(k:Int)<(L:Int)-1:=(by omega);have Ve:decide ((k:Int)<(L:Int)-1)=true:=decide_eq_true R_;have hsT:(T:Int)<=160800:=(by omega);unfold ptr at HS;go_wp2_with fail;refine (HS.o wr P.o).mono ?_;rintro e w1 ⟨rfl,bK⟩;have F:=aa (P.o.trans (bK.mono P.o.size));have d2:=(F.o.cell (p:=⟨p,1,av⟩) dV).trans c1;clear bK;by_cases Q:2*s<T
   ·have Sc:2*(s:Int)<T:=(by omega);have hsd:decide (2*(s:Int)<T)=true:=decide_eq_true Sc;have l:k<n.its.length:=(by have:=c.o;omega);obtain⟨a0,a1,a2⟩:=bh (ez b.row F.o) k l;have he:=b.small.each _ (bI l);have G:=aa (fun W=>yJ W n.its[k] ⟨by omega,by omega⟩);have HK:=aa (show k+1<L/\s+jw n.its[k]=cz (n.its.take (k+1))/\k+1+eZ T (s+jw n.its[k]) (n.its.drop (k+1))=H from⟨D,by rw[yK _ _ l,N.out.2.1],by rw[<-N.out.2.2.2];exact (Ce (by have:=c.o;omega) Q).symm⟩);have hle:=b.small.part (k+1);rw[<-HK.o.2.1] at hle;generalize n.its[k]=it at*;clear D Q l he;go_wp2_with fail;refine (G.o _).mono ?_;rintro e w ⟨rfl,aV⟩;have fI:=aa (F.o.trans (aV.mono F.o.size));clear aV;generalize jw it=z at*;have hz:(s:Int)+z<=160800:=(by omega);go_wp2;go_roundw
    case rel=>exact⟨k+1,s+z,by go_num,by go_num,aa ⟨HK.o.1,HK.o.2.1,hle,HK.o.2.2⟩,fI⟩
    case measure=>have:=HK.o.1;simp[RowKit.intOf];omega
   ·have Sc:¬2*(s:Int)<T:=(by omega);have hsd:decide (2*(s:Int)<T)=false:=decide_eq_false Sc
    have Vf:=aa (show k=H by
     have:=N.out.2.2.2;rw[uc (dn Q)] at this;omega)
    clear D Q;have R:=Vf.o;subst R;have S:=aa (g.o.1.still F.o);have m:Nd w1 p n:=b.still F.o;have U:=m.c0;have E:=m.c1;rw[<-c.o.2] at E;have l:k<n.its.length:=g.o.2.2.2.2.2;have pM:=g.o.2.2.2.1;have Vg:L<=n.cap:=(by have:=b.small.cap.1;have:=c.o;omega);have x:(n.cap:Int)<=9223372036854775807:=(by have:=b.small.cap.2;unfold maxLen at this;omega);have hck:¬n.cap=k:=(by have:=c.o;omega);have Y0:(0:Int)<(L:Int)-k:=(by have:=c.o;omega);have Y3:(k:Int)<=L:=(by omega);have r:k-1<n.its.length:=fP (Nat.sub_le _ _) l;have V:=m.blk.lt;have BW:(n.level:Int)≥0:=(by omega);clear P hw uD N Vf;obtain⟨w,I⟩:∃w,w=(w1.alloc (ey #[bf cu n.level,cx (aD ⟨n.rg,n.ro+k*3,av⟩) (L-k) (n.cap-k),bf cu (-1),bR ⟨#[]⟩,bR ⟨#[]⟩,bf cu 0,bf cu 0,eX true] 127)).drew:=⟨_,rfl⟩;obtain⟨q,y⟩:∃q,q=w1.heap.size:=⟨_,rfl⟩
    have d:=aa (show Below X.heap.size X w/\aU w q 127 [bf cu n.level,cx (aD ⟨n.rg,n.ro+k*3,av⟩) (L-k) (n.cap-k),bf cu (-1),bR ⟨#[]⟩,bR ⟨#[]⟩,bf cu 0,bf cu 0,eX true]/\X.heap.size<=q/\Mem w M/\w1.heap.size<=w.heap.size/\w1.heap.size<=q from by
     have Z:Below w1.heap.size w1 w:=(by rw[I];exact ((Below.refl _ w1).alloc (ah _) _).drew);exact⟨F.o.trans (Z.mono F.o.size),by rw[I,y];exact aU.drew (aU.new w1 _ _),by rw[y];exact F.o.size,S.o.still Z,Z.size,Nat.le_of_eq y.symm⟩)
    go_wp2_with fail
    go_region
    rw[<-I,<-y];have O:Nd w p n:=b.still d.o.1;clear I y U E m V;have x1:=d.o.2.1.cell (j:=1) rfl;have U:=O.c0;have i0:=(bh O.row k l).1;have i1:=(bh O.row (k-1) r).1;have hrl:=uF O.row l;have V:=O.blk.lt;have Y:(n.its.map It.key).getD k []=n.its[k].key:=(by rw[bZ,cD,aK l];rfl);have K:(n.its.map It.key).getD (k-1) []=n.its[k-1].key:=(by rw[bZ,cD,aK r];rfl);by_cases i:n.level=0;·have vZ:¬(n.level:Int)>0:=(by omega);have Vh:decide ((n.level:Int)>0)=false:=decide_eq_false vZ;have E:=O.c1;rw[<-c.o.2] at E;have t:=g.o.2.2.2.2.1 i;rw[Y,K] at t;have B:between n k=Tr.cI n.its[k-1].key n.its[k].key:=(by unfold between;rw[if_pos i,Y,K]);have hs1:=b.small.each _ (bI l);have Q:=b.small.each _ (bI r);have G:=aa (fun W=>qZ W _ _ t (by omega) (by omega));rw[<-B] at G;have Y4:(0:Int)<=(k:Int)-1:=(by omega);clear Y K t B hs1 Q;go_wp2_with fail;refine (G.o w).mono ?_;rintro e w3 ⟨rfl,B⟩;have a:=aa (vY d.o.2.2.2.1 g.o.2.1 c.o.2 i B d.o.2.1 d.o.1 (fun h=>absurd (S.o.mu h) (Nat.not_lt.2 d.o.2.2.2.2.2)));clear x1 U i0 i1 hrl V O E G B;obtain⟨v,u⟩:∃v,v=(w3.setCell ⟨q,3,av⟩ (bR (bs (between n k)))).setCell ⟨q,4,av⟩ (bR (bs n.hi)):=⟨_,rfl⟩;have J:=a.o.nd;have e4:w3.cell? ⟨p,4,av⟩=aD (bR (bs n.hi)):=a.o.hi▸J.c4;have E:w3.cell? ⟨p,1,av⟩=aD (cx (aD ⟨n.rg,n.ro,av⟩) L n.cap):=(by have:=J.c1;rw[a.o.len,a.o.same.2.1,a.o.same.2.2.1,a.o.same.2.2.2.1] at this;exact this);have q3:=a.o.blk.frozen 3;have q4:=a.o.blk.frozen 4;have x3:=a.o.blk.cell (j:=3) rfl;have x4:=a.o.blk.cell (j:=4) rfl;have f:=aa (a.o.keys g.o.2.1 (bs (between n k)));rw[<-u] at f;have g1:=f.o.1.c1;have g4:=f.o.1.c4;have g7:=f.o.1.c7;rw[a.o.len,a.o.same.2.1,a.o.same.2.2.1,a.o.same.2.2.2.1] at g1;have k1:=f.o.1.blk.frozen 1;have k4:=f.o.1.blk.frozen 4;have k7:=f.o.1.blk.frozen 7;have A:=aa (rE v (aD ⟨n.rg,n.ro,av⟩) k n.cap (by have:=c.o;omega) (by have:=c.o;omega) x);have C:=aa (a.o.done g.o.2.1 (Nat.le_of_lt l) c.o.2 d.o.2.2.1);rw[<-u] at C;have Sd:(k:Int)<=n.cap:=(by omega);generalize bs (between n k)=bw at*;clear J;go_wp2_with fail;rw[<-u];refine A.o.mono ?_;rintro e w5 ⟨rfl,rfl⟩;clear u e4 E q3 q4 x3 x4 A;go_wp2_with fail;refine bodyPost_ret (results_tmp2 rfl _ _ _) rfl ?_;exact C.o
    ·have vZ:(n.level:Int)>0:=(by omega);have Vh:decide ((n.level:Int)>0)=true:=decide_eq_true vZ;have i0f:w.frozen? ⟨n.rg,n.ro+k*3,av⟩=false:=(by obtain⟨cur,hc⟩:=d.o.2.2.2.1.ty p n g.o.2.1;simp[World.frozen?,hc]);have f3:=d.o.2.1.frozen 3;have f4:=d.o.2.1.frozen 4;have B:between n k=n.its[k].key:=(by unfold between;rw[if_neg i,Y]);rw[<-B] at i0;obtain⟨w3,LH⟩:∃w3,w3=w.setCell ⟨n.rg,n.ro+k*3,av⟩ (bR ⟨#[]⟩):=⟨_,rfl⟩;have a:=aa (y9 d.o.2.2.2.1 g.o.2.1 c.o.2 i l d.o.2.1 d.o.1 (fun h=>absurd (S.o.mu h) (Nat.not_lt.2 d.o.2.2.2.2.2)));rw[<-LH] at a;clear Y K B i1 O;obtain⟨v,u⟩:∃v,v=(w3.setCell ⟨q,3,av⟩ (bR (bs (between n k)))).setCell ⟨q,4,av⟩ (bR (bs n.hi)):=⟨_,rfl⟩;have J:=a.o.nd;have e4:w3.cell? ⟨p,4,av⟩=aD (bR (bs n.hi)):=a.o.hi▸J.c4;have E:w3.cell? ⟨p,1,av⟩=aD (cx (aD ⟨n.rg,n.ro,av⟩) L n.cap):=(by have:=J.c1;rw[a.o.len,a.o.same.2.1,a.o.same.2.2.1,a.o.same.2.2.2.1] at this;exact this);have q3:=a.o.blk.frozen 3;have q4:=a.o.blk.frozen 4;have x3:=a.o.blk.cell (j:=3) rfl;have x4:=a.o.blk.cell (j:=4) rfl;have f:=aa (a.o.keys g.o.2.1 (bs (between n k)));rw[<-u] at f;have g1:=f.o.1.c1;have g4:=f.o.1.c4;have g7:=f.o.1.c7;rw[a.o.len,a.o.same.2.1,a.o.same.2.2.1,a.o.same.2.2.2.1] at g1;have k1:=f.o.1.blk.frozen 1;have k4:=f.o.1.blk.frozen 4;have k7:=f.o.1.blk.frozen 7;have A:=aa (rE v (aD ⟨n.rg,n.ro,av⟩) k n.cap (by have:=c.o;omega) (by have:=c.o;omega) x);have C:=aa (a.o.done g.o.2.1 (Nat.le_of_lt l) c.o.2 d.o.2.2.1);rw[<-u] at C;have Sd:(k:Int)<=n.cap:=(by omega);generalize bs (between n k)=bw at*;clear J;subst LH;go_wp2_with fail;rw[<-u];refine A.o.mono ?_;rintro e w5 ⟨rfl,rfl⟩;clear u e4 E q3 q4 x3 x4 A;go_wp2_with fail;refine bodyPost_ret (results_tmp2 rfl _ _ _) rfl ?_;exact C.o
  ·have R_:¬(k:Int)<(L:Int)-1:=(by omega);have Ve:decide ((k:Int)<(L:Int)-1)=false:=decide_eq_false R_
   have Vf:=aa (show k=H by
    have:=N.out.2.2.2;rw[uc (dc (by have:=c.o;omega))] at this;omega)
   clear D;have F:=aa P.o
   rename World=>w1
   have R:=Vf.o;subst R;have S:=aa (g.o.1.still F.o);have m:Nd w1 p n:=b.still F.o;have U:=m.c0;have E:=m.c1;rw[<-c.o.2] at E;have l:k<n.its.length:=g.o.2.2.2.2.2;have pM:=g.o.2.2.2.1;have Vg:L<=n.cap:=(by have:=b.small.cap.1;have:=c.o;omega);have x:(n.cap:Int)<=9223372036854775807:=(by have:=b.small.cap.2;unfold maxLen at this;omega);have hck:¬n.cap=k:=(by have:=c.o;omega);have Y0:(0:Int)<(L:Int)-k:=(by have:=c.o;omega);have Y3:(k:Int)<=L:=(by omega);have r:k-1<n.its.length:=fP (Nat.sub_le _ _) l;have V:=m.blk.lt;have BW:(n.level:Int)≥0:=(by omega);clear P hw uD N Vf;obtain⟨w,I⟩:∃w,w=(w1.alloc (ey #[bf cu n.level,cx (aD ⟨n.rg,n.ro+k*3,av⟩) (L-k) (n.cap-k),bf cu (-1),bR ⟨#[]⟩,bR ⟨#[]⟩,bf cu 0,bf cu 0,eX true] 127)).drew:=⟨_,rfl⟩;obtain⟨q,y⟩:∃q,q=w1.heap.size:=⟨_,rfl⟩
   have d:=aa (show Below X.heap.size X w/\aU w q 127 [bf cu n.level,cx (aD ⟨n.rg,n.ro+k*3,av⟩) (L-k) (n.cap-k),bf cu (-1),bR ⟨#[]⟩,bR ⟨#[]⟩,bf cu 0,bf cu 0,eX true]/\X.heap.size<=q/\Mem w M/\w1.heap.size<=w.heap.size/\w1.heap.size<=q from by
    have Z:Below w1.heap.size w1 w:=(by rw[I];exact ((Below.refl _ w1).alloc (ah _) _).drew);exact⟨F.o.trans (Z.mono F.o.size),by rw[I,y];exact aU.drew (aU.new w1 _ _),by rw[y];exact F.o.size,S.o.still Z,Z.size,Nat.le_of_eq y.symm⟩)
   go_wp2_with fail
   go_region
   rw[<-I,<-y];have O:Nd w p n:=b.still d.o.1;clear I y U E m V;have x1:=d.o.2.1.cell (j:=1) rfl;have U:=O.c0;have i0:=(bh O.row k l).1;have i1:=(bh O.row (k-1) r).1;have hrl:=uF O.row l;have V:=O.blk.lt;have Y:(n.its.map It.key).getD k []=n.its[k].key:=(by rw[bZ,cD,aK l];rfl);have K:(n.its.map It.key).getD (k-1) []=n.its[k-1].key:=(by rw[bZ,cD,aK r];rfl);by_cases i:n.level=0;·have vZ:¬(n.level:Int)>0:=(by omega);have Vh:decide ((n.level:Int)>0)=false:=decide_eq_false vZ;have E:=O.c1;rw[<-c.o.2] at E;have t:=g.o.2.2.2.2.1 i;rw[Y,K] at t;have B:between n k=Tr.cI n.its[k-1].key n.its[k].key:=(by unfold between;rw[if_pos i,Y,K]);have hs1:=b.small.each _ (bI l);have Q:=b.small.each _ (bI r);have G:=aa (fun W=>qZ W _ _ t (by omega) (by omega));rw[<-B] at G;have Y4:(0:Int)<=(k:Int)-1:=(by omega);clear Y K t B hs1 Q;go_wp2_with fail;refine (G.o w).mono ?_;rintro e w3 ⟨rfl,B⟩;have a:=aa (vY d.o.2.2.2.1 g.o.2.1 c.o.2 i B d.o.2.1 d.o.1 (fun h=>absurd (S.o.mu h) (Nat.not_lt.2 d.o.2.2.2.2.2)));clear x1 U i0 i1 hrl V O E G B;obtain⟨v,u⟩:∃v,v=(w3.setCell ⟨q,3,av⟩ (bR (bs (between n k)))).setCell ⟨q,4,av⟩ (bR (bs n.hi)):=⟨_,rfl⟩;have J:=a.o.nd;have e4:w3.cell? ⟨p,4,av⟩=aD (bR (bs n.hi)):=a.o.hi▸J.c4;have E:w3.cell? ⟨p,1,av⟩=aD (cx (aD ⟨n.rg,n.ro,av⟩) L n.cap):=(by have:=J.c1;rw[a.o.len,a.o.same.2.1,a.o.same.2.2.1,a.o.same.2.2.2.1] at this;exact this);have q3:=a.o.blk.frozen 3;have q4:=a.o.blk.frozen 4;have x3:=a.o.blk.cell (j:=3) rfl;have x4:=a.o.blk.cell (j:=4) rfl;have f:=aa (a.o.keys g.o.2.1 (bs (between n k)));rw[<-u] at f;have g1:=f.o.1.c1;have g4:=f.o.1.c4;have g7:=f.o.1.c7;rw[a.o.len,a.o.same.2.1,a.o.same.2.2.1,a.o.same.2.2.2.1] at g1;have k1:=f.o.1.blk.frozen 1;have k4:=f.o.1.blk.frozen 4;have k7:=f.o.1.blk.frozen 7;have A:=aa (rE v (aD ⟨n.rg,n.ro,av⟩) k n.cap (by have:=c.o;omega) (by have:=c.o;omega) x);have C:=aa (a.o.done g.o.2.1 (Nat.le_of_lt l) c.o.2 d.o.2.2.1);rw[<-u] at C;have Sd:(k:Int)<=n.cap:=(by omega);generalize bs (between n k)=bw at*;clear J;go_wp2_with fail;rw[<-u];refine A.o.mono ?_;rintro e w5 ⟨rfl,rfl⟩;clear u e4 E q3 q4 x3 x4 A;go_wp2_with fail;refine bodyPost_ret (results_tmp2 rfl _ _ _) rfl ?_;exact C.o
   ·have vZ:(n.level:Int)>0:=(by omega);have Vh:decide ((n.level:Int)>0)=true:=decide_eq_true vZ;have i0f:w.frozen? ⟨n.rg,n.ro+k*3,av⟩=false:=(by obtain⟨cur,hc⟩:=d.o.2.2.2.1.ty p n g.o.2.1;simp[World.frozen?,hc]);have f3:=d.o.2.1.frozen 3;have f4:=d.o.2.1.frozen 4;have B:between n k=n.its[k].key:=(by unfold between;rw[if_neg i,Y]);rw[<-B] at i0;obtain⟨w3,LH⟩:∃w3,w3=w.setCell ⟨n.rg,n.ro+k*3,av⟩ (bR ⟨#[]⟩):=⟨_,rfl⟩;have a:=aa (y9 d.o.2.2.2.1 g.o.2.1 c.o.2 i l d.o.2.1 d.o.1 (fun h=>absurd (S.o.mu h) (Nat.not_lt.2 d.o.2.2.2.2.2)));rw[<-LH] at a;clear Y K B i1 O;obtain⟨v,u⟩:∃v,v=(w3.setCell ⟨q,3,av⟩ (bR (bs (between n k)))).setCell ⟨q,4,av⟩ (bR (bs n.hi)):=⟨_,rfl⟩;have J:=a.o.nd;have e4:w3.cell? ⟨p,4,av⟩=aD (bR (bs n.hi)):=a.o.hi▸J.c4;have E:w3.cell? ⟨p,1,av⟩=aD (cx (aD ⟨n.rg,n.ro,av⟩) L n.cap):=(by have:=J.c1;rw[a.o.len,a.o.same.2.1,a.o.same.2.2.1,a.o.same.2.2.2.1] at this;exact this);have q3:=a.o.blk.frozen 3;have q4:=a.o.blk.frozen 4;have x3:=a.o.blk.cell (j:=3) rfl;have x4:=a.o.blk.cell (j:=4) rfl;have f:=aa (a.o.keys g.o.2.1 (bs (between n k)));rw[<-u] at f;have g1:=f.o.1.c1;have g4:=f.o.1.c4;have g7:=f.o.1.c7;rw[a.o.len,a.o.same.2.1,a.o.same.2.2.1,a.o.same.2.2.2.1] at g1;have k1:=f.o.1.blk.frozen 1;have k4:=f.o.1.blk.frozen 4;have k7:=f.o.1.blk.frozen 7;have A:=aa (rE v (aD ⟨n.rg,n.ro,av⟩) k n.cap (by have:=c.o;omega) (by have:=c.o;omega) x);have C:=aa (a.o.done g.o.2.1 (Nat.le_of_lt l) c.o.2 d.o.2.2.1);rw[<-u] at C;have Sd:(k:Int)<=n.cap:=(by omega);generalize bs (between n k)=bw at*;clear J;subst LH;go_wp2_with fail;rw[<-u];refine A.o.mono ?_;rintro e w5 ⟨rfl,rfl⟩;clear u e4 E q3 q4 x3 x4 A;go_wp2_with fail;refine bodyPost_ret (results_tmp2 rfl _ _ _) rfl ?_;exact C.o
end
theorem j_.back {w w1 w':World} {sb tb:Nat} {sv:Value} {l:List Int} {e:Ending} (H:Below w.heap.size w w1) (h:j_ w1 sb tb sv l e w'):j_ w sb tb sv l e w':=by obtain⟨a,eT,b,c,h3,h4⟩:=h;exact⟨a,eT,b,c,(aG.aJ H _).trans h3 (fun _ _ h=>h),h4.imp_right fun h k d=>aH H.size (h k d)⟩
section
variable {w X:World} {M:Nat->Option NV} {p sb tb:Nat} {n:NV} {sv:Value} {l:List Int} {it:It}
def Se (w:World) (sb tb:Nat) (sv:Value) (l:List Int) (e:Ending) (w':World):Prop:=e=eb (cx av 0 0)/\j_ w sb tb sv l (eb (gu #[])) w'
theorem EM (hs:aU w sb 169 [ptr tb,sv]) (a:oq 0 w sv l) (h:Nd w p n) (hl:l.length<=1000000) (hn:n.its=[]):
  Calls Tryz.prog 131 #[ptr sb,ptr p,iK #[bR (bs it.key),bR (bs it.val),e7 (pa it.node)]] w fun e w'=>Se w sb tb sv (l++[n.page]) e w':=by
 obtain⟨w1,H⟩:∃w1,w1=w.alloc (ey #[bR (bs it.key),bR (bs it.val),e7 (pa it.node)] 122):=⟨_,rfl⟩;have b:Below w.heap.size w w1:=by rw[H];exact (Below.refl _ w).alloc (ah _) _
 have c:=h.still b;have c1:=h.c1;rw[hn] at c1;have C:w.cell? ⟨p,1,av⟩=aD (cx (aD ⟨n.rg,n.ro,av⟩) 0 n.cap):=c1;have D:=h.blk.lt;clear c1;have d:=aa (fun e w' (h:j_ w1 sb tb sv (l++[n.page]) e w')=>h.back b);have f:=aa (jh w1 sb tb p sv l n (hs.below b hs.lt) (Own.below a b (ah _)) c hl);clear c b h hs a;go_enter Tryz.func131,Tryz.ntmps131;unfold ptr;go_wp2_with fail;rw[<-H];refine f.o.mono ?_;intro e W g;have i:=aa (d.o _ _ g);obtain⟨rfl,-⟩:=g;clear H f d;go_wp2_with fail;go_ret;exact⟨rfl,i.o⟩
theorem sO (w:World) (l:List It) (c:List Value) (hc:c=ak.cells l) (hl:l.length<=400) {L:Nat} (h:L=l.length):aY w.heap.size (w.alloc (ey c.toArray 122)) (cx (aD ⟨w.heap.size,0,av⟩) L L) l:=by subst hc;exact fG (R:=[]) (by rw[bA];exact aU.new w _ _) (by rw[bA,ak.b_,h];rfl) h (ah _) (by unfold maxLen;omega) (ah _)
def Vi (w:World) (l:List It) (e:Ending) (w':World):Prop:=∃v,e=eb v/\aY w.heap.size w' v l/\Below w.heap.size w w'
theorem IL (h:Nd w p n) (hn:n.its≠[]) (i:cz n.its<=510):
  Calls Tryz.prog 131 #[ptr sb,ptr p,iK #[bR (bs it.key),bR (bs it.val),e7 (pa it.node)]] w fun e w'=>Vi w [it] e w':=by
 obtain⟨w1,H⟩:∃w1,w1=w.alloc (ey #[bR (bs it.key),bR (bs it.val),e7 (pa it.node)] 122):=⟨_,rfl⟩;have B:Below w.heap.size w w1:=by rw[H];exact (Below.refl _ w).alloc (ah _) _
 have c:=h.still B;have c1:=h.c1;have D:=h.blk.lt;obtain⟨L,d⟩:∃L,L=n.its.length:=⟨_,rfl⟩;rw[<-d] at c1;have l:((L:Int)==0)=false:=by rw[beq_eq_false_iff_ne];intro e;exact hn (eG.1 (by omega))
 have f:=aa (je c);obtain⟨g,hg⟩:∃g,g=w.heap.size:=⟨_,rfl⟩;have b:=aa (show aU w1 g 122 [bR (bs it.key),bR (bs it.val),e7 (pa it.node)]/\Below w.heap.size w w1 from⟨by rw[H,hg];exact aU.new w _ _,B⟩);clear c B h d;go_enter Tryz.func131,Tryz.ntmps131;unfold ptr;go_wp2_with fail;rw[<-H,<-hg];refine f.o.mono ?_;rintro e W ⟨rfl,A⟩;rw[decide_eq_true i];have a:=aa (show aU W g 122 [bR (bs it.key),bR (bs it.val),e7 (pa it.node)]/\Below w.heap.size w W from⟨b.o.1.below A b.o.1.lt,b.o.2.trans (A.mono b.o.2.size)⟩);have k0:=a.o.1.cell (j:=0) rfl;have K:=a.o.1.cell (j:=1) rfl;have m:=a.o.1.cell (j:=2) rfl;have k:=aa (sO W [it] [bR (bs it.key),bR (bs it.val),e7 (pa it.node)] rfl (show 1<=400 by decide) (L:=1) rfl);clear f A H hg;go_wp2_with fail;go_ret;exact⟨_,rfl,Own.mono k.o a.o.2.size,a.o.2.alloc a.o.2.size _⟩
def Vj (X:World) (M:Nat->Option NV) (p:Nat) (n:NV) (h:Nat) (it:It) (e:Ending) (X':World):Prop:=
 ∃v q,e=eb v/\aY X.heap.size X' v [it,⟨between n h,pv 0,aD q⟩]/\Mem X' (upd (upd M p (gE n h)) q (jG n h))/\X.heap.size<=q/\aG (fun k=>k=p\/k=n.rg) X X'
theorem IM (h:Mem X M) (hp:M p=aD n) (H:Nat) (v:H=eZ (cz n.its) 0 n.its) (x:0<H) (y:n.level=0->Tr.lt ((n.its.map It.key).getD (H-1) []) ((n.its.map It.key).getD H [])=true) (r:¬cz n.its<=510):
  Calls Tryz.prog 131 #[ptr sb,ptr p,iK #[bR (bs it.key),bR (bs it.val),e7 (pa it.node)]] X fun e X'=>Vj X M p n H it e X':=by
 have hn:n.its≠[]:=by rintro e;rw[e] at r;exact r (by decide)
 have f:=h.nd p n hp;obtain⟨w1,i⟩:∃w1,w1=X.alloc (ey #[bR (bs it.key),bR (bs it.val),e7 (pa it.node)] 122):=⟨_,rfl⟩;have B:Below X.heap.size X w1:=by rw[i];exact (Below.refl _ X).alloc (ah _) _
 have z:=f.still B;have c1:=f.c1;have J:=f.blk.lt;obtain⟨L,C⟩:∃L,L=n.its.length:=⟨_,rfl⟩;rw[<-C] at c1;have O:((L:Int)==0)=false:=by rw[beq_eq_false_iff_ne];intro e;exact hn (eG.1 (by omega))
 have D:=aa (je z);obtain⟨g,hg⟩:∃g,g=X.heap.size:=⟨_,rfl⟩;have m:=aa (show aU w1 g 122 [bR (bs it.key),bR (bs it.val),e7 (pa it.node)]/\Below X.heap.size X w1 from⟨by rw[i,hg];exact aU.new X _ _,B⟩);have l:=aa (And.intro h (And.intro hp (And.intro v (And.intro x (And.intro y r)))));have P:=aa hg;clear z B h C hp v x y r hn f;go_enter Tryz.func131,Tryz.ntmps131;unfold ptr;go_wp2_with fail;rw[<-i,<-hg];refine D.o.mono ?_;rintro e E ⟨rfl,t⟩;rw[decide_eq_false l.o.2.2.2.2.2];have s:=aa (show aU E g 122 [bR (bs it.key),bR (bs it.val),e7 (pa it.node)]/\Below X.heap.size X E from⟨m.o.1.below t m.o.1.lt,m.o.2.trans (t.mono m.o.2.size)⟩);have F:=aa (qg (l.o.1.still s.o.2) l.o.2.1 H l.o.2.2.1 l.o.2.2.2.1 l.o.2.2.2.2.1);clear D t i hg m c1 O J;go_wp2_with fail;refine F.o.mono ?_;rintro e w3 ⟨q,rfl,G,Q,u⟩;have N:¬(g=p\/g=n.rg):=by have:=l.o.1.lt l.o.2.1;have:=P.o;rintro (e|e)<;>omega
 have b:=aa (show aU w3 g 122 [bR (bs it.key),bR (bs it.val),e7 (pa it.node)]/\Mem w3 (upd (upd M p (gE n H)) q (jG n H))/\X.heap.size<=q/\aG (fun k=>k=p\/k=n.rg) X w3 from⟨s.o.1.but u N,G,aH s.o.2.size Q,(aG.aJ s.o.2 _).trans u fun _ _ h=>h⟩);have k0:=b.o.1.cell (j:=0) rfl;have U:=b.o.1.cell (j:=1) rfl;have V:=b.o.1.cell (j:=2) rfl;clear F u G Q N;have I:=aa (fun W=>ke W (bs (between n H)) q);go_wp2_with fail;go_wp2_with (refine wp_region_any (by kernel_rfl) ?_;refine Hid.o ?_);refine aa ?_;try (change wpAny _ _ _ _ _ _ _ (bJ _))
 refine tk 1 ?_;refine tk 2 ?_;try simp only[Act.put,aA,az,ay]
 refine rd [0,3] (AllReady.cons rfl (fun K a=> ?_) (rn fun K a=> ?_))
 focus
  go_simp
  refine a _ _ ?_;clear a K
  refine rd [3] (rn fun K a=> ?_)
  go_simp
  refine (I.o _).mono ?_
  rintro e w ⟨rfl,c⟩
  have A:Below w3.heap.size w3 w:=((Below.refl _ w3).drew).trans c
  have d:=aa (And.intro (b.o.1.below A b.o.1.lt) (And.intro (b.o.2.1.still A) (aG.trans b.o.2.2.2 (aG.aJ A (fun _=>False)) fun _ _ h=>h.elim)))
  have Y:=d.o.1.cell (j:=0) rfl
  have R:=d.o.1.cell (j:=1) rfl
  have S:=d.o.1.cell (j:=2) rfl
  refine a _ _ ?_;clear a K c A
 rotate_left
 focus
  go_simp
  refine (I.o _).mono ?_
  rintro e w ⟨rfl,c⟩
  have A:Below w3.heap.size w3 w:=((Below.refl _ w3).drew).trans c
  have d:=aa (And.intro (b.o.1.below A b.o.1.lt) (And.intro (b.o.2.1.still A) (aG.trans b.o.2.2.2 (aG.aJ A (fun _=>False)) fun _ _ h=>h.elim)))
  have Y:=d.o.1.cell (j:=0) rfl
  have R:=d.o.1.cell (j:=1) rfl
  have S:=d.o.1.cell (j:=2) rfl
  refine a _ _ ?_;clear a K c A
  refine rd [0] (rn fun K a=> ?_)
  go_simp
  refine a _ _ ?_;clear a K
 all_goals
  try simp only[Act.put,aA,az,ay]
  have T:=aa (sO w [it,⟨between n H,pv 0,aD q⟩] [bR (bs it.key),bR (bs it.val),e7 (pa it.node),bR (bs (between n H)),bR (bs (pv 0)),ptr q] rfl (show 2<=400 by decide) (L:=2) rfl)
  refine rd [4] (rn fun K a=> ?_)
  go_simp
  refine a _ _ ?_;clear a K
  refine tk 5 ?_
  refine wpAny_done (by kernel_rfl) ?_ _
  go_wp2
  go_ret
  exact⟨_,q,rfl,Own.mono T.o d.o.2.2.size,d.o.2.1.still ((Below.refl _ w).alloc (ah _) _),b.o.2.2.1,d.o.2.2.alloc _⟩
end
def gF (B:Nat) (w:World) (v:Value) (l:List It) (e:Ending) (w':World):Prop:=
 ∃v',e=eb v'/\aY B w' v' l/\aG (fun k=>v.ownBlock=aD k) w w'/\(v'.ownBlock=v.ownBlock\/∀k,v'.ownBlock=aD k->w.heap.size<=k)/\(v.ownBlock.isSome=true->v'.ownBlock.isSome=true)
section
variable {w:World} {B:Nat} {v:Value} {l:List It} {it:It} {vr vo:Nat}
theorem EN (h:aY B w v l) (i:B<=w.heap.size) (hl:l.length<=400) (m:bu ak w vr vo [it]):
  Calls Tryz.prog 70 #[v,bf cu l.length,cx (aD ⟨vr,vo,av⟩) 1 1] w fun e w'=>gF B w v (l++[it]) e w':=by
 obtain⟨a,cap,rfl,hc⟩:=Own.slice h;have H:=aa (And.intro h (And.intro i m));have b:=aa hl;obtain⟨L,c⟩:∃L,L=l.length:=⟨_,rfl⟩;rw[<-c] at H hl hc |-;have n:=aa c;have J:(L:Int)<=400:=by omega
 have O:((L:Int)==L)=true:=by simp
 have p:(0:Int)<=L:=by omega
 clear h i m c;by_cases d:cap=L;·subst d;go_enter Tryz.func70,Tryz.ntmps70;go_wp2_with (at_builtin;refine Hid.o ?_);refine aa ?_;refine cT (K:=ak) vD rfl _ _ rfl rfl H.o.1 H.o.2.1 vr vo 1 1 [it] rfl rfl H.o.2.2 (show l.length+1<=1000000000 by have:=b.o;omega) ?_;intro v2 W f F j;have g:=aa (show gF B w _ (l++[it]) (eb v2) W from⟨v2,rfl,f,(aG.refl _ w).grown F (fun k e _=>e),j,fun _=>by obtain⟨_,_,rfl,_⟩:=Own.form f (by simp);rfl⟩);clear f F j;go_wp2;go_ret;exact g.o
 ·skip
  go_enter Tryz.func70,Tryz.ntmps70;go_wp2_with (at_builtin;refine Hid.o ?_);refine aa ?_;refine cT (K:=ak) vD rfl _ _ rfl rfl H.o.1 H.o.2.1 vr vo 1 1 [it] rfl rfl H.o.2.2 (show l.length+1<=1000000000 by have:=b.o;omega) ?_;intro v2 W f F j;have g:=aa (show gF B w _ (l++[it]) (eb v2) W from⟨v2,rfl,f,(aG.refl _ w).grown F (fun k e _=>e),j,fun _=>by obtain⟨_,_,rfl,_⟩:=Own.form f (by simp);rfl⟩);clear f F j;go_wp2;go_ret;exact g.o
theorem oC (w:World) (a o la f b ob lb cb:Nat) (H:a≠b) (ha:∃cur,w.heap[a]?=aD (ey cur 122 (0,0))) (g:∃cur,w.heap[b]?=aD (ey cur 122 (0,0))/\cur.size≠0):
  (callFunc 109 #[.slice (aD ⟨a,o,av⟩) la f,.slice (aD ⟨b,ob,av⟩) lb cb]).run Tryz.prog w=.ok (.value (.bool false)) w:=by
 obtain⟨c,h⟩:=ha;obtain⟨C,d,i⟩:=g;rw[run_callFunc_extern Tryz.func109 (by kernel_rfl) (by kernel_rfl) (by kernel_rfl) (e:=Extern.SlicesOverlaps.overlaps #[123,123] #[4]) (by kernel_rfl)];rw[Lib.run_overlaps_apart w 123 4 122 Tryz.underlying123 3 (fun w=>by kernel_rfl) ⟨a,o,av⟩ ⟨b,ob,av⟩ la f lb cb H 122 122 c.size C.size (by simp[World.shape?,h]) (by simp[World.shape?,d]) i (by simp[World.frozen?,h]) (by simp[World.frozen?,h])];rfl
theorem bW (l:List It):(ak.cells l).length=l.length*3:=ak.b_ l
theorem fA (l:List It) (i:Nat):ak.cells l=ak.cells (l.take i)++ak.cells (l.drop i):=by rw[<-ak.b9,cP]
theorem Cf {g cap i:Nat} (h:aY B w (cx (aD ⟨g,0,av⟩) l.length cap) l) (hl:l.length<=400) (C:bu ak w vr vo [it]) (hi:i<l.length) (hc:l.length+1<=cap) (X:vr≠g) (G:∃cur,w.heap[vr]?=aD (ey cur 122 (0,0))):
  Calls Tryz.prog 70 #[cx (aD ⟨g,0,av⟩) l.length cap,bf cu i,cx (aD ⟨vr,vo,av⟩) 1 1] w fun e w'=>gF B w (cx (aD ⟨g,0,av⟩) l.length cap) (l.take i++it::l.drop i) e w':=by
 obtain⟨R,hg,D,-,-,c,d⟩:=jU h;have r:(ak.cells l++R).length=l.length*3+R.length:=by rw[au,bW]
 have t:(ak.cells (l.take i)).length=i*3:=by rw[bW,aO,ct (by omega)]
 have E:(ak.cells (l.drop i)).length=(l.length-i)*3:=by rw[bW,aZ]
 have u:=aa (show w.heap[g]?=aD (ey (ak.cells (l.take i)++(ak.cells (l.drop i)++R)).toArray 122 (0,0)) from by rw[<-aF,<-fA];exact hg);have O:w.frozen? ⟨vr,vo,av⟩=false:=by obtain⟨cur,N⟩:=G;simp[World.frozen?,N]
 have p:=aa (And.intro C (And.intro G X));have H:=aa (show i<l.length/\l.length+1<=cap/\cap<=maxLen/\B<=g/\(ak.cells l++R).length=cap*3 from⟨hi,hc,c,d,D⟩);obtain⟨L,q⟩:∃L,L=l.length:=⟨_,rfl⟩;rw[<-q] at hl hc |-;have f:=aa q;have jD:(L:Int)<=400:=by omega
 have Kg:(i:Int)<L:=by rw[q];omega
 have Vk:(i:Int)<=L:=by omega
 have P:((i:Int)==L)=false:=by rw[beq_eq_false_iff_ne];omega
 have xM:(L:Int)+1<=cap:=by omega
 have O6:¬(cap:Int)<L+1:=by omega
 have O7:¬cap=i:=by omega
 have Y5:¬cap=i+1:=by omega
 clear h C hi hc hg D c d r G q;go_enter Tryz.func70,Tryz.ntmps70;go_wp2;rw[oC w vr vo 1 1 g ((i+1)*3) (L-i) (cap-(i+1)) p.o.2.2 p.o.2.1 ⟨_,u.o,by rw[List.size_toArray,<-aF,<-fA,H.o.2.2.2.2];have:=H.o;omega⟩];rw[Oper.upon_value];obtain⟨a,ha⟩:∃a,l.drop i=a::l.drop (i+1):=⟨_,cw H.o.1⟩;have N:ak.cells (l.take i)++(ak.cells (l.drop i)++R)=(ak.cells (l.take i)++ak.enc a)++(ak.cells (l.drop (i+1))++R):=by rw[ha,Elem.cR];simp only[aF]
 have Y:(ak.enc a).length=3:=ak.len a;have j:(ak.cells (l.take i)++ak.enc a).length=(i+1)*3:=by rw[au,t,Y];omega
 have m:(ak.cells (l.drop (i+1))).length=(l.length-(i+1))*3:=by rw[bW,aZ]
 have I:(ak.cells (l.take i)++(ak.cells (l.drop i)++R)).length=cap*3:=by rw[<-aF,<-fA];exact H.o.2.2.2.2
 have b:=aa (And.intro N (And.intro Y (And.intro j (And.intro m I))));have Q:=aa (And.intro t E);clear N Y j m I t E ha;have iw:IntKind.i64.wrap ((i:Int)+1)=(i:Int)+1:=by
  have:=cX (i+1) (by omega)
  rwa [show ((i+1:Nat):Int)=(i:Int)+1 by omega] at this
 have Vl:((i:Int)+1).toNat=i+1:=by omega
 have U:(i:Int)+1<=L+1:=by omega
 have V:(i:Int)<=L+1:=by omega
 have XG:(0:Int)<=(i:Int)+1:=by omega
 go_wp2_with (refine wp_region_any (by kernel_rfl) ?_;refine Hid.o ?_);refine aa ?_;try (change wpAny _ _ _ _ _ _ _ (bJ _))
 refine tk 0 ?_;refine tk 1 ?_;refine tk 2 ?_;refine tk 3 ?_;refine tk 4 ?_;refine tk 5 ?_;refine tk 6 ?_;refine tk 7 ?_;try simp only[Act.put,aA,az,ay]
 refine rd [8] (rn fun K J=> ?_);refine fL _ _ rfl _ _ _ _ _ _ rfl rfl g ((i+1)*3) _ u.o (l.drop i) (by rw[aZ,<-f.o];exact (Nat.min_eq_right (by omega)).symm) (fun _=>⟨rfl,g,i*3,rfl,by have:=lP u.o;rw[Q.o.1] at this;exact this⟩) (by rw[b.o.2.2.2.2,aZ];have:=H.o;omega) ?_;intro w1 s n;refine J _ _ ?_;clear J K;refine wpAny_done (by kernel_rfl) ?_ _;have n:=(aG.refl (fun k=>k=g) w).drew.trans n (fun _ _ h=>h);rw[b.o.1,<-b.o.2.2.1,fM rfl] at s;have v:=aa (show bu ak w1 vr vo [it] from p.o.1.but (S:=fun k=>k=g) n p.o.2.2);obtain⟨R1,T⟩:∃R1,R1=(ak.cells (l.drop (i+1))++R).drop (ak.cells (l.drop i)).length:=⟨_,rfl⟩;rw[<-T] at s;have x:=aa (show w1.heap[g]?=aD (ey (ak.cells (l.take i)++(ak.enc a++(ak.cells (l.drop i)++R1))).toArray 122 (0,0)) from by rw[<-aF];exact s);have W:=aa (show aG (fun k=>k=g) w w1 from n)
 have y:=aa (show i*3+3+(L-i)*3+R1.length=cap*3 by
  rw[T,aZ,au,Q.o.2,b.o.2.2.2.1];have Z:=b.o.2.2.2.2;rw[au,au,Q.o.1,Q.o.2] at Z;have:=H.o;have:=f.o;omega)
 clear s n T;go_wp2_with (refine eR rfl _ _ rfl _ _ _ _ _ _ rfl rfl g (i*3) _ x.o [it] (ct (show 1<=L+1-i by omega)).symm (fun _=>⟨rfl,vr,vo,rfl,v.o⟩) (by rw[au,Q.o.1,au,b.o.2.1];show i*3+1*3<=_;omega) ?_;intro w2 F M;refine Hid.o ?_);refine aa ?_;rw[<-Q.o.1,fM rfl] at F;have z:(ak.cells [it]).length=(ak.enc a).length:=by rw[bW,b.o.2.1];rfl
 rw[z,List.drop_left] at F
 have HE:=aa (show gF B w (cx (aD ⟨g,0,av⟩) L cap) (l.take i++it::l.drop i) (eb (cx (aD ⟨g,0,av⟩) (L+1) cap)) w2 from by
  have hcs:ak.cells (l.take i++it::l.drop i)++R1=ak.cells (l.take i)++(ak.cells [it]++(ak.cells (l.drop i)++R1)):=by rw[Elem.b9,Elem.cR,Elem.cR,Elem.yB,bA];simp only[aF]
  refine⟨_,rfl,fG (R:=R1) (by rw[hcs];exact F) ?_ ?_ (by have:=H.o;have:=f.o;omega) H.o.2.2.1 H.o.2.2.2.1, ?_,dc rfl,fun _=>rfl⟩;·rw[hcs,au,au,au,Q.o.1,Q.o.2,z,b.o.2.1];have:=y.o;have:=f.o;omega
  ·rw[au,a_,aO,aZ];have:=H.o;have:=f.o;omega
  ·have e:(fun k=>(Value.slice (aD ⟨g,0,av⟩) L cap).ownBlock=aD k)=fun k=>k=g:=(by funext k;exact propext ⟨fun h=>by have A:aD g=aD k:=h;injection A with A;exact A.symm,fun h=>by rw[h];rfl⟩);rw[e];exact W.o.trans M (fun _ _ h=>h))
 clear F M z;go_wp2;go_ret;exact HE.o
theorem iF (z:Array Value) (n:Nat):(Builtin.zeroCells z n).size=n*z.size:=by simp[Builtin.zeroCells]
theorem rF (w:World) (g i cap k:Nat) (X:List Value) (f:X.length=i*3) (l:∀j u,X[j]?=aD u->w.cell? ⟨g,j,av⟩=aD u) (m:0<k) (hg:cap<i+k) (h:i+k<=1000000) (ty:TypeId):
  ∃(c:Nat) (Z:List Value),(Builtin.append_ #[123,3] ty #[.slice (aD ⟨g,0,av⟩) i cap,.int cu k]).run Tryz.prog w=.ok (.slice (aD ⟨w.heap.size,0,av⟩) (i+k) c) (w.drew.alloc (ey (X++Z).toArray 122))/\i+k<=c/\c<=maxLen/\(X++Z).length=c*3:=by
 obtain⟨I,hi,n,b,a⟩:=kY (P:=Tryz.prog) (E:=122) (size:=3) (bytes:=40) (z:=.agg #[.string .empty,.string .empty,.pointer av]) (by kernel_rfl);have hold:(Builtin.firstCells I.size i (.slice (aD ⟨g,0,av⟩) i cap)).run Tryz.prog w.drew=.ok X.toArray w.drew:=by
  rw[b];refine run_firstCells_some (P:=Tryz.prog) w.drew 3 i ⟨g,0,av⟩ i cap X (by omega) fun j u hu=> ?_;have e:(⟨g,0,av⟩:Addr).add j=⟨g,j,av⟩:=by unfold Addr.add;split<;>simp_all
  rw[e];exact l j u hu
 have H:=Lib.run_append_grow_zeros (P:=Tryz.prog) w 123 3 ty 122 I _ cu cu Tryz.underlying123 (by kernel_rfl) hi n (aD ⟨g,0,av⟩) i cap X hold k m (by omega) hg (by omega) (by rw[a];omega) (growslice_fits hg (by rw[a];omega));have d:=grownCap_ge w (i+k) cap 122;have h3:(Value.agg #[.string .empty,.string .empty,.pointer av]).cells.size=3:=rfl;have hA:=iF (Value.agg #[.string .empty,.string .empty,.pointer av]).cells k;have o:=iF (Value.agg #[.string .empty,.string .empty,.pointer av]).cells (grownCap w (i+k) cap 122-(i+k));generalize Builtin.zeroCells (Value.agg #[.string .empty,.string .empty,.pointer av]).cells k=A at*;generalize Builtin.zeroCells (Value.agg #[.string .empty,.string .empty,.pointer av]).cells (grownCap w (i+k) cap 122-(i+k))=B at*;have e:X.toArray++A++B=(X++(A++B).toList).toArray:=by apply Array.ext';simp only[Array.toList_append,aF]
 rw[e] at H;refine⟨_,(A++B).toList,H,d,grownCap_le_maxLen _ _ _ _ (by unfold maxLen;omega), ?_⟩;rw[au,f,bk,Array.size_append,hA,o,h3];omega
theorem Cg {g i:Nat} (h:aY B w (cx (aD ⟨g,0,av⟩) l.length l.length) l) (E:B<=w.heap.size) (hl:l.length<=400) (I:bu ak w vr vo [it]) (hi:i<l.length) (X:vr<w.heap.size):
  Calls Tryz.prog 70 #[cx (aD ⟨g,0,av⟩) l.length l.length,bf cu i,cx (aD ⟨vr,vo,av⟩) 1 1] w fun e w'=>gF B w (cx (aD ⟨g,0,av⟩) l.length l.length) (l.take i++it::l.drop i) e w':=by
 obtain⟨R,hg,Bp,-,-,s,t⟩:=jU h;have M:g<w.heap.size:=(iY.1 hg).1;have x:(ak.cells (l.take i)).length=i*3:=by rw[bW,aO,ct (by omega)]
 have J:(ak.cells (l.drop i)).length=(l.length-i)*3:=by rw[bW,aZ]
 have H:=Own.lies h;have N:∀j u,(ak.cells (l.take i))[j]?=aD u->w.cell? ⟨g,j,av⟩=aD u:=by
  intro j u hu;have:=H j u (by rw[fA l i,List.getElem?_append_left (List.getElem?_eq_some_iff.1 hu).1];exact hu)
  rwa [bE] at this
 have O:bu ak w g (i*3) (l.drop i):=by have:=H.part i (l.length-i) (by omega);rw[bE,cg (by rw[aZ];exact ah _)] at this;exact this
 obtain⟨L,p⟩:∃L,L=l.length:=⟨_,rfl⟩;obtain⟨c,Z,a,f,q,P⟩:=rF w g i l.length (l.length+1-i) _ x N (by omega) (by omega) (by omega) 123;rw[show i+(l.length+1-i)=L+1 by omega,<-p] at a;rw[show i+(l.length+1-i)=L+1 by omega] at f;have U:((L+1-i:Nat):Int)=(L:Int)+1-i:=by omega
 rw[U] at a;have HR:=aa a;have b:=aa (show g<w.heap.size/\B<=w.heap.size/\bu ak w vr vo [it]/\vr<w.heap.size/\bu ak w g (i*3) (l.drop i)/\i<L/\L=l.length from⟨M,E,I,X,O,by omega,p⟩);have d:=aa (show L+1<=c/\c<=maxLen/\(ak.cells (l.take i)++Z).length=c*3/\(ak.cells (l.take i)).length=i*3/\(ak.cells (l.drop i)).length=(L-i)*3 from⟨f,q,P,x,by rw[p];exact J⟩);rw[<-p] at hl |-;have jD:(L:Int)<=400:=by omega
 have Kg:(i:Int)<L:=by rw[p];omega
 have Vk:(i:Int)<=L:=by omega
 have hne:((i:Int)==L)=false:=by rw[beq_eq_false_iff_ne];omega
 have O6:(L:Int)<L+1:=by omega
 have hLi:¬L=i:=by omega
 clear h E I hi X hg Bp s t M x J H N O p a f q P U;go_enter Tryz.func70,Tryz.ntmps70;go_wp2_with (at_builtin;refine Hid.o ?_);refine aa ?_;refine Lib.wpList_append_run _ rfl _ _ _ _ rfl _ _ rfl rfl _ _ HR.o ?_;obtain⟨w1,m⟩:∃w1,w1=w.drew.alloc (ey (ak.cells (l.take i)++Z).toArray 122):=⟨_,rfl⟩;obtain⟨G,F⟩:∃G,G=w.heap.size:=⟨_,rfl⟩;have r:Below w.heap.size w w1:=by rw[m];exact (Below.refl _ w).drew.alloc (ah _) _
 have f:w1.heap[G]?=aD (ey (ak.cells (l.take i)++Z).toArray 122 (0,0)):=by rw[m,F];exact heap_alloc_new w.drew _
 have v:=aa (show Below w.heap.size w w1/\w1.heap[G]?=aD (ey (ak.cells (l.take i)++Z).toArray 122 (0,0))/\bu ak w1 vr vo [it]/\bu ak w1 g (i*3) (l.drop i)/\G=w.heap.size from⟨r,f,b.o.2.2.1.below r b.o.2.2.2.1,b.o.2.2.2.2.1.below r b.o.1,F⟩);rw[<-m,<-F];clear m F r f;have O7:¬c=i:=by have:=d.o.1;have:=b.o;omega
 have Y5:¬c=i+1:=by have:=d.o.1;have:=b.o;omega
 have il2:(i:Int)<=L+1:=by omega
 have il1:(i:Int)+1<=L+1:=by omega
 have XG:(0:Int)<=(i:Int)+1:=by omega
 have iw:IntKind.i64.wrap ((i:Int)+1)=(i:Int)+1:=by
  have:=cX (i+1) (by omega)
  rwa [show ((i+1:Nat):Int)=(i:Int)+1 by omega] at this
 have Vl:((i:Int)+1).toNat=i+1:=by omega
 go_wp2_with (refine eR rfl _ _ rfl _ _ _ _ _ _ rfl rfl G (i*3) _ v.o.2.1 [it] (ct (show 1<=L+1-i by omega)).symm (fun _=>⟨rfl,vr,vo,rfl,v.o.2.2.1⟩) (by rw[d.o.2.2.1];show i*3+1*3<=_;have:=d.o.1;have:=b.o;omega) ?_;intro W F A;refine Hid.o ?_);refine aa ?_;rw[<-d.o.2.2.2.1,fM rfl] at F;have V:(ak.cells [it]).length=3:=by rw[bW];rfl
 obtain⟨z,S⟩:∃z,z=Z.drop (ak.cells [it]).length:=⟨_,rfl⟩;rw[<-S,<-aF] at F;have T:z.length+3+i*3=c*3:=by rw[S,aZ,V];have:=d.o.2.2.1;rw[au,d.o.2.2.2.1] at this;have:=d.o.1;have:=b.o;omega
 have y:=aa (show (ak.cells (l.take i)++ak.cells [it]).length=(i+1)*3 by rw[au,d.o.2.2.2.1,V];omega);have C:g≠G:=by have:=b.o.1;have:=v.o.2.2.2.2;omega
 have Q:=aa (show W.heap[G]?=aD (ey ((ak.cells (l.take i)++ak.cells [it])++z).toArray 122 (0,0))/\Below w.heap.size w W/\bu ak W g (i*3) (l.drop i)/\z.length+3+i*3=c*3 from⟨F,v.o.1.trans ⟨A.os,A.tape,A.output,A.size,fun k D=>A.block k (by have:=v.o.1.size;omega) (by have:=v.o.2.2.2.2;omega)⟩,v.o.2.2.2.1.but A C,T⟩);clear F A V S T;go_wp2_with (refine wp_region_any (by kernel_rfl) ?_;refine Hid.o ?_);refine aa ?_;try (change wpAny _ _ _ _ _ _ _ (bJ _))
 refine tk 0 ?_;refine tk 1 ?_;refine tk 2 ?_;refine tk 3 ?_;refine tk 4 ?_;refine tk 5 ?_;refine tk 6 ?_;refine tk 7 ?_;try simp only[Act.put,aA,az,ay]
 refine rd [8] (rn fun K hK=> ?_);refine fL _ _ rfl _ _ _ _ _ _ rfl rfl G ((i+1)*3) _ Q.o.1 (l.drop i) (by rw[aZ,<-b.o.2.2.2.2.2.2];exact (Nat.min_eq_right (by omega)).symm) (fun _=>⟨rfl,g,i*3,rfl,Q.o.2.2.1⟩) (by rw[au,y.o,aZ];have:=Q.o.2.2.2;have:=d.o.1;have:=b.o;omega) ?_;intro w3 Y n;refine hK _ _ ?_;clear hK K;refine wpAny_done (by kernel_rfl) ?_ _;have n:=(aG.refl (fun k=>k=G) W).drew.trans n (fun _ _ h=>h);rw[<-y.o,fM rfl] at Y
 have HE:=aa (show gF B w (cx (aD ⟨g,0,av⟩) L L) (l.take i++it::l.drop i) (eb (cx (aD ⟨G,0,av⟩) (L+1) c)) w3 from by
  have hcs:ak.cells (l.take i++it::l.drop i)++z.drop (ak.cells (l.drop i)).length=(ak.cells (l.take i)++ak.cells [it])++(ak.cells (l.drop i)++z.drop (ak.cells (l.drop i)).length):=by rw[Elem.b9,Elem.cR,Elem.cR,Elem.yB,bA];simp only[aF]
  have Ae:Below w.heap.size w w3:=Q.o.2.1.trans ⟨n.os,n.tape,n.output,n.size,fun k D=>n.block k (by have:=Q.o.2.1.size;omega) (by have:=v.o.2.2.2.2;omega)⟩;refine⟨_,rfl,fG (R:=z.drop (ak.cells (l.drop i)).length) (by rw[hcs];exact Y) ?_ ?_ d.o.1 d.o.2.1 (by have:=v.o.2.2.2.2;have:=b.o;omega),aG.aJ Ae _,dn fun k D=> ?_,fun _=>rfl⟩;·rw[hcs,au,y.o,au,aZ,d.o.2.2.2.2];have:=Q.o.2.2.2;have:=d.o.1;have:=b.o;omega
  ·rw[au,a_,aO,aZ];have:=b.o;omega
  ·have e:aD G=aD k:=D;injection e with e;have:=v.o.2.2.2.2;omega)
 clear Y n;go_wp2;go_ret;exact HE.o
end
section
variable {w:World} {B sb:Nat} {lv:Value} {ms:List It} {it:It}
def za (B:Nat) (w:World) (v:Value) (l:List It) (e:Ending) (w':World):Prop:=
 ∃v',e=eb (gu #[v',bf cu 0])/\aY B w' v' l/\aG (fun k=>v.ownBlock=aD k) w w'/\(v'.ownBlock=v.ownBlock\/∀k,v'.ownBlock=aD k->w.heap.size<=k)
theorem Ar (d:aY B w lv []) (g:B<=w.heap.size):
  Calls Tryz.prog 132 #[ptr sb,lv,iK #[bR (bs it.key),bR (bs it.val),e7 (pa it.node)]] w fun e w'=>za B w lv [it] e w':=by
 obtain⟨a,c,rfl,-⟩:=Own.slice d;obtain⟨w1,H⟩:∃w1,w1=w.alloc (ey #[bR (bs it.key),bR (bs it.val),e7 (pa it.node)] 122):=⟨_,rfl⟩;obtain⟨W,j⟩:∃W,W=w1.alloc (ey #[bR (bs it.key),bR (bs it.val),e7 (pa it.node)] 122):=⟨_,rfl⟩;have A:Below w.heap.size w W:=by rw[j,H];exact ((Below.refl _ w).alloc (ah _) _).alloc (by rw[aS];omega) _
 have i:bu ak W w1.heap.size 0 [it]:=by rw[j];exact bu.fN (aU.new w1 _ _) rfl
 have F:aY B W (cx a 0 c) []:=Own.below d A (ah _);have b:=aa (And.intro A (And.intro i (And.intro F g)));have f:=aa (And.intro H j);clear d g A i F H j;go_enter Tryz.func132,Tryz.ntmps132;unfold ptr;go_wp2_with (at_builtin;refine Hid.o ?_);refine aa ?_;rw[<-f.o.1,<-f.o.2];refine cT (K:=ak) vD rfl _ _ rfl rfl b.o.2.2.1 (aH b.o.2.2.2 b.o.1.size) (w.heap.size+1) 0 1 1 [it] rfl rfl (by have:=b.o.2.1;rw[f.o.1,aS] at this;exact this) (show ([]:List It).length+1<=1000000000 by decide) ?_;intro v3 w3 L y J
 have l:=aa (show za B w (cx a 0 c) [it] (eb (gu #[v3,bf cu 0])) w3 from
  ⟨v3,rfl,L,(aG.aJ b.o.1 _).grown y (fun k e _=>e),J.imp_right fun h k m=>aH b.o.1.size (h k m)⟩)
 clear L y J;go_wp2_with fail
 go_ret2
 exact l.o
theorem As {p q:Nat} {n m:NV} {l:List It} {last:It} (t:aY B w lv (l++[last])) (M:B<=w.heap.size) (hl:l.length<=400) (hp:last.node=aD p) (f:it.node=aD q) (hn:Nd w p n) (N:Nd w q m) (u:it.key.length<=1000000)
  (hf:¬cz n.its+cz m.its+(if n.level=0 then 0 else it.key.length)<=510):
  Calls Tryz.prog 132 #[ptr sb,lv,iK #[bR (bs it.key),bR (bs it.val),e7 (pa it.node)]] w fun e w'=>za B w lv (l++[last]++[it]) e w':=by
 obtain⟨g,c,rfl,z,mw,A⟩:=Own.form t (by rw[au];exact Nat.succ_pos _);obtain⟨w1,a⟩:∃w1,w1=w.alloc (ey #[bR (bs it.key),bR (bs it.val),e7 (pa it.node)] 122):=⟨_,rfl⟩;obtain⟨G,S⟩:∃G,G=w.heap.size:=⟨_,rfl⟩;have v:Below w.heap.size w w1:=by rw[a];exact (Below.refl _ w).alloc (ah _) _
 have b:aU w1 G 122 [bR (bs it.key),bR (bs it.val),e7 (pa it.node)]:=by rw[a,S];exact aU.new w _ _
 have x:=aa (lI (hn.still v) (N.still v) it.key u);rw[decide_eq_false hf] at x;have i:=(bh (Own.lies t) l.length (by rw[au];exact kf _)).2.2;rw[List.getElem_append_right (ah _)] at i;simp only[Nat.sub_self,List.getElem_cons_zero,hp,bE] at i;have H:(l++[last]).length=l.length+1:=by rw[au];rfl
 have O:=aa (show aY B w (cx (aD ⟨g,0,av⟩) (l.length+1) c) (l++[last]) from by rw[<-H];exact t);rw[H];obtain⟨L,C⟩:∃L,L=l.length:=⟨_,rfl⟩;rw[<-C] at i O hl |-;have jD:(L:Int)<=400:=by omega
 have Y7:(L:Int)+1>0:=by omega
 have r:=aa (And.intro v (And.intro b (And.intro M (And.intro C (And.intro S H)))));have D:w.cell? ⟨g,L*3+2,av⟩=aD (e7 (aD ⟨p,0,av⟩)):=i;rw[f] at a;have P:w1=w.alloc (ey #[bR (bs it.key),bR (bs it.val),e7 (aD ⟨q,0,av⟩)] 122):=a;rw[f] at b;have E:=aa (show aU w1 G 122 [bR (bs it.key),bR (bs it.val),e7 (aD ⟨q,0,av⟩)] from b);have V:=aa (show pa it.node=aD ⟨q,0,av⟩ by rw[f];rfl);rw[f];show Calls _ _ #[_,_,iK #[bR (bs it.key),bR (bs it.val),e7 (aD ⟨q,0,av⟩)]] w _;clear t M hp f hn N u hf H C v b a i z A hl;go_enter Tryz.func132,Tryz.ntmps132;unfold ptr at x |-;go_wp2_with fail;rw[<-P,<-S];refine x.o.mono ?_;rintro e W ⟨rfl,F⟩;have Q:Below w.heap.size w W:=r.o.1.trans (F.mono r.o.1.size);have d:=E.o.below F E.o.lt;have k0:=d.cell (j:=0) rfl;have k1:=d.cell (j:=1) rfl;have k2:=d.cell (j:=2) rfl;obtain⟨w3,J⟩:∃w3,w3=W.alloc (ey #[bR (bs it.key),bR (bs it.val),e7 (aD ⟨q,0,av⟩)] 122):=⟨_,rfl⟩;obtain⟨y,Y⟩:∃y,y=W.heap.size:=⟨_,rfl⟩;have I:Below w.heap.size w w3:=by rw[J];exact Q.alloc Q.size _
 have R:bu ak w3 y 0 [it]:=by rw[J,Y];exact bu.fN (aU.new W _ _) (by show _=[Value.string (bs it.key),bR (bs it.val),e7 (pa it.node)];rw[V.o])
 have s:=aa (And.intro I (And.intro R (Own.below O.o I (ah _))));clear F Q d I R P S x E D;go_wp2_with (at_builtin;refine Hid.o ?_);refine aa ?_;rw[<-J,<-Y];refine cT (K:=ak) vD rfl _ _ rfl rfl s.o.2.2 (aH r.o.2.2.1 s.o.1.size) y 0 1 1 [it] rfl rfl s.o.2.1 (show (l++[last]).length+1<=1000000000 by rw[r.o.2.2.2.2.2];have:=r.o.2.2.2.1;omega) ?_;intro v4 Z X T U
 have HE:=aa (show za B w (cx (aD ⟨g,0,av⟩) (L+1) c) (l++[last]++[it]) (eb (gu #[v4,bf cu 0])) Z from
  ⟨v4,rfl,X,(aG.aJ s.o.1 _).grown T (fun k e _=>e),U.imp_right fun h k u=>aH s.o.1.size (h k u)⟩)
 clear X T U J Y;go_wp2_with fail
 go_ret2
 exact HE.o
theorem Au {Q:Int->World->Prop} {p q:Nat} {n m:NV} {l:List It} {last:It} (i:aY B w lv (l++[last])) (hl:l.length<=400) (hp:last.node=aD p) (d:it.node=aD q) (hn:Nd w p n) (C:Nd w q m) (D:it.key.length<=1000000)
  (hf:cz n.its+cz m.its+(if n.level=0 then 0 else it.key.length)<=510)
  (E:∀w1,Below w.heap.size w w1->Calls Tryz.prog 175 #[ptr sb,ptr p,ptr q,bR (bs it.key)] w1 fun e w'=>∃x:Int,e=eb (bf cu x)/\Q x w'):
  Calls Tryz.prog 132 #[ptr sb,lv,iK #[bR (bs it.key),bR (bs it.val),e7 (pa it.node)]] w fun e w'=>∃x:Int,e=eb (gu #[lv,bf cu x])/\Q x w':=by
 obtain⟨g,c,rfl,t,R,u⟩:=Own.form i (by rw[au];exact Nat.succ_pos _);obtain⟨w1,H⟩:∃w1,w1=w.alloc (ey #[bR (bs it.key),bR (bs it.val),e7 (pa it.node)] 122):=⟨_,rfl⟩;obtain⟨G,s⟩:∃G,G=w.heap.size:=⟨_,rfl⟩;have k:Below w.heap.size w w1:=by rw[H];exact (Below.refl _ w).alloc (ah _) _
 have a:aU w1 G 122 [bR (bs it.key),bR (bs it.val),e7 (pa it.node)]:=by rw[H,s];exact aU.new w _ _
 have r:=aa (lI (hn.still k) (C.still k) it.key D);rw[decide_eq_true hf] at r;have F:=aa E;have f:=(bh (Own.lies i) l.length (by rw[au];exact kf _)).2.2;rw[List.getElem_append_right (ah _)] at f;simp only[Nat.sub_self,List.getElem_cons_zero,hp,bE] at f;have h:(l++[last]).length=l.length+1:=by rw[au];rfl
 have O:=aa (show aY B w (cx (aD ⟨g,0,av⟩) (l.length+1) c) (l++[last]) from by rw[<-h];exact i);rw[h];obtain⟨L,v⟩:∃L,L=l.length:=⟨_,rfl⟩;rw[<-v] at f O hl |-;have S:(L:Int)<=400:=by omega
 have Y:(L:Int)+1>0:=by omega
 have I:=aa (And.intro k (And.intro a (And.intro v (And.intro s h))));have y:w.cell? ⟨g,L*3+2,av⟩=aD (e7 (aD ⟨p,0,av⟩)):=f;rw[d] at H;have J:w1=w.alloc (ey #[bR (bs it.key),bR (bs it.val),e7 (aD ⟨q,0,av⟩)] 122):=H;rw[d] at a;have z:=aa (show aU w1 G 122 [bR (bs it.key),bR (bs it.val),e7 (aD ⟨q,0,av⟩)] from a);have T:=aa (show pa it.node=aD ⟨q,0,av⟩ by rw[d];rfl);rw[d];show Calls _ _ #[_,_,iK #[bR (bs it.key),bR (bs it.val),e7 (aD ⟨q,0,av⟩)]] w _;clear E i hp d hn C D hf h v k a H f t u hl;go_enter Tryz.func132,Tryz.ntmps132;unfold ptr at r |-;go_wp2_with fail;rw[<-J,<-s];refine r.o.mono ?_;rintro e W ⟨rfl,A⟩;have K:Below w.heap.size w W:=I.o.1.trans (A.mono I.o.1.size);have b:=z.o.below A z.o.lt;have k0:=b.cell (j:=0) rfl;have U:=b.cell (j:=1) rfl;have V:=b.cell (j:=2) rfl;have M:=aa (F.o W K);clear A K b J s r z y F;unfold ptr at M;go_wp2_with fail;refine M.o.mono ?_;rintro e w3 ⟨x,rfl,N⟩;have P:=aa N;clear N;go_wp2_with fail
 go_ret2
 exact⟨x,rfl,P.o⟩
end
structure v_ (X:World) (g o j:Nat) (i:It):Prop where
 key:X.cell? ⟨g,o+j*3,av⟩=aD (bR (bs i.key))
 val:X.cell? ⟨g,o+j*3+1,av⟩=aD (bR (bs i.val))
 node:X.cell? ⟨g,o+j*3+2,av⟩=aD (e7 (pa i.node))
 lt:g<X.heap.size
theorem v_.of {X:World} {g o j:Nat} {l:List It} (h:bu ak X g o l) (H:j<l.length):v_ X g o j l[j]:=⟨(bh h j H).1,(bh h j H).2.1,(bh h j H).2.2,uF h H⟩
structure Steps (p q sb tb:Nat) (fr to rg ro NL cap:Nat) (P:Nat->Value->World->Prop) (PB:Nat->Value->Nat->World->Prop) (Q:Nat->Nat->Option Addr->Nat->Value->World->Prop):Prop where
 cells:∀a lv X,P a lv X->X.cell? ⟨sb,0,av⟩=aD (ptr tb)/\X.cell? ⟨p,1,av⟩=aD (cx (aD ⟨rg,ro,av⟩) NL cap)
 still:∀a lv X V,P a lv X->Below X.heap.size X V->P a lv V
 below:∀a lv X,P a lv X->fr<=a->a<to->Calls Tryz.prog 79 #[ptr tb,ptr p,bf cu a] X fun e X'=>∃n,e=eb (gu #[ptr n,bf cu 0])/\PB a lv n X'
 Y8:∀a lv n X V,PB a lv n X->Below X.heap.size X V->PB a lv n V
 LL:∀a lv n X,PB a lv n X->X.cell? ⟨p,1,av⟩=aD (cx (aD ⟨rg,ro,av⟩) NL cap)/\∃i,v_ X rg ro a i/\
  Calls Tryz.prog 131 #[ptr sb,ptr n,iK #[bR (bs i.key),bR (bs i.val),e7 (pa i.node)]] X fun e X'=>∃L ra rc,e=eb (cx ra L rc)/\L<=1000/\Q a L ra 0 lv X'
 Y9:∀a L ra j lv X V,Q a L ra j lv X->Below X.heap.size X V->Q a L ra j lv V
 step:∀a L ra j lv X,Q a L ra j lv X->j<L->∃g i,ra=aD ⟨g,0,av⟩/\v_ X g 0 j i/\∀V,Below X.heap.size X V->Calls Tryz.prog 132 #[ptr sb,lv,iK #[bR (bs i.key),bR (bs i.val),e7 (pa i.node)]] V fun e X'=>∃mA,e=eb (gu #[mA,bf cu 0])/\Q a L ra (j+1) mA X'
 done:∀a L ra lv X,Q a L ra L lv X->P (a+1) lv X
structure Ends (p:Nat) (fr to rg ro NL cap:Nat) (P:Nat->Value->World->Prop) (G:World->Prop) (PF PG:Option Addr->Nat->Nat->World->Prop):Prop where
 eq:∀lv X,P to lv X->∃la ln lc,lv=cx la ln lc/\ln<=1000/\Calls Tryz.prog 133 #[cx la ln lc,cx (aD ⟨rg,ro+fr*3,av⟩) (to-fr) (cap-fr)] X fun e X'=>∃b,e=eb (eX b)/\(b=true->G X')/\(b=false->PF la ln lc X')
 empty:∀la lc X,PF la 0 lc X->PG la 0 lc X
 first:∀la ln lc X,PF la ln lc X->0<ln->X.cell? ⟨p,1,av⟩=aD (cx (aD ⟨rg,ro,av⟩) NL cap)/\∃g kb k0,la=aD ⟨g,0,av⟩/\X.cell? ⟨rg,ro+fr*3,av⟩=aD (bR kb)/\X.cell? ⟨g,0,av⟩=aD (bR k0)/\X.frozen? ⟨g,0,av⟩=false/\PG la ln lc (X.setCell ⟨g,0,av⟩ (bR kb))
 new:∀la ln lc X,PG la ln lc X->X.cell? ⟨p,1,av⟩=aD (cx (aD ⟨rg,ro,av⟩) NL cap)/\Calls Tryz.prog 134 #[cx (aD ⟨rg,ro,av⟩) NL cap,bf cu fr,bf cu to,cx la ln lc] X fun e X'=>∃a n c,e=eb (cx a n c)/\(∃v,X'.cell? ⟨p,1,av⟩=aD v)/\(∃v,X'.cell? ⟨p,7,av⟩=aD v)/\X'.frozen? ⟨p,1,av⟩=false/\X'.frozen? ⟨p,7,av⟩=false/\G ((X'.setCell ⟨p,1,av⟩ (cx a n c)).setCell ⟨p,7,av⟩ (eX true))
section
variable {w:World} {p q sb tb:Nat} {m:NV}
theorem Ch {P:Nat->Value->World->Prop} {PB:Nat->Value->Nat->World->Prop} {Q:Nat->Nat->Option Addr->Nat->Value->World->Prop} {at_ fr to rg ro NL cap:Nat} (h:Nd w q m) (hf:¬cz m.its<=510)
  (c6:w.cell? ⟨p,6,av⟩=aD (bf cu at_)) (c1:w.cell? ⟨p,1,av⟩=aD (cx (aD ⟨rg,ro,av⟩) NL cap)) (hp:p<w.heap.size)
  (l:fr=at_-1) (n:to=min (at_+2) NL) (Y:NL<=400) (hat:at_<NL) (Z:∀V,Below w.heap.size w V->P fr (cx av 0 0) V) (hS:Steps p q sb tb fr to rg ro NL cap P PB Q)
  {G:World->Prop} {PF PG:Option Addr->Nat->Nat->World->Prop} (hE:Ends p fr to rg ro NL cap P G PF PG) (Ki:NL<=cap):
  Calls Tryz.prog 87 #[ptr sb,ptr p,ptr q] w fun e w'=>e=eb (bf cu 0)/\G w':=by
 have D:=aa (fun V (y:Below w.heap.size w V)=>je (h.still y));rw[decide_eq_false hf] at D;have f:=aa (Below.refl w.heap.size w);have HC:=aa (fun V (y:Below w.heap.size w V)=>And.intro ((y.cell (p:=⟨p,6,av⟩) hp).trans c6) ((y.cell (p:=⟨p,1,av⟩) hp).trans c1));have HP:=aa Z;have I:=aa hS;have r:=aa hE;have xM:(NL:Int)<=cap:=by omega
 have Vp:fr<to/\to<=NL:=by omega
 have z:=aa (And.intro l (And.intro n (And.intro Y (And.intro hat Vp))));unfold ptr at D;have IP:(NL:Int)<=400:=by omega
 have LB:(at_:Int)<NL:=by omega
 have q1:IntKind.i64.wrap ((at_:Int)-1)=(at_:Int)-1:=by rw[IntKind.wrap_i64];omega
 have q2:IntKind.i64.wrap ((at_:Int)+2)=(at_:Int)+2:=by rw[IntKind.wrap_i64];omega
 have e1:max ((at_:Int)-1) 0=(fr:Int):=by omega
 have e2:min ((at_:Int)+2) (NL:Int)=(to:Int):=by omega
 clear h hf c6 c1 Z l n Y hat hS Vp hE Ki;go_enter Tryz.func87,Tryz.ntmps87;unfold ptr;go_wp2_with (refine wp_region_any (by kernel_rfl) ?_;refine Hid.o ?_);refine aa ?_;try (change wpAny _ _ _ _ _ _ _ (bJ _))
 refine tk 0 ?_;refine rd [1] (rn fun K hK=> ?_);go_simp;refine (D.o _ ((Below.refl _ w).drew)).mono ?_;rintro e w1 ⟨rfl,B⟩;refine hK _ _ ?_;clear hK K;have f:=aa (((Below.refl w.heap.size w).drew).trans B);have c6:=(HC.o _ f.o).1;have c1:=(HC.o _ f.o).2;clear B;refine tk 2 ?_;try simp only[Act.put,aA,az,ay]
 refine sk 3 ?_;refine sk 4 ?_;refine sk 5 ?_;refine sk 6 ?_;refine sk 7 ?_;refine sk 8 ?_;refine sk 9 ?_;try simp only[Act.put,aA,az,ay]
 refine tk 10 ?_;refine wpAny_done (by kernel_rfl) ?_ _;go_wp2_with (refine wp_region_held_drew (S:=(fun X=>X.cell? ⟨p,6,av⟩=aD (bf cu at_)/\X.cell? ⟨p,1,av⟩=aD (cx (aD ⟨rg,ro,av⟩) NL cap))) (by kernel_rfl) ?_ (fun hS=> ?_);focus skip;rotate_left;refine Hid.o ?_);refine aa ?_;·exact⟨c6,c1⟩
 refine bg 0 hS ?_;refine bg 1 hS ?_;refine bg 2 hS ?_;refine bg 3 hS ?_;refine bg 4 hS ?_;refine bg 5 hS ?_;refine bg 6 hS ?_;refine bg 7 hS ?_;refine bg 8 hS ?_;refine bg 9 hS ?_;refine bg 10 hS ?_;refine bg 11 hS ?_;refine bg 12 hS ?_;refine bg 13 hS ?_;refine bg 14 hS ?_;refine bg 15 hS ?_;refine bg 16 hS ?_;refine bg 17 hS ?_;refine bg 18 hS ?_;refine wpAnyH_done (by kernel_rfl) ?_ _;try simp only[Act.put,aA,az,ay]
 have f:=aa (f.o.drew);clear c6 c1;go_wp2_with fail
 go_loopw [9,10,11,12,14] (fun lv E _ _ _ wr=>∃a:Nat,fr<=a/\a<=to/\E=bf cu a/\Hid (P a lv wr)) (fun _ E _ _ _ _=>to-(RowKit.intOf E).toNat)
 case atStart=>exact⟨fr,ah _,by have:=z.o;omega,rfl,aa (HP.o _ f.o)⟩
 case round=>
  obtain⟨a,F,hat,rfl,J⟩:=hrel;obtain⟨c0,c1⟩:=I.o.cells a _ _ J.o;unfold ptr at c0;by_cases s:a<to
  ·have hI:(a:Int)<to:=(by omega);have XH:(a:Int)<NL:=(by have:=z.o;omega);go_wp2_with fail;refine (I.o.below a _ _ J.o F s).mono ?_;rintro e w2 ⟨nq,rfl,Y_⟩;unfold ptr;obtain⟨d1,it,H,c⟩:=I.o.LL a _ _ _ Y_;have A:=H.key;have a1:=H.val;have C:=H.node;clear c0 c1;have M:=aa c;clear c;go_wp2_with fail;refine M.o.mono ?_;rintro e w3 ⟨L,ra,rc,rfl,hL,t⟩;have EO:(L:Int)<=1000:=(by omega);have Za:=aa t;clear t d1 A a1 C H;go_wp2_with fail
   go_loopw [9,12,14,73] (fun lv _ _ N wq=>∃j:Nat,j<=L/\N=bf cu j/\Hid (Q a L ra j lv wq)) (fun _ _ _ N _=>L-(RowKit.intOf N).toNat)
   case atStart=>exact⟨0,aB _,rfl,Za⟩
   case round=>
    obtain⟨j,hj,rfl,t⟩:=hrel;by_cases we:j<L
    ·have Ir:(j:Int)<L:=(by omega);obtain⟨g,i,rfl,H,c⟩:=I.o.step a L _ j _ _ t.o we;have A:=H.key;have a1:=H.val;have C:=H.node;have M:=aa c;clear c;rw[bE] at A a1 C;obtain⟨W1,k⟩:∃W1,W1=wr.alloc (ey #[bR (bs i.key),bR (bs i.val),e7 (pa i.node)] 122):=⟨_,rfl⟩;obtain⟨ib,d⟩:∃ib,ib=wr.heap.size:=⟨_,rfl⟩;have k0:W1.cell? ⟨ib,0,av⟩=aD (bR (bs i.key)):=(by rw[k,d];exact (aU.new wr _ _).cell rfl);have O:W1.cell? ⟨ib,1,av⟩=aD (bR (bs i.val)):=(by rw[k,d];exact (aU.new wr _ _).cell rfl);have k2:W1.cell? ⟨ib,2,av⟩=aD (e7 (pa i.node)):=(by rw[k,d];exact (aU.new wr _ _).cell rfl);have u:Below wr.heap.size wr W1:=(by rw[k];exact (Below.refl _ wr).alloc (ah _) _);have QY:=aa u;clear u;generalize pa i.node=nd at*;generalize bs i.key=kb at*;generalize bs i.val=vb at*;go_wp2_with fail;rw[<-k,<-d];clear k d A a1 C H;go_wp2_with fail;refine (M.o _ QY.o).mono ?_;rintro e w4 ⟨mA,rfl,Vq⟩;have Zb:=aa Vq;clear Vq k0 O k2;go_wp2_with fail;go_roundw
     case rel=>exact⟨j+1,we,by go_num,Zb⟩
     case measure=>simp[RowKit.intOf];omega
    ·obtain rfl:j=L:=by omega
     have Ir:¬(j:Int)<j:=(by omega);have HD:=aa (I.o.done a j ra _ _ t.o);go_wp2_with fail;go_roundw
     case rel=>exact⟨a+1,by omega,s,by go_num,HD⟩
     case measure=>simp[RowKit.intOf];omega
  ·obtain rfl:a=to:=by omega
   have hI:¬(a:Int)<a:=(by omega);have Vm:(a:Int)<=cap:=(by have:=z.o;omega);have hI4:(fr:Int)<=a:=(by omega);obtain⟨la,ln,lc,rfl,GG,c⟩:=r.o.eq _ _ J.o;have M:=aa c;have IQ:(ln:Int)<=1000:=(by omega);clear c;go_wp2_with fail;refine M.o.mono ?_;rintro e w5 ⟨b,rfl,B,R⟩;cases b with
   |true=>
    have v:=aa (B rfl);clear B R;go_wp2_with fail;go_ret;exact⟨rfl,v.o⟩
   |false=>
    have Vr:=aa (R rfl);clear B R c0 c1;by_cases h0:ln=0;·subst h0;have hz:¬((0:Nat):Int)>0:=(by decide);obtain⟨c1,c⟩:=r.o.new _ _ _ _ (r.o.empty _ _ _ Vr.o);have T:=aa c;clear c;go_wp2_with fail;refine T.o.mono ?_;rintro e w6 ⟨va,vn,vc,rfl,⟨v1,O⟩,⟨v7,k7⟩,f1,f7,x⟩;have v:=aa x;clear x;go_wp2_with fail;go_ret;exact⟨rfl,v.o⟩
    ·have hpos:0<ln:=(by omega);have hz:(ln:Int)>0:=(by omega);obtain⟨c1,g,kb,k0,rfl,r0,g0,fz,U⟩:=r.o.first _ _ _ _ Vr.o hpos;obtain⟨X1,W⟩:∃X1,X1=w5.setCell ⟨g,0,av⟩ (bR kb):=⟨_,rfl⟩;rw[<-W] at U;have IE:=aa W;clear W;have hI5:(fr:Int)<NL:=(by have:=z.o;omega);go_wp2_with fail;rw[<-IE.o];obtain⟨c1,c⟩:=r.o.new _ _ _ _ U;have T:=aa c;clear c U r0 g0 fz;go_wp2_with fail;refine T.o.mono ?_;rintro e w6 ⟨va,vn,vc,rfl,⟨v1,O⟩,⟨v7,k7⟩,f1,f7,x⟩;have v:=aa x;clear x;go_wp2_with fail;go_ret;exact⟨rfl,v.o⟩
end
end
end Go.Proofs.YtlpfhjbpknbndaaGreatDoor
