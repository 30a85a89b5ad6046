/- Elder texts, cut down and merged (15). -/
import Derived.Test.YtgfdijemhanfkaaGreatDoorP6
import Derived.Test.YtgfdijemhanfkaaGreatDoorP14
import Derived.Test.YtgfdijemhanfkaaGreatDoorP5
import Derived.Laws.ResultCell
import Derived.BigRegion
import Derived.Test.YtgfdijemhanfkaaGreatDoorPTk
set_option maxRecDepth 100000
set_option maxHeartbeats 8000000
namespace Go.Proofs.YtgfdijemhanfkaaGreatDoor
open _root_.Go.Proofs.Tryz
open Value renaming int→bf,string→cu,agg→eU,bool→ey,tuple→ec,slice→cx
open IntKind renaming u64→eZ,u8→eD,i64→ct
open Option renaming some→av,none→aK
open Or renaming inl→cS,inr→dc
open Ending renaming returned→c8
open Obj renaming cells→dg
open List renaming mem_cons->aM,length_append->aq,append_assoc->aD,length_take->aJ,length_drop->aS,drop_eq_getElem_cons->cE,getElem_mem->bp,mem_singleton->bB,map_cons->bI,take_succ_eq_append_getElem->cz,take_of_length_le->bD
open Nat renaming le_refl->af,le_trans->aN,zero_le->aA,lt_of_lt_of_le->bL,zero_add->bG
open World renaming drew->bu,size_alloc->aY,alloc->dH
open Bool renaming and_eq_true->fk
open _root_.Array renaming length_toList->aU
open UInt8 renaming ofNat->az,toNat_ofNat'->bR
section
open Go.RowKit Lib
def Uz (f:Pk.Fd):Value:=eU #[bf eZ f.n,cu (bs f.s)]
def ko:Elem Pk.Fd:=⟨fun f=>[bf eZ f.n,cu (bs f.s)],2,ξ,fun _=>rfl,fun f u hu=>by
 simp only[aM,List.not_mem_nil,or_false] at hu
 rcases hu with rfl|rfl<;>rfl⟩
theorem aaE:dx prog 190 179 ko.size:=dx.of (size:=2) (bytes:=24) (z:=.agg #[.int eZ 0,.string .empty]) underlying190 η rfl ξ
theorem Jt (n w:Nat):((n:Int)/2^(8*w)==0)=decide (n<256^w):=by
 have e:(n:Int)/2^(8*w)=((n/256^w:Nat):Int):=zbd
 rw[e,Bool.eq_iff_iff,beq_iff_eq,decide_eq_true_eq];have hp:0<256^w:=Nat.pow_pos ξ;constructor
 ·intro h;have h':n/256^w=0:=by omega
  exact (Nat.div_eq_zero_iff_lt hp).1 h'
 ·intro h;have h':n/256^w=0:=(Nat.div_eq_zero_iff_lt hp).2 h;omega
theorem zD (l:List UInt8):bs l=⟨#[]⟩↔l=[]:=by
 constructor;·intro h;have:=congrArg ByteArray.size h;rw[aG] at this;exact List.eq_nil_of_length_eq_zero this
 ·rintro rfl;rfl
theorem uB {B:Nat} {w:World} (_:B<=w.heap.size) (m:Nat):Below B w (w.drewN m):=⟨rfl,rfl,rfl,af _,fun _ _=>rfl⟩
namespace Pk
theorem Cd {c:UInt8} {f:Fd} (h:width c≠0):iI c f=if f.s=[]/\f.n<256^width c then av (Wl.enc (width c) f.n) else none:=by unfold iI;rw[if_pos h]
theorem zE (f:Fd):iI 116 f=if f.n=0/\f.s.length<=65535 then av (Wl.enc 2 f.s.length++f.s) else none:=by
 unfold iI;rw[if_neg ξ,if_neg (by decide:¬(116:UInt8)=114)];by_cases h:f.n=0
 ·by_cases H:f.s.length<=65535;·rw[if_neg zax,if_neg κ,if_pos ⟨h,H⟩]
  ·rw[if_neg zax,if_pos κ,if_neg (fun e=>H e.2)]
 ·rw[if_pos h,if_neg (fun e=>h e.1)]
theorem zF (f:Fd):iI 114 f=if f.n=0 then av f.s else none:=by
 unfold iI;rw[if_neg ξ,if_pos rfl];by_cases h:f.n=0;·rw[if_neg zax,if_pos h]
 ·rw[if_pos h,if_neg h]
theorem mO {c:UInt8} (h:(c=110/\(c.toNat:Int)=110/\width c=8)\/(c=104/\(c.toNat:Int)=104/\width c=4)\/(c=98/\(c.toNat:Int)=98/\width c=1)):width c≠0/\((c.toNat:Int)==116)=false/\((c.toNat:Int)==114)=false:=by rcases h with⟨rfl,_,_⟩|⟨rfl,_,_⟩|⟨rfl,_,_⟩<;>decide
theorem qi {c:UInt8} (h:letter c true=true):(width c≠0/\((c.toNat:Int)==116)=false/\((c.toNat:Int)==114)=false)\/(c=116/\(c.toNat:Int)=116)\/(c=114/\(c.toNat:Int)=114):=by
 rcases Dt c with⟨H,a,h3,_⟩|⟨H,a,h3,_⟩|⟨H,a,h3,_⟩|⟨H,a,_,_⟩|⟨H,a,_,_⟩|⟨_,_,h4⟩;·exact cS (mO (cS ⟨H,a,h3⟩))
 ·exact cS (mO (dc (cS ⟨H,a,h3⟩)))
 ·exact cS (mO (dc (dc ⟨H,a,h3⟩)))
 ·exact dc (cS ⟨H,a⟩)
 ·exact dc (dc ⟨H,a⟩)
 ·rw[h4] at h;cases h
end Pk
theorem FJ (c:UInt8) (f:Pk.Fd) (w:World) (hc:Pk.letter c true=true) (hn:f.n<2^64) (hs:f.s.length<=1000000):
  Calls prog 141 #[bf eD c.toNat,Uz f] w fun e w'=>e=c8 (ey (Pk.iI c f).isSome)/\Below w.heap.size w w':=by
 obtain⟨n,s⟩:=f;unfold Uz;simp only at hn hs |-;have a:=aG s;have H:=zD s;have A:Below w.heap.size w (w.alloc (dg #[bf eZ n,cu (bs s)] 179)):=(Below.refl _ _).alloc (af _) _;rcases Pk.qi hc with⟨r,m,k⟩|⟨rfl,m⟩|⟨rfl,m⟩
 ·rw[Pk.Cd r];have p:=Jt n (Pk.width c);have u:=Pk.tZ c;have E:=fun W=>oL c W;generalize (c.toNat:Int)=x at*;obtain⟨X,i⟩:=ξx (bs s);rw[<-i] at a H A |-;generalize Pk.width c=j at*;clear r hc;by_cases b:s=[]
  ·have l:X=⟨#[]⟩:=H.2 b;subst l;have d:(if s=[]/\n<256^j then av (Wl.enc j n) else aK).isSome=decide (n<256^j):=by
    by_cases h:n<256^j;·rw[if_pos ⟨b,h⟩,decide_eq_true h];rfl
    ·rw[if_neg (fun e=>h e.2),decide_eq_false h];rfl
   rw[d,<-p];have v:(j:Int)<=8:=κ;clear H b a d p;have t:=aa E;have g:=aa A;clear E A i;go_enter func141,ntmps141;go_wp2_with fail
   go_quiet ((go_at_call 198;exact Calls.quiet_of_same (t.o _)))
   go_wp2;go_ret;exact⟨rfl,g.o.trans (uB g.o.size _)⟩
  ·have l:X.toList.isEmpty=false:=by
    rw[i,bN];cases s with
    |nil=>exact absurd rfl b
    |cons _ _=>rfl
   have d:(if s=[]/\n<256^j then av (Wl.enc j n) else aK).isSome=false:=(by rw[if_neg (fun e=>b e.1)];rfl);rw[d];clear H b a i d p;have t:=aa E;have g:=aa A;clear E A;go_enter func141,ntmps141;go_wp2_with fail
   go_quiet (fail)
   go_wp2;go_ret;exact⟨rfl,g.o.trans (uB g.o.size _)⟩
 ·rw[Pk.zE];generalize ((116:UInt8).toNat:Int)=x at*;subst m;simp only;obtain⟨X,i⟩:=ξx (bs s);rw[<-i] at a A |-;have d:(if n=0/\s.length<=65535 then av (Wl.enc 2 s.length++s) else aK).isSome=(decide (n=0)&&decide (X.size<=65535)):=by rw[a];by_cases h:n=0<;>by_cases k:s.length<=65535<;>simp[h,k]
  rw[d];have y:(X.size:Int)<=1000000:=κ
  clear H d a i hc;have g:=aa A;clear A;by_cases h:n=0
  ·subst h;by_cases k:X.size<=65535;·have q:(X.size:Int)<=65535:=κ;rw[decide_eq_true k];go_enter func141,ntmps141;go_wp2;go_ret;exact⟨rfl,g.o⟩
   ·have q:¬(X.size:Int)<=65535:=κ;rw[decide_eq_false k];go_enter func141,ntmps141;go_wp2;go_ret;exact⟨rfl,g.o⟩
  ·have z:((n:Int)==0)=false:=θ;rw[decide_eq_false h];go_enter func141,ntmps141;go_wp2;go_ret;exact⟨rfl,g.o⟩
 ·rw[Pk.zF];generalize ((114:UInt8).toNat:Int)=x at*;subst m;simp only;have g:=aa A;clear A H a hc;have d:(if n=0 then av s else aK).isSome=((n:Int)==0):=by by_cases h:n=0<;>simp[h]
  rw[d];clear d;go_enter func141,ntmps141;go_wp2;go_ret;exact⟨rfl,g.o⟩
theorem UA:∃i,prog.info? 5=av i/\i.zero=av (bf eD 0)/\i.size=1/\i.bytes=1:=iL (P:=prog) (E:=5) (size:=1) (bytes:=1) (z:=bf eD 0) η
theorem FK (s:List UInt8):Lib.strCells (bs s)=dO.cells s:=by rw[show dO.cells s=s.map bU from cv _ _ _];unfold Lib.strCells;rfl
theorem pH {B:Nat} {w:World} {v:Value} {l:List UInt8} {ops:Array Oper} {rest:List Oper} {o:Oper} {a:Act} {Q:Exit->Act->Ψ} (b:o.guard=aK) (x y:Operand)
  (f:o.op=.call {callee:=.builtin .append,args:=#[x,y],argTypes:=#[151,9]})
  (hs:a.eval x=v) (hown:iZ B w v l) (g:B<=w.heap.size) (s:List UInt8) (j:a.eval y=.string (bs s)) (e:l.length+s.length<=900000000)
  (h:∀v' w',iZ B w' v' (l++s)->w.grownBy w' v.ownBlock->wpList prog ops Q rest (a.put o.dst v') w'):wpList prog ops Q (o::rest) a w:=by
 obtain⟨i,hi,k,H,c⟩:=UA;have d:=aG s;refine wpList_append_own_string (P:=prog) w b x y 151 9 f B 5 i underlying151 underlying9 hi k H c v l.length (dO.cells l) hs hown (bs s) j zat κ g ?_;intro v' w' m n _;refine h v' w' ?_ n;unfold iZ Own;rw[aq,dO.cj,<-FK s,<-d];exact m
theorem qj {B:Nat} {w w' W:World} {v:Value} {l:List UInt8} (h:Below B w w') (H:iZ B w' v l) (a:B<=w.heap.size) (hg:w'.grownBy W v.ownBlock):Below B w W:=
 h.trans ((aE.dK hg).below (aN a h.size) (fun k b e=>by have:=(H.block k e).1;omega))
theorem uC {B:Nat} {w w' W:World} {v:Value} {l:List UInt8} (h:Below B w w') (H:iZ B w' v l) (a:B<=w.heap.size) (b:aE (fun k=>v.ownBlock=av k) w'.drew W):Below B w W:=
 h.trans (((aE.refl (fun k=>v.ownBlock=av k) w').drew.trans b (fun _ _ h=>h)).below (aN a h.size) (fun k c e=>by
  have:=(H.block k e).1;omega))
theorem Bp {B:Nat} {w w' W:World} {v:Value} {l:List UInt8} (h:Below B w w') (H:iZ B w' v l) (a:B<=w.heap.size) (b:aE (fun k=>v.ownBlock=av k) w' W):Below B w W:=
 h.trans (b.below (aN a h.size) (fun k c e=>by
  have:=(H.block k e).1;omega))
theorem xP (c:UInt8) (f:Pk.Fd) (t:List UInt8) (B:Nat) (w:World) (v:Value) (l:List UInt8) (hf:Pk.iI c f=av t) (hc:Pk.letter c true=true) (hown:iZ B w v l) (k:B<=w.heap.size) (hl:l.length<=100000000) (hn:f.n<2^64) (hs:f.s.length<=1000000):
  Calls prog 142 #[v,bf eD c.toNat,Uz f] w fun e w'=>∃v',e=c8 v'/\iZ B w' v' (l++t)/\Below B w w':=by
 obtain⟨n,s⟩:=f;unfold Uz;simp only at hn hs |-;have b:=aG s;have A:Below B w (w.alloc (dg #[bf eZ n,cu (bs s)] 179)):=(Below.refl _ _).alloc k _;have r:iZ B (w.alloc (dg #[bf eZ n,cu (bs s)] 179)) v l:=hown.alloc _;have O:=aN k A.size;have H:=aa (And.intro r (And.intro A (And.intro k O)));rcases Pk.qi hc with⟨C,i,P⟩|⟨rfl,i⟩|⟨rfl,i⟩
 ·rw[Pk.Cd C] at hf;have g:s=[]/\t=Wl.enc (Pk.width c) n:=by
   split at hf
   ·next h=>injection hf with hf;exact⟨h.1,hf.symm⟩
   ·cases hf
  obtain⟨rfl,rfl⟩:=g;have m:=Pk.tZ c;have E:=aa (fun W=>oL c W);have u:=aa (fun (W:World) (h:iZ B W v l) (p:B<=W.heap.size)=>mj B W v l n (Pk.width c) h p κ hn m);generalize (c.toNat:Int)=x at*;generalize Pk.width c=Q at*;generalize bs []=X at*;clear C hc hown A r O hf hn b;go_enter func142,ntmps142;go_wp2_with (refine wp_region_any η ?_;refine Hid.o ?_);refine aa ?_;try (change wpAny _ _ _ _ _ _ _ (bu _))
  refine tk 0 ?_;refine tk 1 ?_;refine tk 3 ?_;refine rd [2,4] (AllReady.cons rfl (fun K a=> ?_) (rn fun K a=> ?_))
  focus
   go_simp
   refine a _ _ ?_;clear a K
   refine rd [4] (rn fun K a=> ?_)
   go_simp
   refine (E.o _).mono ?_
   rintro e w1 ⟨rfl,rfl⟩
   refine a _ _ ?_;clear a K
   refine rd [5] (rn fun K a=> ?_)
   go_simp
   refine (u.o _ H.o.1.drew H.o.2.2.2).mono ?_
   rintro e w1 ⟨v1,rfl,G,J,_⟩
   have D:=uC H.o.2.1 H.o.1 H.o.2.2.1 J
   refine a _ _ ?_;clear a K
   refine rd [6] (rn fun K a=> ?_)
   go_simp
   refine a _ _ ?_;clear a K
  rotate_left
  focus
   go_simp
   refine (E.o _).mono ?_
   rintro e w1 ⟨rfl,rfl⟩
   refine a _ _ ?_;clear a K
   refine rd [2] (rn fun K a=> ?_)
   go_simp
   refine a _ _ ?_;clear a K
   refine rd [5] (rn fun K a=> ?_)
   go_simp
   refine (u.o _ H.o.1.drew H.o.2.2.2).mono ?_
   rintro e w1 ⟨v1,rfl,G,J,_⟩
   have D:=uC H.o.2.1 H.o.1 H.o.2.2.1 J
   refine a _ _ ?_;clear a K
   refine rd [6] (rn fun K a=> ?_)
   go_simp
   refine a _ _ ?_;clear a K
  all_goals
   refine wpAny_done η ?_ _
   go_wp2
   go_ret
   exact⟨_,rfl,G,D⟩
 ·rw[Pk.zE] at hf;have g:n=0/\s.length<=65535/\t=Wl.enc 2 s.length++s:=by
   split at hf
   ·next h=>injection hf with hf;exact⟨h.1,h.2,hf.symm⟩
   ·cases hf
  obtain⟨rfl,F,rfl⟩:=g;generalize ((116:UInt8).toNat:Int)=x at*;subst i;have u:=aa (fun (W:World) (h:iZ B W v l) (p:B<=W.heap.size)=>mj B W v l s.length 2 h p κ κ ξ);have I:=aa hown;have q:=aa (show l.length<=100000000/\s.length<=65535 from⟨hl,F⟩);have L:((bs s).size:Int)=(s.length:Nat):=κ
  have M:(s.length:Int)<=65535:=κ
  obtain⟨X,d⟩:=ξx (bs s);have y:=aa d;rw[<-d] at L H |-;clear hown A r O hf hn b d hc F hl;go_enter func142,ntmps142;go_wp2_with fail;refine (u.o _ H.o.1 H.o.2.2.2).mono ?_;rintro e w1 ⟨v1,rfl,G,J,z⟩;have hcell:w1.cell? ⟨w.heap.size,1,aK⟩=av (cu X):=J.cell ((aW.new w #[bf eZ 0,cu X] 179).cell rfl) (fun e=>by have:=(I.o.block _ e).2;exact absurd this (Nat.lt_irrefl _));have j:=aa (And.intro G (Bp H.o.2.1 H.o.1 H.o.2.2.1 J));clear G J z;go_wp2_with (at_builtin;refine Hid.o ?_);refine aa ?_;refine pH rfl _ _ rfl rfl j.o.1 (aN H.o.2.2.1 j.o.2.size) s (congrArg Value.string y.o) (by rw[aq,Wl.bO];have:=q.o;omega) ?_;intro v' N oP iE;have U:=aa (And.intro oP (qj j.o.2 j.o.1 H.o.2.2.1 iE));clear oP iE hcell;go_wp2;go_ret;exact⟨_,rfl,by rw[<-aD];exact U.o.1,U.o.2⟩
 ·rw[Pk.zF] at hf;have g:n=0/\t=s:=by
   split at hf
   ·next h=>injection hf with hf;exact⟨h,hf.symm⟩
   ·cases hf
  obtain⟨rfl,rfl⟩:=g;generalize ((114:UInt8).toNat:Int)=x at*;subst i;have q:=aa (show l.length<=100000000/\t.length<=1000000 from⟨hl,hs⟩);obtain⟨X,d⟩:=ξx (bs t);have y:=aa d;rw[<-d] at H |-;clear hown A r O hf hn b d hc hl hs;go_enter func142,ntmps142;go_wp2_with (at_builtin;refine Hid.o ?_);refine aa ?_;refine pH rfl _ _ rfl rfl H.o.1 H.o.2.2.2 t (congrArg Value.string y.o) (by have:=q.o;omega) ?_;intro v' N oP iE;have U:=aa (And.intro oP (qj H.o.2.1 H.o.1 H.o.2.2.1 iE));clear oP iE;go_wp2;go_ret;exact⟨_,rfl,U.o.1,U.o.2⟩
theorem uD {fn:Func} {p u v:Tmp} {ty:TypeId} (h:fn.results=#[.cell p ty,.tmp u,.tmp v]) (tmps:Array Value) (P:Program) (w:World):
  (results fn tmps).run P w=
   ((asAddr (tmps.getD p undef)).run P w).andThen fun a W=>((loadVar ty a).run P W).andThen fun x b=>.ok (ec #[x,tmps.getD u undef,tmps.getD v undef]) b:=by
 simp only[results,h]
 simp[Sem.run_bind,Result.andThen]
theorem rj {fn:Func} {p u v:Tmp} (h:fn.results=#[.cell p 179,.tmp u,.tmp v]) (tmps:Array Value) (w:World) (g:Nat) (x y:Value) (fr:Nat×Nat)
  (hp:tmps.getD p undef=.pointer (av ⟨g,0,aK⟩)) (hg:w.heap[g]?=av (dg #[x,y] 179 fr)):
  (results fn tmps).run prog w=.ok (.tuple #[.agg #[x,y],tmps.getD u undef,tmps.getD v undef]) w:=by
 rw[uD h,hp];simp[asAddr,run_loadVar_row w g _ 179 _ fr _ hg underlying179 rfl η,Result.andThen]
def XO (o:Option (Pk.Fd×Pk.Text)):Value:=match o with
 |some (f,t)=>ec #[Uz f,cu (bs t),ey true]
 |none=>ec #[Uz ⟨0,[]⟩,cu (bs []),ey false]
theorem fA {B g j:Nat} {w w':World} (h:Below B w w') (hg:B<=g) (u:Value):Below B w (w'.setCell ⟨g,j,aK⟩ u):=
 h.trans ⟨rfl,rfl,rfl,ν,fun k H=>Below.heap_setCell _ _ _ _ zay⟩
theorem QT:(⟨#[]⟩:ByteArray)=bs []:=rfl
theorem FM {c:UInt8} {s:Pk.Text} (h:((c.toNat:Int)==116)=false) (H:((c.toNat:Int)==114)=false):Pk.dw c s=if s.length<Pk.width c then aK else av (⟨Wl.dec (s.take (Pk.width c)),[]⟩,s.drop (Pk.width c)):=by unfold Pk.dw;rw[if_neg (by rintro rfl;cases H),if_neg (by rintro rfl;cases h)]
theorem zG (c:UInt8) (s:List UInt8) (w:World) (hc:Pk.letter c true=true) (hs:s.length<=1000000):
  Calls prog 152 #[bf eD c.toNat,cu (bs s)] w fun e w'=>e=c8 (XO (Pk.dw c s))/\Below w.heap.size w w':=by
 have q:=aG s;obtain⟨v,f⟩:=ξx (w.alloc (dg #[bf eZ 0,cu ⟨#[]⟩] 179));have T:Below w.heap.size w v:=by rw[f];exact (Below.refl _ _).alloc (af _) _
 have p:aW v w.heap.size 179 [bf eZ 0,cu ⟨#[]⟩]:=by rw[f];exact aW.new w #[bf eZ 0,cu ⟨#[]⟩] 179
 rcases Pk.qi hc with⟨M,r,P⟩|⟨rfl,r⟩|⟨rfl,r⟩
 ·rw[FM r P];have R:=Pk.tZ c;have K:=aa (fun W=>oL c W);generalize (c.toNat:Int)=x at*;generalize Pk.width c=y at*;have i:=aa (fun W=>wv (bs s) y W κ κ);rw[q,bJ] at i;have k:=aa (fun W=>mM (bs (s.take y)) W (by rw[aG,aJ];omega));rw[bJ] at k;have C:=aa (fun W=>mM (bs []) W ξ);have H:=aa (And.intro T p);clear hc M T p;by_cases b:s.length<y;·rw[if_pos b];go_enter func152,ntmps152;go_wp2_with fail;rw[<-f];clear f;refine (K.o _).mono ?_;rintro e w1 ⟨rfl,rfl⟩;go_wp2_with fail;refine (i.o _).mono ?_;rintro e t ⟨rfl,A⟩;have h:=H.o.2.below A H.o.2.lt;have u:=aa (H.o.1.trans (A.mono H.o.1.size));have c0:=h.cell (j:=0) rfl;have c1:=h.cell (j:=1) rfl;have F:=h.frozen 0;have f1:=h.frozen 1;have J:=aa h;clear h A;rw[if_pos b];rw[QT];go_wp2_with fail;refine (C.o _).mono ?_;rintro e w3 ⟨rfl,rfl⟩;have h:=J.o;go_wp2;refine bodyPost_ret (rj rfl _ _ w.heap.size _ _ _ rfl ((h.set 0 _).set 1 _)) rfl ?_;exact⟨rfl,fA (fA u.o (af _) _) (af _) _⟩
  ·rw[if_neg b];go_enter func152,ntmps152;go_wp2_with fail;rw[<-f];clear f;refine (K.o _).mono ?_;rintro e w1 ⟨rfl,rfl⟩;go_wp2_with fail;refine (i.o _).mono ?_;rintro e t ⟨rfl,A⟩;have h:=H.o.2.below A H.o.2.lt;have u:=aa (H.o.1.trans (A.mono H.o.1.size));have c0:=h.cell (j:=0) rfl;have c1:=h.cell (j:=1) rfl;have F:=h.frozen 0;have f1:=h.frozen 1;have J:=aa h;clear h A;rw[if_neg b];obtain⟨N,E⟩:=ξx (Wl.dec (s.take y));rw[<-E] at k;have S:=aa E;clear E;go_wp2_with fail;refine (k.o _).mono ?_;rintro e w3 ⟨rfl,rfl⟩;have h:=J.o;go_wp2;refine bodyPost_ret (rj rfl _ _ w.heap.size _ _ _ rfl ((h.set 0 _).set 1 _)) rfl ?_;exact⟨by rw[S.o];rfl,fA (fA u.o (af _) _) (af _) _⟩
 ·generalize ((116:UInt8).toNat:Int)=x at*;subst r;have G:=aa (show ∀(a:Pk.Text),a.length=2->Wl.dec a<65536 from fun a ha=>by have:=Wl.l9 a;rw[ha] at this;exact this);have i:=aa (fun W=>wv (bs s) 2 W κ κ);rw[q,bJ] at i;have k:=aa (fun W=>mM (bs (s.take 2)) W (by rw[aG,aJ];omega));rw[bJ] at k;have L:=aa (fun W n (hn:n<=1000000)=>wv (bs (s.drop 2)) n W (by rw[aG,aS];omega) hn);rw[aG,bJ] at L;have z:=aa (fun W (a:Pk.Text) (ha:a.length<=s.length)=>zC (bs a) W zaS);have H:=aa (And.intro T p);clear hc T p;by_cases b:s.length<2;·have g:Pk.dw 116 s=none:=(by unfold Pk.dw;rw[if_neg ξ,if_pos rfl,if_pos b]);rw[g];clear g;go_enter func152,ntmps152;go_wp2_with fail;rw[<-f];clear f;refine (i.o _).mono ?_;rintro e t ⟨rfl,A⟩;have h:=H.o.2.below A H.o.2.lt;have u:=aa (H.o.1.trans (A.mono H.o.1.size));have c0:=h.cell (j:=0) rfl;have c1:=h.cell (j:=1) rfl;have F:=h.frozen 0;have f1:=h.frozen 1;have J:=aa h;clear h A;rw[if_pos b];have h:=J.o;go_wp2;refine bodyPost_ret (rj rfl _ _ w.heap.size _ _ _ rfl ((h.set 0 _).set 1 _)) rfl ?_;exact⟨rfl,fA (fA u.o (af _) _) (af _) _⟩
  ·have l:(s.take 2).length=2:=zaE;have hd:=G.o _ l;by_cases O:(s.drop 2).length<Wl.dec (s.take 2);·have g:Pk.dw 116 s=none:=(by unfold Pk.dw;rw[if_neg ξ,if_pos rfl,if_neg b,if_pos O]);rw[g];clear g l;generalize Wl.dec (s.take 2)=N at*;go_enter func152,ntmps152;go_wp2_with fail;rw[<-f];clear f;refine (i.o _).mono ?_;rintro e t ⟨rfl,A⟩;have h:=H.o.2.below A H.o.2.lt;have u:=aa (H.o.1.trans (A.mono H.o.1.size));have c0:=h.cell (j:=0) rfl;have c1:=h.cell (j:=1) rfl;have F:=h.frozen 0;have f1:=h.frozen 1;have J:=aa h;clear h A;rw[if_neg b];have Z:(N:Int)<65536:=κ;have I:=aa hd;clear hd c0 c1 F f1;go_wp2_with fail;refine (k.o _).mono ?_;rintro e w3 ⟨rfl,rfl⟩;go_wp2_with fail;refine (L.o _ N (by have:=I.o;omega)).mono ?_;rintro e w3 ⟨rfl,B⟩;have U:=J.o.below B J.o.lt;have D:=aa (u.o.trans (B.mono u.o.size));have Q:=aa U;clear U B;rw[if_pos O];go_wp2_with fail;refine (z.o _ [] (aA _)).mono ?_;rintro e V ⟨rfl,d⟩;have h:=Q.o.below d Q.o.lt;have m:=aa (D.o.trans (d.mono D.o.size));have c0:=h.cell (j:=0) rfl;have c1:=h.cell (j:=1) rfl;have F:=h.frozen 0;have f1:=h.frozen 1;clear d;go_wp2;refine bodyPost_ret (rj rfl _ _ w.heap.size _ _ _ rfl ((h.set 0 _).set 1 _)) rfl ?_;exact⟨rfl,fA (fA m.o (af _) _) (af _) _⟩
   ·have g:Pk.dw 116 s=av (⟨0,(s.drop 2).take (Wl.dec (s.take 2))⟩,(s.drop 2).drop (Wl.dec (s.take 2))):=(by unfold Pk.dw;rw[if_neg ξ,if_pos rfl,if_neg b,if_neg O]);rw[g];clear g l;generalize Wl.dec (s.take 2)=N at*;go_enter func152,ntmps152;go_wp2_with fail;rw[<-f];clear f;refine (i.o _).mono ?_;rintro e t ⟨rfl,A⟩;have h:=H.o.2.below A H.o.2.lt;have u:=aa (H.o.1.trans (A.mono H.o.1.size));have c0:=h.cell (j:=0) rfl;have c1:=h.cell (j:=1) rfl;have F:=h.frozen 0;have f1:=h.frozen 1;have J:=aa h;clear h A;rw[if_neg b];have Z:(N:Int)<65536:=κ;have I:=aa hd;clear hd c0 c1 F f1;go_wp2_with fail;refine (k.o _).mono ?_;rintro e w3 ⟨rfl,rfl⟩;go_wp2_with fail;refine (L.o _ N (by have:=I.o;omega)).mono ?_;rintro e w3 ⟨rfl,B⟩;have U:=J.o.below B J.o.lt;have D:=aa (u.o.trans (B.mono u.o.size));have Q:=aa U;clear U B;rw[if_neg O];go_wp2_with fail;refine (z.o _ ((s.drop 2).take N) (by rw[aJ,aS];omega)).mono ?_;rintro e V ⟨rfl,d⟩;have h:=Q.o.below d Q.o.lt;have m:=aa (D.o.trans (d.mono D.o.size));have c0:=h.cell (j:=0) rfl;have c1:=h.cell (j:=1) rfl;have F:=h.frozen 0;have f1:=h.frozen 1;clear d;go_wp2;refine bodyPost_ret (rj rfl _ _ w.heap.size _ _ _ rfl ((h.set 0 _).set 1 _)) rfl ?_;exact⟨by rw[List.drop_drop];rfl,fA (fA m.o (af _) _) (af _) _⟩
 ·have g:Pk.dw 114 s=av (⟨0,s⟩,[]):=by unfold Pk.dw;rw[if_pos rfl]
  rw[g];generalize ((114:UInt8).toNat:Int)=x at*;subst r;have z:=aa (fun W=>zC (bs s) W κ);have H:=aa (And.intro T p);clear hc T p g;go_enter func152,ntmps152;go_wp2_with fail;rw[<-f];clear f;refine (z.o _).mono ?_;rintro e t ⟨rfl,A⟩;have h:=H.o.2.below A H.o.2.lt;have u:=aa (H.o.1.trans (A.mono H.o.1.size));have c0:=h.cell (j:=0) rfl;have c1:=h.cell (j:=1) rfl;have F:=h.frozen 0;have f1:=h.frozen 1;clear A;go_wp2;refine bodyPost_ret (rj rfl _ _ w.heap.size _ _ _ rfl ((h.set 0 _).set 1 _)) rfl ?_;exact⟨rfl,fA (fA u.o (af _) _) (af _) _⟩
def RdF (w:World) (v:Value) (l:List Pk.Fd):Prop:=
 ∃(a:Option Addr) (cap:Nat),v=cx a l.length cap/\l.length<=cap/\∀i (_:i<l.length),l[i].n<2^64/\∃g o,a=av ⟨g,o,aK⟩/\g<w.heap.size/\
  ∀j (h:j<l.length),w.cell? ⟨g,o+j*2,aK⟩=av (bf eZ l[j].n)/\w.cell? ⟨g,o+j*2+1,aK⟩=av (cu (bs l[j].s))
namespace Pk
theorem oR:∀(l:Text) (k:Nat) (h:k<l.length),right l=true->letter l[k] true=true
 |c::r,0,_,hr=>by
  simp only[right,fk] at hr;have:=hr.1;unfold letter at this |-;simp only[Bool.or_eq_true,fk,List.getElem_cons_zero,Bool.and_true] at this |-;rcases this with h|h;·exact cS h
  ·exact dc h.1
 |c::r,k+1,h,hr=>by simp only[right,fk] at hr;exact oR r k zax hr.2
theorem Nb {c:UInt8} {f:Fd} {t:Text} (h:iI c f=av t):t.length<=f.s.length+8:=by
 unfold iI at h;have H:=tZ c
 split at h
 ·split at h
  ·injection h with h;subst h;rw[Wl.bO];omega
  ·cases h
 ·split at h
  ·cases h
  ·split at h
   ·injection h with h;subst h;omega
   ·split at h
    ·cases h
    ·injection h with h;subst h;rw[aq,Wl.bO];omega
theorem QV (acc k:Text) (l:List Fd) (i:Nat) (h:i<k.length) (H:i<l.length):Ew acc (k.drop i) (l.drop i)=match iI k[i] l[i] with
  |none=>aK
  |some a=>Ew (acc++a) (k.drop (i+1)) (l.drop (i+1)):=by
 rw[cE h,cE H,Ew];cases iI k[i] l[i]<;>rfl
end Pk
def acG (o:Option Pk.Text):Value:=match o with
 |some t=>ec #[cu (bs t),ey true]
 |none=>ec #[cu ⟨#[]⟩,ey false]
theorem zan {G:Prop} (h:G:=by
 refine (O.o _).mono ?_;rintro e w1 ⟨rfl,rfl⟩;go_wp2
 go_ret2
 exact⟨rfl,Below.refl _ _⟩):G:=h
theorem xx (ks:ByteArray) (v:Value) (l:List Pk.Fd) (w:World) (hk:ks.size<=100) (hll:l.length<=9223372036854775807) (hr:RdF w v l) (hs:∀i (h:i<l.length),l[i].s.length<=10000):
  Calls prog 91 #[cu ks,v] w fun e w'=>e=c8 (acG (Pk.write ks.data.toList l))/\Below w.heap.size w w':=by
 have ya:(ks.size:Int)<=100:=κ
 have P:(l.length:Int)<=9223372036854775807:=κ
 obtain⟨a,cap,rfl,Y,c⟩:=hr;have HC:=aa c;have Ez:=aa hs;have Q:=aa (show ks.data.toList.length=ks.size from aU);clear c hs;cases F:Pk.right ks.data.toList with
 |false=>
  have y:Pk.write ks.data.toList l=none:=by unfold Pk.write;rw[if_neg (by rw[F];exact fun e=>by cases e.1)]
  rw[y];have O:=aa (show ∀W,Calls prog 140 #[cu ks] W fun e w'=>e=c8 (ey false)/\w'=W from fun W=>zaN);clear y F;go_enter func91,ntmps91;go_wp2_with fail;exact zan
 |true=>
  have O:=aa (show ∀W,Calls prog 140 #[cu ks] W fun e w'=>e=c8 (ey true)/\w'=W from fun W=>zaN);by_cases N:l.length=ks.size
  ·have y:Pk.write ks.data.toList l=Pk.Ew [] ks.data.toList l:=(by unfold Pk.write;rw[if_pos ⟨F,by rw[Q.o,N]⟩]);rw[y];have Jx:=aa F;have Z:((l.length:Int) !=ks.size)=false:=(by rw[bne_eq_false_iff_eq];omega);have wC:=aa N;obtain⟨L,R⟩:=ξx l.length;have I:=aa R;rw[<-R] at Z P |-;clear y F N R;go_enter func91,ntmps91;go_wp2_with fail;refine (O.o _).mono ?_;rintro e w1 ⟨rfl,rfl⟩;go_wp2_with fail
   go_loopw [6,21] (fun u i wr=>∃k:Nat,k<=L/\i=bf ct k/\∃acc:List UInt8,Hid (acc.length<=k*10008/\Pk.Ew [] ks.data.toList l=Pk.Ew acc (ks.data.toList.drop k) (l.drop k))/\Hid (iZ w1.heap.size wr u acc)/\Hid (Below w1.heap.size w1 wr)) (fun _ i _=>L-(RowKit.intOf i).toNat)
   case atStart=>exact⟨0,aA _,rfl,[],aa ⟨aA _,rfl⟩,aa (Own.nil _ _ _ _),aa (Below.refl _ _)⟩
   case round=>
    obtain⟨k,hk',rfl,acc,J,HO,x⟩:=hrel;by_cases hlt:k<L
    ·have pM:(k:Int)<L:=κ;have d:k<l.length:=(by have:=I.o;omega);have C:k<ks.size:=(by have:=I.o;have:=wC.o;omega);have aen:(k:Int)<ks.size:=κ;obtain⟨hn,g,o,rfl,hg,hc⟩:=HC.o k d;have c0:wr.cell? ⟨g,o+k*2,aK⟩=av (bf eZ l[k].n):=(x.o.cell (p:=⟨g,o+k*2,aK⟩) hg).trans (hc k d).1;have c1:wr.cell? ⟨g,o+k*2+1,aK⟩=av (cu (bs l[k].s)):=(x.o.cell (p:=⟨g,o+k*2+1,aK⟩) hg).trans (hc k d).2;have G:=aa (J.o.2.trans (Pk.QV acc ks.data.toList l k C d));have S:=Pk.oR ks.data.toList k C Jx.o;have z:=Ez.o k d;obtain⟨f,hf⟩:=ξx (l[k]);rw[<-hf] at hn c0 c1 z G;change Hid (_=match Pk.iI ks[k] f with|none=>aK|some a=>_) at G;change Pk.letter ks[k] true=true at S;obtain⟨X,T⟩:=ξx (bs f.s);rw[<-T] at c1;have m:Uz f=eU #[bf eZ f.n,cu X]:=(by rw[T];rfl);have r:=aa (show f.n<2^64/\f.s.length<=10000/\Pk.letter ks[k] true=true from⟨hn,z,S⟩);clear hc hf T hn z S;cases b:Pk.iI ks[k] f with
     |none=>
      have A:=aa (show ∀W,Calls prog 141 #[bf eD ks[k].toNat,eU #[bf eZ f.n,cu X]] W fun e w'=>e=c8 (ey false)/\Below W.heap.size W w' from fun W=>zbq);rw[b] at G;clear b m;go_wp2_with (refine wp_region_any η ?_;refine Hid.o ?_);refine aa ?_;try (change wpAny _ _ _ _ _ _ _ (bu _))
      refine tk 0 ?_;refine tk 1 ?_;refine tk 2 ?_;refine rd [3] (rn fun K H=> ?_);go_simp;refine H _ _ ?_;clear H K;refine rd [4] (rn fun K H=> ?_);go_simp;refine (A.o _).mono ?_;rintro e w3 ⟨rfl,B⟩;refine H _ _ ?_;clear H K;refine rd [5] (rn fun K H=> ?_);go_simp;refine H _ _ ?_;clear H K;refine wpAny_done η ?_ _;clear c0 c1;go_wp2
      go_ret2
      have M:Below w1.heap.size w1 w3:=(x.o.trans ((Below.refl _ wr).alloc x.o.size _).drew).trans (B.mono (by have:=x.o.size;simp;omega));exact⟨by rw[G.o];rfl,M⟩
     |some t=>
      have A:=aa (show ∀W,Calls prog 141 #[bf eD ks[k].toNat,eU #[bf eZ f.n,cu X]] W fun e w'=>e=c8 (ey true)/\Below W.heap.size W w' from fun W=>zbq);have U:=aa (Pk.Nb b);have D:acc.length<=1000800:=by have:=J.o.1;omega
      have UB:=aa (show ∀W u,iZ w1.heap.size W u acc->w1.heap.size<=W.heap.size->Calls prog 142 #[u,bf eD ks[k].toNat,eU #[bf eZ f.n,cu X]] W fun e w'=>∃v',e=c8 v'/\iZ w1.heap.size w' v' (acc++t)/\Below w1.heap.size W w' from fun W u h1 h2=>by
       have:=xP ks[k] f t w1.heap.size W u acc b r.o.2.2 h1 h2 κ r.o.1 (by have:=r.o;omega);rw[m] at this;exact this)
      rw[b] at G;clear b m D;go_wp2_with (refine wp_region_any η ?_;refine Hid.o ?_);refine aa ?_;try (change wpAny _ _ _ _ _ _ _ (bu _))
      refine tk 0 ?_;refine tk 1 ?_;refine tk 2 ?_;refine rd [3] (rn fun K H=> ?_);go_simp;refine H _ _ ?_;clear H K;refine rd [4] (rn fun K H=> ?_);go_simp;refine (A.o _).mono ?_;rintro e w3 ⟨rfl,B⟩;refine H _ _ ?_;clear H K;refine rd [5] (rn fun K H=> ?_);go_simp;refine H _ _ ?_;clear H K;refine wpAny_done η ?_ _;clear c0 c1;have M:Below w1.heap.size w1 w3:=(x.o.trans ((Below.refl _ wr).alloc x.o.size _).drew).trans (B.mono (by have:=x.o.size;simp;omega));have q:aW w3 wr.heap.size 179 [bf eZ f.n,cu X]:=(aW.new wr #[bf eZ f.n,cu X] 179).drew.below B ν;have c0:=q.cell (j:=0) rfl;have c1:=q.cell (j:=1) rfl;have Jz:iZ w1.heap.size w3 u6 acc:=(HO.o.alloc _).drew.below B ν;have V:=aa (And.intro M Jz);clear B q M Jz;go_wp2_with (refine wp_region_any η ?_;refine Hid.o ?_);refine aa ?_;try (change wpAny _ _ _ _ _ _ _ (bu _))
      refine tk 0 ?_;refine tk 1 ?_;refine tk 2 ?_;refine tk 3 ?_;refine rd [4] (rn fun K H=> ?_);go_simp;refine H _ _ ?_;clear H K;refine rd [5] (rn fun K H=> ?_);go_simp;refine (UB.o _ _ V.o.2.drew V.o.1.size).mono ?_;rintro e w4 ⟨v4,rfl,oP,E⟩;refine H _ _ ?_;clear H K;refine rd [6] (rn fun K H=> ?_);go_simp;refine H _ _ ?_;clear H K;refine wpAny_done η ?_ _;have H4:=aa (And.intro oP (V.o.1.drew.trans E));clear oP E c0 c1;go_wp2;go_roundw
      case rel=>exact⟨k+1,κ,ς,acc++t,aa ⟨by rw[aq];have:=J.o.1;have:=U.o;have:=r.o.2.1;omega,G.o⟩,aa H4.o.1,aa H4.o.2⟩
      case measure=>simp[RowKit.intOf];omega
    ·have mh:k=L:=κ;subst mh;have hbk:=HO.o.back
     have HZ:=aa (show Pk.Ew [] ks.data.toList l=av acc by
      rw[J.o.2,List.drop_of_length_le (by rw[Q.o];have:=I.o;have:=wC.o;omega),List.drop_of_length_le (by have:=I.o;omega)];rfl)
     go_wp2
     go_ret2
     exact⟨by rw[HZ.o];rfl,x.o⟩
  ·have y:Pk.write ks.data.toList l=none:=(by unfold Pk.write;rw[if_neg (by rw[Q.o];exact fun e=>N e.2.symm)]);rw[y];have Z:((l.length:Int) !=ks.size)=true:=(by rw[bne_iff_ne];omega);clear y F N;go_enter func91,ntmps91;go_wp2_with fail;exact zan
def XP (o:Option (List Pk.Fd)) (B:Nat) (e:Ending) (w':World):Prop:=match o with
 |some l=>∃v',e=c8 (ec #[v',ey true])/\Own ko 179 B w' v' l
 |none=>e=c8 (ec #[cx aK 0 0,ey false])
namespace Pk
theorem QW (acc:List Fd) (k s:Text) (i:Nat) (h:i<k.length):Ex acc (k.drop i) s=match dw k[i] s with
  |none=>aK
  |some p=>Ex (acc++[p.1]) (k.drop (i+1)) p.2:=by
 rw[cE h,Ex];cases dw k[i] s<;>rfl
theorem FP {c:UInt8} {s t:Text} {f:Fd} (h:dw c s=av (f,t)):t.length<=s.length/\f.s.length<=s.length/\(width c<=8->f.n<2^64):=by
 unfold dw at h
 split at h
 ·injection h with h;injection h with e1 e2;subst e1 e2;exact⟨ν,ν,fun _=>by show 0<2^64;decide⟩
 ·split at h
  ·split at h
   ·cases h
   ·split at h
    ·cases h
    ·injection h with h;injection h with e1 e2;subst e1 e2;refine⟨by simp<;>omega,by simp<;>omega,fun _=>by show 0<2^64;decide⟩
  ·split at h
   ·cases h
   ·injection h with h;injection h with e1 e2;subst e1 e2;refine⟨ν,ν,fun b=> ?_⟩;have H:=Wl.l9 (s.take (width c));have a:(s.take (width c)).length<=8:=zaE;have h3:256^(s.take (width c)).length<=256^8:=Nat.pow_le_pow_right ξ a;exact bL H (aN h3 ξ)
end Pk
theorem zH (ks:ByteArray) (s:List UInt8) (w:World) (hk:ks.size<=100) (hs:s.length<=1000000):
  Calls prog 101 #[cu ks,cu (bs s)] w fun e w'=>XP (Pk.read ks.data.toList s) w.heap.size e w'/\Below w.heap.size w w':=by
 have ya:(ks.size:Int)<=100:=κ
 have z:=aa (show ks.data.toList.length=ks.size from aU);have h:=aG s;cases F:Pk.right ks.data.toList with
 |false=>
  have H:Pk.read ks.data.toList s=none:=by unfold Pk.read;rw[if_neg (by rw[F];decide)]
  rw[H];have O:=aa (show ∀W,Calls prog 140 #[cu ks] W fun e w'=>e=c8 (ey false)/\w'=W from fun W=>zaN);clear H F;go_enter func101,ntmps101;go_wp2_with fail;exact zan
 |true=>
  have O:=aa (show ∀W,Calls prog 140 #[cu ks] W fun e w'=>e=c8 (ey true)/\w'=W from fun W=>zaN);by_cases N:ks.size<=s.length+1
  ·have H:Pk.read ks.data.toList s=Pk.Ex [] ks.data.toList s:=(by unfold Pk.read;rw[if_pos F]);rw[H];have E:=aa F;have I:=aa hs;obtain⟨X,a⟩:=ξx (bs s);have K:=aa a;rw[<-a] at h |-;have L:decide ((X.size:Int)+1<ks.size)=false:=(by rw[decide_eq_false_iff_not];omega);have r:(X.size:Int)<=1000000:=κ;clear H F N a h hs;go_enter func101,ntmps101;go_wp2_with fail;refine (O.o _).mono ?_;rintro e w1 ⟨rfl,rfl⟩;go_wp2_with (at_make;refine Hid.o ?_);refine aa ?_;refine C6 aaE rfl _ _ rfl w1.heap.size (af _) ks.size ks.size rfl rfl rfl κ ?_;intro w2 G A;have d:=aa (And.intro G ((Below.refl _ w1).trans ((aE.dK A).below (af _) (fun k _ e=>zaH))));generalize (Value.slice (av ⟨w1.heap.size,0,aK⟩) 0 ks.size)=u2 at*;clear G A;go_wp2_with fail
   go_loopw [1,6,7] (fun sv u i wr=>∃k:Nat,k<=ks.size/\i=bf ct k/\∃(acc:List Pk.Fd) (t:List UInt8),sv=cu (bs t)/\Hid (t.length<=s.length/\Pk.Ex [] ks.data.toList s=Pk.Ex acc (ks.data.toList.drop k) t/\acc.length=k)/\Hid (Own ko 179 w1.heap.size wr u acc)/\Hid (Below w1.heap.size w1 wr)) (fun _ _ i _=>ks.size-(RowKit.intOf i).toNat)
   case atStart=>exact⟨0,aA _,rfl,[],s,by rw[K.o],aa ⟨af _,rfl,rfl⟩,aa d.o.1,aa d.o.2⟩
   case round=>
    obtain⟨k,M,rfl,acc,t,rfl,b,C,c⟩:=hrel;by_cases j:k<ks.size
    ·have pM:(k:Int)<ks.size:=κ;have J:=Pk.oR ks.data.toList k j E.o;change Pk.letter ks[k] true=true at J;have g:=aa (b.o.2.1.trans (Pk.QW acc ks.data.toList t k j));change Hid (_=match Pk.dw ks[k] t with|none=>aK|some p=>_) at g;have S:=aa (fun W=>zG ks[k] t W J (by have:=b.o.1;have:=I.o;omega));clear J;cases Q:Pk.dw ks[k] t with
     |none=>
      rw[Q] at g S;change Hid (_=aK) at g;clear Q;unfold XO Uz at S;simp only at S;go_wp2_with fail;refine (S.o _).mono ?_;rintro e w3 ⟨rfl,B⟩;have P:=aa (c.o.trans (B.mono c.o.size));clear B;go_wp2
      go_ret2
      exact⟨by rw[g.o];exact rfl,P.o.alloc P.o.size _⟩
     |some p=>
      obtain⟨f,t'⟩:=p;rw[Q] at g S;change Hid (_=Pk.Ex (acc++[f]) (ks.data.toList.drop (k+1)) t') at g;have R:=aa (Pk.FP Q);clear Q;unfold XO Uz at S;simp only at S;obtain⟨n,fs⟩:=f;obtain⟨Y,v⟩:=ξx (bs fs);have T:=aa v;simp only[<-v] at S;clear v;go_wp2_with fail;refine (S.o _).mono ?_;rintro e w3 ⟨rfl,B⟩;have P:=aa (c.o.trans (B.mono c.o.size));have m:=aa (C.o.below B (af _));clear B;go_wp2_with (at_builtin;refine Hid.o ?_);refine aa ?_;have U:=P.o.size
      refine gP aaE rfl _ _ rfl rfl ((m.o.alloc _).alloc _) zay (w3.heap.size+1) 0 1 1 [⟨n,fs⟩] rfl rfl (bg.dZ (cs:=[bf eZ n,cu Y]) (by
       have:=aW.new (w3.alloc (dg #[bf eZ n,cu Y] 179)) #[bf eZ n,cu Y] 179;rw[aY] at this;exact this) (by rw[T.o];rfl)) (by have:=b.o.2.2;omega) ?_
      intro v' w4 oP iE;have D:=aa (And.intro oP (((P.o.alloc P.o.size _).alloc zay _).trans ((aE.dK iE).below zay (fun i hi e=>by have:=(m.o.block i e).1;omega))));clear oP iE U;go_wp2;go_roundw
      case rel=>exact⟨k+1,κ,ς,acc++[⟨n,fs⟩],t',rfl,aa ⟨by have:=b.o.1;have:=R.o.1;omega,g.o,by rw[aq,b.o.2.2];rfl⟩,aa D.o.1,aa D.o.2⟩
      case measure=>simp[RowKit.intOf];omega
    ·have V:k=ks.size:=κ;subst V
     have x:=aa (show Pk.Ex [] ks.data.toList s=if t=[] then av acc else aK by
      rw[b.o.2.1,List.drop_of_length_le (by rw[z.o];exact af _)];rfl)
     by_cases q:t=[]
     ·have y:=aa (x.o.trans (if_pos q));clear x;subst q;have Z:(bs ([]:List UInt8)).toList.isEmpty=true:=(by rw[bN];rfl);go_wp2
      go_ret2
      exact⟨by rw[y.o];exact⟨_,rfl,C.o⟩,c.o⟩
     ·have hne:(bs t).toList.isEmpty=false:=by
       rw[bN];cases t with
       |nil=>exact absurd rfl q
       |cons _ _=>rfl
      have xQ:¬bs t=⟨#[]⟩:=fun e=>q ((zD t).1 e);go_wp2
      go_ret2
      exact⟨by rw[x.o,if_neg q];exact rfl,c.o⟩
  ·have H:Pk.read ks.data.toList s=none:=by
    cases hr:Pk.read ks.data.toList s with
    |none=>rfl
    |some l=>exact absurd (Pk.PX hr).1 (by rw[z.o];exact N)
   rw[H];obtain⟨X,a⟩:=ξx (bs s);rw[<-a] at h |-;have L:(ks.size:Int)>(X.size:Int)+1:=κ;have r:(X.size:Int)<=1000000:=κ;clear H F N a h hs;go_enter func101,ntmps101;go_wp2_with fail;exact zan
def EA (c:Ch.C):Value:=eU #[cu (bs c.id),bf ct c.page,bf ct c.text.length,bf ct c.count]
theorem FR (w:World) (l:List Pk.Fd) (hn:∀f∈l,f.n<2^64):RdF (w.alloc (dg (ko.cells l).toArray 179)) (cx (av ⟨w.heap.size,0,aK⟩) l.length l.length) l:=by
 have hl:bg ko (w.alloc (dg (ko.cells l).toArray 179)) w.heap.size 0 l:=bg.dZ (aW.new w (ko.cells l).toArray 179) rfl;refine⟨av ⟨w.heap.size,0,aK⟩,l.length,rfl,af _,fun i hi=>⟨hn _ (bp hi),w.heap.size,0,rfl,zbe,fun j h=>⟨?_, ?_⟩⟩⟩;·have:=hl.at j 0 ξ h (bf eZ l[j].n) rfl;simpa[ko] using this
 ·have:=hl.at j 1 ξ h (cu (bs l[j].s)) rfl;simpa[ko,Nat.add_assoc] using this
theorem Nh (w:World) (k:Nat) (H:k<=255):(convert 151 9 (cx (av ⟨w.heap.size,0,aK⟩) 1 1)).run prog (w.alloc (dg #[bf eD (k:Int)] 5))=.ok (cu (bs [az k])) (w.alloc (dg #[bf eD (k:Int)] 5)):=by
 have e:(k:Int)=((az k).toNat:Int):=zbk
 rw[e]
 exact run_convert_bytes_back (P:=prog) _ 151 9 5 ⟨w.heap.size,0,aK⟩ 1 [az k] η η η (by
  intro i hi;have h:i=0:=by simp at hi;omega
  subst h;exact (aW.new w #[bf eD ((az k).toNat:Int)] 5).cell rfl)
theorem zI (p:List UInt8) (k:Nat) (w:World) (H:k<=255) (hp:p.length<=1000000):
  Calls prog 43 #[cu (bs p),bf ct k] w fun e w'=>e=c8 (cu (bs (p++[az k])))/\Below w.heap.size w w':=by
 have c:=Nh w k H;have a:IntKind.u8.wrap (k:Int)=(k:Int):=by rw[IntKind.wrap_u8];omega
 have h:bs p++bs [az k]=bs (p++[az k]):=vM _ _;have d:(bs p).size+(bs [az k]).size<=9223372036854775807:=by rw[aG,aG];simp;omega
 have b:=aa ((Below.refl _ w).alloc (af _) (dg #[bf eD (k:Int)] 5));rw[<-h];generalize bs [az k]=Z at*;generalize bs p=P at*;clear h;go_enter func43,ntmps43;go_wp2;go_ret;exact⟨rfl,b.o⟩
theorem DI (p:List UInt8) (w:World) (hp:p.length<=1000000):
  Calls prog 41 #[cu (bs p)] w fun e w'=>e=c8 (cu (bs (p++[255])))/\Below w.heap.size w w':=by
 have H:=aa (zI p 255 w ξ hp);go_enter func41,ntmps41;go_wp2_with fail;refine H.o.mono ?_;rintro e w1 ⟨rfl,h⟩;go_wp2;go_ret;exact⟨rfl,h⟩
theorem wD (n:Nat) (w:World) (hn:n<2^64):
  Calls prog 52 #[bf eZ n] w fun e w'=>e=c8 (cu (bs (Wl.enc 8 n)))/\Below w.heap.size w w':=by
 have h:=aa (FR w [⟨n,[]⟩] (fun f hf=>by rw[bB.1 hf];exact hn))
 have a:=aa (show ∀(v:Value) (W:World),RdF W v [⟨n,[]⟩]->Calls prog 91 #[cu ⟨#[110]⟩,v] W fun e w'=>e=c8 (ec #[cu (bs (Wl.enc 8 n)),ey true])/\Below W.heap.size W w' from fun v W hr=>by
  have:=xx ⟨#[110]⟩ v [⟨n,[]⟩] W ξ (by show 1<=_;decide) hr (by
   intro i hi;have b:i=0:=(by simp at hi;omega);subst b;exact aA _)
  have e:Pk.write (⟨#[110]⟩:ByteArray).data.toList [⟨n,[]⟩]=av (Wl.enc 8 n):=by show Pk.write [110] _=_;unfold Pk.write;rw[if_pos ⟨ξ,rfl⟩];simp only[Pk.Ew];rw[Ch.uc (w:=8) rfl ξ κ];rfl
  rw[e] at this;exact this)
 have H:=aa ((Below.refl _ w).alloc (af _) (dg #[bf eZ n,cu ⟨#[]⟩] 179));clear hn;go_enter func52,ntmps52;go_wp2_with fail;refine (a.o _ _ ?_).mono ?_;·exact h.o
 rintro e w1 ⟨rfl,c⟩;go_wp2;go_ret;exact⟨rfl,H.o.trans (c.mono H.o.size)⟩
theorem QZ (n:Int):IntKind.u64.wrap n=(Ch.cnt n:Int):=by rw[IntKind.wrap_u64];unfold Ch.cnt;omega
theorem Q2 {n:Int} (h:-4611686018427387904<=n) (H:n<=4611686018427387904):IntKind.i64.wrap (Ch.cnt n:Int)=n:=by rw[IntKind.wrap_i64];unfold Ch.cnt;omega
theorem FT (c:Ch.C) (h:Ch.One c) (x:ByteArray) (w:World):
  Calls prog 48 #[eU #[cu x,bf ct c.page,bf ct c.text.length,bf ct c.count]] w fun e w'=>e=c8 (cu (bs (Ch.val c)))/\Below w.heap.size w w':=by
 have hp:=h.page;have b:=h.high;have l:IntKind.u64.wrap (c.page:Int)=(c.page:Int):=zbs
 have m:IntKind.u64.wrap (c.text.length:Int)=(c.text.length:Int):=zbs
 have h3:=QZ c.count
 have d:=aa (show ∀(v:Value) (W:World),RdF W v (Ch.rL c)->Calls prog 91 #[cu ⟨#[104,98,110]⟩,v] W fun e w'=>e=c8 (ec #[cu (bs (Ch.val c)),ey true])/\Below W.heap.size W w' from fun v W hr=>by
  have:=xx ⟨#[104,98,110]⟩ v (Ch.rL c) W ξ (by show 3<=_;decide) hr (fun i hi=>Ch.Xq c _ (bp hi));rw[show (⟨#[104,98,110]⟩:ByteArray).data.toList=Ch.kinds from rfl,Ch.BX h] at this;exact this)
 have f:=aa (show ∀W:World,RdF (W.alloc (dg #[bf eZ c.page,cu ⟨#[]⟩,bf eZ c.text.length,cu ⟨#[]⟩,bf eZ (Ch.cnt c.count),cu ⟨#[]⟩] 179)) (cx (av ⟨W.heap.size,0,aK⟩) 3 3) (Ch.rL c) from fun W=>FR W (Ch.rL c) (Ch.Xp h));have H:=aa ((Below.refl _ w).alloc (af _) (dg #[cu x,bf ct c.page,bf ct c.text.length,bf ct c.count] 73));clear h hp b;generalize Ch.rL c=F at*;generalize bs (Ch.val c)=V at*;generalize Ch.cnt c.count=g at*;generalize c.text.length=t at*;generalize c.page=pg at*;generalize c.count=j at*;go_enter func48,ntmps48;go_wp2_with fail;refine (d.o _ _ ?_).mono ?_;·have:=f.o (w.alloc (dg #[cu x,bf ct pg,bf ct t,bf ct j] 73));rw[aY] at this;exact this
 rintro e w1 ⟨rfl,k⟩;have a:=H.o.alloc H.o.size (dg #[bf eZ pg,cu ⟨#[]⟩,bf eZ t,cu ⟨#[]⟩,bf eZ g,cu ⟨#[]⟩] 179);go_wp2;go_ret;exact⟨rfl,a.trans (k.mono a.size)⟩
theorem FU (E:Int) (w:World) (h:E≠2):Calls prog 80 #[bf ct E] w fun e w'=>e=c8 (bf ct E)/\w'=w:=by have H:(E==2)=false:=beq_eq_false_iff_ne.2 h;clear h;go_enter func80,ntmps80;go_wp2;go_ret;exact⟨rfl,rfl⟩
def gp:Elem (Nat×Int):=⟨fun x=>[bf ct x.1,bf ct x.2],2,ξ,fun _=>rfl,fun x u hu=>by
 simp only[aM,List.not_mem_nil,or_false] at hu
 rcases hu with rfl|rfl<;>rfl⟩
theorem Ni:dx prog 117 81 gp.size:=dx.of (size:=2) (bytes:=16) (z:=.agg #[.int ct 0,.int ct 0]) underlying117 η rfl ξ
abbrev oS (B:Nat) (w:World) (v:Value) (l:List (Nat×Int)):Prop:=Own gp 81 B w v l
theorem Q3 (l:List (Nat×Int)) (x:Nat×Int):Ch.txt (l++[x])=Ch.txt l++Ch.sI x:=by unfold Ch.txt;rw[List.flatMap_append];simp
theorem DJ {x:Nat×Int} (h:Ch.oG x):dO.cells (Ch.sI x)=[bf eD ((x.1:Int)/256),bf eD ((x.1:Int)%256),bf eD (x.2%256)]:=by
 obtain⟨a,H⟩:=h;refine (cv _ _ _).trans ?_;unfold Ch.sI bU Ch.byB;simp only[bI,List.map_nil,bR];rcases H with e|e
 all_goals
  rw[e]
  simp
  try omega
theorem oT {w:World} {g o:Nat} {l:List (Nat×Int)} (hl:bg gp w g o l) (hg:g<w.heap.size) (p:∀x∈l,Ch.oG x) (c:Nat) (hn:l.length<=1000):
  Calls prog 54 #[cx (av ⟨g,o,aK⟩) l.length c] w fun e w'=>e=c8 (cu (bs (Ch.txt l)))/\Below w.heap.size w w':=by
 obtain⟨L,f⟩:=ξx l.length;rw[<-f];have J:=aa f;have j:=aa (And.intro hl (And.intro hg p));have z:(L:Int)<=1000:=κ
 clear hl hg p hn f;go_enter func54,ntmps54;go_wp2
 go_loopw [3,8] (fun v I wr=>∃k:Nat,k<=L/\I=bf ct k/\Hid (iZ w.heap.size wr v (Ch.txt (l.take k))/\Below w.heap.size w wr)) (fun _ I _=>L-(RowKit.intOf I).toNat)
 case atStart=>exact⟨0,aA _,rfl,aa ⟨zbr,Below.refl _ _⟩⟩
 case round=>
  obtain⟨k,A,rfl,H⟩:=hrel;by_cases a:k<L
  ·have q:(k:Int)<L:=κ;have E:k<l.length:=(by rw[<-J.o];exact a);have h:=j.o.1.below H.o.2 j.o.2.1;have x0:=h.at k 0 ξ E (bf ct l[k].1) rfl;have X:=h.at k 1 ξ E (bf ct l[k].2) rfl;rw[show gp.size=2 from rfl] at x0 X;rw[Nat.add_zero] at x0;rw[<-Nat.add_assoc] at X;obtain⟨x,d⟩:=ξx (l[k]'E);rw[<-d] at x0 X;have m:=aa (show Ch.oG x/\l.take (k+1)=l.take k++[x] from⟨j.o.2.2 x (by rw[d];exact bp E),by rw[d];exact cz E⟩);clear h E d;obtain⟨pg,fO⟩:=x;simp only at x0 X;have B:(pg:Int)<=4096:=(by have:=m.o.1.1;simp only at this;omega);have r:(0:Int)<=(pg:Int):=κ;have s:=aa (show (Ch.txt (l.take k)).length+3<=1000000000 by rw[Ch.qV,aJ];omega);go_wp2_with (at_builtin;refine Hid.o ?_);refine aa ?_;have b:=H.o.2.size
   refine gP (K:=dO) IW rfl _ _ rfl rfl ((H.o.1.alloc _).alloc _) zay (wr.heap.size+1) 0 3 3 (Ch.sI (pg,fO)) rfl rfl (bg.dZ (cs:=[bf eD ((pg:Int)/256),bf eD ((pg:Int)%256),bf eD (fO%256)]) (by
    have:=aW.new (wr.alloc (dg #[bf ct pg,bf ct fO] 81)) #[bf eD ((pg:Int)/256),bf eD ((pg:Int)%256),bf eD (fO%256)] 5;rw[aY] at this;exact this) (DJ m.o.1).symm) s.o ?_
   intro v' W oP iE;rw[<-Q3,<-m.o.2] at oP;have t:=aa (And.intro oP (((H.o.2.alloc b (dg #[bf ct pg,bf ct fO] 81)).alloc zay (dg #[bf eD ((pg:Int)/256),bf eD ((pg:Int)%256),bf eD (fO%256)] 5)).trans ((aE.dK iE).below zay (fun i hi e=>by have:=(H.o.1.block i e).1;omega))));clear oP iE b x0 X;go_wp2;go_roundw
   case rel=>exact⟨k+1,a,ς,t⟩
   case measure=>simp[RowKit.intOf];omega
  ·obtain rfl:k=L:=by omega
   have q:¬(k:Int)<k:=κ;have n:=H.o.1;rw[bD (by rw[J.o];exact af _)] at n;have u:=n.back;have y:=aa H.o.2;clear n H;go_wp2;go_ret;exact⟨rfl,y.o⟩
theorem Q4 (x:Nat×Int) (l:List (Nat×Int)):Ch.txt (x::l)=Ch.sI x++Ch.txt l:=List.flatMap_cons
def Lp:Value->Nat
 |cu s=>s.size
 |_=>0
theorem aaG {x:Nat×Int} (h:Ch.oG x) (r:List UInt8):∃a b c:UInt8,bs (Ch.sI x++r)=bs (a::b::c::r)/\a.toNat*256+b.toNat=x.1/\(c=1/\x.2=1\/c=255/\x.2=-1):=by
 obtain⟨d,H⟩:=h;refine⟨az (x.1/256),az x.1,Ch.byB x.2,rfl, ?_, ?_⟩;·rw[bR,bR];omega
 ·rcases H with e|e;·rw[e];exact cS ⟨rfl,rfl⟩
  ·rw[e];exact dc ⟨rfl,rfl⟩
theorem Q5 (a b c:UInt8) (r:List UInt8):(bs (a::b::c::r)).extract 3 (bs (a::b::c::r)).size=bs r:=by apply ByteArray.ext;apply Array.ext';rw[jW,bJ,bJ];rfl
theorem sj (l:List (Nat×Int)) (G:∀x∈l,Ch.oG x) (hn:l.length<=1000) (I:1<=l.length) (w:World):
  Calls prog 53 #[cu (bs (Ch.txt l))] w fun e w'=>∃v,e=c8 (ec #[v,ey true])/\oS w.heap.size w' v l/\Below w.heap.size w w':=by
 have s:=aa (And.intro G (And.intro hn I));clear G hn I;go_enter func53,ntmps53;go_wp2
 go_loopw [0,4] (fun z v wr=>∃k:Nat,k<=l.length/\z=cu (bs (Ch.txt (l.drop k)))/\Hid (oS w.heap.size wr v (l.take k)/\Below w.heap.size w wr)) (fun z _ _=>Lp z)
 case atStart=>exact⟨0,aA _,by rw[List.drop_zero],aa ⟨zbr,Below.refl _ _⟩⟩
 case round=>
  obtain⟨k,R,rfl,f⟩:=hrel;by_cases H:k<l.length
  ·obtain⟨x,t⟩:=ξx (l[k]'H);have hd:l.drop k=x::l.drop (k+1):=(by rw[t];exact cE H);have A:=aa (show Ch.oG x/\l.take (k+1)=l.take k++[x] from⟨s.o.1 x (by rw[t];exact bp H),by rw[t];exact cz H⟩);obtain⟨a,b,c,J,E,B⟩:=aaG A.o.1 (Ch.txt (l.drop (k+1)));rw[hd,Q4,J];have g:(bs (a::b::c::Ch.txt (l.drop (k+1)))).size=(Ch.txt (l.drop (k+1))).length+3:=(by rw[aG];rfl);have C:=Q5 a b c (Ch.txt (l.drop (k+1)));have S:∀h,(bs (a::b::c::Ch.txt (l.drop (k+1))))[0]'h=a:=fun _=>rfl;have U:∀h,(bs (a::b::c::Ch.txt (l.drop (k+1))))[1]'h=b:=fun _=>rfl;have V:∀h,(bs (a::b::c::Ch.txt (l.drop (k+1))))[2]'h=c:=fun _=>rfl;have W:=aa (show (Ch.txt (l.drop (k+1))).length<=3000 by rw[Ch.qV,aS];have:=s.o.2.1;omega);obtain⟨Y,X⟩:∃T,T=bs (Ch.txt (l.drop (k+1))):=⟨_,rfl⟩;rw[<-X] at C;have N:=aa X;generalize bs (a::b::c::Ch.txt (l.drop (k+1)))=T at*;obtain⟨m,p⟩:=ξx ((Ch.txt (l.drop (k+1))).length);rw[<-p] at g W;have Z:=aa p;have Ey:=aa g;have Wn:(3:Int)<=T.size:=κ;have hs0:0<T.size:=κ;have hs1:1<T.size:=κ;have kH:2<T.size:=κ;have Hz:=aa H;clear g;obtain⟨pg,fO⟩:=x;simp only at E B;clear hd t J X H R p;have u:∀n,wrap64 n=IntKind.i64.wrap n:=fun n=>by unfold wrap64;rw[IntKind.wrap_i64]
   have L:bits .or ct (wrap64 (wrap64 (a.toNat:Int)*256)) (wrap64 (b.toNat:Int))=(pg:Int):=(by rw[u,u,u,sN a b,E]);have M:wrap64 (IntKind.i8.wrap (c.toNat:Int))=fO:=by
    rcases B with⟨rfl,e⟩|⟨rfl,e⟩;·rw[e];kernel_rfl
    ·rw[e];kernel_rfl
   have D:=aa (And.intro L M);have q:=A.o.1.2;simp only at q;clear u L M E B;go_wp2_with fail
   go_region
   simp only[D.o.1,D.o.2];have F:=((Below.refl _ wr).alloc (af _) (dg #[bf ct pg,bf ct fO] 81)).drew;have d:=aa (show oS w.heap.size _ _ (l.take k)/\Below w.heap.size w _ from⟨Own.below f.o.1 F (af _),f.o.2.trans (F.mono f.o.2.size)⟩);have P:=aa ((aW.new wr #[bf ct pg,bf ct fO] 81).drew);clear F f D S U V;generalize (dH wr _).drew=w3 at*;generalize wr.heap.size=pb at*;have x0:=P.o.cell (j:=0) rfl;have x1:=P.o.cell (j:=1) rfl;rcases q with rfl|rfl
   all_goals
    go_wp2_with (at_builtin;refine Hid.o ?_)
    refine aa ?_
    have O:=d.o.2.size
    refine gP (K:=gp) Ni rfl _ _ rfl rfl (d.o.1.alloc _) zay w3.heap.size 0 1 1 [(pg,_)] rfl rfl (bg.dZ (aW.new w3 #[bf ct pg,bf ct _] 81) rfl) (by rw[aJ];have:=s.o.2.1;omega) ?_
    intro v' w4 oP iE
    rw[<-A.o.2] at oP
    have H4:=aa (And.intro oP ((d.o.2.alloc O _).trans ((aE.dK iE).below zay (fun i hi e=>by have:=(d.o.1.block i e).1;omega))))
    clear oP iE O x0 x1
    go_wp2
    go_roundw
    case rel=>exact⟨k+1,Hz.o,by rw[N.o],H4⟩
    case measure=>simp only[Lp];have:Y.size=m:=(by rw[N.o,aG];exact Z.o.symm);have:=Ey.o;omega
  ·obtain rfl:k=l.length:=by omega
   rw[List.drop_length];have y:=f.o.1;rw[List.take_length] at y;have Q:=aa (And.intro y f.o.2);obtain⟨a,cap,rfl,r⟩:=Own.slice y;have hl0:(0:Int)<(l.length:Int):=(by have:=s.o.2.2;omega);have hem:(bs (Ch.txt [])).toList.isEmpty=true:=(by rw[bN];rfl);have Pj:((bs (Ch.txt [])).size:Int)=0:=rfl;clear y f r;generalize bs (Ch.txt [])=TE at*;go_wp2
   go_ret2
   exact⟨_,rfl,Q.o.1,Q.o.2⟩
theorem wE {fn:Func} {p u:Tmp} (h:fn.results=#[.cell p 73,.tmp u]) (tmps:Array Value) {w:World} {g:Nat} {v0 v1 v2 v:Value}
  (hp:tmps.getD p undef=.pointer (av ⟨g,0,aK⟩)) (hg:aW w g 73 [v0,v1,v2,v]):
  (results fn tmps).run prog w=.ok (.tuple #[.agg #[v0,v1,v2,v],tmps.getD u undef]) w:=by
 rw[results_cell_tmp h,hp];simp[asAddr,run_loadVar_row w g _ 73 _ (0,0) _ hg underlying73 rfl η,Result.andThen]
theorem Nk {w:World} {g:Nat} {t:TypeId} {a A b d:Value} (h:aW w g t [a,A,b,d]) (v0 v1 v2 V:Value):
  aW ((((w.setCell ⟨g,0,aK⟩ v0).setCell ⟨g,1,aK⟩ v1).setCell ⟨g,2,aK⟩ v2).setCell ⟨g,3,aK⟩ V) g t [v0,v1,v2,V]/\
  aE (fun k=>k=g) w ((((w.setCell ⟨g,0,aK⟩ v0).setCell ⟨g,1,aK⟩ v1).setCell ⟨g,2,aK⟩ v2).setCell ⟨g,3,aK⟩ V):=by
 have c:∀(X:World) (j:Nat) (v:Value),aE (fun k=>k=g) w X->aE (fun k=>k=g) w (X.setCell ⟨g,j,aK⟩ v):=fun X j v H=>H.setCell _ _ fun _=>rfl;exact⟨(((h.set 0 v0).set 1 v1).set 2 v2).set 3 V,c _ _ _ (c _ _ _ (c _ _ _ (c _ _ _ (aE.refl _ w))))⟩
theorem four {w:World} {g:Nat} {t:TypeId} {v0 v1 v2 v:Value} (h:aW w g t [v0,v1,v2,v]):
  w.cell? ⟨g,0,aK⟩=av v0/\w.cell? ⟨g,1,aK⟩=av v1/\w.cell? ⟨g,2,aK⟩=av v2/\w.cell? ⟨g,3,aK⟩=av v/\w.frozen? ⟨g,0,aK⟩=false/\w.frozen? ⟨g,1,aK⟩=false/\w.frozen? ⟨g,2,aK⟩=false/\w.frozen? ⟨g,3,aK⟩=false:=
 ⟨h.cell rfl,h.cell rfl,h.cell rfl,h.cell rfl,h.frozen 0,h.frozen 1,h.frozen 2,h.frozen 3⟩
structure XS (w:World) (I V:ByteArray) (X:World):Prop where
 below:Below w.heap.size w X
 pair:aW X w.heap.size 134 [cu I,cu V]
 res:aW X (w.heap.size+1) 73 [cu ⟨#[]⟩,bf ct 0,bf ct 0,bf ct 0]
theorem XS.later {w X X':World} {I V:ByteArray} (h:XS w I V X) (H:Below X.heap.size X X'):XS w I V X':=
 ⟨h.below.trans (H.mono h.below.size),h.pair.below H h.pair.lt,h.res.below H h.res.lt⟩
theorem XS.begin (w:World) (I V:ByteArray):XS w I V ((w.alloc (dg #[cu I,cu V] 134)).alloc (dg #[cu ⟨#[]⟩,bf ct 0,bf ct 0,bf ct 0] 73)):=by have hs:(w.alloc (dg #[cu I,cu V] 134)).heap.size=w.heap.size+1:=aY _ _;refine⟨((Below.refl _ w).alloc (af _) _).alloc (by rw[hs];omega) _,(aW.new w _ _).alloc _, ?_⟩;have:=aW.new (w.alloc (dg #[cu I,cu V] 134)) #[cu ⟨#[]⟩,bf ct 0,bf ct 0,bf ct 0] 73;rw[hs] at this;exact this
theorem JA (I:ByteArray) (w:World):
  Calls prog 62 #[eU #[cu I,cu ⟨#[]⟩]] w fun e w'=>e=c8 (ec #[eU #[cu ⟨#[]⟩,bf ct 0,bf ct 0,bf ct 0],ey false])/\Below w.heap.size w w':=by
 have a:=aa (show ∀W,Calls prog 101 #[cu ⟨#[104,98,110]⟩,cu ⟨#[]⟩] W fun e w'=>e=c8 (ec #[cx aK 0 0,ey false])/\Below W.heap.size W w' from fun W=>by
  have:=zH ⟨#[104,98,110]⟩ [] W ξ ξ;rw[show Pk.read (⟨#[104,98,110]⟩:ByteArray).data.toList []=aK by decide] at this;exact this)
 have H:=aa (XS.begin w I ⟨#[]⟩);go_enter func62,ntmps62;go_wp2_with fail;refine (a.o _).mono ?_;rintro e w1 ⟨rfl,h⟩;have L:=aa (H.o.later h);clear h H;obtain⟨y,Y,b,c,z,Z,d,f⟩:=four L.o.res;go_wp2;obtain⟨q,Q⟩:=Nk L.o.res (cu ⟨#[]⟩) (bf ct 0) (bf ct 0) (bf ct 0);try simp only[Exit.inBlock,Exit.then]
 refine bodyPost_ret (wE rfl _ rfl q) rfl ?_;exact⟨rfl,L.o.below.trans (Q.below L.o.below.size fun k g e=>κ)⟩
theorem zK (c:Ch.C) (h:Ch.One c) (w:World):
  Calls prog 62 #[eU #[cu (bs c.id),cu (bs (Ch.val c))]] w fun e w'=>e=c8 (ec #[EA c,ey true])/\Below w.heap.size w w':=by
 have x:=aa (show ∀W,Calls prog 101 #[cu ⟨#[104,98,110]⟩,cu (bs (Ch.val c))] W fun e w'=>(∃v',e=c8 (ec #[v',ey true])/\Own ko 179 W.heap.size w' v' (Ch.rL c))/\Below W.heap.size W w' from fun W=>by
  have:=zH ⟨#[104,98,110]⟩ (Ch.val c) W ξ (by rw[Ch.Dj];decide);rw[show (⟨#[104,98,110]⟩:ByteArray).data.toList=Ch.kinds from rfl,Ch.PY h] at this;exact this)
 have hp:=h.page;have hl:=h.low;have y:=h.high;have XG:(c.page:Int)<65536:=κ
 have z:(1:Int)<=(c.text.length:Int):=κ
 have D:(c.text.length:Int)<=128:=κ
 have E:IntKind.i64.wrap (c.page:Int)=(c.page:Int):=zaA
 have jy:IntKind.i64.wrap (c.text.length:Int)=(c.text.length:Int):=zaA
 have rP:IntKind.i64.wrap (Ch.cnt c.count:Int)=c.count:=Q2 h.min h.max;have X:=aa (show ko.cells (Ch.rL c)=[bf eZ c.page,cu ⟨#[]⟩,bf eZ c.text.length,cu ⟨#[]⟩,bf eZ (Ch.cnt c.count),cu ⟨#[]⟩] from rfl);have u:=aa (show (Ch.rL c).length=3 from rfl);unfold EA;generalize bs (Ch.val c)=V at*;generalize bs c.id=I at*;generalize Ch.rL c=FL at*;generalize Ch.cnt c.count=F at*;generalize c.count=r at*;generalize c.text.length=t at*;generalize c.page=pg at*;clear h hp hl y;have i:=aa (XS.begin w I V);go_enter func62,ntmps62;go_wp2_with fail;refine (x.o _).mono ?_;rintro e f ⟨⟨v',rfl,G⟩,A⟩;have a:=aa (i.o.later A);obtain⟨g,cap,rfl,J,n,l⟩:=Own.form G (by rw[u.o];decide);rw[u.o] at G l |-;have b:=Own.lies (K:=ko) G;have l0:=b 0 (bf eZ pg) (by rw[X.o];rfl);have L:=b 2 (bf eZ t) (by rw[X.o];rfl);have s:=b 4 (bf eZ F) (by rw[X.o];rfl);simp only[bG] at l0 L s;have x0:=a.o.pair.cell (j:=0) rfl;have H:=(Below.refl _ f).alloc (af _) (dg #[cu ⟨#[]⟩,bf ct 0,bf ct 0,bf ct 0] 73);have M:=(H.cell (p:=⟨g,0,aK⟩) n).trans l0;have N:=(H.cell (p:=⟨g,2,aK⟩) n).trans L;have O:=(H.cell (p:=⟨g,4,aK⟩) n).trans s;have P:=(H.cell (p:=⟨w.heap.size,0,aK⟩) a.o.pair.lt).trans x0;clear b G A i J n H;go_wp2_with fail
 go_region
 clear M N O P;have B:=((Below.refl _ f).alloc (af _) (dg #[cu I,bf ct pg,bf ct t,bf ct r] 73)).drew;have d:=aa (a.o.later B);have R:=aa ((aW.new f #[cu I,bf ct pg,bf ct t,bf ct r] 73).drew);have Z:=aa (show w.heap.size+1<f.heap.size from a.o.res.lt);clear B l0 L s x0;generalize (dH f _).drew=w3 at*;generalize f.heap.size=v at*;obtain⟨x0,S,T,x3,_,_,_,_⟩:=four R.o;obtain⟨y0,y1,y2,y3,z0,z1,z2,z3⟩:=four d.o.res;obtain⟨Q,q⟩:=Nk d.o.res (cu I) (bf ct pg) (bf ct t) (bf ct r);have U:=aa (d.o.below.trans (q.below d.o.below.size fun k hk e=>κ));have Y:=aa Q;have m:¬v=w.heap.size+1:=by have:=Z.o;omega
 have hn2:¬w.heap.size+1=v:=by have:=Z.o;omega
 have k1:=q.cell S m;have k2:=q.cell T m;clear Q q;go_wp2_with fail
 go_region
 clear k1 k2;go_wp2_with fail;try simp only[Exit.inBlock,Exit.then]
 refine bodyPost_ret (wE rfl _ rfl Y.o) rfl ?_;exact⟨rfl,U.o.drew⟩
end
end Go.Proofs.YtgfdijemhanfkaaGreatDoor
