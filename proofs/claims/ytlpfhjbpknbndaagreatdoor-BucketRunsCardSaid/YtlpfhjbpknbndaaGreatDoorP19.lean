/- Elder texts, cut down and merged (19). -/
import Derived.Test.YtlpfhjbpknbndaaGreatDoorP18
import Derived.Laws.ResultCell
import Derived.Deep.RegionHeldLaw
import Derived.Test.YtlpfhjbpknbndaaGreatDoorRpt
import Derived.Lib.Bytealg
import Derived.Lib.IndexLaws
import Derived.Test.YtlpfhjbpknbndaaGreatDoorPTk
set_option maxRecDepth 100000
set_option maxHeartbeats 8000000
namespace Go.Proofs.YtlpfhjbpknbndaaGreatDoor
open Value renaming int→bf,string→bR,agg→iK,bool→eX,tuple→gu,slice→cx
open IntKind renaming u64→dg,u8→gx,i64→cu
open Option renaming some→aD,none→av
open Or renaming inl→dc,inr→dn
open Ending renaming returned→eb
open Obj renaming cells→ey
open List renaming mem_cons->aX,length_append->au,append_assoc->aF,length_take->aO,length_drop->aZ,drop_eq_getElem_cons->cw,drop_of_length_le->oO,replicate->bB,getElem_mem->bI,setIfInBounds_toArray->aA,set_cons_succ->az,set_cons_zero->ay,getElem?_eq_getElem->aK,take_succ_eq_append_getElem->cC,mem_append->aj,mem_singleton->cQ,cons_append->gJ,length_singleton->ew,length_cons->a_,getElem?_map->cD
open Bool renaming eq_iff_iff->jf,and_eq_true->eH
open Nat renaming le_refl->ah,le_trans->aH,zero_le->aB,add_assoc->gH,lt_of_lt_of_le->dD,zero_add->bE
open World renaming drew->bJ,size_alloc->aS,alloc->aC
open _root_.Array renaming length_toList->bk
section
open Go.RowKit Lib
def Qi (f:Pk.Fd):Value:=iK #[bf dg f.n,bR (bs f.s)]
def gN:Elem Pk.Fd:=⟨fun f=>[bf dg f.n,bR (bs f.s)],2,by decide,fun _=>rfl,fun f u hu=>by
 simp only[aX,List.not_mem_nil,or_false] at hu
 rcases hu with rfl|rfl<;>rfl⟩
theorem Xd:dx Tryz.prog 130 134 gN.size:=dx.of (size:=2) (bytes:=24) (z:=.agg #[.int dg 0,.string .empty]) Tryz.underlying130 (by kernel_rfl) rfl (by decide)
theorem FK (n w:Nat):((n:Int)/2^(8*w)==0)=decide (n<256^w):=by
 have e:(n:Int)/2^(8*w)=((n/256^w:Nat):Int):=by rw[Int.natCast_ediv];congr 1;rw[show (256:Nat)=2^8 from rfl,<-Nat.pow_mul,Int.natCast_pow];rfl
 rw[e,jf,beq_iff_eq,decide_eq_true_eq];have hp:0<256^w:=Nat.pow_pos (by decide);constructor
 ·intro h;have h':n/256^w=0:=by omega
  exact (Nat.div_eq_zero_iff_lt hp).1 h'
 ·intro h;have h':n/256^w=0:=(Nat.div_eq_zero_iff_lt hp).2 h;omega
theorem xl (l:List UInt8):bs l=⟨#[]⟩↔l=[]:=by
 constructor;·intro h;have:=congrArg ByteArray.size h;rw[aP] at this;exact List.eq_nil_of_length_eq_zero this
 ·rintro rfl;rfl
theorem r4 {B:Nat} {w:World} (_:B<=w.heap.size) (m:Nat):Below B w (w.drewN m):=⟨rfl,rfl,rfl,ah _,fun _ _=>rfl⟩
namespace Pk
theorem zI {c:UInt8} {f:Fd} (h:width c≠0):ff c f=if f.s=[]/\f.n<256^width c then aD (Wl.enc (width c) f.n) else none:=by unfold ff;rw[if_pos h]
theorem xm (f:Fd):ff 116 f=if f.n=0/\f.s.length<=65535 then aD (Wl.enc 2 f.s.length++f.s) else none:=by
 unfold ff;rw[if_neg (by decide),if_neg (by decide:¬(116:UInt8)=114)];by_cases h:f.n=0
 ·by_cases H:f.s.length<=65535;·rw[if_neg (by simpa using h),if_neg (by omega),if_pos ⟨h,H⟩]
  ·rw[if_neg (by simpa using h),if_pos (by omega),if_neg (fun e=>H e.2)]
 ·rw[if_pos h,if_neg (fun e=>h e.1)]
theorem xp (f:Fd):ff 114 f=if f.n=0 then aD f.s else none:=by
 unfold ff;rw[if_neg (by decide),if_pos rfl];by_cases h:f.n=0;·rw[if_neg (by simpa using h),if_pos h]
 ·rw[if_pos h,if_neg h]
theorem lY {c:UInt8} (h:(c=110/\(c.toNat:Int)=110/\width c=8)\/(c=104/\(c.toNat:Int)=104/\width c=4)\/(c=98/\(c.toNat:Int)=98/\width c=1)):width c≠0/\((c.toNat:Int)==116)=false/\((c.toNat:Int)==114)=false:=by rcases h with⟨rfl,_,_⟩|⟨rfl,_,_⟩|⟨rfl,_,_⟩<;>decide
theorem oP {c:UInt8} (h:letter c true=true):(width c≠0/\((c.toNat:Int)==116)=false/\((c.toNat:Int)==114)=false)\/(c=116/\(c.toNat:Int)=116)\/(c=114/\(c.toNat:Int)=114):=by
 rcases A8 c with⟨H,a,h3,_⟩|⟨H,a,h3,_⟩|⟨H,a,h3,_⟩|⟨H,a,_,_⟩|⟨H,a,_,_⟩|⟨_,_,h4⟩;·exact dc (lY (dc ⟨H,a,h3⟩))
 ·exact dc (lY (dn (dc ⟨H,a,h3⟩)))
 ·exact dc (lY (dn (dn ⟨H,a,h3⟩)))
 ·exact dn (dc ⟨H,a⟩)
 ·exact dn (dn ⟨H,a⟩)
 ·rw[h4] at h;cases h
end Pk
theorem Dp (c:UInt8) (f:Pk.Fd) (w:World) (hc:Pk.letter c true=true) (hn:f.n<2^64) (hs:f.s.length<=1000000):
  Calls Tryz.prog 111 #[bf gx c.toNat,Qi f] w fun e w'=>e=eb (eX (Pk.ff c f).isSome)/\Below w.heap.size w w':=by
 obtain⟨n,s⟩:=f;unfold Qi;simp only at hn hs |-;have a:=aP s;have H:=xl s;have B:Below w.heap.size w (w.alloc (ey #[bf dg n,bR (bs s)] 134)):=(Below.refl _ _).alloc (ah _) _;rcases Pk.oP hc with⟨q,m,k⟩|⟨rfl,m⟩|⟨rfl,m⟩
 ·rw[Pk.zI q];have p:=FK n (Pk.width c);have t:=Pk.rX c;have K:=fun W=>nA c W;generalize (c.toNat:Int)=x at*;obtain⟨X,i⟩:∃X,X=bs s:=⟨_,rfl⟩;rw[<-i] at a H B |-;generalize Pk.width c=j at*;clear q hc;by_cases b:s=[]
  ·have l:X=⟨#[]⟩:=H.2 b;subst l;have d:(if s=[]/\n<256^j then aD (Wl.enc j n) else av).isSome=decide (n<256^j):=by
    by_cases h:n<256^j;·rw[if_pos ⟨b,h⟩,decide_eq_true h];rfl
    ·rw[if_neg (fun e=>h e.2),decide_eq_false h];rfl
   rw[d,<-p];have A:(j:Int)<=8:=(by omega);clear H b a d p;have r:=aa K;have g:=aa B;clear K B i;go_enter Tryz.func111,Tryz.ntmps111;go_wp2_with fail
   go_quiet ((go_at_call 128;exact Calls.quiet_of_same (r.o _)))
   go_wp2;go_ret;exact⟨rfl,g.o.trans (r4 g.o.size _)⟩
  ·have l:X.toList.isEmpty=false:=by
    rw[i,bt];cases s with
    |nil=>exact absurd rfl b
    |cons _ _=>rfl
   have d:(if s=[]/\n<256^j then aD (Wl.enc j n) else av).isSome=false:=(by rw[if_neg (fun e=>b e.1)];rfl);rw[d];clear H b a i d p;have r:=aa K;have g:=aa B;clear K B;go_enter Tryz.func111,Tryz.ntmps111;go_wp2_with fail
   go_quiet (fail)
   go_wp2;go_ret;exact⟨rfl,g.o.trans (r4 g.o.size _)⟩
 ·rw[Pk.xm];generalize ((116:UInt8).toNat:Int)=x at*;subst m;simp only;obtain⟨X,i⟩:∃X,X=bs s:=⟨_,rfl⟩;rw[<-i] at a B |-;have d:(if n=0/\s.length<=65535 then aD (Wl.enc 2 s.length++s) else av).isSome=(decide (n=0)&&decide (X.size<=65535)):=by rw[a];by_cases h:n=0<;>by_cases k:s.length<=65535<;>simp[h,k]
  rw[d];have y:(X.size:Int)<=1000000:=by omega
  clear H d a i hc;have g:=aa B;clear B;by_cases h:n=0
  ·subst h;by_cases k:X.size<=65535;·have U:(X.size:Int)<=65535:=(by omega);rw[decide_eq_true k];go_enter Tryz.func111,Tryz.ntmps111;go_wp2;go_ret;exact⟨rfl,g.o⟩
   ·have U:¬(X.size:Int)<=65535:=(by omega);rw[decide_eq_false k];go_enter Tryz.func111,Tryz.ntmps111;go_wp2;go_ret;exact⟨rfl,g.o⟩
  ·have u:((n:Int)==0)=false:=(by rw[beq_eq_false_iff_ne];omega);rw[decide_eq_false h];go_enter Tryz.func111,Tryz.ntmps111;go_wp2;go_ret;exact⟨rfl,g.o⟩
 ·rw[Pk.xp];generalize ((114:UInt8).toNat:Int)=x at*;subst m;simp only;have g:=aa B;clear B H a hc;have d:(if n=0 then aD s else av).isSome=((n:Int)==0):=by by_cases h:n=0<;>simp[h]
  rw[d];clear d;go_enter Tryz.func111,Tryz.ntmps111;go_wp2;go_ret;exact⟨rfl,g.o⟩
theorem Qj:∃i,Tryz.prog.info? 5=aD i/\i.zero=aD (bf gx 0)/\i.size=1/\i.bytes=1:=kY (P:=Tryz.prog) (E:=5) (size:=1) (bytes:=1) (z:=bf gx 0) (by kernel_rfl)
theorem Dq (s:List UInt8):Lib.strCells (bs s)=ec.cells s:=by rw[show ec.cells s=s.map bV from cV _ _ _];unfold Lib.strCells;rfl
theorem jK {B:Nat} {w:World} {v:Value} {l:List UInt8} {ops:Array Oper} {rest:List Oper} {o:Oper} {a:Act} {Q:Exit->Act->World->Prop} (b:o.guard=av) (x y:Operand)
  (f:o.op=.call {callee:=.builtin .append,args:=#[x,y],argTypes:=#[94,9]})
  (hs:a.eval x=v) (hown:gI B w v l) (g:B<=w.heap.size) (s:List UInt8) (j:a.eval y=.string (bs s)) (e:l.length+s.length<=900000000)
  (h:∀v' w',gI B w' v' (l++s)->w.grownBy w' v.ownBlock->wpList Tryz.prog ops Q rest (a.put o.dst v') w'):wpList Tryz.prog ops Q (o::rest) a w:=by
 obtain⟨i,hi,k,H,c⟩:=Qj;have d:=aP s;refine wpList_append_own_string (P:=Tryz.prog) w b x y 94 9 f B 5 i Tryz.underlying94 Tryz.underlying9 hi k H c v l.length (ec.cells l) hs hown (bs s) j (by unfold maxLen;omega) (by omega) g ?_;intro v' w' m n _;refine h v' w' ?_ n;unfold gI Own;rw[au,ec.b9,<-Dq s,<-d];exact m
theorem kF {B:Nat} {w w' W:World} {v:Value} {l:List UInt8} (h:Below B w w') (H:gI B w' v l) (a:B<=w.heap.size) (hg:w'.grownBy W v.ownBlock):Below B w W:=
 h.trans ((aG.qR hg).below (aH a h.size) (fun k b e=>by have:=(H.block k e).1;omega))
theorem r5 {B:Nat} {w w' W:World} {v:Value} {l:List UInt8} (h:Below B w w') (H:gI B w' v l) (a:B<=w.heap.size) (b:aG (fun k=>v.ownBlock=aD k) w'.drew W):Below B w W:=
 h.trans (((aG.refl (fun k=>v.ownBlock=aD k) w').drew.trans b (fun _ _ h=>h)).below (aH a h.size) (fun k c e=>by
  have:=(H.block k e).1;omega))
theorem yz {B:Nat} {w w' W:World} {v:Value} {l:List UInt8} (h:Below B w w') (H:gI B w' v l) (a:B<=w.heap.size) (b:aG (fun k=>v.ownBlock=aD k) w' W):Below B w W:=
 h.trans (b.below (aH a h.size) (fun k c e=>by
  have:=(H.block k e).1;omega))
theorem uA (c:UInt8) (f:Pk.Fd) (t:List UInt8) (B:Nat) (w:World) (v:Value) (l:List UInt8) (hf:Pk.ff c f=aD t) (hc:Pk.letter c true=true) (hown:gI B w v l) (z:B<=w.heap.size) (hl:l.length<=100000000) (hn:f.n<2^64) (hs:f.s.length<=1000000):
  Calls Tryz.prog 112 #[v,bf gx c.toNat,Qi f] w fun e w'=>∃v',e=eb v'/\gI B w' v' (l++t)/\Below B w w':=by
 obtain⟨n,s⟩:=f;unfold Qi;simp only at hn hs |-;have b:=aP s;have g:Below B w (w.alloc (ey #[bf dg n,bR (bs s)] 134)):=(Below.refl _ _).alloc z _;have r:gI B (w.alloc (ey #[bf dg n,bR (bs s)] 134)) v l:=hown.alloc _;have p:=aH z g.size;have H:=aa (And.intro r (And.intro g (And.intro z p)));rcases Pk.oP hc with⟨G,q,Q⟩|⟨rfl,q⟩|⟨rfl,q⟩
 ·rw[Pk.zI G] at hf;have i:s=[]/\t=Wl.enc (Pk.width c) n:=by
   split at hf
   ·next h=>injection hf with hf;exact⟨h.1,hf.symm⟩
   ·cases hf
  obtain⟨rfl,rfl⟩:=i;have A:=Pk.rX c;have I:=aa (fun W=>nA c W);have u:=aa (fun (W:World) (h:gI B W v l) (C:B<=W.heap.size)=>lE B W v l n (Pk.width c) h C (by omega) hn A);generalize (c.toNat:Int)=x at*;generalize Pk.width c=R at*;generalize bs []=X at*;clear G hc hown g r p hf hn b;go_enter Tryz.func112,Tryz.ntmps112;go_wp2_with (refine wp_region_any (by kernel_rfl) ?_;refine Hid.o ?_);refine aa ?_;try (change wpAny _ _ _ _ _ _ _ (bJ _))
  refine tk 0 ?_;refine tk 1 ?_;refine tk 3 ?_;refine rd [2,4] (AllReady.cons rfl (fun K a=> ?_) (rn fun K a=> ?_))
  focus
   go_simp
   refine a _ _ ?_;clear a K
   refine rd [4] (rn fun K a=> ?_)
   go_simp
   refine (I.o _).mono ?_
   rintro e w1 ⟨rfl,rfl⟩
   refine a _ _ ?_;clear a K
   refine rd [5] (rn fun K a=> ?_)
   go_simp
   refine (u.o _ H.o.1.drew H.o.2.2.2).mono ?_
   rintro e w1 ⟨v1,rfl,j,F,_⟩
   have J:=r5 H.o.2.1 H.o.1 H.o.2.2.1 F
   refine a _ _ ?_;clear a K
   refine rd [6] (rn fun K a=> ?_)
   go_simp
   refine a _ _ ?_;clear a K
  rotate_left
  focus
   go_simp
   refine (I.o _).mono ?_
   rintro e w1 ⟨rfl,rfl⟩
   refine a _ _ ?_;clear a K
   refine rd [2] (rn fun K a=> ?_)
   go_simp
   refine a _ _ ?_;clear a K
   refine rd [5] (rn fun K a=> ?_)
   go_simp
   refine (u.o _ H.o.1.drew H.o.2.2.2).mono ?_
   rintro e w1 ⟨v1,rfl,j,F,_⟩
   have J:=r5 H.o.2.1 H.o.1 H.o.2.2.1 F
   refine a _ _ ?_;clear a K
   refine rd [6] (rn fun K a=> ?_)
   go_simp
   refine a _ _ ?_;clear a K
  all_goals
   refine wpAny_done (by kernel_rfl) ?_ _
   go_wp2
   go_ret
   exact⟨_,rfl,j,J⟩
 ·rw[Pk.xm] at hf;have i:n=0/\s.length<=65535/\t=Wl.enc 2 s.length++s:=by
   split at hf
   ·next h=>injection hf with hf;exact⟨h.1,h.2,hf.symm⟩
   ·cases hf
  obtain⟨rfl,L,rfl⟩:=i;generalize ((116:UInt8).toNat:Int)=x at*;subst q;have u:=aa (fun (W:World) (h:gI B W v l) (C:B<=W.heap.size)=>lE B W v l s.length 2 h C (by omega) (by omega) (by decide));have M:=aa hown;have D:=aa (show l.length<=100000000/\s.length<=65535 from⟨hl,L⟩);have Y:((bs s).size:Int)=(s.length:Nat):=by omega
  have N:(s.length:Int)<=65535:=by omega
  obtain⟨X,d⟩:∃X,X=bs s:=⟨_,rfl⟩;have E:=aa d;rw[<-d] at Y H |-;clear hown g r p hf hn b d hc L hl;go_enter Tryz.func112,Tryz.ntmps112;go_wp2_with fail;refine (u.o _ H.o.1 H.o.2.2.2).mono ?_;rintro e w1 ⟨v1,rfl,j,F,V⟩;have hcell:w1.cell? ⟨w.heap.size,1,av⟩=aD (bR X):=F.cell ((aU.new w #[bf dg 0,bR X] 134).cell rfl) (fun e=>by have:=(M.o.block _ e).2;exact absurd this (Nat.lt_irrefl _));have y:=aa (And.intro j (yz H.o.2.1 H.o.1 H.o.2.2.1 F));clear j F V;go_wp2_with (at_builtin;refine Hid.o ?_);refine aa ?_;refine jK rfl _ _ rfl rfl y.o.1 (aH H.o.2.2.1 y.o.2.size) s (congrArg Value.string E.o) (by rw[au,Wl.cE];have:=D.o;omega) ?_;intro v' O k m;have P:=aa (And.intro k (kF y.o.2 y.o.1 H.o.2.2.1 m));clear k m hcell;go_wp2;go_ret;exact⟨_,rfl,by rw[<-aF];exact P.o.1,P.o.2⟩
 ·rw[Pk.xp] at hf;have i:n=0/\t=s:=by
   split at hf
   ·next h=>injection hf with hf;exact⟨h,hf.symm⟩
   ·cases hf
  obtain⟨rfl,rfl⟩:=i;generalize ((114:UInt8).toNat:Int)=x at*;subst q;have D:=aa (show l.length<=100000000/\t.length<=1000000 from⟨hl,hs⟩);obtain⟨X,d⟩:∃X,X=bs t:=⟨_,rfl⟩;have E:=aa d;rw[<-d] at H |-;clear hown g r p hf hn b d hc hl hs;go_enter Tryz.func112,Tryz.ntmps112;go_wp2_with (at_builtin;refine Hid.o ?_);refine aa ?_;refine jK rfl _ _ rfl rfl H.o.1 H.o.2.2.2 t (congrArg Value.string E.o) (by have:=D.o;omega) ?_;intro v' O k m;have P:=aa (And.intro k (kF H.o.2.1 H.o.1 H.o.2.2.1 m));clear k m;go_wp2;go_ret;exact⟨_,rfl,P.o.1,P.o.2⟩
theorem r6 {fn:Func} {p u v:Tmp} {ty:TypeId} (h:fn.results=#[.cell p ty,.tmp u,.tmp v]) (tmps:Array Value) (P:Program) (w:World):
  (results fn tmps).run P w=
   ((asAddr (tmps.getD p undef)).run P w).andThen fun a W=>((loadVar ty a).run P W).andThen fun x b=>.ok (gu #[x,tmps.getD u undef,tmps.getD v undef]) b:=by
 simp only[results,h]
 simp[Sem.run_bind,Result.andThen]
theorem pJ {fn:Func} {p u v:Tmp} (h:fn.results=#[.cell p 134,.tmp u,.tmp v]) (tmps:Array Value) (w:World) (g:Nat) (x y:Value) (fr:Nat×Nat)
  (hp:tmps.getD p undef=.pointer (aD ⟨g,0,av⟩)) (hg:w.heap[g]?=aD (ey #[x,y] 134 fr)):
  (results fn tmps).run Tryz.prog w=.ok (.tuple #[.agg #[x,y],tmps.getD u undef,tmps.getD v undef]) w:=by
 rw[r6 h,hp];simp[asAddr,run_loadVar_row w g _ 134 _ fr _ hg Tryz.underlying134 rfl (by kernel_rfl),Result.andThen]
def Tm (o:Option (Pk.Fd×Pk.Text)):Value:=match o with
 |some (f,t)=>gu #[Qi f,bR (bs t),eX true]
 |none=>gu #[Qi ⟨0,[]⟩,bR (bs []),eX false]
theorem eM {B g j:Nat} {w w':World} (h:Below B w w') (hg:B<=g) (u:Value):Below B w (w'.setCell ⟨g,j,av⟩ u):=
 h.trans ⟨rfl,rfl,rfl,by simp,fun k H=>Below.heap_setCell _ _ _ _ (by simp;omega)⟩
theorem No:(⟨#[]⟩:ByteArray)=bs []:=rfl
theorem Dr {c:UInt8} {s:Pk.Text} (h:((c.toNat:Int)==116)=false) (H:((c.toNat:Int)==114)=false):Pk.dw c s=if s.length<Pk.width c then av else aD (⟨Wl.dec (s.take (Pk.width c)),[]⟩,s.drop (Pk.width c)):=by unfold Pk.dw;rw[if_neg (by rintro rfl;cases H),if_neg (by rintro rfl;cases h)]
theorem xq (c:UInt8) (s:List UInt8) (w:World) (hc:Pk.letter c true=true) (hs:s.length<=1000000):
  Calls Tryz.prog 86 #[bf gx c.toNat,bR (bs s)] w fun e w'=>e=eb (Tm (Pk.dw c s))/\Below w.heap.size w w':=by
 have l:=aP s;obtain⟨z,m⟩:∃z,z=w.alloc (ey #[bf dg 0,bR ⟨#[]⟩] 134):=⟨_,rfl⟩;have k:Below w.heap.size w z:=by rw[m];exact (Below.refl _ _).alloc (ah _) _
 have p:aU z w.heap.size 134 [bf dg 0,bR ⟨#[]⟩]:=by rw[m];exact aU.new w #[bf dg 0,bR ⟨#[]⟩] 134
 rcases Pk.oP hc with⟨Q,r,T⟩|⟨rfl,r⟩|⟨rfl,r⟩
 ·rw[Dr r T];have U:=Pk.rX c;have O:=aa (fun W=>nA c W);generalize (c.toNat:Int)=x at*;generalize Pk.width c=C at*;have R:=aa (fun W=>tE (bs s) C W (by omega) (by omega));rw[l,bS] at R;have P:=aa (fun W=>lX (bs (s.take C)) W (by rw[aP,aO];omega));rw[bS] at P;have E:=aa (fun W=>lX (bs []) W (by decide));have H:=aa (And.intro k p);clear hc Q k p;by_cases b:s.length<C;·rw[if_pos b];go_enter Tryz.func86,Tryz.ntmps86;go_wp2_with fail;rw[<-m];clear m;refine (O.o _).mono ?_;rintro e w1 ⟨rfl,rfl⟩;go_wp2_with fail;refine (R.o _).mono ?_;rintro e t ⟨rfl,A⟩;have h:=H.o.2.below A H.o.2.lt;have q:=aa (H.o.1.trans (A.mono H.o.1.size));have c0:=h.cell (j:=0) rfl;have c1:=h.cell (j:=1) rfl;have F:=h.frozen 0;have f1:=h.frozen 1;have I:=aa h;clear h A;rw[if_pos b];rw[No];go_wp2_with fail;refine (E.o _).mono ?_;rintro e w3 ⟨rfl,rfl⟩;have h:=I.o;go_wp2;refine bodyPost_ret (pJ rfl _ _ w.heap.size _ _ _ rfl ((h.set 0 _).set 1 _)) rfl ?_;exact⟨rfl,eM (eM q.o (ah _) _) (ah _) _⟩
  ·rw[if_neg b];go_enter Tryz.func86,Tryz.ntmps86;go_wp2_with fail;rw[<-m];clear m;refine (O.o _).mono ?_;rintro e w1 ⟨rfl,rfl⟩;go_wp2_with fail;refine (R.o _).mono ?_;rintro e t ⟨rfl,A⟩;have h:=H.o.2.below A H.o.2.lt;have q:=aa (H.o.1.trans (A.mono H.o.1.size));have c0:=h.cell (j:=0) rfl;have c1:=h.cell (j:=1) rfl;have F:=h.frozen 0;have f1:=h.frozen 1;have I:=aa h;clear h A;rw[if_neg b];obtain⟨N,G⟩:∃N,N=Wl.dec (s.take C):=⟨_,rfl⟩;rw[<-G] at P;have J:=aa G;clear G;go_wp2_with fail;refine (P.o _).mono ?_;rintro e w3 ⟨rfl,rfl⟩;have h:=I.o;go_wp2;refine bodyPost_ret (pJ rfl _ _ w.heap.size _ _ _ rfl ((h.set 0 _).set 1 _)) rfl ?_;exact⟨by rw[J.o];rfl,eM (eM q.o (ah _) _) (ah _) _⟩
 ·generalize ((116:UInt8).toNat:Int)=x at*;subst r;have L:=aa (show ∀(a:Pk.Text),a.length=2->Wl.dec a<65536 from fun a ha=>by have:=Wl.nU a;rw[ha] at this;exact this);have R:=aa (fun W=>tE (bs s) 2 W (by omega) (by omega));rw[l,bS] at R;have P:=aa (fun W=>lX (bs (s.take 2)) W (by rw[aP,aO];omega));rw[bS] at P;have S:=aa (fun W n (hn:n<=1000000)=>tE (bs (s.drop 2)) n W (by rw[aP,aZ];omega) hn);rw[aP,bS] at S;have K:=aa (fun W (a:Pk.Text) (ha:a.length<=s.length)=>nB (bs a) W (by rw[aP];omega));have H:=aa (And.intro k p);clear hc k p;by_cases b:s.length<2;·have f:Pk.dw 116 s=none:=(by unfold Pk.dw;rw[if_neg (by decide),if_pos rfl,if_pos b]);rw[f];clear f;go_enter Tryz.func86,Tryz.ntmps86;go_wp2_with fail;rw[<-m];clear m;refine (R.o _).mono ?_;rintro e t ⟨rfl,A⟩;have h:=H.o.2.below A H.o.2.lt;have q:=aa (H.o.1.trans (A.mono H.o.1.size));have c0:=h.cell (j:=0) rfl;have c1:=h.cell (j:=1) rfl;have F:=h.frozen 0;have f1:=h.frozen 1;have I:=aa h;clear h A;rw[if_pos b];have h:=I.o;go_wp2;refine bodyPost_ret (pJ rfl _ _ w.heap.size _ _ _ rfl ((h.set 0 _).set 1 _)) rfl ?_;exact⟨rfl,eM (eM q.o (ah _) _) (ah _) _⟩
  ·have g:(s.take 2).length=2:=(by rw[aO];omega);have hd:=L.o _ g;by_cases D:(s.drop 2).length<Wl.dec (s.take 2);·have f:Pk.dw 116 s=none:=(by unfold Pk.dw;rw[if_neg (by decide),if_pos rfl,if_neg b,if_pos D]);rw[f];clear f g;generalize Wl.dec (s.take 2)=N at*;go_enter Tryz.func86,Tryz.ntmps86;go_wp2_with fail;rw[<-m];clear m;refine (R.o _).mono ?_;rintro e t ⟨rfl,A⟩;have h:=H.o.2.below A H.o.2.lt;have q:=aa (H.o.1.trans (A.mono H.o.1.size));have c0:=h.cell (j:=0) rfl;have c1:=h.cell (j:=1) rfl;have F:=h.frozen 0;have f1:=h.frozen 1;have I:=aa h;clear h A;rw[if_neg b];have V:(N:Int)<65536:=(by omega);have M:=aa hd;clear hd c0 c1 F f1;go_wp2_with fail;refine (P.o _).mono ?_;rintro e w3 ⟨rfl,rfl⟩;go_wp2_with fail;refine (S.o _ N (by have:=M.o;omega)).mono ?_;rintro e w3 ⟨rfl,B⟩;have u:=I.o.below B I.o.lt;have v:=aa (q.o.trans (B.mono q.o.size));have y:=aa u;clear u B;rw[if_pos D];go_wp2_with fail;refine (K.o _ [] (aB _)).mono ?_;rintro e X ⟨rfl,d⟩;have h:=y.o.below d y.o.lt;have i:=aa (v.o.trans (d.mono v.o.size));have c0:=h.cell (j:=0) rfl;have c1:=h.cell (j:=1) rfl;have F:=h.frozen 0;have f1:=h.frozen 1;clear d;go_wp2;refine bodyPost_ret (pJ rfl _ _ w.heap.size _ _ _ rfl ((h.set 0 _).set 1 _)) rfl ?_;exact⟨rfl,eM (eM i.o (ah _) _) (ah _) _⟩
   ·have f:Pk.dw 116 s=aD (⟨0,(s.drop 2).take (Wl.dec (s.take 2))⟩,(s.drop 2).drop (Wl.dec (s.take 2))):=(by unfold Pk.dw;rw[if_neg (by decide),if_pos rfl,if_neg b,if_neg D]);rw[f];clear f g;generalize Wl.dec (s.take 2)=N at*;go_enter Tryz.func86,Tryz.ntmps86;go_wp2_with fail;rw[<-m];clear m;refine (R.o _).mono ?_;rintro e t ⟨rfl,A⟩;have h:=H.o.2.below A H.o.2.lt;have q:=aa (H.o.1.trans (A.mono H.o.1.size));have c0:=h.cell (j:=0) rfl;have c1:=h.cell (j:=1) rfl;have F:=h.frozen 0;have f1:=h.frozen 1;have I:=aa h;clear h A;rw[if_neg b];have V:(N:Int)<65536:=(by omega);have M:=aa hd;clear hd c0 c1 F f1;go_wp2_with fail;refine (P.o _).mono ?_;rintro e w3 ⟨rfl,rfl⟩;go_wp2_with fail;refine (S.o _ N (by have:=M.o;omega)).mono ?_;rintro e w3 ⟨rfl,B⟩;have u:=I.o.below B I.o.lt;have v:=aa (q.o.trans (B.mono q.o.size));have y:=aa u;clear u B;rw[if_neg D];go_wp2_with fail;refine (K.o _ ((s.drop 2).take N) (by rw[aO,aZ];omega)).mono ?_;rintro e X ⟨rfl,d⟩;have h:=y.o.below d y.o.lt;have i:=aa (v.o.trans (d.mono v.o.size));have c0:=h.cell (j:=0) rfl;have c1:=h.cell (j:=1) rfl;have F:=h.frozen 0;have f1:=h.frozen 1;clear d;go_wp2;refine bodyPost_ret (pJ rfl _ _ w.heap.size _ _ _ rfl ((h.set 0 _).set 1 _)) rfl ?_;exact⟨by rw[List.drop_drop];rfl,eM (eM i.o (ah _) _) (ah _) _⟩
 ·have f:Pk.dw 114 s=aD (⟨0,s⟩,[]):=by unfold Pk.dw;rw[if_pos rfl]
  rw[f];generalize ((114:UInt8).toNat:Int)=x at*;subst r;have K:=aa (fun W=>nB (bs s) W (by omega));have H:=aa (And.intro k p);clear hc k p f;go_enter Tryz.func86,Tryz.ntmps86;go_wp2_with fail;rw[<-m];clear m;refine (K.o _).mono ?_;rintro e t ⟨rfl,A⟩;have h:=H.o.2.below A H.o.2.lt;have q:=aa (H.o.1.trans (A.mono H.o.1.size));have c0:=h.cell (j:=0) rfl;have c1:=h.cell (j:=1) rfl;have F:=h.frozen 0;have f1:=h.frozen 1;clear A;go_wp2;refine bodyPost_ret (pJ rfl _ _ w.heap.size _ _ _ rfl ((h.set 0 _).set 1 _)) rfl ?_;exact⟨rfl,eM (eM q.o (ah _) _) (ah _) _⟩
def RdF (w:World) (v:Value) (l:List Pk.Fd):Prop:=
 ∃(a:Option Addr) (cap:Nat),v=cx a l.length cap/\l.length<=cap/\∀i (_:i<l.length),l[i].n<2^64/\∃g o,a=aD ⟨g,o,av⟩/\g<w.heap.size/\
  ∀j (h:j<l.length),w.cell? ⟨g,o+j*2,av⟩=aD (bf dg l[j].n)/\w.cell? ⟨g,o+j*2+1,av⟩=aD (bR (bs l[j].s))
namespace Pk
theorem nC:∀(l:Text) (k:Nat) (h:k<l.length),right l=true->letter l[k] true=true
 |c::r,0,_,hr=>by
  simp only[right,eH] at hr;have:=hr.1;unfold letter at this |-;simp only[Bool.or_eq_true,eH,List.getElem_cons_zero,Bool.and_true] at this |-;rcases this with h|h;·exact dc h
  ·exact dn h.1
 |c::r,k+1,h,hr=>by simp only[right,eH] at hr;exact nC r k (by simpa using h) hr.2
theorem JX {c:UInt8} {f:Fd} {t:Text} (h:ff c f=aD t):t.length<=f.s.length+8:=by
 unfold ff at h;have H:=rX c
 split at h
 ·split at h
  ·injection h with h;subst h;rw[Wl.cE];omega
  ·cases h
 ·split at h
  ·cases h
  ·split at h
   ·injection h with h;subst h;omega
   ·split at h
    ·cases h
    ·injection h with h;subst h;rw[au,Wl.cE];omega
theorem Nq (acc k:Text) (l:List Fd) (i:Nat) (h:i<k.length) (H:i<l.length):Di acc (k.drop i) (l.drop i)=match ff k[i] l[i] with
  |none=>av
  |some a=>Di (acc++a) (k.drop (i+1)) (l.drop (i+1)):=by
 rw[cw h,cw H,Di];cases ff k[i] l[i]<;>rfl
end Pk
def aaE (o:Option Pk.Text):Value:=match o with
 |some t=>gu #[bR (bs t),eX true]
 |none=>gu #[bR ⟨#[]⟩,eX false]
theorem Dt (ks:ByteArray) (v:Value) (l:List Pk.Fd) (w:World) (hk:ks.size<=100) (Q9:l.length<=9223372036854775807) (hr:RdF w v l) (hs:∀i (h:i<l.length),l[i].s.length<=10000):
  Calls Tryz.prog 71 #[bR ks,v] w fun e w'=>e=eb (aaE (Pk.write ks.data.toList l))/\Below w.heap.size w w':=by
 have uD:(ks.size:Int)<=100:=by omega
 have O:(l.length:Int)<=9223372036854775807:=by omega
 obtain⟨a,cap,rfl,Y,c⟩:=hr;have HC:=aa c;have Bq:=aa hs;have P:=aa (show ks.data.toList.length=ks.size from bk);clear c hs;cases D:Pk.right ks.data.toList with
 |false=>
  have x:Pk.write ks.data.toList l=none:=by unfold Pk.write;rw[if_neg (by rw[D];exact fun e=>by cases e.1)]
  rw[x];have Q:=aa (show ∀W,Calls Tryz.prog 85 #[bR ks] W fun e w'=>e=eb (eX false)/\w'=W from fun W=>by have:=pI ks W (by omega);rw[D] at this;exact this);clear x D;go_enter Tryz.func71,Tryz.ntmps71;go_wp2_with fail;refine (Q.o _).mono ?_;rintro e w1 ⟨rfl,rfl⟩;go_wp2
  go_ret2
  exact⟨rfl,Below.refl _ _⟩
 |true=>
  have Q:=aa (show ∀W,Calls Tryz.prog 85 #[bR ks] W fun e w'=>e=eb (eX true)/\w'=W from fun W=>by have:=pI ks W (by omega);rw[D] at this;exact this);by_cases G:l.length=ks.size
  ·have x:Pk.write ks.data.toList l=Pk.Di [] ks.data.toList l:=(by unfold Pk.write;rw[if_pos ⟨D,by rw[P.o,G]⟩]);rw[x];have SL:=aa D;have Z:((l.length:Int) !=ks.size)=false:=(by rw[bne_eq_false_iff_eq];omega);have rI:=aa G;obtain⟨L,R⟩:∃L,L=l.length:=⟨_,rfl⟩;have J:=aa R;rw[<-R] at Z O |-;clear x D G R;go_enter Tryz.func71,Tryz.ntmps71;go_wp2_with fail;refine (Q.o _).mono ?_;rintro e w1 ⟨rfl,rfl⟩;go_wp2_with fail
   go_loopw [6,21] (fun u i wr=>∃k:Nat,k<=L/\i=bf cu k/\∃acc:List UInt8,Hid (acc.length<=k*10008/\Pk.Di [] ks.data.toList l=Pk.Di acc (ks.data.toList.drop k) (l.drop k))/\Hid (gI w1.heap.size wr u acc)/\Hid (Below w1.heap.size w1 wr)) (fun _ i _=>L-(RowKit.intOf i).toNat)
   case atStart=>exact⟨0,aB _,rfl,[],aa ⟨aB _,rfl⟩,aa (Own.nil _ _ _ _),aa (Below.refl _ _)⟩
   case round=>
    obtain⟨k,hk',rfl,acc,M,HO,r⟩:=hrel;by_cases hlt:k<L
    ·have lJ:(k:Int)<L:=(by omega);have d:k<l.length:=(by have:=J.o;omega);have A:k<ks.size:=(by have:=J.o;have:=rI.o;omega);have abK:(k:Int)<ks.size:=(by omega);obtain⟨hn,g,o,rfl,hg,hc⟩:=HC.o k d;have c0:wr.cell? ⟨g,o+k*2,av⟩=aD (bf dg l[k].n):=(r.o.cell (p:=⟨g,o+k*2,av⟩) hg).trans (hc k d).1;have c1:wr.cell? ⟨g,o+k*2+1,av⟩=aD (bR (bs l[k].s)):=(r.o.cell (p:=⟨g,o+k*2+1,av⟩) hg).trans (hc k d).2;have I:=aa (M.o.2.trans (Pk.Nq acc ks.data.toList l k A d));have S:=Pk.nC ks.data.toList k A SL.o;have y:=Bq.o k d;obtain⟨f,hf⟩:∃f,f=l[k]:=⟨_,rfl⟩;rw[<-hf] at hn c0 c1 y I;change Hid (_=match Pk.ff ks[k] f with|none=>av|some a=>_) at I;change Pk.letter ks[k] true=true at S;obtain⟨X,T⟩:∃X,X=bs f.s:=⟨_,rfl⟩;rw[<-T] at c1;have C:Qi f=iK #[bf dg f.n,bR X]:=(by rw[T];rfl);have q:=aa (show f.n<2^64/\f.s.length<=10000/\Pk.letter ks[k] true=true from⟨hn,y,S⟩);clear hc hf T hn y S;cases b:Pk.ff ks[k] f with
     |none=>
      have z:=aa (show ∀W,Calls Tryz.prog 111 #[bf gx ks[k].toNat,iK #[bf dg f.n,bR X]] W fun e w'=>e=eb (eX false)/\Below W.heap.size W w' from fun W=>by have:=Dp ks[k] f W q.o.2.2 q.o.1 (by have:=q.o;omega);rw[b,C] at this;exact this);rw[b] at I;clear b C;go_wp2_with (refine wp_region_any (by kernel_rfl) ?_;refine Hid.o ?_);refine aa ?_;try (change wpAny _ _ _ _ _ _ _ (bJ _))
      refine tk 0 ?_;refine tk 1 ?_;refine tk 2 ?_;refine rd [3] (rn fun K H=> ?_);go_simp;refine H _ _ ?_;clear H K;refine rd [4] (rn fun K H=> ?_);go_simp;refine (z.o _).mono ?_;rintro e w3 ⟨rfl,B⟩;refine H _ _ ?_;clear H K;refine rd [5] (rn fun K H=> ?_);go_simp;refine H _ _ ?_;clear H K;refine wpAny_done (by kernel_rfl) ?_ _;clear c0 c1;go_wp2
      go_ret2
      have N:Below w1.heap.size w1 w3:=(r.o.trans ((Below.refl _ wr).alloc r.o.size _).drew).trans (B.mono (by have:=r.o.size;simp;omega));exact⟨by rw[I.o];rfl,N⟩
     |some t=>
      have z:=aa (show ∀W,Calls Tryz.prog 111 #[bf gx ks[k].toNat,iK #[bf dg f.n,bR X]] W fun e w'=>e=eb (eX true)/\Below W.heap.size W w' from fun W=>by have:=Dp ks[k] f W q.o.2.2 q.o.1 (by have:=q.o;omega);rw[b,C] at this;exact this);have U:=aa (Pk.JX b);have E:acc.length<=1000800:=by have:=M.o.1;omega
      have Pa:=aa (show ∀W u,gI w1.heap.size W u acc->w1.heap.size<=W.heap.size->Calls Tryz.prog 112 #[u,bf gx ks[k].toNat,iK #[bf dg f.n,bR X]] W fun e w'=>∃v',e=eb v'/\gI w1.heap.size w' v' (acc++t)/\Below w1.heap.size W w' from fun W u h1 h2=>by
       have:=uA ks[k] f t w1.heap.size W u acc b q.o.2.2 h1 h2 (by omega) q.o.1 (by have:=q.o;omega);rw[C] at this;exact this)
      rw[b] at I;clear b C E;go_wp2_with (refine wp_region_any (by kernel_rfl) ?_;refine Hid.o ?_);refine aa ?_;try (change wpAny _ _ _ _ _ _ _ (bJ _))
      refine tk 0 ?_;refine tk 1 ?_;refine tk 2 ?_;refine rd [3] (rn fun K H=> ?_);go_simp;refine H _ _ ?_;clear H K;refine rd [4] (rn fun K H=> ?_);go_simp;refine (z.o _).mono ?_;rintro e w3 ⟨rfl,B⟩;refine H _ _ ?_;clear H K;refine rd [5] (rn fun K H=> ?_);go_simp;refine H _ _ ?_;clear H K;refine wpAny_done (by kernel_rfl) ?_ _;clear c0 c1;have N:Below w1.heap.size w1 w3:=(r.o.trans ((Below.refl _ wr).alloc r.o.size _).drew).trans (B.mono (by have:=r.o.size;simp;omega));have m:aU w3 wr.heap.size 134 [bf dg f.n,bR X]:=(aU.new wr #[bf dg f.n,bR X] 134).drew.below B (by simp);have c0:=m.cell (j:=0) rfl;have c1:=m.cell (j:=1) rfl;have La:gI w1.heap.size w3 u6 acc:=(HO.o.alloc _).drew.below B (by simp);have V:=aa (And.intro N La);clear B m N La;go_wp2_with (refine wp_region_any (by kernel_rfl) ?_;refine Hid.o ?_);refine aa ?_;try (change wpAny _ _ _ _ _ _ _ (bJ _))
      refine tk 0 ?_;refine tk 1 ?_;refine tk 2 ?_;refine tk 3 ?_;refine rd [4] (rn fun K H=> ?_);go_simp;refine H _ _ ?_;clear H K;refine rd [5] (rn fun K H=> ?_);go_simp;refine (Pa.o _ _ V.o.2.drew V.o.1.size).mono ?_;rintro e w4 ⟨v4,rfl,xO,F⟩;refine H _ _ ?_;clear H K;refine rd [6] (rn fun K H=> ?_);go_simp;refine H _ _ ?_;clear H K;refine wpAny_done (by kernel_rfl) ?_ _;have H4:=aa (And.intro xO (V.o.1.drew.trans F));clear xO F c0 c1;go_wp2;go_roundw
      case rel=>exact⟨k+1,by omega,by go_num,acc++t,aa ⟨by rw[au];have:=M.o.1;have:=U.o;have:=q.o.2.1;omega,I.o⟩,aa H4.o.1,aa H4.o.2⟩
      case measure=>simp[RowKit.intOf];omega
    ·have xW:k=L:=(by omega);subst xW;have hbk:=HO.o.back
     have HZ:=aa (show Pk.Di [] ks.data.toList l=aD acc by
      rw[M.o.2,oO (by rw[P.o];have:=J.o;have:=rI.o;omega),oO (by have:=J.o;omega)];rfl)
     go_wp2
     go_ret2
     exact⟨by rw[HZ.o];rfl,r.o⟩
  ·have x:Pk.write ks.data.toList l=none:=(by unfold Pk.write;rw[if_neg (by rw[P.o];exact fun e=>G e.2.symm)]);rw[x];have Z:((l.length:Int) !=ks.size)=true:=(by rw[bne_iff_ne];omega);clear x D G;go_enter Tryz.func71,Tryz.ntmps71;go_wp2_with fail;refine (Q.o _).mono ?_;rintro e w1 ⟨rfl,rfl⟩;go_wp2
   go_ret2
   exact⟨rfl,Below.refl _ _⟩
theorem Dv (k:Nat):Lib.repeatL [0] k=bB k (0:UInt8):=by
 have:=Lib.repeatL_replicate 0 1 k
 rwa [Nat.mul_one] at this
theorem FO (k:Nat):(⟨(Lib.repeatL (⟨#[0]⟩:ByteArray).data.toList k).toArray⟩:ByteArray)=bs (bB k 0):=by rw[show (⟨#[0]⟩:ByteArray).data.toList=[0] from rfl,Dv];rfl
theorem Dw (k:Nat) (w:World) (h:k<=20):Calls Tryz.prog 72 #[bR ⟨#[0]⟩,bf cu k] w fun e w'=>e=eb (bR (bs (bB k 0)))/\Below w.heap.size w w':=by rw[<-FO];exact repeat_any ⟨#[0]⟩ k w (by omega) (by show 1*k<=_;omega)
theorem Hl (w:World) (l:List Pk.Fd) (hn:∀f∈l,f.n<2^64):RdF (w.alloc (ey (gN.cells l).toArray 134)) (cx (aD ⟨w.heap.size,0,av⟩) l.length l.length) l:=by
 have hl:bu gN (w.alloc (ey (gN.cells l).toArray 134)) w.heap.size 0 l:=bu.fN (aU.new w (gN.cells l).toArray 134) rfl;refine⟨aD ⟨w.heap.size,0,av⟩,l.length,rfl,ah _,fun i hi=>⟨hn _ (bI hi),w.heap.size,0,rfl,by rw[aS];omega,fun j h=>⟨?_, ?_⟩⟩⟩;·have:=hl.at j 0 (by decide) h (bf dg l[j].n) rfl;simpa[gN] using this
 ·have:=hl.at j 1 (by decide) h (bR (bs l[j].s)) rfl;simpa[gN,gH] using this
theorem zJ (b:Bk.B) (h:Bk.One b) (w:World):Calls Tryz.prog 46 #[qH b] w fun e w'=>e=eb (bR (bs (Bk.gB b)))/\Below w.heap.size w w':=by
 have U:=Bk.A6 h;have D:=aa (fun W=>Dw (20-b.pre.length) W (by omega))
 have M:=aa (show ∀(v:Value) (W:World),RdF W v (Bk.kU b)->Calls Tryz.prog 71 #[bR ⟨#[98,110,98,110,116,114]⟩,v] W fun e w'=>e=eb (gu #[bR (bs (Bk.gB b)),eX true])/\Below W.heap.size W w' from fun v W hr=>by
  have:=Dt ⟨#[98,110,98,110,116,114]⟩ v (Bk.kU b) W (by decide) (by show 6<=_;decide) hr (by
   intro i hi;exact Bk.Tl h i hi)
  rw[show (⟨#[98,110,98,110,116,114]⟩:ByteArray).data.toList=Bk.kinds from rfl,Bk.xj h] at this;exact this)
 obtain⟨g,I⟩:∃g:Nat,b.state=g:=⟨b.state.toNat,by have:=h.low;omega⟩;have kZ:(g:Int)<=2:=by have:=h.high;omega
 have N:(bs b.pre).size=b.pre.length:=aP _;have t:IntKind.i64.wrap (20-((bs b.pre).size:Int))=((20-b.pre.length:Nat):Int):=by rw[N,IntKind.wrap_i64];omega
 have V:IntKind.u64.wrap (g:Int)=(g:Int):=by rw[IntKind.wrap_u64];omega
 unfold qH;rw[I];obtain⟨K0,x⟩:∃K0,K0=20-b.pre.length:=⟨_,rfl⟩;rw[<-x] at t D;obtain⟨on,y⟩:∃on,on=b.on:=⟨_,rfl⟩;rw[<-y];obtain⟨u,A⟩:∃P,P=bs b.name:=⟨_,rfl⟩;obtain⟨j,E⟩:∃P,P=bs b.pre:=⟨_,rfl⟩;rw[<-A,<-E];rw[<-E] at t;obtain⟨Z,J⟩:∃Z,Z=bs (bB K0 0):=⟨_,rfl⟩;rw[<-J] at D
 have z:=aa (show (gN.cells (Bk.kU b))=[bf dg g,bR ⟨#[]⟩,bf dg b.born,bR ⟨#[]⟩,bf dg (Bk.nO on),bR ⟨#[]⟩,bf dg b.after,bR ⟨#[]⟩,bf dg 0,bR j,bf dg 0,bR Z] by
  unfold Bk.kU;rw[J,x,E,y,I];rfl)
 have O:=aa (Bk.Tk h);have R:=aa (show (Bk.kU b).length=6 from rfl);generalize Bk.gB b=T at*;generalize Bk.kU b=G at*;generalize b.born=born at*;generalize b.after=after at*;clear h U I y A E J N x;cases on with
 |true=>
  rw[show ((Bk.nO true:Nat):Int)=1 from rfl] at z;go_enter Tryz.func46,Tryz.ntmps46;go_wp2_with (refine wp_region_held_drew (S:=(fun X=>X.cell? ⟨w.heap.size,1,av⟩=aD (bf cu g)/\X.cell? ⟨w.heap.size,2,av⟩=aD (bf dg born)/\X.cell? ⟨w.heap.size,4,av⟩=aD (bR j)/\X.cell? ⟨w.heap.size,5,av⟩=aD (bf dg after))) (by kernel_rfl) ?_ (fun a=> ?_);focus skip;rotate_left;refine Hid.o ?_);refine aa ?_;·have r:=aU.new w #[bR u,bf cu g,bf dg born,eX true,bR j,bf dg after] 46;exact⟨r.cell rfl,r.cell rfl,r.cell rfl,r.cell rfl⟩
  have F:=aa (show Below w.heap.size w (w.alloc (ey #[bR u,bf cu g,bf dg born,eX true,bR j,bf dg after] 46)).drew/\w.heap.size<(w.alloc (ey #[bR u,bf cu g,bf dg born,eX true,bR j,bf dg after] 46)).drew.heap.size from⟨((Below.refl _ w).alloc (ah _) _).drew,by show _<(aC w _).heap.size;rw[aS];omega⟩);generalize (w.alloc (ey #[bR u,bf cu g,bf dg born,eX true,bR j,bf dg after] 46)).drew=Y at*;obtain⟨s,c,d,f⟩:=a;have a:=And.intro s (And.intro c (And.intro d f));refine bF 0 a ?_;refine bF 1 a ?_;refine bF 2 a ?_;refine bF 3 a ?_;refine bF 4 a ?_;refine bF 5 a ?_;refine bF 6 a ?_;refine bF 7 a ?_;refine bF 8 a ?_;refine bF 9 a ?_;refine bF 10 a ?_;refine bF 11 a ?_;refine bF 12 a ?_;refine bF 13 a ?_;refine bF 14 a ?_;refine bF 15 a ?_;refine bF 16 a ?_;refine bF 17 a ?_;refine bF 18 a ?_;refine bF 19 a ?_;refine bF 20 a ?_;refine bF 21 a ?_;try simp only[Act.put,aA,az,ay]
  refine iV [22] (iW fun K H=> ?_);go_simp;refine (D.o _).mono ?_;rintro e w1 ⟨rfl,k⟩;have l:=aa (And.intro (F.o.1.trans (k.mono F.o.1.size)) (dD F.o.2 k.size));refine H.out _ _ ⟨(k.cell (p:=⟨w.heap.size,1,av⟩) F.o.2).trans s,(k.cell (p:=⟨w.heap.size,2,av⟩) F.o.2).trans c,(k.cell (p:=⟨w.heap.size,4,av⟩) F.o.2).trans d,(k.cell (p:=⟨w.heap.size,5,av⟩) F.o.2).trans f⟩ (fun a=> ?_);clear H K k;clear s c d f;obtain⟨s,c,d,f⟩:=a;have a:=And.intro s (And.intro c (And.intro d f));refine bF 23 a ?_;try simp only[Act.put,aA,az,ay]
  refine iV [24] (iW fun K H=> ?_);go_simp;have hr:=Hl w1 G O.o;have q:=(Below.refl _ w1).alloc (ah _) (ey (gN.cells G).toArray 134);rw[R.o] at hr;rw[z.o] at hr q;have C:w1.heap.size<(w1.alloc (ey [Value.int dg g,bR ⟨#[]⟩,bf dg born,bR ⟨#[]⟩,bf dg 1,bR ⟨#[]⟩,bf dg after,bR ⟨#[]⟩,bf dg 0,bR j,bf dg 0,bR Z].toArray 134)).heap.size:=by rw[aS];omega
  refine H.out _ _ ⟨(q.cell (p:=⟨w.heap.size,1,av⟩) l.o.2).trans s,(q.cell (p:=⟨w.heap.size,2,av⟩) l.o.2).trans c,(q.cell (p:=⟨w.heap.size,4,av⟩) l.o.2).trans d,(q.cell (p:=⟨w.heap.size,5,av⟩) l.o.2).trans f⟩ (fun a=> ?_);clear H K;have L:=aa hr;have m:=aa (And.intro (l.o.1.trans (q.mono l.o.1.size)) (Nat.lt_trans l.o.2 C));clear hr q C s c d f z;generalize (w1.alloc (ey [Value.int dg g,bR ⟨#[]⟩,bf dg born,bR ⟨#[]⟩,bf dg 1,bR ⟨#[]⟩,bf dg after,bR ⟨#[]⟩,bf dg 0,bR j,bf dg 0,bR Z].toArray 134))=w2 at*;obtain⟨s,c,d,f⟩:=a;have a:=And.intro s (And.intro c (And.intro d f));refine iV [25] (iW fun K H=> ?_);go_simp;refine (M.o _ _ L.o).mono ?_;rintro e w3 ⟨rfl,n⟩;have Q:=aa (m.o.1.trans (n.mono m.o.1.size));refine H.out _ _ ⟨(n.cell (p:=⟨w.heap.size,1,av⟩) m.o.2).trans s,(n.cell (p:=⟨w.heap.size,2,av⟩) m.o.2).trans c,(n.cell (p:=⟨w.heap.size,4,av⟩) m.o.2).trans d,(n.cell (p:=⟨w.heap.size,5,av⟩) m.o.2).trans f⟩ (fun a=> ?_);clear H K n;refine bF 26 a ?_;refine bF 27 a ?_;refine bF 28 a ?_;refine bF 29 a ?_;refine bF 30 a ?_;refine wpAnyH_done (by kernel_rfl) ?_ _;try simp only[Act.put,aA,az,ay]
  go_wp2_with fail;go_ret;exact⟨rfl,Q.o⟩
 |false=>
  rw[show ((Bk.nO false:Nat):Int)=0 from rfl] at z;go_enter Tryz.func46,Tryz.ntmps46;go_wp2_with (refine wp_region_held_drew (S:=(fun X=>X.cell? ⟨w.heap.size,1,av⟩=aD (bf cu g)/\X.cell? ⟨w.heap.size,2,av⟩=aD (bf dg born)/\X.cell? ⟨w.heap.size,4,av⟩=aD (bR j)/\X.cell? ⟨w.heap.size,5,av⟩=aD (bf dg after))) (by kernel_rfl) ?_ (fun a=> ?_);focus skip;rotate_left;refine Hid.o ?_);refine aa ?_;·have r:=aU.new w #[bR u,bf cu g,bf dg born,eX false,bR j,bf dg after] 46;exact⟨r.cell rfl,r.cell rfl,r.cell rfl,r.cell rfl⟩
  have F:=aa (show Below w.heap.size w (w.alloc (ey #[bR u,bf cu g,bf dg born,eX false,bR j,bf dg after] 46)).drew/\w.heap.size<(w.alloc (ey #[bR u,bf cu g,bf dg born,eX false,bR j,bf dg after] 46)).drew.heap.size from⟨((Below.refl _ w).alloc (ah _) _).drew,by show _<(aC w _).heap.size;rw[aS];omega⟩);generalize (w.alloc (ey #[bR u,bf cu g,bf dg born,eX false,bR j,bf dg after] 46)).drew=Y at*;obtain⟨s,c,d,f⟩:=a;have a:=And.intro s (And.intro c (And.intro d f));refine bF 0 a ?_;refine bF 1 a ?_;refine bF 2 a ?_;refine bF 3 a ?_;refine bF 4 a ?_;refine bF 5 a ?_;refine bF 6 a ?_;refine bF 7 a ?_;refine bF 8 a ?_;refine bF 9 a ?_;refine bF 10 a ?_;refine bF 11 a ?_;refine bF 12 a ?_;refine bF 13 a ?_;refine bF 14 a ?_;refine bF 15 a ?_;refine bF 16 a ?_;refine bF 17 a ?_;refine bF 18 a ?_;refine bF 19 a ?_;refine bF 20 a ?_;refine bF 21 a ?_;try simp only[Act.put,aA,az,ay]
  refine iV [22] (iW fun K H=> ?_);go_simp;refine (D.o _).mono ?_;rintro e w1 ⟨rfl,k⟩;have l:=aa (And.intro (F.o.1.trans (k.mono F.o.1.size)) (dD F.o.2 k.size));refine H.out _ _ ⟨(k.cell (p:=⟨w.heap.size,1,av⟩) F.o.2).trans s,(k.cell (p:=⟨w.heap.size,2,av⟩) F.o.2).trans c,(k.cell (p:=⟨w.heap.size,4,av⟩) F.o.2).trans d,(k.cell (p:=⟨w.heap.size,5,av⟩) F.o.2).trans f⟩ (fun a=> ?_);clear H K k;clear s c d f;obtain⟨s,c,d,f⟩:=a;have a:=And.intro s (And.intro c (And.intro d f));refine bF 23 a ?_;try simp only[Act.put,aA,az,ay]
  refine iV [24] (iW fun K H=> ?_);go_simp;have hr:=Hl w1 G O.o;have q:=(Below.refl _ w1).alloc (ah _) (ey (gN.cells G).toArray 134);rw[R.o] at hr;rw[z.o] at hr q;have C:w1.heap.size<(w1.alloc (ey [Value.int dg g,bR ⟨#[]⟩,bf dg born,bR ⟨#[]⟩,bf dg 0,bR ⟨#[]⟩,bf dg after,bR ⟨#[]⟩,bf dg 0,bR j,bf dg 0,bR Z].toArray 134)).heap.size:=by rw[aS];omega
  refine H.out _ _ ⟨(q.cell (p:=⟨w.heap.size,1,av⟩) l.o.2).trans s,(q.cell (p:=⟨w.heap.size,2,av⟩) l.o.2).trans c,(q.cell (p:=⟨w.heap.size,4,av⟩) l.o.2).trans d,(q.cell (p:=⟨w.heap.size,5,av⟩) l.o.2).trans f⟩ (fun a=> ?_);clear H K;have L:=aa hr;have m:=aa (And.intro (l.o.1.trans (q.mono l.o.1.size)) (Nat.lt_trans l.o.2 C));clear hr q C s c d f z;generalize (w1.alloc (ey [Value.int dg g,bR ⟨#[]⟩,bf dg born,bR ⟨#[]⟩,bf dg 0,bR ⟨#[]⟩,bf dg after,bR ⟨#[]⟩,bf dg 0,bR j,bf dg 0,bR Z].toArray 134))=w2 at*;obtain⟨s,c,d,f⟩:=a;have a:=And.intro s (And.intro c (And.intro d f));refine iV [25] (iW fun K H=> ?_);go_simp;refine (M.o _ _ L.o).mono ?_;rintro e w3 ⟨rfl,n⟩;have Q:=aa (m.o.1.trans (n.mono m.o.1.size));refine H.out _ _ ⟨(n.cell (p:=⟨w.heap.size,1,av⟩) m.o.2).trans s,(n.cell (p:=⟨w.heap.size,2,av⟩) m.o.2).trans c,(n.cell (p:=⟨w.heap.size,4,av⟩) m.o.2).trans d,(n.cell (p:=⟨w.heap.size,5,av⟩) m.o.2).trans f⟩ (fun a=> ?_);clear H K n;refine bF 26 a ?_;refine bF 27 a ?_;refine bF 28 a ?_;refine bF 29 a ?_;refine bF 30 a ?_;refine wpAnyH_done (by kernel_rfl) ?_ _;try simp only[Act.put,aA,az,ay]
  go_wp2_with fail;go_ret;exact⟨rfl,Q.o⟩
def Tn (o:Option (List Pk.Fd)) (B:Nat) (e:Ending) (w':World):Prop:=match o with
 |some l=>∃v',e=eb (gu #[v',eX true])/\Own gN 134 B w' v' l
 |none=>e=eb (gu #[cx av 0 0,eX false])
namespace Pk
theorem Nr (acc:List Fd) (k s:Text) (i:Nat) (h:i<k.length):Bu acc (k.drop i) s=match dw k[i] s with
  |none=>av
  |some p=>Bu (acc++[p.1]) (k.drop (i+1)) p.2:=by
 rw[cw h,Bu];cases dw k[i] s<;>rfl
theorem Dx {c:UInt8} {s t:Text} {f:Fd} (h:dw c s=aD (f,t)):t.length<=s.length/\f.s.length<=s.length/\(width c<=8->f.n<2^64):=by
 unfold dw at h
 split at h
 ·injection h with h;injection h with e1 e2;subst e1 e2;exact⟨by simp,by simp,fun _=>by show 0<2^64;decide⟩
 ·split at h
  ·split at h
   ·cases h
   ·split at h
    ·cases h
    ·injection h with h;injection h with e1 e2;subst e1 e2;refine⟨by simp<;>omega,by simp<;>omega,fun _=>by show 0<2^64;decide⟩
  ·split at h
   ·cases h
   ·injection h with h;injection h with e1 e2;subst e1 e2;refine⟨by simp,by simp,fun b=> ?_⟩;have H:=Wl.nU (s.take (width c));have a:(s.take (width c)).length<=8:=(by rw[aO];omega);have h3:256^(s.take (width c)).length<=256^8:=Nat.pow_le_pow_right (by decide) a;exact dD H (aH h3 (by decide))
end Pk
theorem FR (ks:ByteArray) (s:List UInt8) (w:World) (hk:ks.size<=100) (hs:s.length<=1000000):
  Calls Tryz.prog 55 #[bR ks,bR (bs s)] w fun e w'=>Tn (Pk.read ks.data.toList s) w.heap.size e w'/\Below w.heap.size w w':=by
 have uD:(ks.size:Int)<=100:=by omega
 have y:=aa (show ks.data.toList.length=ks.size from bk);have h:=aP s;cases D:Pk.right ks.data.toList with
 |false=>
  have H:Pk.read ks.data.toList s=none:=by unfold Pk.read;rw[if_neg (by rw[D];decide)]
  rw[H];have j:=aa (show ∀W,Calls Tryz.prog 85 #[bR ks] W fun e w'=>e=eb (eX false)/\w'=W from fun W=>by have:=pI ks W (by omega);rw[D] at this;exact this);clear H D;go_enter Tryz.func55,Tryz.ntmps55;go_wp2_with fail;refine (j.o _).mono ?_;rintro e w1 ⟨rfl,rfl⟩;go_wp2
  go_ret2
  exact⟨rfl,Below.refl _ _⟩
 |true=>
  have j:=aa (show ∀W,Calls Tryz.prog 85 #[bR ks] W fun e w'=>e=eb (eX true)/\w'=W from fun W=>by have:=pI ks W (by omega);rw[D] at this;exact this);by_cases G:ks.size<=s.length+1
  ·have H:Pk.read ks.data.toList s=Pk.Bu [] ks.data.toList s:=(by unfold Pk.read;rw[if_pos D]);rw[H];have S:=aa D;have N:=aa hs;obtain⟨X,a⟩:∃X,X=bs s:=⟨_,rfl⟩;have O:=aa a;rw[<-a] at h |-;have P:decide ((X.size:Int)+1<ks.size)=false:=(by rw[decide_eq_false_iff_not];omega);have m:(X.size:Int)<=1000000:=(by omega);clear H D G a h hs;go_enter Tryz.func55,Tryz.ntmps55;go_wp2_with fail;refine (j.o _).mono ?_;rintro e w1 ⟨rfl,rfl⟩;go_wp2_with (at_make;refine Hid.o ?_);refine aa ?_;refine zT Xd rfl _ _ rfl w1.heap.size (ah _) ks.size ks.size rfl rfl rfl (by omega) ?_;intro w2 z A;have C:=aa (And.intro z ((Below.refl _ w1).trans ((aG.qR A).below (ah _) (fun k _ e=>by cases e))));generalize (Value.slice (aD ⟨w1.heap.size,0,av⟩) 0 ks.size)=u2 at*;clear z A;go_wp2_with fail
   go_loopw [1,6,7] (fun sv u i wr=>∃k:Nat,k<=ks.size/\i=bf cu k/\∃(acc:List Pk.Fd) (t:List UInt8),sv=bR (bs t)/\Hid (t.length<=s.length/\Pk.Bu [] ks.data.toList s=Pk.Bu acc (ks.data.toList.drop k) t/\acc.length=k)/\Hid (Own gN 134 w1.heap.size wr u acc)/\Hid (Below w1.heap.size w1 wr)) (fun _ _ i _=>ks.size-(RowKit.intOf i).toNat)
   case atStart=>exact⟨0,aB _,rfl,[],s,by rw[O.o],aa ⟨ah _,rfl,rfl⟩,aa C.o.1,aa C.o.2⟩
   case round=>
    obtain⟨k,R,rfl,acc,t,rfl,b,E,c⟩:=hrel;by_cases d:k<ks.size
    ·have lJ:(k:Int)<ks.size:=(by omega);have F:=Pk.nC ks.data.toList k d S.o;change Pk.letter ks[k] true=true at F;have I:=aa (b.o.2.1.trans (Pk.Nr acc ks.data.toList t k d));change Hid (_=match Pk.dw ks[k] t with|none=>av|some p=>_) at I;have Q:=aa (fun W=>xq ks[k] t W F (by have:=b.o.1;have:=N.o;omega));clear F;cases M:Pk.dw ks[k] t with
     |none=>
      rw[M] at I Q;change Hid (_=av) at I;clear M;unfold Tm Qi at Q;simp only at Q;go_wp2_with fail;refine (Q.o _).mono ?_;rintro e w3 ⟨rfl,B⟩;have q:=aa (c.o.trans (B.mono c.o.size));clear B;go_wp2
      go_ret2
      exact⟨by rw[I.o];exact rfl,q.o.alloc q.o.size _⟩
     |some p=>
      obtain⟨f,t'⟩:=p;rw[M] at I Q;change Hid (_=Pk.Bu (acc++[f]) (ks.data.toList.drop (k+1)) t') at I;have U:=aa (Pk.Dx M);clear M;unfold Tm Qi at Q;simp only at Q;obtain⟨n,fs⟩:=f;obtain⟨Y,r⟩:∃Y,Y=bs fs:=⟨_,rfl⟩;have V:=aa r;simp only[<-r] at Q;clear r;go_wp2_with fail;refine (Q.o _).mono ?_;rintro e w3 ⟨rfl,B⟩;have q:=aa (c.o.trans (B.mono c.o.size));have T:=aa (E.o.below B (ah _));clear B;go_wp2_with (at_builtin;refine Hid.o ?_);refine aa ?_;have Z:=q.o.size
      refine mR Xd rfl _ _ rfl rfl ((T.o.alloc _).alloc _) (by simp;omega) (w3.heap.size+1) 0 1 1 [⟨n,fs⟩] rfl rfl (bu.fN (cs:=[bf dg n,bR Y]) (by
       have:=aU.new (w3.alloc (ey #[bf dg n,bR Y] 134)) #[bf dg n,bR Y] 134;rw[aS] at this;exact this) (by rw[V.o];rfl)) (by have:=b.o.2.2;omega) ?_
      intro v' w4 J K;have L:=aa (And.intro J (((q.o.alloc q.o.size _).alloc (by simp;omega) _).trans ((aG.qR K).below (by simp;omega) (fun i hi e=>by have:=(T.o.block i e).1;omega))));clear J K Z;go_wp2;go_roundw
      case rel=>exact⟨k+1,by omega,by go_num,acc++[⟨n,fs⟩],t',rfl,aa ⟨by have:=b.o.1;have:=U.o.1;omega,I.o,by rw[au,b.o.2.2];rfl⟩,aa L.o.1,aa L.o.2⟩
      case measure=>simp[RowKit.intOf];omega
    ·have xW:k=ks.size:=(by omega);subst xW
     have v:=aa (show Pk.Bu [] ks.data.toList s=if t=[] then aD acc else av by
      rw[b.o.2.1,oO (by rw[y.o];exact ah _)];rfl)
     by_cases g:t=[]
     ·have x:=aa (v.o.trans (if_pos g));clear v;subst g;have hem:(bs ([]:List UInt8)).toList.isEmpty=true:=(by rw[bt];rfl);go_wp2
      go_ret2
      exact⟨by rw[x.o];exact⟨_,rfl,E.o⟩,c.o⟩
     ·have hne:(bs t).toList.isEmpty=false:=by
       rw[bt];cases t with
       |nil=>exact absurd rfl g
       |cons _ _=>rfl
      have lN:¬bs t=⟨#[]⟩:=fun e=>g ((xl t).1 e);go_wp2
      go_ret2
      exact⟨by rw[v.o,if_neg g];exact rfl,c.o⟩
  ·have H:Pk.read ks.data.toList s=none:=by
    cases hr:Pk.read ks.data.toList s with
    |none=>rfl
    |some l=>exact absurd (Pk.Nb hr).1 (by rw[y.o];exact G)
   rw[H];obtain⟨X,a⟩:∃X,X=bs s:=⟨_,rfl⟩;rw[<-a] at h |-;have P:(ks.size:Int)>(X.size:Int)+1:=(by omega);have m:(X.size:Int)<=1000000:=(by omega);clear H D G a h hs;go_enter Tryz.func55,Tryz.ntmps55;go_wp2_with fail;refine (j.o _).mono ?_;rintro e w1 ⟨rfl,rfl⟩;go_wp2
   go_ret2
   exact⟨rfl,Below.refl _ _⟩
def Xh (o:Option (Pk.Text×Pk.Text)):Value:=match o with
 |some (x,y)=>gu #[bR (bs x),bR (bs y),eX true]
 |none=>gu #[bR ⟨#[]⟩,bR ⟨#[]⟩,eX false]
namespace Pk
theorem tF (s:Text):(Lib.indexByte s 0=-1/\cut s=av)\/∃o:Nat,Lib.indexByte s 0=o/\o<s.length/\cut s=aD (s.take o,s.drop (o+1)):=by
 rcases (by omega:Lib.indexByte s 0<0\/0<=Lib.indexByte s 0) with h|h
 ·have c:=Lib.indexByte_ge s 0;have d:Lib.indexByte s 0=-1:=by omega
  refine dc ⟨d,(oN s).2 fun e=> ?_⟩;obtain⟨k,H⟩:=List.getElem?_of_mem e;exact Lib.indexByte_none d k H
 ·obtain⟨o,f⟩:∃o:Nat,Lib.indexByte s 0=o:=⟨(Lib.indexByte s 0).toNat,by omega⟩;obtain⟨c,d⟩:=Lib.indexByte_some f;have a:o<s.length:=by
   rcases Nat.lt_or_ge o s.length with h'|h';·exact h'
   ·rw[List.getElem?_eq_none h'] at c;cases c
  refine dn ⟨o,f,a,FH s o (fun e=> ?_) a c⟩;obtain⟨k,H⟩:=List.getElem?_of_mem e;have b:k<o:=by
   rcases Nat.lt_or_ge k o with h'|h';·exact h'
   ·rw[List.getElem?_eq_none (by rw[aO];omega)] at H;cases H
  rw[List.getElem?_take,if_pos b] at H;exact d k b H
end Pk
theorem xu (s:ByteArray) (w:World):Calls Tryz.prog 204 #[bR s,bf gx 0] w fun e w'=>e=eb (bf cu (Lib.indexByte s.data.toList 0))/\w'=w:=by go_enter Tryz.func204,Tryz.ntmps204;go_wp2;rw[run_callFunc_extern Tryz.func221 (by kernel_rfl) (by kernel_rfl) (by kernel_rfl) (e:=Extern.BytealgIndexByte.indexByte) (by kernel_rfl),Lib.run_indexByteString];simp only[Result.andThen];rw[Oper.upon_value];go_wp2;go_ret;exact⟨rfl,rfl⟩
theorem xw (s:ByteArray) (w:World):Calls Tryz.prog 172 #[bR s,bR ⟨#[0]⟩] w fun e w'=>e=eb (bf cu (Lib.indexByte s.data.toList 0))/\w'=w:=by
 by_cases hs:s=⟨#[0]⟩
 ·subst hs;have H:Lib.indexByte (⟨#[0]⟩:ByteArray).data.toList 0=0:=by decide
  rw[H];clear H;go_enter Tryz.func172,Tryz.ntmps172;go_wp2;go_ret;exact⟨rfl,rfl⟩
 ·have a:([(0:UInt8)]==s.toList)=false:=by rw[beq_eq_false_iff_ne];intro e;apply hs;apply ByteArray.ext;apply Array.ext';rw[ByteArray.toList_eq] at e;exact e.symm
  have h:=aa (fun W=>xu s W);go_enter Tryz.func172,Tryz.ntmps172;go_wp2_with fail;refine (h.o _).mono ?_;rintro e w1 ⟨rfl,rfl⟩;go_wp2;go_ret;exact⟨rfl,rfl⟩
theorem zK (s:ByteArray) (w:World) {i:Int} (H:Hid (∀W,Calls Tryz.prog 172 #[bR s,bR ⟨#[0]⟩] W fun e w'=>e=eb (bf cu i)/\w'=W)):Calls Tryz.prog 163 #[bR s,bR ⟨#[0]⟩] w fun e w'=>e=eb (bf cu i)/\w'=w:=by go_enter Tryz.func163,Tryz.ntmps163;go_wp2_with fail;refine (H.o _).mono ?_;rintro e w1 ⟨rfl,rfl⟩;go_wp2;go_ret;exact⟨rfl,rfl⟩
theorem A_ (s:ByteArray) (w:World):Calls Tryz.prog 120 #[bR s,bR ⟨#[0]⟩] w fun e w'=>e=eb (eX (Pk.cut s.data.toList).isSome)/\w'=w:=by
 have H:=aa (fun W=>xw s W);have hc:=Pk.tF s.data.toList;generalize Lib.indexByte s.data.toList 0=i at*;rcases hc with⟨rfl,hc⟩|⟨o,rfl,_,hc⟩<;>rw[hc]<;>clear hc;·go_enter Tryz.func120,Tryz.ntmps120;go_wp2_with fail;refine (zK s w H).mono ?_;rintro e w1 ⟨rfl,rfl⟩;go_wp2;go_ret;exact⟨rfl,rfl⟩
 ·go_enter Tryz.func120,Tryz.ntmps120;go_wp2_with fail;refine (zK s w H).mono ?_;rintro e w1 ⟨rfl,rfl⟩;go_wp2;go_ret;exact⟨rfl,rfl⟩
theorem Ns (s:ByteArray) (w:World) (hs:s.size<=1000000):Calls Tryz.prog 76 #[bR s] w fun e w'=>e=eb (gu (if (Pk.cut s.data.toList).isSome=true then #[bR ⟨#[]⟩,eX false] else #[bR (bs (s.data.toList++[0])),eX true]))/\w'=w:=by
 have y:(s.size:Int)<=1000000:=by omega
 have H:=aa (fun W=>A_ s W);have E:s++⟨#[0]⟩=bs (s.data.toList++[0]):=by rw[<-yC,Ob];rfl
 rw[<-E];clear E;have h:s.size+(⟨#[0]⟩:ByteArray).size<=9223372036854775807:=by show s.size+1<=_;omega
 cases hc:(Pk.cut s.data.toList).isSome with
 |true=>
  rw[hc] at H;rw[if_pos rfl];clear hc;go_enter Tryz.func76,Tryz.ntmps76;go_wp2_with fail;refine (H.o _).mono ?_;rintro e w1 ⟨rfl,rfl⟩;go_wp2
  go_ret2
  exact⟨rfl,rfl⟩
 |false=>
  rw[hc] at H;rw[if_neg (by decide)];clear hc;go_enter Tryz.func76,Tryz.ntmps76;go_wp2_with fail;refine (H.o _).mono ?_;rintro e w1 ⟨rfl,rfl⟩;go_wp2
  go_ret2
  exact⟨rfl,rfl⟩
theorem Nt (s:ByteArray) (w:World) (hs:s.size<=1000000):Calls Tryz.prog 125 #[bR s,bR ⟨#[0]⟩] w fun e w'=>e=eb (match Pk.cut s.data.toList with|some (x,y)=>gu #[bR (bs x),bR (bs y),eX true]|none=>gu #[bR s,bR ⟨#[]⟩,eX false])/\Below w.heap.size w w':=by
 have Y:(s.size:Int)<=1000000:=by omega
 have H:=aa (fun W=>xw s W);have hc:=Pk.tF s.data.toList;generalize Lib.indexByte s.data.toList 0=i at*;rcases hc with⟨rfl,hc⟩|⟨o,rfl,h,hc⟩<;>rw[hc]<;>clear hc
 ·go_enter Tryz.func125,Tryz.ntmps125;go_wp2_with fail;refine (H.o _).mono ?_;rintro e w1 ⟨rfl,rfl⟩;go_wp2
  go_ret3
  exact⟨rfl,Below.refl _ _⟩
 ·have a:o<s.size:=by simpa using h
  have b:(o:Int)<s.size:=by omega
  have Q:((o:Int)+1)<=s.size:=by omega
  have A:(o:Int)<=1000000:=by omega
  have E:s.extract (o+1) s.size=bs (s.data.toList.drop (o+1)):=by apply ByteArray.ext;apply Array.ext';rw[l8];rfl
  have c:=aa (show (Value.tuple #[bR (bs (s.data.toList.take o)),bR (bs (s.data.toList.drop (o+1))),eX true])=gu #[bR (s.extract 0 o),bR (s.extract (o+1) s.size),eX true] by rw[j6,E]);clear E h;go_enter Tryz.func125,Tryz.ntmps125;go_wp2_with fail;refine (H.o _).mono ?_;rintro e w1 ⟨rfl,rfl⟩;go_wp2_with fail
  go_region
  go_wp2
  go_ret3
  exact⟨congrArg Ending.returned c.o.symm,eN _ 1⟩
theorem Dy (s:ByteArray) (V:Value) (w:World) (H:Hid (∀W,Calls Tryz.prog 125 #[bR s,bR ⟨#[0]⟩] W fun e w'=>e=eb V/\Below W.heap.size W w')) (a b c:Value) (d:V=gu #[a,b,c]):Calls Tryz.prog 84 #[bR s,bR ⟨#[0]⟩] w fun e w'=>e=eb V/\Below w.heap.size w w':=by
 subst d;go_enter Tryz.func84,Tryz.ntmps84;go_wp2_with fail;refine (H.o _).mono ?_;rintro e w1 ⟨rfl,h⟩;have f:=aa h;clear h;go_wp2
 go_ret3
 exact⟨rfl,f.o⟩
theorem Nu (s:ByteArray) (w:World) (hs:s.size<=1000000):Calls Tryz.prog 54 #[bR s] w fun e w'=>e=eb (Xh (Pk.cut s.data.toList))/\Below w.heap.size w w':=by
 have H:=aa (fun W=>Nt s W hs);have hl:s.data.toList.length=s.size:=bk;rcases Pk.tF s.data.toList with⟨_,hc⟩|⟨o,_,c,hc⟩
 ·rw[hc] at H |-;clear hc;simp only at H;go_enter Tryz.func54,Tryz.ntmps54;go_wp2_with fail;refine (Dy s _ w H _ _ _ rfl).mono ?_;rintro e w1 ⟨rfl,h⟩;have a:=aa h;clear h;go_wp2
  go_ret3
  exact⟨rfl,a.o⟩
 ·rw[hc] at H |-;clear hc;simp only at H;have P:=aa (fun W=>nB (bs (s.data.toList.take o)) W (by rw[aP,aO];omega));have m:=aa (fun W=>nB (bs (s.data.toList.drop (o+1))) W (by rw[aP,aZ];omega));have d:=aa (show Xh (aD (s.data.toList.take o,s.data.toList.drop (o+1)))=gu #[bR (bs (s.data.toList.take o)),bR (bs (s.data.toList.drop (o+1))),eX true] from rfl);generalize bs (s.data.toList.take o)=X at*;generalize bs (s.data.toList.drop (o+1))=Y at*;go_enter Tryz.func54,Tryz.ntmps54;go_wp2_with fail;refine (Dy s _ w H _ _ _ rfl).mono ?_;rintro e w1 ⟨rfl,h⟩;have a:=aa h;clear h;go_wp2_with fail;refine (P.o _).mono ?_;rintro e g ⟨rfl,A⟩;have f:=aa (a.o.trans (A.mono a.o.size));clear A;go_wp2_with fail;refine (m.o _).mono ?_;rintro e w3 ⟨rfl,b⟩;have q:=aa (f.o.trans (b.mono f.o.size));clear b;go_wp2
  go_ret3
  exact⟨congrArg Ending.returned d.o.symm,q.o⟩
namespace Nm
theorem xx (c:UInt8):letter c=((decide (97<=c.toNat)&&decide (c.toNat<=122))||(decide (48<=c.toNat)&&decide (c.toNat<=57))||decide (c.toNat=45)):=by
 have h:(c==45)=decide (c.toNat=45):=by rw[jf,beq_iff_eq,decide_eq_true_eq];exact⟨fun e=>by rw[e];rfl,fun e=>UInt8.toNat.inj e⟩
 unfold letter;rw[h];rfl
end Nm
theorem Ba (c:UInt8) (w:World):Calls Tryz.prog 75 #[bf gx c.toNat] w fun e w'=>e=eb (eX (Nm.letter c))/\w'=w:=by
 rw[Nm.xx];generalize c.toNat=n;by_cases a:97<=n
 ·have Q:(97:Int)<=n:=by omega
  by_cases b:n<=122;·have u:(n:Int)<=122:=(by omega);rw[decide_eq_true a,decide_eq_true b];go_enter Tryz.func75,Tryz.ntmps75;go_wp2;go_ret;exact⟨rfl,rfl⟩
  ·have u:¬(n:Int)<=122:=(by omega);have U:(48:Int)<=n:=(by omega);have h:¬(n:Int)<=57:=(by omega);have H:((n:Int)==45)=false:=(by rw[beq_eq_false_iff_ne];omega);rw[decide_eq_true a,decide_eq_false b,decide_eq_false (show ¬n<=57 by omega),decide_eq_false (show ¬n=45 by omega)];go_enter Tryz.func75,Tryz.ntmps75;go_wp2;go_ret;exact⟨by simp,rfl⟩
 ·have Q:¬(97:Int)<=n:=by omega
  by_cases h3:48<=n
  ·have U:(48:Int)<=n:=(by omega);have H:((n:Int)==45)=false:=(by rw[beq_eq_false_iff_ne];omega);rw[decide_eq_false a,decide_eq_true h3,decide_eq_false (show ¬n=45 by omega)];by_cases h4:n<=57;·have h:(n:Int)<=57:=(by omega);rw[decide_eq_true h4];go_enter Tryz.func75,Tryz.ntmps75;go_wp2;go_ret;exact⟨rfl,rfl⟩
   ·have h:¬(n:Int)<=57:=(by omega);rw[decide_eq_false h4];go_enter Tryz.func75,Tryz.ntmps75;go_wp2;go_ret;exact⟨rfl,rfl⟩
  ·have U:¬(48:Int)<=n:=(by omega);rw[decide_eq_false a,decide_eq_false h3];by_cases d:n=45;·subst d;go_enter Tryz.func75,Tryz.ntmps75;go_wp2;go_ret;exact⟨rfl,rfl⟩
   ·have H:((n:Int)==45)=false:=(by rw[beq_eq_false_iff_ne];omega);rw[decide_eq_false d];go_enter Tryz.func75,Tryz.ntmps75;go_wp2;go_ret;exact⟨rfl,rfl⟩
namespace Nm
theorem Dz (s:ByteArray) (k:Nat) (h:k<s.size):(s.data.toList.drop k).all letter=(letter s[k]&&(s.data.toList.drop (k+1)).all letter):=by rw[cw (show k<s.data.toList.length from h),List.all_cons];rfl
theorem Xi (c:UInt8):(c !=45)=((c.toNat:Int) !=45):=by rw[jf,bne_iff_ne,bne_iff_ne];exact⟨fun h e=>h (UInt8.toNat.inj (Int.ofNat.inj e)),fun h e=>h (by rw[e];rfl)⟩
theorem lF (s:ByteArray) (h:0<s.size):bucket s.data.toList=(decide (3<=s.size)&&decide (s.size<=16)&&((s[0].toNat:Int) !=45)&&((s[s.size-1].toNat:Int) !=45)&&s.data.toList.all letter):=by
 unfold bucket;have hl:s.data.toList.length=s.size:=bk;have H:s.data.toList.head?=aD s[0]:=by rw[List.head?_eq_getElem?,aK (by omega)];rfl
 have a:s.data.toList.getLast?=aD s[s.size-1]:=by rw[List.getLast?_eq_getElem?,aK (by omega)];simp only[hl];rfl
 have e:∀c:UInt8,(aD c !=aD 45)=(c !=45):=fun c=>by rw[jf,bne_iff_ne,bne_iff_ne];simp
 rw[H,a,hl,e,e,Xi,Xi]
end Nm
theorem xy (s:ByteArray) (w:World):Calls Tryz.prog 48 #[bR s] w fun e w'=>e=eb (eX (Nm.bucket s.data.toList))/\w'=w:=by
 by_cases h3:3<=s.size
 ·have U:¬(s.size:Int)<3:=by omega
  by_cases h:s.size<=16
  ·have T:¬(s.size:Int)>16:=(by omega);rw[Nm.lF s (by omega),decide_eq_true h3,decide_eq_true h];go_enter Tryz.func48,Tryz.ntmps48;go_wp2
   go_loop [3] (fun i=>∃k:Nat,k<=s.size/\i=bf cu k/\Hid (s.data.toList.all Nm.letter=(s.data.toList.drop k).all Nm.letter)) (fun i=>s.size-(RowKit.intOf i).toNat)
   case atStart=>exact⟨0,aB _,rfl,aa rfl⟩
   case round=>
    obtain⟨k,g,rfl,a⟩:=hrel;by_cases c:k<s.size
    ·have H:=aa (a.o.trans (Nm.Dz s k c));clear a;have l:(k:Int)<s.size:=(by omega);have d:(k:Int)<=1000:=(by omega);have b:=aa (fun W=>Ba s[k] W);cases hc:Nm.letter s[k] with
     |true=>
      rw[hc] at H b;clear hc;go_wp2_with fail;refine (b.o _).mono ?_;rintro e w1 ⟨rfl,rfl⟩;go_wp2
      go_round
      case rel=>exact⟨k+1,by omega,by go_num,aa (by rw[H.o];rfl)⟩
      case measure=>simp[RowKit.intOf];omega
     |false=>rw[hc] at H b;clear hc;go_wp2_with fail;refine (b.o _).mono ?_;rintro e w1 ⟨rfl,rfl⟩;go_wp2;go_ret;exact⟨by rw[H.o];simp,rfl⟩
    ·have x:k=s.size:=(by omega);subst x;have H:=aa (show s.data.toList.all Nm.letter=true by rw[a.o,oO (by rw[bk];exact ah _)];rfl);clear a;have j:(0:Int)<s.size:=(by omega);cases hf:((s[0].toNat:Int) !=45) with
     |true=>
      cases hg:((s[s.size-1].toNat:Int) !=45) with
      |true=>go_wp2;go_ret;exact⟨by rw[H.o,hf,hg];rfl,rfl⟩
      |false=>go_wp2;go_ret;exact⟨by rw[H.o,hf,hg];rfl,rfl⟩
     |false=>go_wp2;go_ret;exact⟨by rw[H.o,hf];rfl,rfl⟩
  ·have T:(s.size:Int)>16:=(by omega);rw[Nm.lF s (by omega),decide_eq_true h3,decide_eq_false h];go_enter Tryz.func48,Tryz.ntmps48;go_wp2;go_ret;exact⟨rfl,rfl⟩
 ·have U:(s.size:Int)<3:=by omega
  have f:Nm.bucket s.data.toList=false:=by unfold Nm.bucket;rw[show s.data.toList.length=s.size from bk,decide_eq_false h3];rfl
  rw[f];go_enter Tryz.func48,Tryz.ntmps48;go_wp2;go_ret;exact⟨rfl,rfl⟩
namespace Nm
theorem Bb (c:UInt8):(((97:Int)<=c.toNat/\(c.toNat:Int)<=122)/\letter c=true)\/((((97:Int)<=c.toNat/\¬(c.toNat:Int)<=122)/\(48:Int)<=c.toNat/\¬(c.toNat:Int)<=57/\((c.toNat:Int)==45)=false)/\letter c=false)\/((¬(97:Int)<=c.toNat/\(48:Int)<=c.toNat/\(c.toNat:Int)<=57)/\letter c=true)\/
  ((¬(97:Int)<=c.toNat/\(48:Int)<=c.toNat/\¬(c.toNat:Int)<=57/\((c.toNat:Int)==45)=false)/\letter c=false)\/((¬(97:Int)<=c.toNat/\¬(48:Int)<=c.toNat/\((c.toNat:Int)==45)=true)/\letter c=true)\/((¬(97:Int)<=c.toNat/\¬(48:Int)<=c.toNat/\((c.toNat:Int)==45)=false)/\letter c=false):=by
 rw[xx];generalize c.toNat=n;have e:((n:Int)==45)=decide (n=45):=by rw[jf,beq_iff_eq,decide_eq_true_eq];omega
 rw[e];simp only[Bool.or_eq_true,eH,decide_eq_true_eq,Bool.or_eq_false_iff,Bool.and_eq_false_imp,decide_eq_false_iff_not];omega
end Nm
theorem lZ (s:ByteArray) (w:World):Calls Tryz.prog 28 #[bR s] w fun e w'=>e=eb (eX (Nm.bucket s.data.toList))/\w'=w:=by
 by_cases h3:3<=s.size
 ·have U:¬(s.size:Int)<3:=by omega
  by_cases h:s.size<=16
  ·have T:¬(s.size:Int)>16:=(by omega);have n:(0:Int)<s.size:=(by omega);rw[Nm.lF s (by omega),decide_eq_true h3,decide_eq_true h,show ((s[0].toNat:Int) !=45)= !((s[0].toNat:Int)==45) from rfl,show ((s[s.size-1].toNat:Int) !=45)= !((s[s.size-1].toNat:Int)==45) from rfl];obtain⟨A,hA⟩:∃A,A=s.data.toList.all Nm.letter:=⟨_,rfl⟩;have g:=aa hA;rw[<-hA];clear hA;cases hf:((s[0].toNat:Int)==45) with
   |true=>go_enter Tryz.func28,Tryz.ntmps28;go_wp2;go_ret;exact⟨rfl,rfl⟩
   |false=>
    cases hg:((s[s.size-1].toNat:Int)==45) with
    |true=>go_enter Tryz.func28,Tryz.ntmps28;go_wp2;go_ret;exact⟨rfl,rfl⟩
    |false=>
     go_enter Tryz.func28,Tryz.ntmps28;go_wp2;clear hf hg
     go_loop [3,4] (fun i _=>∃k:Nat,k<=s.size/\i=bf cu k/\Hid (A=(s.data.toList.drop k).all Nm.letter)) (fun i _=>s.size-(RowKit.intOf i).toNat)
     case atStart=>exact⟨0,aB _,rfl,g⟩
     case round=>
      obtain⟨k,p,rfl,b⟩:=hrel;by_cases c:k<s.size
      ·have H:=aa (b.o.trans (Nm.Dz s k c));clear b;have L:(k:Int)<s.size:=(by omega);have j:(k:Int)<=1000:=(by omega);rcases Nm.Bb s[k] with⟨⟨a1,l⟩,hc⟩|⟨⟨⟨a1,l⟩,a,f,d⟩,hc⟩|⟨⟨a1,a,f⟩,hc⟩|⟨⟨a1,a,f,d⟩,hc⟩|⟨⟨a1,a,d⟩,hc⟩|⟨⟨a1,a,d⟩,hc⟩<;>rw[hc] at H<;>clear hc
       ·go_wp2
        go_round
        case rel=>exact⟨k+1,by omega,by go_num,aa (by rw[H.o];rfl)⟩
        case measure=>simp[RowKit.intOf];omega
       ·go_wp2;go_ret;exact⟨by rw[H.o];rfl,rfl⟩
       ·go_wp2
        go_round
        case rel=>exact⟨k+1,by omega,by go_num,aa (by rw[H.o];rfl)⟩
        case measure=>simp[RowKit.intOf];omega
       ·go_wp2;go_ret;exact⟨by rw[H.o];rfl,rfl⟩
       ·go_wp2
        go_round
        case rel=>exact⟨k+1,by omega,by go_num,aa (by rw[H.o];rfl)⟩
        case measure=>simp[RowKit.intOf];omega
       ·go_wp2;go_ret;exact⟨by rw[H.o];rfl,rfl⟩
      ·have x:k=s.size:=(by omega);subst x;go_wp2;go_ret;exact⟨by rw[b.o,oO (by rw[bk];exact ah _)];rfl,rfl⟩
  ·have T:(s.size:Int)>16:=(by omega);rw[Nm.lF s (by omega),decide_eq_true h3,decide_eq_false h];go_enter Tryz.func28,Tryz.ntmps28;go_wp2;go_ret;exact⟨rfl,rfl⟩
 ·have U:(s.size:Int)<3:=by omega
  have m:Nm.bucket s.data.toList=false:=by unfold Nm.bucket;rw[show s.data.toList.length=s.size from bk,decide_eq_false h3];rfl
  rw[m];go_enter Tryz.func28,Tryz.ntmps28;go_wp2;go_ret;exact⟨rfl,rfl⟩
namespace Nm
theorem Nv (s:Pk.Text):s.contains 0=(Pk.cut s).isSome:=by
 cases h:Pk.cut s with
 |none=>simp[(Pk.oN s).1 h]
 |some p=>
  have:(0:UInt8)∈s:=by refine Decidable.byContradiction fun hn=> ?_;rw[(Pk.oN s).2 hn] at h;cases h
  simp[this]
end Nm
namespace Nm
theorem FT {kind:UInt8} {parts:List Pk.Text} {k:Nat} (H:k<parts.length) (h:(Pk.cut parts[k]).isSome=true):under kind parts=[]:=by unfold under;rw[if_pos];exact List.any_eq_true.2 ⟨_,bI H,by rw[Nv];exact h⟩
theorem JY {kind:UInt8} {parts:List Pk.Text} (h:∀p∈parts,Pk.cut p=av):under kind parts=kind::parts.flatMap (· ++[0]):=
 xf fun p hp=>(Pk.oN p).1 (h p hp)
theorem JZ {parts:List Pk.Text} {k:Nat} (H:k<parts.length) (h:∀p∈parts.take k,Pk.cut p=av) (a:Pk.cut parts[k]=av):∀p∈parts.take (k+1),Pk.cut p=none:=by
 intro p hp;rw[cC H] at hp;rcases aj.1 hp with hp|hp;·exact h p hp
 ·rw[cQ.1 hp];exact a
theorem J1 {parts:List Pk.Text} {k:Nat} (h:k<parts.length) (kind:UInt8):(kind::(parts.take k).flatMap (· ++[0]))++(parts[k]++[0])=kind::(parts.take (k+1)).flatMap (· ++[0]):=by rw[cC h,List.flatMap_append,List.flatMap_singleton,gJ]
theorem take_len {parts:List Pk.Text} (hp:∀i (hi:i<parts.length),parts[i].length<=10000):∀k,k<=parts.length->((parts.take k).flatMap (· ++[0])).length<=10001*k
 |0,_=>by simp
 |k+1,h=>by
  have I:=take_len hp k (by omega);have:=hp k (by omega);rw[cC (show k<parts.length by omega),List.flatMap_append,List.flatMap_singleton,au,au,ew];omega
end Nm
theorem DA (w:World) (c:UInt8):gI w.heap.size (w.alloc (ey #[bf gx c.toNat] 5)) (cx (aD ⟨w.heap.size,0,av⟩) 1 1) [c]:=
 World.ownsRow_lit w #[bf gx c.toNat] 1 (ah _) (by decide) rfl
theorem zL (kind:UInt8) (v:Value) (parts:List Pk.Text) (w:World) (hr:Reads w v parts) (hp:∀i (hi:i<parts.length),parts[i].length<=10000) (hl:parts.length<=100):
  Calls Tryz.prog 49 #[bf gx kind.toNat,v] w fun e w'=>e=eb (bR (bs (Nm.under kind parts)))/\Below w.heap.size w w':=by
 obtain⟨a,cap,rfl,r,H⟩:=hr;have C:=aa H;have s:=aa hp;obtain⟨L,j⟩:∃L,L=parts.length:=⟨_,rfl⟩;have t:=aa j;have S:(L:Int)<=100:=by omega
 have D:=aa (DA w kind);have F:=aa (show Below w.heap.size w (w.alloc (ey #[bf gx kind.toNat] 5)) from (Below.refl _ _).alloc (ah _) _);rw[<-j];clear H hp j;generalize (kind.toNat:Int)=K at*;go_enter Tryz.func49,Tryz.ntmps49;go_wp2_with fail
 go_loopw [5,14] (fun u i wr=>∃k:Nat,k<=L/\i=bf cu k/\Hid (∀p∈parts.take k,Pk.cut p=av)/\Hid (gI w.heap.size wr u (kind::(parts.take k).flatMap (· ++[0])))/\Hid (Below w.heap.size w wr)) (fun _ i _=>L-(RowKit.intOf i).toNat)
 case atStart=>exact⟨0,aB _,rfl,aa (fun p h=>by cases h),D,F⟩
 case round=>
  obtain⟨k,E,rfl,y,l,d⟩:=hrel;by_cases G:k<L
  ·have V:(k:Int)<L:=(by omega);have b:k<parts.length:=(by have:=t.o;omega);obtain⟨g,o,rfl,hg,hc⟩:=C.o k b;have c0:wr.cell? ⟨g,o+k,av⟩=aD (bR (bs parts[k])):=(d.o.cell (p:=⟨g,o+k,av⟩) hg).trans (hc k b);have f:=s.o k b;have q:=aa (fun W=>Ns (bs parts[k]) W (by rw[aP];omega));rw[bS] at q;obtain⟨X,z⟩:∃X,X=bs parts[k]:=⟨_,rfl⟩;rw[<-z] at c0 q;clear z;have I:=aa f;clear hc f;cases c:(Pk.cut parts[k]).isSome with
   |true=>rw[c,if_pos rfl] at q;have J:=aa (Nm.FT (kind:=kind) b c);clear c;go_wp2_with fail;refine (q.o _).mono ?_;rintro e w1 ⟨rfl,rfl⟩;go_wp2;go_ret;exact⟨by rw[J.o];rfl,d.o⟩
   |false=>
    rw[c,if_neg (by decide)] at q;have M:=aa (Nm.JZ b y.o (by cases e:Pk.cut parts[k] with|none=>rfl|some p=>rw[e] at c;cases c));have N:=aa (Nm.J1 b kind);have R:=aa (Nm.take_len s.o k (by omega));clear c;obtain⟨Y,m⟩:∃Y,Y=bs (parts[k]++[0]):=⟨_,rfl⟩;have O:=aa m;rw[<-m] at q;clear m;go_wp2_with fail;refine (q.o _).mono ?_;rintro e w1 ⟨rfl,rfl⟩;go_wp2_with (at_builtin;refine Hid.o ?_);refine aa ?_;refine jK rfl _ _ rfl rfl l.o d.o.size (parts[k]++[0]) (congrArg Value.string O.o) (by rw[a_,au,ew];have:=R.o;have:=I.o;omega) ?_;intro v' Z x A;rw[N.o] at x;have T:=aa x;have U:=aa (kF d.o l.o (ah _) A);clear x A c0;go_wp2;go_roundw
    case rel=>exact⟨k+1,by omega,by go_num,M,T,U⟩
    case measure=>simp[RowKit.intOf];omega
  ·have P:k=L:=(by omega);subst P;have n:=gI.back l.o
   have Q:=aa (show kind::(parts.take k).flatMap (· ++[0])=Nm.under kind parts by
    have B:=y.o;rw[t.o,List.take_length] at B |-;exact (Nm.JY B).symm)
   rw[Q.o] at n;go_wp2;go_ret;exact⟨rfl,d.o⟩
theorem zM (w:World) (l:List Pk.Text):Reads (w.alloc (ey (l.map fun s=>Value.string (bs s)).toArray 9)) (cx (aD ⟨w.heap.size,0,av⟩) l.length l.length) l:=by have h:=aU.new w (l.map fun s=>Value.string (bs s)).toArray 9;refine⟨_,_,rfl,ah _,fun i _=>⟨w.heap.size,0,rfl,by simp,fun j H=> ?_⟩⟩;rw[bE];refine h.cell ?_;rw[cD,aK H];rfl
theorem J3 (kind:UInt8) (b:ByteArray) (W:World) (h:b.size<=10000):Calls Tryz.prog 49 #[bf gx kind.toNat,cx (aD ⟨W.heap.size,0,av⟩) 1 1] (W.alloc (ey #[bR b] 9)) fun e w'=>e=eb (bR (bs (Nm.under kind [b.data.toList])))/\Below (W.alloc (ey #[bR b] 9)).heap.size (W.alloc (ey #[bR b] 9)) w':=
 zL kind _ [b.data.toList] _ (zM W [b.data.toList]) (by
  intro i hi;have H:i=0:=by simp at hi;omega
  subst H;show b.data.toList.length<=_;rw[bk];exact h) (show 1<=100 by decide)
namespace Nm
def Qm (b:Pk.Text):Pk.Text:=if bucket b then under 98 [b] else []
end Nm
theorem gR (b:ByteArray) (w:World):Calls Tryz.prog 30 #[bR b] w fun e w'=>e=eb (bR (bs (Nm.Qm b.data.toList)))/\Below w.heap.size w w':=by
 have k:=aa (fun W=>xy b W);have q:b.data.toList.length=b.size:=bk;unfold Nm.Qm;cases h:Nm.bucket b.data.toList with
 |false=>rw[h] at k;rw[if_neg (by decide)];clear h q;go_enter Tryz.func30,Tryz.ntmps30;go_wp2_with fail;refine (k.o _).mono ?_;rintro e w1 ⟨rfl,rfl⟩;go_wp2;go_ret;exact⟨rfl,Below.refl _ _⟩
 |true=>rw[h] at k;rw[if_pos rfl];have a:=Nm.qB h;have H:=aa (fun W=>J3 98 b W (by omega));rw[show ((98:UInt8).toNat:Int)=98 from rfl] at H;generalize bs (Nm.under 98 [b.data.toList])=X at*;clear h q a;go_enter Tryz.func30,Tryz.ntmps30;go_wp2_with fail;refine (k.o _).mono ?_;rintro e w1 ⟨rfl,rfl⟩;go_wp2_with fail;refine (H.o _).mono ?_;rintro e w3 ⟨rfl,B⟩;have Q:=aa (((Below.refl _ w1).alloc (ah _) _).trans (B.mono (by simp)));clear B;go_wp2;go_ret;exact⟨rfl,Q.o⟩
end
end Go.Proofs.YtlpfhjbpknbndaaGreatDoor
