/- Elder texts, cut down and merged (24). -/
import Derived.Test.YtgfdijemhanfkaaGreatDoorP21
import Derived.BigRegion
import Derived.Test.YtgfdijemhanfkaaGreatDoorPTk
set_option linter.unusedSimpArgs false
set_option linter.unusedVariables false
set_option maxRecDepth 100000
set_option maxHeartbeats 8000000
namespace Go.Proofs.YtgfdijemhanfkaaGreatDoor
open _root_.Go.Proofs.Tryz
open IntKind renaming i64→ct
open Obj renaming cells→dg
open Option renaming none→aK,some→av
open Value renaming int→bf,slice→cx
open Ending renaming returned→c8
open Or renaming inl→cS,inr→dc
open Nat renaming zero_add->bG,zero_le->aA,le_refl->af,min_eq_left->bT,lt_or_ge->ep
open _root_.Array renaming length_toList->aU,getElem?_eq_some_iff->fY
open List renaming length_nil->gd,append_assoc->aD,length_take->aJ,length_drop->aS,length_append->aq,setIfInBounds_toArray->aC,set_cons_succ->aB,set_cons_zero->ay,take_of_length_le->bD,take_append_drop->b_,append_nil->bh
open World renaming drew->bu
section
open Go.RowKit Lib
theorem wI (w:World) (k:Nat) (f:0<k) (h:k<=1000000) (ty:TypeId):
  ∃(c:Nat) (Z:List Value),(Builtin.append_ #[166,3] ty #[.slice aK 0 0,.int ct k]).run prog w=.ok (.slice (av ⟨w.heap.size,0,aK⟩) k c) (w.drew.alloc (dg Z.toArray 175))/\k<=c/\c<=maxLen/\Z.length=c*3:=by
 obtain⟨i,hi,g,j,a⟩:=iL (P:=prog) (E:=175) (size:=3) (bytes:=40) (z:=.agg #[.string .empty,.string .empty,.pointer aK]) η;have hold:(Builtin.firstCells i.size 0 (.slice aK 0 0)).run prog w.drew=.ok ([]:List Value).toArray w.drew:=by simp[Builtin.firstCells]
 have H:=Lib.run_append_grow_zeros (P:=prog) w 166 3 ty 175 i _ ct ct underlying166 η hi g aK 0 0 [] hold k f κ κ κ (by rw[a];omega) (growslice_fits κ (by rw[a];omega));have b:=grownCap_ge w (0+k) 0 175;have h3:(Value.agg #[.string .empty,.string .empty,.pointer aK]).cells.size=3:=rfl;have hA:=jm (Value.agg #[.string .empty,.string .empty,.pointer aK]).cells k;have d:=jm (Value.agg #[.string .empty,.string .empty,.pointer aK]).cells (grownCap w (0+k) 0 175-(0+k));generalize Builtin.zeroCells (Value.agg #[.string .empty,.string .empty,.pointer aK]).cells k=A at*;generalize Builtin.zeroCells (Value.agg #[.string .empty,.string .empty,.pointer aK]).cells (grownCap w (0+k) 0 175-(0+k))=B at*;have e:([]:List Value).toArray++A++B=((A++B).toList).toArray:=zaB
 rw[e,bG] at H;rw[bG] at b d;refine⟨_,(A++B).toList,H,b,grownCap_le_maxLen _ _ _ _ zat, ?_⟩;rw[aU,Array.size_append,hA,d,h3];omega
theorem JO (w:World) (k:Nat) (b:0<k) (h:k<=1000000):
  Calls prog 269 #[cx aK 0 0,bf ct k] w fun e w'=>∃g c,e=c8 (cx (av ⟨g,0,aK⟩) 0 c)/\bk w.heap.size w' (cx (av ⟨g,0,aK⟩) 0 c) []/\Below w.heap.size w w':=by
 obtain⟨c,Z,H,a,A,T⟩:=wI w k b h 166;have i:=aa H;have d:=aa (And.intro a (And.intro A T));have y:(0:Int)<k:=κ
 have j:(k:Int)<=1000000:=κ
 have J:(0:Int)<=c:=κ
 clear H a A T b h;go_enter func269,ntmps269;go_wp2_with (at_builtin;refine Hid.o ?_);refine aa ?_;refine Lib.wpList_append_run _ rfl _ _ _ _ rfl _ _ rfl rfl _ _ i.o ?_
 have f:=aa (show bk w.heap.size (w.drew.alloc (dg Z.toArray 175)) (cx (av ⟨w.heap.size,0,aK⟩) 0 c) []/\Below w.heap.size w (w.drew.alloc (dg Z.toArray 175)) from
  ⟨gq (l:=[]) (R:=Z) (by exact heap_alloc_new w.drew _) (by exact d.o.2.2) rfl (aA _) d.o.2.1 (af _),(Below.refl _ w).drew.alloc (af _) _⟩)
 go_wp2;go_ret;exact⟨_,c,rfl,f.o.1,f.o.2⟩
def Rv (w:World) (l:List It) (e:Ending) (w':World):Prop:=∃v,e=c8 v/\bk w.heap.size w' v l/\Below w.heap.size w w'
theorem DY (w:World) (a r O c1 t u c2:Nat) (l m:List It) (ha:aW w a 166 [cx (av ⟨r,O,aK⟩) l.length c1,cx (av ⟨t,u,aK⟩) m.length c2]) (D:bg aj w r O l) (E:bg aj w t u m) (hl:l.length<=400) (F:m.length<=400) (hpos:0<l.length+m.length):
  Calls prog 263 #[cx (av ⟨a,0,aK⟩) 2 2] w fun e w'=>Rv w (l++m) e w':=by
 have R:(l.length:Int)<=400:=κ
 have T:(m.length:Int)<=400:=κ
 have b0:=ha.cell (j:=0) rfl;have b1:=ha.cell (j:=1) rfl;have H:=aa (And.intro ha (And.intro D E));have I:=aa (JO w (l.length+m.length) hpos κ);have J:=aa (And.intro hl F);obtain⟨L,v⟩:=ξx l.length;obtain⟨M,x⟩:=ξx m.length;rw[<-v] at b0 R;rw[<-x] at b1 T;rw[<-v,<-x] at I;have d:=aa (And.intro v x);clear ha D E hl F hpos v x;go_enter func263,ntmps263;go_wp2
 go_loopw [3,11] (fun sv i wr=>∃j s:Nat,i=bf ct j/\sv=bf ct s/\Hid (j=0/\0=s\/j=1/\L=s\/j=2/\L+M=s)/\w=wr) (fun _ i _=>2-(RowKit.intOf i).toNat)
 case atStart=>exact⟨0,0,rfl,rfl,aa (cS ⟨rfl,rfl⟩),rfl⟩
 case round=>
  obtain⟨j,s,rfl,rfl,f,rfl⟩:=hrel;rcases f.o with⟨rfl,rfl⟩|⟨rfl,rfl⟩|⟨rfl,rfl⟩
  ·go_wp2;go_roundw
   case rel=>exact⟨1,L,ς,ς,aa (dc (cS ⟨rfl,rfl⟩)),trivial⟩
   case measure=>simp[RowKit.intOf]
  ·have h0:(0:Int)<=(L:Int)+M:=κ;go_wp2;go_roundw
   case rel=>exact⟨2,L+M,ς,ς,aa (dc (dc ⟨rfl,rfl⟩)),trivial⟩
   case measure=>simp[RowKit.intOf]
  ·go_wp2_with fail;refine I.o.mono ?_;rintro e w1 ⟨g,c,rfl,P,y⟩;have Q:=aa (And.intro P y);have d0:=(y.cell (p:=⟨a,0,aK⟩) H.o.1.lt).trans b0;have d1:=(y.cell (p:=⟨a,1,aK⟩) H.o.1.lt).trans b1;clear P y b0 b1;go_wp2
   go_loopw [6,27] (fun sv i wr=>∃j:Nat,i=bf ct j/\∃(q:Option Addr) (N C:Nat) (p:List It),sv=cx q N C/\Hid (j=0/\p=[]\/j=1/\p=l\/j=2/\p=l++m)/\Hid (bk w.heap.size wr (cx q N C) p)/\Hid (Below w.heap.size w wr)) (fun _ i _=>2-(RowKit.intOf i).toNat)
   case atStart=>exact⟨0,rfl,_,_,_,[],rfl,aa (cS ⟨rfl,rfl⟩),aa Q.o.1,aa Q.o.2⟩
   case round=>
    obtain⟨j,rfl,q,N,C,p,rfl,f,b,h⟩:=hrel;have S:=(h.o.cell (p:=⟨a,0,aK⟩) H.o.1.lt).trans (H.o.1.cell (j:=0) rfl);have f1:=(h.o.cell (p:=⟨a,1,aK⟩) H.o.1.lt).trans (H.o.1.cell (j:=1) rfl);rw[<-d.o.1] at S;rw[<-d.o.2] at f1;rcases f.o with⟨rfl,hp⟩|⟨rfl,hp⟩|⟨rfl,hp⟩
    ·rw[hp] at b;clear hp f;have z:bg aj wr r O l:=eX H.o.2.1 h.o;go_wp2_with (refine gP (K:=aj) zo rfl _ _ rfl rfl b.o h.o.size r O L c1 l rfl d.o.1.symm z (show ([]:List It).length+L<=1000000000 by have:=J.o;have:=d.o;simp only[gd];omega) ?_;intro v2 W G n;refine Hid.o ?_);refine aa ?_;have U:=aa (h.o.grown n h.o.size fun k e=>(Own.block b.o k e).1);obtain⟨V,A,B,Y⟩:=Own.slice G;subst B;have Z:=aa G;clear G n Y;go_wp2;go_roundw
     case rel=>exact⟨1,ς,_,_,_,l,rfl,aa (dc (cS ⟨rfl,rfl⟩)),Z,U⟩
     case measure=>simp[RowKit.intOf]
    ·rw[hp] at b;clear hp f;have z:bg aj wr t u m:=eX H.o.2.2 h.o;go_wp2_with (refine gP (K:=aj) zo rfl _ _ rfl rfl b.o h.o.size t u M c2 m rfl d.o.2.symm z (show l.length+M<=1000000000 by have:=J.o;have:=d.o;omega) ?_;intro v2 W G n;refine Hid.o ?_);refine aa ?_;have U:=aa (h.o.grown n h.o.size fun k e=>(Own.block b.o k e).1);obtain⟨V,A,B,Y⟩:=Own.slice G;subst B;have Z:=aa G;clear G n Y;go_wp2;go_roundw
     case rel=>exact⟨2,ς,_,_,_,l++m,rfl,aa (dc (dc ⟨rfl,rfl⟩)),Z,U⟩
     case measure=>simp[RowKit.intOf]
    ·rw[hp] at b;clear hp f;have X:=aa (show Rv w (l++m) (c8 (cx q N C)) wr from⟨_,rfl,b.o,h.o⟩);go_wp2;go_ret;exact X.o
theorem z_ (w:World) (a:Option Addr) (c:Nat) (ty:TypeId):(Builtin.clear_ #[166] ty #[.slice a 0 c]).run prog w=.ok (.tuple #[]) w:=by cases a<;>simp[Builtin.clear_,run_underlying underlying166]
section
variable {w:World} {B:Nat} {l ms:List It} {va:Option Addr} {mc:Nat}
theorem qu {g cap i j m:Nat} (h:bk B w (cx (av ⟨g,0,aK⟩) l.length cap) l) (hl:l.length<=400) (N:m=ms.length) (O:0<ms.length->∃vr vo,va=av ⟨vr,vo,aK⟩/\bg aj w vr vo ms/\vr≠g) (q:i+m<=j) (hi:i<j) (x:j<l.length):
  Calls prog 192 #[cx (av ⟨g,0,aK⟩) l.length cap,bf ct i,bf ct j,cx va m mc] w fun e w'=>iy B w (cx (av ⟨g,0,aK⟩) l.length cap) (l.take i++ms++l.drop j) e w':=by
 obtain⟨R,hg,y,-,Q,d,r⟩:=kU h;have HH:=aa (And.intro h (And.intro hg (And.intro y (And.intro d r))));have HV:=aa O;have H:=aa (show i+m<=j/\j<l.length/\l.length<=cap/\m=ms.length from⟨q,x,Q,N⟩);obtain⟨L,u⟩:=ξx l.length;rw[<-u] at hl x Q |-;have c:=aa u;have jK:(L:Int)<=400:=κ
 have aa1:(i:Int)<=j:=κ
 have QD:(i:Int)<=L:=κ
 have MX:(j:Int)<=L:=κ
 have aa2:(j:Int)<L:=κ
 have hne:((i:Int)==j)=false:=θ
 have aa3:((j:Int)==L)=false:=θ
 have JG:(L:Int)<=cap:=κ
 have Gb:¬cap=i:=κ
 have hcj:¬cap=j:=κ
 have Tg:(m:Int)<=400:=κ
 have hTI:¬(i:Int)+m+(L-j)>cap:=κ
 have UX:(0:Int)<=(i:Int)+m+(L-j):=κ
 have acO:(i:Int)+m+(L-j)<=cap:=κ
 have aa4:(i:Int)+m<=j:=κ
 have hiT:(i:Int)<=(i:Int)+m+(L-j):=κ
 have aa5:¬cap=i+m:=κ
 have il0:(0:Int)<=(i:Int)+m:=κ
 have ilT:(i:Int)+m<=(i:Int)+m+((L-j:Nat):Int):=κ
 have iw:IntKind.i64.wrap ((i:Int)+m)=(i:Int)+m:=by grind [bQ]
 have it1:((i:Int)+m).toNat=i+m:=κ
 obtain⟨M,P⟩:=ξx (aj.cells ((l.drop i).take (j-i)));have b:aj.cells l++R=aj.cells (l.take i)++(M++(aj.cells (l.drop j)++R)):=by grind [fX,List.drop_drop,aD]
 have a:=aa (show w.drew.heap[g]?=av (dg (aj.cells (l.take i)++(M++(aj.cells (l.drop j)++R))).toArray 175 (0,0))/\(aj.cells (l.take i)).length=i*3/\M.length=(j-i)*3/\(aj.cells (l.drop j)).length=(L-j)*3/\cap<=maxLen/\(aj.cells (l.take i)++(M++(aj.cells (l.drop j)++R))).length=cap*3 from
  ⟨by rw[<-b];exact hg,by rw[bZ,aJ,bT κ],by rw[P,bZ,aJ,aS,bT κ],by rw[bZ,aS,u],d,by rw[<-b];exact y⟩)
 clear h hg y d r O N q hi x u P b;go_enter func192,ntmps192;go_wp2_with fail
 go_region
 go_wp2_with (refine fF rfl _ _ rfl _ _ _ _ _ _ rfl rfl g (i*3) _ a.o.1 ms (by rw[<-H.o.2.2.2];exact (bT κ).symm) (fun h0=>by obtain⟨vr,vo,e,z,_⟩:=HV.o h0;exact⟨rfl,vr,vo,e,z⟩) (by rw[a.o.2.2.2.2.2,<-H.o.2.2.2];have:=H.o;omega) ?_;intro w1 I A;refine Hid.o ?_);refine aa ?_;have A:=(aE.refl (fun k=>k=g) w).drew.trans A (fun _ _ h=>h);rw[<-a.o.2.1,gE rfl,<-aD] at I;obtain⟨Y,C⟩:=ξx (M.drop (aj.cells ms).length);rw[List.drop_append_of_le_length (by rw[bZ,a.o.2.2.1,<-H.o.2.2.2];have:=H.o;omega),<-C] at I;have S:Y.length+m*3=(j-i)*3:=by rw[C,aS,bZ,a.o.2.2.1,<-H.o.2.2.2];have:=H.o;omega
 have f:(aj.cells ms).length=m*3:=by rw[bZ,H.o.2.2.2]
 have n:=aa (show w1.heap[g]?=av (dg (aj.cells (l.take i)++aj.cells ms++(Y++(aj.cells (l.drop j)++R))).toArray 175 (0,0))/\aE (fun k=>k=g) w w1/\Y.length+m*3=(j-i)*3/\(aj.cells ms).length=m*3 from⟨I,A,S,f⟩);have T:bg aj w1 g (j*3) (l.drop j):=by
  have v:=n.o.1;rw[<-aD] at v;have U:=mQ v;have e:(aj.cells (l.take i)++aj.cells ms++Y).length=j*3:=by rw[aq,aq,a.o.2.1,f];have:=H.o;omega
  rw[e] at U;exact U
 have D:=aa T;clear I A C S f T;go_wp2_with fail;go_wp2_with (refine wp_region_any η ?_;refine Hid.o ?_);refine aa ?_;try (change wpAny _ _ _ _ _ _ _ (bu _))
 refine tk 0 ?_;refine tk 1 ?_;refine tk 2 ?_;refine tk 3 ?_;refine tk 4 ?_;refine tk 5 ?_;refine tk 6 ?_;refine tk 7 ?_;refine tk 8 ?_;try simp only[Act.put,aC,aB,ay]
 refine rd [9] (rn fun K V=> ?_);refine gD _ _ rfl _ _ _ _ _ _ rfl rfl g ((i+m)*3) _ n.o.1 (l.drop j) (by rw[aS,<-c.o];exact (Nat.min_self _).symm) (fun _=>⟨rfl,g,j*3,rfl,D.o⟩) (by have:=a.o.2.2.2.2.2;have:=H.o;have:=n.o.2.2;simp only[aq,aS,a.o.2.1,a.o.2.2.1,a.o.2.2.2.1,n.o.2.2.2] at*;omega) ?_;intro W G X;refine V _ _ ?_;clear V K;refine wpAny_done η ?_ _;have p:(aj.cells (l.take i)++aj.cells ms).length=(i+m)*3:=by rw[aq,a.o.2.1,n.o.2.2.2];omega
 rw[<-p,gE rfl] at G;obtain⟨R2,F⟩:=ξx ((Y++(aj.cells (l.drop j)++R)).drop (aj.cells (l.drop j)).length);rw[<-F] at G;have Z:R2.length=Y.length+R.length:=by rw[F];simp only[aS,aq];omega
 have hcs:aj.cells (l.take i++ms++l.drop j)++R2=aj.cells (l.take i)++aj.cells ms++(aj.cells (l.drop j)++R2):=by rw[Elem.cj,Elem.cj];simp only[aD]
 have gz:bk B W (cx (av ⟨g,0,aK⟩) (i+m+(L-j)) cap) (l.take i++ms++l.drop j):=gq (R:=R2) (by rw[hcs];exact G) (by
   rw[hcs,aq,p,aq,a.o.2.2.2.1,Z];have v:=a.o.2.2.2.2.2;rw[aq,aq,aq,a.o.2.1,a.o.2.2.1,a.o.2.2.2.1] at v;have:=n.o.2.2.1;have:=H.o;omega) (by rw[aq,aq,aJ,aS];have:=H.o;have:=c.o;omega) (by have:=H.o;have:=c.o;omega) a.o.2.2.2.2.1 HH.o.2.2.2.2
 have s:=aa (And.intro gz (n.o.2.1.drew.trans X (fun _ _ h=>h)));have hTt:((i:Int)+m+((L-j:Nat):Int)).toNat=i+m+(L-j):=κ
 have hTz:(0:Int)<=(i:Int)+m+((L-j:Nat):Int):=κ
 have hTy:(i:Int)+m+((L-j:Nat):Int)<=L:=κ
 clear G X p F Z hcs gz;by_cases hd:i+m=j
 ·have J:L-(i+m+(L-j))=0:=by have:=H.o;have:=c.o;omega
  have q9:=z_ W
  have HE:=aa (show iy B w (cx (av ⟨g,0,aK⟩) L cap) (l.take i++ms++l.drop j) (c8 (cx (av ⟨g,0,aK⟩) (i+m+(L-j)) cap)) W from
   ⟨_,rfl,s.o.1,s.o.2.mono fun k _ e=>zaF,cS rfl,fun _=>rfl⟩)
  clear hd;by_cases t:cap=i+m+(L-j);·subst t;go_wp2_with fail;go_ret;exact HE.o
  ·go_wp2_with fail;go_ret;exact HE.o
 ·have t:¬cap=i+m+(L-j):=by have:=H.o;have:=c.o;omega
  obtain⟨vs,q9⟩:=gC W g (i+m+(L-j)) cap (l.take i++ms++l.drop j) (Own.mono s.o.1 (aA _)) (L-(i+m+(L-j))) (by have:=H.o;have:=c.o;omega) (by have:=H.o;have:=c.o;omega);go_wp2_with fail;go_ret;have J:=Own.cleared (K:=aj) (E:=175) (B:=B) vs W ((i+m+(L-j))*3) s.o.1 (by rw[aq,aq,aJ,aS];have:=H.o;have:=c.o;show _*3<=_;omega);exact⟨_,rfl,J.1,(s.o.2.trans J.2 (fun _ _ e=>e)).mono fun k _ e=>zaF,cS rfl,fun _=>rfl⟩
end
section
variable {w:World} {B:Nat} {l ms:List It} {mc:Nat}
theorem uV (w:World) (a:Addr) (i cap:Nat) (h:i<=cap) (ty:TypeId):(Builtin.append_ #[166,166] ty #[.slice (av a) i cap,.slice aK 0 0]).run prog w=.ok (.slice (av a) i cap) w:=by obtain⟨I,_,hi,_⟩:=zo.info;simp[Builtin.append_,run_underlying underlying166,sizeOf,typeInfo,hi,Builtin.lenOf,Builtin.firstCells,h,storeCells]
theorem Gk {g cap i:Nat} (h:bk B w (cx (av ⟨g,0,aK⟩) l.length cap) l) (hl:l.length<=400) (hi:i<l.length):
  Calls prog 192 #[cx (av ⟨g,0,aK⟩) l.length cap,bf ct i,bf ct l.length,cx aK 0 0] w fun e w'=>iy B w (cx (av ⟨g,0,aK⟩) l.length cap) (l.take i) e w':=by
 obtain⟨_,q,b⟩:=jg h;have f:=aa (Own.upto h i κ);have H:=aa (show i<l.length/\l.length<=cap from⟨hi,q⟩);have j:=aa (uV w ⟨g,0,aK⟩ i cap κ);obtain⟨L,c⟩:=ξx l.length;rw[<-c] at hl hi q |-;have a:=aa c;have J:(L:Int)<=400:=κ
 have Q:(i:Int)<=L:=κ
 have v:((L:Int)==L)=true:=ν
 have m:((i:Int)==L)=false:=θ
 have p:(L:Int)<=cap:=κ
 have G:¬cap=i:=κ
 have R:(0:Int)<=L:=κ
 clear h hi c b;go_enter func192,ntmps192;go_wp2_with (at_builtin;refine Hid.o ?_);refine aa ?_;refine Lib.wpList_append_run _ rfl _ _ _ _ rfl _ _ rfl rfl _ _ (j.o _) ?_;have P:(i:Int)<L:=by have:=H.o;have:=a.o;omega
 obtain⟨vs,r⟩:=gC w g i cap (l.take i) (Own.mono f.o (aA _)) (L-i) (by have:=H.o;have:=a.o;omega) (by have:=H.o;have:=a.o;omega);have d:=Own.cleared (K:=aj) (E:=175) (B:=B) vs w (i*3) f.o (by rw[aJ];have:=H.o;have:=a.o;show _*3<=_;omega)
 have n:=aa (show iy B w (cx (av ⟨g,0,aK⟩) L cap) (l.take i) (c8 (cx (av ⟨g,0,aK⟩) i cap)) (w.setCells g (i*3) vs) from
  ⟨_,rfl,d.1,d.2.mono fun k _ e=>zaF,cS rfl,fun _=>rfl⟩)
 clear d;go_wp2_with fail;go_ret;exact n.o
theorem uW {g cap i m vr vo:Nat} (h:bk B w (cx (av ⟨g,0,aK⟩) l.length cap) l) (hl:l.length<=400) (j:m=ms.length) (n:bg aj w vr vo ms) (hi:i<l.length) (hc:i+m<=cap):
  Calls prog 192 #[cx (av ⟨g,0,aK⟩) l.length cap,bf ct i,bf ct l.length,cx (av ⟨vr,vo,aK⟩) m mc] w fun e w'=>iy B w (cx (av ⟨g,0,aK⟩) l.length cap) (l.take i++ms) e w':=by
 obtain⟨_,q,b⟩:=jg h;have s:=aa (Own.upto h i κ);have t:=aa n;have a:=aa (show i<l.length/\l.length<=cap/\m=ms.length/\i+m<=cap from⟨hi,q,j,hc⟩);obtain⟨L,c⟩:=ξx l.length;rw[<-c] at hl hi q |-;have u:=aa c;have J:(L:Int)<=400:=κ
 have Q:(i:Int)<=L:=κ
 have V:((L:Int)==L)=true:=ν
 have v:((i:Int)==L)=false:=θ
 have z:(L:Int)<=cap:=κ
 have A:¬cap=i:=κ
 have R:(0:Int)<=L:=κ
 clear h j n hi hc c b;go_enter func192,ntmps192;go_wp2_with (at_builtin;refine Hid.o ?_);refine aa ?_;refine wpList_plain (by rfl) fun _ p=>qp _ _ rfl g i cap rfl s.o (by rw[aJ];have:=a.o;omega) vr vo m mc ms rfl a.o.2.2.1.symm (fun _=>t.o) a.o.2.2.2 fun W r G=>p _ _ ?_;have H:=aa (show bk B W (cx (av ⟨g,0,aK⟩) (i+m) cap) (l.take i++ms)/\aE (fun k=>k=g) w W from⟨r,⟨G.os,G.tape,G.output,G.size,fun k x hn=>G.block k x (fun e=>hn zbp)⟩⟩);clear r G p;by_cases y:i+m<L
 ·have P:(i:Int)+m<L:=by omega
  have C:¬cap=i+m:=κ
  obtain⟨vs,D⟩:=gC W g (i+m) cap (l.take i++ms) (Own.mono H.o.1 (aA _)) (L-(i+m)) κ κ;have d:=Own.cleared (K:=aj) (E:=175) (B:=B) vs W ((i+m)*3) H.o.1 (by rw[aq,aJ];have:=a.o;have:=u.o;show _*3<=_;omega)
  have f:=aa (show iy B w (cx (av ⟨g,0,aK⟩) L cap) (l.take i++ms) (c8 (cx (av ⟨g,0,aK⟩) (i+m) cap)) (W.setCells g ((i+m)*3) vs) from
   ⟨_,rfl,d.1,(H.o.2.trans d.2 (fun _ _ e=>e)).mono fun k _ e=>zaF,cS rfl,fun _=>rfl⟩)
  clear d;go_wp2_with fail;go_ret;exact f.o
 ·have P:¬(i:Int)+m<L:=by omega
  have f:=aa (show iy B w (cx (av ⟨g,0,aK⟩) L cap) (l.take i++ms) (c8 (cx (av ⟨g,0,aK⟩) (i+m) cap)) W from
   ⟨_,rfl,H.o.1,H.o.2.mono fun k _ e=>zaF,cS rfl,fun _=>rfl⟩)
  go_wp2_with fail;go_ret;exact f.o
theorem wJ {g cap i m vr vo:Nat} (h:bk B w (cx (av ⟨g,0,aK⟩) l.length cap) l) (hl:l.length<=400) (f:m=ms.length) (n:bg aj w vr vo ms) (hi:i<l.length) (hc:cap<i+m) (p:B<=w.heap.size) (a:m<=400):
  Calls prog 192 #[cx (av ⟨g,0,aK⟩) l.length cap,bf ct i,bf ct l.length,cx (av ⟨vr,vo,aK⟩) m mc] w fun e w'=>iy B w (cx (av ⟨g,0,aK⟩) l.length cap) (l.take i++ms) e w':=by
 obtain⟨_,q,c⟩:=jg h;have s:=aa (Own.upto h i κ);have t:=aa n;have H:=aa (show i<l.length/\l.length<=cap/\m=ms.length/\cap<i+m/\B<=w.heap.size/\m<=400 from⟨hi,q,f,hc,p,a⟩);obtain⟨L,d⟩:=ξx l.length;rw[<-d] at hl hi q |-;have u:=aa d;have J:(L:Int)<=400:=κ
 have y:(i:Int)<=L:=κ
 have V:((L:Int)==L)=true:=ν
 have v:((i:Int)==L)=false:=θ
 have z:(L:Int)<=cap:=κ
 have C:¬cap=i:=κ
 have R:(0:Int)<=L:=κ
 clear h f n hi hc d c p a;go_enter func192,ntmps192;go_wp2_with (at_builtin;refine Hid.o ?_);refine aa ?_;refine fB (K:=aj) zo rfl _ _ rfl rfl s.o H.o.2.2.2.2.1 vr vo m mc ms rfl H.o.2.2.1.symm t.o (show (l.take i).length+m<=1000000000 by rw[aJ];have:=H.o;omega) ?_;intro v2 W G r j;obtain⟨Q,c2,rfl,A⟩:=Own.slice G;have b:(l.take i++ms).length=i+m:=by rw[aq,aJ];have:=H.o;omega
 rw[b] at G A j |-;have x:=aa (show iy B w (cx (av ⟨g,0,aK⟩) L cap) (l.take i++ms) (c8 (cx Q (i+m) c2)) W from⟨_,rfl,G,(aE.refl _ w).grown r (fun k e _=>e),j,fun _=>by have:=H.o;obtain⟨_,_,E,_⟩:=Own.form G κ;rw[E];rfl⟩);clear G r j b;have P:¬(i:Int)+m<L:=by have:=H.o;have:=u.o;omega
 go_wp2_with fail;go_ret;exact x.o
end
section
variable {w:World} {B:Nat} {l ms:List It} {va:Option Addr} {mc:Nat}
theorem DZ {g cap i j m:Nat} (h:bk B w (cx (av ⟨g,0,aK⟩) l.length cap) l) (hl:l.length<=400) (hm:m=ms.length) {vr vo:Nat} (hv:bg aj w vr vo ms/\vr<w.heap.size) (v:j<i+m) (hi:i<j) (P:j<l.length) (W:cap<i+m+(l.length-j)) (hB:B<=w.heap.size) (b:m<=400):
  Calls prog 192 #[cx (av ⟨g,0,aK⟩) l.length cap,bf ct i,bf ct j,cx (av ⟨vr,vo,aK⟩) m mc] w fun e w'=>iy B w (cx (av ⟨g,0,aK⟩) l.length cap) (l.take i++ms++l.drop j) e w':=by
 obtain⟨R,hg,Q,-,qh,r,x⟩:=kU h;have HH:=aa (And.intro h (And.intro hg (And.intro Q (And.intro r x))));have HV:=aa hv;have s:=aa (show j<i+m/\j<l.length/\l.length<=cap/\m=ms.length/\i<j/\cap<i+m+(l.length-j) from⟨v,P,qh,hm,hi,W⟩);obtain⟨L,I⟩:=ξx l.length;rw[<-I] at hl P qh W |-;have J:=aa I;have jK:(L:Int)<=400:=κ
 have aa1:(i:Int)<=j:=κ
 have QD:(i:Int)<=L:=κ
 have MX:(j:Int)<=L:=κ
 have aa2:(j:Int)<L:=κ
 have hne:((i:Int)==j)=false:=θ
 have aa3:((j:Int)==L)=false:=θ
 have JG:(L:Int)<=cap:=κ
 have Gb:¬cap=i:=κ
 have hcj:¬cap=j:=κ
 have Tg:(m:Int)<=400:=κ
 have hTI:(i:Int)+m+(L-j)>cap:=κ
 have UX:(0:Int)<=(i:Int)+m+(L-j):=κ
 have aa4:¬(i:Int)+m<=j:=κ
 have hiT:(i:Int)<=(i:Int)+m+(L-j):=κ
 have il0:(0:Int)<=(i:Int)+m:=κ
 have ilT:(i:Int)+m<=(i:Int)+m+((L-j:Nat):Int):=κ
 have iw:IntKind.i64.wrap ((i:Int)+m)=(i:Int)+m:=by
  have:=bQ (i+m) κ
  rwa [show ((i+m:Nat):Int)=(i:Int)+m by omega] at this
 have it1:((i:Int)+m).toNat=i+m:=κ
 obtain⟨M,Wy⟩:=ξx (aj.cells ((l.drop i).take (j-i)));have d:aj.cells l++R=aj.cells (l.take i)++(M++(aj.cells (l.drop j)++R)):=by grind [fX,List.drop_drop,aD]
 have y:=aa (show w.drew.heap[g]?=av (dg (aj.cells (l.take i)++(M++(aj.cells (l.drop j)++R))).toArray 175 (0,0))/\(aj.cells (l.take i)).length=i*3/\M.length=(j-i)*3/\(aj.cells (l.drop j)).length=(L-j)*3/\cap<=maxLen/\(aj.cells (l.take i)++(M++(aj.cells (l.drop j)++R))).length=cap*3 from
  ⟨by rw[<-d];exact hg,by rw[bZ,aJ,bT κ],by rw[Wy,bZ,aJ,aS,bT κ],by rw[bZ,aS,I],r,by rw[<-d];exact Q⟩)
 have Gd:g<w.heap.size:=(fY.1 hg).1;have hX:(aj.cells (l.take i)).length=i*3:=y.o.2.1;have H:=Own.lies h;have hx:∀k u,(aj.cells (l.take i))[k]?=av u->w.drew.cell? ⟨g,k,aK⟩=av u:=by intro k u hu;have:=H k u (by rw[fX l i,List.getElem?_append_left (List.getElem?_eq_some_iff.1 hu).1];exact hu);rw[bG] at this;exact this
 have Lv:bg aj w g (j*3) (l.drop j):=by have:=H.part j (l.length-j) κ;rw[bG,bD (by rw[aS];exact af _)] at this;exact this
 have N:=aa (And.intro Lv (And.intro Gd hB));obtain⟨c,Z,a,S,OP,A⟩:=uN w.drew g i cap (m+(L-j)) _ hX hx κ κ κ 166;rw[show i+(m+(L-j))=i+m+(L-j) by omega] at a S;have ya:((m+(L-j):Nat):Int)=(i:Int)+m+((L-j:Nat):Int)-i:=κ
 rw[ya] at a;have HR:=aa a;have f:=aa (And.intro S (And.intro OP A));clear Gd hX H hx Lv a S OP A ya hB;clear h hg Q r x hv hm v hi P I Wy d W b;go_enter func192,ntmps192;go_wp2_with fail
 go_region
 go_wp2_with (at_builtin;refine Hid.o ?_);refine aa ?_;refine Lib.wpList_append_run _ rfl _ _ _ _ rfl _ _ rfl rfl _ _ HR.o ?_;obtain⟨w1,n⟩:=ξx (w.drew.drew.alloc (dg (aj.cells (l.take i)++Z).toArray 175));obtain⟨G,p⟩:=ξx w.drew.heap.size;have C:Below w.heap.size w w1:=by rw[n];exact (Below.refl _ w).drew.drew.alloc (af _) _
 have D:w1.heap[G]?=av (dg (aj.cells (l.take i)++Z).toArray 175 (0,0)):=by rw[n,p];exact heap_alloc_new w.drew.drew _
 have z:=aa (show Below w.heap.size w w1/\w1.heap[G]?=av (dg (aj.cells (l.take i)++Z).toArray 175 (0,0))/\bg aj w1 vr vo ms/\bg aj w1 g (j*3) (l.drop j)/\G=w.heap.size/\w.heap.size<=w1.heap.size from⟨C,D,HV.o.1.below C HV.o.2,N.o.1.below C N.o.2.1,p,C.size⟩);rw[<-n,<-p];clear n p C D;have Gb:¬c=i:=by have:=f.o.1;have:=s.o;omega
 have aa5:¬c=i+m:=by have:=f.o.1;have:=s.o;have:=J.o;omega
 go_wp2_with (refine fF rfl _ _ rfl _ _ _ _ _ _ rfl rfl G (i*3) _ z.o.2.1 ms (by rw[<-s.o.2.2.2.1];exact (bT κ).symm) (fun h0=>⟨rfl,vr,vo,rfl,z.o.2.2.1⟩) (by rw[f.o.2.2,<-s.o.2.2.2.1];have:=f.o.1;omega) ?_;intro T p U;refine Hid.o ?_);refine aa ?_;have b:(aj.cells ms).length=m*3:=by rw[bZ,s.o.2.2.2.1]
 rw[<-y.o.2.1,gE rfl,b] at p;obtain⟨t,Y⟩:=ξx (Z.drop (m*3));rw[<-Y,<-aD] at p;have E:(aj.cells (l.take i)++aj.cells ms).length=(i+m)*3:=by rw[aq,y.o.2.1,b];omega
 have F:t.length+(i+m)*3=c*3:=by have h1:=f.o.2.2;rw[aq,y.o.2.1] at h1;rw[Y,aS];have:=f.o.1;omega
 have V:∀k,k<w.heap.size->¬k=G:=fun k X e=>by have:=z.o.2.2.2.2.1;omega
 have q:=aa (show T.heap[G]?=av (dg (aj.cells (l.take i)++aj.cells ms++t).toArray 175 (0,0))/\Below w.heap.size w T/\bg aj T g (j*3) (l.drop j)/\(aj.cells (l.take i)++aj.cells ms).length=(i+m)*3/\t.length+(i+m)*3=c*3 from
  ⟨p,z.o.1.trans (U.below z.o.2.2.2.2.2 V),z.o.2.2.2.1.but U (V g N.o.2.1),E,F⟩)
 clear p U b Y E F V;go_wp2_with fail;go_wp2_with (refine wp_region_any η ?_;refine Hid.o ?_);refine aa ?_;try (change wpAny _ _ _ _ _ _ _ (bu _))
 refine tk 0 ?_;refine tk 1 ?_;refine tk 2 ?_;refine tk 3 ?_;refine tk 4 ?_;refine tk 5 ?_;refine tk 6 ?_;refine tk 7 ?_;refine tk 8 ?_;try simp only[Act.put,aC,aB,ay]
 refine rd [9] (rn fun K hK=> ?_);refine gD _ _ rfl _ _ _ _ _ _ rfl rfl G ((i+m)*3) _ q.o.1 (l.drop j) (by rw[aS,<-J.o];exact (Nat.min_self _).symm) (fun _=>⟨rfl,g,j*3,rfl,q.o.2.2.1⟩) (by rw[aq,q.o.2.2.2.1,aS,<-J.o];have:=f.o.1;have:=q.o.2.2.2.2;omega) ?_;intro w3 O b8;refine hK _ _ ?_;clear hK K;refine wpAny_done η ?_ _;rw[<-q.o.2.2.2.1,gE rfl] at O;obtain⟨R2,Cl⟩:=ξx (t.drop (aj.cells (l.drop j)).length);rw[<-Cl] at O;have hcs:aj.cells (l.take i++ms++l.drop j)++R2=aj.cells (l.take i)++aj.cells ms++(aj.cells (l.drop j)++R2):=by rw[Elem.cj,Elem.cj];simp only[aD]
 have HE:=aa (show iy B w (cx (av ⟨g,0,aK⟩) L cap) (l.take i++ms++l.drop j) (c8 (cx (av ⟨G,0,aK⟩) (i+m+(L-j)) c)) w3 from by
  have hb4:Below w.heap.size w w3:=q.o.2.1.drew.trans (b8.below q.o.2.1.size (fun k X e=>by have:=z.o.2.2.2.2.1;omega));refine⟨_,rfl,gq (R:=R2) (by rw[hcs];exact O) ?_ ?_ f.o.1 f.o.2.1 (by rw[z.o.2.2.2.2.1];exact N.o.2.2),aE.aF hb4 _,dc fun k X=> ?_,fun _=>rfl⟩;·rw[hcs,aq,q.o.2.2.2.1,aq,Cl,aS,y.o.2.2.2.1];have:=f.o.1;have:=q.o.2.2.2.2;omega
  ·rw[aq,aq,aJ,aS];have:=s.o;have:=J.o;omega
  ·have e:av G=av k:=X;injection e with e;have:=z.o.2.2.2.2.1;omega)
 clear O b8 Cl hcs;go_wp2_with fail;go_ret;exact HE.o
end
section
variable {w:World} {B:Nat} {l ms:List It} {va:Option Addr} {mc:Nat}
theorem D1 {g cap i j m:Nat} (h:bk B w (cx (av ⟨g,0,aK⟩) l.length cap) l) (hl:l.length<=400) (F:m=ms.length) {vr vo:Nat} (J:bg aj w vr vo ms/\vr≠g/\∃cur,w.heap[vr]?=av (dg cur 175 (0,0))/\cur.size≠0) (r:j<i+m) (hi:i<j) (C:j<l.length) (W:i+m+(l.length-j)<=cap) (c:m<=400):
  Calls prog 192 #[cx (av ⟨g,0,aK⟩) l.length cap,bf ct i,bf ct j,cx (av ⟨vr,vo,aK⟩) m mc] w fun e w'=>iy B w (cx (av ⟨g,0,aK⟩) l.length cap) (l.take i++ms++l.drop j) e w':=by
 obtain⟨R,hg,E,-,O,f,s⟩:=kU h;have HH:=aa (And.intro h (And.intro hg (And.intro E (And.intro f s))));have x:=aa J;have b:=aa (show j<i+m/\j<l.length/\l.length<=cap/\m=ms.length/\i<j/\i+m+(l.length-j)<=cap from⟨r,C,O,F,hi,W⟩);obtain⟨L,y⟩:=ξx l.length;rw[<-y] at hl C O W |-;have d:=aa y;have jK:(L:Int)<=400:=κ
 have aa1:(i:Int)<=j:=κ
 have QD:(i:Int)<=L:=κ
 have MX:(j:Int)<=L:=κ
 have aa2:(j:Int)<L:=κ
 have hne:((i:Int)==j)=false:=θ
 have aa3:((j:Int)==L)=false:=θ
 have JG:(L:Int)<=cap:=κ
 have Gb:¬cap=i:=κ
 have hcj:¬cap=j:=κ
 have Tg:(m:Int)<=400:=κ
 have hTI:¬(i:Int)+m+(L-j)>cap:=κ
 have UX:(0:Int)<=(i:Int)+m+(L-j):=κ
 have acO:(i:Int)+m+(L-j)<=cap:=κ
 have aa4:¬(i:Int)+m<=j:=κ
 have hiT:(i:Int)<=(i:Int)+m+(L-j):=κ
 have aa5:¬cap=i+m:=κ
 have il0:(0:Int)<=(i:Int)+m:=κ
 have ilT:(i:Int)+m<=(i:Int)+m+((L-j:Nat):Int):=κ
 have iw:IntKind.i64.wrap ((i:Int)+m)=(i:Int)+m:=by grind [bQ]
 have it1:((i:Int)+m).toNat=i+m:=κ
 obtain⟨M,P⟩:=ξx (aj.cells ((l.drop i).take (j-i)));have a:aj.cells l++R=aj.cells (l.take i)++(M++(aj.cells (l.drop j)++R)):=by grind [fX,List.drop_drop,aD]
 have H:=aa (show w.drew.heap[g]?=av (dg (aj.cells (l.take i)++(M++(aj.cells (l.drop j)++R))).toArray 175 (0,0))/\(aj.cells (l.take i)).length=i*3/\M.length=(j-i)*3/\(aj.cells (l.drop j)).length=(L-j)*3/\cap<=maxLen/\(aj.cells (l.take i)++(M++(aj.cells (l.drop j)++R))).length=cap*3 from
  ⟨by rw[<-a];exact hg,by rw[bZ,aJ,bT κ],by rw[P,bZ,aJ,aS,bT κ],by rw[bZ,aS,y],f,by rw[<-a];exact E⟩)
 clear h hg E f s J F r hi C y P a W c;go_enter func192,ntmps192;go_wp2_with fail
 go_region
 go_wp2;rw[qt w.drew g ((i+m)*3) (L-j) (cap-(i+m)) vr vo m mc (fun e=>x.o.2.1 e.symm) ⟨_,H.o.1⟩ x.o.2.2];rw[Oper.upon_value];go_wp2_with fail;obtain⟨N,n⟩:=ξx ((M++(aj.cells (l.drop j)++R)).take (m*3));obtain⟨Q,p⟩:=ξx ((M++(aj.cells (l.drop j)++R)).drop (m*3));have T:M++(aj.cells (l.drop j)++R)=N++Q:=by rw[n,p,b_]
 have t:(M++(aj.cells (l.drop j)++R)).length+i*3=cap*3:=by have z:=H.o.2.2.2.2.2;rw[aq,H.o.2.1] at z;omega
 have q:N.length=m*3:=by rw[n,aJ];have:=b.o;have:=d.o;omega
 have u:Q.length+m*3+i*3=cap*3:=by rw[p,aS];have:=b.o;have:=d.o;omega
 have v:=H.o.2.2.2.1;have c:(aj.cells ms).length=m*3:=by rw[bZ,b.o.2.2.2.1]
 have U:bg aj w.drew g (j*3) (l.drop j):=by
  have z:=H.o.1;rw[<-aD] at z;have V:=mQ z;have e:(aj.cells (l.take i)++M).length=j*3:=by rw[aq,H.o.2.1,H.o.2.2.1];have:=b.o;omega
  rw[e] at V;exact V
 have H0:=aa (show w.drew.heap[g]?=av (dg (aj.cells (l.take i)++N++Q).toArray 175 (0,0))/\bg aj w.drew g (j*3) (l.drop j)/\(aj.cells (l.take i)++N).length=(i+m)*3/\N.length=m*3/\Q.length+m*3+i*3=cap*3/\(aj.cells (l.drop j)).length=(L-j)*3/\(aj.cells ms).length=m*3 from
  ⟨by rw[aD,<-T];exact H.o.1,U,by rw[aq,H.o.2.1,q];omega,q,u,v,c⟩)
 clear n p T t q u v c U;go_wp2_with (refine wp_region_any η ?_;refine Hid.o ?_);refine aa ?_;try (change wpAny _ _ _ _ _ _ _ (bu _))
 refine tk 0 ?_;refine tk 1 ?_;refine tk 2 ?_;refine tk 3 ?_;refine tk 4 ?_;refine tk 5 ?_;refine tk 6 ?_;refine tk 7 ?_;refine tk 8 ?_;try simp only[Act.put,aC,aB,ay]
 refine rd [9] (rn fun K X=> ?_);refine gD _ _ rfl _ _ _ _ _ _ rfl rfl g ((i+m)*3) _ H0.o.1 (l.drop j) (by rw[aS,<-d.o];exact (Nat.min_self _).symm) (fun _=>⟨rfl,g,j*3,rfl,H0.o.2.1⟩) (by rw[aq,H0.o.2.2.1,aS,<-d.o];have:=b.o;have:=d.o;have:=H0.o.2.2.2.2.1;omega) ?_;intro w1 I Z;refine X _ _ ?_;clear X K;refine wpAny_done η ?_ _;have Y:=(aE.refl (fun k=>k=g) w).drew.drew.trans Z (fun _ _ h=>h);rw[<-H0.o.2.2.1,gE rfl] at I;obtain⟨R2,D⟩:=ξx (Q.drop (aj.cells (l.drop j)).length);rw[<-D,aD] at I;have Rx:R2.length+(L-j)*3+m*3+i*3=cap*3:=by rw[D,aS,H0.o.2.2.2.2.2.1];have:=b.o;have:=d.o;have:=H0.o.2.2.2.2.1;omega
 have A:=aa (show w1.heap[g]?=av (dg (aj.cells (l.take i)++(N++(aj.cells (l.drop j)++R2))).toArray 175 (0,0))/\aE (fun k=>k=g) w w1/\bg aj w1 vr vo ms/\R2.length+(L-j)*3+m*3+i*3=cap*3 from⟨I,Y,x.o.1.but (S:=fun k=>k=g) Y x.o.2.1,Rx⟩);clear I Z Y D Rx;go_wp2_with (refine fF rfl _ _ rfl _ _ _ _ _ _ rfl rfl g (i*3) _ A.o.1 ms (by rw[<-b.o.2.2.2.1];exact (bT κ).symm) (fun h0=>⟨rfl,vr,vo,rfl,A.o.2.2.1⟩) (by rw[aq,H.o.2.1,aq,H0.o.2.2.2.1,<-b.o.2.2.2.1];omega) ?_;intro w2 G aQ;refine Hid.o ?_);refine aa ?_;rw[<-H.o.2.1,gE rfl,H0.o.2.2.2.2.2.2,List.drop_left' H0.o.2.2.2.1] at G;have hcs:aj.cells (l.take i++ms++l.drop j)++R2=aj.cells (l.take i)++(aj.cells ms++(aj.cells (l.drop j)++R2)):=by rw[Elem.cj,Elem.cj];simp only[aD]
 have HE:=aa (show iy B w (cx (av ⟨g,0,aK⟩) L cap) (l.take i++ms++l.drop j) (c8 (cx (av ⟨g,0,aK⟩) (i+m+(L-j)) cap)) w2 from by
  refine⟨_,rfl,gq (R:=R2) (by rw[hcs];exact G) ?_ ?_ (by have:=b.o;have:=d.o;omega) H.o.2.2.2.2.1 HH.o.2.2.2.2,(A.o.2.1.trans aQ (fun _ _ e=>e)).mono fun k _ e=>zaF,cS rfl,fun _=>rfl⟩;·rw[hcs,aq,aq,aq,H.o.2.1,H0.o.2.2.2.2.2.1,H0.o.2.2.2.2.2.2];have:=A.o.2.2.2;omega
  ·rw[aq,aq,aJ,aS];have:=b.o;have:=d.o;omega)
 clear G aQ hcs;go_wp2_with fail;go_ret;exact HE.o
end
section
variable {w:World} {B:Nat} {l ms:List It} {lv:Value}
theorem Gl {g cap i j:Nat} (h:bk B w (cx (av ⟨g,0,aK⟩) l.length cap) l) (x:B<=w.heap.size) (hl:l.length<=400) (H:bk 0 w lv ms) (d:∀k,lv.ownBlock=av k->k≠g) (q:ms.length<=400) (hi:i<j) (y:j<=l.length):
  Calls prog 192 #[cx (av ⟨g,0,aK⟩) l.length cap,bf ct i,bf ct j,lv] w fun e w'=>iy B w (cx (av ⟨g,0,aK⟩) l.length cap) (l.take i++ms++l.drop j) e w':=by
 obtain⟨r,Q,s⟩:=jg h;rcases ep 0 ms.length with hpos|z
 ·obtain⟨vr,mc,rfl,-,t,f⟩:=Own.form H hpos;have n:=d vr rfl;have o:=Own.lies H;obtain⟨R,hg,E,-,-,-,-⟩:=kU H;have hcell:∃cur,w.heap[vr]?=av (dg cur 175 (0,0))/\cur.size≠0:=⟨_,hg,by rw[List.size_toArray,E];omega⟩;by_cases b:j=l.length;·grind [List.drop_length,uW,wJ]
  ·by_cases p:i+ms.length<=j;·exact qu h hl rfl (fun _=>⟨vr,0,rfl,o,n⟩) p hi κ
   ·grind [D1,DZ]
 ·obtain rfl:ms=[]:=List.eq_nil_of_length_eq_zero κ;obtain⟨a,mc,rfl,f⟩:=Own.slice H;rw[bh];by_cases b:j=l.length
  ·subst b;rw[List.drop_length,bh];rcases H.2 with⟨e,_⟩|⟨G,c,cur,e,_⟩;·simp_all[Gk]
   ·rw[e];have o:bg aj w G 0 ([]:List It):=(by intro k u hu;simp[Elem.cells] at hu);have:=uW h hl rfl o hi (by simp only[gd];omega) (mc:=c);rw[bh] at this;exact this
  ·have:=qu h hl (m:=0) (ms:=[]) (va:=a) (mc:=mc) rfl (fun v=>absurd v ν) κ hi κ (j:=j);rw[bh] at this;exact this
theorem Aa {it:It} {vr vo i:Nat} (h:bk B w lv l) (d:B<=w.heap.size) (hl:l.length<=400) (a:bg aj w vr vo [it]) (H:∀k,lv.ownBlock=av k->vr≠k) (L:∃cur,w.heap[vr]?=av (dg cur 175 (0,0))) (hi:i<=l.length):
  Calls prog 89 #[lv,bf ct i,cx (av ⟨vr,vo,aK⟩) 1 1] w fun e w'=>iy B w lv (l.take i++it::l.drop i) e w':=by
 by_cases b:i=l.length;·simp_all[List.take_length,List.drop_length,JJ]
 ·obtain⟨g,cap,rfl,c,G,hc⟩:=Own.form h κ;by_cases q:l.length+1<=cap;·exact Ga h hl a κ q (H g rfl) L
  ·grind [Gc]
end
end
end Go.Proofs.YtgfdijemhanfkaaGreatDoor
