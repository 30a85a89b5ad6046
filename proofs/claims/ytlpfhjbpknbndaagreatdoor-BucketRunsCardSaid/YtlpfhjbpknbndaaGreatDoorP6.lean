/- Elder texts, cut down and merged (6). -/
import Derived.Test.YtlpfhjbpknbndaaGreatDoorP5
import Derived.Test.YtlpfhjbpknbndaaGreatDoorP2
import Derived.Test.YtlpfhjbpknbndaaGreatDoorP1
import Derived.StillTailTactics
import Derived.Lib.SlMapMerge
import Derived.Lib.Strings
import Derived.Lib.Walk
import Derived.Lib.BufferWrite
import Derived.Lib.UnsafeStr
import Derived.Laws.MakeOwn
import Derived.Lib.SliceRun
import Derived.Test.YtlpfhjbpknbndaaGreatDoorPTk
set_option maxRecDepth 100000
set_option maxHeartbeats 8000000
namespace Go.Proofs.YtlpfhjbpknbndaaGreatDoor
open Value renaming int→bf,bool→eX,pointer→e7,tuple→gu,string→bR,slice→cx
open IntKind renaming i64→cu,u64→dg,u8→gx
open Ending renaming returned→eb
open Or renaming inl→dc,inr→dn
open Option renaming none→av,some→aD
open Obj renaming cells→ey
open List renaming replicate->bB,getElem?_replicate->nT,getElem?_eq_getElem->aK,getD_eq_getElem?_getD->bZ,mem_cons->aX,take_of_length_le->cg,getElem?_map->cD,mem_append->aj,mem_singleton->cQ,length_take->aO,map_cons->bM,append_nil->bA,setIfInBounds_toArray->aA,set_cons_succ->az,set_cons_zero->ay,getElem_mem->bI,filter_cons->cW,mem_filter->dz
open Nat renaming zero_le->aB,lt_of_lt_of_le->dD,le_refl->ah,zero_add->bE,le_trans->aH,min_eq_left->ct,add_zero->d_
open World renaming size_alloc->aS,drew->bJ
open Int renaming toNat_natCast->dF
open _root_.Array renaming length_toList->bk
section
open Go.RowKit Lib
def pX (ring size:Nat):Wl.Lg:=⟨ring,size-1-ring,0,1,0,[],false,Dk.fresh size⟩
theorem Iz (w:World) (F:Nat->Prop) (b g ring size:Nat) (hl:Log w F b g ⟨ring,size-1-ring,0,0,0,[],false,Dk.fresh size⟩) (hr:ring<=4096) (hs:size<=65536) (J:1<=size):
  Calls Tryz.prog 42 #[ptr b] w fun e w'=>e=eb (eX true)/\∃C,Log w' C b g ((pX ring size).with (Wl.wr (false,Dk.fresh size) (0,Wl.first size ring 0 1)))/\bY F w C w':=by
 have E:=aa hl;obtain⟨mb,FD,hp⟩:=hl;have c0:=hp.c0;have K:=aa hp.sec;have Z:(size:Int)<=65536:=by omega
 have H:(Dk.fresh size).fU.length=size:=by simp[Dk.fresh]
 have f:∀k,k<size->((Dk.fresh size).read (k:Nat)).1=Dk.full []:=by intro k r;rw[Dk.Gr rfl (show (Dk.fresh size).now[k]?=aD (Dk.full []) by show (Dk.fO (bB size (Dk.full [])) [])[k]?=_;rw[Dk.nR,nT,if_pos r])]
 have L:=aa f;clear hp f;go_enter Tryz.func42,Tryz.ntmps42;unfold ptr;go_wp2_with fail;refine (qI w FD g _ K.o).mono ?_;rintro e w1 ⟨rfl,rfl⟩;rw[H];go_wp2_with fail
 go_loopw [9] (fun i wr=>∃k:Nat,k<=size/\i=bf cu k/\Hid (Below w1.heap.size w1 wr)) (fun i _=>size-(RowKit.intOf i).toNat)
 case atStart=>exact⟨0,aB _,rfl,aa (Below.refl _ _)⟩
 case round=>
  obtain⟨k,r,rfl,j⟩:=hrel;by_cases l:k<size
  ·have hI:(k:Int)<size:=(by omega);have uD:(k:Int)<=65536:=(by omega);have pM:(0:Int)<=k:=(by omega);have s:=aa l;clear l r;go_wp2_with fail;refine (K8 wr F b g _ k (E.o.below j.o)).mono ?_;rintro e O ⟨rfl,rfl⟩;rw[show ((Dk.fresh size).read (k:Nat)).1=Dk.full [] from L.o k s.o];go_wp2_with fail;refine (Em _ _ (by rw[aP,Wl.BI];decide)).mono ?_;rintro e w3 ⟨rfl,nq,rfl⟩;rw[bS,Wl.qQ];have Q:=aa (j.o.trans ((eN O nq).mono j.o.size));go_wp2;go_roundw
   case rel=>exact⟨k+1,s.o,by go_num,Q⟩
   case measure=>have:=s.o;simp[RowKit.intOf];omega
  ·obtain rfl:size=k:=by omega
   have t:=E.o.below j.o;have P:wr.cell? ⟨b,3,av⟩=aD (bf cu 0):=t.c3;have R:wr.cell? ⟨b,4,av⟩=aD (bf dg 0):=t.c4;obtain⟨M,u,q⟩:=t;have f3:=q.blk.frozen 3;have S:=q.blk.frozen 4;have V:=aa q;clear q;go_wp2_with fail;have s1:=V.o.set 3 (bf cu 0) ⟨ring,size-1-ring,0,0,0,[],false,Dk.fresh size⟩ rfl rfl rfl;have s2:=s1.1.set 4 (bf dg 1) (pX ring size) rfl rfl rfl;obtain⟨Y,G⟩:∃Y,Y=(wr.setCell ⟨b,3,av⟩ (bf cu 0)).setCell ⟨b,4,av⟩ (bf dg 1):=⟨_,rfl⟩;have v:=s1.2.trans s2.2;have I:=s2.1;rw[<-G] at v I |-;have y:aG (fun _=>False) Y Y.drew:=(aG.refl _ Y).drew;have a:=aa (show jF Y.drew F b g M u (pX ring size)/\bY F w1 F Y.drew from⟨I.but y (fun _ _ h=>h),(show bY F w1 F wr from⟨aG.aJ j.o _,fun _ h=>dc h⟩).trans (v.trans ⟨y.mono (fun _ _ h=>h.elim),fun _ h=>dc h⟩)⟩);clear s1 s2 G v I y P R f3 S c0;have c0:Y.drew.cell? ⟨b,0,av⟩=aD (e7 (aD ⟨g,0,av⟩)):=a.o.1.c0;have c1:Y.drew.cell? ⟨b,1,av⟩=aD (bf cu ring):=a.o.1.c1;have c3:Y.drew.cell? ⟨b,3,av⟩=aD (bf cu 0):=a.o.1.c3;have c4:Y.drew.cell? ⟨b,4,av⟩=aD (bf dg 1):=a.o.1.c4
   go_region_held3 (fun w'=>w'.cell? ⟨b,0,av⟩=aD (e7 (aD ⟨g,0,av⟩))/\w'.cell? ⟨b,1,av⟩=aD (bf cu ring)/\w'.cell? ⟨b,3,av⟩=aD (bf cu 0)/\w'.cell? ⟨b,4,av⟩=aD (bf dg 1))
    (first
     |(exact⟨c0,c1,c3,c4⟩)
     |(exact⟨D,x,z,A⟩)
     |go_keep)
    (first
     |(go_at_call 40;refine (qI _ u g _ a.o.1.sec).mono ?_;rintro e w4 ⟨rfl,rfl⟩)
     |(go_at_call 63;refine (x8 (pX ring size).d.fU.length ring 0 1 _ (by have:=H;exact (by omega:(Dk.fresh size).fU.length<=1000000)) (by omega) (by omega) (by decide)).mono ?_;rintro e W ⟨rfl,N⟩;have T:=aa (show jF W F b g M u (pX ring size)/\bY F w1 F W from⟨a.o.1.below N,a.o.2.trans ⟨aG.aJ N _,fun _ h=>dc h⟩⟩);have D:W.cell? ⟨b,0,av⟩=aD (e7 (aD ⟨g,0,av⟩)):=T.o.1.c0;have x:W.cell? ⟨b,1,av⟩=aD (bf cu ring):=T.o.1.c1;have z:W.cell? ⟨b,3,av⟩=aD (bf cu 0):=T.o.1.c3;have A:W.cell? ⟨b,4,av⟩=aD (bf dg 1):=T.o.1.c4;clear N)
     |(go_at_call 62;refine (Eo _ F b g (pX ring size) 0 _ T.o.1.log (by show ([]:List (Nat×List UInt8)).length<=_;simp)).mono ?_;rintro e c ⟨rfl,B,m,n⟩;have p:=aa (show Log c B b g ((pX ring size).with (Wl.wr (false,Dk.fresh size) (0,Wl.first (pX ring size).d.fU.length ring 0 1)))/\bY F w1 B c from⟨m,T.o.2.trans n⟩);obtain⟨_,_,U⟩:=m;have D:c.cell? ⟨b,0,av⟩=aD (e7 (aD ⟨g,0,av⟩)):=U.c0;have x:c.cell? ⟨b,1,av⟩=aD (bf cu ring):=U.c1;have z:c.cell? ⟨b,3,av⟩=aD (bf cu 0):=U.c3;have A:c.cell? ⟨b,4,av⟩=aD (bf dg 1):=U.c4;clear U n))
   clear c0 c1 c3 c4 D x z A;go_wp2;go_ret;have X:(pX ring size).d.fU.length=size:=H;rw[X] at p;exact⟨rfl,B,p.o⟩
theorem B5 (s:ByteArray):strCells s++(zeros.map bV).drop s.size=(Dk.full s.data.toList).map bV:=by rw[<-ve s,zeros,List.map_replicate];rfl
def bare (ring homes:Nat) (d:Dk.cm):Wl.Lg:=⟨ring,homes,0,0,0,[],false,d⟩
theorem jF.make {w:World} {FD:Nat->Prop} {g ring homes:Nat} {d:Dk.cm} (hs:pK w FD g d):
  jF ((w.alloc (.map #[] 0)).alloc (ey (m5 g w.heap.size (bare ring homes d)).toArray 108)) (both FD (fun k=>k=w.heap.size\/k=w.heap.size+1)) (w.heap.size+1) g w.heap.size FD (bare ring homes d)/\
  bY FD w (both FD (fun k=>k=w.heap.size\/k=w.heap.size+1)) ((w.alloc (.map #[] 0)).alloc (ey (m5 g w.heap.size (bare ring homes d)).toArray 108)):=by
 have b:aG (fun _=>False) w ((w.alloc (.map #[] 0)).alloc (ey (m5 g w.heap.size (bare ring homes d)).toArray 108)):=((aG.refl _ w).alloc _).alloc _;have a:=hs.lt;refine⟨⟨?_, ?_,hs.but b (fun _ _ h=>h),fun h=>by have:=a _ h;omega,fun h=>by have:=a _ h;omega,dn (dn rfl),dn (dc rfl),fun k H=>dc H,fun k H=> ?_⟩,b.mono (fun _ _ h=>h.elim),fun k H=> ?_⟩;·have:=aU.new (w.alloc (.map #[] 0)) (m5 g w.heap.size (bare ring homes d)).toArray 108;rw[aS] at this;exact this
 ·exact (gy.made Tryz.prog Oo qO w).but ((aG.refl (fun _=>False) _).alloc _) id
 ·simp only[aS];rcases H with H|H|H;·grind
  ·omega
  ·omega
 ·rcases H with H|H|H;·exact dc H
  ·exact dn (by omega)
  ·exact dn (by omega)
theorem Et (w:World) (FD:Nat->Prop) (g ring size:Nat) (hs:pK w FD g (Dk.fresh size)) (M:4<=ring) (K:ring<=4096) (a:ring+2<=size) (p:size<=65536):
  Calls Tryz.prog 26 #[ptr g,bf cu ring] w fun e w'=>∃b q,e=eb (gu #[ptr b,bf cu 0])/\Log w' q b g (Wl.begun size ring)/\bY FD w q w':=by
 have f:=aa hs;have i:=aa (And.intro M (And.intro K (And.intro a p)));have I:(4:Int)<=ring:=by omega
 have B:(ring:Int)<=4096:=by omega
 have C:(ring:Int)+2<=size:=by omega
 have D:(size:Int)<=65536:=by omega
 have H:(Dk.fresh size).fU.length=size:=by simp[Dk.fresh]
 have k:=aa (show ((size:Int)-1-ring)=((size-1-ring:Nat):Int) by omega);clear hs M K a p;have l:=@run_makeMap Tryz.prog;go_enter Tryz.func26,Tryz.ntmps26;unfold ptr;go_wp2_with fail;refine (qI w FD g _ f.o).mono ?_;rintro e w1 ⟨rfl,rfl⟩;rw[H];go_wp2_with fail;refine (eY w1 FD g _ f.o).mono ?_;rintro e x ⟨rfl,rfl⟩;rw[show (Dk.fresh size).off=false from rfl];go_wp2_with fail;refine (qI x FD g _ f.o).mono ?_;rintro e w3 ⟨rfl,rfl⟩;rw[H];go_wp2_with fail;rw[k.o];have h:=jF.make (ring:=ring) (homes:=(size-1-ring)) f.o;obtain⟨V,m⟩:∃V,V=((w3.alloc (.map #[] 0)).alloc (ey (m5 g w3.heap.size (bare ring (size-1-ring) (Dk.fresh size))).toArray 108)):=⟨_,rfl⟩;rw[<-m] at h;change Calls Tryz.prog _ _ ((w3.alloc (.map #[] 0)).alloc (ey (m5 g w3.heap.size (bare ring (size-1-ring) (Dk.fresh size))).toArray 108)) _;rw[<-m];have n:=aa (show ∃F,Log V F (w3.heap.size+1) g (bare ring (size-1-ring) (Dk.fresh size))/\bY FD w3 F V from⟨_,h.1.log,h.2⟩);clear h m l;obtain⟨b,r⟩:∃b,b=w3.heap.size+1:=⟨_,rfl⟩;rw[<-r] at n |-;clear r;obtain⟨F,s,t⟩:=n.o;have u:=aa (And.intro s t);clear s t n;refine (Iz V F b g ring size u.o.1 i.o.2.1 i.o.2.2.2 (by have:=i.o.2.2.1;omega)).mono ?_;rintro e y ⟨rfl,z,c,d⟩;have v:=aa (And.intro c (u.o.2.trans d));clear c d;go_wp2_with fail;refine (Ep y z b g _ v.o.1).mono ?_;rintro e W ⟨rfl,j,R,N⟩;change Log W j b g ((pX ring size).with (Wl.fl (Wl.wr (false,Dk.fresh size) (0,Wl.first size ring 0 1)))) at R;rw[Wl.D8 size ring (by have:=i.o.2.2.1;omega)] at R;have c7:W.cell? ⟨b,7,av⟩=aD (eX false):=R.c7;have A:=aa (show Log W j b g (Wl.begun size ring)/\bY FD w3 j W from⟨R,v.o.2.trans N⟩);clear R N;go_wp2
 go_ret2
 exact⟨b,j,rfl,A.o⟩
def Left (w w':World) (F:Nat->Prop) (b g:Nat) (Q:Wl.Lg->Prop):Prop:=∃f s',Log w' f b g s'/\bY F w f w'/\Q s'
def gW (H:List Wl.Text) (i:Int):Wl.Text×Int:=if 0<=i/\i<H.length then (H.getD i.toNat [],0) else ([],2)
theorem IB {ring N:Nat} {s:Wl.Lg} {H:List Wl.Text} (h:Wl.Live ring N s H) (i:Int):s.read i=gW H i:=by
 obtain⟨m,n,h3,h4,o,p,q,r,u,f,g,k,b⟩:=h.read;unfold Wl.Lg.read gW;rw[h.off_eq,if_neg (by decide)];have E:=h.homes_eq;have l:=h.Gk;by_cases hi:0<=i/\i<H.length
 ·have hh:s.has i=true:=by simp[Wl.Lg.has,E,hi.1,hi.2]
  rw[hh,if_neg (by decide),if_pos hi];obtain⟨j,rfl⟩:∃j:Nat,i=j:=⟨i.toNat,by omega⟩;rw[dF];have c:j<H.length:=by omega
  have a:=b j c;rw[aK c] at a;rw[bZ,aK c,Option.getD_some];cases hl:Wl.look j s.wait with
  |some t=>rw[hl] at a;have e:H[j]=t:=(by simpa using a);rw[e]
  |none=>rw[hl,Option.none_or] at a;show s.d.read ((1+s.ring+j:Nat):Int)=_;rw[l];exact Dk.Gr h.on a.symm
 ·grind [Wl.Lg.has]
theorem IC (w:World) (F:Nat->Prop) (b g ring N:Nat) (s:Wl.Lg) (H:List Wl.Text) (i:Int) (hl:Log w F b g s) (h:Wl.Live ring N s H):
  Calls Tryz.prog 198 #[ptr b,bf cu i] w fun e w'=>e=eb (gu #[bR (bs (gW H i).1),bf cu (gW H i).2])/\Below w.heap.size w w':=by
 refine (Iy w F b g s i hl h.Kb).mono ?_;rintro e w' ⟨rfl,a⟩;rw[IB h i];exact⟨rfl,a⟩
theorem Eu (w:World) (FD:Nat->Prop) (g ring size:Nat) (hs:pK w FD g (Dk.fresh size)) (m:4<=ring) (k:ring<=4096) (h:ring+2<=size) (K:size<=65536):
  Calls Tryz.prog 26 #[ptr g,bf cu ring] w fun e w'=>∃b,e=eb (gu #[ptr b,bf cu 0])/\Left w w' FD b g (fun s'=>Wl.Live ring 1 s' (Wl.dQ (size-1-ring))/\s'.d.fuel<0):=by
 refine (Et w FD g ring size hs m k h K).mono ?_;rintro e w' ⟨b,F,rfl,H,a⟩;exact⟨b,rfl,F,_,H,a,Wl.D7 size ring m k h K,by show (-1:Int)<0;decide⟩
theorem o8 {H:List Wl.Text} {k:Nat} (h:k<H.length):gW H (k:Nat)=(H[k],0):=by unfold gW;rw[if_pos (by omega),dF,bZ,aK h];rfl
def Kept (A:Nat->Prop) (ring:Nat) (wr:World) (b g N:Nat) (H:List Wl.Text):Prop:=
 ∃F s,Log wr F b g s/\Wl.Live ring N s H/\s.d.fuel<0/\(∀x,F x->¬A x)/\∀x,A x->x<wr.heap.size
abbrev UM (A:Nat->Prop) (w w':World):Prop:=aG (fun x=>¬A x) w w'
theorem UM.below {A:Nat->Prop} {B:Nat} {w w':World} (h:UM A w w') (hA:∀x,x<B->A x) (H:B<=w.heap.size):Below B w w':=aG.below h H (fun k a hn=>hn (hA k a))
theorem Kept.left {A:Nat->Prop} {ring b g N:Nat} {H:List Wl.Text} {w w':World} {F f:Nat->Prop} {s':Wl.Lg} (ha:∀x,F x->¬A x) (a:∀x,A x->x<w.heap.size) (i:Log w' f b g s') (e:bY F w f w') (j:Wl.Live ring N s' H) (hf:s'.d.fuel<0):
  Kept A ring w' b g N H/\UM A w w':=
 ⟨⟨f,s',i,j,hf,fun x c hn=>by
  rcases e.2 x c with h|h;·exact ha x h hn
  ·have:=a x hn;omega,fun x c=>dD (a x c) e.1.size⟩,e.1.mono (fun x _ c=>ha x c)⟩
def RS (A:Nat->Prop) (ring:Nat) (w w':World) (b g N:Nat) (H:List Wl.Text):Prop:=Kept A ring w' b g N H/\UM A w w'
theorem yV {A:Nat->Prop} {ring b g N:Nat} {H:List Wl.Text} {w:World} (h:Kept A ring w b g N H) (i:Int):
  Calls Tryz.prog 198 #[ptr b,bf cu i] w fun e w'=>e=eb (gu #[bR (bs (gW H i).1),bf cu (gW H i).2])/\Below w.heap.size w w':=by
 obtain⟨F,s,hl,a,hf,hA,c⟩:=h;exact IC w F b g ring N s H i hl a
theorem Ew {A:Nat->Prop} {g ring size:Nat} {w:World} {FD:Nat->Prop} (hs:pK w FD g (Dk.fresh size)) (hA:∀x,FD x->¬A x) (h:∀x,A x->x<w.heap.size) (m:4<=ring) (k:ring<=4096) (H:ring+2<=size) (K:size<=65536):
  Calls Tryz.prog 26 #[ptr g,bf cu ring] w fun e w'=>∃b,e=eb (gu #[ptr b,bf cu 0])/\RS A ring w w' b g 1 (Wl.dQ (size-1-ring)):=by
 refine (Eu w FD g ring size hs m k H K).mono ?_;rintro e w' ⟨b,rfl,F,s',a,c,d,hf⟩;exact⟨b,rfl,Kept.left hA h a c d hf⟩
theorem Lj {α:Type} (K:Elem α) (E:TypeId) (w:World):Own K E w.heap.size (w.alloc (ey #[] E)) (cx (aD ⟨w.heap.size,0,av⟩) 0 0) []:=World.ownsRow_lit w #[] 0 (ah _) (by decide) (by simp)
theorem Ll:dx Tryz.prog 77 3 (gq cu).size:=dx.of (size:=1) (bytes:=8) (z:=.int cu 0) Tryz.underlying77 (by kernel_rfl) rfl (by decide)
abbrev oq (B:Nat) (w:World) (v:Value) (l:List Int):Prop:=Own (gq cu) 3 B w v l
theorem oq.at {B:Nat} {w:World} {f n cf:Nat} {l:List Int} (h:oq B w (cx (aD ⟨f,0,av⟩) n cf) l) (j:Nat) (H:j<l.length):w.cell? ⟨f,j,av⟩=aD (bf cu l[j]):=by
 have:=Own.lies h j (bf cu l[j]) (by rw[show (gq cu).cells l=l.map (fun n=>Value.int cu n) from cV _ _ _];simp[H])
 rwa [bE] at this
theorem vO (w:World) (x:Int):bu (gq cu) (w.alloc (ey #[bf cu x] 3)) w.heap.size 0 [x]:=
 bu.fN (aU.new w #[bf cu x] 3) rfl
end
section
open Go.RowKit Go.Maps Lib
def OS (l:List UInt8):Value:=bf cu l.length
def Gx:Value->Option (DataW Unit×List MemPlace)
 |.int cu n=>if 0<=n then aD (.lit (.string (Tx.un n.toNat)),[]) else av
 |_=>av
theorem ID {v:Value} {y:DataW Unit×List MemPlace} (h:Gx v=aD y):∃l,v=OS l/\l=Tx.un l.length/\y=(.lit (.string l),[]):=by
 unfold Gx at h
 split at h
 ·rename_i n
  split at h
  ·injection h with h;refine⟨Tx.un n.toNat, ?_,by rw[Tx.gz],h.symm⟩;unfold OS;rw[Tx.gz];congr 1;omega
  ·cases h
 ·cases h
def x_:ME:=⟨OS,Gx,fun l=>l=Tx.un l.length,fun l h=>by
 unfold OS Gx
 simp only
 rw[if_pos (by omega),dF,<-h],fun _ _ h=>ID h⟩
abbrev qb (w:World) (b:Nat) (m:Wl.eV):Prop:=gy Tryz.prog 3 x_ w b m
theorem jT:Tryz.prog.underlying 75=aD (.map 3 3):=Tryz.underlying75
theorem vP (w:World):(zeroValue 3).run Tryz.prog w=.ok (x_.enc []) w:=by kernel_rfl
theorem qb.i_ {w:World} {b:Nat} {m:Wl.eV} (h:qb w b m) {k n:Nat} (H:k<=1000000) (hl:Wl.look k m=aD (Tx.un n)):(Instr.lookup 75 (.map (aD b)) (bf cu k) true).run Tryz.prog w=.ok (gu #[bf cu n,eX true]) w:=by have:=(gy.i_ (M:=x_) h iA jT (vP w) rfl H hl).1;rw[show x_.enc (Tx.un n)=bf cu n by show Value.int cu ((Tx.un n).length:Nat)=_;rw[Tx.gz]] at this;exact this
theorem qb.eo {w:World} {b:Nat} {m:Wl.eV} (h:qb w b m) {k:Nat} (H:k<=1000000) (hl:Wl.look k m=av):(Instr.lookup 75 (.map (aD b)) (bf cu k) true).run Tryz.prog w=.ok (gu #[bf cu 0,eX false]) w:=
 gy.eo (M:=x_) h iA jT (vP w) rfl H hl
def rj:Elem (Nat×List UInt8):=⟨fun x=>[bf cu x.1,bR (bs x.2)],2,by decide,fun _=>rfl,by
 intro a u hu
 simp only[aX,List.not_mem_nil,or_false] at hu
 rcases hu with rfl|rfl<;>rfl⟩
theorem B6:dx Tryz.prog 76 251 rj.size:=dx.of (size:=2) (bytes:=24) (z:=.agg #[.int cu 0,.string .empty]) Tryz.underlying76 (by kernel_rfl) rfl (by decide)
abbrev qc (B:Nat) (w:World) (v:Value) (l:List (Nat×List UInt8)):Prop:=Own rj 251 B w v l
theorem qc.at {B:Nat} {w:World} {o n c:Nat} {ws:List (Nat×List UInt8)} (h:qc B w (cx (aD ⟨o,0,av⟩) n c) ws) (k:Nat) (H:k<ws.length):
  w.cell? ⟨o,k*2,av⟩=aD (bf cu (ws[k]).1)/\w.cell? ⟨o,k*2+1,av⟩=aD (bR (bs (ws[k]).2)):=by
 have a:=(Own.lies h).at k 0 (by decide) H _ rfl;have b:=(Own.lies h).at k 1 (by decide) H _ rfl;rw[bE] at a b;exact⟨a,b⟩
structure fV (w:World) (T:Nat->Prop) (tb lb mb:Nat) (vp vb:Value) (ps:List (Nat×List UInt8)) (bl:List Int) (m:Wl.eV):Prop where
 blk:aU w tb 79 [ptr lb,vp,vb,.map (aD mb)]
 op:qc 0 w vp ps
 ob:oq 0 w vb bl
 mp:qb w mb m
 fb:T tb
 fm:T mb
 fp:∀k,vp.ownBlock=aD k->T k
 fv:∀k,vb.ownBlock=aD k->T k
 lt:∀k,T k->k<w.heap.size
 small:∀p∈ps,p.1<=65536/\p.2.length<=512
def ya (w:World) (T:Nat->Prop) (tb lb:Nat) (ps:List (Nat×List UInt8)):Prop:=∃mb vp vb,fV w T tb lb mb vp vb ps (Tx.iD ps) (Tx.dr ps)
namespace fV
variable {w w1:World} {T S:Nat->Prop} {tb lb mb:Nat} {vp vb:Value} {ps:List (Nat×List UInt8)} {bl:List Int} {m:Wl.eV}
theorem but (h:fV w T tb lb mb vp vb ps bl m) (H:aG S w w1) (hn:∀k,T k->¬S k):fV w1 T tb lb mb vp vb ps bl m:=
 ⟨h.blk.but H (hn tb h.fb),Own.but h.op H (fun k a=>hn k (h.fp k a)),Own.but h.ob H (fun k a=>hn k (h.fv k a)),h.mp.but H (hn mb h.fm),h.fb,h.fm,h.fp,h.fv,fun k a=>dD (h.lt k a) H.size,h.small⟩
theorem below (h:fV w T tb lb mb vp vb ps bl m) (H:Below w.heap.size w w1):fV w1 T tb lb mb vp vb ps bl m:=h.but (aG.aJ H (fun _=>False)) (fun _ _ hf=>hf)
theorem Um (h:fV w T tb lb mb vp vb ps bl m):mb≠tb:=h.mp.dG h.blk
theorem TE (h:fV w T tb lb mb vp vb ps bl m):vp.ownBlock≠aD tb:=Own.dG h.op h.blk (by decide)
theorem bne (h:fV w T tb lb mb vp vb ps bl m):vb.ownBlock≠aD tb:=Own.dG h.ob h.blk (by decide)
theorem UN (h:fV w T tb lb mb vp vb ps bl m) {k:Nat} (H:vp.ownBlock=aD k):vb.ownBlock≠aD k:=Own.D2 h.op h.ob (by decide) H
theorem UO (h:fV w T tb lb mb vp vb ps bl m) {k:Nat} (a:vp.ownBlock=aD k):k≠mb:=by intro e;subst e;obtain⟨cur,hc⟩:=Own.typed h.op a;obtain⟨es,clock,H⟩:=h.mp.isMap;rw[hc] at H;cases H
theorem UQ (h:fV w T tb lb mb vp vb ps bl m) {k:Nat} (a:vb.ownBlock=aD k):k≠mb:=by intro e;subst e;obtain⟨cur,hc⟩:=Own.typed h.ob a;obtain⟨es,clock,H⟩:=h.mp.isMap;rw[hc] at H;cases H
theorem c0 (h:fV w T tb lb mb vp vb ps bl m):w.cell? ⟨tb,0,av⟩=aD (e7 (aD ⟨lb,0,av⟩)):=h.blk.cell rfl
theorem c1 (h:fV w T tb lb mb vp vb ps bl m):w.cell? ⟨tb,1,av⟩=aD vp:=h.blk.cell rfl
theorem c2 (h:fV w T tb lb mb vp vb ps bl m):w.cell? ⟨tb,2,av⟩=aD vb:=h.blk.cell rfl
theorem c3 (h:fV w T tb lb mb vp vb ps bl m):w.cell? ⟨tb,3,av⟩=aD (.map (aD mb)):=h.blk.cell rfl
theorem RU {W a:World} {v v':Value} (h:Below w.heap.size w W) (hg:W.grownBy a v.ownBlock) (c:∀k,v.ownBlock=aD k->T k) (b:v'.ownBlock=v.ownBlock\/∀k,v'.ownBlock=aD k->W.heap.size<=k):
  aG (fun k=>v.ownBlock=aD k) w a/\∀k,v'.ownBlock=aD k->T k\/w.heap.size<=k:=by
 refine⟨⟨hg.os.trans h.os,hg.tape.trans h.tape,hg.output.trans h.output,aH h.size hg.size,fun k H hn=>(hg.block k (dD H h.size) (fun e=>hn e.symm)).trans (h.block k H)⟩,fun k H=> ?_⟩;rcases b with e|e;·grind
 ·exact dn (aH h.size (e k H))
theorem spot {W a:World} {v:Value} (h:fV w T tb lb mb vp vb ps bl m) (b:Below w.heap.size w W) (hg:W.grownBy a v.ownBlock) (H:v.ownBlock≠aD tb) (c:∀k,v.ownBlock=aD k->T k):aU a tb 79 [ptr lb,vp,vb,.map (aD mb)]/\Below w.heap.size w W:=by obtain⟨d,_⟩:=RU (v':=v) b hg c (dc rfl);exact⟨h.blk.but d H,b⟩
theorem Gy {W a:World} {L:Value} {b:List Int} (h:fV w T tb lb mb vp vb ps bl m) (g:Below w.heap.size w W) (d:oq 0 a L b) (hg:W.grownBy a vb.ownBlock) (i:L.ownBlock=vb.ownBlock\/∀k,L.ownBlock=aD k->W.heap.size<=k):
  fV (a.setCell ⟨tb,2,av⟩ L) (fun k=>T k\/L.ownBlock=aD k) tb lb mb vp L ps b m/\bY T w (fun k=>T k\/L.ownBlock=aD k) (a.setCell ⟨tb,2,av⟩ L):=by
 obtain⟨c,hn⟩:=RU g hg h.fv i;have B:aU a tb 79 [ptr lb,vp,vb,.map (aD mb)]:=h.blk.but c h.bne;have A:aG (· =tb) a (a.setCell ⟨tb,2,av⟩ L):=(aG.refl _ a).setCell _ _ (fun _=>rfl);have f:L.ownBlock≠aD tb:=Own.dG d B (by decide);refine⟨⟨B.set 2 L,Own.but (Own.but h.op c (fun k H e=>h.UN H e)) A (fun k H e=>h.TE (e▸H)),Own.but d A (fun k H e=>f (e▸H)),(h.mp.but c (fun e=>h.UQ e rfl)).but A h.Um,dc h.fb,dc h.fm,fun k H=>dc (h.fp k H),fun k H=>dn H,fun k H=> ?_,h.small⟩, ?_, ?_⟩
 ·show k<(a.setCell _ _).heap.size;rw[World.size_setCell];rcases H with H|H;·exact dD (h.lt k H) c.size
  ·exact (Own.block d k H).2
 ·exact (c.mono (fun k _ e=>h.fv k e)).trans A (fun k _ e=>e▸h.fb)
 ·rintro k (H|H);·exact dc H
  ·exact hn k H
theorem Gz {W a:World} {L:Value} {ps':List (Nat×List UInt8)} (h:fV w T tb lb mb vp vb ps bl m) (f:Below w.heap.size w W) (c:qc 0 a L ps') (hg:W.grownBy a vp.ownBlock) (g:L.ownBlock=vp.ownBlock\/∀k,L.ownBlock=aD k->W.heap.size<=k) (hs:∀p∈ps',p.1<=65536/\p.2.length<=512):
  fV (a.setCell ⟨tb,1,av⟩ L) (fun k=>T k\/L.ownBlock=aD k) tb lb mb L vb ps' bl m/\bY T w (fun k=>T k\/L.ownBlock=aD k) (a.setCell ⟨tb,1,av⟩ L):=by
 obtain⟨b,hn⟩:=RU f hg h.fp g;have B:aU a tb 79 [ptr lb,vp,vb,.map (aD mb)]:=h.blk.but b h.TE;have A:aG (· =tb) a (a.setCell ⟨tb,1,av⟩ L):=(aG.refl _ a).setCell _ _ (fun _=>rfl);have d:L.ownBlock≠aD tb:=Own.dG c B (by decide);refine⟨⟨B.set 1 L,Own.but c A (fun k H e=>d (e▸H)),Own.but (Own.but h.ob b (fun k H e=>h.UN e H)) A (fun k H e=>h.bne (e▸H)),(h.mp.but b (fun e=>h.UO e rfl)).but A h.Um,dc h.fb,dc h.fm,fun k H=>dn H,fun k H=>dc (h.fv k H),fun k H=> ?_,hs⟩, ?_, ?_⟩
 ·show k<(a.setCell _ _).heap.size;rw[World.size_setCell];rcases H with H|H;·exact dD (h.lt k H) b.size
  ·exact (Own.block c k H).2
 ·exact (b.mono (fun k _ e=>h.fp k e)).trans A (fun k _ e=>e▸h.fb)
 ·rintro k (H|H);·exact dc H
  ·exact hn k H
theorem map' {W:World} {M:Wl.eV} (h:fV w T tb lb mb vp vb ps bl m) (b:qb W mb M) (a:aG (fun k=>k=mb) w W):fV W T tb lb mb vp vb ps bl M/\bY T w T W:=
 ⟨⟨h.blk.but a (fun e=>h.Um e.symm),Own.but h.op a (fun _ H e=>h.UO H e),Own.but h.ob a (fun _ H e=>h.UQ H e),b,h.fb,h.fm,h.fp,h.fv,fun k H=>dD (h.lt k H) a.size,h.small⟩,a.mono (fun _ _ e=>e▸h.fm),fun _ H=>dc H⟩
end fV
theorem ya.but {S:Nat->Prop} {w w1:World} {T:Nat->Prop} {tb lb:Nat} {ps:List (Nat×List UInt8)} (h:ya w T tb lb ps) (H:aG S w w1) (hn:∀k,T k->¬S k):ya w1 T tb lb ps:=by obtain⟨mb,vp,vb,h⟩:=h;exact⟨mb,vp,vb,h.but H hn⟩
theorem ya.lt {w:World} {T:Nat->Prop} {tb lb:Nat} {ps:List (Nat×List UInt8)} (h:ya w T tb lb ps):∀k,T k->k<w.heap.size:=by obtain⟨_,_,_,h⟩:=h;exact h.lt
theorem Ex (w:World) (lb:Nat):
  Calls Tryz.prog 8 #[ptr lb] w fun e w'=>∃tb T,e=eb (ptr tb)/\ya w' T tb lb []/\(∀k,T k->w.heap.size<=k)/\Below w.heap.size w w':=by
 have a:=@run_makeMap Tryz.prog;go_enter Tryz.func8,Tryz.ntmps8;unfold ptr;go_wp2;go_ret;have H:=aU.new (w.alloc (.map #[] 0)) #[e7 (aD ⟨lb,0,av⟩),cx av 0 0,cx av 0 0,.map (aD w.heap.size)] 79;rw[aS] at H;refine⟨w.heap.size+1,fun k=>k=w.heap.size\/k=w.heap.size+1,rfl,⟨w.heap.size,cx av 0 0,cx av 0 0,H,Own.nil _ _ _ _,Own.nil _ _ _ _,(gy.made _ _ _ _).kept (World.grownBy_alloc _ _ av) (by simp),dn rfl,dc rfl,fun k h=>(by simp[Value.ownBlock] at h),fun k h=>(by simp[Value.ownBlock] at h),fun k h=>(by simp;omega),fun p hp=>by cases hp⟩,fun k h=>(by omega), ?_⟩;exact ((Below.refl _ w).alloc (ah _) _).alloc (by simp) _
theorem ry (w:World) (T:Nat->Prop) (tb lb:Nat) (ps:List (Nat×List UInt8)) (h:ya w T tb lb ps):
  Calls Tryz.prog 138 #[ptr tb] w fun e w'=>e=eb (bf cu ps.length)/\w'=w:=by
 obtain⟨mb,vp,vb,h⟩:=h;have c1:=h.c1;obtain⟨a,c,H,_⟩:=Own.slice h.op;subst H;clear h;go_enter Tryz.func138,Tryz.ntmps138;unfold ptr;go_wp2;go_ret;exact⟨rfl,rfl⟩
def B7 (w:World) (lb n:Nat):Prop:=∃F g s,Log w F lb g s/\s.off=false/\s.homes=n
theorem j9 (w:World) (T:Nat->Prop) (tb lb n:Nat) (ps:List (Nat×List UInt8)) (h:ya w T tb lb ps) (hl:B7 w lb n):
  Calls Tryz.prog 196 #[ptr tb] w fun e w'=>e=eb (eX false)/\w'=w:=by
 obtain⟨mb,vp,vb,h⟩:=h;obtain⟨F,g,s,H,a,_⟩:=hl;have c0:=h.c0;have b:=aa H;clear h H;go_enter Tryz.func196,Tryz.ntmps196;unfold ptr;go_wp2_with fail;refine (yP w F lb g s b.o).mono ?_;rintro e w1 ⟨rfl,rfl⟩;rw[a];go_wp2;go_ret;exact⟨rfl,rfl⟩
theorem B8 (w:World) (T:Nat->Prop) (tb lb n:Nat) (ps:List (Nat×List UInt8)) (h:ya w T tb lb ps) (hl:B7 w lb n):
  Calls Tryz.prog 165 #[ptr tb] w fun e w'=>e=eb (bf cu n)/\w'=w:=by
 obtain⟨mb,vp,vb,h⟩:=h;obtain⟨F,g,s,H,_,rfl⟩:=hl;have c0:=h.c0;have a:=aa H;clear h H;go_enter Tryz.func165,Tryz.ntmps165;unfold ptr;go_wp2_with fail;refine (o7 w F lb g s a.o).mono ?_;rintro e w1 ⟨rfl,rfl⟩;go_wp2;go_ret;exact⟨rfl,rfl⟩
theorem Ey (w:World) (T:Nat->Prop) (tb lb:Nat) (ps:List (Nat×List UInt8)) (i:Nat) (h:ya w T tb lb ps) (hi:i<=65536):
  Calls Tryz.prog 214 #[ptr tb,bf cu i] w fun e w'=>e=eb (bf cu (Tx.g_ (Tx.dr ps) i))/\w'=w:=by
 obtain⟨mb,vp,vb,h⟩:=h;have c3:=h.c3;have c:=aa h;clear h;rcases Tx.nh i ps with⟨H,-⟩|⟨k,d,H,-,-⟩;·have a:=qb.eo c.o.mp (by omega) H;have b:=aa (show Tx.g_ (Tx.dr ps) i=-1 by unfold Tx.g_;rw[H]);clear H;go_enter Tryz.func214,Tryz.ntmps214;unfold ptr;go_wp2;go_ret;exact⟨by rw[b.o];rfl,rfl⟩
 ·have a:=qb.i_ c.o.mp (by omega) H;have b:=aa (show Tx.g_ (Tx.dr ps) i=(k:Int) by unfold Tx.g_;rw[H];simp[Tx.gz]);clear H d;go_enter Tryz.func214,Tryz.ntmps214;unfold ptr;go_wp2;go_ret;exact⟨by rw[b.o];rfl,rfl⟩
end
section
open Go.RowKit Lib
theorem B9 (s:ByteArray) (w:World) (H:s.size<=1000000):
  Calls Tryz.prog 83 #[.string s] w fun e w'=>e=eb (.string s)/\Below w.heap.size w w':=by
 by_cases d:s.size=0
 ·have hs:s=⟨#[]⟩:=by apply ByteArray.ext;exact Array.eq_empty_of_size_eq_zero d
  subst hs;go_enter Tryz.func83,Tryz.ntmps83;go_wp2;go_ret;exact⟨rfl,Below.refl _ _⟩
 ·have h:(Tryz.prog.info? 5).map (·.size)=aD 1:=by kernel_rfl
  have X:Tryz.prog.cellsOf 5=1:=by kernel_rfl
  obtain⟨M,a⟩:∃M,M=(bB s.size (Value.int gx 0)).toArray:=⟨_,rfl⟩;have g:M.size=s.size:=by rw[a];simp
  have b:=fun W:World=>uZ W s.size H;rw[<-a] at b;clear a;have K:=Lib.run_copy_row_string (P:=Tryz.prog) (w.alloc (ey M 5)) 94 9 3 5 w.heap.size 0 s.size s.size s M 5 Tryz.underlying94 h (heap_alloc_new w _) (ah _) (by omega);obtain⟨Y,f⟩:∃Y,Y=(M.toList.take 0++Lib.byteCells s.data.toList++M.toList.drop (0+s.size)).toArray:=⟨_,rfl⟩;rw[<-f] at K;have Q:Y.toList=Lib.byteCells s.data.toList:=by simp_all
  have i:Y.size=s.size:=by rw[<-bk,Q,Lib.byteCells_length,<-Lib.size_eq]
  have U:((w.alloc (ey M 5)).setRow w.heap.size Y).heap[w.heap.size]?=aD (ey Y 5 (0,0)):=setRow_heap _ _ M _ 5 (0,0) (heap_alloc_new w _);have c:s.data.toList≠[]:=fun e=>d (by rw[Lib.size_eq,e];rfl)
  have y:=Lib.run_unsafeString_row (P:=Tryz.prog) ((w.alloc (ey M 5)).setRow w.heap.size Y) 207 3 9 5 Tryz.underlying207 X w.heap.size Y.size (by unfold World.shape?;rw[U]) s.data.toList c (by rw[<-Lib.size_eq];omega) (by rw[<-Lib.size_eq];omega)
   (fun j x l=>Lib.cells_of_row U Y.size j _ (by rw[cg (by rw[bk];exact ah _),Q];simp[Lib.byteCells,l]))
  rw[<-Lib.size_eq] at y;clear f;go_enter Tryz.func83,Tryz.ntmps83;go_wp2;go_ret;have B:Below w.heap.size w (w.alloc (ey M 5)):=(Below.refl _ w).alloc (ah _) _;have A:Below w.heap.size (w.alloc (ey M 5)) ((w.alloc (ey M 5)).setRow w.heap.size Y):=⟨rfl,rfl,rfl,by simp,fun k m=>setRow_other _ _ _ _ (by omega)⟩;exact⟨rfl,Lib.below_freeze (B.trans A) (p:=⟨w.heap.size,0,av⟩) (ah _) _⟩
theorem jg (s:ByteArray) (w:World) (h:s.size<=1000000):
  Calls Tryz.prog 53 #[bR s] w fun e w'=>e=eb (bR s)/\Below w.heap.size w w':=by
 go_enter Tryz.func53,Tryz.ntmps53;go_wp2_with fail;refine (B9 s w h).mono ?_;rintro e w1 ⟨rfl,H⟩;have a:=aa H;clear H;go_wp2;go_ret;exact⟨rfl,a.o⟩
theorem OT (w:World):(zeroValue 139).run Tryz.prog w=.ok (ctext zeros) w:=by kernel_rfl
theorem Lr (w:World) (c:Nat):(Instr.sliceAt 139 (e7 (aD ⟨c,0,av⟩)) av av av).run Tryz.prog w=.ok (cx (aD ⟨c,0,av⟩) 512 512) w:=by
 have e:Tryz.prog.arrayLen 139=512:=by kernel_rfl
 have E:Tryz.prog.elem 139=5:=by kernel_rfl
 have a:=run_sliceAt_array_all (P:=Tryz.prog) w 139 ⟨c,0,av⟩ (by rw[e,E];kernel_rfl);rw[a,e,E];show ((sizeOf 5).run Tryz.prog w).andThen _=_;rw[Tryz.sizeOf5];simp[go_sem,Addr.add]
theorem OU {w:World} {c:Nat} {t:List UInt8} (h:aU w c 139 (t.map bV)) (H:t.length=512):(convert 94 9 (cx (aD ⟨c,0,av⟩) 512 512)).run Tryz.prog w=.ok (bR (bs t)) w:=by
 have:=run_convert_bytes_back (P:=Tryz.prog) w 94 9 5 ⟨c,0,av⟩ 512 t (by kernel_rfl) (by kernel_rfl) (by kernel_rfl) (by
  intro i hi;rw[sr];refine h.cell ?_;rw[cD,aK hi];rfl)
 rw[H] at this;exact this
theorem Ez (s:ByteArray) (w:World) (hs:s.size<=512):
  Calls Tryz.prog 197 #[.string s] w fun e w'=>e=eb (.string (bs (Dk.full s.data.toList)))/\Below w.heap.size w w':=by
 obtain⟨Z,c⟩:∃Z,Z=(zeros.map bV).toArray:=⟨_,rfl⟩;have n:∀w,(zeroValue 139).run Tryz.prog w=.ok (.agg Z) w:=fun w=>by rw[c];exact OT w
 have h:Z.size=512:=by rw[c];simp[jc]
 have y:¬Z=#[]:=by intro e;rw[e] at h;cases h
 have i:=aa c;have f:=aa hs;clear c hs;obtain⟨q,j⟩:∃q,w.heap.size=q:=⟨_,rfl⟩;obtain⟨V,H⟩:∃V,V=w.alloc (ey Z 139):=⟨_,rfl⟩
 have a:=aa (show aU V q 139 (zeros.map bV)/\Below w.heap.size w V by
  have g:=aU.new w Z 139;rw[j,<-H,i.o] at g;exact⟨g,by rw[H];exact (Below.refl _ _).alloc (ah _) _⟩)
 have p:=fun W=>Lr W q;go_enter Tryz.func197,Tryz.ntmps197;go_wp2_with (refine nE rfl _ _ _ _ rfl 5 Tryz.underlying94 (by kernel_rfl) q 512 512 s rfl rfl (zeros.map bV).toArray 139 (by first|exact a.o.1|(rw[<-H];exact a.o.1)) f.o (by have:=f.o;simp[jc];exact this) ?_;refine Hid.o ?_);refine aa ?_;try rw[<-H]
 obtain⟨Y,d⟩:∃Y,Y=V.setRow q (strCells s++List.drop s.size (List.map bV zeros)).toArray:=⟨_,rfl⟩;rw[<-d];have Q:aG (fun k=>k=q) V Y:=by rw[d];exact (aG.refl _ _).setRow _ _ (fun _=>rfl)
 have b:aU Y q 139 ((Dk.full s.data.toList).map bV):=by rw[d,<-B5 s];exact setRow_heap V q _ _ _ _ a.o.1
 have l:=OU b (Dk.fu _ (by rw[bk];exact f.o));have m:=aa (show Below w.heap.size w Y from Below.but a.o.2 Q a.o.2.size (fun k r e=>by omega));clear d H b Q;go_wp2;go_ret;exact⟨rfl,m.o⟩
end
section
open Go.RowKit Go.Maps Lib
theorem OV (k:Nat):x_.enc (Tx.un k)=bf cu (k:Int):=by show Value.int cu ((Tx.un k).length:Nat)=_;rw[Tx.gz]
theorem vQ (w:World) (i:Nat) (t:ByteArray):bu rj (w.alloc (ey #[bf cu i,bR t] 251)) w.heap.size 0 [(i,t.data.toList)]:=
 bu.fN (aU.new w #[bf cu i,bR t] 251) rfl
theorem EA (w:World) (T:Nat->Prop) (tb lb n:Nat) (ps:List (Nat×List UInt8)) (i:Nat) (s:ByteArray) (h:ya w T tb lb ps) (hl:B7 w lb n) (hi:i<n) (hn:n<=65536) (hs:s.size<=512) (hp:ps.length<=90000000):
  Calls Tryz.prog 185 #[ptr tb,bf cu i,bR s] w fun e w'=>e=eb (bf cu 0)/\∃T',ya w' T' tb lb (ps++[(i,s.data.toList)])/\bY T w T' w':=by
 have HP:=aa h;have HA:=aa hl;obtain⟨F,g,sl,hL,ho,OW⟩:=hl;have HL:=aa hL;obtain⟨mb,vp,vb,Y⟩:=h;obtain⟨A,z,US,_⟩:=Own.slice Y.op;subst US;have c0:=Y.c0;have b:=aa Y;have l:=aa (And.intro hs (And.intro hi (And.intro hn hp)));have yF:¬(s.size:Int)>512:=by omega
 have Kg:¬(n:Int)<=i:=by omega
 have hi0:¬(i:Int)<0:=by omega
 clear hL Y;go_enter Tryz.func185,Tryz.ntmps185;go_wp2_with fail;refine (j9 w T tb lb n ps HP.o HA.o).mono ?_;rintro e w1 ⟨rfl,rfl⟩;unfold ptr;go_wp2_with fail;refine (o7 w1 F lb g sl HL.o).mono ?_;rintro e a ⟨rfl,rfl⟩;rw[OW];have c2:a.cell? ⟨tb,2,av⟩=aD vb:=b.o.c2;have c2d:a.drew.cell? ⟨tb,2,av⟩=aD vb:=b.o.c2;obtain⟨B,DT⟩:∃B,B=Tx.g_ (Tx.dr ps) i:=⟨_,rfl⟩;have HBf:=aa DT;have IA:=Ey a.drew T tb lb ps i (show ya a.drew T tb lb ps from HP.o.but ((aG.refl (fun _=>False) a).drew) (fun _ _ h=>h)) (by omega);rw[<-DT] at IA;have BZ:=aa IA;have hlt:tb<a.heap.size:=b.o.lt tb b.o.fb;have c2a:(a.drew.alloc (ey #[bf cu B] 3)).cell? ⟨tb,2,av⟩=aD vb:=(b.o.blk.drew.alloc _).cell rfl;clear IA DT ho;go_wp2_with (refine wp_region_any (by kernel_rfl) ?_;refine Hid.o ?_);refine aa ?_;try (change wpAny _ _ _ _ _ _ _ (bJ _))
 refine tk 0 ?_;refine tk 1 ?_;refine tk 2 ?_;refine tk 3 ?_;refine tk 5 ?_;refine tk 6 ?_;refine rd [4,7] (AllReady.cons rfl (fun K H=> ?_) (rn fun K H=> ?_))
 focus (
  go_simp
  refine H _ _ ?_;clear H K
  refine rd [7] (rn fun K H=> ?_)
  go_simp
  refine BZ.o.mono ?_;rintro e w3 ⟨rfl,rfl⟩
  refine H _ _ ?_;clear H K
  refine rd [8] (rn fun K H=> ?_)
  go_simp
  refine H _ _ ?_;clear H K
  refine rd [9] (rn fun K H=> ?_)
  refine gw Ll _ _ rfl rfl (Own.alloc (show oq 0 a.drew vb (Tx.iD ps) from b.o.ob) _) (aB _) a.heap.size 0 1 1 [B] rfl rfl (vO a.drew B) (by have:=l.o.2.2.2;rw[Tx.cK];omega) ?_;intro v4 w4 G q Q
  refine H _ _ ?_;clear H K
  have r:=b.o.Gy (W:=a.drew.alloc (ey #[bf cu B] 3)) ((Below.refl _ a).drew.alloc (ah _) _) G q Q
  obtain⟨J,U,u,_⟩:=Own.slice G
  generalize (Tx.iD ps++[B]).length=N at u
  have E:=b.o.spot (W:=a.drew.alloc (ey #[bf cu B] 3)) ((Below.refl _ a).drew.alloc (ah _) _) q b.o.bne b.o.fv
  have D:=E.1.cell (j:=2) rfl
  have I:=E.1.frozen 2
  subst u
  have Z:=aa r
  clear G q Q r E
  refine tk 10 ?_
  refine tk 11 ?_
  refine rd [12] (rn fun K H=> ?_)
  go_simp
  refine H _ _ ?_;clear H K
  refine wpAny_done (by kernel_rfl) ?_ _
 )
 rotate_left
 focus (
  go_simp
  refine BZ.o.mono ?_
  rintro e w3 ⟨rfl,rfl⟩
  refine H _ _ ?_;clear H K
  refine rd [4,8] (AllReady.cons rfl (fun K H=> ?_) (rn fun K H=> ?_))
  focus (
   go_simp
   refine H _ _ ?_;clear H K
   refine rd [8] (rn fun K H=> ?_)
   go_simp
   refine H _ _ ?_;clear H K
   refine rd [9] (rn fun K H=> ?_)
   refine gw Ll _ _ rfl rfl (Own.alloc (show oq 0 a.drew vb (Tx.iD ps) from b.o.ob) _) (aB _) a.heap.size 0 1 1 [B] rfl rfl (vO a.drew B) (by have:=l.o.2.2.2;rw[Tx.cK];omega) ?_;intro v4 w4 G q Q
   refine H _ _ ?_;clear H K
   have r:=b.o.Gy (W:=a.drew.alloc (ey #[bf cu B] 3)) ((Below.refl _ a).drew.alloc (ah _) _) G q Q
   obtain⟨J,U,u,_⟩:=Own.slice G
   generalize (Tx.iD ps++[B]).length=N at u
   have E:=b.o.spot (W:=a.drew.alloc (ey #[bf cu B] 3)) ((Below.refl _ a).drew.alloc (ah _) _) q b.o.bne b.o.fv
   have D:=E.1.cell (j:=2) rfl
   have I:=E.1.frozen 2
   subst u
   have Z:=aa r
   clear G q Q r E
   refine tk 10 ?_
   refine tk 11 ?_
   refine rd [12] (rn fun K H=> ?_)
   go_simp
   refine H _ _ ?_;clear H K
   refine wpAny_done (by kernel_rfl) ?_ _
  )
  rotate_left
  focus (
   go_simp
   refine H _ _ ?_;clear H K
   refine rd [4] (rn fun K H=> ?_)
   go_simp
   refine H _ _ ?_;clear H K
   refine rd [9] (rn fun K H=> ?_)
   refine gw Ll _ _ rfl rfl (Own.alloc (show oq 0 a.drew vb (Tx.iD ps) from b.o.ob) _) (aB _) a.heap.size 0 1 1 [B] rfl rfl (vO a.drew B) (by have:=l.o.2.2.2;rw[Tx.cK];omega) ?_;intro v4 w4 G q Q
   refine H _ _ ?_;clear H K
   have r:=b.o.Gy (W:=a.drew.alloc (ey #[bf cu B] 3)) ((Below.refl _ a).drew.alloc (ah _) _) G q Q
   obtain⟨J,U,u,_⟩:=Own.slice G
   generalize (Tx.iD ps++[B]).length=N at u
   have E:=b.o.spot (W:=a.drew.alloc (ey #[bf cu B] 3)) ((Below.refl _ a).drew.alloc (ah _) _) q b.o.bne b.o.fv
   have D:=E.1.cell (j:=2) rfl
   have I:=E.1.frozen 2
   subst u
   have Z:=aa r
   clear G q Q r E
   refine tk 10 ?_
   refine tk 11 ?_
   refine rd [12] (rn fun K H=> ?_)
   go_simp
   refine H _ _ ?_;clear H K
   refine wpAny_done (by kernel_rfl) ?_ _
  )
 )
 all_goals (
  obtain⟨X,hX⟩:∃X,X=w4.setCell ⟨tb,2,av⟩ (cx J N U):=⟨_,rfl⟩
  rw[<-hX] at Z |-
  clear hX D I
  obtain⟨M,P⟩:∃M,Hid (fV X M tb lb mb (cx A ps.length z) (cx J N U) ps (Tx.iD ps++[B]) (Tx.dr ps)/\bY T a M X):=⟨_,Z⟩
  have d1:X.drew.cell? ⟨tb,1,av⟩=aD (cx A ps.length z):=P.o.1.c1
  have d3:X.drew.cell? ⟨tb,3,av⟩=aD (.map (aD mb)):=P.o.1.c3
  obtain⟨d,R,UU,fT⟩:=gy.Le (T:=75) (show qb X.drew mb (Tx.dr ps) from P.o.1.mp.but ((aG.refl (fun _=>False) X).drew) id) iA jT (by have:=Tx.yU ps;have:=l.o.2.2.2;omega) (k:=i) (by have:=l.o;omega) (t:=Tx.un ps.length) (by show Tx.un _=Tx.un (Tx.un _).length;rw[Tx.gz])
  rw[OV] at R
  have H5:=aa (And.intro UU fT)
  clear UU fT
  go_wp2
  go_still_tail 10,(by kernel_rfl)
  change wpList _ _ _ _ _ X.drew
  have c:=aa (show fV d M tb lb mb (cx A ps.length z) (cx J N U) ps (Tx.iD ps++[B]) (Wl.ins i (Tx.un ps.length) (Tx.dr ps))/\bY T a M d by
   have dP:aG (fun k=>k=mb) X d:=((aG.refl _ X).drew).trans (aG.qR H5.o.2) (fun k _ e=>by injection e with e;exact e.symm);have hm:=P.o.1.map' H5.o.1 dP;exact⟨hm.1,P.o.2.trans hm.2⟩)
  clear d1 d3
  have f0:d.drew.cell? ⟨tb,1,av⟩=aD (cx A ps.length z):=c.o.1.c1
  have HC:=aa (jg s d.drew (by have:=l.o;omega))
  go_wp2_with (refine wp_region_any (by kernel_rfl) ?_;refine Hid.o ?_)
  refine aa ?_
  try (change wpAny _ _ _ _ _ _ _ (bJ _))
  refine tk 0 ?_
  refine tk 1 ?_
  refine tk 2 ?_
  refine tk 3 ?_
  refine tk 5 ?_
  refine tk 6 ?_
  refine rd [4,7] (AllReady.cons rfl (fun K H=> ?_) (rn fun K H=> ?_))
  focus (
   go_simp
   refine H _ _ ?_;clear H K
   refine rd [7] (rn fun K H=> ?_)
   go_simp
   refine HC.o.mono ?_;rintro e f ⟨rfl,S⟩;have m:=aa (((Below.refl _ d).drew).trans S);clear S
   refine H _ _ ?_;clear H K
   refine tk 8 ?_
   refine rd [9] (rn fun K H=> ?_)
   go_simp
   refine H _ _ ?_;clear H K
   refine rd [10] (rn fun K H=> ?_)
   refine gw B6 _ _ rfl rfl (Own.alloc (c.o.1.below m.o).op _) (aB _) f.heap.size 0 1 1 [(i,s.data.toList)] rfl rfl (vQ f i s) (by have:=l.o.2.2.2;omega) ?_;intro v8 w8 O L v
   refine H _ _ ?_;clear H K
   have x:=aa (show Below d.heap.size d (f.alloc (ey #[bf cu i,bR s] 251)) from m.o.alloc m.o.size _)
   have y:=c.o.1.Gz x.o O L v (fun p hp=>by
    rcases aj.1 hp with hp|hp;·exact b.o.small p hp
    ·obtain rfl:=cQ.1 hp;have:=l.o;refine⟨by show i<=65536;omega, ?_⟩;show s.data.toList.length<=512;rw[bk];exact this.1)
   obtain⟨a8,V,C,_⟩:=Own.slice O
   generalize (ps++[(i,s.data.toList)]).length=N8 at C
   have E:=c.o.1.spot x.o L c.o.1.TE c.o.1.fp
   have D:=E.1.cell (j:=1) rfl
   have I:=E.1.frozen 1
   subst C
   have H8:=aa y
   clear O L v y E
   refine tk 11 ?_
   refine tk 12 ?_
   refine rd [13] (rn fun K H=> ?_)
   go_simp
   refine H _ _ ?_;clear H K
   refine wpAny_done (by kernel_rfl) ?_ _
  )
  rotate_left
  focus (
   go_simp
   refine HC.o.mono ?_
   rintro e f ⟨rfl,S⟩
   have m:=aa (((Below.refl _ d).drew).trans S)
   clear S
   refine H _ _ ?_;clear H K
   refine tk 8 ?_
   have f1:f.cell? ⟨tb,1,av⟩=aD (cx A ps.length z):=(c.o.1.below m.o).c1
   have f2:(f.alloc (ey #[bf cu i,bR s] 251)).cell? ⟨tb,1,av⟩=aD (cx A ps.length z):=((c.o.1.below m.o).below ((Below.refl _ f).alloc (ah _) _)).c1
   refine rd [4,9] (AllReady.cons rfl (fun K H=> ?_) (rn fun K H=> ?_))
   focus (
    go_simp
    refine H _ _ ?_;clear H K
    refine rd [9] (rn fun K H=> ?_)
    go_simp
    refine H _ _ ?_;clear H K
    refine rd [10] (rn fun K H=> ?_)
    refine gw B6 _ _ rfl rfl (Own.alloc (c.o.1.below m.o).op _) (aB _) f.heap.size 0 1 1 [(i,s.data.toList)] rfl rfl (vQ f i s) (by have:=l.o.2.2.2;omega) ?_;intro v8 w8 O L v
    refine H _ _ ?_;clear H K
    have x:=aa (show Below d.heap.size d (f.alloc (ey #[bf cu i,bR s] 251)) from m.o.alloc m.o.size _)
    have y:=c.o.1.Gz x.o O L v (fun p hp=>by
     rcases aj.1 hp with hp|hp;·exact b.o.small p hp
     ·obtain rfl:=cQ.1 hp;have:=l.o;refine⟨by show i<=65536;omega, ?_⟩;show s.data.toList.length<=512;rw[bk];exact this.1)
    obtain⟨a8,V,C,_⟩:=Own.slice O
    generalize (ps++[(i,s.data.toList)]).length=N8 at C
    have E:=c.o.1.spot x.o L c.o.1.TE c.o.1.fp
    have D:=E.1.cell (j:=1) rfl
    have I:=E.1.frozen 1
    subst C
    have H8:=aa y
    clear O L v y E
    refine tk 11 ?_
    refine tk 12 ?_
    refine rd [13] (rn fun K H=> ?_)
    go_simp
    refine H _ _ ?_;clear H K
    refine wpAny_done (by kernel_rfl) ?_ _
   )
   rotate_left
   focus (
    go_simp
    refine H _ _ ?_;clear H K
    refine rd [4] (rn fun K H=> ?_)
    go_simp
    refine H _ _ ?_;clear H K
    refine rd [10] (rn fun K H=> ?_)
    refine gw B6 _ _ rfl rfl (Own.alloc (c.o.1.below m.o).op _) (aB _) f.heap.size 0 1 1 [(i,s.data.toList)] rfl rfl (vQ f i s) (by have:=l.o.2.2.2;omega) ?_;intro v8 w8 O L v
    refine H _ _ ?_;clear H K
    have x:=aa (show Below d.heap.size d (f.alloc (ey #[bf cu i,bR s] 251)) from m.o.alloc m.o.size _)
    have y:=c.o.1.Gz x.o O L v (fun p hp=>by
     rcases aj.1 hp with hp|hp;·exact b.o.small p hp
     ·obtain rfl:=cQ.1 hp;have:=l.o;refine⟨by show i<=65536;omega, ?_⟩;show s.data.toList.length<=512;rw[bk];exact this.1)
    obtain⟨a8,V,C,_⟩:=Own.slice O
    generalize (ps++[(i,s.data.toList)]).length=N8 at C
    have E:=c.o.1.spot x.o L c.o.1.TE c.o.1.fp
    have D:=E.1.cell (j:=1) rfl
    have I:=E.1.frozen 1
    subst C
    have H8:=aa y
    clear O L v y E
    refine tk 11 ?_
    refine tk 12 ?_
    refine rd [13] (rn fun K H=> ?_)
    go_simp
    refine H _ _ ?_;clear H K
    refine wpAny_done (by kernel_rfl) ?_ _
   )
  )
  all_goals (
   go_wp2
   go_ret
   exact⟨rfl,_,⟨mb,_,_,by rw[Tx.sK,Tx.gV,<-HBf.o];exact H8.o.1⟩,c.o.2.trans H8.o.2⟩
  )
 )
theorem EC (w:World) (T:Nat->Prop) (tb lb n:Nat) (ps:List (Nat×List UInt8)) (i:Int) (s:ByteArray) (h:ya w T tb lb ps) (hl:B7 w lb n) (c:Int)
  (hc:(c=2/\(i<0\/(n:Int)<=i))\/(c=5/\0<=i/\i<n/\512<s.size)):
  Calls Tryz.prog 185 #[ptr tb,bf cu i,bR s] w fun e w'=>e=eb (bf cu c)/\w'=w:=by
 have f:=aa h;have j:=aa hl;obtain⟨F,g,sl,H,k,O⟩:=hl;have a:=aa H;obtain⟨mb,vp,vb,b⟩:=h;have c0:=b.c0;clear H b;go_enter Tryz.func185,Tryz.ntmps185;go_wp2_with fail;refine (j9 w T tb lb n ps f.o j.o).mono ?_;rintro e w1 ⟨rfl,rfl⟩;unfold ptr;rcases hc with⟨rfl,hc⟩|⟨rfl,l,m,h3⟩
 ·by_cases d:i<0;·go_wp2;go_ret;exact⟨rfl,rfl⟩
  ·have hn:(n:Int)<=i:=hc.resolve_left d;go_wp2_with fail;refine (o7 w1 F lb g sl a.o).mono ?_;rintro e W ⟨rfl,rfl⟩;rw[O];go_wp2;go_ret;exact⟨rfl,rfl⟩
 ·have d:¬i<0:=by omega
  have h4:¬(n:Int)<=i:=by omega
  have p:(s.size:Int)>512:=by omega
  go_wp2_with fail;refine (o7 w1 F lb g sl a.o).mono ?_;rintro e W ⟨rfl,rfl⟩;rw[O];go_wp2;go_ret;exact⟨rfl,rfl⟩
end
section
open Go.RowKit Lib
section
variable {α:Type} {K:Elem α} {P:Program} {E T B:Nat} {w:World} {l:List α}
theorem Own.upto {g n cap:Nat} (h:Own K E B w (cx (aD ⟨g,0,av⟩) n cap) l) (k:Nat) (H:k<=l.length):Own K E B w (cx (aD ⟨g,0,av⟩) k cap) (l.take k):=by
 have hl:(l.take k).length=k:=by rw[aO,ct H]
 refine⟨by rw[K.b_], ?_⟩;rcases h.2 with⟨e,_⟩|⟨G,c,cur,e,a,hh,hc,b,hs,d⟩;·cases e
 ·injection e with e1 e2 e3;injection e1 with e1;injection e1 with e1;subst e1 e2 e3;refine dn ⟨g,cap,cur,by rw[hl],a,hh,by rw[hl];omega,b,hs, ?_⟩;rw[hl,K.uW,<-d,List.take_take,ct (Nat.mul_le_mul_right _ H)]
theorem Own.behind {g n cap:Nat} (h:Own K E B w (cx (aD ⟨g,0,av⟩) n cap) l) (j:Nat) (u:Value) (H:l.length*K.size<=j):Own K E B (w.setCell ⟨g,j,av⟩ u) (cx (aD ⟨g,0,av⟩) n cap) l:=by
 refine⟨h.1, ?_⟩;rcases h.2 with⟨e,_⟩|⟨G,c,cur,e,a,hh,hc,b,hs,d⟩;·cases e
 ·injection e with e1 e2 e3;injection e1 with e1;injection e1 with e1;subst e1 e2 e3;refine dn ⟨g,cap,cur.setIfInBounds j u,rfl,a,heap_setCell_same w g j cur E u hh,hc,b,by rw[Array.size_setIfInBounds];exact hs, ?_⟩;rw[Array.toList_setIfInBounds,List.take_set_of_le H];exact d
theorem Own.cleared {g n cap:Nat}:∀(vs:List Value) (w:World) (j:Nat),Own K E B w (cx (aD ⟨g,0,av⟩) n cap) l->l.length*K.size<=j->Own K E B (w.setCells g j vs) (cx (aD ⟨g,0,av⟩) n cap) l/\aG (fun k=>k=g) w (w.setCells g j vs)
 |[],w,_,h,_=>⟨h,aG.refl _ _⟩
 |v::vs,w,j,h,hj=>by
  have:=Own.cleared vs (w.setCell ⟨g,j,av⟩ v) (j+1) (Own.behind h j v hj) (by omega);exact⟨this.1,((aG.refl (fun k=>k=g) w).setCell ⟨g,j,av⟩ v (fun _=>rfl)).trans this.2 (fun _ _ e=>e)⟩
theorem Own.spare {g n cap:Nat} (h:Own K E B w (cx (aD ⟨g,0,av⟩) n cap) l) (j:Nat) (H:j<cap*K.size):(w.cell? ⟨g,j,av⟩).isSome=true/\w.frozen? ⟨g,j,av⟩=false:=by
 rcases h.2 with⟨e,_⟩|⟨G,c,cur,e,a,hh,hc,b,hs,d⟩;·cases e
 ·injection e with e1 e2 e3;injection e1 with e1;injection e1 with e1;subst e1 e2 e3;have T:j<cur.size:=by omega
  constructor;·simp[World.cell?,hh,T]
  ·simp[World.frozen?,hh]
theorem tY (S:dx P T E K.size) {o:Oper} {a:Act} {K':Act->World->Prop} {Q:Exit->Act->World->Prop} (s x:Operand)
  (e:o.op=.call {callee:=.builtin .append,args:=#[s,x],argTypes:=#[T,T]}) (g k cap:Nat)
  (hs:a.eval s=cx (aD ⟨g,0,av⟩) k cap) (hown:Own K E B w (cx (aD ⟨g,0,av⟩) k cap) l) (f:k=l.length) (b:∃A c,a.eval x=cx (aD A) 0 c) (hc:k<=cap)
  (h:∀w',Own K E B w' (cx (aD ⟨g,0,av⟩) k cap) l->w.grownBy w' (aD g)->K' (a.put o.dst (cx (aD ⟨g,0,av⟩) k cap)) w'):o.wp P a w K' Q:=by
 obtain⟨i,z,hi,p,H,m,n⟩:=S.info;obtain⟨A,c,b⟩:=b;subst f;obtain⟨w',hr,d,h3⟩:=run_append_fits (P:=P) (w:=w) (ty:=o.type) B T E i K.size S.under hi H g l.length cap (K.cells l) hown A 0 c [] (by simp) (fun j u hu=>by cases hu) (fun u hu=>by cases hu) (by omega);unfold Oper.wp execOp;simp only[e,resolve,invoke,builtin,Sem.run_bind,Sem.run_pure,Result.andThen_ok,List.map_toArray,bM,List.map_nil,hs,b,hr];refine h w' ?_ h3;rw[bA] at d;exact d
end
theorem ow (w:World) (o k cap:Nat) (ps:List (Nat×List UInt8)) (h:qc 0 w (.slice (aD ⟨o,0,av⟩) k cap) ps) (d:Nat) (l:k+d<=cap) (hd:0<d):
  ∃vs,∀(c:Nat) (ty:TypeId),(Builtin.clear_ #[76] ty #[.slice (aD ⟨o,k*2,av⟩) d c]).run Tryz.prog w=.ok (.tuple #[]) (w.setCells o (k*2) vs):=by
 obtain⟨z,b⟩:∃z,z=(Builtin.zeroCells (Value.agg #[Value.int cu 0,.string ⟨#[]⟩]).cells d).toList:=⟨_,rfl⟩;have U:z=(Builtin.zeroCells #[Value.int cu 0,.string ⟨#[]⟩] d).toList:=b;have f:z.length=d*2:=by rw[U];simp[Builtin.zeroCells]
 have Q:∀v∈z,v.oneCell'=true:=by
  intro v a;rw[U] at a;simp only[Builtin.zeroCells,Array.toList_map,List.mem_map] at a;obtain⟨i,_,rfl⟩:=a;have:i%2=0\/i%2=1:=by omega
  rcases this with e|e<;>simp[e]<;>rfl
 refine⟨z,fun c ty=> ?_⟩
 have H:=run_storeCells_cells (P:=Tryz.prog) o (k*2) z 0 w
  (fun j g=>by rw[d_];exact (Own.spare h (k*2+j) (by show _<cap*2;omega)).1)
  (fun j g=>by rw[d_];exact (Own.spare h (k*2+j) (by show _<cap*2;omega)).2) Q
 simp only[d_] at H;obtain⟨m,rfl⟩:∃m,d=m+1:=⟨d-1,by omega⟩;simp[Builtin.clear_,run_underlying Tryz.underlying76,<-b,H]
theorem ED (w:World) (o n cap i:Nat) (ps:List (Nat×List UInt8)) (h:qc 0 w (cx (aD ⟨o,0,av⟩) n cap) ps) (hi:i<ps.length):
  Calls Tryz.prog 188 #[cx (aD ⟨o,0,av⟩) n cap,bf cu i,bf cu n] w fun e w'=>e=eb (cx (aD ⟨o,0,av⟩) i cap)/\qc 0 w' (cx (aD ⟨o,0,av⟩) i cap) (ps.take i)/\aG (fun k=>k=o) w w':=by
 obtain⟨_,hn,b⟩:=Own.slot h;have U:n<=cap:=by omega
 have m:i<n:=by omega
 have A:(i:Int)<n:=by omega
 have p:=Own.Ky h;have H:=Own.upto h i (by omega);have L:=aa H;have l:=aa (And.intro hi (And.intro hn U));have q:(cap:Int)<=9223372036854775807:=by
  rcases h.2 with⟨e,_⟩|⟨G,C,cur,e,_,_,_,T,_⟩;·cases e
  ·injection e with _ _ e3;subst e3;unfold maxLen at T;omega
 have r:i<=n:=by omega
 have t:i<=cap:=by omega
 clear H hi h hn b p;have u:¬(i:Int)=n:=by omega
 have v:(i==n)=false:=beq_eq_false_iff_ne.2 (by omega);have x:((i:Int)==(n:Int))=false:=beq_eq_false_iff_ne.2 (by omega);by_cases s:cap=n
 ·subst s;go_enter Tryz.func188,Tryz.ntmps188;go_wp2_with (refine wp_region_any (by kernel_rfl) ?_;refine Hid.o ?_);refine aa ?_;try (change wpAny _ _ _ _ _ _ _ (bJ _))
  refine tk 0 ?_;refine tk 1 ?_;refine tk 2 ?_;refine tk 3 ?_;refine tk 4 ?_;refine tk 5 ?_;try simp only[Act.put,aA,az,ay]
  refine rd [6] (rn fun K c=> ?_);refine tY B6 _ _ rfl o i cap rfl (show qc 0 w.drew (cx (aD ⟨o,0,av⟩) i cap) (ps.take i) from L.o) (by rw[aO];have:=l.o;omega) ⟨_,_,rfl⟩ (by omega) ?_;intro W d f;refine c _ _ ?_;clear c K;refine tk 7 ?_;refine wpAny_done (by kernel_rfl) ?_ _;have a:=aa (show qc 0 W (cx (aD ⟨o,0,av⟩) i cap) (ps.take i)/\aG (fun k=>k=o) w W from⟨d,⟨f.os,f.tape,f.output,f.size,fun k j hn=>f.block k j (fun e=>hn (by injection e))⟩⟩);clear d f;obtain⟨vs,y⟩:=ow W o i cap (ps.take i) a.o.1 (cap-i) (by omega) (by omega);go_wp2;go_ret;have g:=Own.cleared (K:=rj) (E:=251) (B:=0) vs W (i*2) a.o.1 (by rw[aO];show _*2<=_;omega);exact⟨rfl,g.1,a.o.2.trans g.2 (fun _ _ e=>e)⟩
 ·have z:(cap==n)=false:=beq_eq_false_iff_ne.2 s;go_enter Tryz.func188,Tryz.ntmps188;go_wp2_with (refine wp_region_any (by kernel_rfl) ?_;refine Hid.o ?_);refine aa ?_;try (change wpAny _ _ _ _ _ _ _ (bJ _))
  refine tk 0 ?_;refine tk 1 ?_;refine tk 2 ?_;refine tk 3 ?_;refine tk 4 ?_;refine tk 5 ?_;try simp only[Act.put,aA,az,ay]
  refine rd [6] (rn fun K c=> ?_);refine tY B6 _ _ rfl o i cap rfl (show qc 0 w.drew (cx (aD ⟨o,0,av⟩) i cap) (ps.take i) from L.o) (by rw[aO];have:=l.o;omega) ⟨_,_,rfl⟩ (by omega) ?_;intro W d f;refine c _ _ ?_;clear c K;refine tk 7 ?_;refine wpAny_done (by kernel_rfl) ?_ _;have a:=aa (show qc 0 W (cx (aD ⟨o,0,av⟩) i cap) (ps.take i)/\aG (fun k=>k=o) w W from⟨d,⟨f.os,f.tape,f.output,f.size,fun k j hn=>f.block k j (fun e=>hn (by injection e))⟩⟩);clear d f;obtain⟨vs,y⟩:=ow W o i cap (ps.take i) a.o.1 (n-i) (by omega) (by omega);go_wp2;go_ret;have g:=Own.cleared (K:=rj) (E:=251) (B:=0) vs W (i*2) a.o.1 (by rw[aO];show _*2<=_;omega);exact⟨rfl,g.1,a.o.2.trans g.2 (fun _ _ e=>e)⟩
end
section
open Go.RowKit Go.Maps Lib
theorem Kept.yW {A:Nat->Prop} {ring b g N:Nat} {H:List Wl.Text} {w:World} (h:Kept A ring w b g N H):B7 w b H.length:=by obtain⟨F,s,hl,a,_⟩:=h;exact⟨F,g,s,hl,a.off_eq,a.homes_eq⟩
theorem EE (w:World) (T A:Nat->Prop) (tb lb ring g N:Nat) (H:List Wl.Text) (ps:List (Nat×List UInt8)) (i:Nat) (h:ya w T tb lb ps) (n:Kept A ring w lb g N H) (hi:i<H.length) (hn:H.length<=65536):
  Calls Tryz.prog 162 #[ptr tb,bf cu i] w fun e w'=>e=eb (gu #[bR (bs (gW (Wl.along H (Tx.pN ps)) i).1),bf cu 0])/\Below w.heap.size w w':=by
 have u:=aa h;have p:=aa n;have c:i<(Wl.along H (Tx.pN ps)).length:=by rw[Wl.cY];exact hi
 have X:=o8 c;obtain⟨mb,vp,vb,m⟩:=h;obtain⟨y,z,U,_⟩:=Own.slice m.op;subst U;have b:=aa m;rcases Tx.RQ H ps hi with⟨j,a⟩|⟨k,L,j,a⟩
 ·have q:=aa (show gW (Wl.along H (Tx.pN ps)) i=gW H i by
   rw[X,o8 hi];rw[aK c,aK hi] at a;injection a with a;rw[a])
  have v:=aa (show (gW H i).2=0 by rw[o8 hi]);have d:=qb.eo b.o.mp (by omega) j;have c0:=b.o.c0;have c3:=b.o.c3;rw[q.o];clear j a X m n;go_enter Tryz.func162,Tryz.ntmps162;go_wp2_with fail;refine (j9 w T tb lb H.length ps u.o p.o.yW).mono ?_;rintro e w1 ⟨rfl,rfl⟩;unfold ptr;go_wp2_with fail;refine (yV p.o (i:Int)).mono ?_;rintro e W ⟨rfl,l⟩;rw[v.o];have r:=aa l;clear l d c0 c3;go_wp2
  go_ret2
  exact⟨rfl,r.o⟩
 ·have q:=aa (show gW (Wl.along H (Tx.pN ps)) i=(Dk.full (ps[k]).2,0) by
   rw[X];rw[aK c] at a;injection a with a;rw[a])
  have d:=qb.i_ b.o.mp (by omega) j;have c1:=b.o.c1;have c3:=b.o.c3;obtain⟨o,B,E,_,_,_⟩:=Own.form b.o.op (by omega);injection E with E _ e3;subst E e3;have C:=(qc.at b.o.op k L).2;have f:=(b.o.small ps[k] (bI L)).2;have D:(k:Int)<ps.length:=by omega
  rw[q.o];clear j a X m n;generalize ps[k]=x at*;obtain⟨at_,t⟩:=x;simp only at C f |-;have s:=aa f;clear f;go_enter Tryz.func162,Tryz.ntmps162;go_wp2_with fail;refine (j9 w T tb lb H.length ps u.o p.o.yW).mono ?_;rintro e w1 ⟨rfl,rfl⟩;unfold ptr;go_wp2_with fail;refine (Ez (bs t) w1 (by rw[aP];exact s.o)).mono ?_;rintro e W ⟨rfl,l⟩;rw[bS];have r:=aa l;clear l d c1 c3 C;go_wp2
  go_ret2
  exact⟨rfl,r.o⟩
end
section
open Go.RowKit Go.Maps Go.ChangeMaps Lib
theorem Lu (k:Nat):x_.enc (Tx.un k)=bf cu (k:Int):=by show Value.int cu ((Tx.un k).length:Nat)=_;rw[Tx.gz]
theorem OX (k:Nat) (m:Wl.eV):(dat m).del (.int cu k)=dat (Tx.del k m):=by
 show DataW.map _=DataW.map _;congr 1;show (m.map sx).filter _=(Tx.del k m).map sx;unfold Tx.del;induction m with
 |nil=>rfl
 |cons x m i=>
  rw[bM,cW,cW,me];by_cases h:x.1=k;·grind
  ·grind
theorem aG.Lv {w w':World} {b:Nat} (h:w.mapTurned w' b):aG (fun k=>k=b) w w':=by obtain⟨es,clock,e,c,H,rfl⟩:=h;exact⟨rfl,rfl,rfl,by simp[setBlock],fun k a hn=>heap_setBlock_other H _ hn⟩
theorem Ah (w:World) (T:Nat->Prop) (tb lb mb:Nat) (vp vb:Value) (ps:List (Nat×List UInt8)) (bl:List Int) (m:Wl.eV) (i:Nat) (h:fV w T tb lb mb vp vb ps bl m) (hi:i<=65536):
  Calls Tryz.prog 187 #[ptr tb,bf cu i,bf cu (-1)] w fun e w'=>e=eb (gu #[])/\fV w' T tb lb mb vp vb ps bl (Tx.del i m)/\bY T w T w':=by
 have c3:=h.c3;have H:=aa h;clear h;go_enter Tryz.func187,Tryz.ntmps187;unfold ptr;go_wp2_with (at_delete;refine wpList_delete_own _ rfl _ _ 75 3 rfl 3 (int_keyed iA) jT x_.R mb m.length (dat m) rfl H.o.mp.1 (.int cu i) (.int cu i) rfl (keyOf_int_mk iA (vi (by omega))) ?_;intro w1 nJ r);refine bodyPost_end (results_none rfl _ _ _) rfl ?_;rw[OX] at nJ;have a:qb w1 mb (Tx.del i m):=⟨tO x_ nJ,Tx.vN i H.o.mp.2.1,fun x b=>H.o.mp.2.2 x (dz.1 b).1⟩;have:=H.o.map' a (aG.Lv r);exact⟨rfl,this⟩
theorem Ai (w:World) (T:Nat->Prop) (tb lb mb:Nat) (vp vb:Value) (ps:List (Nat×List UInt8)) (bl:List Int) (m:Wl.eV) (i j:Nat) (h:fV w T tb lb mb vp vb ps bl m) (hi:i<=65536) (hn:m.length<=200000000):
  Calls Tryz.prog 187 #[ptr tb,bf cu i,bf cu j] w fun e w'=>e=eb (gu #[])/\fV w' T tb lb mb vp vb ps bl (Wl.ins i (Tx.un j) m)/\bY T w T w':=by
 have c3:=h.c3;have b:=aa h;have g:((j:Int)==-1)=false:=beq_eq_false_iff_ne.2 (by omega);obtain⟨W,a,U,f⟩:=gy.Le (T:=75) h.mp iA jT hn (k:=i) (by omega) (t:=Tx.un j) (by show Tx.un _=Tx.un (Tx.un _).length;rw[Tx.gz]);rw[Lu] at a;have H:=aa (And.intro U f);clear h U f;go_enter Tryz.func187,Tryz.ntmps187;unfold ptr;go_wp2;refine bodyPost_end (results_none rfl _ _ _) rfl ?_;have d:aG (fun k=>k=mb) w W:=⟨H.o.2.os,H.o.2.tape,H.o.2.output,H.o.2.size,fun k c hn=>H.o.2.block k c (fun e=>hn (by injection e))⟩;exact⟨rfl,b.o.map' H.o.1 d⟩
theorem IF (w:World) (T:Nat->Prop) (tb lb:Nat) (ps:List (Nat×List UInt8)) (mark:Int) (h:ya w T tb lb ps) (b:(ps.length:Int)<=max mark 0):
  Calls Tryz.prog 142 #[ptr tb,bf cu mark] w fun e w'=>e=eb (gu #[])/\w'=w:=by
 have H:=aa h;clear h;by_cases c:mark<0
 ·have a:(ps.length:Int)=0:=by omega
  go_enter Tryz.func142,Tryz.ntmps142;go_wp2_with fail;refine (ry w T tb lb ps H.o).mono ?_;rintro e w1 ⟨rfl,rfl⟩;rw[a];go_wp2;refine bodyPost_ret (results_none rfl _ _ _) rfl ?_;exact⟨rfl,rfl⟩
 ·have a:¬(0:Int)>mark:=by omega
  have d:(ps.length:Int)<=mark:=by omega
  go_enter Tryz.func142,Tryz.ntmps142;go_wp2_with fail;refine (ry w T tb lb ps H.o).mono ?_;rintro e w1 ⟨rfl,rfl⟩;go_wp2;refine bodyPost_ret (results_none rfl _ _ _) rfl ?_;exact⟨rfl,rfl⟩
theorem Aj (w:World) (T:Nat->Prop) (tb lb mb:Nat) (vp vb:Value) (ps:List (Nat×List UInt8)) (bl:List Int) (j:Nat) (H:j<ps.length) (h:fV w T tb lb mb vp vb ps bl (Tx.dr (ps.take (j+1)))) (b:Int) (c:b=Tx.g_ (Tx.dr (ps.take j)) (ps[j]).1) (hn:ps.length<=90000000):
  Calls Tryz.prog 187 #[ptr tb,bf cu (ps[j]).1,bf cu b] w fun e w'=>e=eb (gu #[])/\fV w' T tb lb mb vp vb ps bl (Tx.dr (ps.take j))/\bY T w T w':=by
 have hs:=(h.small ps[j] (bI H)).1;rcases Tx.B3 (Tx.dr (ps.take j)) (ps[j]).1 with e|⟨i,e⟩;·rw[c,e];refine (Ah w T tb lb mb vp vb ps bl _ (ps[j]).1 h hs).mono ?_;rintro E w' ⟨rfl,h',a⟩;rw[Tx.Af H e] at h';exact⟨rfl,h',a⟩
 ·rw[c,e];refine (Ai w T tb lb mb vp vb ps bl _ (ps[j]).1 i h hs (by have:=Tx.yU (ps.take (j+1));rw[aO] at this;omega)).mono ?_;rintro E w' ⟨rfl,h',a⟩;rw[Tx.Ag H e] at h';exact⟨rfl,h',a⟩
theorem Lw (w:World) (T:Nat->Prop) (tb lb:Nat) (ps:List (Nat×List UInt8)) (mark:Int) (M:Nat) (h:ya w T tb lb ps) (hM:max mark 0=(M:Int)) (A:M<ps.length) (hn:ps.length<=90000000):
  Calls Tryz.prog 142 #[ptr tb,bf cu mark] w fun e w'=>e=eb (gu #[])/\∃T',ya w' T' tb lb (ps.take M)/\bY T w T' w':=by
 have HP:=aa h;obtain⟨mb,vp,vb,l⟩:=h;obtain⟨o,c,US,_,nK,hoc⟩:=Own.form l.op (by omega);obtain⟨ob,cb,U,_,qL,C⟩:=Own.form l.ob (by rw[Tx.cK];omega);rw[Tx.cK] at U C;subst US U;have V:=aa l;have x:=aa (And.intro A hn);have Z:¬(ps.length:Int)<=M:=by omega
 have c1:=l.c1;clear l;go_enter Tryz.func142,Tryz.ntmps142;go_wp2_with fail;refine (ry w T tb lb ps HP.o).mono ?_;rintro e w1 ⟨rfl,rfl⟩;unfold ptr;go_wp2;have UY:decide (ps.length<=M)=false:=decide_eq_false (by omega);rw[UY];clear UY
 go_loopw [4] (fun i wr=>∃(k:Nat) (z:Int),z+1=k/\M<=k/\k<=ps.length/\i=bf cu z/\Hid (fV wr T tb lb mb (cx (aD ⟨o,0,av⟩) ps.length c) (cx (aD ⟨ob,0,av⟩) ps.length cb) ps (Tx.iD ps) (Tx.dr (ps.take k))/\bY T w1 T wr)) (fun i _=>(RowKit.intOf i+1).toNat)
 case atStart=>exact⟨ps.length,(ps.length:Int)-1,by omega,by omega,ah _,by first|rfl|go_num,aa ⟨by rw[List.take_length];exact V.o,bY.refl _ _⟩⟩
 case round=>
  obtain⟨k,z,F,m,n,rfl,hS⟩:=hrel;by_cases g:M<k
  ·obtain⟨j,rfl⟩:∃j,k=j+1:=⟨k-1,by omega⟩;obtain rfl:z=(j:Int):=by omega
   have q:j<ps.length:=(by omega);have hMj:(M:Int)<=j:=(by omega);have Im:(j:Int)<ps.length:=(by omega);have d1:=hS.o.1.c1;have d2:=hS.o.1.c2;have G:=(qc.at hS.o.1.op j q).1;have I:=oq.at hS.o.1.ob j (by rw[Tx.cK];exact q);obtain⟨B,y⟩:∃b,b=(Tx.iD ps)[j]'(by rw[Tx.cK];exact q):=⟨_,rfl⟩;obtain⟨pa,f⟩:∃a,a=(ps[j]).1:=⟨_,rfl⟩;rw[<-y] at I;rw[<-f] at G
   have HG:=aa (show Calls Tryz.prog 187 #[e7 (aD ⟨tb,0,av⟩),bf cu pa,bf cu B] wr.drew fun e w'=>e=eb (gu #[])/\fV w' T tb lb mb (cx (aD ⟨o,0,av⟩) ps.length c) (cx (aD ⟨ob,0,av⟩) ps.length cb) ps (Tx.iD ps) (Tx.dr (ps.take j))/\bY T wr.drew T w' by
    rw[f];exact Aj wr.drew T tb lb mb _ _ ps _ j q (hS.o.1.but ((aG.refl (fun _=>False) wr).drew) (fun _ _ h=>h)) B (by rw[y,Tx.OQ]) x.o.2)
   have r:=aa (And.intro y f);have J:=aa q;have L:=aa g;have X:wr.drew.cell? ⟨tb,1,av⟩=aD (cx (aD ⟨o,0,av⟩) ps.length c):=d1;have D:wr.drew.cell? ⟨tb,2,av⟩=aD (cx (aD ⟨ob,0,av⟩) ps.length cb):=d2;have E:wr.drew.cell? ⟨o,j*2,av⟩=aD (bf cu pa):=G;have s:wr.drew.cell? ⟨ob,j,av⟩=aD (bf cu B):=I;clear y f F m n g d1 d2 G I c1 A Z;go_wp2
   go_region_held3 (fun w'=>w'.cell? ⟨tb,1,av⟩=aD (cx (aD ⟨o,0,av⟩) ps.length c)/\w'.cell? ⟨tb,2,av⟩=aD (cx (aD ⟨ob,0,av⟩) ps.length cb)/\w'.cell? ⟨o,j*2,av⟩=aD (bf cu pa)/\w'.cell? ⟨ob,j,av⟩=aD (bf cu B))
    (first
     |(exact⟨X,D,E,s⟩)
     |(exact⟨s1,s2,S,N⟩)
     |go_keep)
    (first
     |(go_at_call 187;refine HG.o.mono ?_;rintro e w3 ⟨rfl,h3,m3⟩;have s1:=h3.c1;have s2:=h3.c2;have S:=(qc.at h3.op j J.o).1;rw[<-r.o.2] at S;have N:=oq.at h3.ob j (by rw[Tx.cK];exact J.o);rw[<-r.o.1] at N;have H3:=aa (show fV w3 T tb lb mb (cx (aD ⟨o,0,av⟩) ps.length c) (cx (aD ⟨ob,0,av⟩) ps.length cb) ps (Tx.iD ps) (Tx.dr (ps.take j))/\bY T w1 T w3 from⟨h3,hS.o.2.trans ((show bY T wr T wr.drew from⟨(aG.refl T wr).drew,fun _ h=>dc h⟩).trans m3)⟩);clear h3 m3))
   clear s1 s2 S N X D E s;go_wp2;go_roundw
   case rel=>exact⟨j,(j:Int)-1,by omega,by have:=L.o;omega,by have:=J.o;omega,by first|rfl|go_num,H3⟩
   case measure=>simp[RowKit.intOf]
  ·have Y:k=M:=(by omega);rw[Y] at hS;have hzM:¬(M:Int)<=z:=(by omega);have HZ:=aa (And.intro F Y);clear F Y m n g c1 A Z;have X:wr.drew.cell? ⟨tb,1,av⟩=aD (cx (aD ⟨o,0,av⟩) ps.length c):=hS.o.1.c1;have HD:=aa (ED wr.drew o ps.length c M ps (show qc 0 wr.drew (cx (aD ⟨o,0,av⟩) ps.length c) ps from hS.o.1.op) x.o.1);go_wp2_with (refine wp_region_any (by kernel_rfl) ?_;refine Hid.o ?_);refine aa ?_;try (change wpAny _ _ _ _ _ _ _ (bJ _))
   refine tk 0 ?_;refine tk 1 ?_;refine tk 2 ?_;refine tk 3 ?_;refine tk 5 ?_;refine tk 6 ?_;refine tk 7 ?_;refine tk 8 ?_;refine rd [4,9] (AllReady.cons rfl (fun K H=> ?_) (rn fun K H=> ?_))
   focus (
    go_simp
    refine H _ _ ?_;clear H K
    refine rd [9] (rn fun K H=> ?_)
    go_simp
    refine H _ _ ?_;clear H K
    refine tk 10 ?_
   )
   rotate_left
   focus (
    go_simp
    refine H _ _ ?_;clear H K
    refine tk 10 ?_
    refine rd [4] (rn fun K H=> ?_)
    go_simp
    refine H _ _ ?_;clear H K
   )
   all_goals (
    refine rd [11] (rn fun K H=> ?_)
    go_simp
    refine HD.o.mono ?_;rintro e P ⟨rfl,h5,dP⟩
    refine H _ _ ?_;clear H K
    have O:aG (fun k=>k=o) wr P:=((aG.refl (fun k=>k=o) wr).drew).trans dP (fun _ _ e=>e)
    have XA:=hS.o.1.Gz (W:=wr) (Below.refl _ _) h5 ⟨O.os,O.tape,O.output,O.size,fun k hk hn=>O.block k hk (fun e=>hn (by rw[e];rfl))⟩ (dc rfl) (fun p hp=>V.o.small p (List.mem_of_mem_take hp))
    have d:aU P tb 79 [ptr lb,cx (aD ⟨o,0,av⟩) ps.length c,cx (aD ⟨ob,0,av⟩) ps.length cb,.map (aD mb)]:=hS.o.1.blk.but O (fun e=>hS.o.1.TE (by rw[e];rfl))
    have s1:=d.cell (j:=1) rfl
    have s2:=d.frozen 1
    have Q:=aa XA
    clear h5 dP O XA
    refine tk 12 ?_
    refine tk 13 ?_
    refine rd [14] (rn fun K H=> ?_)
    go_simp
    refine H _ _ ?_;clear H K
    refine wpAny_done (by kernel_rfl) ?_ _
    clear s1 s2 X
    obtain⟨t,NU⟩:∃t,t=P.setCell ⟨tb,1,av⟩ (cx (aD ⟨o,0,av⟩) M c):=⟨_,rfl⟩
    rw[<-NU] at Q |-
    obtain⟨R,u⟩:∃R,Hid (fV t R tb lb mb (cx (aD ⟨o,0,av⟩) M c) (cx (aD ⟨ob,0,av⟩) ps.length cb) (ps.take M) (Tx.iD ps) (Tx.dr (ps.take M))/\bY T wr R t):=⟨_,Q⟩
    have t2:=u.o.1.c2
    have t3:=u.o.1.blk.frozen 2
    have hMc:M<=cb:=by have:=x.o.1;omega
    have v:M<=ps.length:=by have:=x.o.1;omega
    clear NU Q d
    go_wp2
    refine bodyPost_end (results_none rfl _ _ _) rfl ?_
    have jx:=Own.upto u.o.1.ob M (by rw[Tx.cK];exact v)
    rw[Tx.yT ps M v] at jx
    have H7:=u.o.1.Gy (W:=t) (Below.refl _ _) jx ⟨rfl,rfl,rfl,ah _,fun _ _ _=>rfl⟩ (dc rfl)
    exact⟨rfl,_,⟨mb,_,_,H7.1⟩,hS.o.2.trans (u.o.2.trans H7.2)⟩
   )
end
section
open Go.RowKit Lib
section
variable {w0 X X':World} {Z:Nat->Option Obj} {ring g N lb tb:Nat} {H H':List Wl.Text} {ps ps':List (Nat×List UInt8)} {V:Value} {L:List Wl.Text} {A T T':Nat->Prop}
theorem Kept.UZ (h:Kept A ring X lb g N H) (d:∀k,T k->A k) (b:bY T X T' X') (c:∀k,T' k->k<X'.heap.size):Kept (fun k=>A k\/T' k) ring X' lb g N H:=by
 obtain⟨F,s,hl,f,hf,ha,O⟩:=h;refine⟨F,s,hl.but b.1 (fun k i hn=>ha k i (d k hn)),f,hf,fun x a hn=> ?_,fun x a=>a.elim (fun h=>dD (O x h) b.1.size) (c x)⟩;rcases hn with hn|hn;·exact ha x a hn
 ·rcases b.2 x hn with e|e;·exact ha x a (d x e)
  ·have:=hl.lt x a;omega
end
end
section
open Go.RowKit Go.Maps Lib
theorem GB (x:Nat×List UInt8) (z:Int) (h:(x.1:Int)≠z):(sx x).1.sameKey (.int cu z)=false:=by simp only[sx,Lit.sameKey,true_and];exact decide_eq_false h
theorem RY {m:Wl.eV} {z:Int} (h:∀x∈m,(x.1:Int)≠z) (y:DataW Unit):(dat m).atKey (.int cu z) y=y:=by
 have:(m.map sx).find? (fun p=>p.1.sameKey (.int cu z))=none:=by grind [List.find?_eq_none,GB]
 unfold dat DataW.atKey;simp only;rw[this]
theorem O1 {m:Wl.eV} {z:Int} (h:∀x∈m,(x.1:Int)≠z):Maps.has (dat m) (.int cu z)=false:=by show (m.map sx).any (fun p=>p.1.sameKey (.int cu z))=false;rw[List.any_eq_false];intro p hp;obtain⟨x,H,rfl⟩:=List.mem_map.1 hp;rw[GB x z (h x H)];decide
theorem RZ {z:Int} (h:-9223372036854775808<=z/\z<=9223372036854775807):(Lit.int cu z).wf=true:=by simp[Lit.wf,IntKind.min,IntKind.max,IntKind.signed,IntKind.bits];omega
theorem gy.vR {P:Program} {T E K:TypeId} {M:ME} {w:World} {b:Nat} {m:Wl.eV} (h:gy P K M w b m) (a:P.underlying K=aD (.int cu)) (d:P.underlying T=aD (.map K E)) {z:List UInt8} (e:(zeroValue E).run P w=.ok (M.enc z) w) (R:M.fits z)
  {k:Int} (N:-9223372036854775808<=k/\k<=9223372036854775807) (hl:∀x∈m,(x.1:Int)≠k):(Instr.lookup T (.map (aD b)) (.int cu k) true).run P w=.ok (.tuple #[M.enc z,.bool false]) w:=by
 obtain⟨v,ps,hr,c⟩:=h.1.look_ok (int_keyed a) d e (M.read z R) (keyOf_int_mk a (RZ N));rw[RY hl] at c;rw[O1 hl] at hr;obtain⟨l,rfl,hf,H⟩:=M.inv _ _ c;injection H with H _;injection H with H;injection H with H;subst H;exact hr
theorem qb.vR {w:World} {b:Nat} {m:Wl.eV} (h:qb w b m) {z:Int} (H:-9223372036854775808<=z/\z<=9223372036854775807) (hl:∀x∈m,(x.1:Int)≠z):
  (Instr.lookup 75 (.map (aD b)) (bf cu z) true).run Tryz.prog w=.ok (gu #[bf cu 0,eX false]) w:=
 gy.vR (M:=x_) h iA jT (vP w) rfl H hl
theorem EF (w:World) (T A:Nat->Prop) (tb lb ring g N:Nat) (H:List Wl.Text) (ps:List (Nat×List UInt8)) (i:Int) (h:ya w T tb lb ps) (b:Kept A ring w lb g N H) (hi:i<0\/(H.length:Int)<=i) (hr:-9223372036854775808<=i/\i<=9223372036854775807) (hs:∀p∈ps,p.1<H.length):
  Calls Tryz.prog 162 #[ptr tb,bf cu i] w fun e w'=>e=eb (gu #[bR ⟨#[]⟩,bf cu 2])/\Below w.heap.size w w':=by
 have l:=aa h;have f:=aa b;obtain⟨mb,vp,vb,a⟩:=h;have c:=aa a;have m:=aa (show gW H i=([],2) by unfold gW;rw[if_neg (by omega)]);have U:∀x∈Tx.dr ps,(x.1:Int)≠i:=by
  intro x a e;rcases Tx.nh x.1 ps with⟨n,_⟩|⟨k,b,_,r,_⟩;·exact Wl.eo.1 n x a rfl
  ·grind
 have d:=qb.vR c.o.mp hr U;have c0:=c.o.c0;have c3:=c.o.c3;clear a b U;go_enter Tryz.func162,Tryz.ntmps162;go_wp2_with fail;refine (j9 w T tb lb H.length ps l.o f.o.yW).mono ?_;rintro e w1 ⟨rfl,rfl⟩;unfold ptr;go_wp2_with fail;refine (yV f.o i).mono ?_;rintro e W ⟨rfl,j⟩;rw[m.o];have q:=aa j;clear j d c0 c3;go_wp2
 go_ret2
 exact⟨rfl,q.o⟩
end
section
open Go.RowKit Lib
def C1 (R:Nat->Prop) (ring g N lb tb:Nat) (H:List Wl.Text) (ps:List (Nat×List UInt8)) (X:World):Prop:=
 ∃A T,Kept A ring X lb g N H/\ya X T tb lb ps/\(∀k,T k->A k)/\∀k,R k->A k/\¬T k
section
variable {X X':World} {R R' S:Nat->Prop} {ring g N lb tb:Nat} {H H':List Wl.Text} {ps ps':List (Nat×List UInt8)} {A T T':Nat->Prop}
theorem C1.lt (h:C1 R ring g N lb tb H ps X):∀k,R k->k<X.heap.size:=by obtain⟨A,T,⟨F,s,hl,d,hf,ha,O⟩,x,a,b⟩:=h;exact fun k c=>O k (b k c).1
theorem C1.ij (h:C1 R ring g N lb tb H ps X) (e:aG S X X') (hS:∀k,k<X.heap.size->S k->R k) (D:∀k,R' k->R k\/(X.heap.size<=k/\k<X'.heap.size)):C1 R' ring g N lb tb H ps X':=by
 obtain⟨A,T,⟨F,s,hl,i,hf,ha,O⟩,x,a,f⟩:=h;have c:aG R X X':=e.mono hS;refine⟨fun k=>A k\/(X.heap.size<=k/\k<X'.heap.size),T,⟨F,s,hl.but c (fun k b hn=>ha k b (f k hn).1),i,hf,fun x d hn=> ?_,fun x d=>d.elim (fun h=>dD (O x h) e.size) (fun h=>h.2)⟩,x.but c (fun k b hn=>(f k hn).2 b),fun k b=>dc (a k b),fun k b=> ?_⟩
 ·rcases hn with hn|hn;·exact ha x d hn
  ·have:=hl.lt x d;omega
 ·grind
theorem C1.still (h:C1 R ring g N lb tb H ps X) (a:Below X.heap.size X X'):C1 R ring g N lb tb H ps X':=
 h.ij (aG.aJ a (fun _=>False)) (fun _ _ h=>h.elim) (fun _ b=>dc b)
theorem GD (b:Kept A ring X lb g N H) (a:∀k,T k->A k) (c:∀k,R k->A k/\¬T k) (d:bY T X T' X') (e:ya X' T' tb lb ps'):
  C1 R ring g N lb tb H ps' X'/\aG (fun k=>¬R k) X X':=by
 have f:∀k,A k->k<X.heap.size:=by obtain⟨F,s,hl,l,hf,ha,O⟩:=b;exact O
 refine⟨⟨fun k=>A k\/T' k,T',b.UZ a d e.lt,e,fun k b=>dn b,fun k b=>⟨dc (c k b).1,fun i=> ?_⟩⟩,d.1.mono (fun k _ j hr=>(c k hr).2 j)⟩;rcases d.2 k i with h|h;·exact (c k b).2 h
 ·grind
theorem Cc (c:Kept A ring X lb g N H):
  Calls Tryz.prog 8 #[ptr lb] X fun e X'=>∃tb,e=eb (ptr tb)/\C1 A ring g N lb tb H [] X'/\Below X.heap.size X X':=by
 refine (Ex X lb).mono ?_;rintro e X' ⟨tb,T,rfl,b,f,a⟩;obtain⟨F,s,hl,i,hf,ha,O⟩:=c;refine⟨tb,rfl,⟨fun k=>A k\/T k,T,⟨F,s,hl.below a,i,hf,fun x b hn=> ?_,fun x d=>d.elim (fun h=>dD (O x h) a.size) (b.lt x)⟩,b,fun k h=>dn h,fun k c=>⟨dc c,fun j=> ?_⟩⟩,a⟩
 ·rcases hn with hn|hn;·exact ha x b hn
  ·have:=f x hn;have:=hl.lt x b;omega
 ·grind
theorem rz (h:C1 R ring g N lb tb H ps X) (i:Nat) (s:ByteArray) (hi:i<H.length) (hn:H.length<=65536) (hs:s.size<=512) (hp:ps.length<=90000000):
  Calls Tryz.prog 185 #[ptr tb,bf cu i,bR s] X fun e X'=>e=eb (bf cu 0)/\C1 R ring g N lb tb H (ps++[(i,s.data.toList)]) X'/\aG (fun k=>¬R k) X X':=by
 obtain⟨A,T,c,x,a,d⟩:=h;refine (EA X T tb lb H.length ps i s x c.yW hi hn hs hp).mono ?_;rintro e X' ⟨rfl,T',b,f⟩;exact⟨rfl,GD c a d f b⟩
theorem Cd (h:C1 R ring g N lb tb H ps X) (i:Int) (s:ByteArray) (c:Int) (hc:(c=2/\(i<0\/(H.length:Int)<=i))\/(c=5/\0<=i/\i<H.length/\512<s.size)):
  Calls Tryz.prog 185 #[ptr tb,bf cu i,bR s] X fun e X'=>e=eb (bf cu c)/\X'=X:=by
 obtain⟨A,T,b,x,a,d⟩:=h;exact EC X T tb lb H.length ps i s x b.yW c hc
theorem O2 (h:C1 R ring g N lb tb H ps X) (i:Nat) (hi:i<H.length) (hn:H.length<=65536):
  Calls Tryz.prog 162 #[ptr tb,bf cu i] X fun e X'=>e=eb (gu #[bR (bs ((Wl.along H (Tx.pN ps)).getD i [])),bf cu 0])/\Below X.heap.size X X':=by
 obtain⟨A,T,b,x,_⟩:=h;have a:i<(Wl.along H (Tx.pN ps)).length:=by rw[Wl.cY];omega
 refine (EE X T A tb lb ring g N H ps i x b hi hn).mono ?_;rintro e X' ⟨rfl,c⟩;refine⟨?_,c⟩;rw[o8 a,bZ,aK a,Option.getD_some]
theorem EG (h:C1 R ring g N lb tb H ps X) (i:Int) (hi:i<0\/(H.length:Int)<=i) (hr:-9223372036854775808<=i/\i<=9223372036854775807) (hs:∀p∈ps,p.1<H.length):
  Calls Tryz.prog 162 #[ptr tb,bf cu i] X fun e X'=>e=eb (gu #[bR ⟨#[]⟩,bf cu 2])/\Below X.heap.size X X':=by
 obtain⟨A,T,a,x,_⟩:=h;exact EF X T A tb lb ring g N H ps i x a hi hr hs
theorem Lx (h:C1 R ring g N lb tb H ps X):
  Calls Tryz.prog 165 #[ptr tb] X fun e X'=>e=eb (bf cu H.length)/\X'=X:=by
 obtain⟨A,T,a,x,_⟩:=h;exact B8 X T tb lb H.length ps x a.yW
end
end
end Go.Proofs.YtlpfhjbpknbndaaGreatDoor
