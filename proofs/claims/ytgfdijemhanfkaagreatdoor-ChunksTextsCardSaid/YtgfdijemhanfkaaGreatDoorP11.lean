/- Elder texts, cut down and merged (11). -/
import Derived.Test.YtgfdijemhanfkaaGreatDoorP3
import Derived.Test.YtgfdijemhanfkaaGreatDoorP8
import Derived.Test.YtgfdijemhanfkaaGreatDoorP7
import Derived.Test.YtgfdijemhanfkaaGreatDoorP6
import Derived.Test.YtgfdijemhanfkaaGreatDoorP4
import Derived.Test.YtgfdijemhanfkaaGreatDoorP2
import Derived.RangeFuncBox
import Derived.RangeFuncLeaves
import Derived.Shelf.Abstract
import Derived.OwnWalkIn
import Derived.TacticsInMore
import Derived.LoopNIn
import Derived.LoopIn
import Derived.Maps.AppendAt
import Derived.Lib.Hide
import Derived.Test.YtgfdijemhanfkaaGreatDoorIter
import Derived.Deep.RegionHeld3
import Derived.Laws.CopyOwn
import Derived.StillTailTactics
import Derived.Lib.SlMapMerge
import Derived.Lib.Strings
import Derived.Lib.Walk
import Derived.Lib.BufferWrite
import Derived.Lib.UnsafeStr
import Derived.Laws.MakeOwn
import Derived.Lib.SliceRun
import Derived.Test.YtgfdijemhanfkaaGreatDoorPTk
set_option maxRecDepth 100000
set_option maxHeartbeats 8000000
namespace Go.Proofs.YtgfdijemhanfkaaGreatDoor
open _root_.Go.Proofs.Tryz
open Value renaming int→bf,slice→cx,bool→ey,string→cu,tuple→ec,agg→eU,pointer→dr
open IntKind renaming i64→ct,u64→eZ,u8→eD
open Obj renaming cells→dg
open Option renaming none→aK,some→av
open Ending renaming returned→c8
open Or renaming inl→cS,inr→dc
open List renaming length_append->aq,replicate->aV,getElem?_replicate->mF,getElem?_eq_getElem->aI,getD_eq_getElem?_getD->bC,mem_cons->aM,take_of_length_le->bD,getElem?_map->cY,mem_append->ah,mem_singleton->bB,length_take->aJ,map_cons->bI,append_nil->bh,mem_map->bY,setIfInBounds_toArray->aC,set_cons_succ->aB,set_cons_zero->ay,getElem_mem->bp,filter_cons->c9,mem_filter->dU
open _root_.Array renaming length_toList->aU
open Nat renaming le_refl->af,zero_le->aA,lt_of_lt_of_le->bL,zero_add->bG,le_trans->aN,min_eq_left->bT
open Int renaming toNat_natCast->cK
open World renaming size_alloc->aY,drew->bu
section
open Go.RowKit Go.Shelf Lib
attribute [local go_sem] Oper.semAt_some
def QG (l:List UInt8) (pre:Δ):List (List UInt8):=pre.map fun k=>112::((l.drop (511*k)).take 511)
def LI (w:World) (p:Nat) (g:Wl.ew) (d D:Nat) (cur:Array Value) (pre:Δ) (W:World):Prop:=
 ((∃v,Boxed W p 44 v/\W.ownsRow p 9 1 v pre.length ((QG (Wl.pack g) pre).map fun t=>Value.string (bs t))/\True)/\
  (Boxed W (p+1) 151 (cx (av ⟨d,0,aK⟩) (Wl.pack g).length D)/\Boxed W (p+1+1) 3 (bf ct 511)/\W.heap[d]?=av (dg cur 5 (0,0))))/\Below w.heap.size w W
end
section
open Go.RowKit Lib
theorem Log.c3 {w:World} {F:Φ} {b g:Nat} {s:Wl.Lg} (h:Log w F b g s):w.cell? ⟨b,3,aK⟩=av (bf ct s.place):=by obtain⟨_,_,h⟩:=h;exact h.c3
theorem Log.c4 {w:World} {F:Φ} {b g:Nat} {s:Wl.Lg} (h:Log w F b g s):w.cell? ⟨b,4,aK⟩=av (bf eZ s.num):=by obtain⟨_,_,h⟩:=h;exact h.c4
theorem Log.c7 {w:World} {F:Φ} {b g:Nat} {s:Wl.Lg} (h:Log w F b g s):w.cell? ⟨b,7,aK⟩=av (ey s.down):=by obtain⟨_,_,h⟩:=h;exact h.c7
theorem pF {B:Nat} {w:World} {v:Value} {l:List UInt8} {ops:Array Oper} {rest:List Oper} {o:Oper} {a:Act} {Q:Exit->Act->Ψ} (H:o.guard=aK) (s x:Operand)
  (e:o.op=.call {callee:=.builtin .append,args:=#[s,x],argTypes:=#[151,9]})
  (hs:a.eval s=v) (hown:iZ B w v l) (f:B<=w.heap.size) (t:ByteArray) (g:a.eval x=.string t) (d:l.length+t.size<=900000000)
  (h:∀v' w',iZ B w' v' (l++t.data.toList)->w.grownBy w' v.ownBlock->wpList prog ops Q rest (a.put o.dst v') w'):wpList prog ops Q (o::rest) a w:=by
 obtain⟨i,hi,j,b,c⟩:=iL (P:=prog) (E:=5) (size:=1) (bytes:=1) (z:=.int eD 0) η;refine wpList_append_own_string w H s x 151 9 e B 5 i underlying151 underlying9 hi j b c v l.length (dO.cells l) hs hown t g zat κ f ?_;intro v' w' k m _;refine h v' w' ?_ m;unfold iZ Own;rw[dO.cj,aq,show dO.cells t.data.toList=strCells t from cv _ _ _,aU];exact k
theorem QH (W:World) (g o cp:Nat) (l:List UInt8) (hc:∀x (H:x<l.length),W.cell? ⟨g,o+x,aK⟩=av (bU l[x])):
  (convert 151 9 (cx (av ⟨g,o,aK⟩) l.length cp)).run prog W=.ok (cu (bs l)) W:=
 run_convert_bytes_back (P:=prog) W 151 9 5 ⟨g,o,aK⟩ cp l η η η (by
  intro j h;rw[show (⟨g,o,aK⟩:Addr).add j=⟨g,o+j,aK⟩ by unfold Addr.add;split<;>simp_all];exact hc j h)
def Wl.Lg.read (s:Wl.Lg) (i:Int):Wl.Text×Int:=
 if s.off then ([],3) else if !s.has i then ([],2) else match Wl.look i.toNat s.wait with|some t=>(t,0)|none=>s.d.read ((1+s.ring+i.toNat:Nat):Int)
theorem ux {w w':World} {Z:Array Value} (h:aE (fun k=>k=w.heap.size) (w.alloc (dg Z CT)) w'):Below w.heap.size w w':=
 Below.but ((Below.refl _ w).alloc (af _) _) h ν (fun k H e=>κ)
theorem M0 (w:World) (F:Φ) (b g:Nat) (s:Wl.Lg) (i:Int) (hl:Log w F b g s) (E:Bnd s):
  Calls prog 223 #[ptr b,bf ct i] w fun e w'=>e=c8 (ec #[cu (bs (s.read i).1),bf ct (s.read i).2])/\Below w.heap.size w w':=by
 have x:=aa hl;have G:=aa E;obtain⟨mb,FD,h⟩:=hl;have c0:=h.c0;have c6:=h.c6;have y:=aa h;clear h E;obtain⟨Z,v⟩:=ξx ((zeros.map bU).toArray);have O:∀w,(zeroValue CT).run prog w=.ok (eU Z) w:=fun w=>by rw[v];exact Dw w
 have p:Z.size=512:=by rw[v];simp[jJ]
 have K:¬Z=#[]:=by intro e;rw[e] at p;cases p
 have I:=aa v;clear v;have H:=aa (show s.read i=if s.off then ([],3) else if !s.has i then ([],2) else match Wl.look i.toNat s.wait with|some t=>(t,0)|none=>s.d.read ((1+s.ring+i.toNat:Nat):Int) from rfl);go_enter func223,ntmps223;unfold ptr;go_wp2_with fail;refine (B4 w F b g s x.o).mono ?_;rintro e w1 ⟨rfl,rfl⟩;by_cases l:s.off=true
 ·rw[l];have f:=aa (show s.read i=([],3) by rw[H.o,if_pos l]);clear l H;go_wp2
  go_ret2
  exact⟨by rw[f.o];rfl,Below.refl _ _⟩
 ·have q:s.off=false:=by simpa using l
  have H:=aa (show s.read i=if !s.has i then ([],2) else match Wl.look i.toNat s.wait with|some t=>(t,0)|none=>s.d.read ((1+s.ring+i.toNat:Nat):Int) by rw[H.o,if_neg l]);rw[q];clear l q;go_wp2_with fail;refine (Qq w1 F b g s i x.o).mono ?_;rintro e w1 ⟨rfl,rfl⟩;by_cases hh:s.has i=true
  ·rw[hh];have H:=aa (show s.read i=match Wl.look i.toNat s.wait with|some t=>(t,0)|none=>s.d.read ((1+s.ring+i.toNat:Nat):Int) by rw[H.o,if_neg (by rw[hh];decide)]);have hat:0<=i/\i<s.homes:=(by simpa[Wl.Lg.has] using hh);obtain⟨n,rfl⟩:∃n:Nat,i=n:=⟨i.toNat,κ⟩;rw[cK] at H;have c:n<=1000000:=(by have:=G.o.h;omega);have A:=aa c;obtain⟨r,hr⟩:∃r,w1.heap.size=r:=⟨_,rfl⟩;clear hh hat;cases a:Wl.look n s.wait with
   |some t=>
    obtain⟨hat,J⟩:=I7.jI y.o.mp c a;have f:=aa (show s.read (n:Int)=(t,0) by rw[H.o,a]);have B:=aa J;clear H a J c
    go_wp2_with (first
     |(refine r8 rfl _ _ rfl r t zeros rfl rfl B.o (by rw[<-hr];exact Ft.new w1 Z I.o) ?_;intro W z D;have L:=Qn W r;have M:=z.back;have m:=aa D;clear D z)
     |fail)
    go_ret2
    exact⟨by rw[f.o];rfl,ux (by rw[hr];exact m.o)⟩
   |none=>
    have hat:=I7.eH y.o.mp c a;have f:=aa (show s.read (n:Int)=s.d.read ((1+s.ring+n:Nat):Int) by rw[H.o,a]);clear H a c
    go_wp2_with (first
     |(refine r8 rfl _ _ rfl r zeros zeros rfl rfl jJ (by rw[<-hr];exact Ft.new w1 Z I.o) ?_;intro W z D;have m:=aa (ux (show aE (fun k=>k=w1.heap.size) (w1.alloc (dg Z CT)) W by rw[hr];exact D));clear D z)
     |fail)
    have u:=aa (x.o.below m.o);have j:=aa (y.o.below m.o);have c0:=j.o.c0
    go_quiet (first
     |(go_at_call 256;exact Calls.quiet_of_same (Dx _ F b g s n (by first|exact u.o|exact u.o.but ((aE.refl (fun _=>False) W).drewN _) (fun _ _ h=>h)) G.o.r2 A.o))
     |(go_at_call 107;exact Calls.quiet_of_same (Ff _ FD g s.d _ (by first|exact j.o.sec|exact j.o.sec.but ((aE.refl (fun _=>False) W).drewN _) (fun _ _ h=>h)))))
    have N:=aa (show s.read (n:Int)=s.d.read (1+(s.ring:Int)+n) by rw[f.o,show ((1+s.ring+n:Nat):Int)=1+(s.ring:Int)+n by omega]);rw[<-N.o];go_wp2
    go_ret2
    exact⟨rfl,m.o.trans ((dF W _).mono m.o.size)⟩
  ·have C:s.has i=false:=(by simpa using hh);have f:=aa (show s.read i=([],2) by rw[H.o,C];rfl);rw[C];clear hh C H;go_wp2
   go_ret2
   exact⟨by rw[f.o];rfl,Below.refl _ _⟩
def r_ (ring size:Nat):Wl.Lg:=⟨ring,size-1-ring,0,1,0,[],false,Dk.fresh size⟩
theorem M7 (w:World) (F:Φ) (b g ring size:Nat) (hl:Log w F b g ⟨ring,size-1-ring,0,0,0,[],false,Dk.fresh size⟩) (hr:ring<=4096) (hs:size<=65536) (L:1<=size):
  Calls prog 34 #[ptr b] w fun e w'=>e=c8 (ey true)/\∃I,Log w' I b g ((r_ ring size).with (Wl.wr (false,Dk.fresh size) (0,Wl.first size ring 0 1)))/\b9 F w I w':=by
 have J:=aa hl;obtain⟨mb,FD,hp⟩:=hl;have c0:=hp.c0;have N:=aa hp.sec;have V:(size:Int)<=65536:=κ
 have H:(Dk.fresh size).gK.length=size:=by simp[Dk.fresh]
 have l:∀k,k<size->((Dk.fresh size).read (k:Nat)).1=Dk.full []:=by intro k t;rw[Dk.Lb rfl (show (Dk.fresh size).now[k]?=av (Dk.full []) by show (Dk.gG (aV size (Dk.full [])) [])[k]?=_;rw[Dk.pS,mF,if_pos t])]
 have u:=aa l;clear hp l;go_enter func34,ntmps34;unfold ptr;go_wp2_with fail;refine (uf w FD g _ N.o).mono ?_;rintro e w1 ⟨rfl,rfl⟩;rw[H];go_wp2_with fail
 go_loopw [9] (fun i wr=>∃k:Nat,k<=size/\i=bf ct k/\Hid (Below w1.heap.size w1 wr)) (fun i _=>size-(RowKit.intOf i).toNat)
 case atStart=>exact⟨0,aA _,rfl,aa (Below.refl _ _)⟩
 case round=>
  obtain⟨k,t,rfl,m⟩:=hrel;by_cases n:k<size
  ·have X:(k:Int)<size:=κ;have ya:(k:Int)<=65536:=κ;have pY:(0:Int)<=k:=κ;have v:=aa n;clear n t;go_wp2_with fail;refine (Qr wr F b g _ k (J.o.below m.o)).mono ?_;rintro e O ⟨rfl,rfl⟩;rw[show ((Dk.fresh size).read (k:Nat)).1=Dk.full [] from u.o k v.o];go_wp2_with fail;refine (IZ _ _ (by rw[aG,Wl.EV];decide)).mono ?_;rintro e w3 ⟨rfl,nq,rfl⟩;rw[bJ,Wl.tN];have P:=aa (m.o.trans ((dF O nq).mono m.o.size));go_wp2;go_roundw
   case rel=>exact⟨k+1,v.o,ς,P⟩
   case measure=>have:=v.o;simp[RowKit.intOf];omega
  ·obtain rfl:size=k:=by omega
   have x:=J.o.below m.o;have Q:wr.cell? ⟨b,3,aK⟩=av (bf ct 0):=x.c3;have R:wr.cell? ⟨b,4,aK⟩=av (bf eZ 0):=x.c4;obtain⟨M,y,s⟩:=x;have f3:=s.blk.frozen 3;have f4:=s.blk.frozen 4;have S:=aa s;clear s;go_wp2_with fail;have s1:=S.o.set 3 (bf ct 0) ⟨ring,size-1-ring,0,0,0,[],false,Dk.fresh size⟩ rfl rfl rfl;have s2:=s1.1.set 4 (bf eZ 1) (r_ ring size) rfl rfl rfl;obtain⟨Y,K⟩:=ξx ((wr.setCell ⟨b,3,aK⟩ (bf ct 0)).setCell ⟨b,4,aK⟩ (bf eZ 1));have z:=s1.2.trans s2.2;have A:=s2.1;rw[<-K] at z A |-;have c:aE (fun _=>False) Y Y.drew:=(aE.refl _ Y).drew;have f:=aa (show kj Y.drew F b g M y (r_ ring size)/\b9 F w1 F Y.drew from⟨A.but c (fun _ _ h=>h),(show b9 F w1 F wr from⟨aE.aF m.o _,fun _ h=>cS h⟩).trans (z.trans ⟨c.mono (fun _ _ h=>h.elim),fun _ h=>cS h⟩)⟩);clear s1 s2 K z A c Q R f3 f4 c0;have c0:Y.drew.cell? ⟨b,0,aK⟩=av (dr (av ⟨g,0,aK⟩)):=f.o.1.c0;have c1:Y.drew.cell? ⟨b,1,aK⟩=av (bf ct ring):=f.o.1.c1;have c3:Y.drew.cell? ⟨b,3,aK⟩=av (bf ct 0):=f.o.1.c3;have c4:Y.drew.cell? ⟨b,4,aK⟩=av (bf eZ 1):=f.o.1.c4
   go_region_held3 (fun w'=>w'.cell? ⟨b,0,aK⟩=av (dr (av ⟨g,0,aK⟩))/\w'.cell? ⟨b,1,aK⟩=av (bf ct ring)/\w'.cell? ⟨b,3,aK⟩=av (bf ct 0)/\w'.cell? ⟨b,4,aK⟩=av (bf eZ 1))
    (first
     |(exact⟨c0,c1,c3,c4⟩)
     |(exact⟨D,B,C,E⟩)
     |go_keep)
    (first
     |(go_at_call 32;refine (uf _ y g _ f.o.1.sec).mono ?_;rintro e w4 ⟨rfl,rfl⟩)
     |(go_at_call 68;refine (Bh (r_ ring size).d.gK.length ring 0 1 _ (by have:=H;exact (by omega:(Dk.fresh size).gK.length<=1000000)) κ κ ξ).mono ?_;rintro e W ⟨rfl,T⟩;have Z:=aa (show kj W F b g M y (r_ ring size)/\b9 F w1 F W from⟨f.o.1.below T,f.o.2.trans ⟨aE.aF T _,fun _ h=>cS h⟩⟩);have D:W.cell? ⟨b,0,aK⟩=av (dr (av ⟨g,0,aK⟩)):=Z.o.1.c0;have B:W.cell? ⟨b,1,aK⟩=av (bf ct ring):=Z.o.1.c1;have C:W.cell? ⟨b,3,aK⟩=av (bf ct 0):=Z.o.1.c3;have E:W.cell? ⟨b,4,aK⟩=av (bf eZ 1):=Z.o.1.c4;clear T)
     |(go_at_call 67;refine (I9 _ F b g (r_ ring size) 0 _ Z.o.1.log (by show ([]:Γ).length<=_;simp)).mono ?_;rintro e j ⟨rfl,G,p,q⟩;have r:=aa (show Log j G b g ((r_ ring size).with (Wl.wr (false,Dk.fresh size) (0,Wl.first (r_ ring size).d.gK.length ring 0 1)))/\b9 F w1 G j from⟨p,Z.o.2.trans q⟩);obtain⟨_,_,a⟩:=p;have D:j.cell? ⟨b,0,aK⟩=av (dr (av ⟨g,0,aK⟩)):=a.c0;have B:j.cell? ⟨b,1,aK⟩=av (bf ct ring):=a.c1;have C:j.cell? ⟨b,3,aK⟩=av (bf ct 0):=a.c3;have E:j.cell? ⟨b,4,aK⟩=av (bf eZ 1):=a.c4;clear a q))
   clear c0 c1 c3 c4 D B C E;go_wp2;go_ret;have U:(r_ ring size).d.gK.length=size:=H;rw[U] at r;exact⟨rfl,G,r.o⟩
def bare (ring homes:Nat) (d:Dk.cG):Wl.Lg:=⟨ring,homes,0,0,0,[],false,d⟩
theorem kj.make {w:World} {FD:Φ} {g ring homes:Nat} {d:Dk.cG} (hs:rN w FD g d):
  kj ((w.alloc (.map #[] 0)).alloc (dg (oN g w.heap.size (bare ring homes d)).toArray 101)) (both FD (fun k=>k=w.heap.size\/k=w.heap.size+1)) (w.heap.size+1) g w.heap.size FD (bare ring homes d)/\
  b9 FD w (both FD (fun k=>k=w.heap.size\/k=w.heap.size+1)) ((w.alloc (.map #[] 0)).alloc (dg (oN g w.heap.size (bare ring homes d)).toArray 101)):=by
 have b:aE (fun _=>False) w ((w.alloc (.map #[] 0)).alloc (dg (oN g w.heap.size (bare ring homes d)).toArray 101)):=((aE.refl _ w).alloc _).alloc _;have a:=hs.lt;refine⟨⟨?_, ?_,hs.but b (fun _ _ h=>h),fun h=>by have:=a _ h;omega,fun h=>by have:=a _ h;omega,dc (dc rfl),dc (cS rfl),fun k H=>cS H,fun k H=> ?_⟩,b.mono (fun _ _ h=>h.elim),fun k H=> ?_⟩;·have:=aW.new (w.alloc (.map #[] 0)) (oN g w.heap.size (bare ring homes d)).toArray 101;rw[aY] at this;exact this
 ·exact (eW.made prog Ug uk w).but ((aE.refl (fun _=>False) _).alloc _) id
 ·simp only[aY];rcases H with H|H|H;·grind
  ·omega
  ·omega
 ·rcases H with H|H|H;·exact cS H
  ·exact dc κ
  ·exact dc κ
theorem Jg (w:World) (FD:Φ) (g ring size:Nat) (hs:rN w FD g (Dk.fresh size)) (M:4<=ring) (N:ring<=4096) (a:ring+2<=size) (K:size<=65536):
  Calls prog 17 #[ptr g,bf ct ring] w fun e w'=>∃b p,e=c8 (ec #[ptr b,bf ct 0])/\Log w' p b g (Wl.begun size ring)/\b9 FD w p w':=by
 have f:=aa hs;have i:=aa (And.intro M (And.intro N (And.intro a K)));have I:(4:Int)<=ring:=κ
 have A:(ring:Int)<=4096:=κ
 have B:(ring:Int)+2<=size:=κ
 have C:(size:Int)<=65536:=κ
 have H:(Dk.fresh size).gK.length=size:=by simp[Dk.fresh]
 have k:=aa (show ((size:Int)-1-ring)=((size-1-ring:Nat):Int) by omega);clear hs M N a K;have l:=@run_makeMap prog;go_enter func17,ntmps17;unfold ptr;go_wp2_with fail;refine (uf w FD g _ f.o).mono ?_;rintro e w1 ⟨rfl,rfl⟩;rw[H];go_wp2_with fail;refine (fR w1 FD g _ f.o).mono ?_;rintro e v ⟨rfl,rfl⟩;rw[show (Dk.fresh size).off=false from rfl];go_wp2_with fail;refine (uf v FD g _ f.o).mono ?_;rintro e w3 ⟨rfl,rfl⟩;rw[H];go_wp2_with fail;rw[k.o];have h:=kj.make (ring:=ring) (homes:=(size-1-ring)) f.o;obtain⟨V,m⟩:=ξx (((w3.alloc (.map #[] 0)).alloc (dg (oN g w3.heap.size (bare ring (size-1-ring) (Dk.fresh size))).toArray 101)));rw[<-m] at h;change Calls prog _ _ ((w3.alloc (.map #[] 0)).alloc (dg (oN g w3.heap.size (bare ring (size-1-ring) (Dk.fresh size))).toArray 101)) _;rw[<-m];have n:=aa (show ∃F,Log V F (w3.heap.size+1) g (bare ring (size-1-ring) (Dk.fresh size))/\b9 FD w3 F V from⟨_,h.1.log,h.2⟩);clear h m l;obtain⟨b,q⟩:=ξx (w3.heap.size+1);rw[<-q] at n |-;clear q;obtain⟨F,r,s⟩:=n.o;have t:=aa (And.intro r s);clear r s n;refine (M7 V F b g ring size t.o.1 i.o.2.1 i.o.2.2.2 (by have:=i.o.2.2.1;omega)).mono ?_;rintro e x ⟨rfl,y,c,d⟩;have u:=aa (And.intro c (t.o.2.trans d));clear c d;go_wp2_with fail;refine (I_ x y b g _ u.o.1).mono ?_;rintro e W ⟨rfl,j,X,T⟩;change Log W j b g ((r_ ring size).with (Wl.fl (Wl.wr (false,Dk.fresh size) (0,Wl.first size ring 0 1)))) at X;rw[Wl.Il size ring (by have:=i.o.2.2.1;omega)] at X;have c7:W.cell? ⟨b,7,aK⟩=av (ey false):=X.c7;have z:=aa (show Log W j b g (Wl.begun size ring)/\b9 FD w3 j W from⟨X,u.o.2.trans T⟩);clear X T;go_wp2
 go_ret2
 exact⟨b,j,rfl,z.o⟩
def Left (w w':World) (F:Φ) (b g:Nat) (Q:Wl.Lg->Prop):Prop:=∃f s',Log w' f b g s'/\b9 F w f w'/\Q s'
def iQ (H:List Wl.Text) (i:Int):Wl.Text×Int:=if 0<=i/\i<H.length then (H.getD i.toNat [],0) else ([],2)
theorem M8 {ring N:Nat} {s:Wl.Lg} {H:List Wl.Text} (h:Wl.Live ring N s H) (i:Int):s.read i=iQ H i:=by
 obtain⟨m,n,h3,h4,o,p,q,r,u,f,g,k,b⟩:=h.read;unfold Wl.Lg.read iQ;rw[h.off_eq,if_neg ξ];have E:=h.homes_eq;have l:=h.KE;by_cases hi:0<=i/\i<H.length
 ·have hh:s.has i=true:=by simp[Wl.Lg.has,E,hi.1,hi.2]
  rw[hh,if_neg ξ,if_pos hi];obtain⟨j,rfl⟩:∃j:Nat,i=j:=⟨i.toNat,κ⟩;rw[cK];have c:j<H.length:=κ
  have a:=b j c;rw[aI c] at a;rw[bC,aI c,Option.getD_some];cases hl:Wl.look j s.wait with
  |some t=>rw[hl] at a;have e:H[j]=t:=(by simpa using a);rw[e]
  |none=>rw[hl,Option.none_or] at a;show s.d.read ((1+s.ring+j:Nat):Int)=_;rw[l];exact Dk.Lb h.on a.symm
 ·grind [Wl.Lg.has]
theorem M9 (w:World) (F:Φ) (b g ring N:Nat) (s:Wl.Lg) (H:List Wl.Text) (i:Int) (hl:Log w F b g s) (h:Wl.Live ring N s H):
  Calls prog 223 #[ptr b,bf ct i] w fun e w'=>e=c8 (ec #[cu (bs (iQ H i).1),bf ct (iQ H i).2])/\Below w.heap.size w w':=by
 refine (M0 w F b g s i hl h.OS).mono ?_;rintro e w' ⟨rfl,a⟩;rw[M8 h i];exact⟨rfl,a⟩
theorem Jh (w:World) (FD:Φ) (g ring size:Nat) (hs:rN w FD g (Dk.fresh size)) (m:4<=ring) (n:ring<=4096) (h:ring+2<=size) (k:size<=65536):
  Calls prog 17 #[ptr g,bf ct ring] w fun e w'=>∃b,e=c8 (ec #[ptr b,bf ct 0])/\Left w w' FD b g (fun s'=>Wl.Live ring 1 s' (Wl.dJ (size-1-ring))/\s'.d.fuel<0):=by
 refine (Jg w FD g ring size hs m n h k).mono ?_;rintro e w' ⟨b,F,rfl,H,a⟩;exact⟨b,rfl,F,_,H,a,Wl.Ik size ring m n h k,by show (-1:Int)<0;decide⟩
theorem QI {a b:List UInt8} (h:bs a=bs b):a=b:=by rw[<-bJ a,h,bJ]
theorem q_ {H:List Wl.Text} {k:Nat} (h:k<H.length):iQ H (k:Nat)=(H[k],0):=by unfold iQ;rw[if_pos κ,cK,bC,aI h];rfl
def Kept (A:Φ) (ring:Nat) (wr:World) (b g N:Nat) (H:List Wl.Text):Prop:=
 ∃F s,Log wr F b g s/\Wl.Live ring N s H/\s.d.fuel<0/\(∀x,F x->¬A x)/\∀x,A x->x<wr.heap.size
abbrev Off (A:Φ) (w w':World):Prop:=aE (fun x=>¬A x) w w'
theorem Off.below {A:Φ} {B:Nat} {w w':World} (h:Off A w w') (hA:∀x,x<B->A x) (H:B<=w.heap.size):Below B w w':=aE.below h H (fun k a hn=>hn (hA k a))
theorem Kept.left {A:Φ} {ring b g N:Nat} {H:List Wl.Text} {w w':World} {F f:Φ} {s':Wl.Lg} (ha:∀x,F x->¬A x) (a:∀x,A x->x<w.heap.size) (i:Log w' f b g s') (e:b9 F w f w') (j:Wl.Live ring N s' H) (hf:s'.d.fuel<0):
  Kept A ring w' b g N H/\Off A w w':=
 ⟨⟨f,s',i,j,hf,fun x c hn=>by
  rcases e.2 x c with h|h;·exact ha x h hn
  ·have:=a x hn;omega,fun x c=>bL (a x c) e.1.size⟩,e.1.mono (fun x _ c=>ha x c)⟩
def XI (A:Φ) (ring:Nat) (w w':World) (b g N:Nat) (H:List Wl.Text):Prop:=Kept A ring w' b g N H/\Off A w w'
theorem Ca {A:Φ} {ring b g N:Nat} {H:List Wl.Text} {w:World} (h:Kept A ring w b g N H) (i:Int):
  Calls prog 223 #[ptr b,bf ct i] w fun e w'=>e=c8 (ec #[cu (bs (iQ H i).1),bf ct (iQ H i).2])/\Below w.heap.size w w':=by
 obtain⟨F,s,hl,a,hf,hA,c⟩:=h;exact M9 w F b g ring N s H i hl a
theorem Ji {A:Φ} {g ring size:Nat} {w:World} {FD:Φ} (hs:rN w FD g (Dk.fresh size)) (hA:∀x,FD x->¬A x) (h:∀x,A x->x<w.heap.size) (m:4<=ring) (n:ring<=4096) (H:ring+2<=size) (k:size<=65536):
  Calls prog 17 #[ptr g,bf ct ring] w fun e w'=>∃b,e=c8 (ec #[ptr b,bf ct 0])/\XI A ring w w' b g 1 (Wl.dJ (size-1-ring)):=by
 refine (Jh w FD g ring size hs m n H k).mono ?_;rintro e w' ⟨b,rfl,F,s',a,c,d,hf⟩;exact⟨b,rfl,Kept.left hA h a c d hf⟩
end
section
open Go.RowKit Go.Maps Lib
def Us (l:List UInt8):Value:=bf ct l.length
def Lc:Value->Option (DataW Unit×List MemPlace)
 |.int ct n=>if 0<=n then av (.lit (.string (Tx.un n.toNat)),[]) else aK
 |_=>aK
theorem M_ {v:Value} {y:DataW Unit×List MemPlace} (h:Lc v=av y):∃l,v=Us l/\l=Tx.un l.length/\y=(.lit (.string l),[]):=by
 unfold Lc at h
 split at h
 ·rename_i n
  split at h
  ·injection h with h;refine⟨Tx.un n.toNat, ?_,by rw[Tx.ig],h.symm⟩;unfold Us;rw[Tx.ig];congr 1;omega
  ·cases h
 ·cases h
def Bj:ME:=⟨Us,Lc,fun l=>l=Tx.un l.length,fun l h=>by
 unfold Us Lc
 simp only
 rw[if_pos κ,cK,<-h],fun _ _ h=>M_ h⟩
abbrev sS (w:World) (b:Nat) (m:Wl.ew):Prop:=eW prog 3 Bj w b m
theorem kT:prog.underlying 63=av (.map 3 3):=underlying63
theorem zx (w:World):(zeroValue 3).run prog w=.ok (Bj.enc []) w:=η
theorem sS.jI {w:World} {b:Nat} {m:Wl.ew} (h:sS w b m) {k n:Nat} (H:k<=1000000) (hl:Wl.look k m=av (Tx.un n)):(Instr.lookup 63 (.map (av b)) (bf ct k) true).run prog w=.ok (ec #[bf ct n,ey true]) w:=by have:=(eW.jI (M:=Bj) h gB kT (zx w) rfl H hl).1;rw[show Bj.enc (Tx.un n)=bf ct n by show Value.int ct ((Tx.un n).length:Nat)=_;rw[Tx.ig]] at this;exact this
theorem sS.eH {w:World} {b:Nat} {m:Wl.ew} (h:sS w b m) {k:Nat} (H:k<=1000000) (hl:Wl.look k m=aK):(Instr.lookup 63 (.map (av b)) (bf ct k) true).run prog w=.ok (ec #[bf ct 0,ey false]) w:=
 eW.eH (M:=Bj) h gB kT (zx w) rfl H hl
def uy:Elem (Nat×List UInt8):=⟨fun x=>[bf ct x.1,cu (bs x.2)],2,ξ,fun _=>rfl,by
 intro a u hu
 simp only[aM,List.not_mem_nil,or_false] at hu
 rcases hu with rfl|rfl<;>rfl⟩
theorem FB:dx prog 64 233 uy.size:=dx.of (size:=2) (bytes:=24) (z:=.agg #[.int ct 0,.string .empty]) underlying64 η rfl ξ
abbrev sU (B:Nat) (w:World) (v:Value) (l:Γ):Prop:=Own uy 233 B w v l
theorem sU.at {B:Nat} {w:World} {o n c:Nat} {ws:Γ} (h:sU B w (cx (av ⟨o,0,aK⟩) n c) ws) (k:Nat) (H:k<ws.length):
  w.cell? ⟨o,k*2,aK⟩=av (bf ct (ws[k]).1)/\w.cell? ⟨o,k*2+1,aK⟩=av (cu (bs (ws[k]).2)):=by
 have a:=(Own.lies h).at k 0 ξ H _ rfl;have b:=(Own.lies h).at k 1 ξ H _ rfl;rw[bG] at a b;exact⟨a,b⟩
structure gL (w:World) (T:Φ) (tb lb mb:Nat) (vp vb:Value) (ps:Γ) (bl:List Int) (m:Wl.ew):Prop where
 blk:aW w tb 67 [ptr lb,vp,vb,.map (av mb)]
 op:sU 0 w vp ps
 ob:p8 0 w vb bl
 mp:sS w mb m
 fb:T tb
 fm:T mb
 fp:∀k,vp.ownBlock=av k->T k
 fv:∀k,vb.ownBlock=av k->T k
 lt:∀k,T k->k<w.heap.size
 small:∀p∈ps,p.1<=65536/\p.2.length<=512
def Bk (w:World) (T:Φ) (tb lb:Nat) (ps:Γ):Prop:=∃mb vp vb,gL w T tb lb mb vp vb ps (Tx.jd ps) (Tx.dn ps)
namespace gL
variable {w w1:World} {T S:Φ} {tb lb mb:Nat} {vp vb:Value} {ps:Γ} {bl:List Int} {m:Wl.ew}
theorem but (h:gL w T tb lb mb vp vb ps bl m) (H:aE S w w1) (hn:∀k,T k->¬S k):gL w1 T tb lb mb vp vb ps bl m:=
 ⟨h.blk.but H (hn tb h.fb),Own.but h.op H (fun k a=>hn k (h.fp k a)),Own.but h.ob H (fun k a=>hn k (h.fv k a)),h.mp.but H (hn mb h.fm),h.fb,h.fm,h.fp,h.fv,fun k a=>bL (h.lt k a) H.size,h.small⟩
theorem below (h:gL w T tb lb mb vp vb ps bl m) (H:Below w.heap.size w w1):gL w1 T tb lb mb vp vb ps bl m:=h.but (aE.aF H (fun _=>False)) (fun _ _ hf=>hf)
theorem mne (h:gL w T tb lb mb vp vb ps bl m):mb≠tb:=h.mp.dh h.blk
theorem Zr (h:gL w T tb lb mb vp vb ps bl m):vp.ownBlock≠av tb:=Own.dh h.op h.blk ξ
theorem bne (h:gL w T tb lb mb vp vb ps bl m):vb.ownBlock≠av tb:=Own.dh h.ob h.blk ξ
theorem aay (h:gL w T tb lb mb vp vb ps bl m) {k:Nat} (H:vp.ownBlock=av k):vb.ownBlock≠av k:=Own.IU h.op h.ob ξ H
theorem aaz (h:gL w T tb lb mb vp vb ps bl m) {k:Nat} (a:vp.ownBlock=av k):k≠mb:=by intro e;subst e;obtain⟨cur,hc⟩:=Own.typed h.op a;obtain⟨es,clock,H⟩:=h.mp.isMap;rw[hc] at H;cases H
theorem aaA (h:gL w T tb lb mb vp vb ps bl m) {k:Nat} (a:vb.ownBlock=av k):k≠mb:=by intro e;subst e;obtain⟨cur,hc⟩:=Own.typed h.ob a;obtain⟨es,clock,H⟩:=h.mp.isMap;rw[hc] at H;cases H
theorem c0 (h:gL w T tb lb mb vp vb ps bl m):w.cell? ⟨tb,0,aK⟩=av (dr (av ⟨lb,0,aK⟩)):=h.blk.cell rfl
theorem c1 (h:gL w T tb lb mb vp vb ps bl m):w.cell? ⟨tb,1,aK⟩=av vp:=h.blk.cell rfl
theorem c2 (h:gL w T tb lb mb vp vb ps bl m):w.cell? ⟨tb,2,aK⟩=av vb:=h.blk.cell rfl
theorem c3 (h:gL w T tb lb mb vp vb ps bl m):w.cell? ⟨tb,3,aK⟩=av (.map (av mb)):=h.blk.cell rfl
theorem XJ {W a:World} {v v':Value} (h:Below w.heap.size w W) (hg:W.grownBy a v.ownBlock) (c:∀k,v.ownBlock=av k->T k) (b:v'.ownBlock=v.ownBlock\/∀k,v'.ownBlock=av k->W.heap.size<=k):
  aE (fun k=>v.ownBlock=av k) w a/\∀k,v'.ownBlock=av k->T k\/w.heap.size<=k:=by
 refine⟨⟨hg.os.trans h.os,hg.tape.trans h.tape,hg.output.trans h.output,aN h.size hg.size,fun k H hn=>(hg.block k (bL H h.size) (fun e=>hn e.symm)).trans (h.block k H)⟩,fun k H=> ?_⟩;rcases b with e|e;·grind
 ·exact dc (aN h.size (e k H))
theorem spot {W a:World} {v:Value} (h:gL w T tb lb mb vp vb ps bl m) (b:Below w.heap.size w W) (hg:W.grownBy a v.ownBlock) (H:v.ownBlock≠av tb) (c:∀k,v.ownBlock=av k->T k):aW a tb 67 [ptr lb,vp,vb,.map (av mb)]/\Below w.heap.size w W:=by obtain⟨d,_⟩:=XJ (v':=v) b hg c (cS rfl);exact⟨h.blk.but d H,b⟩
theorem Ld {W a:World} {Q:Value} {OV:List Int} (h:gL w T tb lb mb vp vb ps bl m) (f:Below w.heap.size w W) (c:p8 0 a Q OV) (hg:W.grownBy a vb.ownBlock) (g:Q.ownBlock=vb.ownBlock\/∀k,Q.ownBlock=av k->W.heap.size<=k):
  gL (a.setCell ⟨tb,2,aK⟩ Q) (fun k=>T k\/Q.ownBlock=av k) tb lb mb vp Q ps OV m/\b9 T w (fun k=>T k\/Q.ownBlock=av k) (a.setCell ⟨tb,2,aK⟩ Q):=by
 obtain⟨b,hn⟩:=XJ f hg h.fv g;have b1:aW a tb 67 [ptr lb,vp,vb,.map (av mb)]:=h.blk.but b h.bne;have A:aE (· =tb) a (a.setCell ⟨tb,2,aK⟩ Q):=(aE.refl _ a).setCell _ _ (fun _=>rfl);have d:Q.ownBlock≠av tb:=Own.dh c b1 ξ;refine⟨⟨b1.set 2 Q,Own.but (Own.but h.op b (fun k H e=>h.aay H e)) A (fun k H e=>h.Zr (e▸H)),Own.but c A (fun k H e=>d (e▸H)),(h.mp.but b (fun e=>h.aaA e rfl)).but A h.mne,cS h.fb,cS h.fm,fun k H=>cS (h.fp k H),fun k H=>dc H,fun k H=> ?_,h.small⟩, ?_, ?_⟩
 ·show k<(a.setCell _ _).heap.size;rw[World.size_setCell];rcases H with H|H;·exact bL (h.lt k H) b.size
  ·exact (Own.block c k H).2
 ·exact (b.mono (fun k _ e=>h.fv k e)).trans A (fun k _ e=>e▸h.fb)
 ·rintro k (H|H);·exact cS H
  ·exact hn k H
theorem Le {W a:World} {Q:Value} {ps':Γ} (h:gL w T tb lb mb vp vb ps bl m) (f:Below w.heap.size w W) (c:sU 0 a Q ps') (hg:W.grownBy a vp.ownBlock) (g:Q.ownBlock=vp.ownBlock\/∀k,Q.ownBlock=av k->W.heap.size<=k) (hs:∀p∈ps',p.1<=65536/\p.2.length<=512):
  gL (a.setCell ⟨tb,1,aK⟩ Q) (fun k=>T k\/Q.ownBlock=av k) tb lb mb Q vb ps' bl m/\b9 T w (fun k=>T k\/Q.ownBlock=av k) (a.setCell ⟨tb,1,aK⟩ Q):=by
 obtain⟨b,hn⟩:=XJ f hg h.fp g;have b1:aW a tb 67 [ptr lb,vp,vb,.map (av mb)]:=h.blk.but b h.Zr;have A:aE (· =tb) a (a.setCell ⟨tb,1,aK⟩ Q):=(aE.refl _ a).setCell _ _ (fun _=>rfl);have d:Q.ownBlock≠av tb:=Own.dh c b1 ξ;refine⟨⟨b1.set 1 Q,Own.but c A (fun k H e=>d (e▸H)),Own.but (Own.but h.ob b (fun k H e=>h.aay e H)) A (fun k H e=>h.bne (e▸H)),(h.mp.but b (fun e=>h.aaz e rfl)).but A h.mne,cS h.fb,cS h.fm,fun k H=>dc H,fun k H=>cS (h.fv k H),fun k H=> ?_,hs⟩, ?_, ?_⟩
 ·show k<(a.setCell _ _).heap.size;rw[World.size_setCell];rcases H with H|H;·exact bL (h.lt k H) b.size
  ·exact (Own.block c k H).2
 ·exact (b.mono (fun k _ e=>h.fp k e)).trans A (fun k _ e=>e▸h.fb)
 ·rintro k (H|H);·exact cS H
  ·exact hn k H
theorem map' {W:World} {M:Wl.ew} (h:gL w T tb lb mb vp vb ps bl m) (b:sS W mb M) (a:aE (fun k=>k=mb) w W):gL W T tb lb mb vp vb ps bl M/\b9 T w T W:=
 ⟨⟨h.blk.but a (fun e=>h.mne e.symm),Own.but h.op a (fun _ H e=>h.aaz H e),Own.but h.ob a (fun _ H e=>h.aaA H e),b,h.fb,h.fm,h.fp,h.fv,fun k H=>bL (h.lt k H) a.size,h.small⟩,a.mono (fun _ _ e=>e▸h.fm),fun _ H=>cS H⟩
end gL
theorem Bk.but {S:Φ} {w w1:World} {T:Φ} {tb lb:Nat} {ps:Γ} (h:Bk w T tb lb ps) (H:aE S w w1) (hn:∀k,T k->¬S k):Bk w1 T tb lb ps:=by obtain⟨mb,vp,vb,h⟩:=h;exact⟨mb,vp,vb,h.but H hn⟩
theorem Bk.lt {w:World} {T:Φ} {tb lb:Nat} {ps:Γ} (h:Bk w T tb lb ps):∀k,T k->k<w.heap.size:=by obtain⟨_,_,_,h⟩:=h;exact h.lt
theorem Jj (w:World) (lb:Nat):
  Calls prog 9 #[ptr lb] w fun e w'=>∃tb T,e=c8 (ptr tb)/\Bk w' T tb lb []/\(∀k,T k->w.heap.size<=k)/\Below w.heap.size w w':=by
 have a:=@run_makeMap prog;go_enter func9,ntmps9;unfold ptr;go_wp2;go_ret;have H:=aW.new (w.alloc (.map #[] 0)) #[dr (av ⟨lb,0,aK⟩),cx aK 0 0,cx aK 0 0,.map (av w.heap.size)] 67;rw[aY] at H;refine⟨w.heap.size+1,fun k=>k=w.heap.size\/k=w.heap.size+1,rfl,⟨w.heap.size,cx aK 0 0,cx aK 0 0,H,Own.nil _ _ _ _,Own.nil _ _ _ _,(eW.made _ _ _ _).kept (World.grownBy_alloc _ _ aK) ν,dc rfl,cS rfl,fun k h=>(by simp[Value.ownBlock] at h),fun k h=>(by simp[Value.ownBlock] at h),fun k h=>zay,fun p hp=>by cases hp⟩,fun k h=>κ, ?_⟩;exact ((Below.refl _ w).alloc (af _) _).alloc ν _
theorem uz (w:World) (T:Φ) (tb lb:Nat) (ps:Γ) (h:Bk w T tb lb ps):
  Calls prog 123 #[ptr tb] w fun e w'=>e=c8 (bf ct ps.length)/\w'=w:=by
 obtain⟨mb,vp,vb,h⟩:=h;have c1:=h.c1;obtain⟨a,c,H,_⟩:=Own.slice h.op;subst H;clear h;go_enter func123,ntmps123;exact zaq
def FC (w:World) (lb n:Nat):Prop:=∃F g s,Log w F lb g s/\s.off=false/\s.homes=n
theorem lF (w:World) (T:Φ) (tb lb n:Nat) (ps:Γ) (h:Bk w T tb lb ps) (hl:FC w lb n):
  Calls prog 145 #[ptr tb] w fun e w'=>e=c8 (ey false)/\w'=w:=by
 obtain⟨mb,vp,vb,h⟩:=h;obtain⟨F,g,s,H,a,_⟩:=hl;have c0:=h.c0;have b:=aa H;clear h H;go_enter func145,ntmps145;unfold ptr;go_wp2_with fail;refine (B4 w F lb g s b.o).mono ?_;rintro e w1 ⟨rfl,rfl⟩;rw[a];go_wp2;go_ret;exact⟨rfl,rfl⟩
theorem FE (w:World) (T:Φ) (tb lb n:Nat) (ps:Γ) (h:Bk w T tb lb ps) (hl:FC w lb n):
  Calls prog 178 #[ptr tb] w fun e w'=>e=c8 (bf ct n)/\w'=w:=by
 obtain⟨mb,vp,vb,h⟩:=h;obtain⟨F,g,s,H,_,rfl⟩:=hl;have c0:=h.c0;have a:=aa H;clear h H;go_enter func178,ntmps178;unfold ptr;go_wp2_with fail;refine (q8 w F lb g s a.o).mono ?_;rintro e w1 ⟨rfl,rfl⟩;go_wp2;go_ret;exact⟨rfl,rfl⟩
theorem Jk (w:World) (T:Φ) (tb lb:Nat) (ps:Γ) (i:Nat) (h:Bk w T tb lb ps) (hi:i<=65536):
  Calls prog 147 #[ptr tb,bf ct i] w fun e w'=>e=c8 (bf ct (Tx.iU (Tx.dn ps) i))/\w'=w:=by
 obtain⟨mb,vp,vb,h⟩:=h;have c3:=h.c3;have c:=aa h;clear h;rcases Tx.ow i ps with⟨H,-⟩|⟨k,d,H,-,-⟩;·have a:=sS.eH c.o.mp κ H;have b:=aa (show Tx.iU (Tx.dn ps) i=-1 by unfold Tx.iU;rw[H]);clear H;go_enter func147,ntmps147;unfold ptr;go_wp2;go_ret;exact⟨by rw[b.o];rfl,rfl⟩
 ·have a:=sS.jI c.o.mp κ H;have b:=aa (show Tx.iU (Tx.dn ps) i=(k:Int) by unfold Tx.iU;rw[H];simp[Tx.ig]);clear H d;go_enter func147,ntmps147;unfold ptr;go_wp2;go_ret;exact⟨by rw[b.o];rfl,rfl⟩
end
section
open Go.RowKit Lib
theorem FF (s:ByteArray) (w:World) (H:s.size<=1000000):
  Calls prog 144 #[.string s] w fun e w'=>e=c8 (.string s)/\Below w.heap.size w w':=by
 by_cases i:s.size=0
 ·have hs:s=⟨#[]⟩:=by apply ByteArray.ext;exact Array.eq_empty_of_size_eq_zero i
  subst hs;go_enter func144,ntmps144;go_wp2;go_ret;exact⟨rfl,Below.refl _ _⟩
 ·have h:(prog.info? 5).map (·.size)=av 1:=by kernel_rfl
  have b:prog.cellsOf 5=1:=η
  obtain⟨M,c⟩:=ξx ((aV s.size (Value.int eD 0)).toArray);have n:M.size=s.size:=by rw[c];simp
  have d:=fun W:World=>yG W s.size H;rw[<-c] at d;clear c;have B:=Lib.run_copy_row_string (P:=prog) (w.alloc (dg M 5)) 151 9 3 5 w.heap.size 0 s.size s.size s M 5 underlying151 h (heap_alloc_new w _) (af _) κ;obtain⟨Y,l⟩:=ξx ((M.toList.take 0++Lib.byteCells s.data.toList++M.toList.drop (0+s.size)).toArray);rw[<-l] at B;have m:Y.toList=Lib.byteCells s.data.toList:=by simp_all
  have o:Y.size=s.size:=by rw[<-aU,m,Lib.byteCells_length,<-Lib.size_eq]
  have a:((w.alloc (dg M 5)).setRow w.heap.size Y).heap[w.heap.size]?=av (dg Y 5 (0,0)):=setRow_heap _ _ M _ 5 (0,0) (heap_alloc_new w _);have f:s.data.toList≠[]:=fun e=>i (by rw[Lib.size_eq,e];rfl)
  have g:=Lib.run_unsafeString_row (P:=prog) ((w.alloc (dg M 5)).setRow w.heap.size Y) 276 3 9 5 underlying276 b w.heap.size Y.size (by unfold World.shape?;rw[a]) s.data.toList f (by rw[<-Lib.size_eq];omega) (by rw[<-Lib.size_eq];omega)
   (fun j x q=>Lib.cells_of_row a Y.size j _ (by rw[bD zaQ,m];simp[Lib.byteCells,q]))
  rw[<-Lib.size_eq] at g;clear l;go_enter func144,ntmps144;go_wp2;go_ret;have A:Below w.heap.size w (w.alloc (dg M 5)):=(Below.refl _ w).alloc (af _) _;have r:Below w.heap.size (w.alloc (dg M 5)) ((w.alloc (dg M 5)).setRow w.heap.size Y):=⟨rfl,rfl,rfl,ν,fun k t=>setRow_other _ _ _ _ κ⟩;exact⟨rfl,Lib.below_freeze (A.trans r) (p:=⟨w.heap.size,0,aK⟩) (af _) _⟩
theorem jM (s:ByteArray) (w:World) (h:s.size<=1000000):
  Calls prog 93 #[cu s] w fun e w'=>e=c8 (cu s)/\Below w.heap.size w w':=by
 go_enter func93,ntmps93;go_wp2_with fail;refine (FF s w h).mono ?_;rintro e w1 ⟨rfl,H⟩;have a:=aa H;clear H;go_wp2;go_ret;exact⟨rfl,a.o⟩
theorem Ut (w:World):(zeroValue 140).run prog w=.ok (ctext zeros) w:=η
theorem QL (w:World) (c:Nat):(Instr.sliceAt 140 (dr (av ⟨c,0,aK⟩)) aK aK aK).run prog w=.ok (cx (av ⟨c,0,aK⟩) 512 512) w:=by
 have e:prog.arrayLen 140=512:=η
 have E:prog.elem 140=5:=η
 have a:=run_sliceAt_array_all (P:=prog) w 140 ⟨c,0,aK⟩ (by rw[e,E];kernel_rfl);rw[a,e,E];show ((sizeOf 5).run prog w).andThen _=_;rw[sizeOf5];simp[go_sem,Addr.add]
theorem Uu {w:World} {c:Nat} {t:List UInt8} (h:aW w c 140 (t.map bU)) (H:t.length=512):(convert 151 9 (cx (av ⟨c,0,aK⟩) 512 512)).run prog w=.ok (cu (bs t)) w:=by
 have:=run_convert_bytes_back (P:=prog) w 151 9 5 ⟨c,0,aK⟩ 512 t η η η (by
  intro i hi;rw[wk];refine h.cell ?_;rw[cY,aI hi];rfl)
 rw[H] at this;exact this
theorem Jl (s:ByteArray) (w:World) (hs:s.size<=512):
  Calls prog 222 #[.string s] w fun e w'=>e=c8 (.string (bs (Dk.full s.data.toList)))/\Below w.heap.size w w':=by
 obtain⟨Z,c⟩:=ξx ((zeros.map bU).toArray);have p:∀w,(zeroValue 140).run prog w=.ok (.agg Z) w:=fun w=>by rw[c];exact Ut w
 have h:Z.size=512:=by rw[c];simp[jJ]
 have i:¬Z=#[]:=by intro e;rw[e] at h;cases h
 have j:=aa c;have f:=aa hs;clear c hs;obtain⟨q,l⟩:∃q,w.heap.size=q:=⟨_,rfl⟩;obtain⟨V,H⟩:=ξx (w.alloc (dg Z 140))
 have a:=aa (show aW V q 140 (zeros.map bU)/\Below w.heap.size w V by
  have g:=aW.new w Z 140;rw[l,<-H,j.o] at g;exact⟨g,by rw[H];exact (Below.refl _ _).alloc (af _) _⟩)
 have z:=fun W=>QL W q;go_enter func222,ntmps222;go_wp2_with (refine py rfl _ _ _ _ rfl 5 underlying151 η q 512 512 s rfl rfl (zeros.map bU).toArray 140 (by first|exact a.o.1|(rw[<-H];exact a.o.1)) f.o (by have:=f.o;simp[jJ];exact this) ?_;refine Hid.o ?_);refine aa ?_;try rw[<-H]
 obtain⟨Y,d⟩:=ξx (V.setRow q (strCells s++List.drop s.size (List.map bU zeros)).toArray);rw[<-d];have O:aE (fun k=>k=q) V Y:=by rw[d];exact (aE.refl _ _).setRow _ _ (fun _=>rfl)
 have b:aW Y q 140 ((Dk.full s.data.toList).map bU):=by rw[d,<-Fw s];exact setRow_heap V q _ _ _ _ a.o.1
 have m:=Uu b (Dk.fC _ (by rw[aU];exact f.o));have n:=aa (show Below w.heap.size w Y from Below.but a.o.2 O a.o.2.size (fun k r e=>κ));clear d H b O;go_wp2;go_ret;exact⟨rfl,n.o⟩
end
section
open Go.RowKit Go.Maps Lib
theorem Uv (k:Nat):Bj.enc (Tx.un k)=bf ct (k:Int):=by show Value.int ct ((Tx.un k).length:Nat)=_;rw[Tx.ig]
theorem zy (w:World) (i:Nat) (t:ByteArray):bg uy (w.alloc (dg #[bf ct i,cu t] 233)) w.heap.size 0 [(i,t.data.toList)]:=
 bg.dZ (aW.new w #[bf ct i,cu t] 233) rfl
theorem Jm (w:World) (T:Φ) (tb lb n:Nat) (ps:Γ) (i:Nat) (s:ByteArray) (h:Bk w T tb lb ps) (hl:FC w lb n) (hi:i<n) (hn:n<=65536) (hs:s.size<=512) (hp:ps.length<=90000000):
  Calls prog 94 #[ptr tb,bf ct i,cu s] w fun e w'=>e=c8 (bf ct 0)/\∃T',Bk w' T' tb lb (ps++[(i,s.data.toList)])/\b9 T w T' w':=by
 have HP:=aa h;have HA:=aa hl;obtain⟨F,g,sl,hL,ho,Uw⟩:=hl;have HL:=aa hL;obtain⟨mb,vp,vb,U⟩:=h;obtain⟨A,cp,Z,_⟩:=Own.slice U.op;subst Z;have c0:=U.c0;have b:=aa U;have l:=aa (And.intro hs (And.intro hi (And.intro hn hp)));have A7:¬(s.size:Int)>512:=κ
 have QD:¬(n:Int)<=i:=κ
 have hi0:¬(i:Int)<0:=κ
 clear hL U;go_enter func94,ntmps94;go_wp2_with fail;refine (lF w T tb lb n ps HP.o HA.o).mono ?_;rintro e w1 ⟨rfl,rfl⟩;unfold ptr;go_wp2_with fail;refine (q8 w1 F lb g sl HL.o).mono ?_;rintro e a ⟨rfl,rfl⟩;rw[Uw];have c2:a.cell? ⟨tb,2,aK⟩=av vb:=b.o.c2;have c2d:a.drew.cell? ⟨tb,2,aK⟩=av vb:=b.o.c2;obtain⟨B,Hy⟩:=ξx (Tx.iU (Tx.dn ps) i);have HBf:=aa Hy;have Wg:=Jk a.drew T tb lb ps i (show Bk a.drew T tb lb ps from HP.o.but ((aE.refl (fun _=>False) a).drew) (fun _ _ h=>h)) κ;rw[<-Hy] at Wg;have Zs:=aa Wg;have hlt:tb<a.heap.size:=b.o.lt tb b.o.fb;have c2a:(a.drew.alloc (dg #[bf ct B] 3)).cell? ⟨tb,2,aK⟩=av vb:=(b.o.blk.drew.alloc _).cell rfl;clear Wg Hy ho;go_wp2_with (refine wp_region_any η ?_;refine Hid.o ?_);refine aa ?_;try (change wpAny _ _ _ _ _ _ _ (bu _))
 refine tk 0 ?_;refine tk 1 ?_;refine tk 2 ?_;refine tk 3 ?_;refine tk 5 ?_;refine tk 6 ?_;refine rd [4,7] (AllReady.cons rfl (fun K H=> ?_) (rn fun K H=> ?_))
 focus (
  go_simp
  refine H _ _ ?_;clear H K
  refine rd [7] (rn fun K H=> ?_)
  go_simp
  refine Zs.o.mono ?_;rintro e w3 ⟨rfl,rfl⟩
  refine H _ _ ?_;clear H K
  refine rd [8] (rn fun K H=> ?_)
  go_simp
  refine H _ _ ?_;clear H K
  refine rd [9] (rn fun K H=> ?_)
  refine ia Qs _ _ rfl rfl (Own.alloc (show p8 0 a.drew vb (Tx.jd ps) from b.o.ob) _) (aA _) a.heap.size 0 1 1 [B] rfl rfl (zl a.drew B) (by have:=l.o.2.2.2;rw[Tx.cR];omega) ?_;intro v4 w4 G iE QM
  refine H _ _ ?_;clear H K
  have O:=b.o.Ld (W:=a.drew.alloc (dg #[bf ct B] 3)) ((Below.refl _ a).drew.alloc (af _) _) G iE QM
  obtain⟨I,C,r,_⟩:=Own.slice G
  generalize (Tx.jd ps++[B]).length=N at r
  have E:=b.o.spot (W:=a.drew.alloc (dg #[bf ct B] 3)) ((Below.refl _ a).drew.alloc (af _) _) iE b.o.bne b.o.fv
  have z:=E.1.cell (j:=2) rfl
  have D:=E.1.frozen 2
  subst r
  have V:=aa O
  clear G iE QM O E
  refine tk 10 ?_
  refine tk 11 ?_
  refine rd [12] (rn fun K H=> ?_)
  go_simp
  refine H _ _ ?_;clear H K
  refine wpAny_done η ?_ _
 )
 rotate_left
 focus (
  go_simp
  refine Zs.o.mono ?_
  rintro e w3 ⟨rfl,rfl⟩
  refine H _ _ ?_;clear H K
  refine rd [4,8] (AllReady.cons rfl (fun K H=> ?_) (rn fun K H=> ?_))
  focus (
   go_simp
   refine H _ _ ?_;clear H K
   refine rd [8] (rn fun K H=> ?_)
   go_simp
   refine H _ _ ?_;clear H K
   refine rd [9] (rn fun K H=> ?_)
   refine ia Qs _ _ rfl rfl (Own.alloc (show p8 0 a.drew vb (Tx.jd ps) from b.o.ob) _) (aA _) a.heap.size 0 1 1 [B] rfl rfl (zl a.drew B) (by have:=l.o.2.2.2;rw[Tx.cR];omega) ?_;intro v4 w4 G iE QM
   refine H _ _ ?_;clear H K
   have O:=b.o.Ld (W:=a.drew.alloc (dg #[bf ct B] 3)) ((Below.refl _ a).drew.alloc (af _) _) G iE QM
   obtain⟨I,C,r,_⟩:=Own.slice G
   generalize (Tx.jd ps++[B]).length=N at r
   have E:=b.o.spot (W:=a.drew.alloc (dg #[bf ct B] 3)) ((Below.refl _ a).drew.alloc (af _) _) iE b.o.bne b.o.fv
   have z:=E.1.cell (j:=2) rfl
   have D:=E.1.frozen 2
   subst r
   have V:=aa O
   clear G iE QM O E
   refine tk 10 ?_
   refine tk 11 ?_
   refine rd [12] (rn fun K H=> ?_)
   go_simp
   refine H _ _ ?_;clear H K
   refine wpAny_done η ?_ _
  )
  rotate_left
  focus (
   go_simp
   refine H _ _ ?_;clear H K
   refine rd [4] (rn fun K H=> ?_)
   go_simp
   refine H _ _ ?_;clear H K
   refine rd [9] (rn fun K H=> ?_)
   refine ia Qs _ _ rfl rfl (Own.alloc (show p8 0 a.drew vb (Tx.jd ps) from b.o.ob) _) (aA _) a.heap.size 0 1 1 [B] rfl rfl (zl a.drew B) (by have:=l.o.2.2.2;rw[Tx.cR];omega) ?_;intro v4 w4 G iE QM
   refine H _ _ ?_;clear H K
   have O:=b.o.Ld (W:=a.drew.alloc (dg #[bf ct B] 3)) ((Below.refl _ a).drew.alloc (af _) _) G iE QM
   obtain⟨I,C,r,_⟩:=Own.slice G
   generalize (Tx.jd ps++[B]).length=N at r
   have E:=b.o.spot (W:=a.drew.alloc (dg #[bf ct B] 3)) ((Below.refl _ a).drew.alloc (af _) _) iE b.o.bne b.o.fv
   have z:=E.1.cell (j:=2) rfl
   have D:=E.1.frozen 2
   subst r
   have V:=aa O
   clear G iE QM O E
   refine tk 10 ?_
   refine tk 11 ?_
   refine rd [12] (rn fun K H=> ?_)
   go_simp
   refine H _ _ ?_;clear H K
   refine wpAny_done η ?_ _
  )
 )
 all_goals (
  obtain⟨X,hX⟩:=ξx (w4.setCell ⟨tb,2,aK⟩ (cx I N C))
  rw[<-hX] at V |-
  clear hX z D
  obtain⟨J,M⟩:∃J,Hid (gL X J tb lb mb (cx A ps.length cp) (cx I N C) ps (Tx.jd ps++[B]) (Tx.dn ps)/\b9 T a J X):=⟨_,V⟩
  have d1:X.drew.cell? ⟨tb,1,aK⟩=av (cx A ps.length cp):=M.o.1.c1
  have d3:X.drew.cell? ⟨tb,3,aK⟩=av (.map (av mb)):=M.o.1.c3
  obtain⟨d,P,Q,gX⟩:=eW.Qm (T:=63) (show sS X.drew mb (Tx.dn ps) from M.o.1.mp.but ((aE.refl (fun _=>False) X).drew) id) gB kT (by have:=Tx.BT ps;have:=l.o.2.2.2;omega) (k:=i) (by have:=l.o;omega) (t:=Tx.un ps.length) (by show Tx.un _=Tx.un (Tx.un _).length;rw[Tx.ig])
  rw[Uv] at P
  have H5:=aa (And.intro Q gX)
  clear Q gX
  go_wp2
  go_still_tail 10,η
  change wpList _ _ _ _ _ X.drew
  have c:=aa (show gL d J tb lb mb (cx A ps.length cp) (cx I N C) ps (Tx.jd ps++[B]) (Wl.ins i (Tx.un ps.length) (Tx.dn ps))/\b9 T a J d by
   have dW:aE (fun k=>k=mb) X d:=((aE.refl _ X).drew).trans (aE.dK H5.o.2) (fun k _ e=>zaM);have hm:=M.o.1.map' H5.o.1 dW;exact⟨hm.1,M.o.2.trans hm.2⟩)
  clear d1 d3
  have f0:d.drew.cell? ⟨tb,1,aK⟩=av (cx A ps.length cp):=c.o.1.c1
  have HC:=aa (jM s d.drew (by have:=l.o;omega))
  go_wp2_with (refine wp_region_any η ?_;refine Hid.o ?_)
  refine aa ?_
  try (change wpAny _ _ _ _ _ _ _ (bu _))
  refine tk 0 ?_
  refine tk 1 ?_
  refine tk 2 ?_
  refine tk 3 ?_
  refine tk 5 ?_
  refine tk 6 ?_
  refine rd [4,7] (AllReady.cons rfl (fun K H=> ?_) (rn fun K H=> ?_))
  focus (
   go_simp
   refine H _ _ ?_;clear H K
   refine rd [7] (rn fun K H=> ?_)
   go_simp
   refine HC.o.mono ?_;rintro e f ⟨rfl,R⟩;have m:=aa (((Below.refl _ d).drew).trans R);clear R
   refine H _ _ ?_;clear H K
   refine tk 8 ?_
   refine rd [9] (rn fun K H=> ?_)
   go_simp
   refine H _ _ ?_;clear H K
   refine rd [10] (rn fun K H=> ?_)
   refine ia FB _ _ rfl rfl (Own.alloc (c.o.1.below m.o).op _) (aA _) f.heap.size 0 1 1 [(i,s.data.toList)] rfl rfl (zy f i s) (by have:=l.o.2.2.2;omega) ?_;intro v8 w8 q L u
   refine H _ _ ?_;clear H K
   have v:=aa (show Below d.heap.size d (f.alloc (dg #[bf ct i,cu s] 233)) from m.o.alloc m.o.size _)
   have x:=c.o.1.Le v.o q L u (fun p hp=>by
    rcases ah.1 hp with hp|hp;·exact b.o.small p hp
    ·obtain rfl:=bB.1 hp;have:=l.o;refine⟨by show i<=65536;omega, ?_⟩;show s.data.toList.length<=512;rw[aU];exact this.1)
   obtain⟨a8,S,y,_⟩:=Own.slice q
   generalize (ps++[(i,s.data.toList)]).length=N8 at y
   have E:=c.o.1.spot v.o L c.o.1.Zr c.o.1.fp
   have z:=E.1.cell (j:=1) rfl
   have D:=E.1.frozen 1
   subst y
   have Y:=aa x
   clear q L u x E
   refine tk 11 ?_
   refine tk 12 ?_
   refine rd [13] (rn fun K H=> ?_)
   go_simp
   refine H _ _ ?_;clear H K
   refine wpAny_done η ?_ _
  )
  rotate_left
  focus (
   go_simp
   refine HC.o.mono ?_
   rintro e f ⟨rfl,R⟩
   have m:=aa (((Below.refl _ d).drew).trans R)
   clear R
   refine H _ _ ?_;clear H K
   refine tk 8 ?_
   have f1:f.cell? ⟨tb,1,aK⟩=av (cx A ps.length cp):=(c.o.1.below m.o).c1
   have f2:(f.alloc (dg #[bf ct i,cu s] 233)).cell? ⟨tb,1,aK⟩=av (cx A ps.length cp):=((c.o.1.below m.o).below ((Below.refl _ f).alloc (af _) _)).c1
   refine rd [4,9] (AllReady.cons rfl (fun K H=> ?_) (rn fun K H=> ?_))
   focus (
    go_simp
    refine H _ _ ?_;clear H K
    refine rd [9] (rn fun K H=> ?_)
    go_simp
    refine H _ _ ?_;clear H K
    refine rd [10] (rn fun K H=> ?_)
    refine ia FB _ _ rfl rfl (Own.alloc (c.o.1.below m.o).op _) (aA _) f.heap.size 0 1 1 [(i,s.data.toList)] rfl rfl (zy f i s) (by have:=l.o.2.2.2;omega) ?_;intro v8 w8 q L u
    refine H _ _ ?_;clear H K
    have v:=aa (show Below d.heap.size d (f.alloc (dg #[bf ct i,cu s] 233)) from m.o.alloc m.o.size _)
    have x:=c.o.1.Le v.o q L u (fun p hp=>by
     rcases ah.1 hp with hp|hp;·exact b.o.small p hp
     ·obtain rfl:=bB.1 hp;have:=l.o;refine⟨by show i<=65536;omega, ?_⟩;show s.data.toList.length<=512;rw[aU];exact this.1)
    obtain⟨a8,S,y,_⟩:=Own.slice q
    generalize (ps++[(i,s.data.toList)]).length=N8 at y
    have E:=c.o.1.spot v.o L c.o.1.Zr c.o.1.fp
    have z:=E.1.cell (j:=1) rfl
    have D:=E.1.frozen 1
    subst y
    have Y:=aa x
    clear q L u x E
    refine tk 11 ?_
    refine tk 12 ?_
    refine rd [13] (rn fun K H=> ?_)
    go_simp
    refine H _ _ ?_;clear H K
    refine wpAny_done η ?_ _
   )
   rotate_left
   focus (
    go_simp
    refine H _ _ ?_;clear H K
    refine rd [4] (rn fun K H=> ?_)
    go_simp
    refine H _ _ ?_;clear H K
    refine rd [10] (rn fun K H=> ?_)
    refine ia FB _ _ rfl rfl (Own.alloc (c.o.1.below m.o).op _) (aA _) f.heap.size 0 1 1 [(i,s.data.toList)] rfl rfl (zy f i s) (by have:=l.o.2.2.2;omega) ?_;intro v8 w8 q L u
    refine H _ _ ?_;clear H K
    have v:=aa (show Below d.heap.size d (f.alloc (dg #[bf ct i,cu s] 233)) from m.o.alloc m.o.size _)
    have x:=c.o.1.Le v.o q L u (fun p hp=>by
     rcases ah.1 hp with hp|hp;·exact b.o.small p hp
     ·obtain rfl:=bB.1 hp;have:=l.o;refine⟨by show i<=65536;omega, ?_⟩;show s.data.toList.length<=512;rw[aU];exact this.1)
    obtain⟨a8,S,y,_⟩:=Own.slice q
    generalize (ps++[(i,s.data.toList)]).length=N8 at y
    have E:=c.o.1.spot v.o L c.o.1.Zr c.o.1.fp
    have z:=E.1.cell (j:=1) rfl
    have D:=E.1.frozen 1
    subst y
    have Y:=aa x
    clear q L u x E
    refine tk 11 ?_
    refine tk 12 ?_
    refine rd [13] (rn fun K H=> ?_)
    go_simp
    refine H _ _ ?_;clear H K
    refine wpAny_done η ?_ _
   )
  )
  all_goals (
   go_wp2
   go_ret
   exact⟨rfl,_,⟨mb,_,_,by rw[Tx.vU,Tx.iN,<-HBf.o];exact Y.o.1⟩,c.o.2.trans Y.o.2⟩
  )
 )
theorem Jo (w:World) (T:Φ) (tb lb n:Nat) (ps:Γ) (i:Int) (s:ByteArray) (h:Bk w T tb lb ps) (hl:FC w lb n) (c:Int)
  (hc:(c=2/\(i<0\/(n:Int)<=i))\/(c=5/\0<=i/\i<n/\512<s.size)):
  Calls prog 94 #[ptr tb,bf ct i,cu s] w fun e w'=>e=c8 (bf ct c)/\w'=w:=by
 have f:=aa h;have j:=aa hl;obtain⟨F,g,sl,H,k,U⟩:=hl;have a:=aa H;obtain⟨mb,vp,vb,b⟩:=h;have c0:=b.c0;clear H b;go_enter func94,ntmps94;go_wp2_with fail;refine (lF w T tb lb n ps f.o j.o).mono ?_;rintro e w1 ⟨rfl,rfl⟩;unfold ptr;rcases hc with⟨rfl,hc⟩|⟨rfl,l,m,h3⟩
 ·by_cases d:i<0;·go_wp2;go_ret;exact⟨rfl,rfl⟩
  ·have hn:(n:Int)<=i:=hc.resolve_left d;go_wp2_with fail;refine (q8 w1 F lb g sl a.o).mono ?_;rintro e W ⟨rfl,rfl⟩;rw[U];go_wp2;go_ret;exact⟨rfl,rfl⟩
 ·have d:¬i<0:=by omega
  have h4:¬(n:Int)<=i:=κ
  have p:(s.size:Int)>512:=κ
  go_wp2_with fail;refine (q8 w1 F lb g sl a.o).mono ?_;rintro e W ⟨rfl,rfl⟩;rw[U];go_wp2;go_ret;exact⟨rfl,rfl⟩
end
section
open Go.RowKit Lib
section
variable {α:Type} {K:Elem α} {P:Program} {E T B:Nat} {w:World} {l:List α}
theorem Own.upto {g n cap:Nat} (h:Own K E B w (cx (av ⟨g,0,aK⟩) n cap) l) (k:Nat) (H:k<=l.length):Own K E B w (cx (av ⟨g,0,aK⟩) k cap) (l.take k):=by
 have hl:(l.take k).length=k:=by rw[aJ,bT H]
 refine⟨by rw[K.cm], ?_⟩;rcases h.2 with⟨e,_⟩|⟨G,c,cur,e,a,hh,hc,b,hs,d⟩;·cases e
 ·injection e with e1 e2 e3;injection e1 with e1;injection e1 with e1;subst e1 e2 e3;refine dc ⟨g,cap,cur,by rw[hl],a,hh,by rw[hl];omega,b,hs, ?_⟩;rw[hl,K.yB,<-d,List.take_take,bT (Nat.mul_le_mul_right _ H)]
theorem Own.behind {g n cap:Nat} (h:Own K E B w (cx (av ⟨g,0,aK⟩) n cap) l) (j:Nat) (u:Value) (H:l.length*K.size<=j):Own K E B (w.setCell ⟨g,j,aK⟩ u) (cx (av ⟨g,0,aK⟩) n cap) l:=by
 refine⟨h.1, ?_⟩;rcases h.2 with⟨e,_⟩|⟨G,c,cur,e,a,hh,hc,b,hs,d⟩;·cases e
 ·injection e with e1 e2 e3;injection e1 with e1;injection e1 with e1;subst e1 e2 e3;refine dc ⟨g,cap,cur.setIfInBounds j u,rfl,a,heap_setCell_same w g j cur E u hh,hc,b,by rw[Array.size_setIfInBounds];exact hs, ?_⟩;rw[Array.toList_setIfInBounds,List.take_set_of_le H];exact d
theorem Own.cleared {g n cap:Nat}:∀(vs:List Value) (w:World) (j:Nat),Own K E B w (cx (av ⟨g,0,aK⟩) n cap) l->l.length*K.size<=j->Own K E B (w.setCells g j vs) (cx (av ⟨g,0,aK⟩) n cap) l/\aE (fun k=>k=g) w (w.setCells g j vs)
 |[],w,_,h,_=>⟨h,aE.refl _ _⟩
 |v::vs,w,j,h,hj=>by
  have:=Own.cleared vs (w.setCell ⟨g,j,aK⟩ v) (j+1) (Own.behind h j v hj) κ;exact⟨this.1,((aE.refl (fun k=>k=g) w).setCell ⟨g,j,aK⟩ v (fun _=>rfl)).trans this.2 (fun _ _ e=>e)⟩
theorem Own.spare {g n cap:Nat} (h:Own K E B w (cx (av ⟨g,0,aK⟩) n cap) l) (j:Nat) (H:j<cap*K.size):(w.cell? ⟨g,j,aK⟩).isSome=true/\w.frozen? ⟨g,j,aK⟩=false:=by
 rcases h.2 with⟨e,_⟩|⟨G,c,cur,e,a,hh,hc,b,hs,d⟩;·cases e
 ·injection e with e1 e2 e3;injection e1 with e1;injection e1 with e1;subst e1 e2 e3;have Z:j<cur.size:=by omega
  constructor;·simp[World.cell?,hh,Z]
  ·simp[World.frozen?,hh]
theorem xw (S:dx P T E K.size) {o:Oper} {a:Act} {K':Act->Ψ} {Q:Exit->Act->Ψ} (s x:Operand)
  (e:o.op=.call {callee:=.builtin .append,args:=#[s,x],argTypes:=#[T,T]}) (g k cap:Nat)
  (hs:a.eval s=cx (av ⟨g,0,aK⟩) k cap) (hown:Own K E B w (cx (av ⟨g,0,aK⟩) k cap) l) (f:k=l.length) (b:∃A c,a.eval x=cx (av A) 0 c) (hc:k<=cap)
  (h:∀w',Own K E B w' (cx (av ⟨g,0,aK⟩) k cap) l->w.grownBy w' (av g)->K' (a.put o.dst (cx (av ⟨g,0,aK⟩) k cap)) w'):o.wp P a w K' Q:=by
 obtain⟨i,z,hi,p,H,m,n⟩:=S.info;obtain⟨A,c,b⟩:=b;subst f;obtain⟨w',hr,d,h3⟩:=run_append_fits (P:=P) (w:=w) (ty:=o.type) B T E i K.size S.under hi H g l.length cap (K.cells l) hown A 0 c [] ν (fun j u hu=>by cases hu) (fun u hu=>by cases hu) κ;unfold Oper.wp execOp;simp only[e,resolve,invoke,builtin,Sem.run_bind,Sem.run_pure,Result.andThen_ok,List.map_toArray,bI,List.map_nil,hs,b,hr];refine h w' ?_ h3;rw[bh] at d;exact d
end
theorem qd (w:World) (o k cap:Nat) (ps:Γ) (h:sU 0 w (.slice (av ⟨o,0,aK⟩) k cap) ps) (d:Nat) (n:k+d<=cap) (hd:0<d):
  ∃vs,∀(c:Nat) (ty:TypeId),(Builtin.clear_ #[64] ty #[.slice (av ⟨o,k*2,aK⟩) d c]).run prog w=.ok (.tuple #[]) (w.setCells o (k*2) vs):=by
 obtain⟨z,f⟩:=ξx ((Builtin.zeroCells (Value.agg #[Value.int ct 0,.string ⟨#[]⟩]).cells d).toList);have H:z=(Builtin.zeroCells #[Value.int ct 0,.string ⟨#[]⟩] d).toList:=f;have g:z.length=d*2:=by rw[H];simp[Builtin.zeroCells]
 have E:∀v∈z,v.oneCell'=true:=by
  intro v b;rw[H] at b;simp only[Builtin.zeroCells,Array.toList_map,bY] at b;obtain⟨i,_,rfl⟩:=b;have:i%2=0\/i%2=1:=κ
  rcases this with e|e<;>simp[e]<;>rfl
 refine⟨z,fun c ty=> ?_⟩
 have a:=run_storeCells_cells (P:=prog) o (k*2) z 0 w
  (fun j l=>by rw[Nat.add_zero];exact (Own.spare h (k*2+j) (by show _<cap*2;omega)).1)
  (fun j l=>by rw[Nat.add_zero];exact (Own.spare h (k*2+j) (by show _<cap*2;omega)).2) E
 simp only[Nat.add_zero] at a;obtain⟨m,rfl⟩:∃m,d=m+1:=⟨d-1,κ⟩;simp[Builtin.clear_,run_underlying underlying64,<-f,a]
theorem Jp (w:World) (o n cap i:Nat) (ps:Γ) (h:sU 0 w (cx (av ⟨o,0,aK⟩) n cap) ps) (hi:i<ps.length):
  Calls prog 201 #[cx (av ⟨o,0,aK⟩) n cap,bf ct i,bf ct n] w fun e w'=>e=c8 (cx (av ⟨o,0,aK⟩) i cap)/\sU 0 w' (cx (av ⟨o,0,aK⟩) i cap) (ps.take i)/\aE (fun k=>k=o) w w':=by
 obtain⟨_,hn,b⟩:=Own.slot h;have A:n<=cap:=κ
 have m:i<n:=κ
 have p:(i:Int)<n:=κ
 have r:=Own.Qa h;have H:=Own.upto h i κ;have Q:=aa H;have l:=aa (And.intro hi (And.intro hn A));have s:(cap:Int)<=9223372036854775807:=by
  rcases h.2 with⟨e,_⟩|⟨G,C,cur,e,_,_,_,Z,_⟩;·cases e
  ·injection e with _ _ e3;subst e3;unfold maxLen at Z;omega
 have t:i<=n:=κ
 have u:i<=cap:=κ
 clear H hi h hn b r;have v:¬(i:Int)=n:=κ
 have x:(i==n)=false:=beq_eq_false_iff_ne.2 κ;have y:((i:Int)==(n:Int))=false:=beq_eq_false_iff_ne.2 κ;by_cases q:cap=n
 ·subst q;go_enter func201,ntmps201;go_wp2_with (refine wp_region_any η ?_;refine Hid.o ?_);refine aa ?_;try (change wpAny _ _ _ _ _ _ _ (bu _))
  refine tk 0 ?_;refine tk 1 ?_;refine tk 2 ?_;refine tk 3 ?_;refine tk 4 ?_;refine tk 5 ?_;try simp only[Act.put,aC,aB,ay]
  refine rd [6] (rn fun K c=> ?_);refine xw FB _ _ rfl o i cap rfl (show sU 0 w.drew (cx (av ⟨o,0,aK⟩) i cap) (ps.take i) from Q.o) (by rw[aJ];have:=l.o;omega) ⟨_,_,rfl⟩ κ ?_;intro W d g;refine c _ _ ?_;clear c K;refine tk 7 ?_;refine wpAny_done η ?_ _;have a:=aa (show sU 0 W (cx (av ⟨o,0,aK⟩) i cap) (ps.take i)/\aE (fun k=>k=o) w W from⟨d,⟨g.os,g.tape,g.output,g.size,fun k j hn=>g.block k j (fun e=>hn zbp)⟩⟩);clear d g;obtain⟨vs,z⟩:=qd W o i cap (ps.take i) a.o.1 (cap-i) κ κ;go_wp2;go_ret;have f:=Own.cleared (K:=uy) (E:=233) (B:=0) vs W (i*2) a.o.1 (by rw[aJ];show _*2<=_;omega);exact⟨rfl,f.1,a.o.2.trans f.2 (fun _ _ e=>e)⟩
 ·have D:(cap==n)=false:=beq_eq_false_iff_ne.2 q;go_enter func201,ntmps201;go_wp2_with (refine wp_region_any η ?_;refine Hid.o ?_);refine aa ?_;try (change wpAny _ _ _ _ _ _ _ (bu _))
  refine tk 0 ?_;refine tk 1 ?_;refine tk 2 ?_;refine tk 3 ?_;refine tk 4 ?_;refine tk 5 ?_;try simp only[Act.put,aC,aB,ay]
  refine rd [6] (rn fun K c=> ?_);refine xw FB _ _ rfl o i cap rfl (show sU 0 w.drew (cx (av ⟨o,0,aK⟩) i cap) (ps.take i) from Q.o) (by rw[aJ];have:=l.o;omega) ⟨_,_,rfl⟩ κ ?_;intro W d g;refine c _ _ ?_;clear c K;refine tk 7 ?_;refine wpAny_done η ?_ _;have a:=aa (show sU 0 W (cx (av ⟨o,0,aK⟩) i cap) (ps.take i)/\aE (fun k=>k=o) w W from⟨d,⟨g.os,g.tape,g.output,g.size,fun k j hn=>g.block k j (fun e=>hn zbp)⟩⟩);clear d g;obtain⟨vs,z⟩:=qd W o i cap (ps.take i) a.o.1 (n-i) κ κ;go_wp2;go_ret;have f:=Own.cleared (K:=uy) (E:=233) (B:=0) vs W (i*2) a.o.1 (by rw[aJ];show _*2<=_;omega);exact⟨rfl,f.1,a.o.2.trans f.2 (fun _ _ e=>e)⟩
end
section
open Go.RowKit Go.Maps Lib
theorem Kept.Cb {A:Φ} {ring b g N:Nat} {H:List Wl.Text} {w:World} (h:Kept A ring w b g N H):FC w b H.length:=by obtain⟨F,s,hl,a,_⟩:=h;exact⟨F,g,s,hl,a.off_eq,a.homes_eq⟩
theorem Jq (w:World) (T A:Φ) (tb lb ring g N:Nat) (H:List Wl.Text) (ps:Γ) (i:Nat) (h:Bk w T tb lb ps) (p:Kept A ring w lb g N H) (hi:i<H.length) (hn:H.length<=65536):
  Calls prog 166 #[ptr tb,bf ct i] w fun e w'=>e=c8 (ec #[cu (bs (iQ (Wl.along H (Tx.qR ps)) i).1),bf ct 0])/\Below w.heap.size w w':=by
 have y:=aa h;have q:=aa p;have d:i<(Wl.along H (Tx.qR ps)).length:=by rw[Wl.cW];exact hi
 have b:=q_ d;obtain⟨mb,vp,vb,n⟩:=h;obtain⟨D,cp,r,_⟩:=Own.slice n.op;subst r;have c:=aa n;rcases Tx.Xm H ps hi with⟨l,a⟩|⟨k,z,l,a⟩
 ·have s:=aa (show iQ (Wl.along H (Tx.qR ps)) i=iQ H i by
   rw[b,q_ hi];rw[aI d,aI hi] at a;injection a with a;rw[a])
  have B:=aa (show (iQ H i).2=0 by rw[q_ hi]);have f:=sS.eH c.o.mp κ l;have c0:=c.o.c0;have c3:=c.o.c3;rw[s.o];clear l a b n p;go_enter func166,ntmps166;go_wp2_with fail;refine (lF w T tb lb H.length ps y.o q.o.Cb).mono ?_;rintro e w1 ⟨rfl,rfl⟩;unfold ptr;go_wp2_with fail;refine (Ca q.o (i:Int)).mono ?_;rintro e W ⟨rfl,m⟩;rw[B.o];have u:=aa m;clear m f c0 c3;go_wp2
  go_ret2
  exact⟨rfl,u.o⟩
 ·have s:=aa (show iQ (Wl.along H (Tx.qR ps)) i=(Dk.full (ps[k]).2,0) by
   rw[b];rw[aI d] at a;injection a with a;rw[a])
  have f:=sS.jI c.o.mp κ l;have c1:=c.o.c1;have c3:=c.o.c3;obtain⟨o,F,E,_,_,_⟩:=Own.form c.o.op κ;injection E with E _ e3;subst E e3;have C:=(sU.at c.o.op k z).2;have j:=(c.o.small ps[k] (bp z)).2;have Y:(k:Int)<ps.length:=κ
  rw[s.o];clear l a b n p;generalize ps[k]=x at*;obtain⟨at_,t⟩:=x;simp only at C j |-;have v:=aa j;clear j;go_enter func166,ntmps166;go_wp2_with fail;refine (lF w T tb lb H.length ps y.o q.o.Cb).mono ?_;rintro e w1 ⟨rfl,rfl⟩;unfold ptr;go_wp2_with fail;refine (Jl (bs t) w1 (by rw[aG];exact v.o)).mono ?_;rintro e W ⟨rfl,m⟩;rw[bJ];have u:=aa m;clear m f c1 c3 C;go_wp2
  go_ret2
  exact⟨rfl,u.o⟩
end
section
open Go.RowKit Go.Maps Go.ChangeMaps Lib
theorem QO (k:Nat):Bj.enc (Tx.un k)=bf ct (k:Int):=by show Value.int ct ((Tx.un k).length:Nat)=_;rw[Tx.ig]
theorem Ux (k:Nat) (m:Wl.ew):(dat m).del (.int ct k)=dat (Tx.del k m):=by
 show DataW.map _=DataW.map _;congr 1;show (m.map vG).filter _=(Tx.del k m).map vG;unfold Tx.del;induction m with
 |nil=>rfl
 |cons x m i=>
  rw[bI,c9,c9,nw];by_cases h:x.1=k;·grind
  ·grind
theorem aE.QR {w w':World} {b:Nat} (h:w.mapTurned w' b):aE (fun k=>k=b) w w':=by obtain⟨es,clock,e,c,H,rfl⟩:=h;exact⟨rfl,rfl,rfl,by simp[setBlock],fun k a hn=>heap_setBlock_other H _ hn⟩
theorem DD (w:World) (T:Φ) (tb lb mb:Nat) (vp vb:Value) (ps:Γ) (bl:List Int) (m:Wl.ew) (i:Nat) (h:gL w T tb lb mb vp vb ps bl m) (hi:i<=65536):
  Calls prog 200 #[ptr tb,.int ct i,.int ct (-1)] w fun e w'=>e=c8 (.tuple #[])/\gL w' T tb lb mb vp vb ps bl (Tx.del i m)/\b9 T w T w':=by
 have c3:=h.c3;have H:=aa h;clear h;go_enter func200,ntmps200;unfold ptr;go_wp2_with (at_delete;refine wpList_delete_own _ rfl _ _ 63 3 rfl 3 (int_keyed gB) kT Bj.R mb m.length (dat m) rfl H.o.mp.1 (.int ct i) (.int ct i) rfl (keyOf_int_mk gB (sO κ)) ?_;intro w1 kI X);refine bodyPost_end (results_none rfl _ _ _) rfl ?_;rw[Ux] at kI;have a:sS w1 mb (Tx.del i m):=⟨p6 Bj kI,Tx.yV i H.o.mp.2.1,fun x b=>H.o.mp.2.2 x (dU.1 b).1⟩;have:=H.o.map' a (aE.QR X);exact⟨rfl,this⟩
theorem DE (w:World) (T:Φ) (tb lb mb:Nat) (vp vb:Value) (ps:Γ) (bl:List Int) (m:Wl.ew) (i j:Nat) (h:gL w T tb lb mb vp vb ps bl m) (hi:i<=65536) (hn:m.length<=200000000):
  Calls prog 200 #[ptr tb,bf ct i,bf ct j] w fun e w'=>e=c8 (ec #[])/\gL w' T tb lb mb vp vb ps bl (Wl.ins i (Tx.un j) m)/\b9 T w T w':=by
 have c3:=h.c3;have c:=aa h;have l:((j:Int)==-1)=false:=beq_eq_false_iff_ne.2 κ;obtain⟨W,a,b,g⟩:=eW.Qm (T:=63) h.mp gB kT hn (k:=i) κ (t:=Tx.un j) (by show Tx.un _=Tx.un (Tx.un _).length;rw[Tx.ig]);rw[QO] at a;have H:=aa (And.intro b g);clear h b g;go_enter func200,ntmps200;unfold ptr;go_wp2;refine bodyPost_end (results_none rfl _ _ _) rfl ?_;have d:aE (fun k=>k=mb) w W:=⟨H.o.2.os,H.o.2.tape,H.o.2.output,H.o.2.size,fun k f hn=>H.o.2.block k f (fun e=>hn zbp)⟩;exact⟨rfl,c.o.map' H.o.1 d⟩
theorem Na (w:World) (T:Φ) (tb lb:Nat) (ps:Γ) (mark:Int) (h:Bk w T tb lb ps) (b:(ps.length:Int)<=max mark 0):
  Calls prog 143 #[ptr tb,bf ct mark] w fun e w'=>e=c8 (ec #[])/\w'=w:=by
 have H:=aa h;clear h;by_cases c:mark<0
 ·have a:(ps.length:Int)=0:=by omega
  go_enter func143,ntmps143;go_wp2_with fail;refine (uz w T tb lb ps H.o).mono ?_;rintro e w1 ⟨rfl,rfl⟩;rw[a];go_wp2;refine bodyPost_ret (results_none rfl _ _ _) rfl ?_;exact⟨rfl,rfl⟩
 ·have a:¬(0:Int)>mark:=by omega
  have d:(ps.length:Int)<=mark:=κ
  go_enter func143,ntmps143;go_wp2_with fail;refine (uz w T tb lb ps H.o).mono ?_;rintro e w1 ⟨rfl,rfl⟩;go_wp2;refine bodyPost_ret (results_none rfl _ _ _) rfl ?_;exact⟨rfl,rfl⟩
theorem DF (w:World) (T:Φ) (tb lb mb:Nat) (vp vb:Value) (ps:Γ) (bl:List Int) (j:Nat) (H:j<ps.length) (h:gL w T tb lb mb vp vb ps bl (Tx.dn (ps.take (j+1)))) (b:Int) (c:b=Tx.iU (Tx.dn (ps.take j)) (ps[j]).1) (hn:ps.length<=90000000):
  Calls prog 200 #[ptr tb,bf ct (ps[j]).1,bf ct b] w fun e w'=>e=c8 (ec #[])/\gL w' T tb lb mb vp vb ps bl (Tx.dn (ps.take j))/\b9 T w T w':=by
 have hs:=(h.small ps[j] (bp H)).1;rcases Tx.E3 (Tx.dn (ps.take j)) (ps[j]).1 with e|⟨i,e⟩;·rw[c,e];refine (DD w T tb lb mb vp vb ps bl _ (ps[j]).1 h hs).mono ?_;rintro E w' ⟨rfl,h',a⟩;rw[Tx.Da H e] at h';exact⟨rfl,h',a⟩
 ·rw[c,e];refine (DE w T tb lb mb vp vb ps bl _ (ps[j]).1 i h hs (by have:=Tx.BT (ps.take (j+1));rw[aJ] at this;omega)).mono ?_;rintro E w' ⟨rfl,h',a⟩;rw[Tx.Db H e] at h';exact⟨rfl,h',a⟩
theorem QS (w:World) (T:Φ) (tb lb:Nat) (ps:Γ) (mark:Int) (M:Nat) (h:Bk w T tb lb ps) (hM:max mark 0=(M:Int)) (G:M<ps.length) (hn:ps.length<=90000000):
  Calls prog 143 #[ptr tb,bf ct mark] w fun e w'=>e=c8 (ec #[])/\∃T',Bk w' T' tb lb (ps.take M)/\b9 T w T' w':=by
 have HP:=aa h;obtain⟨mb,vp,vb,m⟩:=h;obtain⟨o,c,I,_,hol,hoc⟩:=Own.form m.op κ;obtain⟨ob,cb,Li,_,pz,J⟩:=Own.form m.ob (by rw[Tx.cR];omega);rw[Tx.cR] at Li J;subst I Li;have HX:=aa m;have C:=aa (And.intro G hn);have Tg:¬(ps.length:Int)<=M:=κ
 have c1:=m.c1;clear m;go_enter func143,ntmps143;go_wp2_with fail;refine (uz w T tb lb ps HP.o).mono ?_;rintro e w1 ⟨rfl,rfl⟩;unfold ptr;go_wp2;have A:decide (ps.length<=M)=false:=decide_eq_false κ;rw[A];clear A
 go_loopw [4] (fun i wr=>∃(k:Nat) (z:Int),z+1=k/\M<=k/\k<=ps.length/\i=bf ct z/\Hid (gL wr T tb lb mb (cx (av ⟨o,0,aK⟩) ps.length c) (cx (av ⟨ob,0,aK⟩) ps.length cb) ps (Tx.jd ps) (Tx.dn (ps.take k))/\b9 T w1 T wr)) (fun i _=>(RowKit.intOf i+1).toNat)
 case atStart=>exact⟨ps.length,(ps.length:Int)-1,κ,κ,af _,by first|rfl|go_num,aa ⟨by rw[List.take_length];exact HX.o,b9.refl _ _⟩⟩
 case round=>
  obtain⟨k,z,N,n,q,rfl,hS⟩:=hrel;by_cases g:M<k
  ·obtain⟨j,rfl⟩:∃j,k=j+1:=⟨k-1,κ⟩;obtain rfl:z=(j:Int):=by omega
   have r:j<ps.length:=κ;have hMj:(M:Int)<=j:=κ;have MX:(j:Int)<ps.length:=κ;have d1:=hS.o.1.c1;have d2:=hS.o.1.c2;have P:=(sU.at hS.o.1.op j r).1;have Q:=p8.at hS.o.1.ob j (by rw[Tx.cR];exact r);obtain⟨F,O⟩:∃b,b=(Tx.jd ps)[j]'(by rw[Tx.cR];exact r):=⟨_,rfl⟩;obtain⟨pa,f⟩:∃a,a=(ps[j]).1:=⟨_,rfl⟩;rw[<-O] at Q;rw[<-f] at P
   have HG:=aa (show Calls prog 200 #[dr (av ⟨tb,0,aK⟩),bf ct pa,bf ct F] wr.drew fun e w'=>e=c8 (ec #[])/\gL w' T tb lb mb (cx (av ⟨o,0,aK⟩) ps.length c) (cx (av ⟨ob,0,aK⟩) ps.length cb) ps (Tx.jd ps) (Tx.dn (ps.take j))/\b9 T wr.drew T w' by
    rw[f];exact DF wr.drew T tb lb mb _ _ ps _ j r (hS.o.1.but ((aE.refl (fun _=>False) wr).drew) (fun _ _ h=>h)) F (by rw[O,Tx.TL]) C.o.2)
   have s:=aa (And.intro O f);have R:=aa r;have S:=aa g;have D:wr.drew.cell? ⟨tb,1,aK⟩=av (cx (av ⟨o,0,aK⟩) ps.length c):=d1;have t:wr.drew.cell? ⟨tb,2,aK⟩=av (cx (av ⟨ob,0,aK⟩) ps.length cb):=d2;have E:wr.drew.cell? ⟨o,j*2,aK⟩=av (bf ct pa):=P;have u:wr.drew.cell? ⟨ob,j,aK⟩=av (bf ct F):=Q;clear O f N n q g d1 d2 P Q c1 G Tg;go_wp2
   go_region_held3 (fun w'=>w'.cell? ⟨tb,1,aK⟩=av (cx (av ⟨o,0,aK⟩) ps.length c)/\w'.cell? ⟨tb,2,aK⟩=av (cx (av ⟨ob,0,aK⟩) ps.length cb)/\w'.cell? ⟨o,j*2,aK⟩=av (bf ct pa)/\w'.cell? ⟨ob,j,aK⟩=av (bf ct F))
    (first
     |(exact⟨D,t,E,u⟩)
     |(exact⟨s1,s2,U,V⟩)
     |go_keep)
    (first
     |(go_at_call 200;refine HG.o.mono ?_;rintro e w3 ⟨rfl,h3,m3⟩;have s1:=h3.c1;have s2:=h3.c2;have U:=(sU.at h3.op j R.o).1;rw[<-s.o.2] at U;have V:=p8.at h3.ob j (by rw[Tx.cR];exact R.o);rw[<-s.o.1] at V;have H3:=aa (show gL w3 T tb lb mb (cx (av ⟨o,0,aK⟩) ps.length c) (cx (av ⟨ob,0,aK⟩) ps.length cb) ps (Tx.jd ps) (Tx.dn (ps.take j))/\b9 T w1 T w3 from⟨h3,hS.o.2.trans ((show b9 T wr T wr.drew from⟨(aE.refl T wr).drew,fun _ h=>cS h⟩).trans m3)⟩);clear h3 m3))
   clear s1 s2 U V D t E u;go_wp2;go_roundw
   case rel=>exact⟨j,(j:Int)-1,κ,by have:=S.o;omega,by have:=R.o;omega,by first|rfl|go_num,H3⟩
   case measure=>simp[RowKit.intOf]
  ·have l:k=M:=κ;rw[l] at hS;have hzM:¬(M:Int)<=z:=κ;have HZ:=aa (And.intro N l);clear N l n q g c1 G Tg;have D:wr.drew.cell? ⟨tb,1,aK⟩=av (cx (av ⟨o,0,aK⟩) ps.length c):=hS.o.1.c1;have HD:=aa (Jp wr.drew o ps.length c M ps (show sU 0 wr.drew (cx (av ⟨o,0,aK⟩) ps.length c) ps from hS.o.1.op) C.o.1);go_wp2_with (refine wp_region_any η ?_;refine Hid.o ?_);refine aa ?_;try (change wpAny _ _ _ _ _ _ _ (bu _))
   refine tk 0 ?_;refine tk 1 ?_;refine tk 2 ?_;refine tk 3 ?_;refine tk 5 ?_;refine tk 6 ?_;refine tk 7 ?_;refine tk 8 ?_;refine rd [4,9] (AllReady.cons rfl (fun K H=> ?_) (rn fun K H=> ?_))
   focus (
    go_simp
    refine H _ _ ?_;clear H K
    refine rd [9] (rn fun K H=> ?_)
    go_simp
    refine H _ _ ?_;clear H K
    refine tk 10 ?_
   )
   rotate_left
   focus (
    go_simp
    refine H _ _ ?_;clear H K
    refine tk 10 ?_
    refine rd [4] (rn fun K H=> ?_)
    go_simp
    refine H _ _ ?_;clear H K
   )
   all_goals (
    refine rd [11] (rn fun K H=> ?_)
    go_simp
    refine HD.o.mono ?_;rintro e X ⟨rfl,h5,dW⟩
    refine H _ _ ?_;clear H K
    have L:aE (fun k=>k=o) wr X:=((aE.refl (fun k=>k=o) wr).drew).trans dW (fun _ _ e=>e)
    have v:=hS.o.1.Le (W:=wr) (Below.refl _ _) h5 ⟨L.os,L.tape,L.output,L.size,fun k hk hn=>L.block k hk (fun e=>hn zaF)⟩ (cS rfl) (fun p hp=>HX.o.small p (List.mem_of_mem_take hp))
    have d:aW X tb 67 [ptr lb,cx (av ⟨o,0,aK⟩) ps.length c,cx (av ⟨ob,0,aK⟩) ps.length cb,.map (av mb)]:=hS.o.1.blk.but L (fun e=>hS.o.1.Zr zaF)
    have s1:=d.cell (j:=1) rfl
    have s2:=d.frozen 1
    have Y:=aa v
    clear h5 dW L v
    refine tk 12 ?_
    refine tk 13 ?_
    refine rd [14] (rn fun K H=> ?_)
    go_simp
    refine H _ _ ?_;clear H K
    refine wpAny_done η ?_ _
    clear s1 s2 D
    obtain⟨x,XL⟩:=ξx (X.setCell ⟨tb,1,aK⟩ (cx (av ⟨o,0,aK⟩) M c))
    rw[<-XL] at Y |-
    obtain⟨Z,y⟩:∃Z,Hid (gL x Z tb lb mb (cx (av ⟨o,0,aK⟩) M c) (cx (av ⟨ob,0,aK⟩) ps.length cb) (ps.take M) (Tx.jd ps) (Tx.dn (ps.take M))/\b9 T wr Z x):=⟨_,Y⟩
    have t2:=y.o.1.c2
    have t3:=y.o.1.blk.frozen 2
    have hMc:M<=cb:=by have:=C.o.1;omega
    have B:M<=ps.length:=by have:=C.o.1;omega
    clear XL Y d
    go_wp2
    refine bodyPost_end (results_none rfl _ _ _) rfl ?_
    have j6:=Own.upto y.o.1.ob M (by rw[Tx.cR];exact B)
    rw[Tx.BS ps M B] at j6
    have H7:=y.o.1.Ld (W:=x) (Below.refl _ _) j6 ⟨rfl,rfl,rfl,af _,fun _ _ _=>rfl⟩ (cS rfl)
    exact⟨rfl,_,⟨mb,_,_,H7.1⟩,hS.o.2.trans (y.o.2.trans H7.2)⟩
   )
end
section
open Go.RowKit Go.Maps Lib
theorem Ll (x:Nat×List UInt8) (z:Int) (h:(x.1:Int)≠z):(vG x).1.sameKey (.int ct z)=false:=by simp only[vG,Lit.sameKey,true_and];exact decide_eq_false h
theorem XM {m:Wl.ew} {z:Int} (h:∀x∈m,(x.1:Int)≠z) (y:DataW Unit):(dat m).atKey (.int ct z) y=y:=by
 have:(m.map vG).find? (fun p=>p.1.sameKey (.int ct z))=none:=by grind [List.find?_eq_none,Ll]
 unfold dat DataW.atKey;simp only;rw[this]
theorem Uy {m:Wl.ew} {z:Int} (h:∀x∈m,(x.1:Int)≠z):Maps.has (dat m) (.int ct z)=false:=by show (m.map vG).any (fun p=>p.1.sameKey (.int ct z))=false;rw[List.any_eq_false];intro p hp;obtain⟨x,H,rfl⟩:=bY.1 hp;rw[Ll x z (h x H)];decide
theorem XN {z:Int} (h:-9223372036854775808<=z/\z<=9223372036854775807):(Lit.int ct z).wf=true:=by simp[Lit.wf,IntKind.min,IntKind.max,IntKind.signed,IntKind.bits];omega
theorem eW.zz {P:Program} {T E K:TypeId} {M:ME} {w:World} {b:Nat} {m:Wl.ew} (h:eW P K M w b m) (a:P.underlying K=av (.int ct)) (d:P.underlying T=av (.map K E)) {z:List UInt8} (e:(zeroValue E).run P w=.ok (M.enc z) w) (U:M.fits z)
  {k:Int} (F:-9223372036854775808<=k/\k<=9223372036854775807) (hl:∀x∈m,(x.1:Int)≠k):(Instr.lookup T (.map (av b)) (.int ct k) true).run P w=.ok (.tuple #[M.enc z,.bool false]) w:=by
 obtain⟨v,ps,hr,c⟩:=h.1.look_ok (int_keyed a) d e (M.read z U) (keyOf_int_mk a (XN F));rw[XM hl] at c;rw[Uy hl] at hr;exact zar
theorem sS.zz {w:World} {b:Nat} {m:Wl.ew} (h:sS w b m) {z:Int} (H:-9223372036854775808<=z/\z<=9223372036854775807) (hl:∀x∈m,(x.1:Int)≠z):
  (Instr.lookup 63 (.map (av b)) (bf ct z) true).run prog w=.ok (ec #[bf ct 0,ey false]) w:=
 eW.zz (M:=Bj) h gB kT (zx w) rfl H hl
theorem Jr (w:World) (T A:Φ) (tb lb ring g N:Nat) (H:List Wl.Text) (ps:Γ) (i:Int) (h:Bk w T tb lb ps) (c:Kept A ring w lb g N H) (hi:i<0\/(H.length:Int)<=i) (hr:-9223372036854775808<=i/\i<=9223372036854775807) (hs:∀p∈ps,p.1<H.length):
  Calls prog 166 #[ptr tb,bf ct i] w fun e w'=>e=c8 (ec #[cu ⟨#[]⟩,bf ct 2])/\Below w.heap.size w w':=by
 have m:=aa h;have j:=aa c;obtain⟨mb,vp,vb,b⟩:=h;have d:=aa b;have n:=aa (show iQ H i=([],2) by unfold iQ;rw[if_neg κ]);have a:∀x∈Tx.dn ps,(x.1:Int)≠i:=by
  intro x b e;rcases Tx.ow x.1 ps with⟨q,_⟩|⟨k,c,_,s,_⟩;·exact Wl.eH.1 q x b rfl
  ·grind
 have f:=sS.zz d.o.mp hr a;have c0:=d.o.c0;have c3:=d.o.c3;clear b c a;go_enter func166,ntmps166;go_wp2_with fail;refine (lF w T tb lb H.length ps m.o j.o.Cb).mono ?_;rintro e w1 ⟨rfl,rfl⟩;unfold ptr;go_wp2_with fail;refine (Ca j.o i).mono ?_;rintro e W ⟨rfl,l⟩;rw[n.o];have r:=aa l;clear l f c0 c3;go_wp2
 go_ret2
 exact⟨rfl,r.o⟩
end
end Go.Proofs.YtgfdijemhanfkaaGreatDoor
