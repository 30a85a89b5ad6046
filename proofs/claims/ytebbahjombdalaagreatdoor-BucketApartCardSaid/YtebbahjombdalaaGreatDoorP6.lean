/- Elder texts, cut down and merged (6). -/
import Derived.Test.YtebbahjombdalaaGreatDoorP5
import Derived.Test.YtebbahjombdalaaGreatDoorP2
import Derived.Test.YtebbahjombdalaaGreatDoorP1
import Derived.StillTailTactics
import Derived.Lib.SlMapMerge
import Derived.Lib.Strings
import Derived.Lib.Walk
import Derived.Lib.BufferWrite
import Derived.Lib.UnsafeStr
import Derived.Laws.MakeOwn
import Derived.Lib.SliceRun
import Derived.Test.YtebbahjombdalaaGreatDoorPTk
set_option maxRecDepth 100000
set_option maxHeartbeats 8000000
namespace Go.Proofs.YtebbahjombdalaaGreatDoor
open List renaming replicate→bg,getElem?_replicate→mQ,getElem?_eq_getElem→aJ,getD_eq_getElem?_getD→bT,mem_cons→aQ,take_of_length_le→bZ,getElem?_map→cJ,mem_append→ah,mem_singleton→cH,length_take→aN,map_cons→bH,append_nil→bh,setIfInBounds_toArray→az,set_cons_succ→ay,set_cons_zero→au,getElem_mem→bB,filter_cons→cS,mem_filter→dy
open Nat renaming zero_le→aC,lt_of_lt_of_le→cW,zero_add→bV,le_trans→aG,le_refl→af,min_eq_left→b_,add_zero→dN
open World renaming size_alloc→bk,drew→bD
open Int renaming toNat_natCast→cX
open _root_.Array renaming length_toList→aZ
section
open Go.RowKit Lib
def oI (ring size:Nat):Wl.Lg:=⟨ring,size-1-ring,0,1,0,[],false,Dk.fresh size⟩
theorem F7 (w:World) (F:Nat→Prop) (b g ring size:Nat) (hl:Log w F b g ⟨ring,size-1-ring,0,0,0,[],false,Dk.fresh size⟩) (hr:ring≤4096) (hs:size≤65536) (hs1:1≤size):
  Calls Tryz.prog 42 #[ptr b] w fun e w'=>e=.returned (.bool true)∧∃F',Log w' F' b g ((oI ring size).with (Wl.wr (false,Dk.fresh size) (0,Wl.first size ring 0 1)))∧bS F w F' w':=by
 have HL:=aa hl
 obtain⟨mb,FD,hp⟩:=hl
 have c0:=hp.c0
 have HP:=aa hp.sec
 have xk:(size:Int)≤65536:=by omega
 have hlen:(Dk.fresh size).fB.length=size:=by simp[Dk.fresh]
 have hrd:∀k,k<size→((Dk.fresh size).read (k:Nat)).1=Dk.full []:=by
  intro k hk
  rw[Dk.ED rfl (show (Dk.fresh size).now[k]?=some (Dk.full []) by show (Dk.fu (bg size (Dk.full [])) [])[k]?=_;rw[Dk.mO,mQ,if_pos hk])]
 have WC:=aa hrd
 clear hp hrd
 go_enter Tryz.func42,Tryz.ntmps42
 unfold ptr
 go_wp2_with fail
 refine (pN w FD g _ HP.o).mono ?_
 rintro e w1 ⟨rfl,rfl⟩
 rw[hlen]
 go_wp2_with fail
 go_loopw [9] (fun i wr=>∃k:Nat,k≤size∧i=.int .i64 k∧Hid (Below w1.heap.size w1 wr)) (fun i _=>size-(RowKit.intOf i).toNat)
 case atStart=>exact⟨0,aC _,rfl,aa (Below.refl _ _)⟩
 case round=>
  obtain⟨k,hk,rfl,hB⟩:=hrel
  by_cases hlt:k<size
  ·have hI:(k:Int)<size:=by omega
   have s9:(k:Int)≤65536:=by omega
   have oh:(0:Int)≤k:=by omega
   have HK:=aa hlt
   clear hlt hk
   go_wp2_with fail
   refine (Ju wr F b g _ k (HL.o.below hB.o)).mono ?_
   rintro e w2 ⟨rfl,rfl⟩
   rw[show ((Dk.fresh size).read (k:Nat)).1=Dk.full [] from WC.o k HK.o]
   go_wp2_with fail
   refine (CU _ _ (by rw[aK,Wl.Ag];decide)).mono ?_
   rintro e w3 ⟨rfl,nq,rfl⟩
   rw[bO,Wl.pU]
   have p8:=aa (hB.o.trans ((ep w2 nq).mono hB.o.size))
   go_wp2
   go_roundw
   case rel=>exact⟨k+1,HK.o,by go_num,p8⟩
   case measure=>have:=HK.o;simp[RowKit.intOf];omega
  ·obtain rfl:size=k:=by omega
   have hL:=HL.o.below hB.o
   have k3:wr.cell? ⟨b,3,none⟩=some (.int .i64 0):=hL.c3
   have k4:wr.cell? ⟨b,4,none⟩=some (.int .u64 0):=hL.c4
   obtain⟨mq,FQ,hq⟩:=hL
   have f3:=hq.blk.frozen 3
   have f4:=hq.blk.frozen 4
   have HQ:=aa hq
   clear hq
   go_wp2_with fail
   have s1:=HQ.o.set 3 (.int .i64 0) ⟨ring,size-1-ring,0,0,0,[],false,Dk.fresh size⟩ rfl rfl rfl
   have s2:=s1.1.set 4 (.int .u64 1) (oI ring size) rfl rfl rfl
   obtain⟨Y,hY⟩:∃Y,Y=(wr.setCell ⟨b,3,none⟩ (.int .i64 0)).setCell ⟨b,4,none⟩ (.int .u64 1):=⟨_,rfl⟩
   have hM:=s1.2.trans s2.2
   have PL:=s2.1
   rw[←hY] at hM PL ⊢
   have WD:aE (fun _=>False) Y Y.drew:=(aE.refl _ Y).drew
   have HY:=aa (show i_ Y.drew F b g mq FQ (oI ring size)∧bS F w1 F Y.drew from⟨PL.but WD (fun _ _ h=>h),(show bS F w1 F wr from⟨aE.aH hB.o _,fun _ h=>.inl h⟩).trans (hM.trans ⟨WD.mono (fun _ _ h=>h.elim),fun _ h=>.inl h⟩)⟩)
   clear s1 s2 hY hM PL WD k3 k4 f3 f4 c0
   have c0:Y.drew.cell? ⟨b,0,none⟩=some (.pointer (some ⟨g,0,none⟩)):=HY.o.1.c0
   have c1:Y.drew.cell? ⟨b,1,none⟩=some (.int .i64 ring):=HY.o.1.c1
   have c3:Y.drew.cell? ⟨b,3,none⟩=some (.int .i64 0):=HY.o.1.c3
   have c4:Y.drew.cell? ⟨b,4,none⟩=some (.int .u64 1):=HY.o.1.c4
   go_region_held3 (fun w'=>w'.cell? ⟨b,0,none⟩=some (.pointer (some ⟨g,0,none⟩))∧w'.cell? ⟨b,1,none⟩=some (.int .i64 ring)∧w'.cell? ⟨b,3,none⟩=some (.int .i64 0)∧w'.cell? ⟨b,4,none⟩=some (.int .u64 1))
    (first
     |(exact⟨c0,c1,c3,c4⟩)
     |(exact⟨d0,d1,d3,d4⟩)
     |go_keep)
    (first
     |(go_at_call 40;refine (pN _ FQ g _ HY.o.1.sec).mono ?_;rintro e w4 ⟨rfl,rfl⟩)
     |(go_at_call 63;refine (wH (oI ring size).d.fB.length ring 0 1 _ (by have:=hlen;exact (by omega:(Dk.fresh size).fB.length≤1000000)) (by omega) (by omega) (by decide)).mono ?_;rintro e w8 ⟨rfl,rB⟩;have Rh:=aa (show i_ w8 F b g mq FQ (oI ring size)∧bS F w1 F w8 from⟨HY.o.1.below rB,HY.o.2.trans ⟨aE.aH rB _,fun _ h=>.inl h⟩⟩);have d0:w8.cell? ⟨b,0,none⟩=some (.pointer (some ⟨g,0,none⟩)):=Rh.o.1.c0;have d1:w8.cell? ⟨b,1,none⟩=some (.int .i64 ring):=Rh.o.1.c1;have d3:w8.cell? ⟨b,3,none⟩=some (.int .i64 0):=Rh.o.1.c3;have d4:w8.cell? ⟨b,4,none⟩=some (.int .u64 1):=Rh.o.1.c4;clear rB)
     |(go_at_call 62;refine (CW _ F b g (oI ring size) 0 _ Rh.o.1.log (by show ([]:List (Nat×List UInt8)).length≤_;simp)).mono ?_;rintro e w9 ⟨rfl,F9,ZE,ZF⟩;have ZG:=aa (show Log w9 F9 b g ((oI ring size).with (Wl.wr (false,Dk.fresh size) (0,Wl.first (oI ring size).d.fB.length ring 0 1)))∧bS F w1 F9 w9 from⟨ZE,Rh.o.2.trans ZF⟩);obtain⟨_,_,SI⟩:=ZE;have d0:w9.cell? ⟨b,0,none⟩=some (.pointer (some ⟨g,0,none⟩)):=SI.c0;have d1:w9.cell? ⟨b,1,none⟩=some (.int .i64 ring):=SI.c1;have d3:w9.cell? ⟨b,3,none⟩=some (.int .i64 0):=SI.c3;have d4:w9.cell? ⟨b,4,none⟩=some (.int .u64 1):=SI.c4;clear SI ZF))
   clear c0 c1 c3 c4 d0 d1 d3 d4
   go_wp2
   go_ret
   have e1:(oI ring size).d.fB.length=size:=hlen
   rw[e1] at ZG
   exact⟨rfl,F9,ZG.o⟩
theorem AD (s:ByteArray):strCells s++(zeros.map bL).drop s.size=(Dk.full s.data.toList).map bL:=by
 rw[←tO s,zeros,List.map_replicate];rfl
def bare (ring homes:Nat) (d:Dk.b9):Wl.Lg:=⟨ring,homes,0,0,0,[],false,d⟩
theorem i_.make {w:World} {FD:Nat→Prop} {g ring homes:Nat} {d:Dk.b9} (hs:nZ w FD g d):
  i_ ((w.alloc (.map #[] 0)).alloc (.cells (lY g w.heap.size (bare ring homes d)).toArray 108)) (both FD (fun k=>k=w.heap.size∨k=w.heap.size+1)) (w.heap.size+1) g w.heap.size FD (bare ring homes d)∧
  bS FD w (both FD (fun k=>k=w.heap.size∨k=w.heap.size+1)) ((w.alloc (.map #[] 0)).alloc (.cells (lY g w.heap.size (bare ring homes d)).toArray 108)):=by
 have hb:aE (fun _=>False) w ((w.alloc (.map #[] 0)).alloc (.cells (lY g w.heap.size (bare ring homes d)).toArray 108)):=((aE.refl _ w).alloc _).alloc _
 have hlt:=hs.lt
 refine⟨⟨?_, ?_,hs.but hb (fun _ _ h=>h),fun h=>by have:=hlt _ h;omega,fun h=>by have:=hlt _ h;omega,.inr (.inr rfl),.inr (.inl rfl),fun k hk=>.inl hk,fun k hk=> ?_⟩,hb.mono (fun _ _ h=>h.elim),fun k hk=> ?_⟩
 ·have:=aS.new (w.alloc (.map #[] 0)) (lY g w.heap.size (bare ring homes d)).toArray 108
  rw[bk] at this
  exact this
 ·exact (fR.made Tryz.prog Mk pS w).but ((aE.refl (fun _=>False) _).alloc _) id
 ·simp only[bk]
  rcases hk with hk|hk|hk
  ·grind
  ·omega
  ·omega
 ·rcases hk with hk|hk|hk
  ·exact .inl hk
  ·exact .inr (by omega)
  ·exact .inr (by omega)
theorem C0 (w:World) (FD:Nat→Prop) (g ring size:Nat) (hs:nZ w FD g (Dk.fresh size)) (lS:4≤ring) (jS:ring≤4096) (hs1:ring+2≤size) (kN:size≤65536):
  Calls Tryz.prog 26 #[ptr g,.int .i64 ring] w fun e w'=>∃b F',e=.returned (.tuple #[ptr b,.int .i64 0])∧Log w' F' b g (Wl.begun size ring)∧bS FD w F' w':=by
 have HS:=aa hs
 have HN:=aa (And.intro lS (And.intro jS (And.intro hs1 kN)))
 have i1:(4:Int)≤ring:=by omega
 have i2:(ring:Int)≤4096:=by omega
 have i3:(ring:Int)+2≤size:=by omega
 have i4:(size:Int)≤65536:=by omega
 have hlen:(Dk.fresh size).fB.length=size:=by simp[Dk.fresh]
 have HHo:=aa (show ((size:Int)-1-ring)=((size-1-ring:Nat):Int) by omega)
 clear hs lS jS hs1 kN
 have hmm:=@run_makeMap Tryz.prog
 go_enter Tryz.func26,Tryz.ntmps26
 unfold ptr
 go_wp2_with fail
 refine (pN w FD g _ HS.o).mono ?_
 rintro e w1 ⟨rfl,rfl⟩
 rw[hlen]
 go_wp2_with fail
 refine (eG w1 FD g _ HS.o).mono ?_
 rintro e w2 ⟨rfl,rfl⟩
 rw[show (Dk.fresh size).off=false from rfl]
 go_wp2_with fail
 refine (pN w2 FD g _ HS.o).mono ?_
 rintro e w3 ⟨rfl,rfl⟩
 rw[hlen]
 go_wp2_with fail
 rw[HHo.o]
 have hmk:=i_.make (ring:=ring) (homes:=(size-1-ring)) HS.o
 obtain⟨V,hV⟩:∃V,V=((w3.alloc (.map #[] 0)).alloc (.cells (lY g w3.heap.size (bare ring (size-1-ring) (Dk.fresh size))).toArray 108)):=⟨_,rfl⟩
 rw[←hV] at hmk
 change Calls Tryz.prog _ _ ((w3.alloc (.map #[] 0)).alloc (.cells (lY g w3.heap.size (bare ring (size-1-ring) (Dk.fresh size))).toArray 108)) _
 rw[←hV]
 have HK:=aa (show ∃F,Log V F (w3.heap.size+1) g (bare ring (size-1-ring) (Dk.fresh size))∧bS FD w3 F V from⟨_,hmk.1.log,hmk.2⟩)
 clear hmk hV hmm
 obtain⟨b,hb⟩:∃b,b=w3.heap.size+1:=⟨_,rfl⟩
 rw[←hb] at HK ⊢
 clear hb
 obtain⟨F,hL,hM⟩:=HK.o
 have HL:=aa (And.intro hL hM)
 clear hL hM HK
 refine (F7 V F b g ring size HL.o.1 HN.o.2.1 HN.o.2.2.2 (by have:=HN.o.2.2.1;omega)).mono ?_
 rintro e w4 ⟨rfl,F4,ZH,ZI⟩
 have H4:=aa (And.intro ZH (HL.o.2.trans ZI))
 clear ZH ZI
 go_wp2_with fail
 refine (CX w4 F4 b g _ H4.o.1).mono ?_
 rintro e w6 ⟨rfl,F6,PM,LS⟩
 change Log w6 F6 b g ((oI ring size).with (Wl.fl (Wl.wr (false,Dk.fresh size) (0,Wl.first size ring 0 1)))) at PM
 rw[Wl.CB size ring (by have:=HN.o.2.2.1;omega)] at PM
 have c7:w6.cell? ⟨b,7,none⟩=some (.bool false):=PM.c7
 have H6:=aa (show Log w6 F6 b g (Wl.begun size ring)∧bS FD w3 F6 w6 from⟨PM,H4.o.2.trans LS⟩)
 clear PM LS
 go_wp2
 go_ret2
 exact⟨b,F6,rfl,H6.o⟩
def Left (w w':World) (F:Nat→Prop) (b g:Nat) (Q:Wl.Lg→Prop):Prop:=∃F' s',Log w' F' b g s'∧bS F w F' w'∧Q s'
def gG (H:List Wl.Text) (i:Int):Wl.Text×Int:=if 0≤i∧i<H.length then (H.getD i.toNat [],0) else ([],2)
theorem F8 {ring N:Nat} {s:Wl.Lg} {H:List Wl.Text} (h:Wl.Live ring N s H) (i:Int):s.read i=gG H i:=by
 obtain⟨h1,h2,h3,h4,h5,h6,h7,h8,h9,h10,h11,h12,h13⟩:=h.read
 unfold Wl.Lg.read gG
 rw[h.off_eq,if_neg (by decide)]
 have e2:=h.homes_eq
 have e1:=h.Ey
 by_cases hi:0≤i∧i<H.length
 ·have hh:s.has i=true:=by simp[Wl.Lg.has,e2,hi.1,hi.2]
  rw[hh,if_neg (by decide),if_pos hi]
  obtain⟨j,rfl⟩:∃j:Nat,i=j:=⟨i.toNat,by omega⟩
  rw[cX]
  have hj:j<H.length:=by omega
  have hx:=h13 j hj
  rw[aJ hj] at hx
  rw[bT,aJ hj,Option.getD_some]
  cases hl:Wl.look j s.wait with
  |some t=>
   rw[hl] at hx
   have hx':H[j]=t:=by simpa using hx
   rw[hx']
  |none=>
   rw[hl,Option.none_or] at hx
   show s.d.read ((1+s.ring+j:Nat):Int)=_
   rw[e1]
   exact Dk.ED h.on hx.symm
 ·grind [Wl.Lg.has]
theorem F_ (w:World) (F:Nat→Prop) (b g ring N:Nat) (s:Wl.Lg) (H:List Wl.Text) (i:Int) (hl:Log w F b g s) (hv:Wl.Live ring N s H):
  Calls Tryz.prog 198 #[ptr b,.int .i64 i] w fun e w'=>e=.returned (.tuple #[.string (bs (gG H i).1),.int .i64 (gG H i).2])∧Below w.heap.size w w':=by
 refine (F5 w F b g s i hl hv.Iv).mono ?_
 rintro e w' ⟨rfl,hb⟩
 rw[F8 hv i]
 exact⟨rfl,hb⟩
theorem C2 (w:World) (FD:Nat→Prop) (g ring size:Nat) (hs:nZ w FD g (Dk.fresh size)) (lS:4≤ring) (jS:ring≤4096) (hs1:ring+2≤size) (kN:size≤65536):
  Calls Tryz.prog 26 #[ptr g,.int .i64 ring] w fun e w'=>∃b,e=.returned (.tuple #[ptr b,.int .i64 0])∧Left w w' FD b g (fun s'=>Wl.Live ring 1 s' (Wl.dz (size-1-ring))∧s'.d.fuel<0):=by
 refine (C0 w FD g ring size hs lS jS hs1 kN).mono ?_
 rintro e w' ⟨b,F',rfl,hL,hM⟩
 exact⟨b,rfl,F',_,hL,hM,Wl.CA size ring lS jS hs1 kN,by show (-1:Int)<0;decide⟩
theorem nL {H:List Wl.Text} {k:Nat} (hk:k<H.length):gG H (k:Nat)=(H[k],0):=by
 unfold gG
 rw[if_pos (by omega),cX,bT,aJ hk];rfl
def Kept (A:Nat→Prop) (ring:Nat) (wr:World) (b g N:Nat) (H:List Wl.Text):Prop:=
 ∃F s,Log wr F b g s∧Wl.Live ring N s H∧s.d.fuel<0∧(∀x,F x→¬A x)∧∀x,A x→x<wr.heap.size
abbrev SJ (A:Nat→Prop) (w w':World):Prop:=aE (fun x=>¬A x) w w'
theorem SJ.below {A:Nat→Prop} {B:Nat} {w w':World} (h:SJ A w w') (hA:∀x,x<B→A x) (hB:B≤w.heap.size):Below B w w':=aE.below h hB (fun k hk hn=>hn (hA k hk))
theorem Kept.left {A:Nat→Prop} {ring b g N:Nat} {H:List Wl.Text} {w w':World} {F F':Nat→Prop} {s':Wl.Lg} (ha:∀x,F x→¬A x) (hlt:∀x,A x→x<w.heap.size) (hL:Log w' F' b g s') (hM:bS F w F' w') (hv:Wl.Live ring N s' H) (hf:s'.d.fuel<0):
  Kept A ring w' b g N H∧SJ A w w':=
 ⟨⟨F',s',hL,hv,hf,fun x hx hn=>by
  rcases hM.2 x hx with h|h
  ·exact ha x h hn
  ·have:=hlt x hn;omega,fun x hx=>cW (hlt x hx) hM.1.size⟩,hM.1.mono (fun x _ hx=>ha x hx)⟩
def PN (A:Nat→Prop) (ring:Nat) (w w':World) (b g N:Nat) (H:List Wl.Text):Prop:=Kept A ring w' b g N H∧SJ A w w'
theorem xF {A:Nat→Prop} {ring b g N:Nat} {H:List Wl.Text} {w:World} (h:Kept A ring w b g N H) (i:Int):
  Calls Tryz.prog 198 #[ptr b,.int .i64 i] w fun e w'=>e=.returned (.tuple #[.string (bs (gG H i).1),.int .i64 (gG H i).2])∧Below w.heap.size w w':=by
 obtain⟨F,s,hl,hv,hf,hA,hlt⟩:=h
 exact F_ w F b g ring N s H i hl hv
theorem C3 {A:Nat→Prop} {g ring size:Nat} {w:World} {FD:Nat→Prop} (hs:nZ w FD g (Dk.fresh size)) (hA:∀x,FD x→¬A x) (hlt:∀x,A x→x<w.heap.size) (lS:4≤ring) (jS:ring≤4096) (hs1:ring+2≤size) (kN:size≤65536):
  Calls Tryz.prog 26 #[ptr g,.int .i64 ring] w fun e w'=>∃b,e=.returned (.tuple #[ptr b,.int .i64 0])∧PN A ring w w' b g 1 (Wl.dz (size-1-ring)):=by
 refine (C2 w FD g ring size hs lS jS hs1 kN).mono ?_
 rintro e w' ⟨b,rfl,F',s',hL,hM,hv,hf⟩
 exact⟨b,rfl,Kept.left hA hlt hL hM hv hf⟩
theorem JF:dD Tryz.prog 77 3 (fP .i64).size:=dD.of (size:=1) (bytes:=8) (z:=.int .i64 0) Tryz.underlying77 (by kernel_rfl) rfl (by decide)
abbrev mZ (B:Nat) (w:World) (v:Value) (l:List Int):Prop:=Own (fP .i64) 3 B w v l
theorem mZ.at {B:Nat} {w:World} {f n cf:Nat} {l:List Int} (h:mZ B w (.slice (some ⟨f,0,none⟩) n cf) l) (j:Nat) (hj:j<l.length):w.cell? ⟨f,j,none⟩=some (.int .i64 l[j]):=by
 have:=Own.lies h j (.int .i64 l[j]) (by rw[show (fP .i64).cells l=l.map (fun n=>Value.int .i64 n) from cM _ _ _];simp[hj])
 rwa [bV] at this
theorem uy (w:World) (x:Int):a_ (fP .i64) (w.alloc (.cells #[.int .i64 x] 3)) w.heap.size 0 [x]:=
 a_.gh (aS.new w #[.int .i64 x] 3) rfl
end
section
open Go.RowKit Go.Maps Lib
def MN (l:List UInt8):Value:=.int .i64 l.length
def EJ:Value→Option (DataW Unit×List MemPlace)
 |.int .i64 n=>if 0≤n then some (.lit (.string (Tx.un n.toNat)),[]) else none
 |_=>none
theorem Ga {v:Value} {y:DataW Unit×List MemPlace} (h:EJ v=some y):∃l,v=MN l∧l=Tx.un l.length∧y=(.lit (.string l),[]):=by
 unfold EJ at h
 split at h
 ·rename_i n
  split at h
  ·injection h with h
   refine⟨Tx.un n.toNat, ?_,by rw[Tx.fT],h.symm⟩
   unfold MN
   rw[Tx.fT]
   congr 1;omega
  ·cases h
 ·cases h
def wJ:ME:=⟨MN,EJ,fun l=>l=Tx.un l.length,fun l h=>by
 unfold MN EJ
 simp only
 rw[if_pos (by omega),cX,←h],fun _ _ h=>Ga h⟩
abbrev oU (w:World) (b:Nat) (m:Wl.eE):Prop:=fR Tryz.prog 3 wJ w b m
theorem jq:Tryz.prog.underlying 75=some (.map 3 3):=Tryz.underlying75
theorem uz (w:World):(zeroValue 3).run Tryz.prog w=.ok (wJ.enc []) w:=by kernel_rfl
theorem oU.iC {w:World} {b:Nat} {m:Wl.eE} (h:oU w b m) {k n:Nat} (hk:k≤1000000) (hl:Wl.look k m=some (Tx.un n)):(Instr.lookup 75 (.map (some b)) (.int .i64 k) true).run Tryz.prog w=.ok (.tuple #[.int .i64 n,.bool true]) w:=by
 have:=(fR.iC (M:=wJ) h gP jq (uz w) rfl hk hl).1
 rw[show wJ.enc (Tx.un n)=.int .i64 n by show Value.int .i64 ((Tx.un n).length:Nat)=_;rw[Tx.fT]] at this
 exact this
theorem oU.dU {w:World} {b:Nat} {m:Wl.eE} (h:oU w b m) {k:Nat} (hk:k≤1000000) (hl:Wl.look k m=none):(Instr.lookup 75 (.map (some b)) (.int .i64 k) true).run Tryz.prog w=.ok (.tuple #[.int .i64 0,.bool false]) w:=
 fR.dU (M:=wJ) h gP jq (uz w) rfl hk hl
def qb:Elem (Nat×List UInt8):=⟨fun x=>[.int .i64 x.1,.string (bs x.2)],2,by decide,fun _=>rfl,by
 intro a u hu
 simp only[aQ,List.not_mem_nil,or_false] at hu
 rcases hu with rfl|rfl<;>rfl⟩
theorem AE:dD Tryz.prog 76 251 qb.size:=dD.of (size:=2) (bytes:=24) (z:=.agg #[.int .i64 0,.string .empty]) Tryz.underlying76 (by kernel_rfl) rfl (by decide)
abbrev oV (B:Nat) (w:World) (v:Value) (l:List (Nat×List UInt8)):Prop:=Own qb 251 B w v l
theorem oV.at {B:Nat} {w:World} {o n co:Nat} {ws:List (Nat×List UInt8)} (h:oV B w (.slice (some ⟨o,0,none⟩) n co) ws) (k:Nat) (hk:k<ws.length):
  w.cell? ⟨o,k*2,none⟩=some (.int .i64 (ws[k]).1)∧w.cell? ⟨o,k*2+1,none⟩=some (.string (bs (ws[k]).2)):=by
 have h0:=(Own.lies h).at k 0 (by decide) hk _ rfl
 have h1:=(Own.lies h).at k 1 (by decide) hk _ rfl
 rw[bV] at h0 h1
 exact⟨h0,h1⟩
structure fE (w:World) (T:Nat→Prop) (tb lb mb:Nat) (vp vb:Value) (ps:List (Nat×List UInt8)) (bl:List Int) (m:Wl.eE):Prop where
 blk:aS w tb 79 [ptr lb,vp,vb,.map (some mb)]
 op:oV 0 w vp ps
 ob:mZ 0 w vb bl
 mp:oU w mb m
 fb:T tb
 fm:T mb
 fp:∀k,vp.ownBlock=some k→T k
 fv:∀k,vb.ownBlock=some k→T k
 lt:∀k,T k→k<w.heap.size
 small:∀p∈ps,p.1≤65536∧p.2.length≤512
def wK (w:World) (T:Nat→Prop) (tb lb:Nat) (ps:List (Nat×List UInt8)):Prop:=∃mb vp vb,fE w T tb lb mb vp vb ps (Tx.gT ps) (Tx.cQ ps)
namespace fE
variable {w w1:World} {T S:Nat→Prop} {tb lb mb:Nat} {vp vb:Value} {ps:List (Nat×List UInt8)} {bl:List Int} {m:Wl.eE}
theorem but (h:fE w T tb lb mb vp vb ps bl m) (hb:aE S w w1) (hn:∀k,T k→¬S k):fE w1 T tb lb mb vp vb ps bl m:=
 ⟨h.blk.but hb (hn tb h.fb),Own.but h.op hb (fun k hk=>hn k (h.fp k hk)),Own.but h.ob hb (fun k hk=>hn k (h.fv k hk)),h.mp.but hb (hn mb h.fm),h.fb,h.fm,h.fp,h.fv,fun k hk=>cW (h.lt k hk) hb.size,h.small⟩
theorem below (h:fE w T tb lb mb vp vb ps bl m) (hb:Below w.heap.size w w1):fE w1 T tb lb mb vp vb ps bl m:=h.but (aE.aH hb (fun _=>False)) (fun _ _ hf=>hf)
theorem Sc (h:fE w T tb lb mb vp vb ps bl m):mb≠tb:=h.mp.cY h.blk
theorem Ri (h:fE w T tb lb mb vp vb ps bl m):vp.ownBlock≠some tb:=Own.cY h.op h.blk (by decide)
theorem bne (h:fE w T tb lb mb vp vb ps bl m):vb.ownBlock≠some tb:=Own.cY h.ob h.blk (by decide)
theorem SK (h:fE w T tb lb mb vp vb ps bl m) {k:Nat} (hk:vp.ownBlock=some k):vb.ownBlock≠some k:=Own.Cv h.op h.ob (by decide) hk
theorem SL (h:fE w T tb lb mb vp vb ps bl m) {k:Nat} (hk:vp.ownBlock=some k):k≠mb:=by
 intro e
 subst e
 obtain⟨cur,hc⟩:=Own.typed h.op hk
 obtain⟨es,clock,hm⟩:=h.mp.isMap
 rw[hc] at hm
 cases hm
theorem SM (h:fE w T tb lb mb vp vb ps bl m) {k:Nat} (hk:vb.ownBlock=some k):k≠mb:=by
 intro e
 subst e
 obtain⟨cur,hc⟩:=Own.typed h.ob hk
 obtain⟨es,clock,hm⟩:=h.mp.isMap
 rw[hc] at hm
 cases hm
theorem c0 (h:fE w T tb lb mb vp vb ps bl m):w.cell? ⟨tb,0,none⟩=some (.pointer (some ⟨lb,0,none⟩)):=h.blk.cell rfl
theorem c1 (h:fE w T tb lb mb vp vb ps bl m):w.cell? ⟨tb,1,none⟩=some vp:=h.blk.cell rfl
theorem c2 (h:fE w T tb lb mb vp vb ps bl m):w.cell? ⟨tb,2,none⟩=some vb:=h.blk.cell rfl
theorem c3 (h:fE w T tb lb mb vp vb ps bl m):w.cell? ⟨tb,3,none⟩=some (.map (some mb)):=h.blk.cell rfl
theorem PO {W W4:World} {v v':Value} (hW:Below w.heap.size w W) (hg:W.grownBy W4 v.ownBlock) (hT:∀k,v.ownBlock=some k→T k) (hv:v'.ownBlock=v.ownBlock∨∀k,v'.ownBlock=some k→W.heap.size≤k):
  aE (fun k=>v.ownBlock=some k) w W4∧∀k,v'.ownBlock=some k→T k∨w.heap.size≤k:=by
 refine⟨⟨hg.os.trans hW.os,hg.tape.trans hW.tape,hg.output.trans hW.output,aG hW.size hg.size,fun k hk hn=>(hg.block k (cW hk hW.size) (fun e=>hn e.symm)).trans (hW.block k hk)⟩,fun k hk=> ?_⟩
 rcases hv with e|e
 ·grind
 ·exact .inr (aG hW.size (e k hk))
theorem spot {W W4:World} {v:Value} (h:fE w T tb lb mb vp vb ps bl m) (hW:Below w.heap.size w W) (hg:W.grownBy W4 v.ownBlock) (hne:v.ownBlock≠some tb) (hT:∀k,v.ownBlock=some k→T k):aS W4 tb 79 [ptr lb,vp,vb,.map (some mb)]∧Below w.heap.size w W:=by
 obtain⟨hb,_⟩:=PO (v':=v) hW hg hT (.inl rfl)
 exact⟨h.blk.but hb hne,hW⟩
theorem EK {W W4:World} {JG:Value} {ZJ:List Int} (h:fE w T tb lb mb vp vb ps bl m) (hW:Below w.heap.size w W) (ho:mZ 0 W4 JG ZJ) (hg:W.grownBy W4 vb.ownBlock) (hv:JG.ownBlock=vb.ownBlock∨∀k,JG.ownBlock=some k→W.heap.size≤k):
  fE (W4.setCell ⟨tb,2,none⟩ JG) (fun k=>T k∨JG.ownBlock=some k) tb lb mb vp JG ps ZJ m∧bS T w (fun k=>T k∨JG.ownBlock=some k) (W4.setCell ⟨tb,2,none⟩ JG):=by
 obtain⟨hb,hn⟩:=PO hW hg h.fv hv
 have b1:aS W4 tb 79 [ptr lb,vp,vb,.map (some mb)]:=h.blk.but hb h.bne
 have aP:aE (· =tb) W4 (W4.setCell ⟨tb,2,none⟩ JG):=(aE.refl _ W4).setCell _ _ (fun _=>rfl)
 have hne:JG.ownBlock≠some tb:=Own.cY ho b1 (by decide)
 refine⟨⟨b1.set 2 JG,Own.but (Own.but h.op hb (fun k hk e=>h.SK hk e)) aP (fun k hk e=>h.Ri (e▸hk)),Own.but ho aP (fun k hk e=>hne (e▸hk)),(h.mp.but hb (fun e=>h.SM e rfl)).but aP h.Sc,.inl h.fb,.inl h.fm,fun k hk=>.inl (h.fp k hk),fun k hk=>.inr hk,fun k hk=> ?_,h.small⟩, ?_, ?_⟩
 ·show k<(W4.setCell _ _).heap.size
  rw[World.size_setCell]
  rcases hk with hk|hk
  ·exact cW (h.lt k hk) hb.size
  ·exact (Own.block ho k hk).2
 ·exact (hb.mono (fun k _ e=>h.fv k e)).trans aP (fun k _ e=>e▸h.fb)
 ·rintro k (hk|hk)
  ·exact .inl hk
  ·exact hn k hk
theorem EL {W W4:World} {JH:Value} {ps':List (Nat×List UInt8)} (h:fE w T tb lb mb vp vb ps bl m) (hW:Below w.heap.size w W) (ho:oV 0 W4 JH ps') (hg:W.grownBy W4 vp.ownBlock) (hv:JH.ownBlock=vp.ownBlock∨∀k,JH.ownBlock=some k→W.heap.size≤k) (hs:∀p∈ps',p.1≤65536∧p.2.length≤512):
  fE (W4.setCell ⟨tb,1,none⟩ JH) (fun k=>T k∨JH.ownBlock=some k) tb lb mb JH vb ps' bl m∧bS T w (fun k=>T k∨JH.ownBlock=some k) (W4.setCell ⟨tb,1,none⟩ JH):=by
 obtain⟨hb,hn⟩:=PO hW hg h.fp hv
 have b1:aS W4 tb 79 [ptr lb,vp,vb,.map (some mb)]:=h.blk.but hb h.Ri
 have aP:aE (· =tb) W4 (W4.setCell ⟨tb,1,none⟩ JH):=(aE.refl _ W4).setCell _ _ (fun _=>rfl)
 have hne:JH.ownBlock≠some tb:=Own.cY ho b1 (by decide)
 refine⟨⟨b1.set 1 JH,Own.but ho aP (fun k hk e=>hne (e▸hk)),Own.but (Own.but h.ob hb (fun k hk e=>h.SK e hk)) aP (fun k hk e=>h.bne (e▸hk)),(h.mp.but hb (fun e=>h.SL e rfl)).but aP h.Sc,.inl h.fb,.inl h.fm,fun k hk=>.inr hk,fun k hk=>.inl (h.fv k hk),fun k hk=> ?_,hs⟩, ?_, ?_⟩
 ·show k<(W4.setCell _ _).heap.size
  rw[World.size_setCell]
  rcases hk with hk|hk
  ·exact cW (h.lt k hk) hb.size
  ·exact (Own.block ho k hk).2
 ·exact (hb.mono (fun k _ e=>h.fp k e)).trans aP (fun k _ e=>e▸h.fb)
 ·rintro k (hk|hk)
  ·exact .inl hk
  ·exact hn k hk
theorem map' {W4:World} {m':Wl.eE} (h:fE w T tb lb mb vp vb ps bl m) (hm:oU W4 mb m') (hb:aE (fun k=>k=mb) w W4):fE W4 T tb lb mb vp vb ps bl m'∧bS T w T W4:=
 ⟨⟨h.blk.but hb (fun e=>h.Sc e.symm),Own.but h.op hb (fun _ hk e=>h.SL hk e),Own.but h.ob hb (fun _ hk e=>h.SM hk e),hm,h.fb,h.fm,h.fp,h.fv,fun k hk=>cW (h.lt k hk) hb.size,h.small⟩,hb.mono (fun _ _ e=>e▸h.fm),fun _ hk=>.inl hk⟩
end fE
theorem wK.but {S:Nat→Prop} {w w1:World} {T:Nat→Prop} {tb lb:Nat} {ps:List (Nat×List UInt8)} (h:wK w T tb lb ps) (hb:aE S w w1) (hn:∀k,T k→¬S k):wK w1 T tb lb ps:=by
 obtain⟨mb,vp,vb,h⟩:=h
 exact⟨mb,vp,vb,h.but hb hn⟩
theorem wK.lt {w:World} {T:Nat→Prop} {tb lb:Nat} {ps:List (Nat×List UInt8)} (h:wK w T tb lb ps):∀k,T k→k<w.heap.size:=by
 obtain⟨_,_,_,h⟩:=h
 exact h.lt
theorem C4 (w:World) (lb:Nat):
  Calls Tryz.prog 8 #[ptr lb] w fun e w'=>∃tb T,e=.returned (ptr tb)∧wK w' T tb lb []∧(∀k,T k→w.heap.size≤k)∧Below w.heap.size w w':=by
 have hmm:=@run_makeMap Tryz.prog
 go_enter Tryz.func8,Tryz.ntmps8
 unfold ptr
 go_wp2
 go_ret
 have hb:=aS.new (w.alloc (.map #[] 0)) #[.pointer (some ⟨lb,0,none⟩),.slice none 0 0,.slice none 0 0,.map (some w.heap.size)] 79
 rw[bk] at hb
 refine⟨w.heap.size+1,fun k=>k=w.heap.size∨k=w.heap.size+1,rfl,⟨w.heap.size,.slice none 0 0,.slice none 0 0,hb,Own.nil _ _ _ _,Own.nil _ _ _ _,(fR.made _ _ _ _).kept (World.grownBy_alloc _ _ none) (by simp),.inr rfl,.inl rfl,fun k hk=>(by simp[Value.ownBlock] at hk),fun k hk=>(by simp[Value.ownBlock] at hk),fun k hk=>(by simp;omega),fun p hp=>by cases hp⟩,fun k hk=>(by omega), ?_⟩
 exact ((Below.refl _ w).alloc (af _) _).alloc (by simp) _
theorem qc (w:World) (T:Nat→Prop) (tb lb:Nat) (ps:List (Nat×List UInt8)) (h:wK w T tb lb ps):
  Calls Tryz.prog 138 #[ptr tb] w fun e w'=>e=.returned (.int .i64 ps.length)∧w'=w:=by
 obtain⟨mb,vp,vb,h⟩:=h
 have c1:=h.c1
 obtain⟨a,c,hv,_⟩:=Own.slice h.op
 subst hv
 clear h
 go_enter Tryz.func138,Tryz.ntmps138
 unfold ptr
 go_wp2
 go_ret
 exact⟨rfl,rfl⟩
def AF (w:World) (lb n:Nat):Prop:=∃F g s,Log w F lb g s∧s.off=false∧s.homes=n
theorem jC (w:World) (T:Nat→Prop) (tb lb n:Nat) (ps:List (Nat×List UInt8)) (h:wK w T tb lb ps) (hl:AF w lb n):
  Calls Tryz.prog 196 #[ptr tb] w fun e w'=>e=.returned (.bool false)∧w'=w:=by
 obtain⟨mb,vp,vb,h⟩:=h
 obtain⟨F,g,s,hL,ho,_⟩:=hl
 have c0:=h.c0
 have HL:=aa hL
 clear h hL
 go_enter Tryz.func196,Tryz.ntmps196
 unfold ptr
 go_wp2_with fail
 refine (xA w F lb g s HL.o).mono ?_
 rintro e w1 ⟨rfl,rfl⟩
 rw[ho]
 go_wp2
 go_ret
 exact⟨rfl,rfl⟩
theorem AG (w:World) (T:Nat→Prop) (tb lb n:Nat) (ps:List (Nat×List UInt8)) (h:wK w T tb lb ps) (hl:AF w lb n):
  Calls Tryz.prog 165 #[ptr tb] w fun e w'=>e=.returned (.int .i64 n)∧w'=w:=by
 obtain⟨mb,vp,vb,h⟩:=h
 obtain⟨F,g,s,hL,_,rfl⟩:=hl
 have c0:=h.c0
 have HL:=aa hL
 clear h hL
 go_enter Tryz.func165,Tryz.ntmps165
 unfold ptr
 go_wp2_with fail
 refine (nK w F lb g s HL.o).mono ?_
 rintro e w1 ⟨rfl,rfl⟩
 go_wp2
 go_ret
 exact⟨rfl,rfl⟩
theorem C5 (w:World) (T:Nat→Prop) (tb lb:Nat) (ps:List (Nat×List UInt8)) (i:Nat) (h:wK w T tb lb ps) (hi:i≤65536):
  Calls Tryz.prog 214 #[ptr tb,.int .i64 i] w fun e w'=>e=.returned (.int .i64 (Tx.gK (Tx.cQ ps) i))∧w'=w:=by
 obtain⟨mb,vp,vb,h⟩:=h
 have c3:=h.c3
 have HP:=aa h
 clear h
 rcases Tx.mg i ps with⟨h1,-⟩|⟨k,hk,h1,-,-⟩
 ·have hlk:=oU.dU HP.o.mp (by omega) h1
  have HE:=aa (show Tx.gK (Tx.cQ ps) i=-1 by unfold Tx.gK;rw[h1])
  clear h1
  go_enter Tryz.func214,Tryz.ntmps214
  unfold ptr
  go_wp2
  go_ret
  exact⟨by rw[HE.o];rfl,rfl⟩
 ·have hlk:=oU.iC HP.o.mp (by omega) h1
  have HE:=aa (show Tx.gK (Tx.cQ ps) i=(k:Int) by unfold Tx.gK;rw[h1];simp[Tx.fT])
  clear h1 hk
  go_enter Tryz.func214,Tryz.ntmps214
  unfold ptr
  go_wp2
  go_ret
  exact⟨by rw[HE.o];rfl,rfl⟩
end
section
open Go.RowKit Lib
theorem AH (s:ByteArray) (w:World) (hlim:s.size≤1000000):
  Calls Tryz.prog 83 #[.string s] w fun e w'=>e=.returned (.string s)∧Below w.heap.size w w':=by
 by_cases h0:s.size=0
 ·have hs:s=⟨#[]⟩:=by
   apply ByteArray.ext
   exact Array.eq_empty_of_size_eq_zero h0
  subst hs
  go_enter Tryz.func83,Tryz.ntmps83
  go_wp2
  go_ret
  exact⟨rfl,Below.refl _ _⟩
 ·have hinfo:(Tryz.prog.info? 5).map (·.size)=some 1:=by kernel_rfl
  have Va:Tryz.prog.cellsOf 5=1:=by kernel_rfl
  obtain⟨M,hM⟩:∃M,M=(bg s.size (Value.int .u8 0)).toArray:=⟨_,rfl⟩
  have hMs:M.size=s.size:=by rw[hM];simp
  have hmk:=fun W:World=>tM W s.size hlim
  rw[←hM] at hmk
  clear hM
  have IB:=Lib.run_copy_row_string (P:=Tryz.prog) (w.alloc (.cells M 5)) 94 9 3 5 w.heap.size 0 s.size s.size s M 5 Tryz.underlying94 hinfo (heap_alloc_new w _) (af _) (by omega)
  obtain⟨Y,hY⟩:∃Y,Y=(M.toList.take 0++Lib.byteCells s.data.toList++M.toList.drop (0+s.size)).toArray:=⟨_,rfl⟩
  rw[←hY] at IB
  have OL:Y.toList=Lib.byteCells s.data.toList:=by
   simp_all
  have hYs:Y.size=s.size:=by rw[←aZ,OL,Lib.byteCells_length,←Lib.size_eq]
  have SN:((w.alloc (.cells M 5)).setRow w.heap.size Y).heap[w.heap.size]?=some (.cells Y 5 (0,0)):=setRow_heap _ _ M _ 5 (0,0) (heap_alloc_new w _)
  have hne:s.data.toList≠[]:=fun e=>h0 (by rw[Lib.size_eq,e];rfl)
  have WE:=Lib.run_unsafeString_row (P:=Tryz.prog) ((w.alloc (.cells M 5)).setRow w.heap.size Y) 207 3 9 5 Tryz.underlying207 Va w.heap.size Y.size (by unfold World.shape?;rw[SN]) s.data.toList hne (by rw[←Lib.size_eq];omega) (by rw[←Lib.size_eq];omega)
   (fun j x hx=>Lib.cells_of_row SN Y.size j _ (by rw[bZ (by rw[aZ];exact af _),OL];simp[Lib.byteCells,hx]))
  rw[←Lib.size_eq] at WE
  clear hY
  go_enter Tryz.func83,Tryz.ntmps83
  go_wp2
  go_ret
  have bF:Below w.heap.size w (w.alloc (.cells M 5)):=(Below.refl _ w).alloc (af _) _
  have aP:Below w.heap.size (w.alloc (.cells M 5)) ((w.alloc (.cells M 5)).setRow w.heap.size Y):=⟨rfl,rfl,rfl,by simp,fun k hk=>setRow_other _ _ _ _ (by omega)⟩
  exact⟨rfl,Lib.below_freeze (bF.trans aP) (p:=⟨w.heap.size,0,none⟩) (af _) _⟩
theorem iG (s:ByteArray) (w:World) (hlim:s.size≤1000000):
  Calls Tryz.prog 53 #[.string s] w fun e w'=>e=.returned (.string s)∧Below w.heap.size w w':=by
 go_enter Tryz.func53,Tryz.ntmps53
 go_wp2_with fail
 refine (AH s w hlim).mono ?_
 rintro e w1 ⟨rfl,hb⟩
 have HB:=aa hb
 clear hb
 go_wp2
 go_ret
 exact⟨rfl,HB.o⟩
theorem MO (w:World):(zeroValue 139).run Tryz.prog w=.ok (ctext zeros) w:=by kernel_rfl
theorem JI (w:World) (c:Nat):(Instr.sliceAt 139 (.pointer (some ⟨c,0,none⟩)) none none none).run Tryz.prog w=.ok (.slice (some ⟨c,0,none⟩) 512 512) w:=by
 have e1:Tryz.prog.arrayLen 139=512:=by kernel_rfl
 have e2:Tryz.prog.elem 139=5:=by kernel_rfl
 have e3:=run_sliceAt_array_all (P:=Tryz.prog) w 139 ⟨c,0,none⟩ (by rw[e1,e2];kernel_rfl)
 rw[e3,e1,e2]
 show ((sizeOf 5).run Tryz.prog w).andThen _=_
 rw[Tryz.sizeOf5]
 simp[go_sem,Addr.add]
theorem MP {w:World} {c:Nat} {t:List UInt8} (hb:aS w c 139 (t.map bL)) (ht:t.length=512):(convert 94 9 (.slice (some ⟨c,0,none⟩) 512 512)).run Tryz.prog w=.ok (.string (bs t)) w:=by
 have:=run_convert_bytes_back (P:=Tryz.prog) w 94 9 5 ⟨c,0,none⟩ 512 t (by kernel_rfl) (by kernel_rfl) (by kernel_rfl) (by
  intro i hi
  rw[qW]
  refine hb.cell ?_
  rw[cJ,aJ hi]
  rfl)
 rw[ht] at this
 exact this
theorem C6 (s:ByteArray) (w:World) (hs:s.size≤512):
  Calls Tryz.prog 197 #[.string s] w fun e w'=>e=.returned (.string (bs (Dk.full s.data.toList)))∧Below w.heap.size w w':=by
 obtain⟨Z,hZ⟩:∃Z,Z=(zeros.map bL).toArray:=⟨_,rfl⟩
 have hz:∀w,(zeroValue 139).run Tryz.prog w=.ok (.agg Z) w:=fun w=>by rw[hZ];exact MO w
 have hzs:Z.size=512:=by rw[hZ];simp[iD]
 have Wa:¬Z=#[]:=by intro e;rw[e] at hzs;cases hzs
 have HZ:=aa hZ
 have H5:=aa hs
 clear hZ hs
 obtain⟨q,hq⟩:∃q,w.heap.size=q:=⟨_,rfl⟩
 obtain⟨V,hV⟩:∃V,V=w.alloc (.cells Z 139):=⟨_,rfl⟩
 have HV:=aa (show aS V q 139 (zeros.map bL)∧Below w.heap.size w V by
  have hb:=aS.new w Z 139
  rw[hq,←hV,HZ.o] at hb
  exact⟨hb,by rw[hV];exact (Below.refl _ _).alloc (af _) _⟩)
 have xj:=fun W=>JI W q
 go_enter Tryz.func197,Tryz.ntmps197
 go_wp2_with (refine mE rfl _ _ _ _ rfl 5 Tryz.underlying94 (by kernel_rfl) q 512 512 s rfl rfl (zeros.map bL).toArray 139 (by first|exact HV.o.1|(rw[←hV];exact HV.o.1)) H5.o (by have:=H5.o;simp[iD];exact this) ?_;refine Hid.o ?_)
 refine aa ?_
 try rw[←hV]
 obtain⟨Y,hY⟩:∃Y,Y=V.setRow q (strCells s++List.drop s.size (List.map bL zeros)).toArray:=⟨_,rfl⟩
 rw[←hY]
 have OM:aE (fun k=>k=q) V Y:=by rw[hY];exact (aE.refl _ _).setRow _ _ (fun _=>rfl)
 have ZK:aS Y q 139 ((Dk.full s.data.toList).map bL):=by
  rw[hY,←AD s]
  exact setRow_heap V q _ _ _ _ HV.o.1
 have hbk:=MP ZK (Dk.eR _ (by rw[aZ];exact H5.o))
 have HB:=aa (show Below w.heap.size w Y from Below.but HV.o.2 OM HV.o.2.size (fun k hk e=>by omega))
 clear hY hV ZK OM
 go_wp2
 go_ret
 exact⟨rfl,HB.o⟩
end
section
open Go.RowKit Go.Maps Lib
theorem MQ (k:Nat):wJ.enc (Tx.un k)=.int .i64 (k:Int):=by show Value.int .i64 ((Tx.un k).length:Nat)=_;rw[Tx.fT]
theorem uA (w:World) (i:Nat) (t:ByteArray):a_ qb (w.alloc (.cells #[.int .i64 i,.string t] 251)) w.heap.size 0 [(i,t.data.toList)]:=
 a_.gh (aS.new w #[.int .i64 i,.string t] 251) rfl
theorem C7 (w:World) (T:Nat→Prop) (tb lb n:Nat) (ps:List (Nat×List UInt8)) (i:Nat) (s:ByteArray) (h:wK w T tb lb ps) (hl:AF w lb n) (hi:i<n) (hn:n≤65536) (hs:s.size≤512) (hp:ps.length≤90000000):
  Calls Tryz.prog 185 #[ptr tb,.int .i64 i,.string s] w fun e w'=>e=.returned (.int .i64 0)∧∃T',wK w' T' tb lb (ps++[(i,s.data.toList)])∧bS T w T' w':=by
 have HP:=aa h
 have HA:=aa hl
 obtain⟨F,g,sl,hL,ho,MR⟩:=hl
 have HL:=aa hL
 obtain⟨mb,vp,vb,hx⟩:=h
 obtain⟨ap,cp,SP,_⟩:=Own.slice hx.op
 subst SP
 have c0:=hx.c0
 have HX:=aa hx
 have HS:=aa (And.intro hs (And.intro hi (And.intro hn hp)))
 have xk:¬(s.size:Int)>512:=by omega
 have Jj:¬(n:Int)≤i:=by omega
 have hi0:¬(i:Int)<0:=by omega
 clear hL hx
 go_enter Tryz.func185,Tryz.ntmps185
 go_wp2_with fail
 refine (jC w T tb lb n ps HP.o HA.o).mono ?_
 rintro e w1 ⟨rfl,rfl⟩
 unfold ptr
 go_wp2_with fail
 refine (nK w1 F lb g sl HL.o).mono ?_
 rintro e w2 ⟨rfl,rfl⟩
 rw[MR]
 have c2:w2.cell? ⟨tb,2,none⟩=some vb:=HX.o.c2
 have c2d:w2.drew.cell? ⟨tb,2,none⟩=some vb:=HX.o.c2
 obtain⟨bf,Co⟩:∃bf,bf=Tx.gK (Tx.cQ ps) i:=⟨_,rfl⟩
 have HBf:=aa Co
 have PL:=C5 w2.drew T tb lb ps i (show wK w2.drew T tb lb ps from HP.o.but ((aE.refl (fun _=>False) w2).drew) (fun _ _ h=>h)) (by omega)
 rw[←Co] at PL
 have Ax:=aa PL
 have hlt:tb<w2.heap.size:=HX.o.lt tb HX.o.fb
 have c2a:(w2.drew.alloc (.cells #[.int .i64 bf] 3)).cell? ⟨tb,2,none⟩=some vb:=(HX.o.blk.drew.alloc _).cell rfl
 clear PL Co ho
 go_wp2_with (refine wp_region_any (by kernel_rfl) ?_;refine Hid.o ?_)
 refine aa ?_
 try (change wpAny _ _ _ _ _ _ _ (bD _))
 refine tk 0 ?_
 refine tk 1 ?_
 refine tk 2 ?_
 refine tk 3 ?_
 refine tk 5 ?_
 refine tk 6 ?_
 refine rd [4,7] (AllReady.cons rfl (fun K hK=> ?_) (rn fun K hK=> ?_))
 focus (
  go_simp
  refine hK _ _ ?_;clear hK K
  refine rd [7] (rn fun K hK=> ?_)
  go_simp
  refine Ax.o.mono ?_;rintro e w3 ⟨rfl,rfl⟩
  refine hK _ _ ?_;clear hK K
  refine rd [8] (rn fun K hK=> ?_)
  go_simp
  refine hK _ _ ?_;clear hK K
  refine rd [9] (rn fun K hK=> ?_)
  refine fQ JF _ _ rfl rfl (Own.alloc (show mZ 0 w2.drew vb (Tx.gT ps) from HX.o.ob) _) (aC _) w2.heap.size 0 1 1 [bf] rfl rfl (uy w2.drew bf) (by have:=HS.o.2.2.2;rw[Tx.cC];omega) ?_;intro v4 w4 fW j6 OO
  refine hK _ _ ?_;clear hK K
  have IC:=HX.o.EK (W:=w2.drew.alloc (.cells #[.int .i64 bf] 3)) ((Below.refl _ w2).drew.alloc (af _) _) fW j6 OO
  obtain⟨a4,SQ,AI,_⟩:=Own.slice fW
  generalize (Tx.gT ps++[bf]).length=N4 at AI
  have e23:=HX.o.spot (W:=w2.drew.alloc (.cells #[.int .i64 bf] 3)) ((Below.refl _ w2).drew.alloc (af _) _) j6 HX.o.bne HX.o.fv
  have e2:=e23.1.cell (j:=2) rfl
  have e3:=e23.1.frozen 2
  subst AI
  have H4:=aa IC
  clear fW j6 OO IC e23
  refine tk 10 ?_
  refine tk 11 ?_
  refine rd [12] (rn fun K hK=> ?_)
  go_simp
  refine hK _ _ ?_;clear hK K
  refine wpAny_done (by kernel_rfl) ?_ _
 )
 rotate_left
 focus (
  go_simp
  refine Ax.o.mono ?_
  rintro e w3 ⟨rfl,rfl⟩
  refine hK _ _ ?_;clear hK K
  refine rd [4,8] (AllReady.cons rfl (fun K hK=> ?_) (rn fun K hK=> ?_))
  focus (
   go_simp
   refine hK _ _ ?_;clear hK K
   refine rd [8] (rn fun K hK=> ?_)
   go_simp
   refine hK _ _ ?_;clear hK K
   refine rd [9] (rn fun K hK=> ?_)
   refine fQ JF _ _ rfl rfl (Own.alloc (show mZ 0 w2.drew vb (Tx.gT ps) from HX.o.ob) _) (aC _) w2.heap.size 0 1 1 [bf] rfl rfl (uy w2.drew bf) (by have:=HS.o.2.2.2;rw[Tx.cC];omega) ?_;intro v4 w4 fW j6 OO
   refine hK _ _ ?_;clear hK K
   have IC:=HX.o.EK (W:=w2.drew.alloc (.cells #[.int .i64 bf] 3)) ((Below.refl _ w2).drew.alloc (af _) _) fW j6 OO
   obtain⟨a4,SQ,AI,_⟩:=Own.slice fW
   generalize (Tx.gT ps++[bf]).length=N4 at AI
   have e23:=HX.o.spot (W:=w2.drew.alloc (.cells #[.int .i64 bf] 3)) ((Below.refl _ w2).drew.alloc (af _) _) j6 HX.o.bne HX.o.fv
   have e2:=e23.1.cell (j:=2) rfl
   have e3:=e23.1.frozen 2
   subst AI
   have H4:=aa IC
   clear fW j6 OO IC e23
   refine tk 10 ?_
   refine tk 11 ?_
   refine rd [12] (rn fun K hK=> ?_)
   go_simp
   refine hK _ _ ?_;clear hK K
   refine wpAny_done (by kernel_rfl) ?_ _
  )
  rotate_left
  focus (
   go_simp
   refine hK _ _ ?_;clear hK K
   refine rd [4] (rn fun K hK=> ?_)
   go_simp
   refine hK _ _ ?_;clear hK K
   refine rd [9] (rn fun K hK=> ?_)
   refine fQ JF _ _ rfl rfl (Own.alloc (show mZ 0 w2.drew vb (Tx.gT ps) from HX.o.ob) _) (aC _) w2.heap.size 0 1 1 [bf] rfl rfl (uy w2.drew bf) (by have:=HS.o.2.2.2;rw[Tx.cC];omega) ?_;intro v4 w4 fW j6 OO
   refine hK _ _ ?_;clear hK K
   have IC:=HX.o.EK (W:=w2.drew.alloc (.cells #[.int .i64 bf] 3)) ((Below.refl _ w2).drew.alloc (af _) _) fW j6 OO
   obtain⟨a4,SQ,AI,_⟩:=Own.slice fW
   generalize (Tx.gT ps++[bf]).length=N4 at AI
   have e23:=HX.o.spot (W:=w2.drew.alloc (.cells #[.int .i64 bf] 3)) ((Below.refl _ w2).drew.alloc (af _) _) j6 HX.o.bne HX.o.fv
   have e2:=e23.1.cell (j:=2) rfl
   have e3:=e23.1.frozen 2
   subst AI
   have H4:=aa IC
   clear fW j6 OO IC e23
   refine tk 10 ?_
   refine tk 11 ?_
   refine rd [12] (rn fun K hK=> ?_)
   go_simp
   refine hK _ _ ?_;clear hK K
   refine wpAny_done (by kernel_rfl) ?_ _
  )
 )
 all_goals (
  obtain⟨X,hX⟩:∃X,X=w4.setCell ⟨tb,2,none⟩ (.slice a4 N4 SQ):=⟨_,rfl⟩
  rw[←hX] at H4 ⊢
  clear hX e2 e3
  obtain⟨T1,Gb⟩:∃T1,Hid (fE X T1 tb lb mb (.slice ap ps.length cp) (.slice a4 N4 SQ) ps (Tx.gT ps++[bf]) (Tx.cQ ps)∧bS T w2 T1 X):=⟨_,H4⟩
  have d1:X.drew.cell? ⟨tb,1,none⟩=some (.slice ap ps.length cp):=Gb.o.1.c1
  have d3:X.drew.cell? ⟨tb,3,none⟩=some (.map (some mb)):=Gb.o.1.c3
  obtain⟨w5,hrun,SR,gS⟩:=fR.JB (T:=75) (show oU X.drew mb (Tx.cQ ps) from Gb.o.1.mp.but ((aE.refl (fun _=>False) X).drew) id) gP jq (by have:=Tx.xE ps;have:=HS.o.2.2.2;omega) (k:=i) (by have:=HS.o;omega) (t:=Tx.un ps.length) (by show Tx.un _=Tx.un (Tx.un _).length;rw[Tx.fT])
  rw[MQ] at hrun
  have H5:=aa (And.intro SR gS)
  clear SR gS
  go_wp2
  go_still_tail 10,(by kernel_rfl)
  change wpList _ _ _ _ _ X.drew
  have HY:=aa (show fE w5 T1 tb lb mb (.slice ap ps.length cp) (.slice a4 N4 SQ) ps (Tx.gT ps++[bf]) (Wl.ins i (Tx.un ps.length) (Tx.cQ ps))∧bS T w2 T1 w5 by
   have dX:aE (fun k=>k=mb) X w5:=((aE.refl _ X).drew).trans (aE.pV H5.o.2) (fun k _ e=>by injection e with e;exact e.symm)
   have hm:=Gb.o.1.map' H5.o.1 dX
   exact⟨hm.1,Gb.o.2.trans hm.2⟩)
  clear d1 d3
  have f0:w5.drew.cell? ⟨tb,1,none⟩=some (.slice ap ps.length cp):=HY.o.1.c1
  have HC:=aa (iG s w5.drew (by have:=HS.o;omega))
  go_wp2_with (refine wp_region_any (by kernel_rfl) ?_;refine Hid.o ?_)
  refine aa ?_
  try (change wpAny _ _ _ _ _ _ _ (bD _))
  refine tk 0 ?_
  refine tk 1 ?_
  refine tk 2 ?_
  refine tk 3 ?_
  refine tk 5 ?_
  refine tk 6 ?_
  refine rd [4,7] (AllReady.cons rfl (fun K hK=> ?_) (rn fun K hK=> ?_))
  focus (
   go_simp
   refine hK _ _ ?_;clear hK K
   refine rd [7] (rn fun K hK=> ?_)
   go_simp
   refine HC.o.mono ?_;rintro e w6 ⟨rfl,yQ⟩;have H6:=aa (((Below.refl _ w5).drew).trans yQ);clear yQ
   refine hK _ _ ?_;clear hK K
   refine tk 8 ?_
   refine rd [9] (rn fun K hK=> ?_)
   go_simp
   refine hK _ _ ?_;clear hK K
   refine rd [10] (rn fun K hK=> ?_)
   refine fQ AE _ _ rfl rfl (Own.alloc (HY.o.1.below H6.o).op _) (aC _) w6.heap.size 0 1 1 [(i,s.data.toList)] rfl rfl (uA w6 i s) (by have:=HS.o.2.2.2;omega) ?_;intro v8 w8 m5 JJ LU
   refine hK _ _ ?_;clear hK K
   have OP:=aa (show Below w5.heap.size w5 (w6.alloc (.cells #[.int .i64 i,.string s] 251)) from H6.o.alloc H6.o.size _)
   have OQ:=HY.o.1.EL OP.o m5 JJ LU (fun p hp=>by
    rcases ah.1 hp with hp|hp
    ·exact HX.o.small p hp
    ·obtain rfl:=cH.1 hp
     have:=HS.o
     refine⟨by show i≤65536;omega, ?_⟩
     show s.data.toList.length≤512
     rw[aZ];exact this.1)
   obtain⟨a8,ZL,AJ,_⟩:=Own.slice m5
   generalize (ps++[(i,s.data.toList)]).length=N8 at AJ
   have e23:=HY.o.1.spot OP.o JJ HY.o.1.Ri HY.o.1.fp
   have e2:=e23.1.cell (j:=1) rfl
   have e3:=e23.1.frozen 1
   subst AJ
   have H8:=aa OQ
   clear m5 JJ LU OQ e23
   refine tk 11 ?_
   refine tk 12 ?_
   refine rd [13] (rn fun K hK=> ?_)
   go_simp
   refine hK _ _ ?_;clear hK K
   refine wpAny_done (by kernel_rfl) ?_ _
  )
  rotate_left
  focus (
   go_simp
   refine HC.o.mono ?_
   rintro e w6 ⟨rfl,yQ⟩
   have H6:=aa (((Below.refl _ w5).drew).trans yQ)
   clear yQ
   refine hK _ _ ?_;clear hK K
   refine tk 8 ?_
   have f1:w6.cell? ⟨tb,1,none⟩=some (.slice ap ps.length cp):=(HY.o.1.below H6.o).c1
   have f2:(w6.alloc (.cells #[.int .i64 i,.string s] 251)).cell? ⟨tb,1,none⟩=some (.slice ap ps.length cp):=((HY.o.1.below H6.o).below ((Below.refl _ w6).alloc (af _) _)).c1
   refine rd [4,9] (AllReady.cons rfl (fun K hK=> ?_) (rn fun K hK=> ?_))
   focus (
    go_simp
    refine hK _ _ ?_;clear hK K
    refine rd [9] (rn fun K hK=> ?_)
    go_simp
    refine hK _ _ ?_;clear hK K
    refine rd [10] (rn fun K hK=> ?_)
    refine fQ AE _ _ rfl rfl (Own.alloc (HY.o.1.below H6.o).op _) (aC _) w6.heap.size 0 1 1 [(i,s.data.toList)] rfl rfl (uA w6 i s) (by have:=HS.o.2.2.2;omega) ?_;intro v8 w8 m5 JJ LU
    refine hK _ _ ?_;clear hK K
    have OP:=aa (show Below w5.heap.size w5 (w6.alloc (.cells #[.int .i64 i,.string s] 251)) from H6.o.alloc H6.o.size _)
    have OQ:=HY.o.1.EL OP.o m5 JJ LU (fun p hp=>by
     rcases ah.1 hp with hp|hp
     ·exact HX.o.small p hp
     ·obtain rfl:=cH.1 hp
      have:=HS.o
      refine⟨by show i≤65536;omega, ?_⟩
      show s.data.toList.length≤512
      rw[aZ];exact this.1)
    obtain⟨a8,ZL,AJ,_⟩:=Own.slice m5
    generalize (ps++[(i,s.data.toList)]).length=N8 at AJ
    have e23:=HY.o.1.spot OP.o JJ HY.o.1.Ri HY.o.1.fp
    have e2:=e23.1.cell (j:=1) rfl
    have e3:=e23.1.frozen 1
    subst AJ
    have H8:=aa OQ
    clear m5 JJ LU OQ e23
    refine tk 11 ?_
    refine tk 12 ?_
    refine rd [13] (rn fun K hK=> ?_)
    go_simp
    refine hK _ _ ?_;clear hK K
    refine wpAny_done (by kernel_rfl) ?_ _
   )
   rotate_left
   focus (
    go_simp
    refine hK _ _ ?_;clear hK K
    refine rd [4] (rn fun K hK=> ?_)
    go_simp
    refine hK _ _ ?_;clear hK K
    refine rd [10] (rn fun K hK=> ?_)
    refine fQ AE _ _ rfl rfl (Own.alloc (HY.o.1.below H6.o).op _) (aC _) w6.heap.size 0 1 1 [(i,s.data.toList)] rfl rfl (uA w6 i s) (by have:=HS.o.2.2.2;omega) ?_;intro v8 w8 m5 JJ LU
    refine hK _ _ ?_;clear hK K
    have OP:=aa (show Below w5.heap.size w5 (w6.alloc (.cells #[.int .i64 i,.string s] 251)) from H6.o.alloc H6.o.size _)
    have OQ:=HY.o.1.EL OP.o m5 JJ LU (fun p hp=>by
     rcases ah.1 hp with hp|hp
     ·exact HX.o.small p hp
     ·obtain rfl:=cH.1 hp
      have:=HS.o
      refine⟨by show i≤65536;omega, ?_⟩
      show s.data.toList.length≤512
      rw[aZ];exact this.1)
    obtain⟨a8,ZL,AJ,_⟩:=Own.slice m5
    generalize (ps++[(i,s.data.toList)]).length=N8 at AJ
    have e23:=HY.o.1.spot OP.o JJ HY.o.1.Ri HY.o.1.fp
    have e2:=e23.1.cell (j:=1) rfl
    have e3:=e23.1.frozen 1
    subst AJ
    have H8:=aa OQ
    clear m5 JJ LU OQ e23
    refine tk 11 ?_
    refine tk 12 ?_
    refine rd [13] (rn fun K hK=> ?_)
    go_simp
    refine hK _ _ ?_;clear hK K
    refine wpAny_done (by kernel_rfl) ?_ _
   )
  )
  all_goals (
   go_wp2
   go_ret
   exact⟨rfl,_,⟨mb,_,_,by rw[Tx.rD,Tx.gF,←HBf.o];exact H8.o.1⟩,HY.o.2.trans H8.o.2⟩
  )
 )
theorem C8 (w:World) (T:Nat→Prop) (tb lb n:Nat) (ps:List (Nat×List UInt8)) (i:Int) (s:ByteArray) (h:wK w T tb lb ps) (hl:AF w lb n) (c:Int)
  (hc:(c=2∧(i<0∨(n:Int)≤i))∨(c=5∧0≤i∧i<n∧512<s.size)):
  Calls Tryz.prog 185 #[ptr tb,.int .i64 i,.string s] w fun e w'=>e=.returned (.int .i64 c)∧w'=w:=by
 have HP:=aa h
 have HA:=aa hl
 obtain⟨F,g,sl,hL,ho,MR⟩:=hl
 have HL:=aa hL
 obtain⟨mb,vp,vb,hx⟩:=h
 have c0:=hx.c0
 clear hL hx
 go_enter Tryz.func185,Tryz.ntmps185
 go_wp2_with fail
 refine (jC w T tb lb n ps HP.o HA.o).mono ?_
 rintro e w1 ⟨rfl,rfl⟩
 unfold ptr
 rcases hc with⟨rfl,hc⟩|⟨rfl,h1,h2,h3⟩
 ·by_cases h0:i<0
  ·go_wp2
   go_ret
   exact⟨rfl,rfl⟩
  ·have hn:(n:Int)≤i:=hc.resolve_left h0
   go_wp2_with fail
   refine (nK w1 F lb g sl HL.o).mono ?_
   rintro e w2 ⟨rfl,rfl⟩
   rw[MR]
   go_wp2
   go_ret
   exact⟨rfl,rfl⟩
 ·have h0:¬i<0:=by omega
  have h4:¬(n:Int)≤i:=by omega
  have h5:(s.size:Int)>512:=by omega
  go_wp2_with fail
  refine (nK w1 F lb g sl HL.o).mono ?_
  rintro e w2 ⟨rfl,rfl⟩
  rw[MR]
  go_wp2
  go_ret
  exact⟨rfl,rfl⟩
end
section
open Go.RowKit Lib
section
variable {α:Type} {K:Elem α} {P:Program} {E T B:Nat} {w:World} {l:List α}
theorem Own.upto {g n cap:Nat} (h:Own K E B w (.slice (some ⟨g,0,none⟩) n cap) l) (k:Nat) (hk:k≤l.length):Own K E B w (.slice (some ⟨g,0,none⟩) k cap) (l.take k):=by
 have hl:(l.take k).length=k:=by rw[aN,b_ hk]
 refine⟨by rw[K.bX], ?_⟩
 rcases h.2 with⟨e,_⟩|⟨g',cap',cur,e,hB,hh,hc,hm,hs,ht⟩
 ·cases e
 ·injection e with e1 e2 e3
  injection e1 with e1
  injection e1 with e1
  subst e1 e2 e3
  refine .inr ⟨g,cap,cur,by rw[hl],hB,hh,by rw[hl];omega,hm,hs, ?_⟩
  rw[hl,K.tK,←ht,List.take_take,b_ (Nat.mul_le_mul_right _ hk)]
theorem Own.behind {g n cap:Nat} (h:Own K E B w (.slice (some ⟨g,0,none⟩) n cap) l) (j:Nat) (u:Value) (hj:l.length*K.size≤j):Own K E B (w.setCell ⟨g,j,none⟩ u) (.slice (some ⟨g,0,none⟩) n cap) l:=by
 refine⟨h.1, ?_⟩
 rcases h.2 with⟨e,_⟩|⟨g',cap',cur,e,hB,hh,hc,hm,hs,ht⟩
 ·cases e
 ·injection e with e1 e2 e3
  injection e1 with e1
  injection e1 with e1
  subst e1 e2 e3
  refine .inr ⟨g,cap,cur.setIfInBounds j u,rfl,hB,heap_setCell_same w g j cur E u hh,hc,hm,by rw[Array.size_setIfInBounds];exact hs, ?_⟩
  rw[Array.toList_setIfInBounds,List.take_set_of_le hj]
  exact ht
theorem Own.cleared {g n cap:Nat}:∀(vs:List Value) (w:World) (j:Nat),Own K E B w (.slice (some ⟨g,0,none⟩) n cap) l→l.length*K.size≤j→Own K E B (w.setCells g j vs) (.slice (some ⟨g,0,none⟩) n cap) l∧aE (fun k=>k=g) w (w.setCells g j vs)
 |[],w,_,h,_=>⟨h,aE.refl _ _⟩
 |v::vs,w,j,h,hj=>by
  have:=Own.cleared vs (w.setCell ⟨g,j,none⟩ v) (j+1) (Own.behind h j v hj) (by omega)
  exact⟨this.1,((aE.refl (fun k=>k=g) w).setCell ⟨g,j,none⟩ v (fun _=>rfl)).trans this.2 (fun _ _ e=>e)⟩
theorem Own.spare {g n cap:Nat} (h:Own K E B w (.slice (some ⟨g,0,none⟩) n cap) l) (j:Nat) (hj:j<cap*K.size):(w.cell? ⟨g,j,none⟩).isSome=true∧w.frozen? ⟨g,j,none⟩=false:=by
 rcases h.2 with⟨e,_⟩|⟨g',cap',cur,e,hB,hh,hc,hm,hs,ht⟩
 ·cases e
 ·injection e with e1 e2 e3
  injection e1 with e1
  injection e1 with e1
  subst e1 e2 e3
  have Rj:j<cur.size:=by omega
  constructor
  ·simp[World.cell?,hh,Rj]
  ·simp[World.frozen?,hh]
theorem sB (ST:dD P T E K.size) {o:Oper} {a:Act} {K':Act→World→Prop} {Q:Exit→Act→World→Prop} (s x:Operand)
  (ho:o.op=.call {callee:=.builtin .append,args:=#[s,x],argTypes:=#[T,T]}) (g k cap:Nat)
  (hs:a.eval s=.slice (some ⟨g,0,none⟩) k cap) (hown:Own K E B w (.slice (some ⟨g,0,none⟩) k cap) l) (hk:k=l.length) (hx:∃ad c,a.eval x=.slice (some ad) 0 c) (hc:k≤cap)
  (h:∀w',Own K E B w' (.slice (some ⟨g,0,none⟩) k cap) l→w.grownBy w' (some g)→K' (a.put o.dst (.slice (some ⟨g,0,none⟩) k cap)) w'):o.wp P a w K' Q:=by
 obtain⟨i,z,hi,hz,hsize,hzs,hby⟩:=ST.info
 obtain⟨ad,c,hx⟩:=hx
 subst hk
 obtain⟨w',hr,h2,h3⟩:=run_append_fits (P:=P) (w:=w) (ty:=o.type) B T E i K.size ST.under hi hsize g l.length cap (K.cells l) hown ad 0 c [] (by simp) (fun j u hu=>by cases hu) (fun u hu=>by cases hu) (by omega)
 unfold Oper.wp execOp
 simp only[ho,resolve,invoke,builtin,Sem.run_bind,Sem.run_pure,Result.andThen_ok,List.map_toArray,bH,List.map_nil,hs,hx,hr]
 refine h w' ?_ h3
 rw[bh] at h2
 exact h2
end
theorem m6 (w:World) (o k cap:Nat) (ps:List (Nat×List UInt8)) (h:oV 0 w (.slice (some ⟨o,0,none⟩) k cap) ps) (d:Nat) (hk:k+d≤cap) (hd:0<d):
  ∃vs,∀(c:Nat) (ty:TypeId),(Builtin.clear_ #[76] ty #[.slice (some ⟨o,k*2,none⟩) d c]).run Tryz.prog w=.ok (.tuple #[]) (w.setCells o (k*2) vs):=by
 obtain⟨z,hz⟩:∃z,z=(Builtin.zeroCells (Value.agg #[Value.int .i64 0,.string ⟨#[]⟩]).cells d).toList:=⟨_,rfl⟩
 have SU:z=(Builtin.zeroCells #[Value.int .i64 0,.string ⟨#[]⟩] d).toList:=hz
 have hzl:z.length=d*2:=by rw[SU];simp[Builtin.zeroCells]
 have OC:∀v∈z,v.oneCell'=true:=by
  intro v hv
  rw[SU] at hv
  simp only[Builtin.zeroCells,Array.toList_map,List.mem_map] at hv
  obtain⟨i,_,rfl⟩:=hv
  have:i%2=0∨i%2=1:=by omega
  rcases this with e|e<;>simp[e]<;>rfl
 refine⟨z,fun c ty=> ?_⟩
 have hst:=run_storeCells_cells (P:=Tryz.prog) o (k*2) z 0 w
  (fun j hj=>by rw[dN];exact (Own.spare h (k*2+j) (by show _<cap*2;omega)).1)
  (fun j hj=>by rw[dN];exact (Own.spare h (k*2+j) (by show _<cap*2;omega)).2) OC
 simp only[dN] at hst
 obtain⟨m,rfl⟩:∃m,d=m+1:=⟨d-1,by omega⟩
 simp[Builtin.clear_,run_underlying Tryz.underlying76,←hz,hst]
theorem C9 (w:World) (o n cap i:Nat) (ps:List (Nat×List UInt8)) (h:oV 0 w (.slice (some ⟨o,0,none⟩) n cap) ps) (hi:i<ps.length):
  Calls Tryz.prog 188 #[.slice (some ⟨o,0,none⟩) n cap,.int .i64 i,.int .i64 n] w fun e w'=>e=.returned (.slice (some ⟨o,0,none⟩) i cap)∧oV 0 w' (.slice (some ⟨o,0,none⟩) i cap) (ps.take i)∧aE (fun k=>k=o) w w':=by
 obtain⟨_,hn,hcap⟩:=Own.slot h
 have SV:n≤cap:=by omega
 have hin:i<n:=by omega
 have aan:(i:Int)<n:=by omega
 have hm:=Own.IX h
 have hpre:=Own.upto h i (by omega)
 have JK:=aa hpre
 have HI:=aa (And.intro hi (And.intro hn SV))
 have hm2:(cap:Int)≤9223372036854775807:=by
  rcases h.2 with⟨e,_⟩|⟨g',cap',cur,e,_,_,_,Rc,_⟩
  ·cases e
  ·injection e with _ _ e3
   subst e3
   unfold maxLen at Rc
   omega
 have aao:i≤n:=by omega
 have hic:i≤cap:=by omega
 clear hpre hi h hn hcap hm
 have hne:¬(i:Int)=n:=by omega
 have aap:(i==n)=false:=beq_eq_false_iff_ne.2 (by omega)
 have aaq:((i:Int)==(n:Int))=false:=beq_eq_false_iff_ne.2 (by omega)
 by_cases rE:cap=n
 ·subst rE
  go_enter Tryz.func188,Tryz.ntmps188
  go_wp2_with (refine wp_region_any (by kernel_rfl) ?_;refine Hid.o ?_)
  refine aa ?_
  try (change wpAny _ _ _ _ _ _ _ (bD _))
  refine tk 0 ?_
  refine tk 1 ?_
  refine tk 2 ?_
  refine tk 3 ?_
  refine tk 4 ?_
  refine tk 5 ?_
  try simp only[Act.put,az,ay,au]
  refine rd [6] (rn fun K hK=> ?_)
  refine sB AE _ _ rfl o i cap rfl (show oV 0 w.drew (.slice (some ⟨o,0,none⟩) i cap) (ps.take i) from JK.o) (by rw[aN];have:=HI.o;omega) ⟨_,_,rfl⟩ (by omega) ?_;intro w5 h5 gS
  refine hK _ _ ?_;clear hK K
  refine tk 7 ?_
  refine wpAny_done (by kernel_rfl) ?_ _
  have H5:=aa (show oV 0 w5 (.slice (some ⟨o,0,none⟩) i cap) (ps.take i)∧aE (fun k=>k=o) w w5 from⟨h5,⟨gS.os,gS.tape,gS.output,gS.size,fun k hk hn=>gS.block k hk (fun e=>hn (by injection e))⟩⟩)
  clear h5 gS
  obtain⟨vs,AK⟩:=m6 w5 o i cap (ps.take i) H5.o.1 (cap-i) (by omega) (by omega)
  go_wp2
  go_ret
  have hz:=Own.cleared (K:=qb) (E:=251) (B:=0) vs w5 (i*2) H5.o.1 (by rw[aN];show _*2≤_;omega)
  exact⟨rfl,hz.1,H5.o.2.trans hz.2 (fun _ _ e=>e)⟩
 ·have aar:(cap==n)=false:=beq_eq_false_iff_ne.2 rE
  go_enter Tryz.func188,Tryz.ntmps188
  go_wp2_with (refine wp_region_any (by kernel_rfl) ?_;refine Hid.o ?_)
  refine aa ?_
  try (change wpAny _ _ _ _ _ _ _ (bD _))
  refine tk 0 ?_
  refine tk 1 ?_
  refine tk 2 ?_
  refine tk 3 ?_
  refine tk 4 ?_
  refine tk 5 ?_
  try simp only[Act.put,az,ay,au]
  refine rd [6] (rn fun K hK=> ?_)
  refine sB AE _ _ rfl o i cap rfl (show oV 0 w.drew (.slice (some ⟨o,0,none⟩) i cap) (ps.take i) from JK.o) (by rw[aN];have:=HI.o;omega) ⟨_,_,rfl⟩ (by omega) ?_;intro w5 h5 gS
  refine hK _ _ ?_;clear hK K
  refine tk 7 ?_
  refine wpAny_done (by kernel_rfl) ?_ _
  have H5:=aa (show oV 0 w5 (.slice (some ⟨o,0,none⟩) i cap) (ps.take i)∧aE (fun k=>k=o) w w5 from⟨h5,⟨gS.os,gS.tape,gS.output,gS.size,fun k hk hn=>gS.block k hk (fun e=>hn (by injection e))⟩⟩)
  clear h5 gS
  obtain⟨vs,AK⟩:=m6 w5 o i cap (ps.take i) H5.o.1 (n-i) (by omega) (by omega)
  go_wp2
  go_ret
  have hz:=Own.cleared (K:=qb) (E:=251) (B:=0) vs w5 (i*2) H5.o.1 (by rw[aN];show _*2≤_;omega)
  exact⟨rfl,hz.1,H5.o.2.trans hz.2 (fun _ _ e=>e)⟩
end
section
open Go.RowKit Go.Maps Lib
theorem Kept.xG {A:Nat→Prop} {ring b g N:Nat} {H:List Wl.Text} {w:World} (h:Kept A ring w b g N H):AF w b H.length:=by
 obtain⟨F,s,hl,hv,_⟩:=h
 exact⟨F,g,s,hl,hv.off_eq,hv.homes_eq⟩
theorem C_ (w:World) (T A:Nat→Prop) (tb lb ring g N:Nat) (H:List Wl.Text) (ps:List (Nat×List UInt8)) (i:Nat) (h:wK w T tb lb ps) (hk:Kept A ring w lb g N H) (hi:i<H.length) (hn:H.length≤65536):
  Calls Tryz.prog 162 #[ptr tb,.int .i64 i] w fun e w'=>e=.returned (.tuple #[.string (bs (gG (Wl.along H (Tx.oq ps)) i).1),.int .i64 0])∧Below w.heap.size w w':=by
 have HP:=aa h
 have HK:=aa hk
 have hal:i<(Wl.along H (Tx.oq ps)).length:=by rw[Wl.cO];exact hi
 have Vi:=nL hal
 obtain⟨mb,vp,vb,hx⟩:=h
 obtain⟨ap,cp,SP,_⟩:=Own.slice hx.op
 subst SP
 have HX:=aa hx
 rcases Tx.PK H ps hi with⟨h1,h2⟩|⟨k,lM,h1,h2⟩
 ·have HE:=aa (show gG (Wl.along H (Tx.oq ps)) i=gG H i by
   rw[Vi,nL hi]
   rw[aJ hal,aJ hi] at h2
   injection h2 with h2
   rw[h2])
  have HZ:=aa (show (gG H i).2=0 by rw[nL hi])
  have hlk:=oU.dU HX.o.mp (by omega) h1
  have c0:=HX.o.c0
  have c3:=HX.o.c3
  rw[HE.o]
  clear h1 h2 Vi hx hk
  go_enter Tryz.func162,Tryz.ntmps162
  go_wp2_with fail
  refine (jC w T tb lb H.length ps HP.o HK.o.xG).mono ?_
  rintro e w1 ⟨rfl,rfl⟩
  unfold ptr
  go_wp2_with fail
  refine (xF HK.o (i:Int)).mono ?_
  rintro e w2 ⟨rfl,hb⟩
  rw[HZ.o]
  have HB:=aa hb
  clear hb hlk c0 c3
  go_wp2
  go_ret2
  exact⟨rfl,HB.o⟩
 ·have HE:=aa (show gG (Wl.along H (Tx.oq ps)) i=(Dk.full (ps[k]).2,0) by
   rw[Vi]
   rw[aJ hal] at h2
   injection h2 with h2
   rw[h2])
  have hlk:=oU.iC HX.o.mp (by omega) h1
  have c1:=HX.o.c1
  have c3:=HX.o.c3
  obtain⟨o,co,e1,_,_,_⟩:=Own.form HX.o.op (by omega)
  injection e1 with e1 _ e3
  subst e1 e3
  have cx:=(oV.at HX.o.op k lM).2
  have hsz:=(HX.o.small ps[k] (bB lM)).2
  have s9:(k:Int)<ps.length:=by omega
  rw[HE.o]
  clear h1 h2 Vi hx hk
  generalize ps[k]=x at*
  obtain⟨at_,t⟩:=x
  simp only at cx hsz ⊢
  have HSz:=aa hsz
  clear hsz
  go_enter Tryz.func162,Tryz.ntmps162
  go_wp2_with fail
  refine (jC w T tb lb H.length ps HP.o HK.o.xG).mono ?_
  rintro e w1 ⟨rfl,rfl⟩
  unfold ptr
  go_wp2_with fail
  refine (C6 (bs t) w1 (by rw[aK];exact HSz.o)).mono ?_
  rintro e w2 ⟨rfl,hb⟩
  rw[bO]
  have HB:=aa hb
  clear hb hlk c1 c3 cx
  go_wp2
  go_ret2
  exact⟨rfl,HB.o⟩
end
section
open Go.RowKit Go.Maps Go.ChangeMaps Lib
theorem JL (k:Nat):wJ.enc (Tx.un k)=.int .i64 (k:Int):=by show Value.int .i64 ((Tx.un k).length:Nat)=_;rw[Tx.fT]
theorem MT (k:Nat) (m:Wl.eE):(dat m).del (.int .i64 k)=dat (Tx.del k m):=by
 show DataW.map _=DataW.map _
 congr 1
 show (m.map qY).filter _=(Tx.del k m).map qY
 unfold Tx.del
 induction m with
 |nil=>rfl
 |cons x m ih=>
  rw[bH,cS,cS,kR]
  by_cases h:x.1=k
  ·grind
  ·grind
theorem aE.JM {w w':World} {b:Nat} (h:w.mapTurned w' b):aE (fun k=>k=b) w w':=by
 obtain⟨es,clock,es',clock',h1,rfl⟩:=h
 exact⟨rfl,rfl,rfl,by simp[setBlock],fun k hk hn=>heap_setBlock_other h1 _ hn⟩
theorem yR (w:World) (T:Nat→Prop) (tb lb mb:Nat) (vp vb:Value) (ps:List (Nat×List UInt8)) (bl:List Int) (m:Wl.eE) (i:Nat) (h:fE w T tb lb mb vp vb ps bl m) (hi:i≤65536):
  Calls Tryz.prog 187 #[ptr tb,.int .i64 i,.int .i64 (-1)] w fun e w'=>e=.returned (.tuple #[])∧fE w' T tb lb mb vp vb ps bl (Tx.del i m)∧bS T w T w':=by
 have c3:=h.c3
 have HX:=aa h
 clear h
 go_enter Tryz.func187,Tryz.ntmps187
 unfold ptr
 go_wp2_with (at_delete;refine wpList_delete_own _ rfl _ _ 75 3 rfl 3 (int_keyed gP) jq wJ.R mb m.length (dat m) rfl HX.o.mp.1 (.int .i64 i) (.int .i64 i) rfl (keyOf_int_mk gP (tU (by omega))) ?_;intro w1 mI PR)
 refine bodyPost_end (results_none rfl _ _ _) rfl ?_
 rw[MT] at mI
 have hm:oU w1 mb (Tx.del i m):=⟨sj wJ mI,Tx.ux i HX.o.mp.2.1,fun x hx=>HX.o.mp.2.2 x (dy.1 hx).1⟩
 have:=HX.o.map' hm (aE.JM PR)
 exact⟨rfl,this⟩
theorem yS (w:World) (T:Nat→Prop) (tb lb mb:Nat) (vp vb:Value) (ps:List (Nat×List UInt8)) (bl:List Int) (m:Wl.eE) (i j:Nat) (h:fE w T tb lb mb vp vb ps bl m) (hi:i≤65536) (hn:m.length≤200000000):
  Calls Tryz.prog 187 #[ptr tb,.int .i64 i,.int .i64 j] w fun e w'=>e=.returned (.tuple #[])∧fE w' T tb lb mb vp vb ps bl (Wl.ins i (Tx.un j) m)∧bS T w T w':=by
 have c3:=h.c3
 have HX:=aa h
 have hj:((j:Int)==-1)=false:=beq_eq_false_iff_ne.2 (by omega)
 obtain⟨w5,hrun,SR,gS⟩:=fR.JB (T:=75) h.mp gP jq hn (k:=i) (by omega) (t:=Tx.un j) (by show Tx.un _=Tx.un (Tx.un _).length;rw[Tx.fT])
 rw[JL] at hrun
 have H5:=aa (And.intro SR gS)
 clear h SR gS
 go_enter Tryz.func187,Tryz.ntmps187
 unfold ptr
 go_wp2
 refine bodyPost_end (results_none rfl _ _ _) rfl ?_
 have dX:aE (fun k=>k=mb) w w5:=⟨H5.o.2.os,H5.o.2.tape,H5.o.2.output,H5.o.2.size,fun k hk hn=>H5.o.2.block k hk (fun e=>hn (by injection e))⟩
 exact⟨rfl,HX.o.map' H5.o.1 dX⟩
theorem Gc (w:World) (T:Nat→Prop) (tb lb:Nat) (ps:List (Nat×List UInt8)) (mark:Int) (h:wK w T tb lb ps) (hm:(ps.length:Int)≤max mark 0):
  Calls Tryz.prog 142 #[ptr tb,.int .i64 mark] w fun e w'=>e=.returned (.tuple #[])∧w'=w:=by
 have HP:=aa h
 clear h
 by_cases h0:mark<0
 ·have h1:(ps.length:Int)=0:=by omega
  go_enter Tryz.func142,Tryz.ntmps142
  go_wp2_with fail
  refine (qc w T tb lb ps HP.o).mono ?_
  rintro e w1 ⟨rfl,rfl⟩
  rw[h1]
  go_wp2
  refine bodyPost_ret (results_none rfl _ _ _) rfl ?_
  exact⟨rfl,rfl⟩
 ·have h1:¬(0:Int)>mark:=by omega
  have h2:(ps.length:Int)≤mark:=by omega
  go_enter Tryz.func142,Tryz.ntmps142
  go_wp2_with fail
  refine (qc w T tb lb ps HP.o).mono ?_
  rintro e w1 ⟨rfl,rfl⟩
  go_wp2
  refine bodyPost_ret (results_none rfl _ _ _) rfl ?_
  exact⟨rfl,rfl⟩
theorem yT (w:World) (T:Nat→Prop) (tb lb mb:Nat) (vp vb:Value) (ps:List (Nat×List UInt8)) (bl:List Int) (j:Nat) (hj:j<ps.length) (h:fE w T tb lb mb vp vb ps bl (Tx.cQ (ps.take (j+1)))) (b:Int) (hb:b=Tx.gK (Tx.cQ (ps.take j)) (ps[j]).1) (hn:ps.length≤90000000):
  Calls Tryz.prog 187 #[ptr tb,.int .i64 (ps[j]).1,.int .i64 b] w fun e w'=>e=.returned (.tuple #[])∧fE w' T tb lb mb vp vb ps bl (Tx.cQ (ps.take j))∧bS T w T w':=by
 have hs:=(h.small ps[j] (bB hj)).1
 rcases Tx.AA (Tx.cQ (ps.take j)) (ps[j]).1 with e|⟨i,e⟩
 ·rw[hb,e]
  refine (yR w T tb lb mb vp vb ps bl _ (ps[j]).1 h hs).mono ?_
  rintro e' w' ⟨rfl,h',hm⟩
  rw[Tx.yO hj e] at h'
  exact⟨rfl,h',hm⟩
 ·rw[hb,e]
  refine (yS w T tb lb mb vp vb ps bl _ (ps[j]).1 i h hs (by have:=Tx.xE (ps.take (j+1));rw[aN] at this;omega)).mono ?_
  rintro e' w' ⟨rfl,h',hm⟩
  rw[Tx.yP hj e] at h'
  exact⟨rfl,h',hm⟩
theorem JN (w:World) (T:Nat→Prop) (tb lb:Nat) (ps:List (Nat×List UInt8)) (mark:Int) (M:Nat) (h:wK w T tb lb ps) (hM:max mark 0=(M:Int)) (hm:M<ps.length) (hn:ps.length≤90000000):
  Calls Tryz.prog 142 #[ptr tb,.int .i64 mark] w fun e w'=>e=.returned (.tuple #[])∧∃T',wK w' T' tb lb (ps.take M)∧bS T w T' w':=by
 have HP:=aa h
 obtain⟨mb,vp,vb,hx⟩:=h
 obtain⟨o,co,SP,_,hol,hoc⟩:=Own.form hx.op (by omega)
 obtain⟨ob,cb,EM,_,td,hbc⟩:=Own.form hx.ob (by rw[Tx.cC];omega)
 rw[Tx.cC] at EM hbc
 subst SP EM
 have HX:=aa hx
 have HM:=aa (And.intro hm hn)
 have MU:¬(ps.length:Int)≤M:=by omega
 have c1:=hx.c1
 clear hx
 go_enter Tryz.func142,Tryz.ntmps142
 go_wp2_with fail
 refine (qc w T tb lb ps HP.o).mono ?_
 rintro e w1 ⟨rfl,rfl⟩
 unfold ptr
 go_wp2
 have SX:decide (ps.length≤M)=false:=decide_eq_false (by omega)
 rw[SX]
 clear SX
 go_loopw [4] (fun i wr=>∃(k:Nat) (z:Int),z+1=k∧M≤k∧k≤ps.length∧i=.int .i64 z∧Hid (fE wr T tb lb mb (.slice (some ⟨o,0,none⟩) ps.length co) (.slice (some ⟨ob,0,none⟩) ps.length cb) ps (Tx.gT ps) (Tx.cQ (ps.take k))∧bS T w1 T wr)) (fun i _=>(RowKit.intOf i+1).toNat)
 case atStart=>exact⟨ps.length,(ps.length:Int)-1,by omega,by omega,af _,by first|rfl|go_num,aa ⟨by rw[List.take_length];exact HX.o,bS.refl _ _⟩⟩
 case round=>
  obtain⟨k,z,hz,hk1,hk2,rfl,hS⟩:=hrel
  by_cases hlt:M<k
  ·obtain⟨j,rfl⟩:∃j,k=j+1:=⟨k-1,by omega⟩
   obtain rfl:z=(j:Int):=by omega
   have hj:j<ps.length:=by omega
   have hMj:(M:Int)≤j:=by omega
   have FU:(j:Int)<ps.length:=by omega
   have d1:=hS.o.1.c1
   have d2:=hS.o.1.c2
   have e1:=(oV.at hS.o.1.op j hj).1
   have e2:=mZ.at hS.o.1.ob j (by rw[Tx.cC];exact hj)
   obtain⟨bv,ID⟩:∃b,b=(Tx.gT ps)[j]'(by rw[Tx.cC];exact hj):=⟨_,rfl⟩
   obtain⟨pa,hpa⟩:∃a,a=(ps[j]).1:=⟨_,rfl⟩
   rw[←ID] at e2
   rw[←hpa] at e1
   have HG:=aa (show Calls Tryz.prog 187 #[.pointer (some ⟨tb,0,none⟩),.int .i64 pa,.int .i64 bv] wr.drew fun e w'=>e=.returned (.tuple #[])∧fE w' T tb lb mb (.slice (some ⟨o,0,none⟩) ps.length co) (.slice (some ⟨ob,0,none⟩) ps.length cb) ps (Tx.gT ps) (Tx.cQ (ps.take j))∧bS T wr.drew T w' by
    rw[hpa]
    exact yT wr.drew T tb lb mb _ _ ps _ j hj (hS.o.1.but ((aE.refl (fun _=>False) wr).drew) (fun _ _ h=>h)) bv (by rw[ID,Tx.MM]) HM.o.2)
   have HEq:=aa (And.intro ID hpa)
   have HJ:=aa hj
   have HMj:=aa hlt
   have Vj:wr.drew.cell? ⟨tb,1,none⟩=some (.slice (some ⟨o,0,none⟩) ps.length co):=d1
   have ZM:wr.drew.cell? ⟨tb,2,none⟩=some (.slice (some ⟨ob,0,none⟩) ps.length cb):=d2
   have ZN:wr.drew.cell? ⟨o,j*2,none⟩=some (.int .i64 pa):=e1
   have ZO:wr.drew.cell? ⟨ob,j,none⟩=some (.int .i64 bv):=e2
   clear ID hpa hz hk1 hk2 hlt d1 d2 e1 e2 c1 hm MU
   go_wp2
   go_region_held3 (fun w'=>w'.cell? ⟨tb,1,none⟩=some (.slice (some ⟨o,0,none⟩) ps.length co)∧w'.cell? ⟨tb,2,none⟩=some (.slice (some ⟨ob,0,none⟩) ps.length cb)∧w'.cell? ⟨o,j*2,none⟩=some (.int .i64 pa)∧w'.cell? ⟨ob,j,none⟩=some (.int .i64 bv))
    (first
     |(exact⟨Vj,ZM,ZN,ZO⟩)
     |(exact⟨s1,s2,s3,s4⟩)
     |go_keep)
    (first
     |(go_at_call 187;refine HG.o.mono ?_;rintro e w3 ⟨rfl,h3,m3⟩;have s1:=h3.c1;have s2:=h3.c2;have s3:=(oV.at h3.op j HJ.o).1;rw[←HEq.o.2] at s3;have s4:=mZ.at h3.ob j (by rw[Tx.cC];exact HJ.o);rw[←HEq.o.1] at s4;have H3:=aa (show fE w3 T tb lb mb (.slice (some ⟨o,0,none⟩) ps.length co) (.slice (some ⟨ob,0,none⟩) ps.length cb) ps (Tx.gT ps) (Tx.cQ (ps.take j))∧bS T w1 T w3 from⟨h3,hS.o.2.trans ((show bS T wr T wr.drew from⟨(aE.refl T wr).drew,fun _ h=>.inl h⟩).trans m3)⟩);clear h3 m3))
   clear s1 s2 s3 s4 Vj ZM ZN ZO
   go_wp2
   go_roundw
   case rel=>exact⟨j,(j:Int)-1,by omega,by have:=HMj.o;omega,by have:=HJ.o;omega,by first|rfl|go_num,H3⟩
   case measure=>simp[RowKit.intOf]
  ·have WG:k=M:=by omega
   rw[WG] at hS
   have hzM:¬(M:Int)≤z:=by omega
   have HZ:=aa (And.intro hz WG)
   clear hz WG hk1 hk2 hlt c1 hm MU
   have Vj:wr.drew.cell? ⟨tb,1,none⟩=some (.slice (some ⟨o,0,none⟩) ps.length co):=hS.o.1.c1
   have HD:=aa (C9 wr.drew o ps.length co M ps (show oV 0 wr.drew (.slice (some ⟨o,0,none⟩) ps.length co) ps from hS.o.1.op) HM.o.1)
   go_wp2_with (refine wp_region_any (by kernel_rfl) ?_;refine Hid.o ?_)
   refine aa ?_
   try (change wpAny _ _ _ _ _ _ _ (bD _))
   refine tk 0 ?_
   refine tk 1 ?_
   refine tk 2 ?_
   refine tk 3 ?_
   refine tk 5 ?_
   refine tk 6 ?_
   refine tk 7 ?_
   refine tk 8 ?_
   refine rd [4,9] (AllReady.cons rfl (fun K hK=> ?_) (rn fun K hK=> ?_))
   focus (
    go_simp
    refine hK _ _ ?_;clear hK K
    refine rd [9] (rn fun K hK=> ?_)
    go_simp
    refine hK _ _ ?_;clear hK K
    refine tk 10 ?_
   )
   rotate_left
   focus (
    go_simp
    refine hK _ _ ?_;clear hK K
    refine tk 10 ?_
    refine rd [4] (rn fun K hK=> ?_)
    go_simp
    refine hK _ _ ?_;clear hK K
   )
   all_goals (
    refine rd [11] (rn fun K hK=> ?_)
    go_simp
    refine HD.o.mono ?_;rintro e w5 ⟨rfl,h5,dX⟩
    refine hK _ _ ?_;clear hK K
    have MV:aE (fun k=>k=o) wr w5:=((aE.refl (fun k=>k=o) wr).drew).trans dX (fun _ _ e=>e)
    have Vk:=hS.o.1.EL (W:=wr) (Below.refl _ _) h5 ⟨MV.os,MV.tape,MV.output,MV.size,fun k hk hn=>MV.block k hk (fun e=>hn (by rw[e];rfl))⟩ (.inl rfl) (fun p hp=>HX.o.small p (List.mem_of_mem_take hp))
    have hblk:aS w5 tb 79 [ptr lb,.slice (some ⟨o,0,none⟩) ps.length co,.slice (some ⟨ob,0,none⟩) ps.length cb,.map (some mb)]:=hS.o.1.blk.but MV (fun e=>hS.o.1.Ri (by rw[e];rfl))
    have s1:=hblk.cell (j:=1) rfl
    have s2:=hblk.frozen 1
    have H5:=aa Vk
    clear h5 dX MV Vk
    refine tk 12 ?_
    refine tk 13 ?_
    refine rd [14] (rn fun K hK=> ?_)
    go_simp
    refine hK _ _ ?_;clear hK K
    refine wpAny_done (by kernel_rfl) ?_ _
    clear s1 s2 Vj
    obtain⟨w6,PS⟩:∃w6,w6=w5.setCell ⟨tb,1,none⟩ (.slice (some ⟨o,0,none⟩) M co):=⟨_,rfl⟩
    rw[←PS] at H5 ⊢
    obtain⟨T5,H6⟩:∃T5,Hid (fE w6 T5 tb lb mb (.slice (some ⟨o,0,none⟩) M co) (.slice (some ⟨ob,0,none⟩) ps.length cb) (ps.take M) (Tx.gT ps) (Tx.cQ (ps.take M))∧bS T wr T5 w6):=⟨_,H5⟩
    have t2:=H6.o.1.c2
    have t3:=H6.o.1.blk.frozen 2
    have hMc:M≤cb:=by have:=HM.o.1;omega
    have ZP:M≤ps.length:=by have:=HM.o.1;omega
    clear PS H5 hblk
    go_wp2
    refine bodyPost_end (results_none rfl _ _ _) rfl ?_
    have iR:=Own.upto H6.o.1.ob M (by rw[Tx.cC];exact ZP)
    rw[Tx.xD ps M ZP] at iR
    have H7:=H6.o.1.EK (W:=w6) (Below.refl _ _) iR ⟨rfl,rfl,rfl,af _,fun _ _ _=>rfl⟩ (.inl rfl)
    exact⟨rfl,_,⟨mb,_,_,H7.1⟩,hS.o.2.trans (H6.o.2.trans H7.2)⟩
   )
end
section
open Go.RowKit Lib
section
variable {w0 X X':World} {Z:Nat→Option Obj} {ring g N lb tb:Nat} {H H':List Wl.Text} {ps ps':List (Nat×List UInt8)} {V:Value} {L:List Wl.Text} {A T T':Nat→Prop}
theorem Kept.SY (h:Kept A ring X lb g N H) (hT:∀k,T k→A k) (hM:bS T X T' X') (hlt:∀k,T' k→k<X'.heap.size):Kept (fun k=>A k∨T' k) ring X' lb g N H:=by
 obtain⟨F,s,hl,hv,hf,ha,MW⟩:=h
 refine⟨F,s,hl.but hM.1 (fun k hk hn=>ha k hk (hT k hn)),hv,hf,fun x hx hn=> ?_,fun x hx=>hx.elim (fun h=>cW (MW x h) hM.1.size) (hlt x)⟩
 rcases hn with hn|hn
 ·exact ha x hx hn
 ·rcases hM.2 x hn with h1|h1
  ·exact ha x hx (hT x h1)
  ·have:=hl.lt x hx;omega
end
end
section
open Go.RowKit Go.Maps Lib
theorem EN (x:Nat×List UInt8) (z:Int) (h:(x.1:Int)≠z):(qY x).1.sameKey (.int .i64 z)=false:=by
 simp only[qY,Lit.sameKey,true_and]
 exact decide_eq_false h
theorem PT {m:Wl.eE} {z:Int} (h:∀x∈m,(x.1:Int)≠z) (y:DataW Unit):(dat m).atKey (.int .i64 z) y=y:=by
 have:(m.map qY).find? (fun p=>p.1.sameKey (.int .i64 z))=none:=by
  grind [List.find?_eq_none,EN]
 unfold dat DataW.atKey
 simp only
 rw[this]
theorem MX {m:Wl.eE} {z:Int} (h:∀x∈m,(x.1:Int)≠z):Maps.has (dat m) (.int .i64 z)=false:=by
 show (m.map qY).any (fun p=>p.1.sameKey (.int .i64 z))=false
 rw[List.any_eq_false]
 intro p hp
 obtain⟨x,hx,rfl⟩:=List.mem_map.1 hp
 rw[EN x z (h x hx)];decide
theorem PU {z:Int} (h:-9223372036854775808≤z∧z≤9223372036854775807):(Lit.int .i64 z).wf=true:=by
 simp[Lit.wf,IntKind.min,IntKind.max,IntKind.signed,IntKind.bits]
 omega
theorem fR.uB {P:Program} {T E K:TypeId} {M:ME} {w:World} {b:Nat} {m:Wl.eE} (h:fR P K M w b m) (hk:P.underlying K=some (.int .i64)) (ht:P.underlying T=some (.map K E)) {z:List UInt8} (hz:(zeroValue E).run P w=.ok (M.enc z) w) (Pu:M.fits z)
  {k:Int} (LP:-9223372036854775808≤k∧k≤9223372036854775807) (hl:∀x∈m,(x.1:Int)≠k):(Instr.lookup T (.map (some b)) (.int .i64 k) true).run P w=.ok (.tuple #[M.enc z,.bool false]) w:=by
 obtain⟨v,ps,hr,hv⟩:=h.1.look_ok (int_keyed hk) ht hz (M.read z Pu) (keyOf_int_mk hk (PU LP))
 rw[PT hl] at hv
 rw[MX hl] at hr
 obtain⟨l,rfl,hf,he⟩:=M.inv _ _ hv
 injection he with he _
 injection he with he
 injection he with he
 subst he
 exact hr
theorem oU.uB {w:World} {b:Nat} {m:Wl.eE} (h:oU w b m) {z:Int} (hz:-9223372036854775808≤z∧z≤9223372036854775807) (hl:∀x∈m,(x.1:Int)≠z):
  (Instr.lookup 75 (.map (some b)) (.int .i64 z) true).run Tryz.prog w=.ok (.tuple #[.int .i64 0,.bool false]) w:=
 fR.uB (M:=wJ) h gP jq (uz w) rfl hz hl
theorem Da (w:World) (T A:Nat→Prop) (tb lb ring g N:Nat) (H:List Wl.Text) (ps:List (Nat×List UInt8)) (i:Int) (h:wK w T tb lb ps) (hk:Kept A ring w lb g N H) (hi:i<0∨(H.length:Int)≤i) (hr:-9223372036854775808≤i∧i≤9223372036854775807) (hs:∀p∈ps,p.1<H.length):
  Calls Tryz.prog 162 #[ptr tb,.int .i64 i] w fun e w'=>e=.returned (.tuple #[.string ⟨#[]⟩,.int .i64 2])∧Below w.heap.size w w':=by
 have HP:=aa h
 have HK:=aa hk
 obtain⟨mb,vp,vb,hx⟩:=h
 have HX:=aa hx
 have HZ:=aa (show gG H i=([],2) by unfold gG;rw[if_neg (by omega)])
 have SZ:∀x∈Tx.cQ ps,(x.1:Int)≠i:=by
  intro x hx e
  rcases Tx.mg x.1 ps with⟨h1,_⟩|⟨k,hk,_,h2,_⟩
  ·exact Wl.dU.1 h1 x hx rfl
  ·grind
 have hlk:=oU.uB HX.o.mp hr SZ
 have c0:=HX.o.c0
 have c3:=HX.o.c3
 clear hx hk SZ
 go_enter Tryz.func162,Tryz.ntmps162
 go_wp2_with fail
 refine (jC w T tb lb H.length ps HP.o HK.o.xG).mono ?_
 rintro e w1 ⟨rfl,rfl⟩
 unfold ptr
 go_wp2_with fail
 refine (xF HK.o i).mono ?_
 rintro e w2 ⟨rfl,hb⟩
 rw[HZ.o]
 have HB:=aa hb
 clear hb hlk c0 c3
 go_wp2
 go_ret2
 exact⟨rfl,HB.o⟩
end
section
open Go.RowKit Lib
def C1 (R:Nat→Prop) (ring g N lb tb:Nat) (H:List Wl.Text) (ps:List (Nat×List UInt8)) (X:World):Prop:=
 ∃A T,Kept A ring X lb g N H∧wK X T tb lb ps∧(∀k,T k→A k)∧∀k,R k→A k∧¬T k
section
variable {X X':World} {R R' S:Nat→Prop} {ring g N lb tb:Nat} {H H':List Wl.Text} {ps ps':List (Nat×List UInt8)} {A T T':Nat→Prop}
theorem C1.lt (h:C1 R ring g N lb tb H ps X):∀k,R k→k<X.heap.size:=by
 obtain⟨A,T,⟨F,s,hl,hv,hf,ha,MW⟩,x,a,hR⟩:=h
 exact fun k hk=>MW k (hR k hk).1
theorem C1.iE (h:C1 R ring g N lb tb H ps X) (hb:aE S X X') (hS:∀k,k<X.heap.size→S k→R k) (Cq:∀k,R' k→R k∨(X.heap.size≤k∧k<X'.heap.size)):C1 R' ring g N lb tb H ps X':=by
 obtain⟨A,T,⟨F,s,hl,hv,hf,ha,MW⟩,x,a,hR⟩:=h
 have hb':aE R X X':=hb.mono hS
 refine⟨fun k=>A k∨(X.heap.size≤k∧k<X'.heap.size),T,⟨F,s,hl.but hb' (fun k hk hn=>ha k hk (hR k hn).1),hv,hf,fun x hx hn=> ?_,fun x hx=>hx.elim (fun h=>cW (MW x h) hb.size) (fun h=>h.2)⟩,x.but hb' (fun k hk hn=>(hR k hn).2 hk),fun k hk=>.inl (a k hk),fun k hk=> ?_⟩
 ·rcases hn with hn|hn
  ·exact ha x hx hn
  ·have:=hl.lt x hx;omega
 ·grind
theorem C1.still (h:C1 R ring g N lb tb H ps X) (hb:Below X.heap.size X X'):C1 R ring g N lb tb H ps X':=
 h.iE (aE.aH hb (fun _=>False)) (fun _ _ h=>h.elim) (fun _ hk=>.inl hk)
theorem EO (hk:Kept A ring X lb g N H) (a:∀k,T k→A k) (hR:∀k,R k→A k∧¬T k) (hM:bS T X T' X') (hx:wK X' T' tb lb ps'):
  C1 R ring g N lb tb H ps' X'∧aE (fun k=>¬R k) X X':=by
 have hlt:∀k,A k→k<X.heap.size:=by
  obtain⟨F,s,hl,hv,hf,ha,MW⟩:=hk
  exact MW
 refine⟨⟨fun k=>A k∨T' k,T',hk.SY a hM hx.lt,hx,fun k hk=>.inr hk,fun k hk=>⟨.inl (hR k hk).1,fun ht=> ?_⟩⟩,hM.1.mono (fun k _ h1 hr=>(hR k hr).2 h1)⟩
 rcases hM.2 k ht with h|h
 ·exact (hR k hk).2 h
 ·grind
theorem AL (hk:Kept A ring X lb g N H):
  Calls Tryz.prog 8 #[ptr lb] X fun e X'=>∃tb,e=.returned (ptr tb)∧C1 A ring g N lb tb H [] X'∧Below X.heap.size X X':=by
 refine (C4 X lb).mono ?_
 rintro e X' ⟨tb,T,rfl,hx,hT,hb'⟩
 obtain⟨F,s,hl,hv,hf,ha,MW⟩:=hk
 refine⟨tb,rfl,⟨fun k=>A k∨T k,T,⟨F,s,hl.below hb',hv,hf,fun x hx hn=> ?_,fun x hx'=>hx'.elim (fun h=>cW (MW x h) hb'.size) (hx.lt x)⟩,hx,fun k h=>.inr h,fun k hk=>⟨.inl hk,fun ht=> ?_⟩⟩,hb'⟩
 ·rcases hn with hn|hn
  ·exact ha x hx hn
  ·have:=hT x hn;have:=hl.lt x hx;omega
 ·grind
theorem qd (h:C1 R ring g N lb tb H ps X) (i:Nat) (s:ByteArray) (hi:i<H.length) (hn:H.length≤65536) (hs:s.size≤512) (hp:ps.length≤90000000):
  Calls Tryz.prog 185 #[ptr tb,.int .i64 i,.string s] X fun e X'=>e=.returned (.int .i64 0)∧C1 R ring g N lb tb H (ps++[(i,s.data.toList)]) X'∧aE (fun k=>¬R k) X X':=by
 obtain⟨A,T,hk,x,a,hR⟩:=h
 refine (C7 X T tb lb H.length ps i s x hk.xG hi hn hs hp).mono ?_
 rintro e X' ⟨rfl,T',hx',hM⟩
 exact⟨rfl,EO hk a hR hM hx'⟩
theorem AM (h:C1 R ring g N lb tb H ps X) (i:Int) (s:ByteArray) (c:Int) (hc:(c=2∧(i<0∨(H.length:Int)≤i))∨(c=5∧0≤i∧i<H.length∧512<s.size)):
  Calls Tryz.prog 185 #[ptr tb,.int .i64 i,.string s] X fun e X'=>e=.returned (.int .i64 c)∧X'=X:=by
 obtain⟨A,T,hk,x,a,hR⟩:=h
 exact C8 X T tb lb H.length ps i s x hk.xG c hc
theorem MY (h:C1 R ring g N lb tb H ps X) (i:Nat) (hi:i<H.length) (hn:H.length≤65536):
  Calls Tryz.prog 162 #[ptr tb,.int .i64 i] X fun e X'=>e=.returned (.tuple #[.string (bs ((Wl.along H (Tx.oq ps)).getD i [])),.int .i64 0])∧Below X.heap.size X X':=by
 obtain⟨A,T,hk,x,_⟩:=h
 have hj:i<(Wl.along H (Tx.oq ps)).length:=by rw[Wl.cO];omega
 refine (C_ X T A tb lb ring g N H ps i x hk hi hn).mono ?_
 rintro e X' ⟨rfl,hb⟩
 refine⟨?_,hb⟩
 rw[nL hj,bT,aJ hj,Option.getD_some]
theorem Db (h:C1 R ring g N lb tb H ps X) (i:Int) (hi:i<0∨(H.length:Int)≤i) (hr:-9223372036854775808≤i∧i≤9223372036854775807) (hs:∀p∈ps,p.1<H.length):
  Calls Tryz.prog 162 #[ptr tb,.int .i64 i] X fun e X'=>e=.returned (.tuple #[.string ⟨#[]⟩,.int .i64 2])∧Below X.heap.size X X':=by
 obtain⟨A,T,hk,x,_⟩:=h
 exact Da X T A tb lb ring g N H ps i x hk hi hr hs
theorem JO (h:C1 R ring g N lb tb H ps X):
  Calls Tryz.prog 165 #[ptr tb] X fun e X'=>e=.returned (.int .i64 H.length)∧X'=X:=by
 obtain⟨A,T,hk,x,_⟩:=h
 exact AG X T tb lb H.length ps x hk.xG
end
end
end Go.Proofs.YtebbahjombdalaaGreatDoor
