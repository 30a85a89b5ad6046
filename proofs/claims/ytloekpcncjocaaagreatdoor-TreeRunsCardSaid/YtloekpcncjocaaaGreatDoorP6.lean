/- Elder texts, cut down and merged (6). -/
import Derived.Test.YtloekpcncjocaaaGreatDoorP5
import Derived.Test.YtloekpcncjocaaaGreatDoorP2
import Derived.Test.YtloekpcncjocaaaGreatDoorP1
import Derived.StillTailTactics
import Derived.Lib.SlMapMerge
import Derived.Lib.Strings
import Derived.Lib.Walk
import Derived.Lib.BufferWrite
import Derived.Lib.UnsafeStr
import Derived.Laws.MakeOwn
import Derived.Lib.SliceRun
import Derived.Test.YtloekpcncjocaaaGreatDoorPTk
set_option maxRecDepth 100000
set_option maxHeartbeats 8000000
namespace Go.Proofs.YtloekpcncjocaaaGreatDoor
open Go.RowKit Lib
def mO (ring size:Nat):Wl.Lg:=⟨ring,size-1-ring,0,1,0,[],false,Dk.fresh size⟩
theorem D8 (w:World) (F:Nat→Prop) (b g ring size:Nat) (hl:Log w F b g ⟨ring,size-1-ring,0,0,0,[],false,Dk.fresh size⟩) (hr:ring≤4096) (hs:size≤65536) (hs1:1≤size):
  Calls Tryz.prog 54 #[ptr b] w fun e w'=>e=.returned (.bool true)∧∃F',Log w' F' b g ((mO ring size).with (Wl.wr (false,Dk.fresh size) (0,Wl.first size ring 0 1)))∧aW F w F' w':=by
 have HL:=aa hl
 obtain⟨mb,FD,hp⟩:=hl
 have c0:=hp.c0
 have HP:=aa hp.sec
 have FR:(size:Int)≤65536:=by omega
 have hlen:(Dk.fresh size).dK.length=size:=by simp[Dk.fresh]
 have hrd:∀k,k<size→((Dk.fresh size).read (k:Nat)).1=Dk.full []:=by
  intro k hk
  rw[Dk.CQ rfl (show (Dk.fresh size).now[k]?=some (Dk.full []) by show (Dk.dJ (List.replicate size (Dk.full [])) [])[k]?=_;rw[Dk.kM,List.getElem?_replicate,if_pos hk])]
 have Z_:=aa hrd
 clear hp hrd
 go_enter Tryz.func54,Tryz.ntmps54
 unfold ptr
 go_wp2_with fail
 refine (nR w FD g _ HP.out).mono ?_
 rintro e w1 ⟨rfl,rfl⟩
 rw[hlen]
 go_wp2_with fail
 go_loopw [9] (fun i wr=>∃k:Nat,k≤size∧i=.int .i64 k∧Hid (Below w1.heap.size w1 wr)) (fun i _=>size-(RowKit.intOf i).toNat)
 case atStart=>exact⟨0,Nat.zero_le _,rfl,aa (Below.refl _ _)⟩
 case round=>
  obtain⟨k,hk,rfl,hB⟩:=hrel
  by_cases hlt:k<size
  ·have hI:(k:Int)<size:=by omega
   have pH:(k:Int)≤65536:=by omega
   have mK:(0:Int)≤k:=by omega
   have HK:=aa hlt
   clear hlt hk
   go_wp2_with fail
   refine (Gt wr F b g _ k (HL.out.below hB.out)).mono ?_
   rintro e w2 ⟨rfl,rfl⟩
   rw[show ((Dk.fresh size).read (k:Nat)).1=Dk.full [] from Z_.out k HK.out]
   go_wp2_with fail
   refine (Bo _ _ (by rw[aB,Wl.yP];decide)).mono ?_
   rintro e w3 ⟨rfl,nq,rfl⟩
   rw[cj,Wl.n_]
   have Gw:=aa (hB.out.trans ((dQ w2 nq).mono hB.out.size))
   go_wp2
   go_roundw
   case rel=>exact⟨k+1,HK.out,by go_num,Gw⟩
   case measure=>have:=HK.out;simp[RowKit.intOf];omega
  ·obtain rfl:size=k:=by omega
   have hL:=HL.out.below hB.out
   have k3:wr.cell? ⟨b,3,none⟩=some (.int .i64 0):=hL.c3
   have k4:wr.cell? ⟨b,4,none⟩=some (.int .u64 0):=hL.c4
   obtain⟨mq,FQ,hq⟩:=hL
   have f3:=hq.blk.frozen 3
   have f4:=hq.blk.frozen 4
   have HQ:=aa hq
   clear hq
   go_wp2_with fail
   have s1:=HQ.out.set 3 (.int .i64 0) ⟨ring,size-1-ring,0,0,0,[],false,Dk.fresh size⟩ rfl rfl rfl
   have s2:=s1.1.set 4 (.int .u64 1) (mO ring size) rfl rfl rfl
   obtain⟨Y,hY⟩:∃Y,Y=(wr.setCell ⟨b,3,none⟩ (.int .i64 0)).setCell ⟨b,4,none⟩ (.int .u64 1):=⟨_,rfl⟩
   have hM:=s1.2.trans s2.2
   have GD:=s2.1
   rw[←hY] at hM GD ⊢
   have T4:aj (fun _=>False) Y Y.drew:=(aj.refl _ Y).drew
   have HY:=aa (show gJ Y.drew F b g mq FQ (mO ring size)∧aW F w1 F Y.drew from⟨GD.but T4 (fun _ _ h=>h),(show aW F w1 F wr from⟨aj.aq hB.out _,fun _ h=>.inl h⟩).trans (hM.trans ⟨T4.mono (fun _ _ h=>h.elim),fun _ h=>.inl h⟩)⟩)
   clear s1 s2 hY hM GD T4 k3 k4 f3 f4 c0
   have c0:Y.drew.cell? ⟨b,0,none⟩=some (.pointer (some ⟨g,0,none⟩)):=HY.out.1.c0
   have c1:Y.drew.cell? ⟨b,1,none⟩=some (.int .i64 ring):=HY.out.1.c1
   have c3:Y.drew.cell? ⟨b,3,none⟩=some (.int .i64 0):=HY.out.1.c3
   have c4:Y.drew.cell? ⟨b,4,none⟩=some (.int .u64 1):=HY.out.1.c4
   go_region_held3 (fun w'=>w'.cell? ⟨b,0,none⟩=some (.pointer (some ⟨g,0,none⟩))∧w'.cell? ⟨b,1,none⟩=some (.int .i64 ring)∧w'.cell? ⟨b,3,none⟩=some (.int .i64 0)∧w'.cell? ⟨b,4,none⟩=some (.int .u64 1))
    (first
     |(exact⟨c0,c1,c3,c4⟩)
     |(exact⟨d0,d1,d3,d4⟩)
     |go_keep)
    (first
     |(go_at_call 52;refine (nR _ FQ g _ HY.out.1.sec).mono ?_;rintro e w4 ⟨rfl,rfl⟩)
     |(go_at_call 83;refine (uI (mO ring size).d.dK.length ring 0 1 _ (by have:=hlen;exact (by omega:(Dk.fresh size).dK.length≤1000000)) (by omega) (by omega) (by decide)).mono ?_;rintro e w8 ⟨rfl,kL⟩;have OV:=aa (show gJ w8 F b g mq FQ (mO ring size)∧aW F w1 F w8 from⟨HY.out.1.below kL,HY.out.2.trans ⟨aj.aq kL _,fun _ h=>.inl h⟩⟩);have d0:w8.cell? ⟨b,0,none⟩=some (.pointer (some ⟨g,0,none⟩)):=OV.out.1.c0;have d1:w8.cell? ⟨b,1,none⟩=some (.int .i64 ring):=OV.out.1.c1;have d3:w8.cell? ⟨b,3,none⟩=some (.int .i64 0):=OV.out.1.c3;have d4:w8.cell? ⟨b,4,none⟩=some (.int .u64 1):=OV.out.1.c4;clear kL)
     |(go_at_call 82;refine (Bq _ F b g (mO ring size) 0 _ OV.out.1.log (by show ([]:List (Nat×List UInt8)).length≤_;simp)).mono ?_;rintro e w9 ⟨rfl,F9,Xy,Xz⟩;have XA:=aa (show Log w9 F9 b g ((mO ring size).with (Wl.wr (false,Dk.fresh size) (0,Wl.first (mO ring size).d.dK.length ring 0 1)))∧aW F w1 F9 w9 from⟨Xy,OV.out.2.trans Xz⟩);obtain⟨_,_,PV⟩:=Xy;have d0:w9.cell? ⟨b,0,none⟩=some (.pointer (some ⟨g,0,none⟩)):=PV.c0;have d1:w9.cell? ⟨b,1,none⟩=some (.int .i64 ring):=PV.c1;have d3:w9.cell? ⟨b,3,none⟩=some (.int .i64 0):=PV.c3;have d4:w9.cell? ⟨b,4,none⟩=some (.int .u64 1):=PV.c4;clear PV Xz))
   clear c0 c1 c3 c4 d0 d1 d3 d4
   go_wp2
   go_ret
   have e1:(mO ring size).d.dK.length=size:=hlen
   rw[e1] at XA
   exact⟨rfl,F9,XA.out⟩
theorem zf (s:ByteArray):strCells s++(zeros.map aR).drop s.size=(Dk.full s.data.toList).map aR:=by
 rw[←rU s,zeros,List.map_replicate];rfl
def bare (ring homes:Nat) (d:Dk.bp):Wl.Lg:=⟨ring,homes,0,0,0,[],false,d⟩
theorem gJ.make {w:World} {FD:Nat→Prop} {g ring homes:Nat} {d:Dk.bp} (hs:mo w FD g d):
  gJ ((w.alloc (.map #[] 0)).alloc (.cells (jL g w.heap.size (bare ring homes d)).toArray 120)) (both FD (fun k=>k=w.heap.size∨k=w.heap.size+1)) (w.heap.size+1) g w.heap.size FD (bare ring homes d)∧
  aW FD w (both FD (fun k=>k=w.heap.size∨k=w.heap.size+1)) ((w.alloc (.map #[] 0)).alloc (.cells (jL g w.heap.size (bare ring homes d)).toArray 120)):=by
 have hb:aj (fun _=>False) w ((w.alloc (.map #[] 0)).alloc (.cells (jL g w.heap.size (bare ring homes d)).toArray 120)):=((aj.refl _ w).alloc _).alloc _
 have hlt:=hs.lt
 refine⟨⟨?_, ?_,hs.but hb (fun _ _ h=>h),fun h=>by have:=hlt _ h;omega,fun h=>by have:=hlt _ h;omega,.inr (.inr rfl),.inr (.inl rfl),fun k hk=>.inl hk,fun k hk=> ?_⟩,hb.mono (fun _ _ h=>h.elim),fun k hk=> ?_⟩
 ·have:=aG.new (w.alloc (.map #[] 0)) (jL g w.heap.size (bare ring homes d)).toArray 120
  rw[World.size_alloc] at this
  exact this
 ·exact (dY.made Tryz.prog JZ nY w).but ((aj.refl (fun _=>False) _).alloc _) id
 ·simp only[World.size_alloc]
  rcases hk with hk|hk|hk
  ·have:=hlt k hk;omega
  ·omega
  ·omega
 ·rcases hk with hk|hk|hk
  ·exact .inl hk
  ·exact .inr (by omega)
  ·exact .inr (by omega)
theorem Bw (w:World) (FD:Nat→Prop) (g ring size:Nat) (hs:mo w FD g (Dk.fresh size)) (jf:4≤ring) (jG:ring≤4096) (hs1:ring+2≤size) (iU:size≤65536):
  Calls Tryz.prog 31 #[ptr g,.int .i64 ring] w fun e w'=>∃b F',e=.returned (.tuple #[ptr b,.int .i64 0])∧Log w' F' b g (Wl.begun size ring)∧aW FD w F' w':=by
 have HS:=aa hs
 have HN:=aa (And.intro jf (And.intro jG (And.intro hs1 iU)))
 have i1:(4:Int)≤ring:=by omega
 have i2:(ring:Int)≤4096:=by omega
 have i3:(ring:Int)+2≤size:=by omega
 have i4:(size:Int)≤65536:=by omega
 have hlen:(Dk.fresh size).dK.length=size:=by simp[Dk.fresh]
 have HHo:=aa (show ((size:Int)-1-ring)=((size-1-ring:Nat):Int) by omega)
 clear hs jf jG hs1 iU
 have hmm:=@run_makeMap Tryz.prog
 go_enter Tryz.func31,Tryz.ntmps31
 unfold ptr
 go_wp2_with fail
 refine (nR w FD g _ HS.out).mono ?_
 rintro e w1 ⟨rfl,rfl⟩
 rw[hlen]
 go_wp2_with fail
 refine (dh w1 FD g _ HS.out).mono ?_
 rintro e w2 ⟨rfl,rfl⟩
 rw[show (Dk.fresh size).off=false from rfl]
 go_wp2_with fail
 refine (nR w2 FD g _ HS.out).mono ?_
 rintro e w3 ⟨rfl,rfl⟩
 rw[hlen]
 go_wp2_with fail
 rw[HHo.out]
 have hmk:=gJ.make (ring:=ring) (homes:=(size-1-ring)) HS.out
 obtain⟨V,hV⟩:∃V,V=((w3.alloc (.map #[] 0)).alloc (.cells (jL g w3.heap.size (bare ring (size-1-ring) (Dk.fresh size))).toArray 120)):=⟨_,rfl⟩
 rw[←hV] at hmk
 change Calls Tryz.prog _ _ ((w3.alloc (.map #[] 0)).alloc (.cells (jL g w3.heap.size (bare ring (size-1-ring) (Dk.fresh size))).toArray 120)) _
 rw[←hV]
 have HK:=aa (show ∃F,Log V F (w3.heap.size+1) g (bare ring (size-1-ring) (Dk.fresh size))∧aW FD w3 F V from⟨_,hmk.1.log,hmk.2⟩)
 clear hmk hV hmm
 obtain⟨b,hb⟩:∃b,b=w3.heap.size+1:=⟨_,rfl⟩
 rw[←hb] at HK ⊢
 clear hb
 obtain⟨F,hL,hM⟩:=HK.out
 have HL:=aa (And.intro hL hM)
 clear hL hM HK
 refine (D8 V F b g ring size HL.out.1 HN.out.2.1 HN.out.2.2.2 (by have:=HN.out.2.2.1;omega)).mono ?_
 rintro e w4 ⟨rfl,F4,XC,XD⟩
 have H4:=aa (And.intro XC (HL.out.2.trans XD))
 clear XC XD
 go_wp2_with fail
 refine (Br w4 F4 b g _ H4.out.1).mono ?_
 rintro e w6 ⟨rfl,F6,Nj,Jz⟩
 change Log w6 F6 b g ((mO ring size).with (Wl.fl (Wl.wr (false,Dk.fresh size) (0,Wl.first size ring 0 1)))) at Nj
 rw[Wl.A6 size ring (by have:=HN.out.2.2.1;omega)] at Nj
 have c7:w6.cell? ⟨b,7,none⟩=some (.bool false):=Nj.c7
 have H6:=aa (show Log w6 F6 b g (Wl.begun size ring)∧aW FD w3 F6 w6 from⟨Nj,H4.out.2.trans Jz⟩)
 clear Nj Jz
 go_wp2
 go_ret2
 exact⟨b,F6,rfl,H6.out⟩
def Left (w w':World) (F:Nat→Prop) (b g:Nat) (Q:Wl.Lg→Prop):Prop:=∃F' s',Log w' F' b g s'∧aW F w F' w'∧Q s'
def eH (H:List Wl.Text) (i:Int):Wl.Text×Int:=if 0≤i∧i<H.length then (H.getD i.toNat [],0) else ([],2)
theorem D9 {ring N:Nat} {s:Wl.Lg} {H:List Wl.Text} (h:Wl.Live ring N s H) (i:Int):s.read i=eH H i:=by
 obtain⟨h1,h2,h3,h4,h5,h6,h7,h8,h9,h10,h11,h12,h13⟩:=h.read
 unfold Wl.Lg.read eH
 rw[h.off_eq,if_neg (by decide)]
 have e2:=h.homes_eq
 have e1:=h.CN
 by_cases hi:0≤i∧i<H.length
 ·have hh:s.has i=true:=by simp[Wl.Lg.has,e2,hi.1,hi.2]
  rw[hh,if_neg (by decide),if_pos hi]
  obtain⟨j,rfl⟩:∃j:Nat,i=j:=⟨i.toNat,by omega⟩
  rw[Int.toNat_natCast]
  have hj:j<H.length:=by omega
  have hx:=h13 j hj
  rw[List.getElem?_eq_getElem hj] at hx
  rw[List.getD_eq_getElem?_getD,List.getElem?_eq_getElem hj,Option.getD_some]
  cases hl:Wl.look j s.wait with
  |some t=>
   rw[hl] at hx
   have hx':H[j]=t:=by simpa using hx
   rw[hx']
  |none=>
   rw[hl,Option.none_or] at hx
   show s.d.read ((1+s.ring+j:Nat):Int)=_
   rw[e1]
   exact Dk.CQ h.on hx.symm
 ·have hh:s.has i=false:=by
   cases hc:s.has i with
   |false=>rfl
   |true=>
    exfalso
    have:0≤i∧i<s.homes:=by simpa[Wl.Lg.has] using hc
    rw[e2] at this
    exact hi this
  rw[hh,if_neg hi];rfl
theorem D_ (w:World) (F:Nat→Prop) (b g ring N:Nat) (s:Wl.Lg) (H:List Wl.Text) (i:Int) (hl:Log w F b g s) (hv:Wl.Live ring N s H):
  Calls Tryz.prog 167 #[ptr b,.int .i64 i] w fun e w'=>e=.returned (.tuple #[.string (bs (eH H i).1),.int .i64 (eH H i).2])∧Below w.heap.size w w':=by
 refine (D7 w F b g s i hl hv.Fw).mono ?_
 rintro e w' ⟨rfl,hb⟩
 rw[D9 hv i]
 exact⟨rfl,hb⟩
theorem By (w:World) (FD:Nat→Prop) (g ring size:Nat) (hs:mo w FD g (Dk.fresh size)) (jf:4≤ring) (jG:ring≤4096) (hs1:ring+2≤size) (iU:size≤65536):
  Calls Tryz.prog 31 #[ptr g,.int .i64 ring] w fun e w'=>∃b,e=.returned (.tuple #[ptr b,.int .i64 0])∧Left w w' FD b g (fun s'=>Wl.Live ring 1 s' (Wl.bO (size-1-ring))∧s'.d.fuel<0):=by
 refine (Bw w FD g ring size hs jf jG hs1 iU).mono ?_
 rintro e w' ⟨b,F',rfl,hL,hM⟩
 exact⟨b,rfl,F',_,hL,hM,Wl.A5 size ring jf jG hs1 iU,by show (-1:Int)<0;decide⟩
theorem l6 {H:List Wl.Text} {k:Nat} (hk:k<H.length):eH H (k:Nat)=(H[k],0):=by
 unfold eH
 rw[if_pos (by omega),Int.toNat_natCast,List.getD_eq_getElem?_getD,List.getElem?_eq_getElem hk];rfl
def Kept (A:Nat→Prop) (ring:Nat) (wr:World) (b g N:Nat) (H:List Wl.Text):Prop:=
 ∃F s,Log wr F b g s∧Wl.Live ring N s H∧s.d.fuel<0∧(∀x,F x→¬A x)∧∀x,A x→x<wr.heap.size
abbrev PW (A:Nat→Prop) (w w':World):Prop:=aj (fun x=>¬A x) w w'
theorem PW.below {A:Nat→Prop} {B:Nat} {w w':World} (h:PW A w w') (hA:∀x,x<B→A x) (hB:B≤w.heap.size):Below B w w':=aj.below h hB (fun k hk hn=>hn (hA k hk))
theorem Kept.left {A:Nat→Prop} {ring b g N:Nat} {H:List Wl.Text} {w w':World} {F F':Nat→Prop} {s':Wl.Lg} (ha:∀x,F x→¬A x) (hlt:∀x,A x→x<w.heap.size) (hL:Log w' F' b g s') (hM:aW F w F' w') (hv:Wl.Live ring N s' H) (hf:s'.d.fuel<0):
  Kept A ring w' b g N H∧PW A w w':=
 ⟨⟨F',s',hL,hv,hf,fun x hx hn=>by
  rcases hM.2 x hx with h|h
  ·exact ha x h hn
  ·have:=hlt x hn;omega,fun x hx=>Nat.lt_of_lt_of_le (hlt x hx) hM.1.size⟩,hM.1.mono (fun x _ hx=>ha x hx)⟩
def Nk (A:Nat→Prop) (ring:Nat) (w w':World) (b g N:Nat) (H:List Wl.Text):Prop:=Kept A ring w' b g N H∧PW A w w'
theorem vG {A:Nat→Prop} {ring b g N:Nat} {H:List Wl.Text} {w:World} (h:Kept A ring w b g N H) (i:Int):
  Calls Tryz.prog 167 #[ptr b,.int .i64 i] w fun e w'=>e=.returned (.tuple #[.string (bs (eH H i).1),.int .i64 (eH H i).2])∧Below w.heap.size w w':=by
 obtain⟨F,s,hl,hv,hf,hA,hlt⟩:=h
 exact D_ w F b g ring N s H i hl hv
theorem BA {A:Nat→Prop} {g ring size:Nat} {w:World} {FD:Nat→Prop} (hs:mo w FD g (Dk.fresh size)) (hA:∀x,FD x→¬A x) (hlt:∀x,A x→x<w.heap.size) (jf:4≤ring) (jG:ring≤4096) (hs1:ring+2≤size) (iU:size≤65536):
  Calls Tryz.prog 31 #[ptr g,.int .i64 ring] w fun e w'=>∃b,e=.returned (.tuple #[ptr b,.int .i64 0])∧Nk A ring w w' b g 1 (Wl.bO (size-1-ring)):=by
 refine (By w FD g ring size hs jf jG hs1 iU).mono ?_
 rintro e w' ⟨b,rfl,F',s',hL,hM,hv,hf⟩
 exact⟨b,rfl,Kept.left hA hlt hL hM hv hf⟩
theorem GF:cI Tryz.prog 56 3 (cO .i64).size:=cI.of (size:=1) (bytes:=8) (z:=.int .i64 0) Tryz.underlying56 (by kernel_rfl) rfl (by decide)
abbrev eo (B:Nat) (w:World) (v:Value) (l:List Int):Prop:=Own (cO .i64) 3 B w v l
theorem eo.at {B:Nat} {w:World} {f n cf:Nat} {l:List Int} (h:eo B w (.slice (some ⟨f,0,none⟩) n cf) l) (j:Nat) (hj:j<l.length):w.cell? ⟨f,j,none⟩=some (.int .i64 l[j]):=by
 have:=Own.lies h j (.int .i64 l[j]) (by rw[show (cO .i64).cells l=l.map (fun n=>Value.int .i64 n) from bP _ _ _];simp[hj])
 rwa [Nat.zero_add] at this
theorem sF (w:World) (x:Int):aJ (cO .i64) (w.alloc (.cells #[.int .i64 x] 3)) w.heap.size 0 [x]:=
 aJ.dI (aG.new w #[.int .i64 x] 3) rfl
end Go.Proofs.YtloekpcncjocaaaGreatDoor
namespace Go.Proofs.YtloekpcncjocaaaGreatDoor
open Go.RowKit Go.Maps Lib
def Ks (l:List UInt8):Value:=.int .i64 l.length
def CX:Value→Option (DataW Unit×List MemPlace)
 |.int .i64 n=>if 0≤n then some (.lit (.string (Tx.un n.toNat)),[]) else none
 |_=>none
theorem Ea {v:Value} {y:DataW Unit×List MemPlace} (h:CX v=some y):∃l,v=Ks l∧l=Tx.un l.length∧y=(.lit (.string l),[]):=by
 unfold CX at h
 split at h
 ·rename_i n
  split at h
  ·injection h with h
   refine⟨Tx.un n.toNat, ?_,by rw[Tx.dZ],h.symm⟩
   unfold Ks
   rw[Tx.dZ]
   congr 1;omega
  ·cases h
 ·cases h
def uK:ME:=⟨Ks,CX,fun l=>l=Tx.un l.length,fun l h=>by
 unfold Ks CX
 simp only
 rw[if_pos (by omega),Int.toNat_natCast,←h],fun _ _ h=>Ea h⟩
abbrev nk (w:World) (b:Nat) (m:Wl.cY):Prop:=dY Tryz.prog 3 uK w b m
theorem gS:Tryz.prog.underlying 76=some (.map 3 3):=Tryz.underlying76
theorem sG (w:World):(zeroValue 3).run Tryz.prog w=.ok (uK.enc []) w:=by kernel_rfl
theorem nk.fO {w:World} {b:Nat} {m:Wl.cY} (h:nk w b m) {k n:Nat} (hk:k≤1000000) (hl:Wl.look k m=some (Tx.un n)):(Instr.lookup 76 (.map (some b)) (.int .i64 k) true).run Tryz.prog w=.ok (.tuple #[.int .i64 n,.bool true]) w:=by
 have:=(dY.fO (M:=uK) h eX gS (sG w) rfl hk hl).1
 rw[show uK.enc (Tx.un n)=.int .i64 n by show Value.int .i64 ((Tx.un n).length:Nat)=_;rw[Tx.dZ]] at this
 exact this
theorem nk.cK {w:World} {b:Nat} {m:Wl.cY} (h:nk w b m) {k:Nat} (hk:k≤1000000) (hl:Wl.look k m=none):(Instr.lookup 76 (.map (some b)) (.int .i64 k) true).run Tryz.prog w=.ok (.tuple #[.int .i64 0,.bool false]) w:=
 dY.cK (M:=uK) h eX gS (sG w) rfl hk hl
def oF:Elem (Nat×List UInt8):=⟨fun x=>[.int .i64 x.1,.string (bs x.2)],2,by decide,fun _=>rfl,by
 intro a u hu
 simp only[List.mem_cons,List.not_mem_nil,or_false] at hu
 rcases hu with rfl|rfl<;>rfl⟩
theorem zg:cI Tryz.prog 77 202 oF.size:=cI.of (size:=2) (bytes:=24) (z:=.agg #[.int .i64 0,.string .empty]) Tryz.underlying77 (by kernel_rfl) rfl (by decide)
abbrev nr (B:Nat) (w:World) (v:Value) (l:List (Nat×List UInt8)):Prop:=Own oF 202 B w v l
theorem nr.at {B:Nat} {w:World} {o n co:Nat} {ws:List (Nat×List UInt8)} (h:nr B w (.slice (some ⟨o,0,none⟩) n co) ws) (k:Nat) (hk:k<ws.length):
  w.cell? ⟨o,k*2,none⟩=some (.int .i64 (ws[k]).1)∧w.cell? ⟨o,k*2+1,none⟩=some (.string (bs (ws[k]).2)):=by
 have h0:=(Own.lies h).at k 0 (by decide) hk _ rfl
 have h1:=(Own.lies h).at k 1 (by decide) hk _ rfl
 rw[Nat.zero_add] at h0 h1
 exact⟨h0,h1⟩
structure dO (w:World) (T:Nat→Prop) (tb lb mb:Nat) (vp vb:Value) (ps:List (Nat×List UInt8)) (bl:List Int) (m:Wl.cY):Prop where
 blk:aG w tb 79 [ptr lb,vp,vb,.map (some mb)]
 op:nr 0 w vp ps
 ob:eo 0 w vb bl
 mp:nk w mb m
 fb:T tb
 fm:T mb
 fp:∀k,vp.ownBlock=some k→T k
 fv:∀k,vb.ownBlock=some k→T k
 lt:∀k,T k→k<w.heap.size
 small:∀p∈ps,p.1≤65536∧p.2.length≤512
def uL (w:World) (T:Nat→Prop) (tb lb:Nat) (ps:List (Nat×List UInt8)):Prop:=∃mb vp vb,dO w T tb lb mb vp vb ps (Tx.fo ps) (Tx.bS ps)
namespace dO
variable {w w1:World} {T S:Nat→Prop} {tb lb mb:Nat} {vp vb:Value} {ps:List (Nat×List UInt8)} {bl:List Int} {m:Wl.cY}
theorem but (h:dO w T tb lb mb vp vb ps bl m) (hb:aj S w w1) (hn:∀k,T k→¬S k):dO w1 T tb lb mb vp vb ps bl m:=
 ⟨h.blk.but hb (hn tb h.fb),Own.but h.op hb (fun k hk=>hn k (h.fp k hk)),Own.but h.ob hb (fun k hk=>hn k (h.fv k hk)),h.mp.but hb (hn mb h.fm),h.fb,h.fm,h.fp,h.fv,fun k hk=>Nat.lt_of_lt_of_le (h.lt k hk) hb.size,h.small⟩
theorem below (h:dO w T tb lb mb vp vb ps bl m) (hb:Below w.heap.size w w1):dO w1 T tb lb mb vp vb ps bl m:=h.but (aj.aq hb (fun _=>False)) (fun _ _ hf=>hf)
theorem Pr (h:dO w T tb lb mb vp vb ps bl m):mb≠tb:=h.mp.bK h.blk
theorem OW (h:dO w T tb lb mb vp vb ps bl m):vp.ownBlock≠some tb:=Own.bK h.op h.blk (by decide)
theorem bne (h:dO w T tb lb mb vp vb ps bl m):vb.ownBlock≠some tb:=Own.bK h.ob h.blk (by decide)
theorem PX (h:dO w T tb lb mb vp vb ps bl m) {k:Nat} (hk:vp.ownBlock=some k):vb.ownBlock≠some k:=Own.wQ h.op h.ob (by decide) hk
theorem PY (h:dO w T tb lb mb vp vb ps bl m) {k:Nat} (hk:vp.ownBlock=some k):k≠mb:=by
 intro e
 subst e
 obtain⟨cur,hc⟩:=Own.typed h.op hk
 obtain⟨es,clock,hm⟩:=h.mp.isMap
 rw[hc] at hm
 cases hm
theorem PZ (h:dO w T tb lb mb vp vb ps bl m) {k:Nat} (hk:vb.ownBlock=some k):k≠mb:=by
 intro e
 subst e
 obtain⟨cur,hc⟩:=Own.typed h.ob hk
 obtain⟨es,clock,hm⟩:=h.mp.isMap
 rw[hc] at hm
 cases hm
theorem c0 (h:dO w T tb lb mb vp vb ps bl m):w.cell? ⟨tb,0,none⟩=some (.pointer (some ⟨lb,0,none⟩)):=h.blk.cell rfl
theorem c1 (h:dO w T tb lb mb vp vb ps bl m):w.cell? ⟨tb,1,none⟩=some vp:=h.blk.cell rfl
theorem c2 (h:dO w T tb lb mb vp vb ps bl m):w.cell? ⟨tb,2,none⟩=some vb:=h.blk.cell rfl
theorem c3 (h:dO w T tb lb mb vp vb ps bl m):w.cell? ⟨tb,3,none⟩=some (.map (some mb)):=h.blk.cell rfl
theorem Nl {W W4:World} {v v':Value} (hW:Below w.heap.size w W) (hg:W.grownBy W4 v.ownBlock) (hT:∀k,v.ownBlock=some k→T k) (hv:v'.ownBlock=v.ownBlock∨∀k,v'.ownBlock=some k→W.heap.size≤k):
  aj (fun k=>v.ownBlock=some k) w W4∧∀k,v'.ownBlock=some k→T k∨w.heap.size≤k:=by
 refine⟨⟨hg.os.trans hW.os,hg.tape.trans hW.tape,hg.output.trans hW.output,Nat.le_trans hW.size hg.size,fun k hk hn=>(hg.block k (Nat.lt_of_lt_of_le hk hW.size) (fun e=>hn e.symm)).trans (hW.block k hk)⟩,fun k hk=> ?_⟩
 rcases hv with e|e
 ·exact .inl (hT k (e▸hk))
 ·exact .inr (Nat.le_trans hW.size (e k hk))
theorem spot {W W4:World} {v:Value} (h:dO w T tb lb mb vp vb ps bl m) (hW:Below w.heap.size w W) (hg:W.grownBy W4 v.ownBlock) (hne:v.ownBlock≠some tb) (hT:∀k,v.ownBlock=some k→T k):aG W4 tb 79 [ptr lb,vp,vb,.map (some mb)]∧Below w.heap.size w W:=by
 obtain⟨hb,_⟩:=Nl (v':=v) hW hg hT (.inl rfl)
 exact⟨h.blk.but hb hne,hW⟩
theorem CY {W W4:World} {GG:Value} {XE:List Int} (h:dO w T tb lb mb vp vb ps bl m) (hW:Below w.heap.size w W) (ho:eo 0 W4 GG XE) (hg:W.grownBy W4 vb.ownBlock) (hv:GG.ownBlock=vb.ownBlock∨∀k,GG.ownBlock=some k→W.heap.size≤k):
  dO (W4.setCell ⟨tb,2,none⟩ GG) (fun k=>T k∨GG.ownBlock=some k) tb lb mb vp GG ps XE m∧aW T w (fun k=>T k∨GG.ownBlock=some k) (W4.setCell ⟨tb,2,none⟩ GG):=by
 obtain⟨hb,hn⟩:=Nl hW hg h.fv hv
 have b1:aG W4 tb 79 [ptr lb,vp,vb,.map (some mb)]:=h.blk.but hb h.bne
 have aC:aj (· =tb) W4 (W4.setCell ⟨tb,2,none⟩ GG):=(aj.refl _ W4).setCell _ _ (fun _=>rfl)
 have hne:GG.ownBlock≠some tb:=Own.bK ho b1 (by decide)
 refine⟨⟨b1.set 2 GG,Own.but (Own.but h.op hb (fun k hk e=>h.PX hk e)) aC (fun k hk e=>h.OW (e▸hk)),Own.but ho aC (fun k hk e=>hne (e▸hk)),(h.mp.but hb (fun e=>h.PZ e rfl)).but aC h.Pr,.inl h.fb,.inl h.fm,fun k hk=>.inl (h.fp k hk),fun k hk=>.inr hk,fun k hk=> ?_,h.small⟩, ?_, ?_⟩
 ·show k<(W4.setCell _ _).heap.size
  rw[World.size_setCell]
  rcases hk with hk|hk
  ·exact Nat.lt_of_lt_of_le (h.lt k hk) hb.size
  ·exact (Own.block ho k hk).2
 ·exact (hb.mono (fun k _ e=>h.fv k e)).trans aC (fun k _ e=>e▸h.fb)
 ·rintro k (hk|hk)
  ·exact .inl hk
  ·exact hn k hk
theorem CZ {W W4:World} {GH:Value} {ps':List (Nat×List UInt8)} (h:dO w T tb lb mb vp vb ps bl m) (hW:Below w.heap.size w W) (ho:nr 0 W4 GH ps') (hg:W.grownBy W4 vp.ownBlock) (hv:GH.ownBlock=vp.ownBlock∨∀k,GH.ownBlock=some k→W.heap.size≤k) (hs:∀p∈ps',p.1≤65536∧p.2.length≤512):
  dO (W4.setCell ⟨tb,1,none⟩ GH) (fun k=>T k∨GH.ownBlock=some k) tb lb mb GH vb ps' bl m∧aW T w (fun k=>T k∨GH.ownBlock=some k) (W4.setCell ⟨tb,1,none⟩ GH):=by
 obtain⟨hb,hn⟩:=Nl hW hg h.fp hv
 have b1:aG W4 tb 79 [ptr lb,vp,vb,.map (some mb)]:=h.blk.but hb h.OW
 have aC:aj (· =tb) W4 (W4.setCell ⟨tb,1,none⟩ GH):=(aj.refl _ W4).setCell _ _ (fun _=>rfl)
 have hne:GH.ownBlock≠some tb:=Own.bK ho b1 (by decide)
 refine⟨⟨b1.set 1 GH,Own.but ho aC (fun k hk e=>hne (e▸hk)),Own.but (Own.but h.ob hb (fun k hk e=>h.PX e hk)) aC (fun k hk e=>h.bne (e▸hk)),(h.mp.but hb (fun e=>h.PY e rfl)).but aC h.Pr,.inl h.fb,.inl h.fm,fun k hk=>.inr hk,fun k hk=>.inl (h.fv k hk),fun k hk=> ?_,hs⟩, ?_, ?_⟩
 ·show k<(W4.setCell _ _).heap.size
  rw[World.size_setCell]
  rcases hk with hk|hk
  ·exact Nat.lt_of_lt_of_le (h.lt k hk) hb.size
  ·exact (Own.block ho k hk).2
 ·exact (hb.mono (fun k _ e=>h.fp k e)).trans aC (fun k _ e=>e▸h.fb)
 ·rintro k (hk|hk)
  ·exact .inl hk
  ·exact hn k hk
theorem map' {W4:World} {m':Wl.cY} (h:dO w T tb lb mb vp vb ps bl m) (hm:nk W4 mb m') (hb:aj (fun k=>k=mb) w W4):dO W4 T tb lb mb vp vb ps bl m'∧aW T w T W4:=
 ⟨⟨h.blk.but hb (fun e=>h.Pr e.symm),Own.but h.op hb (fun _ hk e=>h.PY hk e),Own.but h.ob hb (fun _ hk e=>h.PZ hk e),hm,h.fb,h.fm,h.fp,h.fv,fun k hk=>Nat.lt_of_lt_of_le (h.lt k hk) hb.size,h.small⟩,hb.mono (fun _ _ e=>e▸h.fm),fun _ hk=>.inl hk⟩
end dO
theorem uL.but {S:Nat→Prop} {w w1:World} {T:Nat→Prop} {tb lb:Nat} {ps:List (Nat×List UInt8)} (h:uL w T tb lb ps) (hb:aj S w w1) (hn:∀k,T k→¬S k):uL w1 T tb lb ps:=by
 obtain⟨mb,vp,vb,h⟩:=h
 exact⟨mb,vp,vb,h.but hb hn⟩
theorem uL.lt {w:World} {T:Nat→Prop} {tb lb:Nat} {ps:List (Nat×List UInt8)} (h:uL w T tb lb ps):∀k,T k→k<w.heap.size:=by
 obtain⟨_,_,_,h⟩:=h
 exact h.lt
theorem BB (w:World) (lb:Nat):
  Calls Tryz.prog 10 #[ptr lb] w fun e w'=>∃tb T,e=.returned (ptr tb)∧uL w' T tb lb []∧(∀k,T k→w.heap.size≤k)∧Below w.heap.size w w':=by
 have hmm:=@run_makeMap Tryz.prog
 go_enter Tryz.func10,Tryz.ntmps10
 unfold ptr
 go_wp2
 go_ret
 have hb:=aG.new (w.alloc (.map #[] 0)) #[.pointer (some ⟨lb,0,none⟩),.slice none 0 0,.slice none 0 0,.map (some w.heap.size)] 79
 rw[World.size_alloc] at hb
 refine⟨w.heap.size+1,fun k=>k=w.heap.size∨k=w.heap.size+1,rfl,⟨w.heap.size,.slice none 0 0,.slice none 0 0,hb,Own.nil _ _ _ _,Own.nil _ _ _ _,(dY.made _ _ _ _).kept (World.grownBy_alloc _ _ none) (by simp),.inr rfl,.inl rfl,fun k hk=>(by simp[Value.ownBlock] at hk),fun k hk=>(by simp[Value.ownBlock] at hk),fun k hk=>(by simp;omega),fun p hp=>by cases hp⟩,fun k hk=>(by omega), ?_⟩
 exact ((Below.refl _ w).alloc (Nat.le_refl _) _).alloc (by simp) _
theorem oG (w:World) (T:Nat→Prop) (tb lb:Nat) (ps:List (Nat×List UInt8)) (h:uL w T tb lb ps):
  Calls Tryz.prog 104 #[ptr tb] w fun e w'=>e=.returned (.int .i64 ps.length)∧w'=w:=by
 obtain⟨mb,vp,vb,h⟩:=h
 have c1:=h.c1
 obtain⟨a,c,hv,_⟩:=Own.slice h.op
 subst hv
 clear h
 go_enter Tryz.func104,Tryz.ntmps104
 unfold ptr
 go_wp2
 go_ret
 exact⟨rfl,rfl⟩
def zh (w:World) (lb n:Nat):Prop:=∃F g s,Log w F lb g s∧s.off=false∧s.homes=n
theorem g_ (w:World) (T:Nat→Prop) (tb lb n:Nat) (ps:List (Nat×List UInt8)) (h:uL w T tb lb ps) (hl:zh w lb n):
  Calls Tryz.prog 165 #[ptr tb] w fun e w'=>e=.returned (.bool false)∧w'=w:=by
 obtain⟨mb,vp,vb,h⟩:=h
 obtain⟨F,g,s,hL,ho,_⟩:=hl
 have c0:=h.c0
 have HL:=aa hL
 clear h hL
 go_enter Tryz.func165,Tryz.ntmps165
 unfold ptr
 go_wp2_with fail
 refine (vC w F lb g s HL.out).mono ?_
 rintro e w1 ⟨rfl,rfl⟩
 rw[ho]
 go_wp2
 go_ret
 exact⟨rfl,rfl⟩
theorem zi (w:World) (T:Nat→Prop) (tb lb n:Nat) (ps:List (Nat×List UInt8)) (h:uL w T tb lb ps) (hl:zh w lb n):
  Calls Tryz.prog 49 #[ptr tb] w fun e w'=>e=.returned (.int .i64 n)∧w'=w:=by
 obtain⟨mb,vp,vb,h⟩:=h
 obtain⟨F,g,s,hL,_,rfl⟩:=hl
 have c0:=h.c0
 have HL:=aa hL
 clear h hL
 go_enter Tryz.func49,Tryz.ntmps49
 unfold ptr
 go_wp2_with fail
 refine (lX w F lb g s HL.out).mono ?_
 rintro e w1 ⟨rfl,rfl⟩
 go_wp2
 go_ret
 exact⟨rfl,rfl⟩
theorem BC (w:World) (T:Nat→Prop) (tb lb:Nat) (ps:List (Nat×List UInt8)) (i:Nat) (h:uL w T tb lb ps) (hi:i≤65536):
  Calls Tryz.prog 185 #[ptr tb,.int .i64 i] w fun e w'=>e=.returned (.int .i64 (Tx.ez (Tx.bS ps) i))∧w'=w:=by
 obtain⟨mb,vp,vb,h⟩:=h
 have c3:=h.c3
 have HP:=aa h
 clear h
 rcases Tx.jS i ps with⟨h1,-⟩|⟨k,hk,h1,-,-⟩
 ·have hlk:=nk.cK HP.out.mp (by omega) h1
  have HE:=aa (show Tx.ez (Tx.bS ps) i=-1 by unfold Tx.ez;rw[h1])
  clear h1
  go_enter Tryz.func185,Tryz.ntmps185
  unfold ptr
  go_wp2
  go_ret
  exact⟨by rw[HE.out];rfl,rfl⟩
 ·have hlk:=nk.fO HP.out.mp (by omega) h1
  have HE:=aa (show Tx.ez (Tx.bS ps) i=(k:Int) by unfold Tx.ez;rw[h1];simp[Tx.dZ])
  clear h1 hk
  go_enter Tryz.func185,Tryz.ntmps185
  unfold ptr
  go_wp2
  go_ret
  exact⟨by rw[HE.out];rfl,rfl⟩
end Go.Proofs.YtloekpcncjocaaaGreatDoor
namespace Go.Proofs.YtloekpcncjocaaaGreatDoor
open Go.RowKit Lib
theorem zj (s:ByteArray) (w:World) (hlim:s.size≤1000000):
  Calls Tryz.prog 70 #[.string s] w fun e w'=>e=.returned (.string s)∧Below w.heap.size w w':=by
 by_cases h0:s.size=0
 ·have hs:s=⟨#[]⟩:=by
   apply ByteArray.ext
   exact Array.eq_empty_of_size_eq_zero h0
  subst hs
  go_enter Tryz.func70,Tryz.ntmps70
  go_wp2
  go_ret
  exact⟨rfl,Below.refl _ _⟩
 ·have hinfo:(Tryz.prog.info? 5).map (·.size)=some 1:=by kernel_rfl
  have Xh:Tryz.prog.cellsOf 5=1:=by kernel_rfl
  obtain⟨M,hM⟩:∃M,M=(List.replicate s.size (Value.int .u8 0)).toArray:=⟨_,rfl⟩
  have hMs:M.size=s.size:=by rw[hM];simp
  have hmk:=fun W:World=>m5 W s.size hlim
  rw[←hM] at hmk
  clear hM
  have GI:=Lib.run_copy_row_string (P:=Tryz.prog) (w.alloc (.cells M 5)) 67 9 3 5 w.heap.size 0 s.size s.size s M 5 Tryz.underlying67 hinfo (heap_alloc_new w _) (Nat.le_refl _) (by omega)
  obtain⟨Y,hY⟩:∃Y,Y=(M.toList.take 0++Lib.byteCells s.data.toList++M.toList.drop (0+s.size)).toArray:=⟨_,rfl⟩
  rw[←hY] at GI
  have P0:Y.toList=Lib.byteCells s.data.toList:=by
   rw[hY,List.toList_toArray,List.take_zero,List.nil_append,List.drop_of_length_le (by rw[Array.length_toList];omega),List.append_nil]
  have hYs:Y.size=s.size:=by rw[←Array.length_toList,P0,Lib.byteCells_length,←Lib.size_eq]
  have XF:((w.alloc (.cells M 5)).setRow w.heap.size Y).heap[w.heap.size]?=some (.cells Y 5 (0,0)):=setRow_heap _ _ M _ 5 (0,0) (heap_alloc_new w _)
  have hne:s.data.toList≠[]:=fun e=>h0 (by rw[Lib.size_eq,e];rfl)
  have hUS:=Lib.run_unsafeString_row (P:=Tryz.prog) ((w.alloc (.cells M 5)).setRow w.heap.size Y) 162 3 9 5 Tryz.underlying162 Xh w.heap.size Y.size (by unfold World.shape?;rw[XF]) s.data.toList hne (by rw[←Lib.size_eq];omega) (by rw[←Lib.size_eq];omega)
   (fun j x hx=>Lib.cells_of_row XF Y.size j _ (by rw[List.take_of_length_le (by rw[Array.length_toList];exact Nat.le_refl _),P0];simp[Lib.byteCells,hx]))
  rw[←Lib.size_eq] at hUS
  clear hY
  go_enter Tryz.func70,Tryz.ntmps70
  go_wp2
  go_ret
  have aQ:Below w.heap.size w (w.alloc (.cells M 5)):=(Below.refl _ w).alloc (Nat.le_refl _) _
  have aC:Below w.heap.size (w.alloc (.cells M 5)) ((w.alloc (.cells M 5)).setRow w.heap.size Y):=⟨rfl,rfl,rfl,by simp,fun k hk=>setRow_other _ _ _ _ (by omega)⟩
  exact⟨rfl,Lib.below_freeze (aQ.trans aC) (p:=⟨w.heap.size,0,none⟩) (Nat.le_refl _) _⟩
theorem fT (s:ByteArray) (w:World) (hlim:s.size≤1000000):
  Calls Tryz.prog 37 #[.string s] w fun e w'=>e=.returned (.string s)∧Below w.heap.size w w':=by
 go_enter Tryz.func37,Tryz.ntmps37
 go_wp2_with fail
 refine (zj s w hlim).mono ?_
 rintro e w1 ⟨rfl,hb⟩
 have HB:=aa hb
 clear hb
 go_wp2
 go_ret
 exact⟨rfl,HB.out⟩
theorem Kt (w:World):(zeroValue 143).run Tryz.prog w=.ok (ctext zeros) w:=by kernel_rfl
theorem GJ (w:World) (c:Nat):(Instr.sliceAt 143 (.pointer (some ⟨c,0,none⟩)) none none none).run Tryz.prog w=.ok (.slice (some ⟨c,0,none⟩) 512 512) w:=by
 have e1:Tryz.prog.arrayLen 143=512:=by kernel_rfl
 have e2:Tryz.prog.elem 143=5:=by kernel_rfl
 have e3:=run_sliceAt_array_all (P:=Tryz.prog) w 143 ⟨c,0,none⟩ (by rw[e1,e2];kernel_rfl)
 rw[e3,e1,e2]
 show ((sizeOf 5).run Tryz.prog w).andThen _=_
 rw[Tryz.sizeOf5]
 simp[go_sem,Addr.add]
theorem Ku {w:World} {c:Nat} {t:List UInt8} (hb:aG w c 143 (t.map aR)) (ht:t.length=512):(convert 67 9 (.slice (some ⟨c,0,none⟩) 512 512)).run Tryz.prog w=.ok (.string (bs t)) w:=by
 have:=run_convert_bytes_back (P:=Tryz.prog) w 67 9 5 ⟨c,0,none⟩ 512 t (by kernel_rfl) (by kernel_rfl) (by kernel_rfl) (by
  intro i hi
  rw[pL]
  refine hb.cell ?_
  rw[List.getElem?_map,List.getElem?_eq_getElem hi]
  rfl)
 rw[ht] at this
 exact this
theorem BD (s:ByteArray) (w:World) (hs:s.size≤512):
  Calls Tryz.prog 166 #[.string s] w fun e w'=>e=.returned (.string (bs (Dk.full s.data.toList)))∧Below w.heap.size w w':=by
 obtain⟨Z,hZ⟩:∃Z,Z=(zeros.map aR).toArray:=⟨_,rfl⟩
 have hz:∀w,(zeroValue 143).run Tryz.prog w=.ok (.agg Z) w:=fun w=>by rw[hZ];exact Kt w
 have hzs:Z.size=512:=by rw[hZ];simp[fQ]
 have Tq:¬Z=#[]:=by intro e;rw[e] at hzs;cases hzs
 have HZ:=aa hZ
 have H5:=aa hs
 clear hZ hs
 obtain⟨q,hq⟩:∃q,w.heap.size=q:=⟨_,rfl⟩
 obtain⟨V,hV⟩:∃V,V=w.alloc (.cells Z 143):=⟨_,rfl⟩
 have HV:=aa (show aG V q 143 (zeros.map aR)∧Below w.heap.size w V by
  have hb:=aG.new w Z 143
  rw[hq,←hV,HZ.out] at hb
  exact⟨hb,by rw[hV];exact (Below.refl _ _).alloc (Nat.le_refl _) _⟩)
 have q_:=fun W=>GJ W q
 go_enter Tryz.func166,Tryz.ntmps166
 go_wp2_with (refine j9 rfl _ _ _ _ rfl 5 Tryz.underlying67 (by kernel_rfl) q 512 512 s rfl rfl (zeros.map aR).toArray 143 (by first|exact HV.out.1|(rw[←hV];exact HV.out.1)) H5.out (by have:=H5.out;simp[fQ];exact this) ?_;refine Hid.out ?_)
 refine aa ?_
 try rw[←hV]
 obtain⟨Y,hY⟩:∃Y,Y=V.setRow q (strCells s++List.drop s.size (List.map aR zeros)).toArray:=⟨_,rfl⟩
 rw[←hY]
 have Mc:aj (fun k=>k=q) V Y:=by rw[hY];exact (aj.refl _ _).setRow _ _ (fun _=>rfl)
 have XG:aG Y q 143 ((Dk.full s.data.toList).map aR):=by
  rw[hY,←zf s]
  exact setRow_heap V q _ _ _ _ HV.out.1
 have hbk:=Ku XG (Dk.dw _ (by rw[Array.length_toList];exact H5.out))
 have HB:=aa (show Below w.heap.size w Y from Below.but HV.out.2 Mc HV.out.2.size (fun k hk e=>by omega))
 clear hY hV XG Mc
 go_wp2
 go_ret
 exact⟨rfl,HB.out⟩
end Go.Proofs.YtloekpcncjocaaaGreatDoor
namespace Go.Proofs.YtloekpcncjocaaaGreatDoor
open Go.RowKit Go.Maps Lib
theorem Kv (k:Nat):uK.enc (Tx.un k)=.int .i64 (k:Int):=by show Value.int .i64 ((Tx.un k).length:Nat)=_;rw[Tx.dZ]
theorem sH (w:World) (i:Nat) (t:ByteArray):aJ oF (w.alloc (.cells #[.int .i64 i,.string t] 202)) w.heap.size 0 [(i,t.data.toList)]:=
 aJ.dI (aG.new w #[.int .i64 i,.string t] 202) rfl
theorem BF (w:World) (T:Nat→Prop) (tb lb n:Nat) (ps:List (Nat×List UInt8)) (i:Nat) (s:ByteArray) (h:uL w T tb lb ps) (hl:zh w lb n) (hi:i<n) (hn:n≤65536) (hs:s.size≤512) (hp:ps.length≤90000000):
  Calls Tryz.prog 155 #[ptr tb,.int .i64 i,.string s] w fun e w'=>e=.returned (.int .i64 0)∧∃T',uL w' T' tb lb (ps++[(i,s.data.toList)])∧aW T w T' w':=by
 have HP:=aa h
 have HA:=aa hl
 obtain⟨F,g,sl,hL,ho,Kw⟩:=hl
 have HL:=aa hL
 obtain⟨mb,vp,vb,hx⟩:=h
 obtain⟨ap,cp,Md,_⟩:=Own.slice hx.op
 subst Md
 have c0:=hx.c0
 have HX:=aa hx
 have HS:=aa (And.intro hs (And.intro hi (And.intro hn hp)))
 have FR:¬(s.size:Int)>512:=by omega
 have Gi:¬(n:Int)≤i:=by omega
 have hi0:¬(i:Int)<0:=by omega
 clear hL hx
 go_enter Tryz.func155,Tryz.ntmps155
 go_wp2_with fail
 refine (g_ w T tb lb n ps HP.out HA.out).mono ?_
 rintro e w1 ⟨rfl,rfl⟩
 unfold ptr
 go_wp2_with fail
 refine (lX w1 F lb g sl HL.out).mono ?_
 rintro e w2 ⟨rfl,rfl⟩
 rw[Kw]
 have c2:w2.cell? ⟨tb,2,none⟩=some vb:=HX.out.c2
 have c2d:w2.drew.cell? ⟨tb,2,none⟩=some vb:=HX.out.c2
 obtain⟨bf,AR⟩:∃bf,bf=Tx.ez (Tx.bS ps) i:=⟨_,rfl⟩
 have HBf:=aa AR
 have GD:=BC w2.drew T tb lb ps i (show uL w2.drew T tb lb ps from HP.out.but ((aj.refl (fun _=>False) w2).drew) (fun _ _ h=>h)) (by omega)
 rw[←AR] at GD
 have OT:=aa GD
 have hlt:tb<w2.heap.size:=HX.out.lt tb HX.out.fb
 have c2a:(w2.drew.alloc (.cells #[.int .i64 bf] 3)).cell? ⟨tb,2,none⟩=some vb:=(HX.out.blk.drew.alloc _).cell rfl
 clear GD AR ho
 go_wp2_with (refine wp_region_any (by kernel_rfl) ?_;refine Hid.out ?_)
 refine aa ?_
 try (change wpAny _ _ _ _ _ _ _ (World.drew _))
 refine tk 0 ?_
 refine tk 1 ?_
 refine tk 2 ?_
 refine tk 3 ?_
 refine tk 5 ?_
 refine tk 6 ?_
 refine rd [4,7] (AllReady.cons rfl (fun K hK=> ?_) (rn fun K hK=> ?_))
 focus (
  go_simp
  refine hK _ _ ?_;clear hK K
  refine rd [7] (rn fun K hK=> ?_)
  go_simp
  refine OT.out.mono ?_;rintro e w3 ⟨rfl,rfl⟩
  refine hK _ _ ?_;clear hK K
  refine rd [8] (rn fun K hK=> ?_)
  go_simp
  refine hK _ _ ?_;clear hK K
  refine rd [9] (rn fun K hK=> ?_)
  refine dN GF _ _ rfl rfl (Own.alloc (show eo 0 w2.drew vb (Tx.fo ps) from HX.out.ob) _) (Nat.zero_le _) w2.heap.size 0 1 1 [bf] rfl rfl (sF w2.drew bf) (by have:=HS.out.2.2.2;rw[Tx.bI];omega) ?_;intro v4 w4 eW nV GK
  refine hK _ _ ?_;clear hK K
  have Fy:=HX.out.CY (W:=w2.drew.alloc (.cells #[.int .i64 bf] 3)) ((Below.refl _ w2).drew.alloc (Nat.le_refl _) _) eW nV GK
  obtain⟨a4,P5,zk,_⟩:=Own.slice eW
  generalize (Tx.fo ps++[bf]).length=N4 at zk
  have e23:=HX.out.spot (W:=w2.drew.alloc (.cells #[.int .i64 bf] 3)) ((Below.refl _ w2).drew.alloc (Nat.le_refl _) _) nV HX.out.bne HX.out.fv
  have e2:=e23.1.cell (j:=2) rfl
  have e3:=e23.1.frozen 2
  subst zk
  have H4:=aa Fy
  clear eW nV GK Fy e23
  refine tk 10 ?_
  refine tk 11 ?_
  refine rd [12] (rn fun K hK=> ?_)
  go_simp
  refine hK _ _ ?_;clear hK K
  refine wpAny_done (by kernel_rfl) ?_ _
 )
 rotate_left
 focus (
  go_simp
  refine OT.out.mono ?_
  rintro e w3 ⟨rfl,rfl⟩
  refine hK _ _ ?_;clear hK K
  refine rd [4,8] (AllReady.cons rfl (fun K hK=> ?_) (rn fun K hK=> ?_))
  focus (
   go_simp
   refine hK _ _ ?_;clear hK K
   refine rd [8] (rn fun K hK=> ?_)
   go_simp
   refine hK _ _ ?_;clear hK K
   refine rd [9] (rn fun K hK=> ?_)
   refine dN GF _ _ rfl rfl (Own.alloc (show eo 0 w2.drew vb (Tx.fo ps) from HX.out.ob) _) (Nat.zero_le _) w2.heap.size 0 1 1 [bf] rfl rfl (sF w2.drew bf) (by have:=HS.out.2.2.2;rw[Tx.bI];omega) ?_;intro v4 w4 eW nV GK
   refine hK _ _ ?_;clear hK K
   have Fy:=HX.out.CY (W:=w2.drew.alloc (.cells #[.int .i64 bf] 3)) ((Below.refl _ w2).drew.alloc (Nat.le_refl _) _) eW nV GK
   obtain⟨a4,P5,zk,_⟩:=Own.slice eW
   generalize (Tx.fo ps++[bf]).length=N4 at zk
   have e23:=HX.out.spot (W:=w2.drew.alloc (.cells #[.int .i64 bf] 3)) ((Below.refl _ w2).drew.alloc (Nat.le_refl _) _) nV HX.out.bne HX.out.fv
   have e2:=e23.1.cell (j:=2) rfl
   have e3:=e23.1.frozen 2
   subst zk
   have H4:=aa Fy
   clear eW nV GK Fy e23
   refine tk 10 ?_
   refine tk 11 ?_
   refine rd [12] (rn fun K hK=> ?_)
   go_simp
   refine hK _ _ ?_;clear hK K
   refine wpAny_done (by kernel_rfl) ?_ _
  )
  rotate_left
  focus (
   go_simp
   refine hK _ _ ?_;clear hK K
   refine rd [4] (rn fun K hK=> ?_)
   go_simp
   refine hK _ _ ?_;clear hK K
   refine rd [9] (rn fun K hK=> ?_)
   refine dN GF _ _ rfl rfl (Own.alloc (show eo 0 w2.drew vb (Tx.fo ps) from HX.out.ob) _) (Nat.zero_le _) w2.heap.size 0 1 1 [bf] rfl rfl (sF w2.drew bf) (by have:=HS.out.2.2.2;rw[Tx.bI];omega) ?_;intro v4 w4 eW nV GK
   refine hK _ _ ?_;clear hK K
   have Fy:=HX.out.CY (W:=w2.drew.alloc (.cells #[.int .i64 bf] 3)) ((Below.refl _ w2).drew.alloc (Nat.le_refl _) _) eW nV GK
   obtain⟨a4,P5,zk,_⟩:=Own.slice eW
   generalize (Tx.fo ps++[bf]).length=N4 at zk
   have e23:=HX.out.spot (W:=w2.drew.alloc (.cells #[.int .i64 bf] 3)) ((Below.refl _ w2).drew.alloc (Nat.le_refl _) _) nV HX.out.bne HX.out.fv
   have e2:=e23.1.cell (j:=2) rfl
   have e3:=e23.1.frozen 2
   subst zk
   have H4:=aa Fy
   clear eW nV GK Fy e23
   refine tk 10 ?_
   refine tk 11 ?_
   refine rd [12] (rn fun K hK=> ?_)
   go_simp
   refine hK _ _ ?_;clear hK K
   refine wpAny_done (by kernel_rfl) ?_ _
  )
 )
 all_goals (
  obtain⟨X,hX⟩:∃X,X=w4.setCell ⟨tb,2,none⟩ (.slice a4 N4 P5):=⟨_,rfl⟩
  rw[←hX] at H4 ⊢
  clear hX e2 e3
  obtain⟨T1,Eb⟩:∃T1,Hid (dO X T1 tb lb mb (.slice ap ps.length cp) (.slice a4 N4 P5) ps (Tx.fo ps++[bf]) (Tx.bS ps)∧aW T w2 T1 X):=⟨_,H4⟩
  have d1:X.drew.cell? ⟨tb,1,none⟩=some (.slice ap ps.length cp):=Eb.out.1.c1
  have d3:X.drew.cell? ⟨tb,3,none⟩=some (.map (some mb)):=Eb.out.1.c3
  obtain⟨w5,hrun,P6,eN⟩:=dY.Gy (T:=76) (show nk X.drew mb (Tx.bS ps) from Eb.out.1.mp.but ((aj.refl (fun _=>False) X).drew) id) eX gS (by have:=Tx.vF ps;have:=HS.out.2.2.2;omega) (k:=i) (by have:=HS.out;omega) (t:=Tx.un ps.length) (by show Tx.un _=Tx.un (Tx.un _).length;rw[Tx.dZ])
  rw[Kv] at hrun
  have H5:=aa (And.intro P6 eN)
  clear P6 eN
  go_wp2
  go_still_tail 10,(by kernel_rfl)
  change wpList _ _ _ _ _ X.drew
  have HY:=aa (show dO w5 T1 tb lb mb (.slice ap ps.length cp) (.slice a4 N4 P5) ps (Tx.fo ps++[bf]) (Wl.ins i (Tx.un ps.length) (Tx.bS ps))∧aW T w2 T1 w5 by
   have cH:aj (fun k=>k=mb) X w5:=((aj.refl _ X).drew).trans (aj.J7 H5.out.2) (fun k _ e=>by injection e with e;exact e.symm)
   have hm:=Eb.out.1.map' H5.out.1 cH
   exact⟨hm.1,Eb.out.2.trans hm.2⟩)
  clear d1 d3
  have f0:w5.drew.cell? ⟨tb,1,none⟩=some (.slice ap ps.length cp):=HY.out.1.c1
  have HC:=aa (fT s w5.drew (by have:=HS.out;omega))
  go_wp2_with (refine wp_region_any (by kernel_rfl) ?_;refine Hid.out ?_)
  refine aa ?_
  try (change wpAny _ _ _ _ _ _ _ (World.drew _))
  refine tk 0 ?_
  refine tk 1 ?_
  refine tk 2 ?_
  refine tk 3 ?_
  refine tk 5 ?_
  refine tk 6 ?_
  refine rd [4,7] (AllReady.cons rfl (fun K hK=> ?_) (rn fun K hK=> ?_))
  focus (
   go_simp
   refine hK _ _ ?_;clear hK K
   refine rd [7] (rn fun K hK=> ?_)
   go_simp
   refine HC.out.mono ?_;rintro e w6 ⟨rfl,qZ⟩;have H6:=aa (((Below.refl _ w5).drew).trans qZ);clear qZ
   refine hK _ _ ?_;clear hK K
   refine tk 8 ?_
   refine rd [9] (rn fun K hK=> ?_)
   go_simp
   refine hK _ _ ?_;clear hK K
   refine rd [10] (rn fun K hK=> ?_)
   refine dN zg _ _ rfl rfl (Own.alloc (HY.out.1.below H6.out).op _) (Nat.zero_le _) w6.heap.size 0 1 1 [(i,s.data.toList)] rfl rfl (sH w6 i s) (by have:=HS.out.2.2.2;omega) ?_;intro v8 w8 kX Ec AU
   refine hK _ _ ?_;clear hK K
   have Me:=aa (show Below w5.heap.size w5 (w6.alloc (.cells #[.int .i64 i,.string s] 202)) from H6.out.alloc H6.out.size _)
   have Mf:=HY.out.1.CZ Me.out kX Ec AU (fun p hp=>by
    rcases List.mem_append.1 hp with hp|hp
    ·exact HX.out.small p hp
    ·obtain rfl:=List.mem_singleton.1 hp
     have:=HS.out
     refine⟨by show i≤65536;omega, ?_⟩
     show s.data.toList.length≤512
     rw[Array.length_toList];exact this.1)
   obtain⟨a8,XH,zl,_⟩:=Own.slice kX
   generalize (ps++[(i,s.data.toList)]).length=N8 at zl
   have e23:=HY.out.1.spot Me.out Ec HY.out.1.OW HY.out.1.fp
   have e2:=e23.1.cell (j:=1) rfl
   have e3:=e23.1.frozen 1
   subst zl
   have H8:=aa Mf
   clear kX Ec AU Mf e23
   refine tk 11 ?_
   refine tk 12 ?_
   refine rd [13] (rn fun K hK=> ?_)
   go_simp
   refine hK _ _ ?_;clear hK K
   refine wpAny_done (by kernel_rfl) ?_ _
  )
  rotate_left
  focus (
   go_simp
   refine HC.out.mono ?_
   rintro e w6 ⟨rfl,qZ⟩
   have H6:=aa (((Below.refl _ w5).drew).trans qZ)
   clear qZ
   refine hK _ _ ?_;clear hK K
   refine tk 8 ?_
   have f1:w6.cell? ⟨tb,1,none⟩=some (.slice ap ps.length cp):=(HY.out.1.below H6.out).c1
   have f2:(w6.alloc (.cells #[.int .i64 i,.string s] 202)).cell? ⟨tb,1,none⟩=some (.slice ap ps.length cp):=((HY.out.1.below H6.out).below ((Below.refl _ w6).alloc (Nat.le_refl _) _)).c1
   refine rd [4,9] (AllReady.cons rfl (fun K hK=> ?_) (rn fun K hK=> ?_))
   focus (
    go_simp
    refine hK _ _ ?_;clear hK K
    refine rd [9] (rn fun K hK=> ?_)
    go_simp
    refine hK _ _ ?_;clear hK K
    refine rd [10] (rn fun K hK=> ?_)
    refine dN zg _ _ rfl rfl (Own.alloc (HY.out.1.below H6.out).op _) (Nat.zero_le _) w6.heap.size 0 1 1 [(i,s.data.toList)] rfl rfl (sH w6 i s) (by have:=HS.out.2.2.2;omega) ?_;intro v8 w8 kX Ec AU
    refine hK _ _ ?_;clear hK K
    have Me:=aa (show Below w5.heap.size w5 (w6.alloc (.cells #[.int .i64 i,.string s] 202)) from H6.out.alloc H6.out.size _)
    have Mf:=HY.out.1.CZ Me.out kX Ec AU (fun p hp=>by
     rcases List.mem_append.1 hp with hp|hp
     ·exact HX.out.small p hp
     ·obtain rfl:=List.mem_singleton.1 hp
      have:=HS.out
      refine⟨by show i≤65536;omega, ?_⟩
      show s.data.toList.length≤512
      rw[Array.length_toList];exact this.1)
    obtain⟨a8,XH,zl,_⟩:=Own.slice kX
    generalize (ps++[(i,s.data.toList)]).length=N8 at zl
    have e23:=HY.out.1.spot Me.out Ec HY.out.1.OW HY.out.1.fp
    have e2:=e23.1.cell (j:=1) rfl
    have e3:=e23.1.frozen 1
    subst zl
    have H8:=aa Mf
    clear kX Ec AU Mf e23
    refine tk 11 ?_
    refine tk 12 ?_
    refine rd [13] (rn fun K hK=> ?_)
    go_simp
    refine hK _ _ ?_;clear hK K
    refine wpAny_done (by kernel_rfl) ?_ _
   )
   rotate_left
   focus (
    go_simp
    refine hK _ _ ?_;clear hK K
    refine rd [4] (rn fun K hK=> ?_)
    go_simp
    refine hK _ _ ?_;clear hK K
    refine rd [10] (rn fun K hK=> ?_)
    refine dN zg _ _ rfl rfl (Own.alloc (HY.out.1.below H6.out).op _) (Nat.zero_le _) w6.heap.size 0 1 1 [(i,s.data.toList)] rfl rfl (sH w6 i s) (by have:=HS.out.2.2.2;omega) ?_;intro v8 w8 kX Ec AU
    refine hK _ _ ?_;clear hK K
    have Me:=aa (show Below w5.heap.size w5 (w6.alloc (.cells #[.int .i64 i,.string s] 202)) from H6.out.alloc H6.out.size _)
    have Mf:=HY.out.1.CZ Me.out kX Ec AU (fun p hp=>by
     rcases List.mem_append.1 hp with hp|hp
     ·exact HX.out.small p hp
     ·obtain rfl:=List.mem_singleton.1 hp
      have:=HS.out
      refine⟨by show i≤65536;omega, ?_⟩
      show s.data.toList.length≤512
      rw[Array.length_toList];exact this.1)
    obtain⟨a8,XH,zl,_⟩:=Own.slice kX
    generalize (ps++[(i,s.data.toList)]).length=N8 at zl
    have e23:=HY.out.1.spot Me.out Ec HY.out.1.OW HY.out.1.fp
    have e2:=e23.1.cell (j:=1) rfl
    have e3:=e23.1.frozen 1
    subst zl
    have H8:=aa Mf
    clear kX Ec AU Mf e23
    refine tk 11 ?_
    refine tk 12 ?_
    refine rd [13] (rn fun K hK=> ?_)
    go_simp
    refine hK _ _ ?_;clear hK K
    refine wpAny_done (by kernel_rfl) ?_ _
   )
  )
  all_goals (
   go_wp2
   go_ret
   exact⟨rfl,_,⟨mb,_,_,by rw[Tx.pY,Tx.eG,←HBf.out];exact H8.out.1⟩,HY.out.2.trans H8.out.2⟩
  )
 )
theorem BG (w:World) (T:Nat→Prop) (tb lb n:Nat) (ps:List (Nat×List UInt8)) (i:Int) (s:ByteArray) (h:uL w T tb lb ps) (hl:zh w lb n) (c:Int)
  (hc:(c=2∧(i<0∨(n:Int)≤i))∨(c=5∧0≤i∧i<n∧512<s.size)):
  Calls Tryz.prog 155 #[ptr tb,.int .i64 i,.string s] w fun e w'=>e=.returned (.int .i64 c)∧w'=w:=by
 have HP:=aa h
 have HA:=aa hl
 obtain⟨F,g,sl,hL,ho,Kw⟩:=hl
 have HL:=aa hL
 obtain⟨mb,vp,vb,hx⟩:=h
 have c0:=hx.c0
 clear hL hx
 go_enter Tryz.func155,Tryz.ntmps155
 go_wp2_with fail
 refine (g_ w T tb lb n ps HP.out HA.out).mono ?_
 rintro e w1 ⟨rfl,rfl⟩
 unfold ptr
 rcases hc with⟨rfl,hc⟩|⟨rfl,h1,h2,h3⟩
 ·by_cases h0:i<0
  ·go_wp2
   go_ret
   exact⟨rfl,rfl⟩
  ·have hn:(n:Int)≤i:=hc.resolve_left h0
   go_wp2_with fail
   refine (lX w1 F lb g sl HL.out).mono ?_
   rintro e w2 ⟨rfl,rfl⟩
   rw[Kw]
   go_wp2
   go_ret
   exact⟨rfl,rfl⟩
 ·have h0:¬i<0:=by omega
  have h4:¬(n:Int)≤i:=by omega
  have h5:(s.size:Int)>512:=by omega
  go_wp2_with fail
  refine (lX w1 F lb g sl HL.out).mono ?_
  rintro e w2 ⟨rfl,rfl⟩
  rw[Kw]
  go_wp2
  go_ret
  exact⟨rfl,rfl⟩
end Go.Proofs.YtloekpcncjocaaaGreatDoor
namespace Go.Proofs.YtloekpcncjocaaaGreatDoor
open Go.RowKit Lib
section
variable {α:Type} {K:Elem α} {P:Program} {E T B:Nat} {w:World} {l:List α}
theorem Own.upto {g n cap:Nat} (h:Own K E B w (.slice (some ⟨g,0,none⟩) n cap) l) (k:Nat) (hk:k≤l.length):Own K E B w (.slice (some ⟨g,0,none⟩) k cap) (l.take k):=by
 have hl:(l.take k).length=k:=by rw[List.length_take,Nat.min_eq_left hk]
 refine⟨by rw[K.a_], ?_⟩
 rcases h.2 with⟨e,_⟩|⟨g',cap',cur,e,hB,hh,hc,hm,hs,ht⟩
 ·cases e
 ·injection e with e1 e2 e3
  injection e1 with e1
  injection e1 with e1
  subst e1 e2 e3
  refine .inr ⟨g,cap,cur,by rw[hl],hB,hh,by rw[hl];omega,hm,hs, ?_⟩
  rw[hl,K.rP,←ht,List.take_take,Nat.min_eq_left (Nat.mul_le_mul_right _ hk)]
theorem Own.behind {g n cap:Nat} (h:Own K E B w (.slice (some ⟨g,0,none⟩) n cap) l) (j:Nat) (u:Value) (hj:l.length*K.size≤j):Own K E B (w.setCell ⟨g,j,none⟩ u) (.slice (some ⟨g,0,none⟩) n cap) l:=by
 refine⟨h.1, ?_⟩
 rcases h.2 with⟨e,_⟩|⟨g',cap',cur,e,hB,hh,hc,hm,hs,ht⟩
 ·cases e
 ·injection e with e1 e2 e3
  injection e1 with e1
  injection e1 with e1
  subst e1 e2 e3
  refine .inr ⟨g,cap,cur.setIfInBounds j u,rfl,hB,heap_setCell_same w g j cur E u hh,hc,hm,by rw[Array.size_setIfInBounds];exact hs, ?_⟩
  rw[Array.toList_setIfInBounds,List.take_set_of_le hj]
  exact ht
theorem Own.cleared {g n cap:Nat}:∀(vs:List Value) (w:World) (j:Nat),Own K E B w (.slice (some ⟨g,0,none⟩) n cap) l→l.length*K.size≤j→Own K E B (w.setCells g j vs) (.slice (some ⟨g,0,none⟩) n cap) l∧aj (fun k=>k=g) w (w.setCells g j vs)
 |[],w,_,h,_=>⟨h,aj.refl _ _⟩
 |v::vs,w,j,h,hj=>by
  have:=Own.cleared vs (w.setCell ⟨g,j,none⟩ v) (j+1) (Own.behind h j v hj) (by omega)
  exact⟨this.1,((aj.refl (fun k=>k=g) w).setCell ⟨g,j,none⟩ v (fun _=>rfl)).trans this.2 (fun _ _ e=>e)⟩
theorem Own.spare {g n cap:Nat} (h:Own K E B w (.slice (some ⟨g,0,none⟩) n cap) l) (j:Nat) (hj:j<cap*K.size):(w.cell? ⟨g,j,none⟩).isSome=true∧w.frozen? ⟨g,j,none⟩=false:=by
 rcases h.2 with⟨e,_⟩|⟨g',cap',cur,e,hB,hh,hc,hm,hs,ht⟩
 ·cases e
 ·injection e with e1 e2 e3
  injection e1 with e1
  injection e1 with e1
  subst e1 e2 e3
  have OX:j<cur.size:=by omega
  constructor
  ·simp[World.cell?,hh,OX]
  ·simp[World.frozen?,hh]
theorem qE (ST:cI P T E K.size) {o:Oper} {a:Act} {K':Act→World→Prop} {Q:Exit→Act→World→Prop} (s x:Operand)
  (ho:o.op=.call {callee:=.builtin .append,args:=#[s,x],argTypes:=#[T,T]}) (g k cap:Nat)
  (hs:a.eval s=.slice (some ⟨g,0,none⟩) k cap) (hown:Own K E B w (.slice (some ⟨g,0,none⟩) k cap) l) (hk:k=l.length) (hx:∃ad c,a.eval x=.slice (some ad) 0 c) (hc:k≤cap)
  (h:∀w',Own K E B w' (.slice (some ⟨g,0,none⟩) k cap) l→w.grownBy w' (some g)→K' (a.put o.dst (.slice (some ⟨g,0,none⟩) k cap)) w'):o.wp P a w K' Q:=by
 obtain⟨i,z,hi,hz,hsize,hzs,hby⟩:=ST.info
 obtain⟨ad,c,hx⟩:=hx
 subst hk
 obtain⟨w',hr,h2,h3⟩:=run_append_fits (P:=P) (w:=w) (ty:=o.type) B T E i K.size ST.under hi hsize g l.length cap (K.cells l) hown ad 0 c [] (by simp) (fun j u hu=>by cases hu) (fun u hu=>by cases hu) (by omega)
 unfold Oper.wp execOp
 simp only[ho,resolve,invoke,builtin,Sem.run_bind,Sem.run_pure,Result.andThen_ok,List.map_toArray,List.map_cons,List.map_nil,hs,hx,hr]
 refine h w' ?_ h3
 rw[List.append_nil] at h2
 exact h2
end
theorem kY (w:World) (o k cap:Nat) (ps:List (Nat×List UInt8)) (h:nr 0 w (.slice (some ⟨o,0,none⟩) k cap) ps) (d:Nat) (hk:k+d≤cap) (hd:0<d):
  ∃vs,∀(c:Nat) (ty:TypeId),(Builtin.clear_ #[77] ty #[.slice (some ⟨o,k*2,none⟩) d c]).run Tryz.prog w=.ok (.tuple #[]) (w.setCells o (k*2) vs):=by
 obtain⟨z,hz⟩:∃z,z=(Builtin.zeroCells (Value.agg #[Value.int .i64 0,.string ⟨#[]⟩]).cells d).toList:=⟨_,rfl⟩
 have P7:z=(Builtin.zeroCells #[Value.int .i64 0,.string ⟨#[]⟩] d).toList:=hz
 have hzl:z.length=d*2:=by rw[P7];simp[Builtin.zeroCells]
 have D1:∀v∈z,v.oneCell'=true:=by
  intro v hv
  rw[P7] at hv
  simp only[Builtin.zeroCells,Array.toList_map,List.mem_map] at hv
  obtain⟨i,_,rfl⟩:=hv
  have:i%2=0∨i%2=1:=by omega
  rcases this with e|e<;>simp[e]<;>rfl
 refine⟨z,fun c ty=> ?_⟩
 have hst:=run_storeCells_cells (P:=Tryz.prog) o (k*2) z 0 w
  (fun j hj=>by rw[Nat.add_zero];exact (Own.spare h (k*2+j) (by show _<cap*2;omega)).1)
  (fun j hj=>by rw[Nat.add_zero];exact (Own.spare h (k*2+j) (by show _<cap*2;omega)).2) D1
 simp only[Nat.add_zero] at hst
 obtain⟨m,rfl⟩:∃m,d=m+1:=⟨d-1,by omega⟩
 simp[Builtin.clear_,run_underlying Tryz.underlying77,←hz,hst]
theorem BH (w:World) (o n cap i:Nat) (ps:List (Nat×List UInt8)) (h:nr 0 w (.slice (some ⟨o,0,none⟩) n cap) ps) (hi:i<ps.length):
  Calls Tryz.prog 158 #[.slice (some ⟨o,0,none⟩) n cap,.int .i64 i,.int .i64 n] w fun e w'=>e=.returned (.slice (some ⟨o,0,none⟩) i cap)∧nr 0 w' (.slice (some ⟨o,0,none⟩) i cap) (ps.take i)∧aj (fun k=>k=o) w w':=by
 obtain⟨_,hn,hcap⟩:=Own.slot h
 have P8:n≤cap:=by omega
 have hin:i<n:=by omega
 have aaa:(i:Int)<n:=by omega
 have hm:=Own.FU h
 have hpre:=Own.upto h i (by omega)
 have GL:=aa hpre
 have HI:=aa (And.intro hi (And.intro hn P8))
 have hm2:(cap:Int)≤9223372036854775807:=by
  rcases h.2 with⟨e,_⟩|⟨g',cap',cur,e,_,_,_,OO,_⟩
  ·cases e
  ·injection e with _ _ e3
   subst e3
   unfold maxLen at OO
   omega
 have aab:i≤n:=by omega
 have hic:i≤cap:=by omega
 clear hpre hi h hn hcap hm
 have hne:¬(i:Int)=n:=by omega
 have aac:(i==n)=false:=beq_eq_false_iff_ne.2 (by omega)
 have aad:((i:Int)==(n:Int))=false:=beq_eq_false_iff_ne.2 (by omega)
 by_cases pZ:cap=n
 ·subst pZ
  go_enter Tryz.func158,Tryz.ntmps158
  go_wp2_with (refine wp_region_any (by kernel_rfl) ?_;refine Hid.out ?_)
  refine aa ?_
  try (change wpAny _ _ _ _ _ _ _ (World.drew _))
  refine tk 0 ?_
  refine tk 1 ?_
  refine tk 2 ?_
  refine tk 3 ?_
  refine tk 4 ?_
  refine tk 5 ?_
  try simp only[Act.put,List.setIfInBounds_toArray,List.set_cons_succ,List.set_cons_zero]
  refine rd [6] (rn fun K hK=> ?_)
  refine qE zg _ _ rfl o i cap rfl (show nr 0 w.drew (.slice (some ⟨o,0,none⟩) i cap) (ps.take i) from GL.out) (by rw[List.length_take];have:=HI.out;omega) ⟨_,_,rfl⟩ (by omega) ?_;intro w5 h5 eN
  refine hK _ _ ?_;clear hK K
  refine tk 7 ?_
  refine wpAny_done (by kernel_rfl) ?_ _
  have H5:=aa (show nr 0 w5 (.slice (some ⟨o,0,none⟩) i cap) (ps.take i)∧aj (fun k=>k=o) w w5 from⟨h5,⟨eN.os,eN.tape,eN.output,eN.size,fun k hk hn=>eN.block k hk (fun e=>hn (by injection e))⟩⟩)
  clear h5 eN
  obtain⟨vs,yW⟩:=kY w5 o i cap (ps.take i) H5.out.1 (cap-i) (by omega) (by omega)
  go_wp2
  go_ret
  have hz:=Own.cleared (K:=oF) (E:=202) (B:=0) vs w5 (i*2) H5.out.1 (by rw[List.length_take];show _*2≤_;omega)
  exact⟨rfl,hz.1,H5.out.2.trans hz.2 (fun _ _ e=>e)⟩
 ·have aae:(cap==n)=false:=beq_eq_false_iff_ne.2 pZ
  go_enter Tryz.func158,Tryz.ntmps158
  go_wp2_with (refine wp_region_any (by kernel_rfl) ?_;refine Hid.out ?_)
  refine aa ?_
  try (change wpAny _ _ _ _ _ _ _ (World.drew _))
  refine tk 0 ?_
  refine tk 1 ?_
  refine tk 2 ?_
  refine tk 3 ?_
  refine tk 4 ?_
  refine tk 5 ?_
  try simp only[Act.put,List.setIfInBounds_toArray,List.set_cons_succ,List.set_cons_zero]
  refine rd [6] (rn fun K hK=> ?_)
  refine qE zg _ _ rfl o i cap rfl (show nr 0 w.drew (.slice (some ⟨o,0,none⟩) i cap) (ps.take i) from GL.out) (by rw[List.length_take];have:=HI.out;omega) ⟨_,_,rfl⟩ (by omega) ?_;intro w5 h5 eN
  refine hK _ _ ?_;clear hK K
  refine tk 7 ?_
  refine wpAny_done (by kernel_rfl) ?_ _
  have H5:=aa (show nr 0 w5 (.slice (some ⟨o,0,none⟩) i cap) (ps.take i)∧aj (fun k=>k=o) w w5 from⟨h5,⟨eN.os,eN.tape,eN.output,eN.size,fun k hk hn=>eN.block k hk (fun e=>hn (by injection e))⟩⟩)
  clear h5 eN
  obtain⟨vs,yW⟩:=kY w5 o i cap (ps.take i) H5.out.1 (n-i) (by omega) (by omega)
  go_wp2
  go_ret
  have hz:=Own.cleared (K:=oF) (E:=202) (B:=0) vs w5 (i*2) H5.out.1 (by rw[List.length_take];show _*2≤_;omega)
  exact⟨rfl,hz.1,H5.out.2.trans hz.2 (fun _ _ e=>e)⟩
end Go.Proofs.YtloekpcncjocaaaGreatDoor
namespace Go.Proofs.YtloekpcncjocaaaGreatDoor
open Go.RowKit Go.Maps Lib
theorem Kept.vH {A:Nat→Prop} {ring b g N:Nat} {H:List Wl.Text} {w:World} (h:Kept A ring w b g N H):zh w b H.length:=by
 obtain⟨F,s,hl,hv,_⟩:=h
 exact⟨F,g,s,hl,hv.off_eq,hv.homes_eq⟩
theorem BI (w:World) (T A:Nat→Prop) (tb lb ring g N:Nat) (H:List Wl.Text) (ps:List (Nat×List UInt8)) (i:Nat) (h:uL w T tb lb ps) (hk:Kept A ring w lb g N H) (hi:i<H.length) (hn:H.length≤65536):
  Calls Tryz.prog 120 #[ptr tb,.int .i64 i] w fun e w'=>e=.returned (.tuple #[.string (bs (eH (Wl.along H (Tx.lZ ps)) i).1),.int .i64 0])∧Below w.heap.size w w':=by
 have HP:=aa h
 have HK:=aa hk
 have hal:i<(Wl.along H (Tx.lZ ps)).length:=by rw[Wl.bL];exact hi
 have SF:=l6 hal
 obtain⟨mb,vp,vb,hx⟩:=h
 obtain⟨ap,cp,Md,_⟩:=Own.slice hx.op
 subst Md
 have HX:=aa hx
 rcases Tx.Ni H ps hi with⟨h1,h2⟩|⟨k,gH,h1,h2⟩
 ·have HE:=aa (show eH (Wl.along H (Tx.lZ ps)) i=eH H i by
   rw[SF,l6 hi]
   rw[List.getElem?_eq_getElem hal,List.getElem?_eq_getElem hi] at h2
   injection h2 with h2
   rw[h2])
  have HZ:=aa (show (eH H i).2=0 by rw[l6 hi])
  have hlk:=nk.cK HX.out.mp (by omega) h1
  have c0:=HX.out.c0
  have c3:=HX.out.c3
  rw[HE.out]
  clear h1 h2 SF hx hk
  go_enter Tryz.func120,Tryz.ntmps120
  go_wp2_with fail
  refine (g_ w T tb lb H.length ps HP.out HK.out.vH).mono ?_
  rintro e w1 ⟨rfl,rfl⟩
  unfold ptr
  go_wp2_with fail
  refine (vG HK.out (i:Int)).mono ?_
  rintro e w2 ⟨rfl,hb⟩
  rw[HZ.out]
  have HB:=aa hb
  clear hb hlk c0 c3
  go_wp2
  go_ret2
  exact⟨rfl,HB.out⟩
 ·have HE:=aa (show eH (Wl.along H (Tx.lZ ps)) i=(Dk.full (ps[k]).2,0) by
   rw[SF]
   rw[List.getElem?_eq_getElem hal] at h2
   injection h2 with h2
   rw[h2])
  have hlk:=nk.fO HX.out.mp (by omega) h1
  have c1:=HX.out.c1
  have c3:=HX.out.c3
  obtain⟨o,co,e1,_,_,_⟩:=Own.form HX.out.op (by omega)
  injection e1 with e1 _ e3
  subst e1 e3
  have cx:=(nr.at HX.out.op k gH).2
  have hsz:=(HX.out.small ps[k] (List.getElem_mem gH)).2
  have pH:(k:Int)<ps.length:=by omega
  rw[HE.out]
  clear h1 h2 SF hx hk
  generalize ps[k]=x at*
  obtain⟨at_,t⟩:=x
  simp only at cx hsz ⊢
  have HSz:=aa hsz
  clear hsz
  go_enter Tryz.func120,Tryz.ntmps120
  go_wp2_with fail
  refine (g_ w T tb lb H.length ps HP.out HK.out.vH).mono ?_
  rintro e w1 ⟨rfl,rfl⟩
  unfold ptr
  go_wp2_with fail
  refine (BD (bs t) w1 (by rw[aB];exact HSz.out)).mono ?_
  rintro e w2 ⟨rfl,hb⟩
  rw[cj]
  have HB:=aa hb
  clear hb hlk c1 c3 cx
  go_wp2
  go_ret2
  exact⟨rfl,HB.out⟩
end Go.Proofs.YtloekpcncjocaaaGreatDoor
namespace Go.Proofs.YtloekpcncjocaaaGreatDoor
open Go.RowKit Go.Maps Go.ChangeMaps Lib
theorem GM (k:Nat):uK.enc (Tx.un k)=.int .i64 (k:Int):=by show Value.int .i64 ((Tx.un k).length:Nat)=_;rw[Tx.dZ]
theorem Kx (k:Nat) (m:Wl.cY):(dat m).del (.int .i64 k)=dat (Tx.del k m):=by
 show DataW.map _=DataW.map _
 congr 1
 show (m.map pN).filter _=(Tx.del k m).map pN
 unfold Tx.del
 induction m with
 |nil=>rfl
 |cons x m ih=>
  rw[List.map_cons,List.filter_cons,List.filter_cons,jg]
  by_cases h:x.1=k
  ·rw[decide_eq_true h,if_neg (by simp),if_neg (by simp[h])];exact ih
  ·rw[decide_eq_false h,if_pos (by simp),if_pos (by simpa using h),List.map_cons,ih]
theorem aj.GN {w w':World} {b:Nat} (h:w.mapTurned w' b):aj (fun k=>k=b) w w':=by
 obtain⟨es,clock,es',clock',h1,rfl⟩:=h
 exact⟨rfl,rfl,rfl,by simp[setBlock],fun k hk hn=>heap_setBlock_other h1 _ hn⟩
theorem xk (w:World) (T:Nat→Prop) (tb lb mb:Nat) (vp vb:Value) (ps:List (Nat×List UInt8)) (bl:List Int) (m:Wl.cY) (i:Nat) (h:dO w T tb lb mb vp vb ps bl m) (hi:i≤65536):
  Calls Tryz.prog 157 #[ptr tb,.int .i64 i,.int .i64 (-1)] w fun e w'=>e=.returned (.tuple #[])∧dO w' T tb lb mb vp vb ps bl (Tx.del i m)∧aW T w T w':=by
 have c3:=h.c3
 have HX:=aa h
 clear h
 go_enter Tryz.func157,Tryz.ntmps157
 unfold ptr
 go_wp2_with (at_delete;refine wpList_delete_own _ rfl _ _ 76 3 rfl 3 (int_keyed eX) gS uK.R mb m.length (dat m) rfl HX.out.mp.1 (.int .i64 i) (.int .i64 i) rfl (keyOf_int_mk eX (rY (by omega))) ?_;intro w1 ko Nm)
 refine bodyPost_end (results_none rfl _ _ _) rfl ?_
 rw[Kx] at ko
 have hm:nk w1 mb (Tx.del i m):=⟨qy uK ko,Tx.sE i HX.out.mp.2.1,fun x hx=>HX.out.mp.2.2 x (List.mem_filter.1 hx).1⟩
 have:=HX.out.map' hm (aj.GN Nm)
 exact⟨rfl,this⟩
theorem xl (w:World) (T:Nat→Prop) (tb lb mb:Nat) (vp vb:Value) (ps:List (Nat×List UInt8)) (bl:List Int) (m:Wl.cY) (i j:Nat) (h:dO w T tb lb mb vp vb ps bl m) (hi:i≤65536) (hn:m.length≤200000000):
  Calls Tryz.prog 157 #[ptr tb,.int .i64 i,.int .i64 j] w fun e w'=>e=.returned (.tuple #[])∧dO w' T tb lb mb vp vb ps bl (Wl.ins i (Tx.un j) m)∧aW T w T w':=by
 have c3:=h.c3
 have HX:=aa h
 have hj:((j:Int)==-1)=false:=beq_eq_false_iff_ne.2 (by omega)
 obtain⟨w5,hrun,P6,eN⟩:=dY.Gy (T:=76) h.mp eX gS hn (k:=i) (by omega) (t:=Tx.un j) (by show Tx.un _=Tx.un (Tx.un _).length;rw[Tx.dZ])
 rw[GM] at hrun
 have H5:=aa (And.intro P6 eN)
 clear h P6 eN
 go_enter Tryz.func157,Tryz.ntmps157
 unfold ptr
 go_wp2
 refine bodyPost_end (results_none rfl _ _ _) rfl ?_
 have cH:aj (fun k=>k=mb) w w5:=⟨H5.out.2.os,H5.out.2.tape,H5.out.2.output,H5.out.2.size,fun k hk hn=>H5.out.2.block k hk (fun e=>hn (by injection e))⟩
 exact⟨rfl,HX.out.map' H5.out.1 cH⟩
theorem Ed (w:World) (T:Nat→Prop) (tb lb:Nat) (ps:List (Nat×List UInt8)) (mark:Int) (h:uL w T tb lb ps) (hm:(ps.length:Int)≤max mark 0):
  Calls Tryz.prog 108 #[ptr tb,.int .i64 mark] w fun e w'=>e=.returned (.tuple #[])∧w'=w:=by
 have HP:=aa h
 clear h
 by_cases h0:mark<0
 ·have h1:(ps.length:Int)=0:=by omega
  go_enter Tryz.func108,Tryz.ntmps108
  go_wp2_with fail
  refine (oG w T tb lb ps HP.out).mono ?_
  rintro e w1 ⟨rfl,rfl⟩
  rw[h1]
  go_wp2
  refine bodyPost_ret (results_none rfl _ _ _) rfl ?_
  exact⟨rfl,rfl⟩
 ·have h1:¬(0:Int)>mark:=by omega
  have h2:(ps.length:Int)≤mark:=by omega
  go_enter Tryz.func108,Tryz.ntmps108
  go_wp2_with fail
  refine (oG w T tb lb ps HP.out).mono ?_
  rintro e w1 ⟨rfl,rfl⟩
  go_wp2
  refine bodyPost_ret (results_none rfl _ _ _) rfl ?_
  exact⟨rfl,rfl⟩
theorem xm (w:World) (T:Nat→Prop) (tb lb mb:Nat) (vp vb:Value) (ps:List (Nat×List UInt8)) (bl:List Int) (j:Nat) (hj:j<ps.length) (h:dO w T tb lb mb vp vb ps bl (Tx.bS (ps.take (j+1)))) (b:Int) (hb:b=Tx.ez (Tx.bS (ps.take j)) (ps[j]).1) (hn:ps.length≤90000000):
  Calls Tryz.prog 157 #[ptr tb,.int .i64 (ps[j]).1,.int .i64 b] w fun e w'=>e=.returned (.tuple #[])∧dO w' T tb lb mb vp vb ps bl (Tx.bS (ps.take j))∧aW T w T w':=by
 have hs:=(h.small ps[j] (List.getElem_mem hj)).1
 rcases Tx.zc (Tx.bS (ps.take j)) (ps[j]).1 with e|⟨i,e⟩
 ·rw[hb,e]
  refine (xk w T tb lb mb vp vb ps bl _ (ps[j]).1 h hs).mono ?_
  rintro e' w' ⟨rfl,h',hm⟩
  rw[Tx.xh hj e] at h'
  exact⟨rfl,h',hm⟩
 ·rw[hb,e]
  refine (xl w T tb lb mb vp vb ps bl _ (ps[j]).1 i h hs (by have:=Tx.vF (ps.take (j+1));rw[List.length_take] at this;omega)).mono ?_
  rintro e' w' ⟨rfl,h',hm⟩
  rw[Tx.xj hj e] at h'
  exact⟨rfl,h',hm⟩
theorem GO (w:World) (T:Nat→Prop) (tb lb:Nat) (ps:List (Nat×List UInt8)) (mark:Int) (M:Nat) (h:uL w T tb lb ps) (hM:max mark 0=(M:Int)) (hm:M<ps.length) (hn:ps.length≤90000000):
  Calls Tryz.prog 108 #[ptr tb,.int .i64 mark] w fun e w'=>e=.returned (.tuple #[])∧∃T',uL w' T' tb lb (ps.take M)∧aW T w T' w':=by
 have HP:=aa h
 obtain⟨mb,vp,vb,hx⟩:=h
 obtain⟨o,co,Md,_,hol,Xn⟩:=Own.form hx.op (by omega)
 obtain⟨ob,cb,BJ,_,qt,hbc⟩:=Own.form hx.ob (by rw[Tx.bI];omega)
 rw[Tx.bI] at BJ hbc
 subst Md BJ
 have HX:=aa hx
 have HM:=aa (And.intro hm hn)
 have Ky:¬(ps.length:Int)≤M:=by omega
 have c1:=hx.c1
 clear hx
 go_enter Tryz.func108,Tryz.ntmps108
 go_wp2_with fail
 refine (oG w T tb lb ps HP.out).mono ?_
 rintro e w1 ⟨rfl,rfl⟩
 unfold ptr
 go_wp2
 have P9:decide (ps.length≤M)=false:=decide_eq_false (by omega)
 rw[P9]
 clear P9
 go_loopw [4] (fun i wr=>∃(k:Nat) (z:Int),z+1=k∧M≤k∧k≤ps.length∧i=.int .i64 z∧Hid (dO wr T tb lb mb (.slice (some ⟨o,0,none⟩) ps.length co) (.slice (some ⟨ob,0,none⟩) ps.length cb) ps (Tx.fo ps) (Tx.bS (ps.take k))∧aW T w1 T wr)) (fun i _=>(RowKit.intOf i+1).toNat)
 case atStart=>exact⟨ps.length,(ps.length:Int)-1,by omega,by omega,Nat.le_refl _,by first|rfl|go_num,aa ⟨by rw[List.take_length];exact HX.out,aW.refl _ _⟩⟩
 case round=>
  obtain⟨k,z,hz,hk1,hk2,rfl,hS⟩:=hrel
  by_cases hlt:M<k
  ·obtain⟨j,rfl⟩:∃j,k=j+1:=⟨k-1,by omega⟩
   obtain rfl:z=(j:Int):=by omega
   have hj:j<ps.length:=by omega
   have hMj:(M:Int)≤j:=by omega
   have DY:(j:Int)<ps.length:=by omega
   have d1:=hS.out.1.c1
   have d2:=hS.out.1.c2
   have e1:=(nr.at hS.out.1.op j hj).1
   have e2:=eo.at hS.out.1.ob j (by rw[Tx.bI];exact hj)
   obtain⟨bv,Fz⟩:∃b,b=(Tx.fo ps)[j]'(by rw[Tx.bI];exact hj):=⟨_,rfl⟩
   obtain⟨pa,hpa⟩:∃a,a=(ps[j]).1:=⟨_,rfl⟩
   rw[←Fz] at e2
   rw[←hpa] at e1
   have HG:=aa (show Calls Tryz.prog 157 #[.pointer (some ⟨tb,0,none⟩),.int .i64 pa,.int .i64 bv] wr.drew fun e w'=>e=.returned (.tuple #[])∧dO w' T tb lb mb (.slice (some ⟨o,0,none⟩) ps.length co) (.slice (some ⟨ob,0,none⟩) ps.length cb) ps (Tx.fo ps) (Tx.bS (ps.take j))∧aW T wr.drew T w' by
    rw[hpa]
    exact xm wr.drew T tb lb mb _ _ ps _ j hj (hS.out.1.but ((aj.refl (fun _=>False) wr).drew) (fun _ _ h=>h)) bv (by rw[Fz,Tx.Kr]) HM.out.2)
   have HEq:=aa (And.intro Fz hpa)
   have HJ:=aa hj
   have HMj:=aa hlt
   have SG:wr.drew.cell? ⟨tb,1,none⟩=some (.slice (some ⟨o,0,none⟩) ps.length co):=d1
   have XI:wr.drew.cell? ⟨tb,2,none⟩=some (.slice (some ⟨ob,0,none⟩) ps.length cb):=d2
   have XJ:wr.drew.cell? ⟨o,j*2,none⟩=some (.int .i64 pa):=e1
   have XK:wr.drew.cell? ⟨ob,j,none⟩=some (.int .i64 bv):=e2
   clear Fz hpa hz hk1 hk2 hlt d1 d2 e1 e2 c1 hm Ky
   go_wp2
   go_region_held3 (fun w'=>w'.cell? ⟨tb,1,none⟩=some (.slice (some ⟨o,0,none⟩) ps.length co)∧w'.cell? ⟨tb,2,none⟩=some (.slice (some ⟨ob,0,none⟩) ps.length cb)∧w'.cell? ⟨o,j*2,none⟩=some (.int .i64 pa)∧w'.cell? ⟨ob,j,none⟩=some (.int .i64 bv))
    (first
     |(exact⟨SG,XI,XJ,XK⟩)
     |(exact⟨s1,s2,s3,s4⟩)
     |go_keep)
    (first
     |(go_at_call 157;refine HG.out.mono ?_;rintro e w3 ⟨rfl,h3,m3⟩;have s1:=h3.c1;have s2:=h3.c2;have s3:=(nr.at h3.op j HJ.out).1;rw[←HEq.out.2] at s3;have s4:=eo.at h3.ob j (by rw[Tx.bI];exact HJ.out);rw[←HEq.out.1] at s4;have H3:=aa (show dO w3 T tb lb mb (.slice (some ⟨o,0,none⟩) ps.length co) (.slice (some ⟨ob,0,none⟩) ps.length cb) ps (Tx.fo ps) (Tx.bS (ps.take j))∧aW T w1 T w3 from⟨h3,hS.out.2.trans ((show aW T wr T wr.drew from⟨(aj.refl T wr).drew,fun _ h=>.inl h⟩).trans m3)⟩);clear h3 m3))
   clear s1 s2 s3 s4 SG XI XJ XK
   go_wp2
   go_roundw
   case rel=>exact⟨j,(j:Int)-1,by omega,by have:=HMj.out;omega,by have:=HJ.out;omega,by first|rfl|go_num,H3⟩
   case measure=>simp[RowKit.intOf]
  ·have T6:k=M:=by omega
   rw[T6] at hS
   have hzM:¬(M:Int)≤z:=by omega
   have HZ:=aa (And.intro hz T6)
   clear hz T6 hk1 hk2 hlt c1 hm Ky
   have SG:wr.drew.cell? ⟨tb,1,none⟩=some (.slice (some ⟨o,0,none⟩) ps.length co):=hS.out.1.c1
   have HD:=aa (BH wr.drew o ps.length co M ps (show nr 0 wr.drew (.slice (some ⟨o,0,none⟩) ps.length co) ps from hS.out.1.op) HM.out.1)
   go_wp2_with (refine wp_region_any (by kernel_rfl) ?_;refine Hid.out ?_)
   refine aa ?_
   try (change wpAny _ _ _ _ _ _ _ (World.drew _))
   refine tk 0 ?_
   refine tk 1 ?_
   refine tk 2 ?_
   refine tk 3 ?_
   refine tk 5 ?_
   refine tk 6 ?_
   refine tk 7 ?_
   refine tk 8 ?_
   refine rd [4,9] (AllReady.cons rfl (fun K hK=> ?_) (rn fun K hK=> ?_))
   focus (
    go_simp
    refine hK _ _ ?_;clear hK K
    refine rd [9] (rn fun K hK=> ?_)
    go_simp
    refine hK _ _ ?_;clear hK K
    refine tk 10 ?_
   )
   rotate_left
   focus (
    go_simp
    refine hK _ _ ?_;clear hK K
    refine tk 10 ?_
    refine rd [4] (rn fun K hK=> ?_)
    go_simp
    refine hK _ _ ?_;clear hK K
   )
   all_goals (
    refine rd [11] (rn fun K hK=> ?_)
    go_simp
    refine HD.out.mono ?_;rintro e w5 ⟨rfl,h5,cH⟩
    refine hK _ _ ?_;clear hK K
    have GQ:aj (fun k=>k=o) wr w5:=((aj.refl (fun k=>k=o) wr).drew).trans cH (fun _ _ e=>e)
    have SH:=hS.out.1.CZ (W:=wr) (Below.refl _ _) h5 ⟨GQ.os,GQ.tape,GQ.output,GQ.size,fun k hk hn=>GQ.block k hk (fun e=>hn (by rw[e];rfl))⟩ (.inl rfl) (fun p hp=>HX.out.small p (List.mem_of_mem_take hp))
    have hblk:aG w5 tb 79 [ptr lb,.slice (some ⟨o,0,none⟩) ps.length co,.slice (some ⟨ob,0,none⟩) ps.length cb,.map (some mb)]:=hS.out.1.blk.but GQ (fun e=>hS.out.1.OW (by rw[e];rfl))
    have s1:=hblk.cell (j:=1) rfl
    have s2:=hblk.frozen 1
    have H5:=aa SH
    clear h5 cH GQ SH
    refine tk 12 ?_
    refine tk 13 ?_
    refine rd [14] (rn fun K hK=> ?_)
    go_simp
    refine hK _ _ ?_;clear hK K
    refine wpAny_done (by kernel_rfl) ?_ _
    clear s1 s2 SG
    obtain⟨w6,No⟩:∃w6,w6=w5.setCell ⟨tb,1,none⟩ (.slice (some ⟨o,0,none⟩) M co):=⟨_,rfl⟩
    rw[←No] at H5 ⊢
    obtain⟨T5,H6⟩:∃T5,Hid (dO w6 T5 tb lb mb (.slice (some ⟨o,0,none⟩) M co) (.slice (some ⟨ob,0,none⟩) ps.length cb) (ps.take M) (Tx.fo ps) (Tx.bS (ps.take M))∧aW T wr T5 w6):=⟨_,H5⟩
    have t2:=H6.out.1.c2
    have t3:=H6.out.1.blk.frozen 2
    have hMc:M≤cb:=by have:=HM.out.1;omega
    have XL:M≤ps.length:=by have:=HM.out.1;omega
    clear No H5 hblk
    go_wp2
    refine bodyPost_end (results_none rfl _ _ _) rfl ?_
    have eO:=Own.upto H6.out.1.ob M (by rw[Tx.bI];exact XL)
    rw[Tx.vE ps M XL] at eO
    have H7:=H6.out.1.CY (W:=w6) (Below.refl _ _) eO ⟨rfl,rfl,rfl,Nat.le_refl _,fun _ _ _=>rfl⟩ (.inl rfl)
    exact⟨rfl,_,⟨mb,_,_,H7.1⟩,hS.out.2.trans (H6.out.2.trans H7.2)⟩
   )
end Go.Proofs.YtloekpcncjocaaaGreatDoor
namespace Go.Proofs.YtloekpcncjocaaaGreatDoor
open Go.RowKit Lib
section
variable {w0 X X':World} {Z:Nat→Option Obj} {ring g N lb tb:Nat} {H H':List Wl.Text} {ps ps':List (Nat×List UInt8)} {V:Value} {L:List Wl.Text} {A T T':Nat→Prop}
theorem Kept.P_ (h:Kept A ring X lb g N H) (hT:∀k,T k→A k) (hM:aW T X T' X') (hlt:∀k,T' k→k<X'.heap.size):Kept (fun k=>A k∨T' k) ring X' lb g N H:=by
 obtain⟨F,s,hl,hv,hf,ha,JA⟩:=h
 refine⟨F,s,hl.but hM.1 (fun k hk hn=>ha k hk (hT k hn)),hv,hf,fun x hx hn=> ?_,fun x hx=>hx.elim (fun h=>Nat.lt_of_lt_of_le (JA x h) hM.1.size) (hlt x)⟩
 rcases hn with hn|hn
 ·exact ha x hx hn
 ·rcases hM.2 x hn with h1|h1
  ·exact ha x hx (hT x h1)
  ·have:=hl.lt x hx;omega
end
end Go.Proofs.YtloekpcncjocaaaGreatDoor
namespace Go.Proofs.YtloekpcncjocaaaGreatDoor
open Go.RowKit Go.Maps Lib
theorem C0 (x:Nat×List UInt8) (z:Int) (h:(x.1:Int)≠z):(pN x).1.sameKey (.int .i64 z)=false:=by
 simp only[pN,Lit.sameKey,true_and]
 exact decide_eq_false h
theorem Np {m:Wl.cY} {z:Int} (h:∀x∈m,(x.1:Int)≠z) (y:DataW Unit):(dat m).atKey (.int .i64 z) y=y:=by
 have:(m.map pN).find? (fun p=>p.1.sameKey (.int .i64 z))=none:=by
  rw[List.find?_eq_none]
  intro p hp
  obtain⟨x,hx,rfl⟩:=List.mem_map.1 hp
  rw[C0 x z (h x hx)];decide
 unfold dat DataW.atKey
 simp only
 rw[this]
theorem Kz {m:Wl.cY} {z:Int} (h:∀x∈m,(x.1:Int)≠z):Maps.has (dat m) (.int .i64 z)=false:=by
 show (m.map pN).any (fun p=>p.1.sameKey (.int .i64 z))=false
 rw[List.any_eq_false]
 intro p hp
 obtain⟨x,hx,rfl⟩:=List.mem_map.1 hp
 rw[C0 x z (h x hx)];decide
theorem Nq {z:Int} (h:-9223372036854775808≤z∧z≤9223372036854775807):(Lit.int .i64 z).wf=true:=by
 simp[Lit.wf,IntKind.min,IntKind.max,IntKind.signed,IntKind.bits]
 omega
theorem dY.sI {P:Program} {T E K:TypeId} {M:ME} {w:World} {b:Nat} {m:Wl.cY} (h:dY P K M w b m) (hk:P.underlying K=some (.int .i64)) (ht:P.underlying T=some (.map K E)) {z:List UInt8} (hz:(zeroValue E).run P w=.ok (M.enc z) w) (MZ:M.fits z)
  {k:Int} (Js:-9223372036854775808≤k∧k≤9223372036854775807) (hl:∀x∈m,(x.1:Int)≠k):(Instr.lookup T (.map (some b)) (.int .i64 k) true).run P w=.ok (.tuple #[M.enc z,.bool false]) w:=by
 obtain⟨v,ps,hr,hv⟩:=h.1.look_ok (int_keyed hk) ht hz (M.read z MZ) (keyOf_int_mk hk (Nq Js))
 rw[Np hl] at hv
 rw[Kz hl] at hr
 obtain⟨l,rfl,hf,he⟩:=M.inv _ _ hv
 injection he with he _
 injection he with he
 injection he with he
 subst he
 exact hr
theorem nk.sI {w:World} {b:Nat} {m:Wl.cY} (h:nk w b m) {z:Int} (hz:-9223372036854775808≤z∧z≤9223372036854775807) (hl:∀x∈m,(x.1:Int)≠z):
  (Instr.lookup 76 (.map (some b)) (.int .i64 z) true).run Tryz.prog w=.ok (.tuple #[.int .i64 0,.bool false]) w:=
 dY.sI (M:=uK) h eX gS (sG w) rfl hz hl
theorem BK (w:World) (T A:Nat→Prop) (tb lb ring g N:Nat) (H:List Wl.Text) (ps:List (Nat×List UInt8)) (i:Int) (h:uL w T tb lb ps) (hk:Kept A ring w lb g N H) (hi:i<0∨(H.length:Int)≤i) (hr:-9223372036854775808≤i∧i≤9223372036854775807) (hs:∀p∈ps,p.1<H.length):
  Calls Tryz.prog 120 #[ptr tb,.int .i64 i] w fun e w'=>e=.returned (.tuple #[.string ⟨#[]⟩,.int .i64 2])∧Below w.heap.size w w':=by
 have HP:=aa h
 have HK:=aa hk
 obtain⟨mb,vp,vb,hx⟩:=h
 have HX:=aa hx
 have HZ:=aa (show eH H i=([],2) by unfold eH;rw[if_neg (by omega)])
 have Qa:∀x∈Tx.bS ps,(x.1:Int)≠i:=by
  intro x hx e
  rcases Tx.jS x.1 ps with⟨h1,_⟩|⟨k,hk,_,h2,_⟩
  ·exact Wl.cK.1 h1 x hx rfl
  ·have:=hs _ (List.getElem_mem hk)
   omega
 have hlk:=nk.sI HX.out.mp hr Qa
 have c0:=HX.out.c0
 have c3:=HX.out.c3
 clear hx hk Qa
 go_enter Tryz.func120,Tryz.ntmps120
 go_wp2_with fail
 refine (g_ w T tb lb H.length ps HP.out HK.out.vH).mono ?_
 rintro e w1 ⟨rfl,rfl⟩
 unfold ptr
 go_wp2_with fail
 refine (vG HK.out i).mono ?_
 rintro e w2 ⟨rfl,hb⟩
 rw[HZ.out]
 have HB:=aa hb
 clear hb hlk c0 c3
 go_wp2
 go_ret2
 exact⟨rfl,HB.out⟩
end Go.Proofs.YtloekpcncjocaaaGreatDoor
namespace Go.Proofs.YtloekpcncjocaaaGreatDoor
open Go.RowKit Lib
def C1 (R:Nat→Prop) (ring g N lb tb:Nat) (H:List Wl.Text) (ps:List (Nat×List UInt8)) (X:World):Prop:=
 ∃A T,Kept A ring X lb g N H∧uL X T tb lb ps∧(∀k,T k→A k)∧∀k,R k→A k∧¬T k
section
variable {X X':World} {R R' S:Nat→Prop} {ring g N lb tb:Nat} {H H':List Wl.Text} {ps ps':List (Nat×List UInt8)} {A T T':Nat→Prop}
theorem C1.lt (h:C1 R ring g N lb tb H ps X):∀k,R k→k<X.heap.size:=by
 obtain⟨A,T,⟨F,s,hl,hv,hf,ha,JA⟩,x,a,hR⟩:=h
 exact fun k hk=>JA k (hR k hk).1
theorem C1.gq (h:C1 R ring g N lb tb H ps X) (hb:aj S X X') (hS:∀k,k<X.heap.size→S k→R k) (vI:∀k,R' k→R k∨(X.heap.size≤k∧k<X'.heap.size)):C1 R' ring g N lb tb H ps X':=by
 obtain⟨A,T,⟨F,s,hl,hv,hf,ha,JA⟩,x,a,hR⟩:=h
 have hb':aj R X X':=hb.mono hS
 refine⟨fun k=>A k∨(X.heap.size≤k∧k<X'.heap.size),T,⟨F,s,hl.but hb' (fun k hk hn=>ha k hk (hR k hn).1),hv,hf,fun x hx hn=> ?_,fun x hx=>hx.elim (fun h=>Nat.lt_of_lt_of_le (JA x h) hb.size) (fun h=>h.2)⟩,x.but hb' (fun k hk hn=>(hR k hn).2 hk),fun k hk=>.inl (a k hk),fun k hk=> ?_⟩
 ·rcases hn with hn|hn
  ·exact ha x hx hn
  ·have:=hl.lt x hx;omega
 ·rcases vI k hk with h|h
  ·exact⟨.inl (hR k h).1,(hR k h).2⟩
  ·exact⟨.inr h,fun ht=>by have:=x.lt k ht;omega⟩
theorem C1.still (h:C1 R ring g N lb tb H ps X) (hb:Below X.heap.size X X'):C1 R ring g N lb tb H ps X':=
 h.gq (aj.aq hb (fun _=>False)) (fun _ _ h=>h.elim) (fun _ hk=>.inl hk)
theorem C2 (hk:Kept A ring X lb g N H) (a:∀k,T k→A k) (hR:∀k,R k→A k∧¬T k) (hM:aW T X T' X') (hx:uL X' T' tb lb ps'):
  C1 R ring g N lb tb H ps' X'∧aj (fun k=>¬R k) X X':=by
 have hlt:∀k,A k→k<X.heap.size:=by
  obtain⟨F,s,hl,hv,hf,ha,JA⟩:=hk
  exact JA
 refine⟨⟨fun k=>A k∨T' k,T',hk.P_ a hM hx.lt,hx,fun k hk=>.inr hk,fun k hk=>⟨.inl (hR k hk).1,fun ht=> ?_⟩⟩,hM.1.mono (fun k _ h1 hr=>(hR k hr).2 h1)⟩
 rcases hM.2 k ht with h|h
 ·exact (hR k hk).2 h
 ·have:=hlt k (hR k hk).1;omega
theorem oH (hk:Kept A ring X lb g N H):
  Calls Tryz.prog 10 #[ptr lb] X fun e X'=>∃tb,e=.returned (ptr tb)∧C1 A ring g N lb tb H [] X'∧Below X.heap.size X X':=by
 refine (BB X lb).mono ?_
 rintro e X' ⟨tb,T,rfl,hx,hT,hb'⟩
 obtain⟨F,s,hl,hv,hf,ha,JA⟩:=hk
 refine⟨tb,rfl,⟨fun k=>A k∨T k,T,⟨F,s,hl.below hb',hv,hf,fun x hx hn=> ?_,fun x hx'=>hx'.elim (fun h=>Nat.lt_of_lt_of_le (JA x h) hb'.size) (hx.lt x)⟩,hx,fun k h=>.inr h,fun k hk=>⟨.inl hk,fun ht=> ?_⟩⟩,hb'⟩
 ·rcases hn with hn|hn
  ·exact ha x hx hn
  ·have:=hT x hn;have:=hl.lt x hx;omega
 ·have:=hT k ht;have:=JA k hk;omega
theorem oI (h:C1 R ring g N lb tb H ps X) (i:Nat) (s:ByteArray) (hi:i<H.length) (hn:H.length≤65536) (hs:s.size≤512) (hp:ps.length≤90000000):
  Calls Tryz.prog 155 #[ptr tb,.int .i64 i,.string s] X fun e X'=>e=.returned (.int .i64 0)∧C1 R ring g N lb tb H (ps++[(i,s.data.toList)]) X'∧aj (fun k=>¬R k) X X':=by
 obtain⟨A,T,hk,x,a,hR⟩:=h
 refine (BF X T tb lb H.length ps i s x hk.vH hi hn hs hp).mono ?_
 rintro e X' ⟨rfl,T',hx',hM⟩
 exact⟨rfl,C2 hk a hR hM hx'⟩
theorem zm (h:C1 R ring g N lb tb H ps X) (i:Int) (s:ByteArray) (c:Int) (hc:(c=2∧(i<0∨(H.length:Int)≤i))∨(c=5∧0≤i∧i<H.length∧512<s.size)):
  Calls Tryz.prog 155 #[ptr tb,.int .i64 i,.string s] X fun e X'=>e=.returned (.int .i64 c)∧X'=X:=by
 obtain⟨A,T,hk,x,a,hR⟩:=h
 exact BG X T tb lb H.length ps i s x hk.vH c hc
theorem KA (h:C1 R ring g N lb tb H ps X) (i:Nat) (hi:i<H.length) (hn:H.length≤65536):
  Calls Tryz.prog 120 #[ptr tb,.int .i64 i] X fun e X'=>e=.returned (.tuple #[.string (bs ((Wl.along H (Tx.lZ ps)).getD i [])),.int .i64 0])∧Below X.heap.size X X':=by
 obtain⟨A,T,hk,x,_⟩:=h
 have hj:i<(Wl.along H (Tx.lZ ps)).length:=by rw[Wl.bL];omega
 refine (BI X T A tb lb ring g N H ps i x hk hi hn).mono ?_
 rintro e X' ⟨rfl,hb⟩
 refine⟨?_,hb⟩
 rw[l6 hj,List.getD_eq_getElem?_getD,List.getElem?_eq_getElem hj,Option.getD_some]
theorem BL (h:C1 R ring g N lb tb H ps X) (i:Int) (hi:i<0∨(H.length:Int)≤i) (hr:-9223372036854775808≤i∧i≤9223372036854775807) (hs:∀p∈ps,p.1<H.length):
  Calls Tryz.prog 120 #[ptr tb,.int .i64 i] X fun e X'=>e=.returned (.tuple #[.string ⟨#[]⟩,.int .i64 2])∧Below X.heap.size X X':=by
 obtain⟨A,T,hk,x,_⟩:=h
 exact BK X T A tb lb ring g N H ps i x hk hi hr hs
theorem GR (h:C1 R ring g N lb tb H ps X):
  Calls Tryz.prog 49 #[ptr tb] X fun e X'=>e=.returned (.int .i64 H.length)∧X'=X:=by
 obtain⟨A,T,hk,x,_⟩:=h
 exact zi X T tb lb H.length ps x hk.vH
end
end Go.Proofs.YtloekpcncjocaaaGreatDoor
