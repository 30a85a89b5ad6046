/- Elder texts, cut down and merged (15). -/
import Derived.Test.YtebbahjombdalaaGreatDoorP14
import Derived.Test.YtebbahjombdalaaGreatDoorP12
import Derived.Test.YtebbahjombdalaaGreatDoorP7
import Derived.Test.YtebbahjombdalaaGreatDoorP6
import Derived.Test.YtebbahjombdalaaGreatDoorP8
import Derived.Test.YtebbahjombdalaaGreatDoorPTk
set_option maxRecDepth 100000
set_option maxHeartbeats 8000000
namespace Go.Proofs.YtebbahjombdalaaGreatDoor
open List renaming length_map→aM,mem_cons_self→aA,append_nil→bh,mem_append→ah,nodup_cons→cD,append_assoc→aB,cons_append→gD,length_cons→aW,nodup_append→aL,length_append→aq,mem_cons→aQ,mem_cons_of_mem→aF,take_succ_eq_append_getElem→cI,map_append→bI,take_append_drop→cL,getElem_mem→bB,getElem_cons_drop→kJ,length_drop→aT,getElem?_append_right→gN,getElem?_eq_getElem→aJ,drop_eq_getElem_cons→cm,set_cons_zero→au,mem_singleton→cH,flatten_append→dm,flatten_cons→cU,take_of_length_le→bZ,length_pos_iff→ej,length_set→bP,length_take→aN,pairwise_iff_getElem→gE,getElem?_map→cJ,setIfInBounds_toArray→az,set_cons_succ→ay,length_singleton→eH,map_cons→bH,sum_cons→jJ
open Int renaming toNat_natCast→cX
open Nat renaming le_refl→af,le_trans→aG,zero_le→aC,add_zero→dN,succ_ne_zero→cT
open World renaming block_lt_of_cell?→bt,drew→bD
section
open Go.RowKit Lib
theorem cE {pg:List (Option Wl.Text)} {x:Nat} (h:(pg.getD x none).isSome=true):x<pg.length:=by
 grind
theorem Bx {pg:List (Option Wl.Text)} {p:Nat} (h:Rm.firstFree pg=some p):Rm.alloc pg=(((p:Nat):Int),0)∧Rm.kf pg=pg.set p (some (Dk.full [])):=by
 unfold Rm.alloc Rm.kf
 rw[h]
 exact⟨rfl,rfl⟩
section
variable {E:Ev} {X0 X X' X1 V:World} {R0 R R' R1 S:Nat→Prop} {ps ps' ps1:List (Nat×List UInt8)} {pg cP fO:List (Option Wl.Text)} {rt:List Nat} {M M' M1:Nat→Option NV} {k p q sb:Nat} {n1:NV} {sp ju al F:List Nat} {t:Tr.E (k+1)} {l':List (Tr.Tx×Tr.E k)}
structure Zn (E:Ev) (X0:World) (R0:Nat→Prop) (rt:List Nat) (sb:Nat) (R:Nat→Prop) (ps:List (Nat×List UInt8)) (pg:List (Option Wl.Text)) (M:Nat→Option NV) (X:World) (sp:List Nat) (k p:Nat) (t:Tr.E (k+1)) (F:List Nat) (n1:NV) (l':List (Tr.Tx×Tr.E k)) (page:Nat) (R1:Nat→Prop) (ps1:List (Nat×List UInt8)) (fO:List (Option Wl.Text)) (M1:Nat→Option NV) (ju al:List Nat) (X1:World):Prop where
 sw:SW E X0 R0 R1 ps1 fO rt M1 X1 sb (gy ju)
 pre:ps<+:ps1
 few:ps1.length+2≤ps.length+4*Tr.cnt (k+1) t
 sm:Tr.lH (Tr.Sm k) (Tr.its t) l'
 st:∀x∈l',cK fO k x.2
 at_:M1 p=some {n1 with page:=page}
 kvs:n1.its.map kv=(ak k l').map kv
 keep:(Tr.hd t).page.isSome=true→(Tr.hd t).page=some page
 b8:((page::Tr.dI k l')++ju).Perm (Tr.b8 (k+1) t++sp++al)
 out:page∉Tr.dI k l'
 pg:iq pg fO (page::Tr.dI k l') al
 eT:al.length≤Tr.eT (k+1) t
 same:∀r,r∉F→M1 r=M r
 but:aE (fun b=>¬R b∨b=sb∨MB M b) X X1
 sub:∀b,R b→R1 b
 new:∀b,R1 b→R b∨X.heap.size≤b
 mb:∀b,MB M1 b→MB M b
abbrev Zn.o:=@Zn.out
theorem NG {k:Nat} {lo:Tr.Tx} {h:Option Tr.Tx} {t:Tr.E (k+1)} {l':List (Tr.Tx×Tr.E k)} (ho:Tr.Ok (k+1) lo h t) (hs:Tr.lH (Tr.Sm k) (Tr.its t) l'):Tr.sz k l'≤510∧l'.length≤255∧∀i∈ak k l',i.key.length≤96∧i.val.length≤56:=by
 have h1:=ho.2.1
 have h2:Tr.sz k l'=Tr.sz k (Tr.its t):=(Tr.lH.sz hs).symm
 have h3:=Tr.iJ k l'
 have ho':Tr.Ok (k+1) lo h (Tr.mk ⟨none,true⟩ l'):=Tr.Sm.ok (Tr.Sm.cons (h:=Tr.hd t) (h':=⟨none,true⟩) hs) ho
 have hkeys:=(gY ho'.2.2).2.2
 refine⟨by omega,by omega,fun i hi=> ?_⟩
 obtain⟨x,hx,rfl⟩:=List.mem_map.1 hi
 refine⟨hkeys x hx, ?_⟩
 show (dS k x.2).length≤56
 cases k with
 |succ k=>show 2≤56;decide
 |zero=>
  obtain⟨_,_,_,GU⟩:=ho'
  unfold Tr.qT at GU
  rw[if_pos rfl] at GU
  obtain⟨u,hu⟩:=Tr.cV.each GU x hx
  exact hu.1
theorem By {page:Nat} (z:Zn E X0 R0 rt sb R ps pg M X sp k p t F n1 l' page R1 ps1 fO M1 ju al X1) (hok:∃lo h,Tr.Ok (k+1) lo h t) (oS:n1.level=k) (hk:k≤15) (nP:pg.length≤65536) (hq:ps.length+4*Tr.cnt (k+1) t≤80000000):
  X1.cell? ⟨sb,0,none⟩=some (.pointer (some ⟨E.tb,0,none⟩))∧X1.cell? ⟨E.tb,0,none⟩=some (.pointer (some ⟨E.rb,0,none⟩))∧X1.cell? ⟨p,2,none⟩=some (.int .i64 page)∧
  (∀V,Below X1.heap.size X1 V→Calls Tryz.prog 182 #[ptr p] V fun e V'=>e=.returned (.string (bs (cB k (ak k l'))))∧Below V.heap.size V V')∧∀V,Below X1.heap.size X1 V→Calls Tryz.prog 181 #[ptr E.rb,.int .i64 page,.string (bs (cB k (ak k l')))] V fun e X'=>∃c:Int,e=.returned (.int .i64 c)∧nT E X0 R0 rt sb R ps pg M X sp k p t F c X'∧X'.cell? ⟨sb,0,none⟩=some (.pointer (some ⟨E.tb,0,none⟩))∧X'.cell? ⟨E.tb,0,none⟩=some (.pointer (some ⟨E.rb,0,none⟩))∧X'.cell? ⟨p,2,none⟩=some (.int .i64 page):=by
 obtain⟨lo,h,hok⟩:=hok
 obtain⟨s1,s2,s3⟩:=NG hok z.sm
 have hnd:=z.sw.ts.mem.nd p _ z.at_
 have hlen:n1.its.length=l'.length:=by
  have:=congrArg List.length z.kvs
  rwa [aM,aM,ak,aM] at this
 have wP:cB k n1.its=cB k (ak k l'):=G1 z.kvs
 have Ap:∀i∈n1.its,i.key.length≤96∧i.val.length≤56:=fun i hi=>by
  have h1:kv i∈(ak k l').map kv:=by rw[←z.kvs];exact List.mem_map.2 ⟨i,hi,rfl⟩
  obtain⟨j,hj,e⟩:=List.mem_map.1 h1
  have:=s3 j hj
  rw[show j.key=i.key from (Prod.mk.inj e).1,show j.val=i.val from (Prod.mk.inj e).2] at this
  exact this
 obtain⟨a,cc,hblk,-,-⟩:=z.sw.sp
 have htl:(cB k (ak k l')).length≤512:=by
  rw[kE,gX];omega
 have htk:(fO.getD page none).isSome=true:=z.pg.jX page (.inl aA)
 have dH:=cE htk
 refine⟨hblk.cell (j:=0) rfl,z.sw.ts.tree.cell (j:=0) rfl,hnd.c2,fun V hV=> ?_,fun V hV=> ?_⟩
 ·have:=wI (hnd.still hV) (by show n1.level≤15;omega) (by show n1.its.length≤255;omega) Ap
  rw[show ({n1 with page:=(page:Int)}:NV).level=k from oS,show ({n1 with page:=(page:Int)}:NV).its=n1.its from rfl,wP] at this
  exact this
 ·have hsw:=z.sw.still (R':=R1) hV (fun _ h=>h) (fun _ h=>.inl h)
  refine (Df hsw.ts.rm page _ (by have:=z.few;omega)).mono ?_
  rintro e X' ⟨rfl,ps2,⟨hl2,E4⟩,jS,aP⟩
  have hw:Rm.wrote fO page (bs (cB k (ak k l'))).size=0:=by
   have hr:Rm.refuse fO page=0:=by
    unfold Rm.refuse
    rw[if_pos ⟨by omega,by omega⟩,cX,if_pos htk]
   unfold Rm.wrote
   rw[if_pos hr,if_neg (by rw[aK];omega)]
  have hwr:Rm.written fO page (bs (cB k (ak k l'))).data.toList=fO.set page (some (Dk.full (cB k (ak k l')))):=by
   unfold Rm.written
   rw[bO,if_pos (by rw[←hw,aK]),cX]
  rw[hwr] at jS
  have kO:=hsw.room jS aP
  obtain⟨a3,c3,qC,-,-⟩:=kO.sp
  have zj:=kO.ts.mem.nd p _ z.at_
  have hone:=iq.one (pg:=fO) (t:=Dk.full (cB k (ak k l'))) dH
  rw[if_pos htk] at hone
  have Yg:iq pg (fO.set page (some (Dk.full (cB k (ak k l'))))) (page::Tr.dI k l') al:=by
   have h3:=z.pg.trans hone
   rw[bh] at h3
   refine⟨h3.len,fun x hx=>h3.same x fun hm=>hx ?_,fun x hx=>h3.jX x (hx.imp_left fun hm=>ah.2 (.inl hm)),h3.free,h3.nd,h3.used⟩
   rcases ah.1 hm with hm|hm
   ·exact hm
   ·grind
  have hst:cK (fO.set page (some (Dk.full (cB k (ak k l'))))) (k+1) (Tr.mk ⟨some page,false⟩ l'):=by
   refine⟨⟨page,rfl,by have:=z.pg.len;omega, ?_⟩,rfl,fun x hx=>eY (z.st x hx) fun y hy=> ?_⟩
   ·simp_all
   ·rw[nw dH,if_neg]
    rintro rfl
    exact z.o (nS hx hy)
  refine⟨0,by rw[hw],.inl ⟨rfl,R1,ps2,_,M1,Tr.mk ⟨some page,false⟩ l',ju,al,⟨kO,z.pre.trans E4,by have:=z.few;omega,z.sm,hst,⟨_,z.at_,rfl⟩,fun hs=>(z.keep hs).symm,z.b8,Yg,z.eT,z.same,(z.but.trans (aE.aH hV (fun _=>False)) (fun _ _ f=>f.elim)).trans aP (fun b hb hn=>.inl fun hr=>hn (z.sub b hr)),z.sub,z.new,z.mb⟩⟩,qC.cell (j:=0) rfl,kO.ts.tree.cell (j:=0) rfl,zj.c2⟩
theorem Kw {k:Nat} (h:Tr.Hd) (l:List (Tr.Tx×Tr.E k)):Tr.b8 (k+1) (Tr.mk h l)=h.page.toList++Tr.dI k l:=rfl
theorem BA (kd:Kids E X0 R0 rt sb R ps pg M X sp k p t F n1 l' R1 ps1 fO M1 ju al X1) (oS:n1.level=k) (cy:n1.page=xP (Tr.hd t).page) (hfr:n1.fresh=(Tr.hd t).fresh)
  (held:(Tr.hd t).fresh=false→∃page,(Tr.hd t).page=some page∧page<65536∧pg.getD page none=some (Dk.full (cB k (ak k (Tr.its t))))∧ak k l'=ak k (Tr.its t))
  (hnd:(Tr.b8 (k+1) t++sp).Nodup) (htk:∀x∈Tr.b8 (k+1) t++sp,(pg.getD x none).isSome=true) (hq:ps.length+4*Tr.cnt (k+1) t≤80000000) (Rv:p∈F) (GR:ju.length≤1000000):
  ∃f,X1.cell? ⟨p,7,none⟩=some (.bool f)∧(f=false→nT E X0 R0 rt sb R ps pg M X sp k p t F 0 X1)∧
  (f=true→∃RJ:Int,X1.cell? ⟨p,2,none⟩=some (.int .i64 RJ)∧((RJ=-1∧Calls Tryz.prog 180 #[ptr sb] X1 fun e X'=>(∃page:Nat,e=.returned (.tuple #[.int .i64 page,.int .i64 0])∧(∃v,X'.cell? ⟨p,2,none⟩=some v)∧X'.frozen? ⟨p,2,none⟩=false∧∃R2 ps2 mK M2 wX G3,Zn E X0 R0 rt sb R ps pg M X sp k p t F n1 l' page R2 ps2 mK M2 wX G3 (X'.setCell ⟨p,2,none⟩ (.int .i64 page)))∨(∃v c:Int,e=.returned (.tuple #[.int .i64 v,.int .i64 c])∧c≠0∧nT E X0 R0 rt sb R ps pg M X sp k p t F c X'))∨∃page:Nat,RJ=page∧∃R2 ps2 mK M2 wX G3,Zn E X0 R0 rt sb R ps pg M X sp k p t F n1 l' page R2 ps2 mK M2 wX G3 X1)):=by
 have hn:=kd.sw.ts.mem.nd p _ kd.at_
 have Uk:1≤Tr.cnt (k+1) t:=Nat.le_add_right 1 _
 have hmem:∀x∈Tr.dI k l',x∈Tr.dI k (Tr.its t)∨x∈sp∨x∈al:=fun x hx=>by
  have:=(kd.b8.mem_iff (a:=x)).1 (ah.2 (.inl hx))
  rcases ah.1 this with h|h
  ·grind
  ·exact .inr (.inr h)
 rw[Tr.bp] at hnd htk
 refine⟨n1.fresh,hn.c7,fun hf=> ?_,fun hf=>⟨n1.page,hn.c2, ?_⟩⟩
 ·obtain⟨page,h1,h2,h3,h4⟩:=held (by rw[←hfr];exact hf)
  rw[h1] at hnd htk
  have hpo:page∉Tr.dI k l':=fun hm=>by
   have hd:=(cD.1 (show (page::(Tr.dI k (Tr.its t)++sp)).Nodup from by simpa using hnd)).1
   rcases hmem page hm with h|h|h
   ·grind
   ·grind
   ·have:=(kd.pg.free page h).1
    rw[h3] at this;cases this
  have hp1:fO.getD page none=pg.getD page none:=kd.pg.same page hpo
  refine .inl ⟨rfl,R1,ps1,fO,M1,Tr.mk (Tr.hd t) l',ju,al,⟨kd.sw,kd.pre,by have:=kd.few;omega,kd.sm,⟨⟨page,h1,h2, ?_⟩,hfr.symm.trans hf,kd.st⟩,⟨n1,kd.at_,cy⟩,fun _=>rfl, ?_, ?_, ?_,kd.same,kd.but,kd.sub,kd.new,kd.mb⟩⟩
  ·simp_all
  ·rw[Kw,Tr.bp,aB,aB,aB]
   refine List.Perm.append_left _ ?_
   rw[←aB]
   exact kd.b8
  ·rw[Kw,h1]
   exact kd.pg.more (by rw[hp1,h3];rfl)
  ·rw[Tr.bR];have:=kd.eT;omega
 ·cases hp:(Tr.hd t).page with
  |some page=>
   right
   rw[hp] at cy hnd htk
   refine⟨page,cy,R1,ps1,fO,M1,ju,al,⟨kd.sw,kd.pre,by have:=kd.few;omega,kd.sm,kd.st, ?_,kd.kvs,fun _=>hp, ?_,fun hm=> ?_,kd.pg.more ?_, ?_,kd.same,kd.but,kd.sub,kd.new,kd.mb⟩⟩
   ·have e:({n1 with page:=(page:Int)}:NV)=n1:=by
     have e2:n1.page=(page:Int):=cy
     cases n1
     simp only at e2
     subst e2
     rfl
    rw[e];exact kd.at_
   ·rw[Tr.bp,hp]
    show (page::(Tr.dI k l'++ju)).Perm ((page::Tr.dI k (Tr.its t))++sp++al)
    rw[gD,gD]
    exact List.Perm.cons _ kd.b8
   ·have hd:=(cD.1 (show (page::(Tr.dI k (Tr.its t)++sp)).Nodup from by simpa using hnd)).1
    rcases hmem page hm with h|h|h
    ·grind
    ·grind
    ·have:=(kd.pg.free page h).1
     have h2:=htk page (by simp)
     rw[this] at h2;cases h2
   ·exact kd.pg.keeps (htk page (by simp))
   ·rw[Tr.bR];have:=kd.eT;omega
  |none=>
   left
   rw[hp] at cy
   have hnw:Tr.eT (k+1) t=1+Tr.jP k (Tr.its t):=by rw[Tr.bR,hp];rfl
   refine⟨cy, ?_⟩
   cases ju with
   |cons x ju=>
    refine (SW.take (x:=(x:Int)) (l:=gy ju) kd.sw (by unfold gy;rw[aM];simp only[aW] at GR;omega)).mono ?_
    rintro e X' ⟨rfl,hsw,hb⟩
    have hn':=hsw.ts.mem.nd p _ kd.at_
    have hxk:x∉Tr.dI k l'∧(fO.getD x none).isSome=true:=by
     have hall:(Tr.dI k (Tr.its t)++sp++al).Nodup:=by
      rw[hp] at hnd htk
      refine aL.2 ⟨by simpa using hnd,kd.pg.nd,fun a ha b hb e=> ?_⟩
      subst e
      have h1:=htk a (by simpa using ha)
      rw[(kd.pg.free a hb).1] at h1;cases h1
     have jg:=(kd.b8.nodup_iff).2 hall
     refine⟨fun hm=>(aL.1 jg).2.2 x hm x aA rfl, ?_⟩
     have:=(kd.b8.mem_iff (a:=x)).1 (ah.2 (.inr aA))
     rw[hp] at htk
     rcases ah.1 this with h|h
     ·exact kd.pg.keeps (htk x (by simpa using h))
     ·exact kd.pg.jX x (.inr h)
    left
    refine⟨x,rfl,⟨_,hn'.c2⟩,hn'.blk.frozen 2,R1,ps1,fO,upd M1 p {n1 with page:=(x:Int)},ju,al,⟨hsw.cell kd.at_ {n1 with page:=(x:Int)} 2 _ rfl rfl rfl rfl rfl rfl,kd.pre,by have:=kd.few;omega,kd.sm,kd.st,bz _ _ _,kd.kvs,(fun h=>by rw[hp] at h;cases h), ?_,hxk.1,kd.pg.more hxk.2,by have:=kd.eT;omega,fun r hr=> ?_, ?_,kd.sub,kd.new,fun b aP=> ?_⟩⟩
    ·rw[Tr.bp,hp]
     refine List.Perm.trans ?_ kd.b8
     exact List.perm_middle.symm
    ·rw[aO (fun e=>hr (by rw[e];exact Rv))];exact kd.same r hr
    ·exact (kd.but.trans hb (fun b _ e=>.inr (.inl e))).trans ((aE.refl (fun b=>b=p) X').setCell _ _ fun _=>rfl) (fun b _ e=>by rw[e];exact .inr (.inr (kd.mb p ⟨p,n1,kd.at_,.inl rfl⟩)))
    ·obtain⟨r,y,hr,hk⟩:=aP
     rcases aI hr with⟨rfl,rfl⟩|⟨_,hr⟩
     ·exact kd.mb b ⟨_,n1,kd.at_,hk⟩
     ·exact kd.mb b ⟨r,y,hr,hk⟩
   |nil=>
    obtain⟨a,cc,hblk,-,-⟩:=kd.sw.sp
    refine (DM kd.sw.ts hblk (by have:=kd.few;omega)).mono ?_
    rintro e X' ⟨rfl,ps2,⟨hl2,E4⟩,jS,aP⟩
    rcases Rm.mG fO with Ky|⟨x,Ky,hx,hxn⟩
    ·right
     refine⟨(Rm.alloc fO).1,(Rm.alloc fO).2,rfl,by unfold Rm.alloc;rw[Ky];decide,.inr ⟨by unfold Rm.alloc;rw[Ky],R1,M1,ps2,_,kd.sw.ts.uH jS aP,kd.pre.trans E4,by have:=kd.few;omega, ?_⟩⟩
     have h1:=G2 Ky
     have h2:=kd.pg.used
     have h3:=kd.pg.len
     have h4:=kd.eT
     omega
    ·left
     obtain⟨ha1,ha2⟩:=Bx Ky
     rw[ha1]
     rw[ha2] at jS
     have hsw:=kd.sw.room jS aP
     have hn':=hsw.ts.mem.nd p _ kd.at_
     have hone:=iq.one (pg:=fO) (t:=Dk.full []) hx
     rw[hxn,if_neg (by decide)] at hone
     have hxo:x∉Tr.dI k l':=fun hm=>by
      have:=kd.pg.jX x (.inl hm)
      rw[hxn] at this;cases this
     refine⟨x,rfl,⟨_,hn'.c2⟩,hn'.blk.frozen 2,R1,ps2,_,upd M1 p {n1 with page:=(x:Int)},[],al++[x],⟨hsw.cell kd.at_ {n1 with page:=(x:Int)} 2 _ rfl rfl rfl rfl rfl rfl,kd.pre.trans E4,by have:=kd.few;omega,kd.sm,fun y hy=>eY (kd.st y hy) fun z hz=> ?_,bz _ _ _,kd.kvs,(fun h=>by rw[hp] at h;cases h), ?_,hxo, ?_,by have:=kd.eT;rw[aq];show al.length+1≤_;omega,fun r hr=> ?_, ?_,kd.sub,kd.new,fun b bY=> ?_⟩⟩
     ·grind [nw,nS]
     ·have h1:=kd.b8
      rw[Tr.bp,hp]
      show ((x::Tr.dI k l')++[]).Perm (Tr.dI k (Tr.its t)++sp++(al++[x]))
      rw[bh,←aB]
      rw[bh] at h1
      exact ((List.Perm.cons x h1).trans (List.perm_append_singleton x _).symm)
     ·have h3:=kd.pg.trans hone
      refine⟨h3.len,fun y hy=>h3.same y fun hm=>hy ?_,fun y hy=>h3.jX y (hy.imp_left fun hm=> ?_),h3.free,h3.nd,h3.used⟩
      ·grind
      ·grind
     ·rw[aO (fun e=>hr (by rw[e];exact Rv))];exact kd.same r hr
     ·exact (kd.but.trans aP (fun b _ hn=>.inl fun hr=>hn (kd.sub b hr))).trans ((aE.refl (fun b=>b=p) X').setCell _ _ fun _=>rfl) (fun b _ e=>by rw[e];exact .inr (.inr (kd.mb p ⟨p,n1,kd.at_,.inl rfl⟩)))
     ·obtain⟨r,y,hr,hk⟩:=bY
      rcases aI hr with⟨rfl,rfl⟩|⟨_,hr⟩
      ·exact kd.mb b ⟨_,n1,kd.at_,hk⟩
      ·exact kd.mb b ⟨r,y,hr,hk⟩
end
theorem qD:∀l:List (Tr.Tx×Tr.E 0),Tr.dI 0 l=[]
 |[]=>rfl
 |x::l=>by rw[Tr.fI,qD l];rfl
theorem tG {k:Nat} {lo:Tr.Tx} {h:Option Tr.Tx} {t:Tr.E (k+2)} (ho:Tr.Ok (k+2) lo h t):∀x∈Tr.its t,∃lo h,Tr.Ok (k+1) lo h x.2:=by
 intro x hx
 obtain⟨_,_,_,hs⟩:=ho
 rw[Tr.dr] at hs
 cases hi:Tr.its t with
 |nil=>rw[hi] at hx;cases hx
 |cons a l=>
  rw[hi] at hx hs
  rcases aQ.1 hx with rfl|hx
  ·obtain⟨u,hu⟩:=Tr.cV.each hs (lo,x.2) aA
   exact⟨_,u,hu⟩
  ·obtain⟨u,hu⟩:=Tr.cV.each hs x (aF _ hx)
   exact⟨_,u,hu⟩
theorem iq.Ul {pg cP:List (Option Wl.Text)} {Ku al l:List Nat} (h:iq pg cP Ku al) (hl:∀x∈l,(cP.getD x none).isSome=true):iq pg cP (Ku++l) al:=
 ⟨h.len,fun y hy=>h.same y fun hm=>hy (ah.2 (.inl hm)),fun y hy=>by
  rcases hy with hy|hy
  ·rcases ah.1 hy with hy|hy
   ·exact h.jX y (.inl hy)
   ·exact hl y hy
  ·exact h.jX y (.inr hy),h.free,h.nd,h.used⟩
theorem qE {α:Type} (f:α→Nat) (l:List α) (j:Nat) (hj:j<l.length):((l.take (j+1)).map f).sum=((l.take j).map f).sum+f l[j]∧((l.take (j+1)).map f).sum≤(l.map f).sum:=by
 have h1:l.take (j+1)=l.take j++[l[j]]:=cI hj
 refine⟨by rw[h1,bI,List.sum_append];simp, ?_⟩
 have h2:l.map f=(l.take (j+1)).map f++(l.drop (j+1)).map f:=by rw[←bI,cL]
 rw[h2,List.sum_append]
 omega
section
variable {E:Ev} {X0 X X' X1 V:World} {R0 R R' R1 S:Nat→Prop} {ps ps' ps1:List (Nat×List UInt8)} {pg cP fO:List (Option Wl.Text)} {rt:List Nat} {M M' M1:Nat→Option NV} {k p q sb:Nat} {n:NV} {sp ju al F:List Nat} {t:Tr.E (k+1)}
def tH (k:Nat):Prop:=∀{E:Ev} {X0 X:World} {R0 R:Nat→Prop} {ps:List (Nat×List UInt8)} {pg:List (Option Wl.Text)} {rt:List Nat} {M:Nat→Option NV} {p sb:Nat} {sp F:List Nat} {t:Tr.E (k+1)},
 SW E X0 R0 R ps pg rt M X sb (gy sp)→dx M pg k p t F→F.Nodup→(∃lo h,Tr.Ok (k+1) lo h t)→(Tr.b8 (k+1) t++sp).Nodup→(∀x∈Tr.b8 (k+1) t++sp,(pg.getD x none).isSome=true)→pg.length≤65536→ps.length+4*Tr.cnt (k+1) t≤80000000→
 Calls Tryz.prog 139 #[ptr sb,ptr p] X fun e X'=>∃c:Int,e=.returned (.int .i64 c)∧nT E X0 R0 rt sb R ps pg M X sp k p t F c X'
theorem eM:∀{n:Nat} {l:List Nat},l.Nodup→(∀x∈l,x<n)→l.length≤n
 |0,[],_,_=>af _
 |0,a::_,_,h=>absurd (h a aA) (Nat.not_lt_zero _)
 |n+1,l,hn,h=>by
  have h1:=eM (n:=n) (l:=l.erase n) (hn.erase n) fun x hx=>by
   have h2:=h x (List.mem_of_mem_erase hx)
   have h3:x≠n:=fun e=>by subst e;exact hn.not_mem_erase hx
   omega
  by_cases hm:n∈l
  ·grind
  ·grind
theorem Kids.still {n1:NV} {l':List (Tr.Tx×Tr.E k)} (kd:Kids E X0 R0 rt sb R ps pg M X sp k p t F n1 l' R1 ps1 fO M1 ju al X1) (hV:Below X1.heap.size X1 V):Kids E X0 R0 rt sb R ps pg M X sp k p t F n1 l' R1 ps1 fO M1 ju al V:=
 ⟨kd.sw.still hV (fun _ h=>h) (fun _ h=>.inl h),kd.pre,kd.few,kd.sm,kd.st,kd.at_,kd.kvs,kd.b8,kd.pg,kd.eT,kd.same,kd.but.trans (aE.aH hV (fun _=>False)) (fun _ _ f=>f.elim),kd.sub,kd.new,kd.mb⟩
theorem DN:tH 0:=by
 intro E X0 X R0 R ps pg rt M p sb sp F t hs hr hF hok hnd htk nP hq
 obtain⟨n,hn,ho,hi,rfl⟩:=hr
 have Uk:1≤Tr.cnt (0+1) t:=Nat.le_add_right 1 _
 have G4:=hs.ts.mem.nd p n hn
 have GR:sp.length≤65536:=aG (eM (aL.1 hnd).2.1 fun x hx=>cE (htk x (ah.2 (.inr hx)))) nP
 have hlen:n.its.length=(Tr.its t).length:=by rw[hi];exact aM _
 have h0:Kids E X0 R0 rt sb R ps pg M X sp 0 p t [p] n (Tr.its t) R ps pg M sp [] X:=⟨hs,List.prefix_refl _,by omega,Tr.lH.refl (Tr.Sm.refl 0) _,fun _ _=>trivial,hn,by rw[hi],by rw[bh],by rw[qD];exact iq.refl pg,aC _,fun _ _=>rfl,aE.refl _ _,fun _ h=>h,fun _ h=>.inl h,fun _ h=>h⟩
 have hW:Yd sb p E.tb E.rb n.its.length n.rg n.ro n.cap (fun _ V=>Kids E X0 R0 rt sb R ps pg M X sp 0 p t [p] n (Tr.its t) R ps pg M sp [] V) (fun page V=>∃R2 ps2 mK M2 wX G3,Zn E X0 R0 rt sb R ps pg M X sp 0 p t [p] n (Tr.its t) page R2 ps2 mK M2 wX G3 V) (fun c V=>nT E X0 R0 rt sb R ps pg M X sp 0 p t [p] c V):=by
  refine⟨fun j V kd=>(kd.sw.ts.mem.nd p n hn).c1,fun j V kd hj=>⟨n.its[j],uK.of (kd.sw.ts.mem.nd p n hn).row hj,fun _ W hW=>kd.still hW,fun q hq=> ?_⟩,fun V kd=> ?_,fun page V hz=> ?_⟩
  ·simp_all[ak]
  ·refine BA kd ho.level ho.page ho.fresh (fun hf=> ?_) hnd htk hq aA (by omega)
   obtain⟨page,h1,h2,h3,_⟩:=ho.held hf
   exact⟨page,h1,h2,h3,rfl⟩
  ·obtain⟨R2,ps2,mK,M2,wX,G3,z⟩:=hz
   obtain⟨g1,g2,g3,g4,g5⟩:=By z hok ho.level (aC _) nP hq
   exact⟨g1,g2,g3,_,g4,g5⟩
 exact vC hW h0 G4.small.len G4.small.cap.1
structure mL (E:Ev) (X0:World) (R0:Nat→Prop) (rt:List Nat) (sb:Nat) (R:Nat→Prop) (ps:List (Nat×List UInt8)) (pg:List (Option Wl.Text)) (M:Nat→Option NV) (X:World) (sp:List Nat) (k p:Nat) (t:Tr.E (k+2)) (fs:List (List Nat)) (n:NV) (j:Nat) (J:List It) (l':List (Tr.Tx×Tr.E (k+1))) (R1:Nat→Prop) (ps1:List (Nat×List UInt8)) (fO:List (Option Wl.Text)) (M1:Nat→Option NV) (ju al:List Nat) (X1:World):Prop where
 sw:SW E X0 R0 R1 ps1 fO rt M1 X1 sb (gy ju)
 pre:ps<+:ps1
 few:ps1.length≤ps.length+4*(((Tr.its t).take j).map fun p=>Tr.cnt (k+1) p.2).sum
 sm:Tr.lH (Tr.Sm (k+1)) ((Tr.its t).take j) l'
 st:∀x∈l',cK fO (k+1) x.2
 at_:M1 p=some {n with its:=J++n.its.drop j}
 jl:J.length=j
 le:j≤n.its.length
 kvs:J.map kv=(ak (k+1) l').map kv
 keep:(∀x∈(Tr.its t).take j,(Tr.hd x.2).page.isSome=true)→ak (k+1) l'=ak (k+1) ((Tr.its t).take j)
 b8:(Tr.dI (k+1) l'++ju).Perm (Tr.dI (k+1) ((Tr.its t).take j)++sp++al)
 pg:iq pg fO (Tr.dI (k+1) l') al
 eT:al.length≤Tr.jP (k+1) ((Tr.its t).take j)
 same:∀r,r∉p::(fs.take j).flatten→M1 r=M r
 but:aE (fun b=>¬R b∨b=sb∨MB M b) X X1
 sub:∀b,R b→R1 b
 new:∀b,R1 b→R b∨X.heap.size≤b
 mb:∀b,MB M1 b→MB M b
theorem mL.still {t:Tr.E (k+2)} {fs:List (List Nat)} {j:Nat} {J:List It} {l':List (Tr.Tx×Tr.E (k+1))} (kd:mL E X0 R0 rt sb R ps pg M X sp k p t fs n j J l' R1 ps1 fO M1 ju al X1) (hV:Below X1.heap.size X1 V):mL E X0 R0 rt sb R ps pg M X sp k p t fs n j J l' R1 ps1 fO M1 ju al V:=
 ⟨kd.sw.still hV (fun _ h=>h) (fun _ h=>.inl h),kd.pre,kd.few,kd.sm,kd.st,kd.at_,kd.jl,kd.le,kd.kvs,kd.keep,kd.b8,kd.pg,kd.eT,kd.same,kd.but.trans (aE.aH hV (fun _=>False)) (fun _ _ f=>f.elim),kd.sub,kd.new,kd.mb⟩
theorem rQ {t:Tr.E (k+2)} {fs:List (List Nat)} {j:Nat} {J:List It} {l':List (Tr.Tx×Tr.E (k+1))} (kd:mL E X0 R0 rt sb R ps pg M X sp k p t fs n j J l' R1 ps1 fO M1 ju al X1) (hj:j<(Tr.its t).length) (hnd:(Tr.b8 (k+2) t++sp).Nodup) (htk:∀x∈Tr.b8 (k+2) t++sp,(pg.getD x none).isSome=true):
  (∀x∈Tr.b8 (k+1) ((Tr.its t)[j]).2,fO.getD x none=pg.getD x none∧x∉Tr.dI (k+1) l')∧(Tr.b8 (k+1) ((Tr.its t)[j]).2++ju).Nodup∧(∀x∈Tr.b8 (k+1) ((Tr.its t)[j]).2++ju,(fO.getD x none).isSome=true):=by
 have hsub:∀x∈Tr.b8 (k+1) ((Tr.its t)[j]).2,x∈Tr.dI (k+1) (Tr.its t):=fun x hx=>nS (bB hj) hx
 rw[Tr.bp,aB] at hnd htk
 have mo:=(aL.1 hnd).2.1
 have NH:∀x∈Tr.dI (k+1) (Tr.its t)++sp,(pg.getD x none).isSome=true:=fun x hx=>htk x (ah.2 (.inr hx))
 have hsplit:Tr.its t=(Tr.its t).take j++(Tr.its t)[j]::(Tr.its t).drop (j+1):=by rw[kJ,cL]
 have e0:Tr.dI (k+1) (Tr.its t)=Tr.dI (k+1) ((Tr.its t).take j)++(Tr.b8 (k+1) ((Tr.its t)[j]).2++Tr.dI (k+1) ((Tr.its t).drop (j+1))):=by
  conv=>lhs;rw[hsplit]
  rw[Tr.bK,Tr.fI]
 have hbase:(Tr.dI (k+1) ((Tr.its t).take j)++sp++al).Nodup:=by
  refine aL.2 ⟨?_,kd.pg.nd,fun a ha b hb e=> ?_⟩
  ·rw[e0,aB] at mo
   have h1:=aL.1 mo
   have h2:=aL.1 h1.2.1
   exact aL.2 ⟨h1.1,h2.2.1,fun a ha b hb=>h1.2.2 a ha b (ah.2 (.inr hb))⟩
  ·subst e
   have h1:(pg.getD a none).isSome=true:=NH a (by
    rw[e0]
    rcases ah.1 ha with ha|ha
    ·exact ah.2 (.inl (ah.2 (.inl ha)))
    ·exact ah.2 (.inr ha))
   rw[(kd.pg.free a hb).1] at h1;cases h1
 have hx0:∀x∈Tr.b8 (k+1) ((Tr.its t)[j]).2,x∉Tr.dI (k+1) ((Tr.its t).take j)++sp++al:=fun x hx hm=>by
  rw[e0,aB,aB] at mo
  have h1:=aL.1 mo
  have h2:=aL.1 h1.2.1
  rcases ah.1 hm with hm|hm
  ·rcases ah.1 hm with hm|hm
   ·exact h1.2.2 x hm x (ah.2 (.inl hx)) rfl
   ·exact h2.2.2 x hx x (ah.2 (.inr hm)) rfl
  ·have h3:=NH x (ah.2 (.inl (hsub x hx)))
   rw[(kd.pg.free x hm).1] at h3;cases h3
 have hx1:∀x∈Tr.b8 (k+1) ((Tr.its t)[j]).2,x∉Tr.dI (k+1) l'∧x∉ju:=fun x hx=>
  ⟨fun hm=>hx0 x hx ((kd.b8.mem_iff).1 (ah.2 (.inl hm))),fun hm=>hx0 x hx ((kd.b8.mem_iff).1 (ah.2 (.inr hm)))⟩
 have hsp:=(aL.1 ((kd.b8.nodup_iff).2 hbase)).2.1
 refine⟨fun x hx=>⟨kd.pg.same x (hx1 x hx).1,(hx1 x hx).1⟩,aL.2 ⟨?_,hsp,fun a ha b hb e=>(hx1 a ha).2 (by rw[e];exact hb)⟩,fun x hx=> ?_⟩
 ·rw[e0,aB,aB] at mo
  exact (aL.1 (aL.1 mo).2.1).1
 ·rcases ah.1 hx with hx|hx
  ·exact kd.pg.keeps (NH x (ah.2 (.inl (hsub x hx))))
  ·have h1:=(kd.b8.mem_iff (a:=x)).1 (ah.2 (.inr hx))
   rcases ah.1 h1 with h1|h1
   ·refine kd.pg.keeps (NH x ?_)
    rw[e0]
    rcases ah.1 h1 with h1|h1
    ·exact ah.2 (.inl (ah.2 (.inl h1)))
    ·exact ah.2 (.inr h1)
   ·exact kd.pg.jX x (.inr h1)
end
section
variable {E:Ev} {X0 X X' X1 V:World} {R0 R R' R1 S:Nat→Prop} {ps ps' ps1:List (Nat×List UInt8)} {pg cP fO:List (Option Wl.Text)} {rt:List Nat} {M M' M1:Nat→Option NV} {k p q sb:Nat} {n:NV} {sp ju al F:List Nat} {J:List It} {l':List (Tr.Tx×Tr.E (k+1))} {t:Tr.E (k+2)} {fs:List (List Nat)} {j:Nat}
theorem G5 (kd:mL E X0 R0 rt sb R ps pg M X sp k p t fs n j J l' R1 ps1 fO M1 ju al X1) (hj:j<n.its.length) (hjt:j<(Tr.its t).length) (hnd:(Tr.b8 (k+2) t++sp).Nodup) (htk:∀x∈Tr.b8 (k+2) t++sp,(pg.getD x none).isSome=true)
  (hkey:n.its[j].key=((Tr.its t)[j]).1) (hval:n.its[j].val=dS (k+1) ((Tr.its t)[j]).2) (hst:cK pg (k+1) ((Tr.its t)[j]).2) (hfs:(fs.take j).flatten=(fs.take (j+1)).flatten):
  mL E X0 R0 rt sb R ps pg M X sp k p t fs n (j+1) (J++[n.its[j]]) (l'++[(Tr.its t)[j]]) R1 ps1 fO M1 ju al X1:=by
 obtain⟨h1,h2,h3⟩:=rQ kd hjt hnd htk
 have kQ:(Tr.its t).take (j+1)=(Tr.its t).take j++[(Tr.its t)[j]]:=cI hjt
 have aaU:cK fO (k+1) ((Tr.its t)[j]).2:=eY hst fun x hx=>(h1 x hx).1
 have hone:Tr.dI (k+1) [(Tr.its t)[j]]=Tr.b8 (k+1) ((Tr.its t)[j]).2:=Tr.gC _ _
 refine⟨kd.sw,kd.pre, ?_, ?_,fun x hx=> ?_, ?_,by rw[aq,kd.jl];rfl,hj, ?_,fun hs=> ?_, ?_, ?_, ?_,by rw[←hfs];exact kd.same,kd.but,kd.sub,kd.new,kd.mb⟩
 ·have:=(qE (fun p:Tr.Tx×Tr.E (k+1)=>Tr.cnt (k+1) p.2) (Tr.its t) j hjt).1
  have:=kd.few
  omega
 ·rw[kQ]
  exact kd.sm.append ⟨⟨rfl,Tr.Sm.refl _ _⟩,trivial⟩
 ·rcases ah.1 hx with hx|hx
  ·exact kd.st x hx
  ·grind
 ·rw[kd.at_,aB,List.singleton_append,kJ]
 ·rw[bI,kd.kvs,dh,bI]
  congr 1
  show [kv n.its[j]]=[kv _]
  unfold kv
  rw[hkey,hval]
 ·rw[kQ,dh,dh,kd.keep fun x hx=>hs x (by rw[kQ];exact ah.2 (.inl hx))]
 ·rw[kQ,Tr.bK,Tr.bK,hone]
  have e:=kd.b8
  rw[List.perm_iff_count] at e ⊢
  intro a
  have e2:=e a
  simp only[List.count_append] at e2 ⊢
  omega
 ·rw[Tr.bK,hone]
  exact kd.pg.Ul fun x hx=>h3 x (ah.2 (.inl hx))
 ·rw[kQ,Tr.cz]
  have:=kd.eT
  omega
theorem Kz {a b a' b':Nat} (kd:mL E X0 R0 rt sb R ps pg M X sp k p t fs n j J l' R1 ps1 fO M1 ju al X1) (h:Bw E X0 R0 rt ps1 fO a b X') (ha:(((Tr.its t).take j).map fun p=>Tr.cnt (k+1) p.2).sum+a≤a') (hb:Tr.jP (k+1) ((Tr.its t).take j)+b≤b'):Bw E X0 R0 rt ps pg a' b' X':=by
 obtain⟨R',M',ps',cP,h1,h2,h3,h4⟩:=h
 refine⟨R',M',ps',cP,h1,kd.pre.trans h2, ?_, ?_⟩
 ·have:=kd.few;omega
 ·have:=kd.pg.len
  have:=kd.pg.used
  have:=kd.eT
  omega
theorem DP {q:Nat} {f:List Nat} {R2 R3:Nat→Prop} {Qt:List (Nat×List UInt8)} {Yh:List (Option Wl.Text)} {M3:Nat→Option NV} {t3:Tr.E (k+1)} {Yi Yj:List Nat} {X3:World} {page:Nat}
  (kd:mL E X0 R0 rt sb R ps pg M X sp k p t fs n j J l' R1 ps1 fO M1 ju al X1) (hV:Below X1.heap.size X1 V) (x9:∀b,R1 b→R2 b) (Yk:∀b,R2 b→R1 b∨X1.heap.size≤b) (hj:j<n.its.length) (hjt:j<(Tr.its t).length) (hnd:(Tr.b8 (k+2) t++sp).Nodup) (htk:∀x∈Tr.b8 (k+2) t++sp,(pg.getD x none).isSome=true)
  (hkey:n.its[j].key=((Tr.its t)[j]).1) (TY:(fs.take (j+1)).flatten=(fs.take j).flatten++f) (hpf:p∉f) (lM:n.its[j].key.length≤200)
  (wr:O_ E X0 R0 rt sb R2 ps1 fO M1 V ju k q ((Tr.its t)[j]).2 f R3 Qt Yh M3 t3 Yi Yj X3) (cy:(Tr.hd t3).page=some page) {W:World} (hW:Below X3.heap.size X3 W):
  ∃M4,mL E X0 R0 rt sb R ps pg M X sp k p t fs n (j+1) (J++[{n.its[j] with val:=pv page}]) (l'++[(((Tr.its t)[j]).1,t3)]) R3 Qt Yh M4 Yi (al++Yj) (W.setCell ⟨n.rg,n.ro+(j*3+1),none⟩ (.string (bs (pv page)))):=by
 obtain⟨h1,h2,h3⟩:=rQ kd hjt hnd htk
 have kQ:(Tr.its t).take (j+1)=(Tr.its t).take j++[(Tr.its t)[j]]:=cI hjt
 have hone:Tr.dI (k+1) [(((Tr.its t)[j]).1,t3)]=Tr.b8 (k+1) t3:=Tr.gC _ _
 have Um:Tr.dI (k+1) [(Tr.its t)[j]]=Tr.b8 (k+1) ((Tr.its t)[j]).2:=Tr.gC _ _
 have NI:M3 p=some {n with its:=J++n.its.drop j}:=by rw[wr.same p hpf];exact kd.at_
 have hsw:=wr.sw.still (R':=R3) hW (fun _ h=>h) (fun _ h=>.inl h)
 have hjl:j<(J++n.its.drop j).length:=by rw[aq,kd.jl,aT];omega
 have jf:(J++n.its.drop j)[j]=n.its[j]:=by
  have e:(J++n.its.drop j)[j]?=some n.its[j]:=by rw[gN (by rw[kd.jl];exact af _),kd.jl,Nat.sub_self,List.getElem?_drop,dN,aJ hj]
  rw[aJ hjl] at e
  exact Option.some.inj e
 have Yl:=hsw.item NI j 1 hjl (by decide) {n.its[j] with val:=pv page} (.string (bs (pv page))) (by
  show aj.enc {n.its[j] with val:=pv page}=(aj.enc ((J++n.its.drop j)[j])).set 1 _
  rw[jf];rfl) ⟨lM,by show 2≤200;decide⟩
 have ow:(J++n.its.drop j).set j {n.its[j] with val:=pv page}=(J++[{n.its[j] with val:=pv page}])++n.its.drop (j+1):=by
  rw[cm hj,List.set_append_right _ _ (by rw[kd.jl];exact af _),kd.jl,Nat.sub_self,au,aB]
  rfl
 have EY:∀x∈Tr.dI (k+1) l',x∉Tr.b8 (k+1) t3:=fun x hx hm=>by
  have h4:=(wr.b8.mem_iff (a:=x)).1 (ah.2 (.inl hm))
  have xj:x∈Tr.dI (k+1) l'++ju:=ah.2 (.inl hx)
  rcases ah.1 h4 with h4|h4
  ·rcases ah.1 h4 with h4|h4
   ·exact (h1 x h4).2 hx
   ·have hall:(Tr.dI (k+1) l'++ju).Nodup:=by
     rw[Tr.bp,aB] at hnd
     have mo:=(aL.1 hnd).2.1
     refine (kd.b8.nodup_iff).2 (aL.2 ⟨?_,kd.pg.nd,fun a ha b hb e=> ?_⟩)
     ·have hsplit:Tr.its t=(Tr.its t).take j++(Tr.its t).drop j:=(cL _ _).symm
      rw[hsplit,Tr.bK,aB] at mo
      have g1:=aL.1 mo
      have g2:=aL.1 g1.2.1
      exact aL.2 ⟨g1.1,g2.2.1,fun a ha b hb=>g1.2.2 a ha b (ah.2 (.inr hb))⟩
     ·subst e
      have g1:(pg.getD a none).isSome=true:=htk a (by
       rw[Tr.bp,aB]
       refine ah.2 (.inr ?_)
       rcases ah.1 ha with ha|ha
       ·obtain⟨y,hy,hy2⟩:=List.mem_flatMap.1 ha
        exact ah.2 (.inl (nS (List.mem_of_mem_take hy) hy2))
       ·exact ah.2 (.inr ha))
      rw[(kd.pg.free a hb).1] at g1;cases g1
    exact (aL.1 hall).2.2 x hx x h4 rfl
  ·have h5:=kd.pg.jX x (.inl hx)
   rw[(wr.pg.free x h4).1] at h5;cases h5
 have hXV:=hV.size
 refine⟨upd M3 p {n with its:=(J++[{n.its[j] with val:=pv page}])++n.its.drop (j+1)},⟨?_,kd.pre.trans wr.pre, ?_, ?_,fun x hx=> ?_,bz _ _ _,by rw[aq,kd.jl];rfl,hj, ?_,fun hs=> ?_, ?_, ?_, ?_,fun r hr=> ?_, ?_,fun b hb=>wr.sub b (x9 b (kd.sub b hb)),fun b hb=> ?_,fun b hb=> ?_⟩⟩
 ·have:=Yl
  dsimp only at this
  rw[ow] at this
  exact this
 ·have e1:=(qE (fun p:Tr.Tx×Tr.E (k+1)=>Tr.cnt (k+1) p.2) (Tr.its t) j hjt).1
  have e2:=kd.few
  have e3:=wr.few
  omega
 ·rw[kQ]
  exact kd.sm.append ⟨⟨rfl,wr.sm⟩,trivial⟩
 ·rcases ah.1 hx with hx|hx
  ·exact eY (kd.st x hx) fun y hy=>wr.pg.same y fun hm=>EY y (nS hx hy) hm
  ·rw[cH.1 hx];exact wr.st
 ·rw[bI,kd.kvs,dh,bI]
  congr 1
  show [kv {n.its[j] with val:=pv page}]=[kv _]
  unfold kv
  dsimp only
  rw[hkey]
  show [(_,pv page)]=[(_,pv ((Tr.hd t3).page.getD 0))]
  rw[cy];rfl
 ·rw[kQ,dh,dh,kd.keep fun x hx=>hs x (by rw[kQ];exact ah.2 (.inl hx))]
  congr 1
  have h4:=wr.keep (hs _ (by rw[kQ];exact ah.2 (.inr aA)))
  show [(⟨((Tr.its t)[j]).1,dS (k+1) t3,none⟩:It)]=[⟨((Tr.its t)[j]).1,dS (k+1) ((Tr.its t)[j]).2,none⟩]
  rw[Bc h4]
 ·rw[kQ,Tr.bK,Tr.bK,hone,Um]
  have e:=kd.b8
  have e':=wr.b8
  rw[List.perm_iff_count] at e e' ⊢
  intro a
  have e2:=e a
  have e3:=e' a
  simp only[List.count_append] at e2 e3 ⊢
  omega
 ·rw[Tr.bK,hone]
  exact kd.pg.trans wr.pg
 ·rw[kQ,Tr.cz,Tr.gW,aq]
  have e1:=kd.eT
  have e2:=wr.eT
  omega
 ·rw[TY] at hr
  have M0:r≠p:=fun e=>hr (by rw[e];exact aA)
  rw[aO M0,wr.same r fun hm=>hr (aF _ (ah.2 (.inr hm)))]
  exact kd.same r fun hm=>hr (by
   rcases aQ.1 hm with rfl|hm
   ·exact aA
   ·exact aF _ (ah.2 (.inl hm)))
 ·have g1:=kd.but.trans (aE.aH hV (fun _=>False)) (fun _ _ f=>f.elim)
  have g2:=g1.trans wr.but (fun b hlt hb=>by
   rcases hb with hb|hb|hb
   ·exact .inl fun hr=>hb (x9 b (kd.sub b hr))
   ·exact .inr (.inl hb)
   ·exact .inr (.inr (kd.mb b hb)))
  have g3:=g2.trans (aE.aH hW (fun _=>False)) (fun _ _ f=>f.elim)
  exact g3.trans ((aE.refl (fun b=>b=n.rg) W).setCell _ _ fun _=>rfl) (fun b _ e=>by rw[e];exact .inr (.inr (kd.mb _ ⟨p,_,kd.at_,.inr rfl⟩)))
 ·rcases wr.new b hb with hb|hb
  ·rcases Yk b hb with hb|hb
   ·exact kd.new b hb
   ·right;have:=kd.but.size;omega
  ·right;have:=kd.but.size;omega
 ·obtain⟨r,y,hr,hk⟩:=hb
  rcases aI hr with⟨rfl,rfl⟩|⟨_,hr⟩
  ·exact kd.mb b ⟨_,_,kd.at_,hk⟩
  ·exact kd.mb b (wr.mb b ⟨r,y,hr,hk⟩)
end
theorem aX.at_ {pg:List (Option Wl.Text)} {k:Nat} {R:Nat→Tr.E (k+1)→List Nat→Prop} {is:List It} {xs:List (Tr.Tx×Tr.E (k+1))} {fs:List (List Nat)} {j:Nat} (h:aX pg k R is xs fs) (h1:j<is.length) (h2:j<xs.length) (h3:j<fs.length):iW pg k R is[j] xs[j] fs[j]:=by
 induction is generalizing xs fs j with
 |nil=>cases h1
 |cons i is ih=>
  cases xs with
  |nil=>cases h2
  |cons x xs=>cases fs with
   |nil=>cases h3
   |cons f fs=>
    cases j with
    |zero=>exact h.1
    |succ j=>exact ih h.2 (by simpa using h1) (by simpa using h2) (by simpa using h3)
theorem qF {fs:List (List Nat)} {j:Nat} (hj:j<fs.length):(fs.take (j+1)).flatten=(fs.take j).flatten++fs[j]:=by
 rw[cI hj,dm]
 simp
theorem DQ {k:Nat} (hk:k+1≤15) (ih:tH k):tH (k+1):=by
 intro E X0 X R0 R ps pg rt M p sb sp F t hs hr hF hok hnd htk nP hq
 obtain⟨n,fs,hn,ho,hks,rfl⟩:=hr
 obtain⟨lo,h,hok⟩:=hok
 have G4:=hs.ts.mem.nd p n hn
 have hl:=hks.len
 have sC:=(cD.1 hF).1
 have hfn:=(cD.1 hF).2
 have rE:Tr.cnt (k+1+1) t=1+((Tr.its t).map fun p=>Tr.cnt (k+1) p.2).sum:=rfl
 have h0:mL E X0 R0 rt sb R ps pg M X sp k p t fs n 0 [] [] R ps pg M sp [] X:=⟨hs,List.prefix_refl _,by simp,trivial,fun _ hx=>(by cases hx),hn,rfl,aC _,rfl,fun _=>rfl,by simp[Tr.dI],iq.refl pg,aC _,fun _ _=>rfl,aE.refl _ _,fun _ h=>h,fun _ h=>.inl h,fun _ h=>h⟩
 have hW:Yd sb p E.tb E.rb n.its.length n.rg n.ro n.cap (fun j V=>∃J l' R1 ps1 fO M1 ju al,mL E X0 R0 rt sb R ps pg M X sp k p t fs n j J l' R1 ps1 fO M1 ju al V) (fun page V=>∃n1 l' R2 ps2 mK M2 wX G3,n1.level=k+1∧Zn E X0 R0 rt sb R ps pg M X sp (k+1) p t (p::fs.flatten) n1 l' page R2 ps2 mK M2 wX G3 V) (fun c V=>nT E X0 R0 rt sb R ps pg M X sp (k+1) p t (p::fs.flatten) c V):=by
  have hcell:∀{j J l' R1 ps1 fO M1 ju al X1},mL E X0 R0 rt sb R ps pg M X sp k p t fs n j J l' R1 ps1 fO M1 ju al X1→Nd X1 p {n with its:=J++n.its.drop j}∧(J++n.its.drop j).length=n.its.length:=fun kd=>⟨kd.sw.ts.mem.nd p _ kd.at_,by
   have:=kd.jl
   have:=kd.le
   rw[aq,aT];omega⟩
  refine⟨?_, ?_, ?_, ?_⟩
  ·rintro j V ⟨J,l',R1,ps1,fO,M1,ju,al,kd⟩
   obtain⟨g1,g2⟩:=hcell kd
   have:=g1.c1
   rw[show ({n with its:=J++n.its.drop j}:NV).its.length=n.its.length from g2] at this
   exact this
  ·rintro j V ⟨J,l',R1,ps1,fO,M1,ju,al,kd⟩ hj
   obtain⟨g1,g2⟩:=hcell kd
   have hjt:j<(Tr.its t).length:=by omega
   have Ym:j<fs.length:=by omega
   have hki:=hks.at_ hj hjt Ym
   have jf:(J++n.its.drop j)[j]'(by omega)=n.its[j]:=by
    have e:(J++n.its.drop j)[j]?=some n.its[j]:=by rw[gN (by rw[kd.jl];exact af _),kd.jl,Nat.sub_self,List.getElem?_drop,dN,aJ hj]
    rw[aJ (by omega)] at e
    exact Option.some.inj e
   have hit:uK V n.rg n.ro j n.its[j]:=by
    have:=uK.of (j:=j) g1.row (by show j<(J++n.its.drop j).length;omega)
    rw[←jf]
    exact this
   obtain⟨q1,q2,q3⟩:=rQ kd hjt hnd htk
   refine⟨n.its[j],hit,fun hnone W hW=> ?_,fun q hq V2 ib hV Yn Yo=> ?_⟩
   ·rcases hki.2.2 with⟨_,hfe,hv,hst⟩|⟨q,hq,_⟩
    ·exact⟨_,_,R1,ps1,fO,M1,ju,al,(G5 kd hj hjt hnd htk hki.1 hv hst (by rw[qF Ym,hfe,bh])).still hW⟩
    ·rw[hq] at hnone;cases hnone
   ·rcases hki.2.2 with⟨hnone,_⟩|⟨q',lN,xJ⟩
    ·rw[hnone] at hq;cases hq
    ·rw[hq] at lN
     cases lN
     have Pa:∀r∈fs[j],r∉p::(fs.take j).flatten:=fun r hr hm=>by
      have hsp:fs.flatten=(fs.take j).flatten++(fs[j]++(fs.drop (j+1)).flatten):=by
       have e:fs=fs.take j++fs[j]::fs.drop (j+1):=by rw[kJ,cL]
       conv=>lhs;rw[e]
       rw[dm,cU]
      rcases aQ.1 hm with rfl|hm
      ·exact sC (by rw[hsp];exact ah.2 (.inr (ah.2 (.inl hr))))
      ·rw[hsp] at hfn
       exact (aL.1 hfn).2.2 r hm r (ah.2 (.inl hr)) rfl
     have hpf:p∉fs[j]:=fun hm=>Pa p hm aA
     have hfj:fs[j].Nodup:=by
      have e:fs=fs.take j++fs[j]::fs.drop (j+1):=by rw[kJ,cL]
      rw[e,dm,cU] at hfn
      exact (aL.1 (aL.1 hfn).2.1).1
     have lS:dx M1 fO k q ((Tr.its t)[j]).2 fs[j]:=yd xJ (fun r hr=>kd.same r (Pa r hr)) fun x hx=>(q1 x hx).1
     obtain⟨R2,x9⟩:∃R2:Nat→Prop,R2=fun b=>R1 b∨(V.heap.size≤b∧b<V2.heap.size):=⟨_,rfl⟩
     have Yp:SW E X0 R0 R2 ps1 fO rt M1 V2 sb (gy ju):=kd.sw.still hV (by rw[x9];exact fun _ h=>.inl h) (by rw[x9];exact fun _ h=>h)
     have hcs:=qE (fun p:Tr.Tx×Tr.E (k+1)=>Tr.cnt (k+1) p.2) (Tr.its t) j hjt
     have Gx:Tr.jP (k+1) ((Tr.its t).take j)+Tr.eT (k+1) ((Tr.its t)[j]).2≤Tr.eT (k+2) t:=by
      have e:=qE (fun p:Tr.Tx×Tr.E (k+1)=>Tr.eT (k+1) p.2) (Tr.its t) j hjt
      have e2:Tr.eT (k+2) t=_:=Tr.bR (k+1) t
      unfold Tr.jP at e2 ⊢
      omega
     have Nb:=kd.few
     have aac:=kd.pg.len
     refine (ih Yp lS hfj (tG hok _ (bB hjt)) q2 q3 (by omega) (by omega)).mono ?_
     rintro e X3 ⟨c,rfl,⟨rfl,R3,Qt,Yh,M3,t3,Yi,Yj,wr⟩|⟨rfl,hlk⟩⟩
     ·left
      obtain⟨page,cy,ot,-⟩:=wr.st.1
      obtain⟨n3,hn3,Yq⟩:=wr.at_
      have NI:M3 p=some {n with its:=J++n.its.drop j}:=by rw[wr.same p hpf];exact kd.at_
      have KA:=wr.sw.ts.mem
      have zj:=KA.nd p _ NI
      have Yr:ib≠sb:=by
       have:=kd.sw.Ye
       omega
      have Ys:¬MB M1 ib:=fun hm=>by have:=kd.sw.ts.mem.lg hm;omega
      have Yt:¬(¬R2 ib∨ib=sb∨MB M1 ib):=by
       rw[x9]
       rintro (hh|hh|hh)
       ·exact hh (.inr ⟨Yn,Yo⟩)
       ·exact Yr hh
       ·exact Ys hh
      have hfz:∀W,Below X3.heap.size X3 W→W.frozen? ⟨n.rg,n.ro+j*3+1,none⟩=false:=fun W hW=>by
       obtain⟨cur,hc⟩:=(KA.still hW).ty p _ NI
       have xh:W.heap[n.rg]?=some (.cells cur 122 (0,0)):=hc
       simp[World.frozen?,xh]
      have Yu:=aV zj.row j (by show j<(J++n.its.drop j).length;omega)
      refine⟨page,rfl,fun o v hv=> ?_, ?_, ?_,ot,⟨_,Yu.2.1⟩,hfz,fun W hW=> ?_⟩
      ·exact wr.but.cell hv Yt
      ·have:=zj.c1
       rw[show ({n with its:=J++n.its.drop j}:NV).its.length=n.its.length from g2] at this
       exact this
      ·have:=(KA.nd q _ hn3).c2
       rw[Yq,cy] at this
       exact this
      ·obtain⟨M4,kd4⟩:=DP (R2:=R2) kd hV (by rw[x9];exact fun _ h=>.inl h) (by rw[x9];exact fun _ h=>h.imp_right fun h=>h.1) hj hjt hnd htk hki.1 (qF Ym) hpf (G4.small.each _ (bB hj)).1 wr cy hW
       exact⟨_,_,_,_,_,M4,_,_,kd4⟩
     ·right
      exact⟨4,rfl,by decide,.inr ⟨rfl,Kz kd hlk (by rw[rE];omega) Gx⟩⟩
  ·rintro V ⟨J,l',R1,ps1,fO,M1,ju,al,kd⟩
   have hL:(Tr.its t).take n.its.length=Tr.its t:=bZ (by omega)
   have hLf:fs.take n.its.length=fs:=bZ (by omega)
   have hat:=kd.at_
   rw[List.drop_length,bh] at hat
   have Ap:=kd.sm
   have hkeep:=kd.keep
   have vu:=kd.b8
   have Ny:=kd.eT
   have hsame:=kd.same
   have Nb:=kd.few
   rw[hL] at Ap hkeep vu Ny Nb
   rw[hLf] at hsame
   have GR:ju.length≤65536:=by
    have mo:(Tr.dI (k+1) (Tr.its t)++sp++al).Nodup:=by
     rw[Tr.bp,aB] at hnd htk
     refine aL.2 ⟨(aL.1 hnd).2.1,kd.pg.nd,fun a ha b hb e=> ?_⟩
     subst e
     have g1:=htk a (ah.2 (.inr ha))
     rw[(kd.pg.free a hb).1] at g1;cases g1
    have zW:=(aL.1 ((vu.nodup_iff).2 mo)).2.1
    refine aG (eM zW fun x hx=> ?_) nP
    have h1:=(vu.mem_iff (a:=x)).1 (ah.2 (.inr hx))
    rcases ah.1 h1 with h1|h1
    ·refine cE (htk x ?_)
     rw[Tr.bp,aB]
     exact ah.2 (.inr h1)
    ·exact (kd.pg.free x h1).2
   have kd1:Kids E X0 R0 rt sb R ps pg M X sp (k+1) p t (p::fs.flatten) {n with its:=J} l' R1 ps1 fO M1 ju al V:=⟨kd.sw,kd.pre,by rw[rE];omega,Ap,kd.st,hat,kd.kvs,vu,kd.pg,Ny,hsame,kd.but,kd.sub,kd.new,kd.mb⟩
   obtain⟨f,g1,g2,g3⟩:=BA kd1 ho.level ho.page ho.fresh (fun hf=>by
    obtain⟨page,e1,e2,e3,e4⟩:=ho.held hf
    exact⟨page,e1,e2,e3,hkeep fun x hx=>e4 (Nat.succ_pos k) x hx⟩) hnd htk hq aA (by omega)
   refine⟨f,g1,g2,fun hf=> ?_⟩
   obtain⟨RJ,e1,⟨e2,e3⟩|⟨page,e2,R2,ps2,mK,M2,wX,G3,z⟩⟩:=g3 hf
   ·refine⟨RJ,e1,.inl ⟨e2,e3.mono ?_⟩⟩
    rintro e X' (⟨page,rfl,d1,d2,R2,ps2,mK,M2,wX,G3,z⟩|hno)
    ·exact .inl ⟨page,rfl,d1,d2,{n with its:=J},_,R2,ps2,mK,M2,wX,G3,ho.level,z⟩
    ·exact .inr hno
   ·exact⟨RJ,e1,.inr ⟨page,e2,{n with its:=J},_,R2,ps2,mK,M2,wX,G3,ho.level,z⟩⟩
  ·rintro page V ⟨n1,l',R2,ps2,mK,M2,wX,G3,hlv,z⟩
   obtain⟨g1,g2,g3,g4,g5⟩:=By z ⟨lo,h,hok⟩ hlv hk nP hq
   exact⟨g1,g2,g3,_,g4,g5⟩
 exact vC hW ⟨[],[],R,ps,pg,M,sp,[],h0⟩ G4.small.len G4.small.cap.1
theorem sK:∀k,k≤15→tH k
 |0,_=>DN
 |k+1,hk=>DQ hk (sK k (by omega))
section
variable {X X':World} {R R' S:Nat→Prop} {ring g N lb tb rb:Nat} {H H':List Wl.Text} {ps ps':List (Nat×List UInt8)} {pg cP:List (Option Wl.Text)} {rt rt':List Nat}
theorem NJ (h:C1 R ring g N lb tb H ps X):
  Calls Tryz.prog 138 #[ptr tb] X fun e X'=>e=.returned (.int .i64 ps.length)∧X'=X:=by
 obtain⟨A,T,hk,x,a,hR⟩:=h
 exact qc X T tb lb ps x
theorem NK (h:C1 R ring g N lb tb H ps' X) (hp:ps<+:ps') (hn:ps'.length≤90000000):
  Calls Tryz.prog 142 #[ptr tb,.int .i64 ps.length] X fun e X'=>e=.returned (.tuple #[])∧C1 R ring g N lb tb H ps X'∧aE (fun k=>¬R k) X X':=by
 obtain⟨q,rfl⟩:=hp
 by_cases hq:q=[]
 ·subst hq
  rw[bh] at h hn
  obtain⟨A,T,hk,x,a,hR⟩:=id h
  refine (Gc X T tb lb ps ps.length x (by omega)).mono ?_
  rintro e X' ⟨rfl,rfl⟩
  exact⟨rfl,h,aE.refl _ _⟩
 ·obtain⟨A,T,hk,x,a,hR⟩:=h
  have hl:0<q.length:=ej.2 hq
  refine (JN X T tb lb (ps++q) ps.length ps.length x (by omega) (by rw[aq];omega) hn).mono ?_
  rintro e X' ⟨rfl,T',hx',hM⟩
  rw[List.take_left' rfl] at hx'
  exact⟨rfl,EO hk a hR hM hx'⟩
theorem G6 (h:iZ R ring g N lb tb rb H ps pg rt X):
  Calls Tryz.prog 89 #[ptr rb] X fun e X'=>e=.returned (.int .i64 ps.length)∧X'=X:=by
 have c0:=h.cell
 have HI:=aa h
 clear h
 go_enter Tryz.func89,Tryz.ntmps89
 unfold ptr
 go_wp2_with fail
 refine (NJ HI.o.c).mono ?_
 rintro e X' ⟨rfl,rfl⟩
 go_wp2
 go_ret
 exact⟨rfl,rfl⟩
theorem G7 (h:iZ R ring g N lb tb rb H ps' cP rt' X) (hp:ps<+:ps') (hn:ps'.length≤90000000) (hr:Rm.dx (Wl.along H (Tx.oq ps)) pg rt) (hl:1≤pg.length):
  Calls Tryz.prog 91 #[ptr rb,.int .i64 ps.length] X fun e X'=>e=.returned (.tuple #[])∧iZ R ring g N lb tb rb H ps pg rt X'∧aE (fun k=>¬R k) X X':=by
 have c0:=h.cell
 have HI:=aa h
 have HP:=aa (And.intro hp (And.intro hn (And.intro hr hl)))
 clear h hp hn hr hl
 go_enter Tryz.func91,Tryz.ntmps91
 unfold ptr
 go_wp2_with fail
 refine (NK HI.o.c HP.o.1 HP.o.2.1).mono ?_
 rintro e X' ⟨rfl,hc,hb⟩
 have HE:=aa (show iZ R ring g N lb tb rb H ps pg rt X'∧aE (fun k=>¬R k) X X' from⟨⟨hc,HI.o.blk.but hb (fun hn=>hn HI.o.rr),HI.o.rr,HP.o.2.2.1,fun p hm=>HI.o.ins p (by obtain⟨q,e⟩:=HP.o.1;rw[←e];exact ah.2 (.inl hm)),HP.o.2.2.2⟩,hb⟩)
 clear hc hb
 go_wp2
 refine bodyPost_end (results_none rfl _ _ _) rfl ?_
 exact⟨rfl,HE.o⟩
end
def iz (pg:List (Option Wl.Text)) (num:Nat) (ct:List (Tr.Tx×Tr.Tx)) (pages:List Nat):Prop:=
 (num=0∧ct=[]∧pages=[])∨∃(k:Nat) (t:Tr.E (k+1)) (page:Nat),num=page+1∧(Tr.hd t).page=some page∧k≤15∧cK pg (k+1) t∧Tr.Ok (k+1) [] none t∧ct=Tr.ct k (Tr.its t)∧pages=Tr.b8 (k+1) t∧pages.Nodup
structure DR (pg cP:List (Option Wl.Text)) (pages pages':List Nat):Prop where
 len:cP.length=pg.length
 same:∀x,x∉pages→x∉pages'→cP.getD x none=pg.getD x none
 left:∀x∈pages,x∉pages'→cP.getD x none=none
 jX:∀x∈pages',x∉pages→pg.getD x none=none
 used:Rm.used cP+pages.length=Rm.used pg+pages'.length
structure BB (pg cP:List (Option Wl.Text)) (l:List Nat):Prop where
 len:cP.length=pg.length
 at_:∀x,cP.getD x none=if x∈l then none else pg.getD x none
 used:Rm.used cP+l.length=Rm.used pg
theorem BB.next {pg cP:List (Option Wl.Text)} {l:List Nat} {x:Nat} (h:BB pg cP l) (hx:(cP.getD x none).isSome=true):BB pg (cP.set x none) (l++[x]):=by
 have hl:=cE hx
 refine⟨by rw[bP];exact h.len,fun y=> ?_, ?_⟩
 ·rw[nw hl,h.at_ y]
  by_cases e:y=x
  ·subst e;simp
  ·grind
 ·have h1:=vB (pg:=cP) (p:=x) (o:=none) hl
  rw[if_pos hx] at h1
  have h2:=h.used
  rw[aq]
  simp at h1 ⊢
  omega
theorem G8 {pg fO mK:List (Option Wl.Text)} {pages pages' sp al:List Nat} (h:iq pg fO pages' al) (hp:(pages'++sp).Perm (pages++al)) (hf:BB fO mK sp) (hn:pages.Nodup) (ht:∀x∈pages,(pg.getD x none).isSome=true):
  DR pg mK pages pages'∧(pages'++sp).Nodup∧∀x∈pages',mK.getD x none=fO.getD x none:=by
 have hnd:(pages'++sp).Nodup:=(hp.nodup_iff).2 (aL.2 ⟨hn,h.nd,fun a ha b hb e=>by
  subst e
  have:=ht a ha
  rw[(h.free a hb).1] at this;cases this⟩)
 have hd:=(aL.1 hnd).2.2
 refine⟨⟨hf.len.trans h.len,fun x h1 h2=> ?_,fun x h1 h2=> ?_,fun x h1 h2=> ?_, ?_⟩,hnd,fun x hx=> ?_⟩
 ·rw[hf.at_ x]
  by_cases hs:x∈sp
  ·rw[if_pos hs]
   have:=(hp.mem_iff (a:=x)).1 (ah.2 (.inr hs))
   rcases ah.1 this with h3|h3
   ·exact absurd h3 h1
   ·exact (h.free x h3).1.symm
  ·rw[if_neg hs];exact h.same x h2
 ·have:=(hp.mem_iff (a:=x)).2 (ah.2 (.inl h1))
  rcases ah.1 this with h3|h3
  ·exact absurd h3 h2
  ·rw[hf.at_ x,if_pos h3]
 ·have:=(hp.mem_iff (a:=x)).1 (ah.2 (.inl h1))
  rcases ah.1 this with h3|h3
  ·exact absurd h3 h2
  ·exact (h.free x h3).1
 ·have h1:=hf.used
  have h2:=h.used
  have h3:=hp.length_eq
  rw[aq,aq] at h3
  omega
 ·rw[hf.at_ x,if_neg fun hs=>hd x hx x hs rfl]
theorem gz:∀{l:List Nat} {k n:Nat},l.getD k 0=n→k<l.length→l.set k n=l
 |[],_,_,_,h=>by cases h
 |a::l,0,n,h,_=>by
  have h:a=n:=h
  rw[h];rfl
 |a::l,k+1,n,h,hl=>by
  show a::l.set k n=a::l
  rw[gz (l:=l) h (by simpa using hl)]
section
variable {E:Ev} {X0 X X' V:World} {R0 R R':Nat→Prop} {ps:List (Nat×List UInt8)} {pg:List (Option Wl.Text)} {rt:List Nat} {M M':Nat→Option NV} {k q sb:Nat} {sv:Value} {tgt:List (Tr.Tx×Tr.Tx)} {pages sp:List Nat}
def ko (E:Ev) (X0:World) (R0:Nat→Prop) (ps:List (Nat×List UInt8)) (pg:List (Option Wl.Text)) (rt:List Nat) (tgt:List (Tr.Tx×Tr.Tx)) (pages:List Nat) (c:Int) (X':World):Prop:=
 c=0∧∃R' M' ps' cP num pages',TS E X0 R0 R' ps' cP (rt.set E.place num) M' X'∧ps'.length≤ps.length+30000∧iz cP num tgt pages'∧DR pg cP pages pages'
def FrP (E:Ev) (X0:World) (R0:Nat→Prop) (rt:List Nat) (ps:List (Nat×List UInt8)) (pg:List (Option Wl.Text)) (sb:Nat) (tgt:List (Tr.Tx×Tr.Tx)) (pages:List Nat) (num:Nat) (a:Option Addr) (L i:Nat) (X:World):Prop:=
 ∃R M ps2 fO mK sp al pages' c,TS E X0 R0 R ps2 mK rt M X∧R sb∧L=sp.length∧i≤L∧ps2.length≤ps.length+17000+2*i∧iq pg fO pages' al∧(pages'++sp).Perm (pages++al)∧iz fO num tgt pages'∧BB fO mK (sp.take i)∧
  aS X sb 169 [ptr E.tb,.slice a L c]∧(0<L→∃g o,a=some ⟨g,o,none⟩∧a_ (fP .i64) X g o (gy sp)∧R g)
theorem BC {pg cP:List (Option Wl.Text)} {num:Nat} {l:List (Tr.Tx×Tr.Tx)} {pages:List Nat} (h:iz pg num l pages) (hs:∀x∈pages,cP.getD x none=pg.getD x none):iz cP num l pages:=by
 rcases h with h|⟨k,t,page,h1,h2,h3,h4,h5,h6,h7,h8⟩
 ·exact .inl h
 ·exact .inr ⟨k,t,page,h1,h2,h3,eY h4 (by rw[←h7];exact hs),h5,h6,h7,h8⟩
theorem nx {pg:List (Option Wl.Text)} {num:Nat} {l:List (Tr.Tx×Tr.Tx)} {pages:List Nat} (h:iz pg num l pages):∀x∈pages,(pg.getD x none).isSome=true:=by
 have hst:∀{k:Nat} {t:Tr.E k},cK pg k t→∀x∈Tr.b8 k t,(pg.getD x none).isSome=true:=by
  intro k
  induction k with
  |zero=>intro t _ x hx;cases hx
  |succ k ih=>
   intro t hs x hx
   obtain⟨⟨page,hp,_,wP⟩,_,hk⟩:=hs
   rw[Tr.bp,hp] at hx
   rcases aQ.1 hx with rfl|hx
   ·rw[wP];rfl
   ·obtain⟨y,hy,hxy⟩:=List.mem_flatMap.1 hx
    exact ih (hk y hy) x hxy
 rcases h with⟨_,_,rfl⟩|⟨k,t,page,_,_,_,h4,_,_,rfl,_⟩
 ·intro x hx;cases hx
 ·exact hst h4
theorem G9 {pg:List (Option Wl.Text)} {num:Nat} {l:List (Tr.Tx×Tr.Tx)} {pages:List Nat} (h:iz pg num l pages):num≤pg.length:=by
 rcases h with⟨rfl,_⟩|⟨k,t,page,rfl,hp,_,hs,_⟩
 ·exact aC _
 ·obtain⟨⟨O0,hp',_,wP⟩,_⟩:=hs
  rw[hp] at hp'
  cases hp'
  exact cE (by rw[wP];rfl)
theorem NM (dH:E.place<16) (hn:pages.Nodup) (ht:∀x∈pages,(pg.getD x none).isSome=true) (hrl:rt.length=16) (hq:ps.length≤70000000) (nP:pg.length≤4096) {G:Int→World→Prop} (hG:∀c X,ko E X0 R0 ps pg rt tgt pages c X→G c X):
  Ya sb E.tb E.rb E.place (FrP E X0 R0 rt ps pg sb tgt pages) G:=by
 refine⟨?_, ?_⟩
 ·rintro num a L i X ⟨R,M,ps2,fO,mK,sp,al,pages',c,hts,hsb,rfl,hi,hl,hpt,wQ,hmo,hfr,hblk,xj⟩ hlt
  obtain⟨g,o,rfl,Bv,hg⟩:=xj (by omega)
  have hall:(pages'++sp).Nodup:=(wQ.nodup_iff).2 (aL.2 ⟨hn,hpt.nd,fun a ha b hb e=>by
   subst e
   have:=ht a ha
   rw[(hpt.free a hb).1] at this;cases this⟩)
  have Qu:=(aL.1 hall).2.1
  have hx1:(fO.getD sp[i] none).isSome=true:=by
   have:=(wQ.mem_iff (a:=sp[i])).1 (ah.2 (.inr (bB hlt)))
   rcases ah.1 this with h3|h3
   ·exact hpt.keeps (ht _ h3)
   ·exact hpt.jX _ (.inr h3)
  have hx2:(mK.getD sp[i] none).isSome=true:=by
   rw[hfr.at_,if_neg]
   ·exact hx1
   ·intro hm
    obtain⟨j,hj,e⟩:=List.mem_iff_getElem.1 hm
    rw[aN] at hj
    rw[List.getElem_take] at e
    have:=(List.nodup_iff_pairwise_ne.1 Qu)
    have h9:=gE.1 this j i (by omega) hlt (by omega)
    exact h9 e
  have hxl:=cE hx2
  have Qv:sp.length≤4096:=by
   refine aG (eM Qu fun x hx=> ?_) nP
   have:=(wQ.mem_iff (a:=x)).1 (ah.2 (.inr hx))
   rcases ah.1 this with h3|h3
   ·exact cE (ht x h3)
   ·exact (hpt.free x h3).2
  have hcell:X.cell? ⟨g,o+i,none⟩=some (.int .i64 ((sp[i]:Nat):Int)):=by
   have hl2:i<(gy sp).length:=by unfold gy;rw[aM];exact hlt
   have:=Bv.at i 0 (by decide) hl2 (.int .i64 ((gy sp)[i])) rfl
   have e:(gy sp)[i]?=some ((sp[i]:Nat):Int):=by unfold gy;rw[cJ,aJ hlt];rfl
   rw[aJ hl2] at e
   rw[Option.some.inj e,show o+(i*(fP .i64).size+0)=o+i from by show o+(i*1+0)=o+i;omega] at this
   exact this
  refine⟨hblk.cell (j:=0) rfl,hts.tree.cell (j:=0) rfl,g,o,(sp[i]:Nat),rfl,hcell, ?_⟩
  refine (Gf hts.rm (sp[i]:Nat) (by omega)).mono ?_
  rintro e X' ⟨rfl,Qt,⟨zV,_⟩,Cs,bY⟩
  have hrf:Rm.refuse mK (sp[i]:Nat)=0:=by
   unfold Rm.refuse
   rw[if_pos ⟨by omega,by omega⟩,cX,if_pos hx2]
  have Vd:Rm.qi mK (sp[i]:Nat)=mK.set sp[i] none:=by
   unfold Rm.qi
   rw[if_pos hrf,cX]
  rw[Vd] at Cs
  refine⟨by rw[hrf],R,M,Qt,fO,_,sp,al,pages',c,hts.uH Cs bY,hsb,rfl,hlt,by omega,hpt,wQ,hmo, ?_,hblk.but bY fun h=>h hsb,fun _=>⟨g,o,rfl,Bv.but bY fun h=>h hg,hg⟩⟩
  rw[cI hlt]
  exact hfr.next hx2
 ·rintro num a L X ⟨R,M,ps2,fO,mK,sp,al,pages',c,hts,hsb,rfl,hi,hl,hpt,wQ,hmo,hfr,hblk,xj⟩
  rw[List.take_length] at hfr
  obtain⟨ht1,hnd,hsame⟩:=G8 hpt wQ hfr hn ht
  have Qw:=BC hmo hsame
  have hb0:Below X.heap.size X X.drew:=(Below.refl _ X).drew
  have Yv:=hts.still hb0 (fun _ h=>h) (fun _ h=>.inl h)
  have Qv:sp.length≤4096:=by
   refine aG (eM (aL.1 hnd).2.1 fun x hx=> ?_) nP
   have:=(wQ.mem_iff (a:=x)).1 (ah.2 (.inr hx))
   rcases ah.1 this with h3|h3
   ·exact cE (ht x h3)
   ·exact (hpt.free x h3).2
  refine⟨hblk.cell (j:=0) rfl,hts.tree.cell (j:=0) rfl,hts.tree.cell (j:=1) rfl, ?_⟩
  refine (nN Yv.rm E.place dH).mono ?_
  rintro e X' ⟨rfl,hb⟩
  have RK:Below X.heap.size X X':=hb0.trans hb
  have oy:=hts.still RK (fun _ h=>h) (fun _ h=>.inl h)
  have KB:=hblk.below RK hblk.lt
  refine⟨rt.getD E.place 0,rfl,KB.cell (j:=0) rfl,oy.tree.cell (j:=0) rfl,oy.tree.cell (j:=1) rfl,fun he=> ?_,fun hne=> ?_⟩
  ·refine hG _ _ ⟨rfl,R,M,ps2,mK,num,pages', ?_,by omega,Qw,ht1⟩
   rw[gz he (by omega)]
   exact oy
  ·have bF:Below X'.heap.size X' X'.drew:=(Below.refl _ X').drew
   have vD:=oy.still bF (fun _ h=>h) (fun _ h=>.inl h)
   have BD:=KB.below bF KB.lt
   have hnm:=G9 Qw
   have ES:=ht1.len
   refine (yX vD.rm E.place num dH (by omega) (by omega)).mono ?_
   rintro e gm ⟨rfl,Qt,⟨zV,_⟩,Cs,bY⟩
   have DS:=vD.uH Cs bY
   have qC:=BD.but bY fun h=>h hsb
   exact⟨rfl,qC.cell (j:=0) rfl,DS.tree.cell (j:=0) rfl,DS.tree.cell (j:=1) rfl,hG _ _ ⟨rfl,R,M,Qt,mK,num,pages',DS,by omega,Qw,ht1⟩⟩
end
structure Way (sb tb rb pr L mk:Nat) (q:Nat→Nat) (P:Nat→World→Prop) (N:Value→World→Prop) (G:Int→World→Prop):Prop where
 cells:∀i X,P i X→∀j,j≤i→X.cell? ⟨pr,j,none⟩=some (.pointer (some ⟨q j,0,none⟩))
 drew:∀i X,P i X→P i X.drew
 step:∀i X,P (i+1) X→Calls Tryz.prog 87 #[ptr sb,ptr (q i),ptr (q (i+1))] X fun e X'=>e=.returned (.int .i64 0)∧P i X'
 top:∀X,P 0 X→Calls Tryz.prog 88 #[ptr sb,ptr (q 0)] X fun e X'=>∃v,e=.returned (.tuple #[v,.int .i64 0])∧N v X'
 mark:∀v X,N v X→X.cell? ⟨tb,0,none⟩=some (.pointer (some ⟨rb,0,none⟩))∧Calls Tryz.prog 89 #[ptr rb] X fun e X'=>e=.returned (.int .i64 mk)∧X'=X
 store:∀v X,N v X→Calls Tryz.prog 90 #[ptr sb,v] X fun e X'=>(e=.returned (.int .i64 0)∧G 0 X')∨(e=.returned (.int .i64 4)∧X'.cell? ⟨tb,0,none⟩=some (.pointer (some ⟨rb,0,none⟩))∧Calls Tryz.prog 91 #[ptr rb,.int .i64 mk] X' fun e gm=>e=.returned (.tuple #[])∧G 4 gm)
section
variable {w:World}
theorem BF {tb rb pr L cap mk:Nat} {q:Nat→Nat} {P:Nat→World→Prop} {N:Value→World→Prop} {G:Int→World→Prop} (hW:Way w.heap.size tb rb pr (L+1) mk q P N G) (hL:L≤100) (DT:w.cell? ⟨pr,L,none⟩=some (.pointer (some ⟨q L,0,none⟩))) (hq:∃v,w.cell? ⟨q L,7,none⟩=some v) (hf:w.frozen? ⟨q L,7,none⟩=false)
  (hP:∀W,W=(w.setCell ⟨q L,7,none⟩ (.bool true)).alloc (.cells #[.pointer (some ⟨tb,0,none⟩),.slice none 0 0] 169)→P L W):
  Calls Tryz.prog 57 #[ptr tb,.slice (some ⟨pr,0,none⟩) (L+1) cap] w fun e w'=>∃c,e=.returned (.int .i64 c)∧G c w':=by
 have HW:=aa hW
 have HP:=aa hP
 obtain⟨v7,c7⟩:=hq
 have Dl:(L:Int)≤100:=by omega
 have q1:IntKind.i64.wrap ((L:Int)+1-1)=L:=by rw[IntKind.wrap_i64];omega
 have e1:(L:Int)+1-1=L:=by omega
 have dH:=bt w ⟨pr,L,none⟩ DT
 have EZ:=bt w ⟨q L,7,none⟩ c7
 clear hW hP hL
 unfold ptr at HW ⊢
 go_enter Tryz.func57,Tryz.ntmps57
 go_wp2_with fail
 obtain⟨W0,lP⟩:∃W0,W0=(w.setCell ⟨q L,7,none⟩ (.bool true)).alloc (.cells #[.pointer (some ⟨tb,0,none⟩),.slice none 0 0] 169):=⟨_,rfl⟩
 have HP0:=aa (HP.o W0 lP)
 rw[←lP]
 clear lP DT c7 hf
 go_loopw [6,7] (fun kv _ wr=>∃i:Nat,i≤L∧kv=.int .i64 i∧Hid (P i wr)) (fun kv _ _=>(RowKit.intOf kv).toNat)
 case atStart=>exact⟨L,af _,rfl,HP0⟩
 case round=>
  obtain⟨i,hi,rfl,hP⟩:=hrel
  cases i with
  |zero=>
   have hw:¬((0:Nat):Int)>0:=by decide
   have a0:=HW.o.cells 0 _ hP.o 0 (af _)
   have HT:=aa (HW.o.top _ hP.o)
   have JX:(0:Int)<L+1:=by omega
   go_wp2_with fail
   refine HT.o.mono ?_
   rintro e w2 ⟨v,rfl,hN⟩
   obtain⟨t0,hm⟩:=HW.o.mark _ _ hN
   have HM:=aa hm
   have HS:=aa (HW.o.store _ _ hN)
   clear hm hN a0
   go_wp2_with fail
   refine HM.o.mono ?_
   rintro e w3 ⟨rfl,rfl⟩
   go_wp2_with fail
   refine HS.o.mono ?_
   rintro e w4 (⟨rfl,hG⟩|⟨rfl,t4,hb⟩)
   ·have HG:=aa hG
    clear hG t0
    go_wp2_with fail
    go_ret
    exact⟨0,rfl,HG.o⟩
   ·have HB:=aa hb
    clear hb t0
    go_wp2_with fail
    refine HB.o.mono ?_
    rintro e w5 ⟨rfl,hG⟩
    have HG:=aa hG
    clear hG
    go_wp2_with fail
    go_ret
    exact⟨4,rfl,HG.o⟩
  |succ i=>
   have hw:((i+1:Nat):Int)>0:=by omega
   have a0:=HW.o.cells (i+1) _ hP.o i (by omega)
   have a1:=HW.o.cells (i+1) _ hP.o (i+1) (af _)
   have hPd:=HW.o.drew _ _ hP.o
   have HC:=aa (HW.o.step _ _ hPd)
   have Vh:(i:Int)<L+1:=by omega
   have aaV:(i:Int)+1<L+1:=by omega
   have hsub:((i+1:Nat):Int)-1=i:=by omega
   have wi:IntKind.i64.wrap (i:Int)=i:=by rw[IntKind.wrap_i64];omega
   have hi0:(0:Int)≤i:=by omega
   have hi1:(0:Int)≤(i:Int)+1:=by omega
   clear hPd
   go_wp2_with fail
   go_wp2_with (refine wp_region_any (by kernel_rfl) ?_;refine Hid.o ?_)
   refine aa ?_
   try (change wpAny _ _ _ _ _ _ _ (bD _))
   refine tk 0 ?_
   refine tk 1 ?_
   refine tk 2 ?_
   refine tk 3 ?_
   refine tk 4 ?_
   refine tk 6 ?_
   refine tk 7 ?_
   refine tk 8 ?_
   try simp only[Act.put,az,ay,au]
   refine rd [5,9] (AllReady.cons rfl (fun K hK=> ?_) (rn fun K hK=> ?_))
   focus
    go_simp
    refine hK _ _ ?_;clear hK K
    refine rd [9] (rn fun K hK=> ?_)
    go_simp
    refine hK _ _ ?_;clear hK K
    refine rd [10] (rn fun K hK=> ?_)
    go_simp
    refine HC.o.mono ?_
    rintro e w3 ⟨rfl,Un⟩
    have HP3:=aa Un
    clear Un
    refine hK _ _ ?_;clear hK K
   rotate_left
   focus
    go_simp
    refine hK _ _ ?_;clear hK K
    refine rd [5] (rn fun K hK=> ?_)
    go_simp
    refine hK _ _ ?_;clear hK K
    refine rd [10] (rn fun K hK=> ?_)
    go_simp
    refine HC.o.mono ?_
    rintro e w3 ⟨rfl,Un⟩
    have HP3:=aa Un
    clear Un
    refine hK _ _ ?_;clear hK K
   all_goals
    refine tk 11 ?_
    refine wpAny_done (by kernel_rfl) ?_ _
    clear a0 a1 hP hw
    go_wp2_with fail
    go_roundw
    case rel=>exact⟨i,Nat.le_of_succ_le hi,by go_num,HP3⟩
    case measure=>simp[RowKit.intOf]
end
end
namespace Tr
theorem zD {α:Type} (f:α→Nat) (A:Nat) (hA:2≤A) (P:α→α→Prop) (hP:∀a b,P a b→A≤f a+f b):∀(l:List α),(∀a∈l,1≤f a)→l.Pairwise (fun _ _=>True)→(∀(L R:List α) a b,l=L++a::b::R→P a b)→A*l.length≤2*(l.map f).sum+(A-2)
 |[],_,_,_=>by simp
 |[a],h1,_,_=>by
  have:=h1 a aA
  simp only[eH,bH,List.map_nil,jJ,List.sum_nil]
  omega
 |a::b::r,h1,_,h2=>by
  have ih:=zD f A hA P hP r (fun c hc=>h1 c (aF _ (aF _ hc))) (gE.2 fun _ _ _ _ _=>trivial) (fun L R c d e=>h2 (a::b::L) R c d (by rw[e];rfl))
  have hab:=hP a b (h2 [] r a b rfl)
  simp only[aW,bH,jJ]
  have e:A*(r.length+1+1)=A*r.length+2*A:=by rw[Nat.mul_succ,Nat.mul_succ];omega
  omega
theorem yf {α:Type} {O:Tx→Option Tx→α→Prop} {C:α→Tx→α→Prop} {h:Option Tx} {l L R:List (Tx×α)} {a b:Tx×α} (s:cV O C h l) (e:l=L++a::b::R):O a.1 (some b.1) a.2∧(∃u,O b.1 u b.2)∧C a.2 b.1 b.2∧b.1.length≤96:=by
 subst e
 have s2:=cV.behind s
 refine⟨s2.1, ?_,s2.2.1.2.2,s2.2.1.2.1⟩
 cases R with
 |nil=>exact⟨_,s2.2.2⟩
 |cons c R=>exact⟨_,s2.2.2.1⟩
theorem zE {k:Nat}:∀{l:List (Tx×E (k+1))},(∀p∈l,p.1.length≤96)→sz (k+1) l≤100*l.length
 |[],_=>aC _
 |p::l,h=>by
  have ih:=zE (l:=l) fun q hq=>h q (aF _ hq)
  have:=h p aA
  rw[sz,d_,aW]
  omega
theorem E5 {k:Nat} {lo:Tx} {h:Option Tx} {n:E (k+2)} (o:Ok (k+2) lo h n):sz (k+1) (its n)+96≤100*(its n).length:=by
 obtain⟨h1,_,h3,h4⟩:=o
 rw[dr] at h4
 cases hi:its n with
 |nil=>exact absurd hi h1
 |cons a l=>
  rw[hi] at h4 h3
  have ha:a.1=[]:=by
   have:=h3 a rfl
   rw[if_neg (cT k)] at this
   exact this
  have hl:∀p∈l,p.1.length≤96:=cV.lens (a:=(lo,a.2)) h4
  have:=zE hl
  rw[sz,d_,ha,aW,List.length_nil]
  omega
theorem DU {k:Nat} {lo x:Tx} {h h':Option Tx} {a b:E (k+2)} (oa:Ok (k+2) lo h a) (ob:Ok (k+2) x h' b) (hx:x.length≤96) (hc:cut (k+2) a x b):7≤(its a).length+(its b).length:=by
 have h1:=E5 oa
 have h2:=E5 ob
 rw[tq] at hc
 omega
theorem E6 {l:List (Tx×E 0)} (h:∀p∈l,iQ 0 p≤154):sz 0 l≤154*l.length:=by
 induction l with
 |nil=>exact aC _
 |cons p l ih=>
  have:=ih fun q hq=>h q (aF _ hq)
  have:=h p aA
  rw[sz,aW]
  omega
theorem G_ {lo x:Tx} {h h':Option Tx} {a b:E 1} (oa:Ok 1 lo h a) (ob:Ok 1 x h' b) (hc:cut 1 a x b):4≤(its a).length+(its b).length:=by
 have h1:=E6 (Rw.size oa.2.2)
 have h2:=E6 (Rw.size ob.2.2)
 rw[tj] at hc
 omega
theorem KC {k:Nat} {lo:Tx} {h:Option Tx} {n:E (k+1)} (o:Ok (k+1) lo h n):1≤(its n).length:=ej.2 o.1
theorem He {k:Nat} {h:Option Tx} {l:List (Tx×E (k+2))} (s:cV (Ok (k+2)) (cut (k+2)) h l):7*l.length≤2*(l.map fun p=>(its p.2).length).sum+5:=
 zD (fun p:Tx×E (k+2)=>(its p.2).length) 7 (by decide) (fun a b=>7≤(its a.2).length+(its b.2).length) (fun _ _ h=>h) l (fun a ha=>by obtain⟨u,hu⟩:=cV.each s a ha;exact KC hu) (gE.2 fun _ _ _ _ _=>trivial) fun L R a b e=>by
  obtain⟨h1,⟨u,h2⟩,h3,h4⟩:=yf s e
  exact DU h1 h2 h4 h3
theorem KE {h:Option Tx} {l:List (Tx×E 1)} (s:cV (Ok 1) (cut 1) h l):4*l.length≤2*(l.map fun p=>(its p.2).length).sum+2:=
 zD (fun p:Tx×E 1=>(its p.2).length) 4 (by decide) (fun a b=>4≤(its a.2).length+(its b.2).length) (fun _ _ h=>h) l (fun a ha=>by obtain⟨u,hu⟩:=cV.each s a ha;exact KC hu) (gE.2 fun _ _ _ _ _=>trivial) fun L R a b e=>by
  obtain⟨h1,⟨u,h2⟩,h3,_⟩:=yf s e
  exact G_ h1 h2 h3
theorem zF {k:Nat}:∀(l:List (Tx×E (k+1))),(ct (k+1) l).length=(l.map fun p=>(ct k (its p.2)).length).sum
 |[]=>rfl
 |p::l=>by
  rw[show p::l=[p]++l from rfl,bJ,dK,aq,zF l]
  simp
theorem nU {k:Nat} (x:Tx) (f:E (k+1)→Nat) (l:List (Tx×E (k+1))):((bA x l).map fun p=>f p.2).sum=(l.map fun p=>f p.2).sum∧(bA x l).length=l.length:=by cases l<;>exact⟨rfl,rfl⟩
theorem BG (n:E 1):cnt 1 n=1:=by
 have:∀l:List (Tx×E 0),(l.map fun p=>cnt 0 p.2).sum=0:=by
  intro l
  induction l with
  |nil=>rfl
  |cons a l ih=>rw[bH,jJ,ih];rfl
 show 1+_=1
 rw[this]
theorem E7 {α:Type} (f g h e:α→Nat) (B c d:Nat):∀{l:List α},(∀a∈l,f a+B*e a≤c*g a+h a+d)→(l.map f).sum+B*(l.map e).sum≤c*(l.map g).sum+(l.map h).sum+d*l.length
 |[],_=>by simp
 |a::l,hh=>by
  have ih:=E7 f g h e B c d (l:=l) fun b hb=>hh b (aF _ hb)
  have:=hh a aA
  simp only[bH,jJ,aW,Nat.mul_add,Nat.mul_one]
  omega
theorem DV (k:Nat):k≤2^k:=Nat.le_of_lt Nat.lt_two_pow_self
theorem pz:∀(k:Nat) {lo:Tx} {h:Option Tx} {n:E (k+2)},its n≠[]→Rw (k+1) lo h (its n)→
  cnt (k+2) n+3*2^k*(its n).length≤2*(ct (k+1) (its n)).length+k+3*2^k∧2^k*(its n).length+1≤cnt (k+2) n+2^k
 |0,lo,h,n,hne,⟨_,s⟩=>by
  rw[dr] at s
  have h1:=KE s
  have Yw:((bA lo (its n)).map fun p=>(its p.2).length).sum=((its n).map fun p=>(its p.2).length).sum:=(nU lo (fun x:E 1=>(its x).length) (its n)).1
  have Yx:(bA lo (its n)).length=(its n).length:=(nU lo (fun x:E 1=>(its x).length) (its n)).2
  rw[Yw,Yx] at h1
  have hc:cnt 2 n=1+(its n).length:=by
   show 1+_=_
   have:∀l:List (Tx×E 1),(l.map fun p=>cnt 1 p.2).sum=l.length:=by
    intro l
    induction l with
    |nil=>rfl
    |cons a l ih=>rw[bH,jJ,ih,BG,aW];omega
   rw[this]
  have hp:=zF (its n)
  have hp2:((its n).map fun p=>(ct 0 (its p.2)).length).sum=((its n).map fun p=>(its p.2).length).sum:=rfl
  have hpos:1≤(its n).length:=ej.2 hne
  rw[hc,hp,hp2]
  simp only[Nat.pow_zero,Nat.mul_one]
  omega
 |k+1,lo,h,n,hne,⟨_,s⟩=>by
  rw[dr] at s
  have h1:=He s
  have Yw:((bA lo (its n)).map fun p=>(its p.2).length).sum=((its n).map fun p=>(its p.2).length).sum:=(nU lo (fun x:E (k+2)=>(its x).length) (its n)).1
  have Yx:(bA lo (its n)).length=(its n).length:=(nU lo (fun x:E (k+2)=>(its x).length) (its n)).2
  rw[Yw,Yx] at h1
  have hpos:1≤(its n).length:=ej.2 hne
  have hall:∀p∈its n,its p.2≠[]∧∃lo h,Rw (k+1) lo h (its p.2):=by
   intro p hp
   have hq:∃q∈bA lo (its n),q.2=p.2:=by
    cases hi:its n with
    |nil=>rw[hi] at hp;cases hp
    |cons a l=>
     rw[hi] at hp
     rcases aQ.1 hp with rfl|hp
     ·simp_all
     ·exact⟨p,aF _ hp,rfl⟩
   obtain⟨q,hq,e⟩:=hq
   obtain⟨u,hu⟩:=cV.each s q hq
   rw[e] at hu
   exact⟨hu.1,_,_,hu.2.2⟩
  have ih:∀p∈its n,cnt (k+2) p.2+3*2^k*(its p.2).length≤2*(ct (k+1) (its p.2)).length+k+3*2^k∧2^k*(its p.2).length+1≤cnt (k+2) p.2+2^k:=fun p hp=>by
   obtain⟨g1,lo',h',g2⟩:=hall p hp
   exact pz k g1 g2
  have hc:cnt (k+3) n=1+((its n).map fun p=>cnt (k+2) p.2).sum:=rfl
  have hp:=zF (its n)
  have u1:=E7 (fun p:Tx×E (k+2)=>cnt (k+2) p.2) (fun p=>(ct (k+1) (its p.2)).length) (fun _=>0) (fun p=>(its p.2).length) (3*2^k) 2 (k+3*2^k) (l:=its n) fun p hp=>by
   have:=(ih p hp).1
   omega
  have z0:((its n).map fun _=>0).sum=0:=by
   induction its n with
   |nil=>rfl
   |cons a l ih=>rw[bH,jJ,ih]
  have l1:2^k*((its n).map fun p=>(its p.2).length).sum+(its n).length≤((its n).map fun p=>cnt (k+2) p.2).sum+2^k*(its n).length:=by
   have:∀l:List (Tx×E (k+2)),(∀p∈l,2^k*(its p.2).length+1≤cnt (k+2) p.2+2^k)→2^k*(l.map fun p=>(its p.2).length).sum+l.length≤(l.map fun p=>cnt (k+2) p.2).sum+2^k*l.length:=by
    intro l
    induction l with
    |nil=>intro _;simp
    |cons a l ih=>
     intro hl
     have e1:=ih fun p hp=>hl p (aF _ hp)
     have e2:=hl a aA
     simp only[bH,jJ,aW,Nat.mul_add,Nat.mul_one]
     omega
   exact this _ fun p hp=>(ih p hp).2
  rw[z0] at u1
  rw[hp]
  obtain⟨D,hD⟩:∃D,(its n).length=D+1:=⟨(its n).length-1,by omega⟩
  obtain⟨S,hS⟩:∃S,((its n).map fun p=>(its p.2).length).sum=D+1+S:=⟨((its n).map fun p=>(its p.2).length).sum-(D+1),by omega⟩
  rw[hD,hS] at u1 l1 h1
  rw[hc,hD]
  have hDS:5*D≤2*S:=by omega
  have Yy:2^(k+1)=2*2^k:=by rw[Nat.pow_succ];omega
  have hk:=DV k
  rw[Yy]
  generalize 2^k=B at*
  generalize ((its n).map fun p=>cnt (k+2) p.2).sum=C at*
  generalize ((its n).map fun p=>(ct (k+1) (its p.2)).length).sum=N at*
  have e1:5*(B*D)≤2*(B*S):=by
   simp_all[Nat.mul_le_mul_left,Nat.mul_left_comm]
  have e2:k*D≤B*D:=Nat.mul_le_mul_right D hk
  have f1:3*B*(D+1+S)=3*(B*D)+3*B+3*(B*S):=by rw[Nat.mul_add,Nat.mul_add,Nat.mul_assoc,Nat.mul_assoc 3 B S];omega
  have f2:(k+3*B)*(D+1)=k*D+k+3*(B*D)+3*B:=by rw[Nat.mul_succ,Nat.add_mul,Nat.mul_assoc];omega
  have f3:3*(2*B)*(D+1)=6*(B*D)+6*B:=by rw[Nat.mul_succ,show 3*(2*B)=6*B by omega,Nat.mul_assoc]
  have f4:B*(D+1+S)=B*D+B+B*S:=by rw[Nat.mul_add,Nat.mul_add];omega
  have f5:B*(D+1)=B*D+B:=Nat.mul_succ B D
  have f6:2*B*(D+1)=2*(B*D)+2*B:=by rw[Nat.mul_succ,Nat.mul_assoc]
  rw[f1,f2] at u1
  rw[f4,f5] at l1
  rw[f3,f6]
  constructor<;>omega
end Tr
end Go.Proofs.YtebbahjombdalaaGreatDoor
