/- Elder texts, cut down and merged (15). -/
import Derived.Test.YtloekpcncjocaaaGreatDoorP14
import Derived.Test.YtloekpcncjocaaaGreatDoorP12
import Derived.Test.YtloekpcncjocaaaGreatDoorP7
import Derived.Test.YtloekpcncjocaaaGreatDoorP6
import Derived.Test.YtloekpcncjocaaaGreatDoorP8
import Derived.Test.YtloekpcncjocaaaGreatDoorPTk
set_option maxRecDepth 100000
set_option maxHeartbeats 8000000
namespace Go.Proofs.YtloekpcncjocaaaGreatDoor
open Go.RowKit Lib
theorem aY {pg:List (Option Wl.Text)} {x:Nat} (h:(pg.getD x none).isSome=true):x<pg.length:=by
 rcases Nat.lt_or_ge x pg.length with h1|h1
 ·exact h1
 ·rw[List.getD_eq_getElem?_getD,List.getElem?_eq_none h1] at h;cases h
theorem Ae {pg:List (Option Wl.Text)} {p:Nat} (h:Rm.firstFree pg=some p):Rm.alloc pg=(((p:Nat):Int),0)∧Rm.iM pg=pg.set p (some (Dk.full [])):=by
 unfold Rm.alloc Rm.iM
 rw[h]
 exact⟨rfl,rfl⟩
section
variable {E:Ev} {X0 X X' X1 V:World} {R0 R R' R1 S:Nat→Prop} {ps ps' ps1:List (Nat×List UInt8)} {pg bN dX:List (Option Wl.Text)} {rt:List Nat} {M M' M1:Nat→Option NV} {k p q sb:Nat} {n1:NV} {sp gV al F:List Nat} {t:Tr.E (k+1)} {l':List (Tr.Tx×Tr.E k)}
structure Zn (E:Ev) (X0:World) (R0:Nat→Prop) (rt:List Nat) (sb:Nat) (R:Nat→Prop) (ps:List (Nat×List UInt8)) (pg:List (Option Wl.Text)) (M:Nat→Option NV) (X:World) (sp:List Nat) (k p:Nat) (t:Tr.E (k+1)) (F:List Nat) (n1:NV) (l':List (Tr.Tx×Tr.E k)) (page:Nat) (R1:Nat→Prop) (ps1:List (Nat×List UInt8)) (dX:List (Option Wl.Text)) (M1:Nat→Option NV) (gV al:List Nat) (X1:World):Prop where
 sw:SW E X0 R0 R1 ps1 dX rt M1 X1 sb (ew gV)
 pre:ps<+:ps1
 few:ps1.length+2≤ps.length+4*Tr.cnt (k+1) t
 sm:Tr.jB (Tr.Sm k) (Tr.its t) l'
 st:∀x∈l',bM dX k x.2
 at_:M1 p=some {n1 with page:=page}
 kvs:n1.its.map kv=(af k l').map kv
 keep:(Tr.hd t).page.isSome=true→(Tr.hd t).page=some page
 bg:((page::Tr.b_ k l')++gV).Perm (Tr.bg (k+1) t++sp++al)
 out:page∉Tr.b_ k l'
 pg:fL pg dX (page::Tr.b_ k l') al
 dr:al.length≤Tr.dr (k+1) t
 same:∀r,r∉F→M1 r=M r
 but:aj (fun b=>¬R b∨b=sb∨MB M b) X X1
 sub:∀b,R b→R1 b
 new:∀b,R1 b→R b∨X.heap.size≤b
 mb:∀b,MB M1 b→MB M b
theorem K4 {k:Nat} {lo:Tr.Tx} {h:Option Tr.Tx} {t:Tr.E (k+1)} {l':List (Tr.Tx×Tr.E k)} (ho:Tr.Ok (k+1) lo h t) (hs:Tr.jB (Tr.Sm k) (Tr.its t) l'):Tr.sz k l'≤510∧l'.length≤255∧∀i∈af k l',i.key.length≤96∧i.val.length≤56:=by
 have h1:=ho.2.1
 have h2:Tr.sz k l'=Tr.sz k (Tr.its t):=(Tr.jB.sz hs).symm
 have h3:=Tr.fX k l'
 have ho':Tr.Ok (k+1) lo h (Tr.mk ⟨none,true⟩ l'):=Tr.Sm.ok (Tr.Sm.cons (h:=Tr.hd t) (h':=⟨none,true⟩) hs) ho
 have hkeys:=(fD ho'.2.2).2.2
 refine⟨by omega,by omega,fun i hi=> ?_⟩
 obtain⟨x,hx,rfl⟩:=List.mem_map.1 hi
 refine⟨hkeys x hx, ?_⟩
 show (cg k x.2).length≤56
 cases k with
 |succ k=>show 2≤56;decide
 |zero=>
  obtain⟨_,_,_,ER⟩:=ho'
  unfold Tr.pI at ER
  rw[if_pos rfl] at ER
  obtain⟨u,hu⟩:=Tr.bT.each ER x hx
  exact hu.1
theorem Af {page:Nat} (z:Zn E X0 R0 rt sb R ps pg M X sp k p t F n1 l' page R1 ps1 dX M1 gV al X1) (hok:∃lo h,Tr.Ok (k+1) lo h t) (ni:n1.level=k) (hk:k≤15) (ku:pg.length≤65536) (hq:ps.length+4*Tr.cnt (k+1) t≤80000000):
  X1.cell? ⟨sb,0,none⟩=some (.pointer (some ⟨E.tb,0,none⟩))∧X1.cell? ⟨E.tb,0,none⟩=some (.pointer (some ⟨E.rb,0,none⟩))∧X1.cell? ⟨p,2,none⟩=some (.int .i64 page)∧
  (∀V,Below X1.heap.size X1 V→Calls Tryz.prog 152 #[ptr p] V fun e V'=>e=.returned (.string (bs (bH k (af k l'))))∧Below V.heap.size V V')∧∀V,Below X1.heap.size X1 V→Calls Tryz.prog 151 #[ptr E.rb,.int .i64 page,.string (bs (bH k (af k l')))] V fun e X'=>∃c:Int,e=.returned (.int .i64 c)∧mh E X0 R0 rt sb R ps pg M X sp k p t F c X'∧X'.cell? ⟨sb,0,none⟩=some (.pointer (some ⟨E.tb,0,none⟩))∧X'.cell? ⟨E.tb,0,none⟩=some (.pointer (some ⟨E.rb,0,none⟩))∧X'.cell? ⟨p,2,none⟩=some (.int .i64 page):=by
 obtain⟨lo,h,hok⟩:=hok
 obtain⟨s1,s2,s3⟩:=K4 hok z.sm
 have hnd:=z.sw.ts.mem.nd p _ z.at_
 have hlen:n1.its.length=l'.length:=by
  have:=congrArg List.length z.kvs
  rwa [List.length_map,List.length_map,af,List.length_map] at this
 have uQ:bH k n1.its=bH k (af k l'):=EU z.kvs
 have qU:∀i∈n1.its,i.key.length≤96∧i.val.length≤56:=fun i hi=>by
  have h1:kv i∈(af k l').map kv:=by rw[←z.kvs];exact List.mem_map.2 ⟨i,hi,rfl⟩
  obtain⟨j,hj,e⟩:=List.mem_map.1 h1
  have:=s3 j hj
  rw[show j.key=i.key from (Prod.mk.inj e).1,show j.val=i.val from (Prod.mk.inj e).2] at this
  exact this
 obtain⟨a,cc,hblk,-,-⟩:=z.sw.sp
 have htl:(bH k (af k l')).length≤512:=by
  rw[iW,fB];omega
 have htk:(dX.getD page none).isSome=true:=z.pg.iF page (.inl List.mem_cons_self)
 have bY:=aY htk
 refine⟨hblk.cell (j:=0) rfl,z.sw.ts.tree.cell (j:=0) rfl,hnd.c2,fun V hV=> ?_,fun V hV=> ?_⟩
 ·have:=uJ (hnd.still hV) (by show n1.level≤15;omega) (by show n1.its.length≤255;omega) qU
  rw[show ({n1 with page:=(page:Int)}:NV).level=k from ni,show ({n1 with page:=(page:Int)}:NV).its=n1.its from rfl,uQ] at this
  exact this
 ·have hsw:=z.sw.still (R':=R1) hV (fun _ h=>h) (fun _ h=>.inl h)
  refine (BN hsw.ts.rm page _ (by have:=z.few;omega)).mono ?_
  rintro e X' ⟨rfl,ps2,⟨hl2,Df⟩,jG,aC⟩
  have hw:Rm.wrote dX page (bs (bH k (af k l'))).size=0:=by
   have hr:Rm.refuse dX page=0:=by
    unfold Rm.refuse
    rw[if_pos ⟨by omega,by omega⟩,Int.toNat_natCast,if_pos htk]
   unfold Rm.wrote
   rw[if_pos hr,if_neg (by rw[aB];omega)]
  have hwr:Rm.written dX page (bs (bH k (af k l'))).data.toList=dX.set page (some (Dk.full (bH k (af k l')))):=by
   unfold Rm.written
   rw[cj,if_pos (by rw[←hw,aB]),Int.toNat_natCast]
  rw[hwr] at jG
  have lU:=hsw.room jG aC
  obtain⟨a3,c3,Ip,-,-⟩:=lU.sp
  have xM:=lU.ts.mem.nd p _ z.at_
  have hone:=fL.one (pg:=dX) (t:=Dk.full (bH k (af k l'))) bY
  rw[if_pos htk] at hone
  have VI:fL pg (dX.set page (some (Dk.full (bH k (af k l'))))) (page::Tr.b_ k l') al:=by
   have h3:=z.pg.trans hone
   rw[List.append_nil] at h3
   refine⟨h3.len,fun x hx=>h3.same x fun hm=>hx ?_,fun x hx=>h3.iF x (hx.imp_left fun hm=>List.mem_append.2 (.inl hm)),h3.free,h3.nd,h3.used⟩
   rcases List.mem_append.1 hm with hm|hm
   ·exact hm
   ·rw[List.mem_singleton.1 hm];exact List.mem_cons_self
  have hst:bM (dX.set page (some (Dk.full (bH k (af k l'))))) (k+1) (Tr.mk ⟨some page,false⟩ l'):=by
   refine⟨⟨page,rfl,by have:=z.pg.len;omega, ?_⟩,rfl,fun x hx=>dz (z.st x hx) fun y hy=> ?_⟩
   ·rw[eS bY,if_pos rfl];rfl
   ·rw[eS bY,if_neg]
    rintro rfl
    exact z.out (mg hx hy)
  refine⟨0,by rw[hw],.inl ⟨rfl,R1,ps2,_,M1,Tr.mk ⟨some page,false⟩ l',gV,al,⟨lU,z.pre.trans Df,by have:=z.few;omega,z.sm,hst,⟨_,z.at_,rfl⟩,fun hs=>(z.keep hs).symm,z.bg,VI,z.dr,z.same,(z.but.trans (aj.aq hV (fun _=>False)) (fun _ _ f=>f.elim)).trans aC (fun b hb hn=>.inl fun hr=>hn (z.sub b hr)),z.sub,z.new,z.mb⟩⟩,Ip.cell (j:=0) rfl,lU.ts.tree.cell (j:=0) rfl,xM.c2⟩
theorem Iq {k:Nat} (h:Tr.Hd) (l:List (Tr.Tx×Tr.E k)):Tr.bg (k+1) (Tr.mk h l)=h.page.toList++Tr.b_ k l:=rfl
theorem Ag (kd:Kids E X0 R0 rt sb R ps pg M X sp k p t F n1 l' R1 ps1 dX M1 gV al X1) (ni:n1.level=k) (bD:n1.page=oQ (Tr.hd t).page) (hfr:n1.fresh=(Tr.hd t).fresh)
  (held:(Tr.hd t).fresh=false→∃page,(Tr.hd t).page=some page∧page<65536∧pg.getD page none=some (Dk.full (bH k (af k (Tr.its t))))∧af k l'=af k (Tr.its t))
  (hnd:(Tr.bg (k+1) t++sp).Nodup) (htk:∀x∈Tr.bg (k+1) t++sp,(pg.getD x none).isSome=true) (hq:ps.length+4*Tr.cnt (k+1) t≤80000000) (Mr:p∈F) (EP:gV.length≤1000000):
  ∃f,X1.cell? ⟨p,7,none⟩=some (.bool f)∧(f=false→mh E X0 R0 rt sb R ps pg M X sp k p t F 0 X1)∧
  (f=true→∃Pa:Int,X1.cell? ⟨p,2,none⟩=some (.int .i64 Pa)∧((Pa=-1∧Calls Tryz.prog 150 #[ptr sb] X1 fun e X'=>(∃page:Nat,e=.returned (.tuple #[.int .i64 page,.int .i64 0])∧(∃v,X'.cell? ⟨p,2,none⟩=some v)∧X'.frozen? ⟨p,2,none⟩=false∧∃R2 ps2 kE M2 uV EW,Zn E X0 R0 rt sb R ps pg M X sp k p t F n1 l' page R2 ps2 kE M2 uV EW (X'.setCell ⟨p,2,none⟩ (.int .i64 page)))∨(∃v c:Int,e=.returned (.tuple #[.int .i64 v,.int .i64 c])∧c≠0∧mh E X0 R0 rt sb R ps pg M X sp k p t F c X'))∨∃page:Nat,Pa=page∧∃R2 ps2 kE M2 uV EW,Zn E X0 R0 rt sb R ps pg M X sp k p t F n1 l' page R2 ps2 kE M2 uV EW X1)):=by
 have hn:=kd.sw.ts.mem.nd p _ kd.at_
 have Ir:1≤Tr.cnt (k+1) t:=Nat.le_add_right 1 _
 have hmem:∀x∈Tr.b_ k l',x∈Tr.b_ k (Tr.its t)∨x∈sp∨x∈al:=fun x hx=>by
  have:=(kd.bg.mem_iff (a:=x)).1 (List.mem_append.2 (.inl hx))
  rcases List.mem_append.1 this with h|h
  ·exact (List.mem_append.1 h).imp_right .inl
  ·exact .inr (.inr h)
 rw[Tr.aK] at hnd htk
 refine⟨n1.fresh,hn.c7,fun hf=> ?_,fun hf=>⟨n1.page,hn.c2, ?_⟩⟩
 ·obtain⟨page,h1,h2,h3,h4⟩:=held (by rw[←hfr];exact hf)
  rw[h1] at hnd htk
  have hpo:page∉Tr.b_ k l':=fun hm=>by
   have hd:=(List.nodup_cons.1 (show (page::(Tr.b_ k (Tr.its t)++sp)).Nodup from by simpa using hnd)).1
   rcases hmem page hm with h|h|h
   ·exact hd (List.mem_append.2 (.inl h))
   ·exact hd (List.mem_append.2 (.inr h))
   ·have:=(kd.pg.free page h).1
    rw[h3] at this;cases this
  have hp1:dX.getD page none=pg.getD page none:=kd.pg.same page hpo
  refine .inl ⟨rfl,R1,ps1,dX,M1,Tr.mk (Tr.hd t) l',gV,al,⟨kd.sw,kd.pre,by have:=kd.few;omega,kd.sm,⟨⟨page,h1,h2, ?_⟩,hfr.symm.trans hf,kd.st⟩,⟨n1,kd.at_,bD⟩,fun _=>rfl, ?_, ?_, ?_,kd.same,kd.but,kd.sub,kd.new,kd.mb⟩⟩
  ·rw[hp1,h3,Tr.its_mk,h4]
  ·rw[Iq,Tr.aK,List.append_assoc,List.append_assoc,List.append_assoc]
   refine List.Perm.append_left _ ?_
   rw[←List.append_assoc]
   exact kd.bg
  ·rw[Iq,h1]
   exact kd.pg.more (by rw[hp1,h3];rfl)
  ·rw[Tr.aV];have:=kd.dr;omega
 ·cases hp:(Tr.hd t).page with
  |some page=>
   right
   rw[hp] at bD hnd htk
   refine⟨page,bD,R1,ps1,dX,M1,gV,al,⟨kd.sw,kd.pre,by have:=kd.few;omega,kd.sm,kd.st, ?_,kd.kvs,fun _=>hp, ?_,fun hm=> ?_,kd.pg.more ?_, ?_,kd.same,kd.but,kd.sub,kd.new,kd.mb⟩⟩
   ·have e:({n1 with page:=(page:Int)}:NV)=n1:=by
     have e2:n1.page=(page:Int):=bD
     cases n1
     simp only at e2
     subst e2
     rfl
    rw[e];exact kd.at_
   ·rw[Tr.aK,hp]
    show (page::(Tr.b_ k l'++gV)).Perm ((page::Tr.b_ k (Tr.its t))++sp++al)
    rw[List.cons_append,List.cons_append]
    exact List.Perm.cons _ kd.bg
   ·have hd:=(List.nodup_cons.1 (show (page::(Tr.b_ k (Tr.its t)++sp)).Nodup from by simpa using hnd)).1
    rcases hmem page hm with h|h|h
    ·exact hd (List.mem_append.2 (.inl h))
    ·exact hd (List.mem_append.2 (.inr h))
    ·have:=(kd.pg.free page h).1
     have h2:=htk page (by simp)
     rw[this] at h2;cases h2
   ·exact kd.pg.keeps (htk page (by simp))
   ·rw[Tr.aV];have:=kd.dr;omega
  |none=>
   left
   rw[hp] at bD
   have hnw:Tr.dr (k+1) t=1+Tr.iA k (Tr.its t):=by rw[Tr.aV,hp];rfl
   refine⟨bD, ?_⟩
   cases gV with
   |cons x gV=>
    refine (SW.take (x:=(x:Int)) (l:=ew gV) kd.sw (by unfold ew;rw[List.length_map];simp only[List.length_cons] at EP;omega)).mono ?_
    rintro e X' ⟨rfl,hsw,hb⟩
    have hn':=hsw.ts.mem.nd p _ kd.at_
    have YM:x∉Tr.b_ k l'∧(dX.getD x none).isSome=true:=by
     have hall:(Tr.b_ k (Tr.its t)++sp++al).Nodup:=by
      rw[hp] at hnd htk
      refine List.nodup_append.2 ⟨by simpa using hnd,kd.pg.nd,fun a ha b hb e=> ?_⟩
      subst e
      have h1:=htk a (by simpa using ha)
      rw[(kd.pg.free a hb).1] at h1;cases h1
     have gG:=(kd.bg.nodup_iff).2 hall
     refine⟨fun hm=>(List.nodup_append.1 gG).2.2 x hm x List.mem_cons_self rfl, ?_⟩
     have:=(kd.bg.mem_iff (a:=x)).1 (List.mem_append.2 (.inr List.mem_cons_self))
     rw[hp] at htk
     rcases List.mem_append.1 this with h|h
     ·exact kd.pg.keeps (htk x (by simpa using h))
     ·exact kd.pg.iF x (.inr h)
    left
    refine⟨x,rfl,⟨_,hn'.c2⟩,hn'.blk.frozen 2,R1,ps1,dX,upd M1 p {n1 with page:=(x:Int)},gV,al,⟨hsw.cell kd.at_ {n1 with page:=(x:Int)} 2 _ rfl rfl rfl rfl rfl rfl,kd.pre,by have:=kd.few;omega,kd.sm,kd.st,aM _ _ _,kd.kvs,(fun h=>by rw[hp] at h;cases h), ?_,YM.1,kd.pg.more YM.2,by have:=kd.dr;omega,fun r hr=> ?_, ?_,kd.sub,kd.new,fun b aC=> ?_⟩⟩
    ·rw[Tr.aK,hp]
     refine List.Perm.trans ?_ kd.bg
     exact List.perm_middle.symm
    ·rw[aA (fun e=>hr (by rw[e];exact Mr))];exact kd.same r hr
    ·exact (kd.but.trans hb (fun b _ e=>.inr (.inl e))).trans ((aj.refl (fun b=>b=p) X').setCell _ _ fun _=>rfl) (fun b _ e=>by rw[e];exact .inr (.inr (kd.mb p ⟨p,n1,kd.at_,.inl rfl⟩)))
    ·obtain⟨r,y,hr,hk⟩:=aC
     rcases ak hr with⟨rfl,rfl⟩|⟨_,hr⟩
     ·exact kd.mb b ⟨_,n1,kd.at_,hk⟩
     ·exact kd.mb b ⟨r,y,hr,hk⟩
   |nil=>
    obtain⟨a,cc,hblk,-,-⟩:=kd.sw.sp
    refine (Cf kd.sw.ts hblk (by have:=kd.few;omega)).mono ?_
    rintro e X' ⟨rfl,ps2,⟨hl2,Df⟩,jG,aC⟩
    rcases Rm.ke dX with Rp|⟨x,Rp,hx,YN⟩
    ·right
     refine⟨(Rm.alloc dX).1,(Rm.alloc dX).2,rfl,by unfold Rm.alloc;rw[Rp];decide,.inr ⟨by unfold Rm.alloc;rw[Rp],R1,M1,ps2,_,kd.sw.ts.sP jG aC,kd.pre.trans Df,by have:=kd.few;omega, ?_⟩⟩
     have h1:=EV Rp
     have h2:=kd.pg.used
     have h3:=kd.pg.len
     have h4:=kd.dr
     omega
    ·left
     obtain⟨ha1,ha2⟩:=Ae Rp
     rw[ha1]
     rw[ha2] at jG
     have hsw:=kd.sw.room jG aC
     have hn':=hsw.ts.mem.nd p _ kd.at_
     have hone:=fL.one (pg:=dX) (t:=Dk.full []) hx
     rw[YN,if_neg (by decide)] at hone
     have YO:x∉Tr.b_ k l':=fun hm=>by
      have:=kd.pg.iF x (.inl hm)
      rw[YN] at this;cases this
     refine⟨x,rfl,⟨_,hn'.c2⟩,hn'.blk.frozen 2,R1,ps2,_,upd M1 p {n1 with page:=(x:Int)},[],al++[x],⟨hsw.cell kd.at_ {n1 with page:=(x:Int)} 2 _ rfl rfl rfl rfl rfl rfl,kd.pre.trans Df,by have:=kd.few;omega,kd.sm,fun y hy=>dz (kd.st y hy) fun z hz=> ?_,aM _ _ _,kd.kvs,(fun h=>by rw[hp] at h;cases h), ?_,YO, ?_,by have:=kd.dr;rw[List.length_append];show al.length+1≤_;omega,fun r hr=> ?_, ?_,kd.sub,kd.new,fun b cC=> ?_⟩⟩
     ·rw[eS hx,if_neg]
      rintro rfl
      exact YO (mg hy hz)
     ·have h1:=kd.bg
      rw[Tr.aK,hp]
      show ((x::Tr.b_ k l')++[]).Perm (Tr.b_ k (Tr.its t)++sp++(al++[x]))
      rw[List.append_nil,←List.append_assoc]
      rw[List.append_nil] at h1
      exact ((List.Perm.cons x h1).trans (List.perm_append_singleton x _).symm)
     ·have h3:=kd.pg.trans hone
      refine⟨h3.len,fun y hy=>h3.same y fun hm=>hy ?_,fun y hy=>h3.iF y (hy.imp_left fun hm=> ?_),h3.free,h3.nd,h3.used⟩
      ·rcases List.mem_append.1 hm with hm|hm
       ·exact List.mem_cons_of_mem _ hm
       ·rw[List.mem_singleton.1 hm];exact List.mem_cons_self
      ·rcases List.mem_cons.1 hm with rfl|hm
       ·exact List.mem_append.2 (.inr List.mem_cons_self)
       ·exact List.mem_append.2 (.inl hm)
     ·rw[aA (fun e=>hr (by rw[e];exact Mr))];exact kd.same r hr
     ·exact (kd.but.trans aC (fun b _ hn=>.inl fun hr=>hn (kd.sub b hr))).trans ((aj.refl (fun b=>b=p) X').setCell _ _ fun _=>rfl) (fun b _ e=>by rw[e];exact .inr (.inr (kd.mb p ⟨p,n1,kd.at_,.inl rfl⟩)))
     ·obtain⟨r,y,hr,hk⟩:=cC
      rcases ak hr with⟨rfl,rfl⟩|⟨_,hr⟩
      ·exact kd.mb b ⟨_,n1,kd.at_,hk⟩
      ·exact kd.mb b ⟨r,y,hr,hk⟩
end
theorem oZ:∀l:List (Tr.Tx×Tr.E 0),Tr.b_ 0 l=[]
 |[]=>rfl
 |x::l=>by rw[Tr.dB,oZ l];rfl
theorem mj {k:Nat} {lo:Tr.Tx} {h:Option Tr.Tx} {t:Tr.E (k+2)} (ho:Tr.Ok (k+2) lo h t):∀x∈Tr.its t,∃lo h,Tr.Ok (k+1) lo h x.2:=by
 intro x hx
 obtain⟨_,_,_,hs⟩:=ho
 rw[Tr.b7] at hs
 cases hi:Tr.its t with
 |nil=>rw[hi] at hx;cases hx
 |cons a l=>
  rw[hi] at hx hs
  rcases List.mem_cons.1 hx with rfl|hx
  ·obtain⟨u,hu⟩:=Tr.bT.each hs (lo,x.2) List.mem_cons_self
   exact⟨_,u,hu⟩
  ·obtain⟨u,hu⟩:=Tr.bT.each hs x (List.mem_cons_of_mem _ hx)
   exact⟨_,u,hu⟩
theorem fL.Rq {pg bN:List (Option Wl.Text)} {Im al l:List Nat} (h:fL pg bN Im al) (hl:∀x∈l,(bN.getD x none).isSome=true):fL pg bN (Im++l) al:=
 ⟨h.len,fun y hy=>h.same y fun hm=>hy (List.mem_append.2 (.inl hm)),fun y hy=>by
  rcases hy with hy|hy
  ·rcases List.mem_append.1 hy with hy|hy
   ·exact h.iF y (.inl hy)
   ·exact hl y hy
  ·exact h.iF y (.inr hy),h.free,h.nd,h.used⟩
theorem o7 {α:Type} (f:α→Nat) (l:List α) (j:Nat) (hj:j<l.length):((l.take (j+1)).map f).sum=((l.take j).map f).sum+f l[j]∧((l.take (j+1)).map f).sum≤(l.map f).sum:=by
 have h1:l.take (j+1)=l.take j++[l[j]]:=List.take_succ_eq_append_getElem hj
 refine⟨by rw[h1,List.map_append,List.sum_append];simp, ?_⟩
 have h2:l.map f=(l.take (j+1)).map f++(l.drop (j+1)).map f:=by rw[←List.map_append,List.take_append_drop]
 rw[h2,List.sum_append]
 omega
section
variable {E:Ev} {X0 X X' X1 V:World} {R0 R R' R1 S:Nat→Prop} {ps ps' ps1:List (Nat×List UInt8)} {pg bN dX:List (Option Wl.Text)} {rt:List Nat} {M M' M1:Nat→Option NV} {k p q sb:Nat} {n:NV} {sp gV al F:List Nat} {t:Tr.E (k+1)}
def rL (k:Nat):Prop:=∀{E:Ev} {X0 X:World} {R0 R:Nat→Prop} {ps:List (Nat×List UInt8)} {pg:List (Option Wl.Text)} {rt:List Nat} {M:Nat→Option NV} {p sb:Nat} {sp F:List Nat} {t:Tr.E (k+1)},
 SW E X0 R0 R ps pg rt M X sb (ew sp)→b8 M pg k p t F→F.Nodup→(∃lo h,Tr.Ok (k+1) lo h t)→(Tr.bg (k+1) t++sp).Nodup→(∀x∈Tr.bg (k+1) t++sp,(pg.getD x none).isSome=true)→pg.length≤65536→ps.length+4*Tr.cnt (k+1) t≤80000000→
 Calls Tryz.prog 105 #[ptr sb,ptr p] X fun e X'=>∃c:Int,e=.returned (.int .i64 c)∧mh E X0 R0 rt sb R ps pg M X sp k p t F c X'
theorem cT:∀{n:Nat} {l:List Nat},l.Nodup→(∀x∈l,x<n)→l.length≤n
 |0,[],_,_=>Nat.le_refl _
 |0,a::_,_,h=>absurd (h a List.mem_cons_self) (Nat.not_lt_zero _)
 |n+1,l,hn,h=>by
  have h1:=cT (n:=n) (l:=l.erase n) (hn.erase n) fun x hx=>by
   have h2:=h x (List.mem_of_mem_erase hx)
   have h3:x≠n:=fun e=>by subst e;exact hn.not_mem_erase hx
   omega
  by_cases hm:n∈l
  ·rw[List.length_erase_of_mem hm] at h1;omega
  ·rw[List.erase_of_not_mem hm] at h1;omega
theorem Kids.still {n1:NV} {l':List (Tr.Tx×Tr.E k)} (kd:Kids E X0 R0 rt sb R ps pg M X sp k p t F n1 l' R1 ps1 dX M1 gV al X1) (hV:Below X1.heap.size X1 V):Kids E X0 R0 rt sb R ps pg M X sp k p t F n1 l' R1 ps1 dX M1 gV al V:=
 ⟨kd.sw.still hV (fun _ h=>h) (fun _ h=>.inl h),kd.pre,kd.few,kd.sm,kd.st,kd.at_,kd.kvs,kd.bg,kd.pg,kd.dr,kd.same,kd.but.trans (aj.aq hV (fun _=>False)) (fun _ _ f=>f.elim),kd.sub,kd.new,kd.mb⟩
theorem Cg:rL 0:=by
 intro E X0 X R0 R ps pg rt M p sb sp F t hs hr hF hok hnd htk ku hq
 obtain⟨n,hn,ho,hi,rfl⟩:=hr
 have Ir:1≤Tr.cnt (0+1) t:=Nat.le_add_right 1 _
 have EX:=hs.ts.mem.nd p n hn
 have EP:sp.length≤65536:=Nat.le_trans (cT (List.nodup_append.1 hnd).2.1 fun x hx=>aY (htk x (List.mem_append.2 (.inr hx)))) ku
 have hlen:n.its.length=(Tr.its t).length:=by rw[hi];exact List.length_map _
 have h0:Kids E X0 R0 rt sb R ps pg M X sp 0 p t [p] n (Tr.its t) R ps pg M sp [] X:=⟨hs,List.prefix_refl _,by omega,Tr.jB.refl (Tr.Sm.refl 0) _,fun _ _=>trivial,hn,by rw[hi],by rw[List.append_nil],by rw[oZ];exact fL.refl pg,Nat.zero_le _,fun _ _=>rfl,aj.refl _ _,fun _ h=>h,fun _ h=>.inl h,fun _ h=>h⟩
 have hW:VD sb p E.tb E.rb n.its.length n.rg n.ro n.cap (fun _ V=>Kids E X0 R0 rt sb R ps pg M X sp 0 p t [p] n (Tr.its t) R ps pg M sp [] V) (fun page V=>∃R2 ps2 kE M2 uV EW,Zn E X0 R0 rt sb R ps pg M X sp 0 p t [p] n (Tr.its t) page R2 ps2 kE M2 uV EW V) (fun c V=>mh E X0 R0 rt sb R ps pg M X sp 0 p t [p] c V):=by
  refine⟨fun j V kd=>(kd.sw.ts.mem.nd p n hn).c1,fun j V kd hj=>⟨n.its[j],sS.of (kd.sw.ts.mem.nd p n hn).row hj,fun _ W hW=>kd.still hW,fun q hq=> ?_⟩,fun V kd=> ?_,fun page V hz=> ?_⟩
  ·exfalso
   have h1:n.its[j]∈af 0 (Tr.its t):=by rw[←hi];exact List.getElem_mem hj
   obtain⟨y,_,e⟩:=List.mem_map.1 h1
   rw[←e] at hq
   cases hq
  ·refine Ag kd ho.level ho.page ho.fresh (fun hf=> ?_) hnd htk hq List.mem_cons_self (by omega)
   obtain⟨page,h1,h2,h3,_⟩:=ho.held hf
   exact⟨page,h1,h2,h3,rfl⟩
  ·obtain⟨R2,ps2,kE,M2,uV,EW,z⟩:=hz
   obtain⟨g1,g2,g3,g4,g5⟩:=Af z hok ho.level (Nat.zero_le _) ku hq
   exact⟨g1,g2,g3,_,g4,g5⟩
 exact tQ hW h0 EX.small.len EX.small.cap.1
structure kF (E:Ev) (X0:World) (R0:Nat→Prop) (rt:List Nat) (sb:Nat) (R:Nat→Prop) (ps:List (Nat×List UInt8)) (pg:List (Option Wl.Text)) (M:Nat→Option NV) (X:World) (sp:List Nat) (k p:Nat) (t:Tr.E (k+2)) (fs:List (List Nat)) (n:NV) (j:Nat) (J:List It) (l':List (Tr.Tx×Tr.E (k+1))) (R1:Nat→Prop) (ps1:List (Nat×List UInt8)) (dX:List (Option Wl.Text)) (M1:Nat→Option NV) (gV al:List Nat) (X1:World):Prop where
 sw:SW E X0 R0 R1 ps1 dX rt M1 X1 sb (ew gV)
 pre:ps<+:ps1
 few:ps1.length≤ps.length+4*(((Tr.its t).take j).map fun p=>Tr.cnt (k+1) p.2).sum
 sm:Tr.jB (Tr.Sm (k+1)) ((Tr.its t).take j) l'
 st:∀x∈l',bM dX (k+1) x.2
 at_:M1 p=some {n with its:=J++n.its.drop j}
 jl:J.length=j
 le:j≤n.its.length
 kvs:J.map kv=(af (k+1) l').map kv
 keep:(∀x∈(Tr.its t).take j,(Tr.hd x.2).page.isSome=true)→af (k+1) l'=af (k+1) ((Tr.its t).take j)
 bg:(Tr.b_ (k+1) l'++gV).Perm (Tr.b_ (k+1) ((Tr.its t).take j)++sp++al)
 pg:fL pg dX (Tr.b_ (k+1) l') al
 dr:al.length≤Tr.iA (k+1) ((Tr.its t).take j)
 same:∀r,r∉p::(fs.take j).flatten→M1 r=M r
 but:aj (fun b=>¬R b∨b=sb∨MB M b) X X1
 sub:∀b,R b→R1 b
 new:∀b,R1 b→R b∨X.heap.size≤b
 mb:∀b,MB M1 b→MB M b
theorem kF.still {t:Tr.E (k+2)} {fs:List (List Nat)} {j:Nat} {J:List It} {l':List (Tr.Tx×Tr.E (k+1))} (kd:kF E X0 R0 rt sb R ps pg M X sp k p t fs n j J l' R1 ps1 dX M1 gV al X1) (hV:Below X1.heap.size X1 V):kF E X0 R0 rt sb R ps pg M X sp k p t fs n j J l' R1 ps1 dX M1 gV al V:=
 ⟨kd.sw.still hV (fun _ h=>h) (fun _ h=>.inl h),kd.pre,kd.few,kd.sm,kd.st,kd.at_,kd.jl,kd.le,kd.kvs,kd.keep,kd.bg,kd.pg,kd.dr,kd.same,kd.but.trans (aj.aq hV (fun _=>False)) (fun _ _ f=>f.elim),kd.sub,kd.new,kd.mb⟩
theorem qc {t:Tr.E (k+2)} {fs:List (List Nat)} {j:Nat} {J:List It} {l':List (Tr.Tx×Tr.E (k+1))} (kd:kF E X0 R0 rt sb R ps pg M X sp k p t fs n j J l' R1 ps1 dX M1 gV al X1) (hj:j<(Tr.its t).length) (hnd:(Tr.bg (k+2) t++sp).Nodup) (htk:∀x∈Tr.bg (k+2) t++sp,(pg.getD x none).isSome=true):
  (∀x∈Tr.bg (k+1) ((Tr.its t)[j]).2,dX.getD x none=pg.getD x none∧x∉Tr.b_ (k+1) l')∧(Tr.bg (k+1) ((Tr.its t)[j]).2++gV).Nodup∧(∀x∈Tr.bg (k+1) ((Tr.its t)[j]).2++gV,(dX.getD x none).isSome=true):=by
 have hsub:∀x∈Tr.bg (k+1) ((Tr.its t)[j]).2,x∈Tr.b_ (k+1) (Tr.its t):=fun x hx=>mg (List.getElem_mem hj) hx
 rw[Tr.aK,List.append_assoc] at hnd htk
 have jW:=(List.nodup_append.1 hnd).2.1
 have K5:∀x∈Tr.b_ (k+1) (Tr.its t)++sp,(pg.getD x none).isSome=true:=fun x hx=>htk x (List.mem_append.2 (.inr hx))
 have hsplit:Tr.its t=(Tr.its t).take j++(Tr.its t)[j]::(Tr.its t).drop (j+1):=by rw[List.getElem_cons_drop,List.take_append_drop]
 have e0:Tr.b_ (k+1) (Tr.its t)=Tr.b_ (k+1) ((Tr.its t).take j)++(Tr.bg (k+1) ((Tr.its t)[j]).2++Tr.b_ (k+1) ((Tr.its t).drop (j+1))):=by
  conv=>lhs;rw[hsplit]
  rw[Tr.aT,Tr.dB]
 have hbase:(Tr.b_ (k+1) ((Tr.its t).take j)++sp++al).Nodup:=by
  refine List.nodup_append.2 ⟨?_,kd.pg.nd,fun a ha b hb e=> ?_⟩
  ·rw[e0,List.append_assoc] at jW
   have h1:=List.nodup_append.1 jW
   have h2:=List.nodup_append.1 h1.2.1
   exact List.nodup_append.2 ⟨h1.1,h2.2.1,fun a ha b hb=>h1.2.2 a ha b (List.mem_append.2 (.inr hb))⟩
  ·subst e
   have h1:(pg.getD a none).isSome=true:=K5 a (by
    rw[e0]
    rcases List.mem_append.1 ha with ha|ha
    ·exact List.mem_append.2 (.inl (List.mem_append.2 (.inl ha)))
    ·exact List.mem_append.2 (.inr ha))
   rw[(kd.pg.free a hb).1] at h1;cases h1
 have hx0:∀x∈Tr.bg (k+1) ((Tr.its t)[j]).2,x∉Tr.b_ (k+1) ((Tr.its t).take j)++sp++al:=fun x hx hm=>by
  rw[e0,List.append_assoc,List.append_assoc] at jW
  have h1:=List.nodup_append.1 jW
  have h2:=List.nodup_append.1 h1.2.1
  rcases List.mem_append.1 hm with hm|hm
  ·rcases List.mem_append.1 hm with hm|hm
   ·exact h1.2.2 x hm x (List.mem_append.2 (.inl hx)) rfl
   ·exact h2.2.2 x hx x (List.mem_append.2 (.inr hm)) rfl
  ·have h3:=K5 x (List.mem_append.2 (.inl (hsub x hx)))
   rw[(kd.pg.free x hm).1] at h3;cases h3
 have hx1:∀x∈Tr.bg (k+1) ((Tr.its t)[j]).2,x∉Tr.b_ (k+1) l'∧x∉gV:=fun x hx=>
  ⟨fun hm=>hx0 x hx ((kd.bg.mem_iff).1 (List.mem_append.2 (.inl hm))),fun hm=>hx0 x hx ((kd.bg.mem_iff).1 (List.mem_append.2 (.inr hm)))⟩
 have hsp:=(List.nodup_append.1 ((kd.bg.nodup_iff).2 hbase)).2.1
 refine⟨fun x hx=>⟨kd.pg.same x (hx1 x hx).1,(hx1 x hx).1⟩,List.nodup_append.2 ⟨?_,hsp,fun a ha b hb e=>(hx1 a ha).2 (by rw[e];exact hb)⟩,fun x hx=> ?_⟩
 ·rw[e0,List.append_assoc,List.append_assoc] at jW
  exact (List.nodup_append.1 (List.nodup_append.1 jW).2.1).1
 ·rcases List.mem_append.1 hx with hx|hx
  ·exact kd.pg.keeps (K5 x (List.mem_append.2 (.inl (hsub x hx))))
  ·have h1:=(kd.bg.mem_iff (a:=x)).1 (List.mem_append.2 (.inr hx))
   rcases List.mem_append.1 h1 with h1|h1
   ·refine kd.pg.keeps (K5 x ?_)
    rw[e0]
    rcases List.mem_append.1 h1 with h1|h1
    ·exact List.mem_append.2 (.inl (List.mem_append.2 (.inl h1)))
    ·exact List.mem_append.2 (.inr h1)
   ·exact kd.pg.iF x (.inr h1)
end
section
variable {E:Ev} {X0 X X' X1 V:World} {R0 R R' R1 S:Nat→Prop} {ps ps' ps1:List (Nat×List UInt8)} {pg bN dX:List (Option Wl.Text)} {rt:List Nat} {M M' M1:Nat→Option NV} {k p q sb:Nat} {n:NV} {sp gV al F:List Nat} {J:List It} {l':List (Tr.Tx×Tr.E (k+1))} {t:Tr.E (k+2)} {fs:List (List Nat)} {j:Nat}
theorem EY (kd:kF E X0 R0 rt sb R ps pg M X sp k p t fs n j J l' R1 ps1 dX M1 gV al X1) (hj:j<n.its.length) (hjt:j<(Tr.its t).length) (hnd:(Tr.bg (k+2) t++sp).Nodup) (htk:∀x∈Tr.bg (k+2) t++sp,(pg.getD x none).isSome=true)
  (hkey:n.its[j].key=((Tr.its t)[j]).1) (hval:n.its[j].val=cg (k+1) ((Tr.its t)[j]).2) (hst:bM pg (k+1) ((Tr.its t)[j]).2) (hfs:(fs.take j).flatten=(fs.take (j+1)).flatten):
  kF E X0 R0 rt sb R ps pg M X sp k p t fs n (j+1) (J++[n.its[j]]) (l'++[(Tr.its t)[j]]) R1 ps1 dX M1 gV al X1:=by
 obtain⟨h1,h2,h3⟩:=qc kd hjt hnd htk
 have je:(Tr.its t).take (j+1)=(Tr.its t).take j++[(Tr.its t)[j]]:=List.take_succ_eq_append_getElem hjt
 have VJ:bM dX (k+1) ((Tr.its t)[j]).2:=dz hst fun x hx=>(h1 x hx).1
 have hone:Tr.b_ (k+1) [(Tr.its t)[j]]=Tr.bg (k+1) ((Tr.its t)[j]).2:=Tr.eE _ _
 refine⟨kd.sw,kd.pre, ?_, ?_,fun x hx=> ?_, ?_,by rw[List.length_append,kd.jl];rfl,hj, ?_,fun hs=> ?_, ?_, ?_, ?_,by rw[←hfs];exact kd.same,kd.but,kd.sub,kd.new,kd.mb⟩
 ·have:=(o7 (fun p:Tr.Tx×Tr.E (k+1)=>Tr.cnt (k+1) p.2) (Tr.its t) j hjt).1
  have:=kd.few
  omega
 ·rw[je]
  exact kd.sm.append ⟨⟨rfl,Tr.Sm.refl _ _⟩,trivial⟩
 ·rcases List.mem_append.1 hx with hx|hx
  ·exact kd.st x hx
  ·rw[List.mem_singleton.1 hx];exact VJ
 ·rw[kd.at_,List.append_assoc,List.singleton_append,List.getElem_cons_drop]
 ·rw[List.map_append,kd.kvs,bW,List.map_append]
  congr 1
  show [kv n.its[j]]=[kv _]
  unfold kv
  rw[hkey,hval]
 ·rw[je,bW,bW,kd.keep fun x hx=>hs x (by rw[je];exact List.mem_append.2 (.inl hx))]
 ·rw[je,Tr.aT,Tr.aT,hone]
  have e:=kd.bg
  rw[List.perm_iff_count] at e ⊢
  intro a
  have e2:=e a
  simp only[List.count_append] at e2 ⊢
  omega
 ·rw[Tr.aT,hone]
  exact kd.pg.Rq fun x hx=>h3 x (List.mem_append.2 (.inl hx))
 ·rw[je,Tr.bF]
  have:=kd.dr
  omega
theorem Is {a b a' b':Nat} (kd:kF E X0 R0 rt sb R ps pg M X sp k p t fs n j J l' R1 ps1 dX M1 gV al X1) (h:Ad E X0 R0 rt ps1 dX a b X') (ha:(((Tr.its t).take j).map fun p=>Tr.cnt (k+1) p.2).sum+a≤a') (hb:Tr.iA (k+1) ((Tr.its t).take j)+b≤b'):Ad E X0 R0 rt ps pg a' b' X':=by
 obtain⟨R',M',ps',bN,h1,h2,h3,h4⟩:=h
 refine⟨R',M',ps',bN,h1,kd.pre.trans h2, ?_, ?_⟩
 ·have:=kd.few;omega
 ·have:=kd.pg.len
  have:=kd.pg.used
  have:=kd.dr
  omega
theorem Ch {q:Nat} {f:List Nat} {R2 R3:Nat→Prop} {N7:List (Nat×List UInt8)} {VK:List (Option Wl.Text)} {M3:Nat→Option NV} {t3:Tr.E (k+1)} {VL VM:List Nat} {X3:World} {page:Nat}
  (kd:kF E X0 R0 rt sb R ps pg M X sp k p t fs n j J l' R1 ps1 dX M1 gV al X1) (hV:Below X1.heap.size X1 V) (wm:∀b,R1 b→R2 b) (VN:∀b,R2 b→R1 b∨X1.heap.size≤b) (hj:j<n.its.length) (hjt:j<(Tr.its t).length) (hnd:(Tr.bg (k+2) t++sp).Nodup) (htk:∀x∈Tr.bg (k+2) t++sp,(pg.getD x none).isSome=true)
  (hkey:n.its[j].key=((Tr.its t)[j]).1) (Q4:(fs.take (j+1)).flatten=(fs.take j).flatten++f) (hpf:p∉f) (gH:n.its[j].key.length≤200)
  (wr:MF E X0 R0 rt sb R2 ps1 dX M1 V gV k q ((Tr.its t)[j]).2 f R3 N7 VK M3 t3 VL VM X3) (bD:(Tr.hd t3).page=some page) {W:World} (hW:Below X3.heap.size X3 W):
  ∃M4,kF E X0 R0 rt sb R ps pg M X sp k p t fs n (j+1) (J++[{n.its[j] with val:=pv page}]) (l'++[(((Tr.its t)[j]).1,t3)]) R3 N7 VK M4 VL (al++VM) (W.setCell ⟨n.rg,n.ro+(j*3+1),none⟩ (.string (bs (pv page)))):=by
 obtain⟨h1,h2,h3⟩:=qc kd hjt hnd htk
 have je:(Tr.its t).take (j+1)=(Tr.its t).take j++[(Tr.its t)[j]]:=List.take_succ_eq_append_getElem hjt
 have hone:Tr.b_ (k+1) [(((Tr.its t)[j]).1,t3)]=Tr.bg (k+1) t3:=Tr.eE _ _
 have Rr:Tr.b_ (k+1) [(Tr.its t)[j]]=Tr.bg (k+1) ((Tr.its t)[j]).2:=Tr.eE _ _
 have K6:M3 p=some {n with its:=J++n.its.drop j}:=by rw[wr.same p hpf];exact kd.at_
 have hsw:=wr.sw.still (R':=R3) hW (fun _ h=>h) (fun _ h=>.inl h)
 have hjl:j<(J++n.its.drop j).length:=by rw[List.length_append,kd.jl,List.length_drop];omega
 have fV:(J++n.its.drop j)[j]=n.its[j]:=by
  have e:(J++n.its.drop j)[j]?=some n.its[j]:=by rw[List.getElem?_append_right (by rw[kd.jl];exact Nat.le_refl _),kd.jl,Nat.sub_self,List.getElem?_drop,Nat.add_zero,List.getElem?_eq_getElem hj]
  rw[List.getElem?_eq_getElem hjl] at e
  exact Option.some.inj e
 have VO:=hsw.item K6 j 1 hjl (by decide) {n.its[j] with val:=pv page} (.string (bs (pv page))) (by
  show ah.enc {n.its[j] with val:=pv page}=(ah.enc ((J++n.its.drop j)[j])).set 1 _
  rw[fV];rfl) ⟨gH,by show 2≤200;decide⟩
 have mC:(J++n.its.drop j).set j {n.its[j] with val:=pv page}=(J++[{n.its[j] with val:=pv page}])++n.its.drop (j+1):=by
  rw[List.drop_eq_getElem_cons hj,List.set_append_right _ _ (by rw[kd.jl];exact Nat.le_refl _),kd.jl,Nat.sub_self,List.set_cons_zero,List.append_assoc]
  rfl
 have C_:∀x∈Tr.b_ (k+1) l',x∉Tr.bg (k+1) t3:=fun x hx hm=>by
  have h4:=(wr.bg.mem_iff (a:=x)).1 (List.mem_append.2 (.inl hm))
  have q_:x∈Tr.b_ (k+1) l'++gV:=List.mem_append.2 (.inl hx)
  rcases List.mem_append.1 h4 with h4|h4
  ·rcases List.mem_append.1 h4 with h4|h4
   ·exact (h1 x h4).2 hx
   ·have hall:(Tr.b_ (k+1) l'++gV).Nodup:=by
     rw[Tr.aK,List.append_assoc] at hnd
     have jW:=(List.nodup_append.1 hnd).2.1
     refine (kd.bg.nodup_iff).2 (List.nodup_append.2 ⟨?_,kd.pg.nd,fun a ha b hb e=> ?_⟩)
     ·have hsplit:Tr.its t=(Tr.its t).take j++(Tr.its t).drop j:=(List.take_append_drop _ _).symm
      rw[hsplit,Tr.aT,List.append_assoc] at jW
      have g1:=List.nodup_append.1 jW
      have g2:=List.nodup_append.1 g1.2.1
      exact List.nodup_append.2 ⟨g1.1,g2.2.1,fun a ha b hb=>g1.2.2 a ha b (List.mem_append.2 (.inr hb))⟩
     ·subst e
      have g1:(pg.getD a none).isSome=true:=htk a (by
       rw[Tr.aK,List.append_assoc]
       refine List.mem_append.2 (.inr ?_)
       rcases List.mem_append.1 ha with ha|ha
       ·obtain⟨y,hy,hy2⟩:=List.mem_flatMap.1 ha
        exact List.mem_append.2 (.inl (mg (List.mem_of_mem_take hy) hy2))
       ·exact List.mem_append.2 (.inr ha))
      rw[(kd.pg.free a hb).1] at g1;cases g1
    exact (List.nodup_append.1 hall).2.2 x hx x h4 rfl
  ·have h5:=kd.pg.iF x (.inl hx)
   rw[(wr.pg.free x h4).1] at h5;cases h5
 have hXV:=hV.size
 refine⟨upd M3 p {n with its:=(J++[{n.its[j] with val:=pv page}])++n.its.drop (j+1)},⟨?_,kd.pre.trans wr.pre, ?_, ?_,fun x hx=> ?_,aM _ _ _,by rw[List.length_append,kd.jl];rfl,hj, ?_,fun hs=> ?_, ?_, ?_, ?_,fun r hr=> ?_, ?_,fun b hb=>wr.sub b (wm b (kd.sub b hb)),fun b hb=> ?_,fun b hb=> ?_⟩⟩
 ·have:=VO
  dsimp only at this
  rw[mC] at this
  exact this
 ·have e1:=(o7 (fun p:Tr.Tx×Tr.E (k+1)=>Tr.cnt (k+1) p.2) (Tr.its t) j hjt).1
  have e2:=kd.few
  have e3:=wr.few
  omega
 ·rw[je]
  exact kd.sm.append ⟨⟨rfl,wr.sm⟩,trivial⟩
 ·rcases List.mem_append.1 hx with hx|hx
  ·exact dz (kd.st x hx) fun y hy=>wr.pg.same y fun hm=>C_ y (mg hx hy) hm
  ·rw[List.mem_singleton.1 hx];exact wr.st
 ·rw[List.map_append,kd.kvs,bW,List.map_append]
  congr 1
  show [kv {n.its[j] with val:=pv page}]=[kv _]
  unfold kv
  dsimp only
  rw[hkey]
  show [(_,pv page)]=[(_,pv ((Tr.hd t3).page.getD 0))]
  rw[bD];rfl
 ·rw[je,bW,bW,kd.keep fun x hx=>hs x (by rw[je];exact List.mem_append.2 (.inl hx))]
  congr 1
  have h4:=wr.keep (hs _ (by rw[je];exact List.mem_append.2 (.inr List.mem_cons_self)))
  show [(⟨((Tr.its t)[j]).1,cg (k+1) t3,none⟩:It)]=[⟨((Tr.its t)[j]).1,cg (k+1) ((Tr.its t)[j]).2,none⟩]
  rw[zP h4]
 ·rw[je,Tr.aT,Tr.aT,hone,Rr]
  have e:=kd.bg
  have e':=wr.bg
  rw[List.perm_iff_count] at e e' ⊢
  intro a
  have e2:=e a
  have e3:=e' a
  simp only[List.count_append] at e2 e3 ⊢
  omega
 ·rw[Tr.aT,hone]
  exact kd.pg.trans wr.pg
 ·rw[je,Tr.bF,Tr.fA,List.length_append]
  have e1:=kd.dr
  have e2:=wr.dr
  omega
 ·rw[Q4] at hr
  have KB:r≠p:=fun e=>hr (by rw[e];exact List.mem_cons_self)
  rw[aA KB,wr.same r fun hm=>hr (List.mem_cons_of_mem _ (List.mem_append.2 (.inr hm)))]
  exact kd.same r fun hm=>hr (by
   rcases List.mem_cons.1 hm with rfl|hm
   ·exact List.mem_cons_self
   ·exact List.mem_cons_of_mem _ (List.mem_append.2 (.inl hm)))
 ·have g1:=kd.but.trans (aj.aq hV (fun _=>False)) (fun _ _ f=>f.elim)
  have g2:=g1.trans wr.but (fun b hlt hb=>by
   rcases hb with hb|hb|hb
   ·exact .inl fun hr=>hb (wm b (kd.sub b hr))
   ·exact .inr (.inl hb)
   ·exact .inr (.inr (kd.mb b hb)))
  have g3:=g2.trans (aj.aq hW (fun _=>False)) (fun _ _ f=>f.elim)
  exact g3.trans ((aj.refl (fun b=>b=n.rg) W).setCell _ _ fun _=>rfl) (fun b _ e=>by rw[e];exact .inr (.inr (kd.mb _ ⟨p,_,kd.at_,.inr rfl⟩)))
 ·rcases wr.new b hb with hb|hb
  ·rcases VN b hb with hb|hb
   ·exact kd.new b hb
   ·right;have:=kd.but.size;omega
  ·right;have:=kd.but.size;omega
 ·obtain⟨r,y,hr,hk⟩:=hb
  rcases ak hr with⟨rfl,rfl⟩|⟨_,hr⟩
  ·exact kd.mb b ⟨_,_,kd.at_,hk⟩
  ·exact kd.mb b (wr.mb b ⟨r,y,hr,hk⟩)
end
theorem aI.at_ {pg:List (Option Wl.Text)} {k:Nat} {R:Nat→Tr.E (k+1)→List Nat→Prop} {is:List It} {xs:List (Tr.Tx×Tr.E (k+1))} {fs:List (List Nat)} {j:Nat} (h:aI pg k R is xs fs) (h1:j<is.length) (h2:j<xs.length) (h3:j<fs.length):gE pg k R is[j] xs[j] fs[j]:=by
 induction is generalizing xs fs j with
 |nil=>cases h1
 |cons i is ih=>
  cases xs with
  |nil=>cases h2
  |cons x xs=>cases fs with
   |nil=>cases h3
   |cons f fs=>
    cases j with
    |zero=>exact h.1
    |succ j=>exact ih h.2 (by simpa using h1) (by simpa using h2) (by simpa using h3)
theorem o8 {fs:List (List Nat)} {j:Nat} (hj:j<fs.length):(fs.take (j+1)).flatten=(fs.take j).flatten++fs[j]:=by
 rw[List.take_succ_eq_append_getElem hj,List.flatten_append]
 simp
theorem Ci {k:Nat} (hk:k+1≤15) (ih:rL k):rL (k+1):=by
 intro E X0 X R0 R ps pg rt M p sb sp F t hs hr hF hok hnd htk ku hq
 obtain⟨n,fs,hn,ho,hks,rfl⟩:=hr
 obtain⟨lo,h,hok⟩:=hok
 have EX:=hs.ts.mem.nd p n hn
 have hl:=hks.len
 have pK:=(List.nodup_cons.1 hF).1
 have hfn:=(List.nodup_cons.1 hF).2
 have pZ:Tr.cnt (k+1+1) t=1+((Tr.its t).map fun p=>Tr.cnt (k+1) p.2).sum:=rfl
 have h0:kF E X0 R0 rt sb R ps pg M X sp k p t fs n 0 [] [] R ps pg M sp [] X:=⟨hs,List.prefix_refl _,by simp,trivial,fun _ hx=>(by cases hx),hn,rfl,Nat.zero_le _,rfl,fun _=>rfl,by simp[Tr.b_],fL.refl pg,Nat.zero_le _,fun _ _=>rfl,aj.refl _ _,fun _ h=>h,fun _ h=>.inl h,fun _ h=>h⟩
 have hW:VD sb p E.tb E.rb n.its.length n.rg n.ro n.cap (fun j V=>∃J l' R1 ps1 dX M1 gV al,kF E X0 R0 rt sb R ps pg M X sp k p t fs n j J l' R1 ps1 dX M1 gV al V) (fun page V=>∃n1 l' R2 ps2 kE M2 uV EW,n1.level=k+1∧Zn E X0 R0 rt sb R ps pg M X sp (k+1) p t (p::fs.flatten) n1 l' page R2 ps2 kE M2 uV EW V) (fun c V=>mh E X0 R0 rt sb R ps pg M X sp (k+1) p t (p::fs.flatten) c V):=by
  have hcell:∀{j J l' R1 ps1 dX M1 gV al X1},kF E X0 R0 rt sb R ps pg M X sp k p t fs n j J l' R1 ps1 dX M1 gV al X1→Nd X1 p {n with its:=J++n.its.drop j}∧(J++n.its.drop j).length=n.its.length:=fun kd=>⟨kd.sw.ts.mem.nd p _ kd.at_,by
   have:=kd.jl
   have:=kd.le
   rw[List.length_append,List.length_drop];omega⟩
  refine⟨?_, ?_, ?_, ?_⟩
  ·rintro j V ⟨J,l',R1,ps1,dX,M1,gV,al,kd⟩
   obtain⟨g1,g2⟩:=hcell kd
   have:=g1.c1
   rw[show ({n with its:=J++n.its.drop j}:NV).its.length=n.its.length from g2] at this
   exact this
  ·rintro j V ⟨J,l',R1,ps1,dX,M1,gV,al,kd⟩ hj
   obtain⟨g1,g2⟩:=hcell kd
   have hjt:j<(Tr.its t).length:=by omega
   have VP:j<fs.length:=by omega
   have hki:=hks.at_ hj hjt VP
   have fV:(J++n.its.drop j)[j]'(by omega)=n.its[j]:=by
    have e:(J++n.its.drop j)[j]?=some n.its[j]:=by rw[List.getElem?_append_right (by rw[kd.jl];exact Nat.le_refl _),kd.jl,Nat.sub_self,List.getElem?_drop,Nat.add_zero,List.getElem?_eq_getElem hj]
    rw[List.getElem?_eq_getElem (by omega)] at e
    exact Option.some.inj e
   have hit:sS V n.rg n.ro j n.its[j]:=by
    have:=sS.of (j:=j) g1.row (by show j<(J++n.its.drop j).length;omega)
    rw[←fV]
    exact this
   obtain⟨q1,q2,q3⟩:=qc kd hjt hnd htk
   refine⟨n.its[j],hit,fun hnone W hW=> ?_,fun q hq V2 ib hV VQ VR=> ?_⟩
   ·rcases hki.2.2 with⟨_,hfe,hv,hst⟩|⟨q,hq,_⟩
    ·exact⟨_,_,R1,ps1,dX,M1,gV,al,(EY kd hj hjt hnd htk hki.1 hv hst (by rw[o8 VP,hfe,List.append_nil])).still hW⟩
    ·rw[hq] at hnone;cases hnone
   ·rcases hki.2.2 with⟨hnone,_⟩|⟨q',jo,vM⟩
    ·rw[hnone] at hq;cases hq
    ·rw[hq] at jo
     cases jo
     have MG:∀r∈fs[j],r∉p::(fs.take j).flatten:=fun r hr hm=>by
      have hsp:fs.flatten=(fs.take j).flatten++(fs[j]++(fs.drop (j+1)).flatten):=by
       have e:fs=fs.take j++fs[j]::fs.drop (j+1):=by rw[List.getElem_cons_drop,List.take_append_drop]
       conv=>lhs;rw[e]
       rw[List.flatten_append,List.flatten_cons]
      rcases List.mem_cons.1 hm with rfl|hm
      ·exact pK (by rw[hsp];exact List.mem_append.2 (.inr (List.mem_append.2 (.inl hr))))
      ·rw[hsp] at hfn
       exact (List.nodup_append.1 hfn).2.2 r hm r (List.mem_append.2 (.inl hr)) rfl
     have hpf:p∉fs[j]:=fun hm=>MG p hm List.mem_cons_self
     have hfj:fs[j].Nodup:=by
      have e:fs=fs.take j++fs[j]::fs.drop (j+1):=by rw[List.getElem_cons_drop,List.take_append_drop]
      rw[e,List.flatten_append,List.flatten_cons] at hfn
      exact (List.nodup_append.1 (List.nodup_append.1 hfn).2.1).1
     have jf:b8 M1 dX k q ((Tr.its t)[j]).2 fs[j]:=wy vM (fun r hr=>kd.same r (MG r hr)) fun x hx=>(q1 x hx).1
     obtain⟨R2,wm⟩:∃R2:Nat→Prop,R2=fun b=>R1 b∨(V.heap.size≤b∧b<V2.heap.size):=⟨_,rfl⟩
     have VS:SW E X0 R0 R2 ps1 dX rt M1 V2 sb (ew gV):=kd.sw.still hV (by rw[wm];exact fun _ h=>.inl h) (by rw[wm];exact fun _ h=>h)
     have hcs:=o7 (fun p:Tr.Tx×Tr.E (k+1)=>Tr.cnt (k+1) p.2) (Tr.its t) j hjt
     have Ex:Tr.iA (k+1) ((Tr.its t).take j)+Tr.dr (k+1) ((Tr.its t)[j]).2≤Tr.dr (k+2) t:=by
      have e:=o7 (fun p:Tr.Tx×Tr.E (k+1)=>Tr.dr (k+1) p.2) (Tr.its t) j hjt
      have e2:Tr.dr (k+2) t=_:=Tr.aV (k+1) t
      unfold Tr.iA at e2 ⊢
      omega
     have KH:=kd.few
     have YP:=kd.pg.len
     refine (ih VS jf hfj (mj hok _ (List.getElem_mem hjt)) q2 q3 (by omega) (by omega)).mono ?_
     rintro e X3 ⟨c,rfl,⟨rfl,R3,N7,VK,M3,t3,VL,VM,wr⟩|⟨rfl,hlk⟩⟩
     ·left
      obtain⟨page,bD,mB,-⟩:=wr.st.1
      obtain⟨n3,hn3,VT⟩:=wr.at_
      have K6:M3 p=some {n with its:=J++n.its.drop j}:=by rw[wr.same p hpf];exact kd.at_
      have Iu:=wr.sw.ts.mem
      have xM:=Iu.nd p _ K6
      have VU:ib≠sb:=by
       have:=kd.sw.VG
       omega
      have VV:¬MB M1 ib:=fun hm=>by have:=kd.sw.ts.mem.iN hm;omega
      have VW:¬(¬R2 ib∨ib=sb∨MB M1 ib):=by
       rw[wm]
       rintro (hh|hh|hh)
       ·exact hh (.inr ⟨VQ,VR⟩)
       ·exact VU hh
       ·exact VV hh
      have hfz:∀W,Below X3.heap.size X3 W→W.frozen? ⟨n.rg,n.ro+j*3+1,none⟩=false:=fun W hW=>by
       obtain⟨cur,hc⟩:=(Iu.still hW).ty p _ K6
       have ve:W.heap[n.rg]?=some (.cells cur 95 (0,0)):=hc
       simp[World.frozen?,ve]
      have VX:=aH xM.row j (by show j<(J++n.its.drop j).length;omega)
      refine⟨page,rfl,fun o v hv=> ?_, ?_, ?_,mB,⟨_,VX.2.1⟩,hfz,fun W hW=> ?_⟩
      ·exact wr.but.cell hv VW
      ·have:=xM.c1
       rw[show ({n with its:=J++n.its.drop j}:NV).its.length=n.its.length from g2] at this
       exact this
      ·have:=(Iu.nd q _ hn3).c2
       rw[VT,bD] at this
       exact this
      ·obtain⟨M4,kd4⟩:=Ch (R2:=R2) kd hV (by rw[wm];exact fun _ h=>.inl h) (by rw[wm];exact fun _ h=>h.imp_right fun h=>h.1) hj hjt hnd htk hki.1 (o8 VP) hpf (EX.small.each _ (List.getElem_mem hj)).1 wr bD hW
       exact⟨_,_,_,_,_,M4,_,_,kd4⟩
     ·right
      exact⟨4,rfl,by decide,.inr ⟨rfl,Is kd hlk (by rw[pZ];omega) Ex⟩⟩
  ·rintro V ⟨J,l',R1,ps1,dX,M1,gV,al,kd⟩
   have hL:(Tr.its t).take n.its.length=Tr.its t:=List.take_of_length_le (by omega)
   have hLf:fs.take n.its.length=fs:=List.take_of_length_le (by omega)
   have hat:=kd.at_
   rw[List.drop_length,List.append_nil] at hat
   have qU:=kd.sm
   have hkeep:=kd.keep
   have tM:=kd.bg
   have KZ:=kd.dr
   have hsame:=kd.same
   have KH:=kd.few
   rw[hL] at qU hkeep tM KZ KH
   rw[hLf] at hsame
   have EP:gV.length≤65536:=by
    have jW:(Tr.b_ (k+1) (Tr.its t)++sp++al).Nodup:=by
     rw[Tr.aK,List.append_assoc] at hnd htk
     refine List.nodup_append.2 ⟨(List.nodup_append.1 hnd).2.1,kd.pg.nd,fun a ha b hb e=> ?_⟩
     subst e
     have g1:=htk a (List.mem_append.2 (.inr ha))
     rw[(kd.pg.free a hb).1] at g1;cases g1
    have Ei:=(List.nodup_append.1 ((tM.nodup_iff).2 jW)).2.1
    refine Nat.le_trans (cT Ei fun x hx=> ?_) ku
    have h1:=(tM.mem_iff (a:=x)).1 (List.mem_append.2 (.inr hx))
    rcases List.mem_append.1 h1 with h1|h1
    ·refine aY (htk x ?_)
     rw[Tr.aK,List.append_assoc]
     exact List.mem_append.2 (.inr h1)
    ·exact (kd.pg.free x h1).2
   have kd1:Kids E X0 R0 rt sb R ps pg M X sp (k+1) p t (p::fs.flatten) {n with its:=J} l' R1 ps1 dX M1 gV al V:=⟨kd.sw,kd.pre,by rw[pZ];omega,qU,kd.st,hat,kd.kvs,tM,kd.pg,KZ,hsame,kd.but,kd.sub,kd.new,kd.mb⟩
   obtain⟨f,g1,g2,g3⟩:=Ag kd1 ho.level ho.page ho.fresh (fun hf=>by
    obtain⟨page,e1,e2,e3,e4⟩:=ho.held hf
    exact⟨page,e1,e2,e3,hkeep fun x hx=>e4 (Nat.succ_pos k) x hx⟩) hnd htk hq List.mem_cons_self (by omega)
   refine⟨f,g1,g2,fun hf=> ?_⟩
   obtain⟨Pa,e1,⟨e2,e3⟩|⟨page,e2,R2,ps2,kE,M2,uV,EW,z⟩⟩:=g3 hf
   ·refine⟨Pa,e1,.inl ⟨e2,e3.mono ?_⟩⟩
    rintro e X' (⟨page,rfl,d1,d2,R2,ps2,kE,M2,uV,EW,z⟩|hno)
    ·exact .inl ⟨page,rfl,d1,d2,{n with its:=J},_,R2,ps2,kE,M2,uV,EW,ho.level,z⟩
    ·exact .inr hno
   ·exact⟨Pa,e1,.inr ⟨page,e2,{n with its:=J},_,R2,ps2,kE,M2,uV,EW,ho.level,z⟩⟩
  ·rintro page V ⟨n1,l',R2,ps2,kE,M2,uV,EW,hlv,z⟩
   obtain⟨g1,g2,g3,g4,g5⟩:=Af z ⟨lo,h,hok⟩ hlv hk ku hq
   exact⟨g1,g2,g3,_,g4,g5⟩
 exact tQ hW ⟨[],[],R,ps,pg,M,sp,[],h0⟩ EX.small.len EX.small.cap.1
theorem qK:∀k,k≤15→rL k
 |0,_=>Cg
 |k+1,hk=>Ci hk (qK k (by omega))
section
variable {X X':World} {R R' S:Nat→Prop} {ring g N lb tb rb:Nat} {H H':List Wl.Text} {ps ps':List (Nat×List UInt8)} {pg bN:List (Option Wl.Text)} {rt rt':List Nat}
theorem K7 (h:C1 R ring g N lb tb H ps X):
  Calls Tryz.prog 104 #[ptr tb] X fun e X'=>e=.returned (.int .i64 ps.length)∧X'=X:=by
 obtain⟨A,T,hk,x,a,hR⟩:=h
 exact oG X T tb lb ps x
theorem K8 (h:C1 R ring g N lb tb H ps' X) (hp:ps<+:ps') (hn:ps'.length≤90000000):
  Calls Tryz.prog 108 #[ptr tb,.int .i64 ps.length] X fun e X'=>e=.returned (.tuple #[])∧C1 R ring g N lb tb H ps X'∧aj (fun k=>¬R k) X X':=by
 obtain⟨q,rfl⟩:=hp
 by_cases hq:q=[]
 ·subst hq
  rw[List.append_nil] at h hn
  obtain⟨A,T,hk,x,a,hR⟩:=id h
  refine (Ed X T tb lb ps ps.length x (by omega)).mono ?_
  rintro e X' ⟨rfl,rfl⟩
  exact⟨rfl,h,aj.refl _ _⟩
 ·obtain⟨A,T,hk,x,a,hR⟩:=h
  have hl:0<q.length:=List.length_pos_iff.2 hq
  refine (GO X T tb lb (ps++q) ps.length ps.length x (by omega) (by rw[List.length_append];omega) hn).mono ?_
  rintro e X' ⟨rfl,T',hx',hM⟩
  rw[List.take_left' rfl] at hx'
  exact⟨rfl,C2 hk a hR hM hx'⟩
theorem EZ (h:gA R ring g N lb tb rb H ps pg rt X):
  Calls Tryz.prog 67 #[ptr rb] X fun e X'=>e=.returned (.int .i64 ps.length)∧X'=X:=by
 have c0:=h.cell
 have HI:=aa h
 clear h
 go_enter Tryz.func67,Tryz.ntmps67
 unfold ptr
 go_wp2_with fail
 refine (K7 HI.out.c).mono ?_
 rintro e X' ⟨rfl,rfl⟩
 go_wp2
 go_ret
 exact⟨rfl,rfl⟩
theorem E0 (h:gA R ring g N lb tb rb H ps' bN rt' X) (hp:ps<+:ps') (hn:ps'.length≤90000000) (hr:Rm.b8 (Wl.along H (Tx.lZ ps)) pg rt) (hl:1≤pg.length):
  Calls Tryz.prog 69 #[ptr rb,.int .i64 ps.length] X fun e X'=>e=.returned (.tuple #[])∧gA R ring g N lb tb rb H ps pg rt X'∧aj (fun k=>¬R k) X X':=by
 have c0:=h.cell
 have HI:=aa h
 have HP:=aa (And.intro hp (And.intro hn (And.intro hr hl)))
 clear h hp hn hr hl
 go_enter Tryz.func69,Tryz.ntmps69
 unfold ptr
 go_wp2_with fail
 refine (K8 HI.out.c HP.out.1 HP.out.2.1).mono ?_
 rintro e X' ⟨rfl,hc,hb⟩
 have HE:=aa (show gA R ring g N lb tb rb H ps pg rt X'∧aj (fun k=>¬R k) X X' from⟨⟨hc,HI.out.blk.but hb (fun hn=>hn HI.out.rr),HI.out.rr,HP.out.2.2.1,fun p hm=>HI.out.ins p (by obtain⟨q,e⟩:=HP.out.1;rw[←e];exact List.mem_append.2 (.inl hm)),HP.out.2.2.2⟩,hb⟩)
 clear hc hb
 go_wp2
 refine bodyPost_end (results_none rfl _ _ _) rfl ?_
 exact⟨rfl,HE.out⟩
end
def eC (pg:List (Option Wl.Text)) (num:Nat) (bE:List (Tr.Tx×Tr.Tx)) (pages:List Nat):Prop:=
 (num=0∧bE=[]∧pages=[])∨∃(k:Nat) (t:Tr.E (k+1)) (page:Nat),num=page+1∧(Tr.hd t).page=some page∧k≤15∧bM pg (k+1) t∧Tr.Ok (k+1) [] none t∧bE=Tr.bE k (Tr.its t)∧pages=Tr.bg (k+1) t∧pages.Nodup
structure Cj (pg bN:List (Option Wl.Text)) (pages pages':List Nat):Prop where
 len:bN.length=pg.length
 same:∀x,x∉pages→x∉pages'→bN.getD x none=pg.getD x none
 left:∀x∈pages,x∉pages'→bN.getD x none=none
 iF:∀x∈pages',x∉pages→pg.getD x none=none
 used:Rm.used bN+pages.length=Rm.used pg+pages'.length
structure Ah (pg bN:List (Option Wl.Text)) (l:List Nat):Prop where
 len:bN.length=pg.length
 at_:∀x,bN.getD x none=if x∈l then none else pg.getD x none
 used:Rm.used bN+l.length=Rm.used pg
theorem Ah.next {pg bN:List (Option Wl.Text)} {l:List Nat} {x:Nat} (h:Ah pg bN l) (hx:(bN.getD x none).isSome=true):Ah pg (bN.set x none) (l++[x]):=by
 have hl:=aY hx
 refine⟨by rw[List.length_set];exact h.len,fun y=> ?_, ?_⟩
 ·rw[eS hl,h.at_ y]
  by_cases e:y=x
  ·subst e;simp
  ·rw[if_neg e]
   by_cases hy:y∈l
   ·rw[if_pos hy,if_pos (List.mem_append.2 (.inl hy))]
   ·rw[if_neg hy,if_neg (by simp[hy,e])]
 ·have h1:=tP (pg:=bN) (p:=x) (o:=none) hl
  rw[if_pos hx] at h1
  have h2:=h.used
  rw[List.length_append]
  simp at h1 ⊢
  omega
theorem E2 {pg dX kE:List (Option Wl.Text)} {pages pages' sp al:List Nat} (h:fL pg dX pages' al) (hp:(pages'++sp).Perm (pages++al)) (hf:Ah dX kE sp) (hn:pages.Nodup) (ht:∀x∈pages,(pg.getD x none).isSome=true):
  Cj pg kE pages pages'∧(pages'++sp).Nodup∧∀x∈pages',kE.getD x none=dX.getD x none:=by
 have hnd:(pages'++sp).Nodup:=(hp.nodup_iff).2 (List.nodup_append.2 ⟨hn,h.nd,fun a ha b hb e=>by
  subst e
  have:=ht a ha
  rw[(h.free a hb).1] at this;cases this⟩)
 have hd:=(List.nodup_append.1 hnd).2.2
 refine⟨⟨hf.len.trans h.len,fun x h1 h2=> ?_,fun x h1 h2=> ?_,fun x h1 h2=> ?_, ?_⟩,hnd,fun x hx=> ?_⟩
 ·rw[hf.at_ x]
  by_cases hs:x∈sp
  ·rw[if_pos hs]
   have:=(hp.mem_iff (a:=x)).1 (List.mem_append.2 (.inr hs))
   rcases List.mem_append.1 this with h3|h3
   ·exact absurd h3 h1
   ·exact (h.free x h3).1.symm
  ·rw[if_neg hs];exact h.same x h2
 ·have:=(hp.mem_iff (a:=x)).2 (List.mem_append.2 (.inl h1))
  rcases List.mem_append.1 this with h3|h3
  ·exact absurd h3 h2
  ·rw[hf.at_ x,if_pos h3]
 ·have:=(hp.mem_iff (a:=x)).1 (List.mem_append.2 (.inl h1))
  rcases List.mem_append.1 this with h3|h3
  ·exact absurd h3 h2
  ·exact (h.free x h3).1
 ·have h1:=hf.used
  have h2:=h.used
  have h3:=hp.length_eq
  rw[List.length_append,List.length_append] at h3
  omega
 ·rw[hf.at_ x,if_neg fun hs=>hd x hx x hs rfl]
theorem dH:∀{l:List Nat} {k n:Nat},l.getD k 0=n→k<l.length→l.set k n=l
 |[],_,_,_,h=>by cases h
 |a::l,0,n,h,_=>by
  have h:a=n:=h
  rw[h];rfl
 |a::l,k+1,n,h,hl=>by
  show a::l.set k n=a::l
  rw[dH (l:=l) h (by simpa using hl)]
section
variable {E:Ev} {X0 X X' V:World} {R0 R R':Nat→Prop} {ps:List (Nat×List UInt8)} {pg:List (Option Wl.Text)} {rt:List Nat} {M M':Nat→Option NV} {k q sb:Nat} {sv:Value} {tgt:List (Tr.Tx×Tr.Tx)} {pages sp:List Nat}
def iR (E:Ev) (X0:World) (R0:Nat→Prop) (ps:List (Nat×List UInt8)) (pg:List (Option Wl.Text)) (rt:List Nat) (tgt:List (Tr.Tx×Tr.Tx)) (pages:List Nat) (c:Int) (X':World):Prop:=
 c=0∧∃R' M' ps' bN num pages',TS E X0 R0 R' ps' bN (rt.set E.place num) M' X'∧ps'.length≤ps.length+30000∧eC bN num tgt pages'∧Cj pg bN pages pages'
def YQ (E:Ev) (X0:World) (R0:Nat→Prop) (rt:List Nat) (ps:List (Nat×List UInt8)) (pg:List (Option Wl.Text)) (sb:Nat) (tgt:List (Tr.Tx×Tr.Tx)) (pages:List Nat) (num:Nat) (a:Option Addr) (L i:Nat) (X:World):Prop:=
 ∃R M ps2 dX kE sp al pages' c,TS E X0 R0 R ps2 kE rt M X∧R sb∧L=sp.length∧i≤L∧ps2.length≤ps.length+17000+2*i∧fL pg dX pages' al∧(pages'++sp).Perm (pages++al)∧eC dX num tgt pages'∧Ah dX kE (sp.take i)∧
  aG X sb 132 [ptr E.tb,.slice a L c]∧(0<L→∃g o,a=some ⟨g,o,none⟩∧aJ (cO .i64) X g o (ew sp)∧R g)
theorem qL {pg bN:List (Option Wl.Text)} {num:Nat} {l:List (Tr.Tx×Tr.Tx)} {pages:List Nat} (h:eC pg num l pages) (hs:∀x∈pages,bN.getD x none=pg.getD x none):eC bN num l pages:=by
 rcases h with h|⟨k,t,page,h1,h2,h3,h4,h5,h6,h7,h8⟩
 ·exact .inl h
 ·exact .inr ⟨k,t,page,h1,h2,h3,dz h4 (by rw[←h7];exact hs),h5,h6,h7,h8⟩
theorem eT {pg:List (Option Wl.Text)} {num:Nat} {l:List (Tr.Tx×Tr.Tx)} {pages:List Nat} (h:eC pg num l pages):∀x∈pages,(pg.getD x none).isSome=true:=by
 have hst:∀{k:Nat} {t:Tr.E k},bM pg k t→∀x∈Tr.bg k t,(pg.getD x none).isSome=true:=by
  intro k
  induction k with
  |zero=>intro t _ x hx;cases hx
  |succ k ih=>
   intro t hs x hx
   obtain⟨⟨page,hp,_,uQ⟩,_,hk⟩:=hs
   rw[Tr.aK,hp] at hx
   rcases List.mem_cons.1 hx with rfl|hx
   ·rw[uQ];rfl
   ·obtain⟨y,hy,hxy⟩:=List.mem_flatMap.1 hx
    exact ih (hk y hy) x hxy
 rcases h with⟨_,_,rfl⟩|⟨k,t,page,_,_,_,h4,_,_,rfl,_⟩
 ·intro x hx;cases hx
 ·exact hst h4
theorem E3 {pg:List (Option Wl.Text)} {num:Nat} {l:List (Tr.Tx×Tr.Tx)} {pages:List Nat} (h:eC pg num l pages):num≤pg.length:=by
 rcases h with⟨rfl,_⟩|⟨k,t,page,rfl,hp,_,hs,_⟩
 ·exact Nat.zero_le _
 ·obtain⟨⟨Mq,hp',_,uQ⟩,_⟩:=hs
  rw[hp] at hp'
  cases hp'
  exact aY (by rw[uQ];rfl)
theorem K9 (bY:E.place<16) (hn:pages.Nodup) (ht:∀x∈pages,(pg.getD x none).isSome=true) (hrl:rt.length=16) (hq:ps.length≤70000000) (ku:pg.length≤4096) {G:Int→World→Prop} (hG:∀c X,iR E X0 R0 ps pg rt tgt pages c X→G c X):
  Vz sb E.tb E.rb E.place (YQ E X0 R0 rt ps pg sb tgt pages) G:=by
 refine⟨?_, ?_⟩
 ·rintro num a L i X ⟨R,M,ps2,dX,kE,sp,al,pages',c,hts,hsb,rfl,hi,hl,hpt,rJ,hmo,hfr,hblk,q_⟩ hlt
  obtain⟨g,o,rfl,Ac,hg⟩:=q_ (by omega)
  have hall:(pages'++sp).Nodup:=(rJ.nodup_iff).2 (List.nodup_append.2 ⟨hn,hpt.nd,fun a ha b hb e=>by
   subst e
   have:=ht a ha
   rw[(hpt.free a hb).1] at this;cases this⟩)
  have N9:=(List.nodup_append.1 hall).2.1
  have hx1:(dX.getD sp[i] none).isSome=true:=by
   have:=(rJ.mem_iff (a:=sp[i])).1 (List.mem_append.2 (.inr (List.getElem_mem hlt)))
   rcases List.mem_append.1 this with h3|h3
   ·exact hpt.keeps (ht _ h3)
   ·exact hpt.iF _ (.inr h3)
  have hx2:(kE.getD sp[i] none).isSome=true:=by
   rw[hfr.at_,if_neg]
   ·exact hx1
   ·intro hm
    obtain⟨j,hj,e⟩:=List.mem_iff_getElem.1 hm
    rw[List.length_take] at hj
    rw[List.getElem_take] at e
    have:=(List.nodup_iff_pairwise_ne.1 N9)
    have h9:=List.pairwise_iff_getElem.1 this j i (by omega) hlt (by omega)
    exact h9 e
  have hxl:=aY hx2
  have N_:sp.length≤4096:=by
   refine Nat.le_trans (cT N9 fun x hx=> ?_) ku
   have:=(rJ.mem_iff (a:=x)).1 (List.mem_append.2 (.inr hx))
   rcases List.mem_append.1 this with h3|h3
   ·exact aY (ht x h3)
   ·exact (hpt.free x h3).2
  have hcell:X.cell? ⟨g,o+i,none⟩=some (.int .i64 ((sp[i]:Nat):Int)):=by
   have hl2:i<(ew sp).length:=by unfold ew;rw[List.length_map];exact hlt
   have:=Ac.at i 0 (by decide) hl2 (.int .i64 ((ew sp)[i])) rfl
   have e:(ew sp)[i]?=some ((sp[i]:Nat):Int):=by unfold ew;rw[List.getElem?_map,List.getElem?_eq_getElem hlt];rfl
   rw[List.getElem?_eq_getElem hl2] at e
   rw[Option.some.inj e,show o+(i*(cO .i64).size+0)=o+i from by show o+(i*1+0)=o+i;omega] at this
   exact this
  refine⟨hblk.cell (j:=0) rfl,hts.tree.cell (j:=0) rfl,g,o,(sp[i]:Nat),rfl,hcell, ?_⟩
  refine (Eg hts.rm (sp[i]:Nat) (by omega)).mono ?_
  rintro e X' ⟨rfl,N7,⟨CR,_⟩,G5,cC⟩
  have hrf:Rm.refuse kE (sp[i]:Nat)=0:=by
   unfold Rm.refuse
   rw[if_pos ⟨by omega,by omega⟩,Int.toNat_natCast,if_pos hx2]
  have Sy:Rm.oL kE (sp[i]:Nat)=kE.set sp[i] none:=by
   unfold Rm.oL
   rw[if_pos hrf,Int.toNat_natCast]
  rw[Sy] at G5
  refine⟨by rw[hrf],R,M,N7,dX,_,sp,al,pages',c,hts.sP G5 cC,hsb,rfl,hlt,by omega,hpt,rJ,hmo, ?_,hblk.but cC fun h=>h hsb,fun _=>⟨g,o,rfl,Ac.but cC fun h=>h hg,hg⟩⟩
  rw[List.take_succ_eq_append_getElem hlt]
  exact hfr.next hx2
 ·rintro num a L X ⟨R,M,ps2,dX,kE,sp,al,pages',c,hts,hsb,rfl,hi,hl,hpt,rJ,hmo,hfr,hblk,q_⟩
  rw[List.take_length] at hfr
  obtain⟨ht1,hnd,hsame⟩:=E2 hpt rJ hfr hn ht
  have Oa:=qL hmo hsame
  have hb0:Below X.heap.size X X.drew:=(Below.refl _ X).drew
  have VY:=hts.still hb0 (fun _ h=>h) (fun _ h=>.inl h)
  have N_:sp.length≤4096:=by
   refine Nat.le_trans (cT (List.nodup_append.1 hnd).2.1 fun x hx=> ?_) ku
   have:=(rJ.mem_iff (a:=x)).1 (List.mem_append.2 (.inr hx))
   rcases List.mem_append.1 this with h3|h3
   ·exact aY (ht x h3)
   ·exact (hpt.free x h3).2
  refine⟨hblk.cell (j:=0) rfl,hts.tree.cell (j:=0) rfl,hts.tree.cell (j:=1) rfl, ?_⟩
  refine (p5 VY.rm E.place bY).mono ?_
  rintro e X' ⟨rfl,hb⟩
  have Pb:Below X.heap.size X X':=hb0.trans hb
  have mE:=hts.still Pb (fun _ h=>h) (fun _ h=>.inl h)
  have Iv:=hblk.below Pb hblk.lt
  refine⟨rt.getD E.place 0,rfl,Iv.cell (j:=0) rfl,mE.tree.cell (j:=0) rfl,mE.tree.cell (j:=1) rfl,fun he=> ?_,fun hne=> ?_⟩
  ·refine hG _ _ ⟨rfl,R,M,ps2,kE,num,pages', ?_,by omega,Oa,ht1⟩
   rw[dH he (by omega)]
   exact mE
  ·have aQ:Below X'.heap.size X' X'.drew:=(Below.refl _ X').drew
   have tT:=mE.still aQ (fun _ h=>h) (fun _ h=>.inl h)
   have Ai:=Iv.below aQ Iv.lt
   have hnm:=E3 Oa
   have Qp:=ht1.len
   refine (xw tT.rm E.place num bY (by omega) (by omega)).mono ?_
   rintro e eu ⟨rfl,N7,⟨CR,_⟩,G5,cC⟩
   have Ck:=tT.sP G5 cC
   have Ip:=Ai.but cC fun h=>h hsb
   exact⟨rfl,Ip.cell (j:=0) rfl,Ck.tree.cell (j:=0) rfl,Ck.tree.cell (j:=1) rfl,hG _ _ ⟨rfl,R,M,N7,kE,num,pages',Ck,by omega,Oa,ht1⟩⟩
end
structure Way (sb tb rb pr L mk:Nat) (q:Nat→Nat) (P:Nat→World→Prop) (N:Value→World→Prop) (G:Int→World→Prop):Prop where
 cells:∀i X,P i X→∀j,j≤i→X.cell? ⟨pr,j,none⟩=some (.pointer (some ⟨q j,0,none⟩))
 drew:∀i X,P i X→P i X.drew
 step:∀i X,P (i+1) X→Calls Tryz.prog 65 #[ptr sb,ptr (q i),ptr (q (i+1))] X fun e X'=>e=.returned (.int .i64 0)∧P i X'
 top:∀X,P 0 X→Calls Tryz.prog 66 #[ptr sb,ptr (q 0)] X fun e X'=>∃v,e=.returned (.tuple #[v,.int .i64 0])∧N v X'
 mark:∀v X,N v X→X.cell? ⟨tb,0,none⟩=some (.pointer (some ⟨rb,0,none⟩))∧Calls Tryz.prog 67 #[ptr rb] X fun e X'=>e=.returned (.int .i64 mk)∧X'=X
 store:∀v X,N v X→Calls Tryz.prog 68 #[ptr sb,v] X fun e X'=>(e=.returned (.int .i64 0)∧G 0 X')∨(e=.returned (.int .i64 4)∧X'.cell? ⟨tb,0,none⟩=some (.pointer (some ⟨rb,0,none⟩))∧Calls Tryz.prog 69 #[ptr rb,.int .i64 mk] X' fun e eu=>e=.returned (.tuple #[])∧G 4 eu)
section
variable {w:World}
theorem Aj {tb rb pr L cap mk:Nat} {q:Nat→Nat} {P:Nat→World→Prop} {N:Value→World→Prop} {G:Int→World→Prop} (hW:Way w.heap.size tb rb pr (L+1) mk q P N G) (hL:L≤100) (Cl:w.cell? ⟨pr,L,none⟩=some (.pointer (some ⟨q L,0,none⟩))) (hq:∃v,w.cell? ⟨q L,7,none⟩=some v) (hf:w.frozen? ⟨q L,7,none⟩=false)
  (hP:∀W,W=(w.setCell ⟨q L,7,none⟩ (.bool true)).alloc (.cells #[.pointer (some ⟨tb,0,none⟩),.slice none 0 0] 132)→P L W):
  Calls Tryz.prog 35 #[ptr tb,.slice (some ⟨pr,0,none⟩) (L+1) cap] w fun e w'=>∃c,e=.returned (.int .i64 c)∧G c w':=by
 have HW:=aa hW
 have HP:=aa hP
 obtain⟨v7,c7⟩:=hq
 have C4:(L:Int)≤100:=by omega
 have q1:IntKind.i64.wrap ((L:Int)+1-1)=L:=by rw[IntKind.wrap_i64];omega
 have e1:(L:Int)+1-1=L:=by omega
 have bY:=World.block_lt_of_cell? w ⟨pr,L,none⟩ Cl
 have Da:=World.block_lt_of_cell? w ⟨q L,7,none⟩ c7
 clear hW hP hL
 unfold ptr at HW ⊢
 go_enter Tryz.func35,Tryz.ntmps35
 go_wp2_with fail
 obtain⟨W0,kC⟩:∃W0,W0=(w.setCell ⟨q L,7,none⟩ (.bool true)).alloc (.cells #[.pointer (some ⟨tb,0,none⟩),.slice none 0 0] 132):=⟨_,rfl⟩
 have HP0:=aa (HP.out W0 kC)
 rw[←kC]
 clear kC Cl c7 hf
 go_loopw [6,7] (fun kv _ wr=>∃i:Nat,i≤L∧kv=.int .i64 i∧Hid (P i wr)) (fun kv _ _=>(RowKit.intOf kv).toNat)
 case atStart=>exact⟨L,Nat.le_refl _,rfl,HP0⟩
 case round=>
  obtain⟨i,hi,rfl,hP⟩:=hrel
  cases i with
  |zero=>
   have hw:¬((0:Nat):Int)>0:=by decide
   have a0:=HW.out.cells 0 _ hP.out 0 (Nat.le_refl _)
   have HT:=aa (HW.out.top _ hP.out)
   have G3:(0:Int)<L+1:=by omega
   go_wp2_with fail
   refine HT.out.mono ?_
   rintro e w2 ⟨v,rfl,hN⟩
   obtain⟨t0,hm⟩:=HW.out.mark _ _ hN
   have HM:=aa hm
   have HS:=aa (HW.out.store _ _ hN)
   clear hm hN a0
   go_wp2_with fail
   refine HM.out.mono ?_
   rintro e w3 ⟨rfl,rfl⟩
   go_wp2_with fail
   refine HS.out.mono ?_
   rintro e w4 (⟨rfl,hG⟩|⟨rfl,t4,hb⟩)
   ·have HG:=aa hG
    clear hG t0
    go_wp2_with fail
    go_ret
    exact⟨0,rfl,HG.out⟩
   ·have HB:=aa hb
    clear hb t0
    go_wp2_with fail
    refine HB.out.mono ?_
    rintro e w5 ⟨rfl,hG⟩
    have HG:=aa hG
    clear hG
    go_wp2_with fail
    go_ret
    exact⟨4,rfl,HG.out⟩
  |succ i=>
   have hw:((i+1:Nat):Int)>0:=by omega
   have a0:=HW.out.cells (i+1) _ hP.out i (by omega)
   have a1:=HW.out.cells (i+1) _ hP.out (i+1) (Nat.le_refl _)
   have YR:=HW.out.drew _ _ hP.out
   have HC:=aa (HW.out.step _ _ YR)
   have SC:(i:Int)<L+1:=by omega
   have aaD:(i:Int)+1<L+1:=by omega
   have hsub:((i+1:Nat):Int)-1=i:=by omega
   have wi:IntKind.i64.wrap (i:Int)=i:=by rw[IntKind.wrap_i64];omega
   have hi0:(0:Int)≤i:=by omega
   have hi1:(0:Int)≤(i:Int)+1:=by omega
   clear YR
   go_wp2_with fail
   go_wp2_with (refine wp_region_any (by kernel_rfl) ?_;refine Hid.out ?_)
   refine aa ?_
   try (change wpAny _ _ _ _ _ _ _ (World.drew _))
   refine tk 0 ?_
   refine tk 1 ?_
   refine tk 2 ?_
   refine tk 3 ?_
   refine tk 4 ?_
   refine tk 6 ?_
   refine tk 7 ?_
   refine tk 8 ?_
   try simp only[Act.put,List.setIfInBounds_toArray,List.set_cons_succ,List.set_cons_zero]
   refine rd [5,9] (AllReady.cons rfl (fun K hK=> ?_) (rn fun K hK=> ?_))
   focus
    go_simp
    refine hK _ _ ?_;clear hK K
    refine rd [9] (rn fun K hK=> ?_)
    go_simp
    refine hK _ _ ?_;clear hK K
    refine rd [10] (rn fun K hK=> ?_)
    go_simp
    refine HC.out.mono ?_
    rintro e w3 ⟨rfl,Rt⟩
    have YS:=aa Rt
    clear Rt
    refine hK _ _ ?_;clear hK K
   rotate_left
   focus
    go_simp
    refine hK _ _ ?_;clear hK K
    refine rd [5] (rn fun K hK=> ?_)
    go_simp
    refine hK _ _ ?_;clear hK K
    refine rd [10] (rn fun K hK=> ?_)
    go_simp
    refine HC.out.mono ?_
    rintro e w3 ⟨rfl,Rt⟩
    have YS:=aa Rt
    clear Rt
    refine hK _ _ ?_;clear hK K
   all_goals
    refine tk 11 ?_
    refine wpAny_done (by kernel_rfl) ?_ _
    clear a0 a1 hP hw
    go_wp2_with fail
    go_roundw
    case rel=>exact⟨i,Nat.le_of_succ_le hi,by go_num,YS⟩
    case measure=>simp[RowKit.intOf]
end
end Go.Proofs.YtloekpcncjocaaaGreatDoor
namespace Go.Proofs.YtloekpcncjocaaaGreatDoor
namespace Tr
theorem ya {α:Type} (f:α→Nat) (A:Nat) (hA:2≤A) (P:α→α→Prop) (hP:∀a b,P a b→A≤f a+f b):∀(l:List α),(∀a∈l,1≤f a)→l.Pairwise (fun _ _=>True)→(∀(L R:List α) a b,l=L++a::b::R→P a b)→A*l.length≤2*(l.map f).sum+(A-2)
 |[],_,_,_=>by simp
 |[a],h1,_,_=>by
  have:=h1 a List.mem_cons_self
  simp only[List.length_singleton,List.map_cons,List.map_nil,List.sum_cons,List.sum_nil]
  omega
 |a::b::r,h1,_,h2=>by
  have ih:=ya f A hA P hP r (fun c hc=>h1 c (List.mem_cons_of_mem _ (List.mem_cons_of_mem _ hc))) (List.pairwise_iff_getElem.2 fun _ _ _ _ _=>trivial) (fun L R c d e=>h2 (a::b::L) R c d (by rw[e];rfl))
  have hab:=hP a b (h2 [] r a b rfl)
  simp only[List.length_cons,List.map_cons,List.sum_cons]
  have e:A*(r.length+1+1)=A*r.length+2*A:=by rw[Nat.mul_succ,Nat.mul_succ];omega
  omega
theorem wA {α:Type} {O:Tx→Option Tx→α→Prop} {C:α→Tx→α→Prop} {h:Option Tx} {l L R:List (Tx×α)} {a b:Tx×α} (s:bT O C h l) (e:l=L++a::b::R):O a.1 (some b.1) a.2∧(∃u,O b.1 u b.2)∧C a.2 b.1 b.2∧b.1.length≤96:=by
 subst e
 have s2:=bT.behind s
 refine⟨s2.1, ?_,s2.2.1.2.2,s2.2.1.2.1⟩
 cases R with
 |nil=>exact⟨_,s2.2.2⟩
 |cons c R=>exact⟨_,s2.2.2.1⟩
theorem yc {k:Nat}:∀{l:List (Tx×E (k+1))},(∀p∈l,p.1.length≤96)→sz (k+1) l≤100*l.length
 |[],_=>Nat.zero_le _
 |p::l,h=>by
  have ih:=yc (l:=l) fun q hq=>h q (List.mem_cons_of_mem _ hq)
  have:=h p List.mem_cons_self
  rw[sz,cw,List.length_cons]
  omega
theorem Dg {k:Nat} {lo:Tx} {h:Option Tx} {n:E (k+2)} (o:Ok (k+2) lo h n):sz (k+1) (its n)+96≤100*(its n).length:=by
 obtain⟨h1,_,h3,h4⟩:=o
 rw[b7] at h4
 cases hi:its n with
 |nil=>exact absurd hi h1
 |cons a l=>
  rw[hi] at h4 h3
  have ha:a.1=[]:=by
   have:=h3 a rfl
   rw[if_neg (Nat.succ_ne_zero k)] at this
   exact this
  have hl:∀p∈l,p.1.length≤96:=bT.lens (a:=(lo,a.2)) h4
  have:=yc hl
  rw[sz,cw,ha,List.length_cons,List.length_nil]
  omega
theorem Cm {k:Nat} {lo x:Tx} {h h':Option Tx} {a b:E (k+2)} (oa:Ok (k+2) lo h a) (ob:Ok (k+2) x h' b) (hx:x.length≤96) (hc:cut (k+2) a x b):7≤(its a).length+(its b).length:=by
 have h1:=Dg oa
 have h2:=Dg ob
 rw[rB] at hc
 omega
theorem Dh {l:List (Tx×E 0)} (h:∀p∈l,gh 0 p≤154):sz 0 l≤154*l.length:=by
 induction l with
 |nil=>exact Nat.zero_le _
 |cons p l ih=>
  have:=ih fun q hq=>h q (List.mem_cons_of_mem _ hq)
  have:=h p List.mem_cons_self
  rw[sz,List.length_cons]
  omega
theorem E4 {lo x:Tx} {h h':Option Tx} {a b:E 1} (oa:Ok 1 lo h a) (ob:Ok 1 x h' b) (hc:cut 1 a x b):4≤(its a).length+(its b).length:=by
 have h1:=Dh (Rw.size oa.2.2)
 have h2:=Dh (Rw.size ob.2.2)
 rw[rA] at hc
 omega
theorem Iw {k:Nat} {lo:Tx} {h:Option Tx} {n:E (k+1)} (o:Ok (k+1) lo h n):1≤(its n).length:=List.length_pos_iff.2 o.1
theorem E5 {k:Nat} {h:Option Tx} {l:List (Tx×E (k+2))} (s:bT (Ok (k+2)) (cut (k+2)) h l):7*l.length≤2*(l.map fun p=>(its p.2).length).sum+5:=
 ya (fun p:Tx×E (k+2)=>(its p.2).length) 7 (by decide) (fun a b=>7≤(its a.2).length+(its b.2).length) (fun _ _ h=>h) l (fun a ha=>by obtain⟨u,hu⟩:=bT.each s a ha;exact Iw hu) (List.pairwise_iff_getElem.2 fun _ _ _ _ _=>trivial) fun L R a b e=>by
  obtain⟨h1,⟨u,h2⟩,h3,h4⟩:=wA s e
  exact Cm h1 h2 h4 h3
theorem Iy {h:Option Tx} {l:List (Tx×E 1)} (s:bT (Ok 1) (cut 1) h l):4*l.length≤2*(l.map fun p=>(its p.2).length).sum+2:=
 ya (fun p:Tx×E 1=>(its p.2).length) 4 (by decide) (fun a b=>4≤(its a.2).length+(its b.2).length) (fun _ _ h=>h) l (fun a ha=>by obtain⟨u,hu⟩:=bT.each s a ha;exact Iw hu) (List.pairwise_iff_getElem.2 fun _ _ _ _ _=>trivial) fun L R a b e=>by
  obtain⟨h1,⟨u,h2⟩,h3,_⟩:=wA s e
  exact E4 h1 h2 h3
theorem yd {k:Nat}:∀(l:List (Tx×E (k+1))),(bE (k+1) l).length=(l.map fun p=>(bE k (its p.2)).length).sum
 |[]=>rfl
 |p::l=>by
  rw[show p::l=[p]++l from rfl,aS,cD,List.length_append,yd l]
  simp
theorem mm {k:Nat} (x:Tx) (f:E (k+1)→Nat) (l:List (Tx×E (k+1))):((aN x l).map fun p=>f p.2).sum=(l.map fun p=>f p.2).sum∧(aN x l).length=l.length:=by cases l<;>exact⟨rfl,rfl⟩
theorem Ak (n:E 1):cnt 1 n=1:=by
 have:∀l:List (Tx×E 0),(l.map fun p=>cnt 0 p.2).sum=0:=by
  intro l
  induction l with
  |nil=>rfl
  |cons a l ih=>rw[List.map_cons,List.sum_cons,ih];rfl
 show 1+_=1
 rw[this]
theorem Di {α:Type} (f g h e:α→Nat) (B c d:Nat):∀{l:List α},(∀a∈l,f a+B*e a≤c*g a+h a+d)→(l.map f).sum+B*(l.map e).sum≤c*(l.map g).sum+(l.map h).sum+d*l.length
 |[],_=>by simp
 |a::l,hh=>by
  have ih:=Di f g h e B c d (l:=l) fun b hb=>hh b (List.mem_cons_of_mem _ hb)
  have:=hh a List.mem_cons_self
  simp only[List.map_cons,List.sum_cons,List.length_cons,Nat.mul_add,Nat.mul_one]
  omega
theorem Cn (k:Nat):k≤2^k:=Nat.le_of_lt Nat.lt_two_pow_self
theorem nJ:∀(k:Nat) {lo:Tx} {h:Option Tx} {n:E (k+2)},its n≠[]→Rw (k+1) lo h (its n)→
  cnt (k+2) n+3*2^k*(its n).length≤2*(bE (k+1) (its n)).length+k+3*2^k∧2^k*(its n).length+1≤cnt (k+2) n+2^k
 |0,lo,h,n,hne,⟨_,s⟩=>by
  rw[b7] at s
  have h1:=Iy s
  have VZ:((aN lo (its n)).map fun p=>(its p.2).length).sum=((its n).map fun p=>(its p.2).length).sum:=(mm lo (fun x:E 1=>(its x).length) (its n)).1
  have V_:(aN lo (its n)).length=(its n).length:=(mm lo (fun x:E 1=>(its x).length) (its n)).2
  rw[VZ,V_] at h1
  have hc:cnt 2 n=1+(its n).length:=by
   show 1+_=_
   have:∀l:List (Tx×E 1),(l.map fun p=>cnt 1 p.2).sum=l.length:=by
    intro l
    induction l with
    |nil=>rfl
    |cons a l ih=>rw[List.map_cons,List.sum_cons,ih,Ak,List.length_cons];omega
   rw[this]
  have hp:=yd (its n)
  have hp2:((its n).map fun p=>(bE 0 (its p.2)).length).sum=((its n).map fun p=>(its p.2).length).sum:=rfl
  have hpos:1≤(its n).length:=List.length_pos_iff.2 hne
  rw[hc,hp,hp2]
  simp only[Nat.pow_zero,Nat.mul_one]
  omega
 |k+1,lo,h,n,hne,⟨_,s⟩=>by
  rw[b7] at s
  have h1:=E5 s
  have VZ:((aN lo (its n)).map fun p=>(its p.2).length).sum=((its n).map fun p=>(its p.2).length).sum:=(mm lo (fun x:E (k+2)=>(its x).length) (its n)).1
  have V_:(aN lo (its n)).length=(its n).length:=(mm lo (fun x:E (k+2)=>(its x).length) (its n)).2
  rw[VZ,V_] at h1
  have hpos:1≤(its n).length:=List.length_pos_iff.2 hne
  have hall:∀p∈its n,its p.2≠[]∧∃lo h,Rw (k+1) lo h (its p.2):=by
   intro p hp
   have hq:∃q∈aN lo (its n),q.2=p.2:=by
    cases hi:its n with
    |nil=>rw[hi] at hp;cases hp
    |cons a l=>
     rw[hi] at hp
     rcases List.mem_cons.1 hp with rfl|hp
     ·exact⟨_,List.mem_cons_self,rfl⟩
     ·exact⟨p,List.mem_cons_of_mem _ hp,rfl⟩
   obtain⟨q,hq,e⟩:=hq
   obtain⟨u,hu⟩:=bT.each s q hq
   rw[e] at hu
   exact⟨hu.1,_,_,hu.2.2⟩
  have ih:∀p∈its n,cnt (k+2) p.2+3*2^k*(its p.2).length≤2*(bE (k+1) (its p.2)).length+k+3*2^k∧2^k*(its p.2).length+1≤cnt (k+2) p.2+2^k:=fun p hp=>by
   obtain⟨g1,lo',h',g2⟩:=hall p hp
   exact nJ k g1 g2
  have hc:cnt (k+3) n=1+((its n).map fun p=>cnt (k+2) p.2).sum:=rfl
  have hp:=yd (its n)
  have u1:=Di (fun p:Tx×E (k+2)=>cnt (k+2) p.2) (fun p=>(bE (k+1) (its p.2)).length) (fun _=>0) (fun p=>(its p.2).length) (3*2^k) 2 (k+3*2^k) (l:=its n) fun p hp=>by
   have:=(ih p hp).1
   omega
  have z0:((its n).map fun _=>0).sum=0:=by
   induction its n with
   |nil=>rfl
   |cons a l ih=>rw[List.map_cons,List.sum_cons,ih]
  have l1:2^k*((its n).map fun p=>(its p.2).length).sum+(its n).length≤((its n).map fun p=>cnt (k+2) p.2).sum+2^k*(its n).length:=by
   have:∀l:List (Tx×E (k+2)),(∀p∈l,2^k*(its p.2).length+1≤cnt (k+2) p.2+2^k)→2^k*(l.map fun p=>(its p.2).length).sum+l.length≤(l.map fun p=>cnt (k+2) p.2).sum+2^k*l.length:=by
    intro l
    induction l with
    |nil=>intro _;simp
    |cons a l ih=>
     intro hl
     have e1:=ih fun p hp=>hl p (List.mem_cons_of_mem _ hp)
     have e2:=hl a List.mem_cons_self
     simp only[List.map_cons,List.sum_cons,List.length_cons,Nat.mul_add,Nat.mul_one]
     omega
   exact this _ fun p hp=>(ih p hp).2
  rw[z0] at u1
  rw[hp]
  obtain⟨D,hD⟩:∃D,(its n).length=D+1:=⟨(its n).length-1,by omega⟩
  obtain⟨S,hS⟩:∃S,((its n).map fun p=>(its p.2).length).sum=D+1+S:=⟨((its n).map fun p=>(its p.2).length).sum-(D+1),by omega⟩
  rw[hD,hS] at u1 l1 h1
  rw[hc,hD]
  have hDS:5*D≤2*S:=by omega
  have Wa:2^(k+1)=2*2^k:=by rw[Nat.pow_succ];omega
  have hk:=Cn k
  rw[Wa]
  generalize 2^k=B at*
  generalize ((its n).map fun p=>cnt (k+2) p.2).sum=C at*
  generalize ((its n).map fun p=>(bE (k+1) (its p.2)).length).sum=N at*
  have e1:5*(B*D)≤2*(B*S):=by
   have:=Nat.mul_le_mul_left B hDS
   rw[Nat.mul_left_comm,Nat.mul_left_comm B 2 S] at this
   exact this
  have e2:k*D≤B*D:=Nat.mul_le_mul_right D hk
  have f1:3*B*(D+1+S)=3*(B*D)+3*B+3*(B*S):=by rw[Nat.mul_add,Nat.mul_add,Nat.mul_assoc,Nat.mul_assoc 3 B S];omega
  have f2:(k+3*B)*(D+1)=k*D+k+3*(B*D)+3*B:=by rw[Nat.mul_succ,Nat.add_mul,Nat.mul_assoc];omega
  have f3:3*(2*B)*(D+1)=6*(B*D)+6*B:=by rw[Nat.mul_succ,show 3*(2*B)=6*B by omega,Nat.mul_assoc]
  have f4:B*(D+1+S)=B*D+B+B*S:=by rw[Nat.mul_add,Nat.mul_add];omega
  have f5:B*(D+1)=B*D+B:=Nat.mul_succ B D
  have f6:2*B*(D+1)=2*(B*D)+2*B:=by rw[Nat.mul_succ,Nat.mul_assoc]
  rw[f1,f2] at u1
  rw[f4,f5] at l1
  rw[f3,f6]
  constructor<;>omega
end Tr
end Go.Proofs.YtloekpcncjocaaaGreatDoor
