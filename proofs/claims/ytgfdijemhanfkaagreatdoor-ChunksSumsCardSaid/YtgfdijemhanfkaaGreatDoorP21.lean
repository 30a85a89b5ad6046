/- Elder texts, cut down and merged (21). -/
import Derived.Test.YtgfdijemhanfkaaGreatDoorP10
import Derived.Test.YtgfdijemhanfkaaGreatDoorP11
import Derived.Test.YtgfdijemhanfkaaGreatDoorP20
import Derived.Test.YtgfdijemhanfkaaGreatDoorP6
import Derived.Test.YtgfdijemhanfkaaGreatDoorP2
import Derived.BigRegion
import Derived.Laws.CopyOwn
import Derived.Lib.AppendZerosOnto
import Derived.Lib.Overlaps
import Derived.LaidEql
import Derived.Laws.StructEq
import Derived.BigQuiet
import Derived.Test.YtgfdijemhanfkaaGreatDoorPTk
set_option maxRecDepth 100000
set_option maxHeartbeats 8000000
namespace Go.Proofs.YtgfdijemhanfkaaGreatDoor
open _root_.Go.Proofs.Tryz
open Value renaming int→bf,string→cu,slice→cx,pointer→dr,bool→ey,tuple→ec
open IntKind renaming i64→ct,u8→eD
open Ending renaming returned→c8
open Obj renaming cells→dg
open Or renaming inr→dc,inl→cS
open Option renaming none→aK,some→av
open UInt8 renaming ofNat->az,toNat_ofNat'->bR
open List renaming length_append->aq,getElem_mem->bp,take_succ_eq_append_getElem->cz,length_cons->a_,length_nil->gd,take_of_length_le->bD,getElem?_map->cY,getElem?_eq_getElem->aI,drop_eq_getElem_cons->cE,append_assoc->aD,setIfInBounds_toArray->aC,set_cons_succ->aB,set_cons_zero->ay,length_take->aJ,length_pos_iff->d_,drop_eq_nil_of_le->gj,take_append_drop->b_,map_cons->bI,mem_map->bY,length_drop->aS,append_nil->bh
open Nat renaming le_refl->af,mod_eq_of_lt->gF,zero_le->aA,min->eV,min_eq_left->bT,zero_add->bG
open World renaming size_alloc->aY,drew->bu
open _root_.Array renaming length_toList->aU,getElem?_eq_some_iff->fY
section
open Go.RowKit Lib
def eF (i:It):List UInt8:=jh i.key i.val
def cT (level:Nat) (l:List It):List UInt8:=az (192+level)::az l.length::l.flatMap eF
theorem iC:∀l:List It,(l.flatMap eF).length=cJ l
 |[]=>rfl
 |i::l=>by rw[List.flatMap_cons,aq,iC l];show (jh i.key i.val).length+_=jY i+_;rw[iM];rfl
theorem mP (level:Nat) (l:List It):(cT level l).length=2+cJ l:=by show (l.flatMap eF).length+1+1=_;rw[iC];omega
section
variable {w w':World} {p q:Nat} {n m:NV}
theorem Bt (h:Nd w p n) (sR:n.level<=15) (H:n.its.length<=255) (B8:∀i∈n.its,i.key.length<=96/\i.val.length<=56):
  Calls prog 245 #[ptr p] w fun e w'=>e=c8 (cu (bs (cT n.level n.its)))/\Below w.heap.size w w':=by
 have c0:=h.c0;have c1:=h.c1;have ef:=h.blk.lt;have jK:(n.its.length:Int)<=255:=κ
 have Uq:(n.level:Int)<=15:=κ
 have hw1:IntKind.u8.wrap (n.level:Int)=n.level:=by have e:(n.level:Int)%2^8=n.level:=Int.emod_eq_of_lt κ κ;simp only[IntKind.wrap,IntKind.bits,IntKind.signed,e];simp
 have jy:IntKind.u8.wrap (192+(n.level:Int))=192+n.level:=by have e:(192+(n.level:Int))%2^8=192+n.level:=Int.emod_eq_of_lt κ κ;simp only[IntKind.wrap,IntKind.bits,IntKind.signed,e];simp
 have rP:IntKind.u8.wrap (n.its.length:Int)=n.its.length:=by have e:(n.its.length:Int)%2^8=n.its.length:=Int.emod_eq_of_lt κ κ;simp only[IntKind.wrap,IntKind.bits,IntKind.signed,e];simp
 have HN:=aa h;have HS:=aa B8;have pN:=aa H;have HV:=aa sR;obtain⟨L,P⟩:=ξx n.its.length;rw[<-P] at c1 jK rP;have E:=aa P;clear h B8 H sR P;go_enter func245,ntmps245;unfold ptr;go_wp2_with fail
 go_region
 obtain⟨W,F⟩:=ξx ((w.alloc (dg #[bf eD (192+(n.level:Int)),bf eD (L:Int)] 5)).drew);have a:Below w.heap.size w W:=by rw[F];exact ((Below.refl _ w).alloc (af _) _).drew
 have Wp:(2:Nat)<=maxLen:=ξ
 have Q:=aa (show iZ w.heap.size W (cx (av ⟨w.heap.size,0,aK⟩) 2 2) [az (192+n.level),az L]/\Below w.heap.size w W by
  refine⟨?_,a⟩;refine⟨rfl,dc ⟨w.heap.size,2,#[bf eD (192+(n.level:Int)),bf eD (L:Int)],rfl,af _,by rw[F];exact heap_alloc_new w _,af _,Wp,rfl, ?_⟩⟩;show [Value.int eD (192+(n.level:Int)),bf eD (L:Int)]=[bU _,bU _];unfold bU;rw[bR,bR,gF (by have:=HV.o;omega),gF (by have:=pN.o;have:=E.o;omega)];simp)
 have d0:=(a.cell (p:=⟨p,0,aK⟩) ef).trans c0;have d1:=(a.cell (p:=⟨p,1,aK⟩) ef).trans c1;rw[<-F];obtain⟨U,S⟩:=ξx w.heap.size;rw[<-S] at Q |-;have l:=aa S;clear F a c0 c1 S Wp;go_wp2
 go_loopw [3,24] (fun u T wr=>∃j:Nat,j<=L/\T=bf ct j/\Hid (iZ U wr u (az (192+n.level)::az L::(n.its.take j).flatMap eF))/\Hid (Below U w wr)) (fun _ T _=>L-(RowKit.intOf T).toNat)
 case atStart=>exact⟨0,aA _,rfl,aa Q.o.1,aa Q.o.2⟩
 case round=>
  obtain⟨j,hj,rfl,r,s⟩:=hrel;by_cases b:j<L
  ·have pM:(j:Int)<L:=κ;have c:j<n.its.length:=(by rw[<-E.o];exact b);obtain⟨a0,a1,a2⟩:=bt (eX HN.o.row (by rw[<-l.o];exact s.o)) j c;have he:=HS.o _ (bp c);have I:=aa (show j<L/\(n.its.take (j+1)).flatMap eF=(n.its.take j).flatMap eF++eF n.its[j]/\((n.its.take j).flatMap eF).length<=160800 from⟨b,by rw[cz c,List.flatMap_append];simp,by rw[iC];exact HN.o.small.part j⟩);generalize n.its[j]=it at*;clear b hj c;obtain⟨G,M,t,y,Zz,V⟩:=Own.form r.o ν;obtain⟨N,m⟩:=ξx ((az (192+n.level)::az L::(n.its.take j).flatMap eF).length);rw[<-m] at t;have Cf:=aa m;clear m;subst t;obtain⟨W1,d⟩:=ξx ((wr.alloc (dg #[cu (bs it.key),cu (bs it.val),dr (pa it.node)] 175)).alloc (dg #[bf eD (((bs it.key).size:Int)%256),bf eD (((bs it.val).size:Int)%256)] 5));obtain⟨g,hg⟩:=ξx wr.heap.size;have q:aW W1 g 175 [cu (bs it.key),cu (bs it.val),dr (pa it.node)]:=(by rw[d,hg];exact (aW.new wr _ _).alloc _);have k1:W1.cell? ⟨g,0,aK⟩=av (cu (bs it.key)):=(by rw[d,hg];exact ((aW.new wr _ _).alloc _).cell rfl);have k2:W1.cell? ⟨g,1,aK⟩=av (cu (bs it.val)):=(by rw[d,hg];exact ((aW.new wr _ _).alloc _).cell rfl);have lG:bg dO W1 (g+1) 0 [az it.key.length,az it.val.length]:=(by rw[d,hg];have:=aW.new (wr.alloc (dg #[cu (bs it.key),cu (bs it.val),dr (pa it.node)] 175)) #[bf eD (((bs it.key).size:Int)%256),bf eD (((bs it.val).size:Int)%256)] 5;rw[aY] at this;refine bg.dZ this ?_;show [_,_]=[bU _,bU _];unfold bU;rw[bR,bR,aG,aG];simp);have z:W1.heap.size=g+2:=by rw[d,hg];simp[aY]
   have v:=aa (show iZ U W1 (cx (av ⟨G,0,aK⟩) N M) (az (192+n.level)::az L::(n.its.take j).flatMap eF)/\Below U w W1/\bg dO W1 (g+1) 0 [az it.key.length,az it.val.length]/\G<g/\W1.heap.size=g+2/\U<=g from⟨by rw[d];exact (r.o.alloc _).alloc _,by
    rw[d];have:=s.o.size;have h0:=(l.o▸s.o.size:U<=wr.heap.size);exact (s.o.alloc h0 _).alloc zbh _,lG,by rw[hg];exact Zz,z,by rw[hg];exact l.o▸s.o.size⟩)
   have zQ:=aa (And.intro d hg);have Wq:=aa q;have eP:(bs it.key).size<=96/\(bs it.val).size<=56:=(by rw[aG,aG];exact he);have HE:=aa eP;clear d hg lG z he eP q;go_wp2_with (at_builtin;refine Hid.o ?_);refine aa ?_;rw[<-zQ.o.2,<-zQ.o.1];clear a0 a1 a2;have H:(az (192+n.level)::az L::(n.its.take j).flatMap eF).length<=200000:=(by have:=I.o.2.2;simp only[a_];omega);refine gP (K:=dO) IW rfl _ _ rfl rfl v.o.1 (by have:=v.o.2.2.2.2;omega) (g+1) 0 2 2 [az it.key.length,az it.val.length] rfl rfl v.o.2.2.1 κ ?_;intro v2 A B gm;have X:W1.grownBy A (av G):=gm;have aQ:aE (fun k=>k=G) W1 A:=(aE.refl _ W1).grown X fun k e _=>(Option.some.inj e).symm;have O:=aa (Wq.o.but aQ (by have:=v.o;omega));have Y:=aa (v.o.2.1.grown X (by have:=v.o;omega) fun k e=>by cases e;exact y);obtain⟨Z,f⟩:=ξx ((az (192+n.level)::az L::(n.its.take j).flatMap eF)++[az it.key.length,az it.val.length]);rw[<-f] at B;have Zs:=aa f;have Rf:Z.length<=200002:=(by rw[f,aq];simp only[a_,gd] at H |-;omega);have xQ:=Own.dh B O.o ξ;have kH:=Own.block B;have k3:=O.o.cell (j:=0) rfl;have k4:=O.o.cell (j:=1) rfl;have H2:=aa (And.intro B (And.intro xQ kH));clear f B xQ kH gm X aQ k1 k2;go_wp2_with (at_builtin;refine Hid.o ?_);refine aa ?_;refine pF rfl _ _ rfl rfl H2.o.1 (by have:=Y.o.size;have:=l.o;omega) (bs it.key) rfl (by have:=HE.o;omega) ?_;intro v3 w3 J EC;have X6:A.grownBy w3 v2.ownBlock:=EC;have b8:aE (fun k=>v2.ownBlock=av k) A w3:=(aE.refl _ A).grown X6 fun k e _=>e;have X8:=aa (O.o.but b8 (fun e=>H2.o.2.1 e));have pP:=aa (Y.o.grown X6 (by have:=Y.o.size;have:=l.o;omega) fun k e=>(H2.o.2.2 k e).1);rw[bJ] at J;have C:=Own.dh J X8.o ξ;have Wn:=Own.block J;have k5:=X8.o.cell (j:=0) rfl;have k6:=X8.o.cell (j:=1) rfl;have H3:=aa (And.intro J (And.intro C Wn));clear J C Wn EC X6 b8 k3 k4;go_wp2_with (at_builtin;refine Hid.o ?_);refine aa ?_;refine pF rfl _ _ rfl rfl H3.o.1 (by have:=pP.o.size;have:=l.o;omega) (bs it.val) rfl (by rw[aq];have:=HE.o;rw[aG,aG] at this;rw[aG];omega) ?_;intro v4 w4 oP iE;have D:w3.grownBy w4 v3.ownBlock:=iE;have F_:=aa (pP.o.grown D (by have:=pP.o.size;have:=l.o;omega) fun k e=>(H3.o.2.2 k e).1);rw[bJ] at oP
   have H4:=aa (show iZ U w4 v4 (az (192+n.level)::az L::(n.its.take (j+1)).flatMap eF) by
    rw[I.o.2.1];have:=oP;rw[Zs.o] at this;simpa[eF,jh] using this)
   clear oP iE D k5 k6;go_wp2;go_roundw
   case rel=>exact⟨j+1,I.o.1,ς,H4,F_⟩
   case measure=>have:=I.o.1;simp[RowKit.intOf];omega
  ·have pM:¬(j:Int)<L:=κ;obtain⟨G,M,t,y,Zz,V⟩:=Own.form r.o ν;have UE:(az (192+n.level)::az L::(n.its.take j).flatMap eF)=cT n.level n.its:=(by rw[bD (by rw[<-E.o];omega),E.o];rfl);rw[UE] at r t;obtain⟨N,m⟩:=ξx ((cT n.level n.its).length);rw[<-m] at t;subst t;have Qf:(convert 151 9 (cx (av ⟨G,0,aK⟩) N M)).run prog wr=.ok (cu (bs (cT n.level n.its))) wr:=(by rw[m];refine QH wr G 0 M _ fun x hx=> ?_;rw[m] at r;have:=Own.lies r.o x (bU (cT n.level n.its)[x]) (by rw[show dO.cells (cT n.level n.its)=(cT n.level n.its).map bU from cv _ _ _,cY,aI hx];rfl);exact this);obtain⟨R,hR⟩:=ξx (bs (cT n.level n.its));rw[<-hR] at Qf;have HR:=aa hR;clear b hj UE m hR;go_wp2;go_ret;exact⟨by rw[<-HR.o];rfl,l.o▸s.o⟩
end
section
variable {w w':World} {p q:Nat} {n m:NV}
abbrev bk (B:Nat) (w:World) (v:Value) (l:List It):Prop:=Own aj 175 B w v l
def NV.read (level:Nat) (its:List It) (rg cap:Nat):NV:=⟨level,its,rg,0,cap,0,[],[],0,0,false,true⟩
theorem JH (w:World) (s:ByteArray) (level:Nat) (its:List It) (rest:List UInt8) (hs:s.data.toList=cT level its++rest) (hr:Wl.blank rest=true) (n:s.size<=100000)
  (hS:∀rg cap,Sound (NV.read level its rg cap)) (hl:its.length<=255) (hn:∀i∈its,i.node=aK):
  Calls prog 231 #[cu s] w fun e w'=>∃p rg cap,e=c8 (ec #[ptr p,ey true])/\w.heap.size<=p/\Nd w' p (NV.read level its rg cap)/\bk w.heap.size w' (cx (av ⟨rg,0,aK⟩) its.length cap) its/\Below w.heap.size w w':=by
 have hsz:s.size=2+cJ its+rest.length:=by have:s.data.toList.length=s.size:=aU;rw[<-this,hs,aq,mP]
 have h0:0<s.size:=κ
 have h1:1<s.size:=κ
 have sR:=(hS 0 0).level;have ad0:level<=15:=sR;have e0:((s[0].toNat:Nat):Int)=192+level:=by rw[<-gJ s 0 h0,hs];show (((az (192+level)).toNat:Nat):Int)=_;rw[bR,gF zay];omega
 have e1:((s[1].toNat:Nat):Int)=its.length:=by rw[<-gJ s 1 h1,hs];show (((az its.length).toNat:Nat):Int)=_;rw[bR,gF zay]
 have e2:(s.extract 2 s.size).data.toList=its.flatMap eF++rest:=by rw[jW,hs];rfl
 obtain⟨U,q⟩:∃U,s.extract 2 s.size=U:=⟨_,rfl⟩;rw[q] at e2;have hw1:IntKind.i64.wrap ((192:Int)+level)=192+level:=by
  have:=bQ (192+level) κ
  rwa [show ((192+level:Nat):Int)=192+(level:Int) by omega] at this
 have jy:IntKind.i64.wrap (its.length:Int)=its.length:=bQ _ κ;have h2s:(2:Int)<=s.size:=κ
 have h3:(192:Int)+level-192=level:=κ
 obtain⟨L,hL⟩:=ξx its.length;rw[<-hL] at e1 jy hl |-;have jK:(L:Int)<=255:=κ
 have H:=aa (And.intro hL (And.intro e2 (And.intro hr (And.intro hS hn))))
 have Ey:=aa (show U.size<=100000 by
  rw[<-q,ByteArray.size_extract];omega)
 clear hs hS hr hn hL e2 hsz sR hl n;go_enter func231,ntmps231;go_wp2_with fail
 go_region
 obtain⟨W,hW⟩:=ξx ((w.alloc (dg #[bf ct (level:Int),cx aK 0 0,bf ct 0,cu ⟨#[]⟩,cu ⟨#[]⟩,bf ct 0,bf ct 0,ey false] 170)).drew);obtain⟨p,hp⟩:=ξx w.heap.size
 have HW:=aa (show aW W p 170 [bf ct (level:Int),cx aK 0 0,bf ct 0,cu ⟨#[]⟩,cu ⟨#[]⟩,bf ct 0,bf ct 0,ey false]/\Below p w W/\W.heap.size=p+1 by
  rw[hW,hp];exact⟨aW.new w _ _,((Below.refl _ w).alloc (af _) _).drew,by simp[aY]⟩)
 have Y:=aa hp;rw[<-hW,<-hp];clear hW hp;have aeB:=jy;go_wp2
 go_loopw [5,19] (fun sv iv wr=>∃j:Nat,j<=L/\iv=bf ct j/\∃t:ByteArray,sv=cu t/\Hid (t.data.toList=(its.drop j).flatMap eF++rest/\t.size<=100000)/\∃v,Hid (aW wr p 170 [bf ct (level:Int),v,bf ct 0,cu ⟨#[]⟩,cu ⟨#[]⟩,bf ct 0,bf ct 0,ey false])/\Hid (bk p wr v (its.take j))/\Hid (Below p w wr)) (fun _ iv _=>L-(RowKit.intOf iv).toNat)
 case atStart=>exact⟨0,aA _,rfl,U,rfl,aa ⟨H.o.2.1,Ey.o⟩,_,aa HW.o.1,aa (Own.nil _ _ _ _),aa HW.o.2.1⟩
 case round=>
  obtain⟨j,hj,rfl,t,rfl,r,v,Z,hO,hB⟩:=hrel;by_cases c:j<L
  ·have pM:(j:Int)<L:=κ;have a:j<its.length:=(by rw[<-H.o.1];exact c);have b:t.data.toList=jh its[j].key its[j].val++((its.drop (j+1)).flatMap eF++rest):=(by rw[r.o.1,cE a,List.flatMap_cons,aD];rfl);have he:=(H.o.2.2.2.1 0 0).each its[j] (bp a);have Wr:=H.o.2.2.2.2 its[j] (bp a);have HC:=aa (Jf wr t _ _ _ b κ κ (by have:=r.o.2;omega));have x:=aa (show j<L/\its.take (j+1)=its.take j++[its[j]]/\its[j].node=aK/\t.data.toList=jh its[j].key its[j].val++((its.drop (j+1)).flatMap eF++rest)/\its[j].key.length<=96/\its[j].val.length<=56 from⟨c,cz a,Wr,b,he.1,he.2.1⟩);generalize its[j]=it at*;have y:t.size=2+it.key.length+it.val.length+((its.drop (j+1)).flatMap eF++rest).length:=(by have:t.data.toList.length=t.size:=aU;rw[<-this,b,aq,iM]);obtain⟨z,n⟩:=ξx (2+it.key.length+it.val.length);rw[<-n] at HC y;have hzI:¬(t.size:Int)<z:=κ;have aeC:(z:Int)<=t.size:=κ;have HZ:=aa n;have B:=aa (jW t z);obtain⟨T,C⟩:∃T,t.extract z t.size=T:=⟨_,rfl⟩;rw[C] at B
   have nO:=aa (show T.data.toList=(its.drop (j+1)).flatMap eF++rest/\T.size<=100000 by
    refine⟨?_, ?_⟩;·rw[B.o,b];rw[show z=(jh it.key it.val).length by rw[iM,n],List.drop_left]
    ·rw[<-C,ByteArray.size_extract];have:=r.o.2;omega)
   clear c hj a b he Wr y n;go_wp2_with fail;refine HC.o.mono ?_;rintro e w1 ⟨rfl,A⟩;have ef:=Z.o.lt;have D:=aa (Z.o.below A ef);have hO1:=aa (Own.below hO.o A (af _));have OU:=aa (hB.o.trans (A.mono κ));clear A;go_wp2_with fail;obtain⟨W2,V⟩:=ξx (w1.alloc (dg #[cu (bs it.key),cu (bs it.val)] 134));obtain⟨g,hg⟩:=ξx w1.heap.size;rw[<-V,<-hg];have UG:aW W2 p 170 [bf ct (level:Int),v,bf ct 0,cu ⟨#[]⟩,cu ⟨#[]⟩,bf ct 0,bf ct 0,ey false]:=(by rw[V];exact D.o.alloc _);have ZA:bk p W2 v (its.take j):=(by rw[V];exact Own.alloc hO1.o _);have gm:aW W2 g 134 [cu (bs it.key),cu (bs it.val)]:=(by rw[V,hg];exact aW.new w1 _ _);have kH:W2.heap.size=g+1:=(by rw[V,hg];simp[aY]);have uE:Below p w W2:=(by rw[V];have:=D.o.lt;exact OU.o.alloc κ _);have c1:=UG.cell (j:=1) rfl;have g0:=gm.cell (j:=0) rfl;have g1:=gm.cell (j:=1) rfl;have f:=aa (show aW W2 p 170 [bf ct (level:Int),v,bf ct 0,cu ⟨#[]⟩,cu ⟨#[]⟩,bf ct 0,bf ct 0,ey false]/\bk p W2 v (its.take j)/\Below p w W2/\p<W2.heap.size from⟨UG,ZA,uE,UG.lt⟩);have JI:p<W2.heap.size:=f.o.2.2.2;clear V hg UG ZA gm kH uE;refine wp_region_any η ?_;try (change wpAny _ _ _ _ _ _ _ (bu _))
   refine tk 0 ?_;refine tk 1 ?_;refine tk 2 ?_;refine tk 3 ?_;refine tk 9 ?_;refine tk 10 ?_;refine tk 11 ?_;try simp only[Act.put,aC,aB,ay]
   refine rd [4,5] (AllReady.cons rfl (fun K h=> ?_) (rn fun K h=> ?_))
   focus
    go_simp
    refine h _ _ ?_;clear h K
    refine rd [5] (rn fun K h=> ?_)
    go_simp
    refine h _ _ ?_;clear h K
    refine rd [6] (rn fun K h=> ?_)
    go_simp
    refine h _ _ ?_;clear h K
    refine rd [7] (rn fun K h=> ?_)
    go_simp
    refine h _ _ ?_;clear h K
   rotate_left
   focus
    go_simp
    refine h _ _ ?_;clear h K
    refine rd [4,6] (AllReady.cons rfl (fun K h=> ?_) (rn fun K h=> ?_))
    focus
     go_simp
     refine h _ _ ?_;clear h K
     refine rd [6] (rn fun K h=> ?_)
     go_simp
     refine h _ _ ?_;clear h K
     refine rd [7] (rn fun K h=> ?_)
     go_simp
     refine h _ _ ?_;clear h K
    rotate_left
    focus
     go_simp
     refine h _ _ ?_;clear h K
     refine rd [4,7] (AllReady.cons rfl (fun K h=> ?_) (rn fun K h=> ?_))
     focus
      go_simp
      refine h _ _ ?_;clear h K
      refine rd [7] (rn fun K h=> ?_)
      go_simp
      refine h _ _ ?_;clear h K
     rotate_left
     focus
      go_simp
      refine h _ _ ?_;clear h K
      refine rd [4] (rn fun K h=> ?_)
      go_simp
      refine h _ _ ?_;clear h K
   all_goals
    try simp only[Act.put,aC,aB,ay]
    have E:bk p (W2.drew.alloc (dg #[cu (bs it.key),cu (bs it.val),dr aK] 175)) v (its.take j):=Own.alloc (show bk p W2.drew v (its.take j) from f.o.2.1) _
    have OQ:bg aj (W2.drew.alloc (dg #[cu (bs it.key),cu (bs it.val),dr aK] 175)) W2.drew.heap.size 0 [it]:=bg.dZ (aW.new W2.drew _ _) (by show [_,_,_]=[Value.string (bs it.key),cu (bs it.val),dr (pa it.node)];rw[x.o.2.2.1];rfl)
    have F:aW (W2.drew.alloc (dg #[cu (bs it.key),cu (bs it.val),dr aK] 175)) p 170 [bf ct (level:Int),v,bf ct 0,cu ⟨#[]⟩,cu ⟨#[]⟩,bf ct 0,bf ct 0,ey false]:=aW.alloc (show aW W2.drew p _ _ from f.o.1) _
    have DH:Below p w (W2.drew.alloc (dg #[cu (bs it.key),cu (bs it.val),dr aK] 175)):=(f.o.2.2.1.drew).alloc (by show p<=W2.heap.size;omega) _
    have QY:p<=(W2.drew.alloc (dg #[cu (bs it.key),cu (bs it.val),dr aK] 175)).heap.size:=by rw[aY];show p<=W2.heap.size+1;omega
    have d:=aa (And.intro E (And.intro F (And.intro DH (And.intro OQ QY))))
    clear E OQ F DH QY
    refine rd [8] (rn fun K h=> ?_)
    refine yC (K:=aj) zo _ _ rfl rfl d.o.1 d.o.2.2.2.2 W2.drew.heap.size 0 1 1 [it] rfl rfl d.o.2.2.2.1 (by rw[aJ];have:=H.o.1;have:=x.o.1;omega) ?_;intro v5 G P gX
    refine h _ _ ?_;clear h K
    have Nw:World.grownBy _ G v.ownBlock:=gX
    have Rh:=Own.dh d.o.1 d.o.2.1 ξ
    have R:=d.o.2.1.but ((aE.refl (fun k=>v.ownBlock=av k) _).grown Nw fun k e _=>e) Rh
    have I:=d.o.2.2.1.grown Nw d.o.2.2.2.2 fun k e=>(Own.block d.o.1 k e).1
    obtain⟨J,Q,uM,zw⟩:=Own.slice P
    rw[<-x.o.2.1] at P
    have Ws:=Own.dh P R ξ
    generalize (its.take j++[it]).length=N at uM zw
    subst uM
    have c5:=R.cell (j:=1) rfl
    have f5:=R.frozen 1
    have H5:=aa (And.intro P (And.intro R (And.intro I Ws)))
    clear P R I gX Nw Rh Ws
    try simp only[Act.put,aC]
    refine tk 12 ?_
    refine tk 13 ?_
    try simp only[Act.put]
    refine rd [14] (rn fun K h=> ?_)
    go_simp
    refine h _ _ ?_;clear h K
    refine tk 15 ?_
    refine wpAny_done η ?_ _
    have H6:=aa (show aW (G.setCell ⟨p,1,aK⟩ (cx J N Q)) p 170 [bf ct (level:Int),cx J N Q,bf ct 0,cu ⟨#[]⟩,cu ⟨#[]⟩,bf ct 0,bf ct 0,ey false]/\bk p (G.setCell ⟨p,1,aK⟩ (cx J N Q)) (cx J N Q) (its.take (j+1))/\Below p w (G.setCell ⟨p,1,aK⟩ (cx J N Q)) from⟨H5.o.2.1.set 1 _,Own.but H5.o.1 ((aE.refl (fun k=>k=p) G).setCell _ _ fun _=>rfl) (fun k hk e=>H5.o.2.2.2 (by rw[hk,e])),H5.o.2.2.1.setCell (af _) _⟩)
    go_wp2
    go_roundw
    case rel=>exact⟨j+1,x.o.1,ς,T,rfl,nO,_,aa H6.o.1,aa H6.o.2.1,aa H6.o.2.2⟩
    case measure=>have:=x.o.1;simp[RowKit.intOf];omega
  ·have pM:¬(j:Int)<L:=κ;obtain rfl:j=L:=by omega
   have M:its.take j=its:=bD (by rw[H.o.1];exact af _);have X:=hO.o;rw[M] at X;have hpos:0<its.length:=d_.2 (H.o.2.2.2.1 0 0).ne;obtain⟨rg,cap,O,wF,hrs,l⟩:=Own.form X hpos;have S:cap<=maxLen:=(jg (O▸X)).2.2;have lH:t.data.toList=rest:=by have:=r.o.1;rw[gj (by rw[H.o.1];exact af _)] at this;exact this
   have Lu:=aa (show Nd wr p (NV.read level its rg cap) from⟨by
    have:=Z.o;rw[O] at this;exact this,by
    rw[O] at X;exact Own.lies X,⟨by show its.length<=400;have:=H.o.1;omega,fun i hi=>by have:=(H.o.2.2.2.1 0 0).each i hi;omega,l,S⟩⟩)
   have HO:=aa (show bk p wr (cx (av ⟨rg,0,aK⟩) its.length cap) its by rw[<-O];exact X);have HC:=aa (DB Lu.o (H.o.2.2.2.1 rg cap));have HR:=aa lH;clear c hj M X O wF hrs l S lH hpos;go_wp2_with fail;refine HC.o.mono ?_;rintro e w1 ⟨rfl,A⟩;have H1:=aa (show Nd w1 p (NV.read level its rg cap)/\bk p w1 (cx (av ⟨rg,0,aK⟩) its.length cap) its/\Below p w w1 from⟨Lu.o.still A,Own.below HO.o A (af _),hB.o.trans (A.mono (by have:=Z.o.lt;omega))⟩);clear A;go_wp2_with fail;refine (Fk t w1 (by have:=r.o.2;omega)).mono ?_;rintro e w2 ⟨⟨u,rfl,hu⟩,m,rfl⟩;have hu2:u.toList=[]:=(by rw[ByteArray.toList_eq];exact hu.2 (by rw[HR.o];exact H.o.2.2.1));have f:=aa (show Nd (w1.drewN m) p (NV.read level its rg cap)/\bk p (w1.drewN m) (cx (av ⟨rg,0,aK⟩) its.length cap) its/\Below p w (w1.drewN m) from⟨H1.o.1.still (dF _ _),Own.below H1.o.2.1 (dF _ _) (af _),H1.o.2.2.trans ((dF w1 m).mono (by have:=H1.o.2.2.size;have:=Y.o;omega))⟩);clear hu;go_wp2
   go_ret2
   refine⟨p,rg,cap,rfl,Nat.le_of_eq Y.o.symm,f.o.1,Y.o▸H.o.1▸f.o.2.1,Y.o▸f.o.2.2⟩
end
section
variable {P:Program}
theorem Bu (w:World) (c e ty elem:TypeId) (size:Nat) (g o d D:Nat) (a:Addr) (s S:Nat) (cur:Array Value) (t:TypeId) (cs:List Value)
  (hu:P.underlying c=av (.slice elem)) (hs:(P.info? elem).map (·.size)=av size)
  (hg:w.heap[g]?=av (dg cur t (0,0))) (hn:cs.length=eV s d*size)
  (h:∀j v,cs[j]?=av v->w.cell? (a.add j)=av v) (hfit:o+cs.length<=cur.size) (f:∀v∈cs,v.oneCell'=true):
  (Builtin.copy_ #[c,e] ty #[.slice (av ⟨g,o,aK⟩) d D,.slice (av a) s S]).run P w=
   .ok (goInt (eV s d)) (w.setRow g (cur.toList.take o++cs++cur.toList.drop (o+cs.length)).toArray):=by
 have hl:=run_loadCells_list (P:=P) w a cs h
 have H:=run_storeCells_at P g o t cs 0 cur w hg (by simpa using hfit) f
 cases b:P.info? elem with
 |none=>simp[b] at hs
 |some i=>
  have hi:i.size=size:=by simpa[b] using hs
  simp[Builtin.copy_,run_underlying hu,Builtin.lenOf,Builtin.firstCells,sizeOf,typeInfo,b,hi,<-hn,hl,H]
theorem Bv (w:World) (c e ty elem:TypeId) (size:Nat) (d a:Option Addr) (D b s S:Nat) (hu:P.underlying c=av (.slice elem)) (hs:(P.info? elem).map (·.size)=av size) (hn:eV s D=0):
  (Builtin.copy_ #[c,e] ty #[.slice d D b,.slice a s S]).run P w=.ok (goInt 0) w:=by
 cases h:P.info? elem with
 |none=>simp[h] at hs
 |some i=>cases d<;>cases a<;>simp[Builtin.copy_,run_underlying hu,Builtin.lenOf,Builtin.firstCells,sizeOf,typeInfo,h,hn,storeCells,loadCells,loadCellsFrom]
end
theorem gD {w:World} {o:Oper} {a:Act} {K':Act->Ψ} {Q:Exit->Act->Ψ} (d s:Operand)
  (j:o.op=.call {callee:=.builtin .copy,args:=#[d,s],argTypes:=#[166,166]})
  (i sp:Option Addr) (D b S c:Nat) (hd:a.eval d=.slice i D b) (hs:a.eval s=.slice sp S c)
  (g off:Nat) (cur:List Value) (hg:w.heap[g]?=av (dg cur.toArray 175 (0,0))) (ms:List It) (hn:ms.length=eV S D)
  (hpos:0<ms.length->i=av ⟨g,off,aK⟩/\∃f so,sp=av ⟨f,so,aK⟩/\bg aj w f so ms)
  (hfit:off+ms.length*3<=cur.length)
  (h:∀w',w'.heap[g]?=av (dg (splice cur off (aj.cells ms)).toArray 175 (0,0))->aE (fun k=>k=g) w w'->K' (a.put o.dst (goInt ms.length)) w'):o.wp prog a w K' Q:=by
 have hl:(aj.cells ms).length=ms.length*3:=aj.cm ms;by_cases l:ms.length=0;·obtain rfl:ms=[]:=List.eq_nil_of_length_eq_zero l;have H:=Bv (P:=prog) w 166 166 o.type 175 3 i sp D b S c underlying166 η (by simpa using hn.symm);unfold Oper.wp;simp[execOp,j,resolve,invoke,builtin,hd,hs,H,Result.andThen];exact h w (by rw[show splice cur off (aj.cells [])=cur by simp[splice,Elem.cells]];exact hg) (aE.refl _ _)
 ·obtain⟨rfl,f,so,rfl,e⟩:=hpos κ;have H:=Bu (P:=prog) w 166 166 o.type 175 3 g off D b ⟨f,so,aK⟩ S c cur.toArray 175 (aj.cells ms) underlying166 η hg (by rw[hl,hn]) e.news (by rw[hl];simpa using hfit) (aj.qM ms);unfold Oper.wp;simp[execOp,j,resolve,invoke,builtin,hd,hs,H,Result.andThen];rw[<-hn];refine h _ ?_ ?_;·rw[setRow_heap w g cur.toArray _ _ _ hg];simp[splice]
  ·exact (aE.refl (fun k=>k=g) w).setRow g _ (fun _=>rfl)
theorem fF {w:World} {ops:Array Oper} {rest:List Oper} {o:Oper} {a:Act} {Q:Exit->Act->Ψ} (H:o.guard=aK) (d s:Operand)
  (i:o.op=.call {callee:=.builtin .copy,args:=#[d,s],argTypes:=#[166,166]})
  (e sp:Option Addr) (D b S c:Nat) (hd:a.eval d=cx e D b) (hs:a.eval s=cx sp S c)
  (g off:Nat) (cur:List Value) (hg:w.heap[g]?=av (dg cur.toArray 175 (0,0))) (ms:List It) (hn:ms.length=eV S D)
  (hpos:0<ms.length->e=av ⟨g,off,aK⟩/\∃f so,sp=av ⟨f,so,aK⟩/\bg aj w f so ms)
  (hfit:off+ms.length*3<=cur.length)
  (h:∀w',w'.heap[g]?=av (dg (splice cur off (aj.cells ms)).toArray 175 (0,0))->aE (fun k=>k=g) w w'->wpList prog ops Q rest (a.put o.dst (goInt ms.length)) w'):wpList prog ops Q (o::rest) a w:=
 wpList_plain H fun _ j=>gD d s i e sp D b S c hd hs g off cur hg ms hn hpos hfit fun w' l m=>j _ _ (h w' l m)
theorem gE {α:Type} {C X cs R:List α} (h:C=X++R):splice C X.length cs=X++(cs++R.drop cs.length):=by unfold splice;rw[h,List.take_left,<-List.drop_drop,List.drop_left]
theorem kU {B:Nat} {w:World} {g n cap:Nat} {l:List It} (h:bk B w (cx (av ⟨g,0,aK⟩) n cap) l):∃R:List Value,w.heap[g]?=av (dg (aj.cells l++R).toArray 175 (0,0))/\(aj.cells l++R).length=cap*3/\n=l.length/\n<=cap/\cap<=maxLen/\B<=g:=by
 rcases h.2 with⟨e,_⟩|⟨G,c,cur,e,a,b,h3,h4,d,f⟩;·cases e
 ·injection e with e1 e2 e3;injection e1 with e1;injection e1 with e1;subst e1 e3;have i:cur.size=cap*3:=d;have H:cur.toList.take (l.length*3)=aj.cells l:=f;refine⟨cur.toList.drop (l.length*3), ?_, ?_,e2,κ,h4,a⟩;·rw[<-H,b_];exact b
  ·grind
theorem gq {B:Nat} {w:World} {g n cap:Nat} {l:List It} {R:List Value} (h:w.heap[g]?=av (dg (aj.cells l++R).toArray 175 (0,0))) (hl:(aj.cells l++R).length=cap*3) (hn:n=l.length) (hc:n<=cap) (H:cap<=maxLen) (a:B<=g):bk B w (cx (av ⟨g,0,aK⟩) n cap) l:=by
 subst hn;refine⟨aj.cm l,dc ⟨g,cap,_,rfl,a,h,hc,H, ?_, ?_⟩⟩;·show (aj.cells l++R).toArray.size=cap*3;rw[List.size_toArray];exact hl
 ·show (aj.cells l++R).toArray.toList.take (l.length*3)=aj.cells l;have e:l.length*3=(aj.cells l).length:=(aj.cm l).symm;rw[List.toList_toArray,e];exact List.take_left
theorem mQ {w:World} {g:Nat} {X:List Value} {l:List It} {R:List Value} (h:w.heap[g]?=av (dg (X++(aj.cells l++R)).toArray 175 (0,0))):bg aj w g X.length l:=by
 intro j u hu;have H:=(List.getElem?_eq_some_iff.1 hu).1;have:(X++(aj.cells l++R))[X.length+j]?=av u:=zaB
 simp[World.cell?,h,this]
theorem qp {B:Nat} {w:World} {l:List It} {o:Oper} {a:Act} {K':Act->Ψ} {Q:Exit->Act->Ψ} (s x:Operand)
  (f:o.op=.call {callee:=.builtin .append,args:=#[s,x],argTypes:=#[166,166]}) (g k cap:Nat)
  (hs:a.eval s=cx (av ⟨g,0,aK⟩) k cap) (hown:bk B w (cx (av ⟨g,0,aK⟩) k cap) l) (n:k=l.length) (S so m c:Nat) (ms:List It) (p:a.eval x=cx (av ⟨S,so,aK⟩) m c) (e:ms.length=m) (H:ms≠[]->bg aj w S so ms) (hc:k+m<=cap)
  (h:∀w',bk B w' (cx (av ⟨g,0,aK⟩) (k+m) cap) (l++ms)->w.grownBy w' (av g)->K' (a.put o.dst (cx (av ⟨g,0,aK⟩) (k+m) cap)) w'):o.wp prog a w K' Q:=by
 obtain⟨i,z,hi,v,b,q,r⟩:=zo.info;subst n
 obtain⟨w',hr,t,h3⟩:=run_append_fits (P:=prog) (w:=w) (ty:=o.type) B 166 175 i aj.size zo.under hi b g l.length cap (aj.cells l) hown ⟨S,so,aK⟩ m c (aj.cells ms) (by rw[aj.cm,e]) (fun j u hu=>by
  have d:ms≠[]:=by rintro rfl;simp[Elem.cells] at hu
  exact (H d).news j u hu) (aj.qM _) hc
 unfold Oper.wp execOp;simp only[f,resolve,invoke,builtin,Sem.run_bind,Sem.run_pure,Result.andThen_ok,List.map_toArray,bI,List.map_nil,hs,p,hr];refine h w' ?_ h3;unfold bk Own;rw[aq,aj.cj,e];exact t
theorem gC (w:World) (o k cap:Nat) (l:List It) (h:bk 0 w (.slice (av ⟨o,0,aK⟩) k cap) l) (d:Nat) (p:k+d<=cap) (hd:0<d):
  ∃vs,∀(c:Nat) (ty:TypeId),(Builtin.clear_ #[166] ty #[.slice (av ⟨o,k*3,aK⟩) d c]).run prog w=.ok (.tuple #[]) (w.setCells o (k*3) vs):=by
 obtain⟨z,f⟩:=ξx ((Builtin.zeroCells (Value.agg #[.string ⟨#[]⟩,.string ⟨#[]⟩,.pointer aK]).cells d).toList);have H:z=(Builtin.zeroCells #[.string ⟨#[]⟩,.string ⟨#[]⟩,.pointer aK] d).toList:=f;have g:z.length=d*3:=by rw[H];simp[Builtin.zeroCells]
 have E:∀v∈z,v.oneCell'=true:=by
  intro v b;rw[H] at b;simp only[Builtin.zeroCells,Array.toList_map,bY] at b;obtain⟨i,_,rfl⟩:=b;have:i%3=0\/i%3=1\/i%3=2:=κ
  rcases this with e|e|e<;>simp[e]<;>rfl
 refine⟨z,fun c ty=> ?_⟩
 have a:=run_storeCells_cells (P:=prog) o (k*3) z 0 w
  (fun j n=>by rw[Nat.add_zero];exact (Own.spare h (k*3+j) (by show _<cap*3;omega)).1)
  (fun j n=>by rw[Nat.add_zero];exact (Own.spare h (k*3+j) (by show _<cap*3;omega)).2) E
 simp only[Nat.add_zero] at a;obtain⟨m,rfl⟩:∃m,d=m+1:=⟨d-1,κ⟩;simp[Builtin.clear_,run_underlying underlying166,<-f,a]
def iy (B:Nat) (w:World) (v:Value) (l:List It) (e:Ending) (w':World):Prop:=
 ∃v',e=c8 v'/\bk B w' v' l/\aE (fun k=>v.ownBlock=av k) w w'/\(v'.ownBlock=v.ownBlock\/∀k,v'.ownBlock=av k->w.heap.size<=k)/\(v.ownBlock.isSome=true->v'.ownBlock.isSome=true)
section
variable {w:World} {B:Nat} {v:Value} {l:List It} {it:It} {vr vo:Nat}
theorem JJ (h:bk B w v l) (i:B<=w.heap.size) (hl:l.length<=400) (m:bg aj w vr vo [it]):
  Calls prog 89 #[v,bf ct l.length,cx (av ⟨vr,vo,aK⟩) 1 1] w fun e w'=>iy B w v (l++[it]) e w':=by
 obtain⟨a,cap,rfl,hc⟩:=Own.slice h;have H:=aa (And.intro h (And.intro i m));have b:=aa hl;obtain⟨L,c⟩:=ξx l.length;rw[<-c] at H hl hc |-;have n:=aa c;have J:(L:Int)<=400:=κ
 have V:((L:Int)==L)=true:=ν
 have p:(0:Int)<=L:=κ
 clear h i m c;by_cases d:cap=L;·subst d;go_enter func89,ntmps89;go_wp2_with (at_builtin;refine Hid.o ?_);refine aa ?_;refine fB (K:=aj) zo rfl _ _ rfl rfl H.o.1 H.o.2.1 vr vo 1 1 [it] rfl rfl H.o.2.2 (show l.length+1<=1000000000 by have:=b.o;omega) ?_;intro v2 W g G j;have f:=aa (show iy B w _ (l++[it]) (c8 v2) W from⟨v2,rfl,g,(aE.refl _ w).grown G (fun k e _=>e),j,fun _=>by obtain⟨_,_,rfl,_⟩:=Own.form g ν;rfl⟩);clear g G j;go_wp2;go_ret;exact f.o
 ·skip
  go_enter func89,ntmps89;go_wp2_with (at_builtin;refine Hid.o ?_);refine aa ?_;refine fB (K:=aj) zo rfl _ _ rfl rfl H.o.1 H.o.2.1 vr vo 1 1 [it] rfl rfl H.o.2.2 (show l.length+1<=1000000000 by have:=b.o;omega) ?_;intro v2 W g G j;have f:=aa (show iy B w _ (l++[it]) (c8 v2) W from⟨v2,rfl,g,(aE.refl _ w).grown G (fun k e _=>e),j,fun _=>by obtain⟨_,_,rfl,_⟩:=Own.form g ν;rfl⟩);clear g G j;go_wp2;go_ret;exact f.o
theorem qt (w:World) (a o la f b ob lb cb:Nat) (H:a≠b) (ha:∃cur,w.heap[a]?=av (dg cur 175 (0,0))) (g:∃cur,w.heap[b]?=av (dg cur 175 (0,0))/\cur.size≠0):
  (callFunc 135 #[.slice (av ⟨a,o,aK⟩) la f,.slice (av ⟨b,ob,aK⟩) lb cb]).run prog w=.ok (.value (.bool false)) w:=by
 obtain⟨c,h⟩:=ha;obtain⟨C,d,i⟩:=g;rw[run_callFunc_extern func135 η η η (e:=Extern.SlicesOverlaps.overlaps #[166,166] #[4]) η];rw[Lib.run_overlaps_apart w 166 4 175 underlying166 3 (fun w=>η) ⟨a,o,aK⟩ ⟨b,ob,aK⟩ la f lb cb H 175 175 c.size C.size (by simp[World.shape?,h]) (by simp[World.shape?,d]) i (by simp[World.frozen?,h]) (by simp[World.frozen?,h])];rfl
theorem bZ (l:List It):(aj.cells l).length=l.length*3:=aj.cm l
theorem fX (l:List It) (i:Nat):aj.cells l=aj.cells (l.take i)++aj.cells (l.drop i):=by rw[<-aj.cj,b_]
theorem Ga {g cap i:Nat} (h:bk B w (cx (av ⟨g,0,aK⟩) l.length cap) l) (hl:l.length<=400) (E:bg aj w vr vo [it]) (hi:i<l.length) (hc:l.length+1<=cap) (s:vr≠g) (t:∃cur,w.heap[vr]?=av (dg cur 175 (0,0))):
  Calls prog 89 #[cx (av ⟨g,0,aK⟩) l.length cap,bf ct i,cx (av ⟨vr,vo,aK⟩) 1 1] w fun e w'=>iy B w (cx (av ⟨g,0,aK⟩) l.length cap) (l.take i++it::l.drop i) e w':=by
 obtain⟨R,hg,F,-,-,d,f⟩:=kU h;have u:(aj.cells l++R).length=l.length*3+R.length:=by rw[aq,bZ]
 have v:(aj.cells (l.take i)).length=i*3:=by rw[bZ,aJ,bT κ]
 have J:(aj.cells (l.drop i)).length=(l.length-i)*3:=by rw[bZ,aS]
 have x:=aa (show w.heap[g]?=av (dg (aj.cells (l.take i)++(aj.cells (l.drop i)++R)).toArray 175 (0,0)) from by rw[<-aD,<-fX];exact hg);have P:w.frozen? ⟨vr,vo,aK⟩=false:=by obtain⟨cur,p⟩:=t;simp[World.frozen?,p]
 have q:=aa (And.intro E (And.intro t s));have H:=aa (show i<l.length/\l.length+1<=cap/\cap<=maxLen/\B<=g/\(aj.cells l++R).length=cap*3 from⟨hi,hc,d,f,F⟩);obtain⟨L,r⟩:=ξx l.length;rw[<-r] at hl hc |-;have j:=aa r;have jK:(L:Int)<=400:=κ
 have QD:(i:Int)<L:=by rw[r];omega
 have Q:(i:Int)<=L:=κ
 have T:((i:Int)==L)=false:=θ
 have JG:(L:Int)+1<=cap:=κ
 have U:¬(cap:Int)<L+1:=κ
 have Gb:¬cap=i:=κ
 have V:¬cap=i+1:=κ
 clear h E hi hc hg F d f u t r;go_enter func89,ntmps89;go_wp2;rw[qt w vr vo 1 1 g ((i+1)*3) (L-i) (cap-(i+1)) q.o.2.2 q.o.2.1 ⟨_,x.o,by rw[List.size_toArray,<-aD,<-fX,H.o.2.2.2.2];have:=H.o;omega⟩];rw[Oper.upon_value];obtain⟨a,ha⟩:∃a,l.drop i=a::l.drop (i+1):=⟨_,cE H.o.1⟩;have p:aj.cells (l.take i)++(aj.cells (l.drop i)++R)=(aj.cells (l.take i)++aj.enc a)++(aj.cells (l.drop (i+1))++R):=by rw[ha,Elem.bS];simp only[aD]
 have c:(aj.enc a).length=3:=aj.len a;have m:(aj.cells (l.take i)++aj.enc a).length=(i+1)*3:=by rw[aq,v,c];omega
 have n:(aj.cells (l.drop (i+1))).length=(l.length-(i+1))*3:=by rw[bZ,aS]
 have M:(aj.cells (l.take i)++(aj.cells (l.drop i)++R)).length=cap*3:=by rw[<-aD,<-fX];exact H.o.2.2.2.2
 have b:=aa (And.intro p (And.intro c (And.intro m (And.intro n M))));have W:=aa (And.intro v J);clear p c m n M v J ha;have iw:IntKind.i64.wrap ((i:Int)+1)=(i:Int)+1:=by
  have:=bQ (i+1) κ
  rwa [show ((i+1:Nat):Int)=(i:Int)+1 by omega] at this
 have X:((i:Int)+1).toNat=i+1:=κ
 have Y:(i:Int)+1<=L+1:=κ
 have il2:(i:Int)<=L+1:=κ
 have il0:(0:Int)<=(i:Int)+1:=κ
 go_wp2_with (refine wp_region_any η ?_;refine Hid.o ?_);refine aa ?_;try (change wpAny _ _ _ _ _ _ _ (bu _))
 refine tk 0 ?_;refine tk 1 ?_;refine tk 2 ?_;refine tk 3 ?_;refine tk 4 ?_;refine tk 5 ?_;refine tk 6 ?_;refine tk 7 ?_;try simp only[Act.put,aC,aB,ay]
 refine rd [8] (rn fun K N=> ?_);refine gD _ _ rfl _ _ _ _ _ _ rfl rfl g ((i+1)*3) _ x.o (l.drop i) (by rw[aS,<-j.o];exact (Nat.min_eq_right κ).symm) (fun _=>⟨rfl,g,i*3,rfl,by have:=mQ x.o;rw[W.o.1] at this;exact this⟩) (by rw[b.o.2.2.2.2,aS];have:=H.o;omega) ?_;intro w1 I A;refine N _ _ ?_;clear N K;refine wpAny_done η ?_ _;have A:=(aE.refl (fun k=>k=g) w).drew.trans A (fun _ _ h=>h);rw[b.o.1,<-b.o.2.2.1,gE rfl] at I;have y:=aa (show bg aj w1 vr vo [it] from q.o.1.but (S:=fun k=>k=g) A q.o.2.2);obtain⟨R1,Z⟩:=ξx ((aj.cells (l.drop (i+1))++R).drop (aj.cells (l.drop i)).length);rw[<-Z] at I;have z:=aa (show w1.heap[g]?=av (dg (aj.cells (l.take i)++(aj.enc a++(aj.cells (l.drop i)++R1))).toArray 175 (0,0)) from by rw[<-aD];exact I);have gV:=aa (show aE (fun k=>k=g) w w1 from A)
 have Wv:=aa (show i*3+3+(L-i)*3+R1.length=cap*3 by
  rw[Z,aS,aq,W.o.2,b.o.2.2.2.1];have h1:=b.o.2.2.2.2;rw[aq,aq,W.o.1,W.o.2] at h1;have:=H.o;have:=j.o;omega)
 clear I A Z;go_wp2_with (refine fF rfl _ _ rfl _ _ _ _ _ _ rfl rfl g (i*3) _ z.o [it] (bT (show 1<=L+1-i by omega)).symm (fun _=>⟨rfl,vr,vo,rfl,y.o⟩) (by rw[aq,W.o.1,aq,b.o.2.1];show i*3+1*3<=_;omega) ?_;intro w2 G O;refine Hid.o ?_);refine aa ?_;rw[<-W.o.1,gE rfl] at G;have C:(aj.cells [it]).length=(aj.enc a).length:=by rw[bZ,b.o.2.1];rfl
 rw[C,List.drop_left] at G
 have HE:=aa (show iy B w (cx (av ⟨g,0,aK⟩) L cap) (l.take i++it::l.drop i) (c8 (cx (av ⟨g,0,aK⟩) (L+1) cap)) w2 from by
  have hcs:aj.cells (l.take i++it::l.drop i)++R1=aj.cells (l.take i)++(aj.cells [it]++(aj.cells (l.drop i)++R1)):=by rw[Elem.cj,Elem.bS,Elem.bS,Elem.BL,bh];simp only[aD]
  refine⟨_,rfl,gq (R:=R1) (by rw[hcs];exact G) ?_ ?_ (by have:=H.o;have:=j.o;omega) H.o.2.2.1 H.o.2.2.2.1, ?_,cS rfl,fun _=>rfl⟩;·rw[hcs,aq,aq,aq,W.o.1,W.o.2,C,b.o.2.1];have:=Wv.o;have:=j.o;omega
  ·rw[aq,a_,aJ,aS];have:=H.o;have:=j.o;omega
  ·have e:(fun k=>(Value.slice (av ⟨g,0,aK⟩) L cap).ownBlock=av k)=fun k=>k=g:=(by funext k;exact propext ⟨fun h=>by have D:av g=av k:=h;injection D with D;exact D.symm,fun h=>by rw[h];rfl⟩);rw[e];exact gV.o.trans O (fun _ _ h=>h))
 clear G O C;go_wp2;go_ret;exact HE.o
theorem jm (z:Array Value) (n:Nat):(Builtin.zeroCells z n).size=n*z.size:=by simp[Builtin.zeroCells]
theorem uN (w:World) (g i cap k:Nat) (X:List Value) (f:X.length=i*3) (l:∀j u,X[j]?=av u->w.cell? ⟨g,j,aK⟩=av u) (m:0<k) (hg:cap<i+k) (h:i+k<=1000000) (ty:TypeId):
  ∃(c:Nat) (Z:List Value),(Builtin.append_ #[166,3] ty #[.slice (av ⟨g,0,aK⟩) i cap,.int ct k]).run prog w=.ok (.slice (av ⟨w.heap.size,0,aK⟩) (i+k) c) (w.drew.alloc (dg (X++Z).toArray 175))/\i+k<=c/\c<=maxLen/\(X++Z).length=c*3:=by
 obtain⟨I,hi,n,b,a⟩:=iL (P:=prog) (E:=175) (size:=3) (bytes:=40) (z:=.agg #[.string .empty,.string .empty,.pointer aK]) η;have hold:(Builtin.firstCells I.size i (.slice (av ⟨g,0,aK⟩) i cap)).run prog w.drew=.ok X.toArray w.drew:=by
  rw[b];refine run_firstCells_some (P:=prog) w.drew 3 i ⟨g,0,aK⟩ i cap X κ fun j u hu=> ?_;have e:(⟨g,0,aK⟩:Addr).add j=⟨g,j,aK⟩:=by unfold Addr.add;split<;>simp_all
  rw[e];exact l j u hu
 have H:=Lib.run_append_grow_zeros (P:=prog) w 166 3 ty 175 I _ ct ct underlying166 η hi n (av ⟨g,0,aK⟩) i cap X hold k m κ hg κ (by rw[a];omega) (growslice_fits hg (by rw[a];omega));have d:=grownCap_ge w (i+k) cap 175;have h3:(Value.agg #[.string .empty,.string .empty,.pointer aK]).cells.size=3:=rfl;have hA:=jm (Value.agg #[.string .empty,.string .empty,.pointer aK]).cells k;have o:=jm (Value.agg #[.string .empty,.string .empty,.pointer aK]).cells (grownCap w (i+k) cap 175-(i+k));generalize Builtin.zeroCells (Value.agg #[.string .empty,.string .empty,.pointer aK]).cells k=A at*;generalize Builtin.zeroCells (Value.agg #[.string .empty,.string .empty,.pointer aK]).cells (grownCap w (i+k) cap 175-(i+k))=B at*;have e:X.toArray++A++B=(X++(A++B).toList).toArray:=by apply Array.ext';simp only[Array.toList_append,aD]
 rw[e] at H;refine⟨_,(A++B).toList,H,d,grownCap_le_maxLen _ _ _ _ zat, ?_⟩;rw[aq,f,aU,Array.size_append,hA,o,h3];omega
theorem Gc {g i:Nat} (h:bk B w (cx (av ⟨g,0,aK⟩) l.length l.length) l) (N:B<=w.heap.size) (hl:l.length<=400) (O:bg aj w vr vo [it]) (hi:i<l.length) (x:vr<w.heap.size):
  Calls prog 89 #[cx (av ⟨g,0,aK⟩) l.length l.length,bf ct i,cx (av ⟨vr,vo,aK⟩) 1 1] w fun e w'=>iy B w (cx (av ⟨g,0,aK⟩) l.length l.length) (l.take i++it::l.drop i) e w':=by
 obtain⟨R,hg,ED,-,-,D,E⟩:=kU h;have P:g<w.heap.size:=(fY.1 hg).1;have F:(aj.cells (l.take i)).length=i*3:=by rw[bZ,aJ,bT κ]
 have Q:(aj.cells (l.drop i)).length=(l.length-i)*3:=by rw[bZ,aS]
 have H:=Own.lies h;have S:∀j u,(aj.cells (l.take i))[j]?=av u->w.cell? ⟨g,j,aK⟩=av u:=by
  intro j u hu;have:=H j u (by rw[fX l i,List.getElem?_append_left (List.getElem?_eq_some_iff.1 hu).1];exact hu)
  rwa [bG] at this
 have T:bg aj w g (i*3) (l.drop i):=by have:=H.part i (l.length-i) κ;rw[bG,bD (by rw[aS];exact af _)] at this;exact this
 obtain⟨L,t⟩:=ξx l.length;obtain⟨c,Z,a,f,U,V⟩:=uN w g i l.length (l.length+1-i) _ F S κ κ κ 166;rw[show i+(l.length+1-i)=L+1 by omega,<-t] at a;rw[show i+(l.length+1-i)=L+1 by omega] at f;have X:((L+1-i:Nat):Int)=(L:Int)+1-i:=κ
 rw[X] at a;have HR:=aa a;have b:=aa (show g<w.heap.size/\B<=w.heap.size/\bg aj w vr vo [it]/\vr<w.heap.size/\bg aj w g (i*3) (l.drop i)/\i<L/\L=l.length from⟨P,N,O,x,T,κ,t⟩);have d:=aa (show L+1<=c/\c<=maxLen/\(aj.cells (l.take i)++Z).length=c*3/\(aj.cells (l.take i)).length=i*3/\(aj.cells (l.drop i)).length=(L-i)*3 from⟨f,U,V,F,by rw[t];exact Q⟩);rw[<-t] at hl |-;have jK:(L:Int)<=400:=κ
 have QD:(i:Int)<L:=by rw[t];omega
 have aaV:(i:Int)<=L:=κ
 have hne:((i:Int)==L)=false:=θ
 have acI:(L:Int)<L+1:=κ
 have hLi:¬L=i:=κ
 clear h N O hi x hg ED D E P F Q H S T t a f U V X;go_enter func89,ntmps89;go_wp2_with (at_builtin;refine Hid.o ?_);refine aa ?_;refine Lib.wpList_append_run _ rfl _ _ _ _ rfl _ _ rfl rfl _ _ HR.o ?_;obtain⟨w1,m⟩:=ξx (w.drew.alloc (dg (aj.cells (l.take i)++Z).toArray 175));obtain⟨G,n⟩:=ξx w.heap.size;have C:Below w.heap.size w w1:=by rw[m];exact (Below.refl _ w).drew.alloc (af _) _
 have f:w1.heap[G]?=av (dg (aj.cells (l.take i)++Z).toArray 175 (0,0)):=by rw[m,n];exact heap_alloc_new w.drew _
 have z:=aa (show Below w.heap.size w w1/\w1.heap[G]?=av (dg (aj.cells (l.take i)++Z).toArray 175 (0,0))/\bg aj w1 vr vo [it]/\bg aj w1 g (i*3) (l.drop i)/\G=w.heap.size from⟨C,f,b.o.2.2.1.below C b.o.2.2.2.1,b.o.2.2.2.2.1.below C b.o.1,n⟩);rw[<-m,<-n];clear m n C f;have Gb:¬c=i:=by have:=d.o.1;have:=b.o;omega
 have acJ:¬c=i+1:=by have:=d.o.1;have:=b.o;omega
 have il2:(i:Int)<=L+1:=κ
 have il1:(i:Int)+1<=L+1:=κ
 have il0:(0:Int)<=(i:Int)+1:=κ
 have iw:IntKind.i64.wrap ((i:Int)+1)=(i:Int)+1:=by
  have:=bQ (i+1) κ
  rwa [show ((i+1:Nat):Int)=(i:Int)+1 by omega] at this
 have it1:((i:Int)+1).toNat=i+1:=κ
 go_wp2_with (refine fF rfl _ _ rfl _ _ _ _ _ _ rfl rfl G (i*3) _ z.o.2.1 [it] (bT (show 1<=L+1-i by omega)).symm (fun _=>⟨rfl,vr,vo,rfl,z.o.2.2.1⟩) (by rw[d.o.2.2.1];show i*3+1*3<=_;have:=d.o.1;have:=b.o;omega) ?_;intro W n A;refine Hid.o ?_);refine aa ?_;rw[<-d.o.2.2.2.1,gE rfl] at n;have r:(aj.cells [it]).length=3:=by rw[bZ];rfl
 obtain⟨p,Y⟩:=ξx (Z.drop (aj.cells [it]).length);rw[<-Y,<-aD] at n;have y:p.length+3+i*3=c*3:=by rw[Y,aS,r];have:=d.o.2.2.1;rw[aq,d.o.2.2.2.1] at this;have:=d.o.1;have:=b.o;omega
 have s:=aa (show (aj.cells (l.take i)++aj.cells [it]).length=(i+1)*3 by rw[aq,d.o.2.2.2.1,r];omega);have I:g≠G:=by have:=b.o.1;have:=z.o.2.2.2.2;omega
 have v:=aa (show W.heap[G]?=av (dg ((aj.cells (l.take i)++aj.cells [it])++p).toArray 175 (0,0))/\Below w.heap.size w W/\bg aj W g (i*3) (l.drop i)/\p.length+3+i*3=c*3 from⟨n,z.o.1.trans ⟨A.os,A.tape,A.output,A.size,fun k J=>A.block k (by have:=z.o.1.size;omega) (by have:=z.o.2.2.2.2;omega)⟩,z.o.2.2.2.1.but A I,y⟩);clear n A r Y y;go_wp2_with (refine wp_region_any η ?_;refine Hid.o ?_);refine aa ?_;try (change wpAny _ _ _ _ _ _ _ (bu _))
 refine tk 0 ?_;refine tk 1 ?_;refine tk 2 ?_;refine tk 3 ?_;refine tk 4 ?_;refine tk 5 ?_;refine tk 6 ?_;refine tk 7 ?_;try simp only[Act.put,aC,aB,ay]
 refine rd [8] (rn fun K hK=> ?_);refine gD _ _ rfl _ _ _ _ _ _ rfl rfl G ((i+1)*3) _ v.o.1 (l.drop i) (by rw[aS,<-b.o.2.2.2.2.2.2];exact (Nat.min_eq_right κ).symm) (fun _=>⟨rfl,g,i*3,rfl,v.o.2.2.1⟩) (by rw[aq,s.o,aS];have:=v.o.2.2.2;have:=d.o.1;have:=b.o;omega) ?_;intro w3 M q;refine hK _ _ ?_;clear hK K;refine wpAny_done η ?_ _;have q:=(aE.refl (fun k=>k=G) W).drew.trans q (fun _ _ h=>h);rw[<-s.o,gE rfl] at M
 have HE:=aa (show iy B w (cx (av ⟨g,0,aK⟩) L L) (l.take i++it::l.drop i) (c8 (cx (av ⟨G,0,aK⟩) (L+1) c)) w3 from by
  have hcs:aj.cells (l.take i++it::l.drop i)++p.drop (aj.cells (l.drop i)).length=(aj.cells (l.take i)++aj.cells [it])++(aj.cells (l.drop i)++p.drop (aj.cells (l.drop i)).length):=by rw[Elem.cj,Elem.bS,Elem.bS,Elem.BL,bh];simp only[aD]
  have DH:Below w.heap.size w w3:=v.o.2.1.trans ⟨q.os,q.tape,q.output,q.size,fun k J=>q.block k (by have:=v.o.2.1.size;omega) (by have:=z.o.2.2.2.2;omega)⟩;refine⟨_,rfl,gq (R:=p.drop (aj.cells (l.drop i)).length) (by rw[hcs];exact M) ?_ ?_ d.o.1 d.o.2.1 (by have:=z.o.2.2.2.2;have:=b.o;omega),aE.aF DH _,dc fun k J=> ?_,fun _=>rfl⟩;·rw[hcs,aq,s.o,aq,aS,d.o.2.2.2.2];have:=v.o.2.2.2;have:=d.o.1;have:=b.o;omega
  ·rw[aq,a_,aJ,aS];have:=b.o;omega
  ·have e:av G=av k:=J;injection e with e;have:=z.o.2.2.2.2;omega)
 clear M q;go_wp2;go_ret;exact HE.o
end
theorem DQ (w:World) (o cap i:Nat) (l:List It) (h:bk 0 w (cx (av ⟨o,0,aK⟩) l.length cap) l) (hi:i<l.length) (hl:l.length<=400):
  Calls prog 203 #[cx (av ⟨o,0,aK⟩) l.length cap,bf ct i,bf ct (i+1:Nat)] w fun e w'=>e=c8 (cx (av ⟨o,0,aK⟩) (l.length-1) cap)/\bk 0 w' (cx (av ⟨o,0,aK⟩) (l.length-1) cap) (l.take i++l.drop (i+1))/\aE (fun k=>k=o) w w':=by
 obtain⟨_,b,Z⟩:=jg h;have c:=Own.upto h i κ;have Q:=aa c;obtain⟨M,r⟩:∃M,l.length=M+1:=⟨l.length-1,κ⟩;rw[r] at hi hl b h |-;have H:=aa (show i<l.length/\l.length=M+1/\M+1<=cap from⟨κ,r,b⟩);have L:l.drop (i+1)≠[]->bg aj w o ((i+1)*3) (l.drop (i+1)):=fun _=>by have:=(Own.lies h).part (i+1) (l.length-(i+1)) κ;rw[bG,bD (by rw[aS];exact af _)] at this;exact this
 rw[Nat.add_sub_cancel];have F:(i:Int)+1<=M+1:=κ
 have A:(i:Int)<=i+1:=κ
 have u:(0:Int)<=(i:Int)+1:=κ
 have v:(i:Int)<=M+1:=κ
 have x:i<=M:=κ
 have m:i+(M-i)=M:=κ
 have y:(cap:Int)<=9223372036854775807:=by unfold maxLen at Z;omega
 have J:(M:Int)+1<=cap:=κ
 have z:i<=cap:=κ
 have C:¬cap=M:=κ
 have G:¬cap=i:=κ
 have N:IntKind.i64.wrap ((i:Int)+1)=(i:Int)+1:=by grind [bQ]
 have I:((i:Int)+1).toNat=i+1:=κ
 have a:((i:Int)==(i:Int)+1)=false:=θ
 clear c h r Z;by_cases s:cap=i+1
 ·have n:l.drop (i+1)=[]:=gj zaU;have d:=aa (show l.drop (i+1)≠[]->bg aj w.drew o 0 (l.drop (i+1)) from fun hn=>absurd n hn);clear L n;subst s;obtain rfl:i=M:=by omega
  go_enter func203,ntmps203;go_wp2_with (refine wp_region_any η ?_;refine Hid.o ?_);refine aa ?_;try (change wpAny _ _ _ _ _ _ _ (bu _))
  refine tk 0 ?_;refine tk 1 ?_;refine tk 2 ?_;refine tk 3 ?_;refine tk 4 ?_;refine tk 5 ?_;try simp only[Act.put,aC,aB,ay]
  refine rd [6] (rn fun K p=> ?_);refine qp _ _ rfl o i (i+1) rfl (show bk 0 w.drew (cx (av ⟨o,0,aK⟩) i (i+1)) (l.take i) from Q.o) (by rw[aJ];have:=H.o;omega) _ _ _ _ (l.drop (i+1)) rfl (by rw[aS];have:=H.o;omega) (fun a=>d.o a) zaU ?_;intro W f g;refine p _ _ ?_;clear p K;refine tk 7 ?_;refine wpAny_done η ?_ _;rw[show i+0=i by omega] at f |-;have j:=aa (show bk 0 W (cx (av ⟨o,0,aK⟩) i (i+1)) (l.take i++l.drop (i+1))/\aE (fun k=>k=o) w W from⟨f,⟨g.os,g.tape,g.output,g.size,fun k t hn=>g.block k t (fun e=>hn zbp)⟩⟩);clear f g;obtain⟨vs,D⟩:=gC W o i (i+1) (l.take i++l.drop (i+1)) j.o.1 1 κ ξ;go_wp2;go_ret;have q:=Own.cleared (K:=aj) (E:=175) (B:=0) vs W (i*3) j.o.1 (by rw[aq,aJ,aS];have:=H.o;show _*3<=_;omega);exact⟨rfl,q.1,j.o.2.trans q.2 (fun _ _ e=>e)⟩
 ·have d:=aa (show l.drop (i+1)≠[]->bg aj w.drew o ((i+1)*3) (l.drop (i+1)) from L);clear L;go_enter func203,ntmps203;go_wp2_with (refine wp_region_any η ?_;refine Hid.o ?_);refine aa ?_;try (change wpAny _ _ _ _ _ _ _ (bu _))
  refine tk 0 ?_;refine tk 1 ?_;refine tk 2 ?_;refine tk 3 ?_;refine tk 4 ?_;refine tk 5 ?_;try simp only[Act.put,aC,aB,ay]
  refine rd [6] (rn fun K p=> ?_);refine qp _ _ rfl o i cap rfl (show bk 0 w.drew (cx (av ⟨o,0,aK⟩) i cap) (l.take i) from Q.o) (by rw[aJ];have:=H.o;omega) _ _ _ _ (l.drop (i+1)) rfl (by rw[aS];have:=H.o;omega) (fun a=>d.o a) zaU ?_;intro W f g;refine p _ _ ?_;clear p K;refine tk 7 ?_;refine wpAny_done η ?_ _;rw[m] at f |-;have j:=aa (show bk 0 W (cx (av ⟨o,0,aK⟩) M cap) (l.take i++l.drop (i+1))/\aE (fun k=>k=o) w W from⟨f,⟨g.os,g.tape,g.output,g.size,fun k t hn=>g.block k t (fun e=>hn zbp)⟩⟩);clear f g;obtain⟨vs,D⟩:=gC W o M cap (l.take i++l.drop (i+1)) j.o.1 1 κ ξ;go_wp2;go_ret;have q:=Own.cleared (K:=aj) (E:=175) (B:=0) vs W (M*3) j.o.1 (by rw[aq,aJ,aS];have:=H.o;show _*3<=_;omega);exact⟨rfl,q.1,j.o.2.trans q.2 (fun _ _ e=>e)⟩
theorem Nx (W:World) (d:Nat) (a b:Option Nat) (ha:∀p,a=av p->∃cur t,W.heap[p]?=av (dg cur t (0,0))) (j:∀p,b=av p->∃cur t,W.heap[p]?=av (dg cur t (0,0))):
  (Op.equalIn (d+1) 165 (.pointer (pa a)) (.pointer (pa b))).run prog W=.ok (decide (a=b)) W:=by
 have hu:prog.underlying 165=av (.pointer 170):=underlying165;have i:∀w:World,(sizeOf 170).run prog w=.ok 8 w:=fun w=>η
 cases a with
 |none=>cases b<;>simp[pa,Op.equalIn,run_underlying hu]
 |some a=>
  cases b with
  |none=>simp[pa,Op.equalIn,run_underlying hu]
  |some b=>
   obtain⟨C,T,H⟩:=ha a rfl;obtain⟨cb,tb,c⟩:=j b rfl;by_cases e:a=b;·subst e;simp[pa,Op.equalIn,run_underlying hu,i,run_sameAddr_same]
   ·have f:(⟨a,0,aK⟩:Addr)≠⟨b,0,aK⟩:=(by intro h;injection h with h;exact e h);have g:=run_sameAddr_other (P:=prog) (w:=W) f H c;simp[pa,Op.equalIn,run_underlying hu,i,g,e]
def DR (l m:List It) (w:World) (e:Ending) (w':World):Prop:=∃b,e=c8 (ey b)/\(b=true↔l=m)/\Below w.heap.size w w'
def Ge (w:World) (l:List It):Prop:=∀i∈l,∀p,i.node=av p->∃cur t,w.heap[p]?=av (dg cur t (0,0))
theorem Ge.below {w w':World} {l:List It} (h:Ge w l) (H:Below w.heap.size w w'):Ge w' l:=fun i hi p hp=>by obtain⟨cur,t,hc⟩:=h i hi p hp;exact⟨cur,t,by rw[H.block p (fY.1 hc).1];exact hc⟩
theorem zai {G:Prop} (h:G:=by
 refine wpAny_done η ?_ _
 have P:=aa (show DR l m w (c8 (ey false)) wr.drew from⟨false,rfl,⟨fun h=>χ,fun h=>absurd h (n.o.2.2.2.resolve_left Y.o)⟩,d.o.drew⟩)
 go_wp2
 go_ret
 exact P.o):G:=h
theorem Gf (w:World) (G O c1 D E c2:Nat) (l m:List It) (F:bg aj w G O l) (J:bg aj w D E m) (hl:l.length<=400) (X:m.length<=400) (q:Ge w l) (r:Ge w m):
  Calls prog 191 #[cx (av ⟨G,O,aK⟩) l.length c1,cx (av ⟨D,E,aK⟩) m.length c2] w fun e w'=>DR l m w e w':=by
 have R:(l.length:Int)<=400:=κ
 have Z:(m.length:Int)<=400:=κ
 by_cases k:l.length=m.length
 ·have v:=aa (And.intro F (And.intro J k));have M:=aa (And.intro q r);rw[<-k];clear F J q r;obtain⟨L,A⟩:=ξx l.length;rw[<-A] at R |-;have B:=aa A;clear A;go_enter func191,ntmps191;go_wp2
  go_loopw [13] (fun I wr=>∃j:Nat,j<=L/\I=bf ct j/\Hid (l.take j=m.take j)/\Hid (Below w.heap.size w wr)) (fun I _=>L-(RowKit.intOf I).toNat)
  case atStart=>exact⟨0,aA _,rfl,aa rfl,aa (Below.refl _ _)⟩
  case round=>
   obtain⟨j,N,rfl,Q,d⟩:=hrel;by_cases f:j<L
   ·have S:(j:Int)<L:=κ;have b:j<l.length:=(by rw[<-B.o];exact f);have g:j<m.length:=(by rw[<-v.o.2.2];exact b);obtain⟨a0,a1,a2⟩:=bt (eX v.o.1 d.o) j b;obtain⟨b0,b1,b2⟩:=bt (eX v.o.2.1 d.o) j g
    have n:=aa (show j<L/\l.take (j+1)=l.take j++[l[j]]/\m.take (j+1)=m.take j++[m[j]]/\(l[j]=m[j]\/l≠m) from⟨f,cz b,cz g,by
     by_cases h:l[j]=m[j];·exact cS h
     ·exact dc (by rintro rfl;exact h rfl)⟩)
    have s:Ge wr.drew l:=M.o.1.below d.o.drew;have t:Ge wr.drew m:=M.o.2.below d.o.drew;have z:(Op.equalIn 9999 165 (dr (pa l[j].node)) (dr (pa m[j].node))).run prog wr.drew=.ok (decide (l[j].node=m[j].node)) wr.drew:=Nx wr.drew 9998 _ _ (s _ (bp b)) (t _ (bp g));have a:(l[j].key=m[j].key/\l[j].val=m[j].val/\l[j].node=m[j].node)↔l[j]=m[j]:=(by cases l[j];cases m[j];simp only[It.mk.injEq]);generalize l[j]=x at*;generalize m[j]=y at*;clear f N b g s t;by_cases i:x.key=y.key
    ·have C:(bs x.key).toList=(bs y.key).toList:=(by rw[i]);by_cases p:x.val=y.val
     ·have T:(bs x.val).toList=(bs y.val).toList:=(by rw[p]);by_cases hn:x.node=y.node
      ·have u:x=y:=a.1 ⟨i,p,hn⟩;have c:decide (x.node=y.node)=true:=decide_eq_true hn;rw[c] at z;have Y:=aa u;clear i p hn c a u;go_wp2_with fail;go_wp2_with (refine wp_region_any η ?_;refine Hid.o ?_);refine aa ?_;try (change wpAny _ _ _ _ _ _ _ (bu _))
       refine tk 0 ?_;refine tk 1 ?_;refine tk 2 ?_;refine tk 4 ?_;refine tk 5 ?_;refine tk 6 ?_;try simp only[Act.put,aC,aB,ay]
       refine rd [3,7] (AllReady.cons rfl (fun K H=> ?_) (rn fun K H=> ?_))
       focus
        go_simp
        refine H _ _ ?_;clear H K
        refine rd [7] (rn fun K H=> ?_)
        go_simp
        refine H _ _ ?_;clear H K
        refine rd [8] (rn fun K H=> ?_)
        go_simp
        refine H _ _ ?_;clear H K
       rotate_left
       focus
        go_simp
        refine H _ _ ?_;clear H K
        refine rd [3] (rn fun K H=> ?_)
        go_simp
        refine H _ _ ?_;clear H K
        refine rd [8] (rn fun K H=> ?_)
        go_simp
        refine H _ _ ?_;clear H K
       all_goals
        refine wpAny_done η ?_ _
        have W:=aa (show l.take (j+1)=m.take (j+1) by rw[n.o.2.1,n.o.2.2.1,Q.o,Y.o])
        have P:=aa (show Below w.heap.size w wr.drew from d.o.drew)
        go_wp2
        go_roundw
        case rel=>exact⟨j+1,n.o.1,ς,W,P⟩
        case measure=>have:=n.o.1;simp[RowKit.intOf];omega
      ·have c:decide (x.node=y.node)=false:=decide_eq_false hn;rw[c] at z;have Y:=aa (show ¬x=y from fun e=>hn (a.2 e).2.2);clear i p hn c a;go_wp2_with fail;go_wp2_with (refine wp_region_any η ?_;refine Hid.o ?_);refine aa ?_;try (change wpAny _ _ _ _ _ _ _ (bu _))
       refine tk 0 ?_;refine tk 1 ?_;refine tk 2 ?_;refine tk 4 ?_;refine tk 5 ?_;refine tk 6 ?_;try simp only[Act.put,aC,aB,ay]
       refine rd [3,7] (AllReady.cons rfl (fun K H=> ?_) (rn fun K H=> ?_))
       focus
        go_simp
        refine H _ _ ?_;clear H K
        refine rd [7] (rn fun K H=> ?_)
        go_simp
        refine H _ _ ?_;clear H K
        refine rd [8] (rn fun K H=> ?_)
        go_simp
        refine H _ _ ?_;clear H K
       rotate_left
       focus
        go_simp
        refine H _ _ ?_;clear H K
        refine rd [3] (rn fun K H=> ?_)
        go_simp
        refine H _ _ ?_;clear H K
        refine rd [8] (rn fun K H=> ?_)
        go_simp
        refine H _ _ ?_;clear H K
       all_goals
        exact zai
     ·have T:¬(bs x.val).toList=(bs y.val).toList:=(by rw[bN,bN];exact p);have Y:=aa (show ¬x=y from fun e=>p (a.2 e).2.1);clear i p z a;go_wp2_with fail;go_wp2_with (refine wp_region_any η ?_;refine Hid.o ?_);refine aa ?_;try (change wpAny _ _ _ _ _ _ _ (bu _))
      refine tk 0 ?_;refine tk 1 ?_;refine tk 2 ?_;refine tk 4 ?_;refine tk 5 ?_;refine tk 6 ?_;try simp only[Act.put,aC,aB,ay]
      refine rd [3,7] (AllReady.cons rfl (fun K H=> ?_) (rn fun K H=> ?_))
      focus
       go_simp
       refine H _ _ ?_;clear H K
       refine rd [7] (rn fun K H=> ?_)
       go_simp
       refine H _ _ ?_;clear H K
       refine rd [8] (rn fun K H=> ?_)
       go_simp
       refine H _ _ ?_;clear H K
      rotate_left
      focus
       go_simp
       refine H _ _ ?_;clear H K
       refine rd [3] (rn fun K H=> ?_)
       go_simp
       refine H _ _ ?_;clear H K
       refine rd [8] (rn fun K H=> ?_)
       go_simp
       refine H _ _ ?_;clear H K
      all_goals
       exact zai
    ·have C:¬(bs x.key).toList=(bs y.key).toList:=(by rw[bN,bN];exact i);have Y:=aa (show ¬x=y from fun e=>i (a.2 e).1);clear i z a;go_wp2_with fail;go_wp2_with (refine wp_region_any η ?_;refine Hid.o ?_);refine aa ?_;try (change wpAny _ _ _ _ _ _ _ (bu _))
     refine tk 0 ?_;refine tk 1 ?_;refine tk 2 ?_;refine tk 4 ?_;refine tk 5 ?_;refine tk 6 ?_;try simp only[Act.put,aC,aB,ay]
     refine rd [3,7] (AllReady.cons rfl (fun K H=> ?_) (rn fun K H=> ?_))
     focus
      go_simp
      refine H _ _ ?_;clear H K
      refine rd [7] (rn fun K H=> ?_)
      go_simp
      refine H _ _ ?_;clear H K
      refine rd [8] (rn fun K H=> ?_)
      go_simp
      refine H _ _ ?_;clear H K
     rotate_left
     focus
      go_simp
      refine H _ _ ?_;clear H K
      refine rd [3] (rn fun K H=> ?_)
      go_simp
      refine H _ _ ?_;clear H K
      refine rd [8] (rn fun K H=> ?_)
      go_simp
      refine H _ _ ?_;clear H K
     all_goals
      exact zai
   ·have S:¬(j:Int)<L:=by omega
    have U:=aa (show l=m by
     have:=Q.o
     rwa [bD (by rw[<-B.o];omega),bD (by rw[<-v.o.2.2,<-B.o];omega)] at this)
    clear f N;go_wp2;go_ret;exact (show DR l m w (c8 (ey true)) wr from⟨true,rfl,⟨fun _=>U.o,fun _=>rfl⟩,d.o⟩)
 ·have V:((l.length:Int)==m.length)=false:=by rw[beq_eq_false_iff_ne];omega
  go_enter func191,ntmps191;go_wp2;go_ret;exact (show DR l m w (c8 (ey false)) w from⟨false,rfl,⟨fun h=>χ,fun h=>absurd (congrArg List.length h) k⟩,Below.refl _ _⟩)
end
end Go.Proofs.YtgfdijemhanfkaaGreatDoor
