/- Elder texts, cut down and merged (27). -/
import Derived.Test.YtgfdijemhanfkaaGreatDoorP25
import Derived.Test.YtgfdijemhanfkaaGreatDoorP6
import Derived.Test.YtgfdijemhanfkaaGreatDoorP11
import Derived.Test.YtgfdijemhanfkaaGreatDoorPTk
set_option linter.unusedSimpArgs false
set_option linter.unusedVariables false
set_option maxRecDepth 100000
set_option maxHeartbeats 8000000
namespace Go.Proofs.YtgfdijemhanfkaaGreatDoor
open _root_.Go.Proofs.Tryz
open Option renaming none→aK,some→av
open Value renaming int→bf,pointer→dr,string→cu,tuple→ec,slice→cx,bool→ey,agg→eU
open IntKind renaming i64→ct
open Ending renaming returned→c8
open Obj renaming cells→dg
open Or renaming inl→cS,inr→dc
open Nat renaming zero_le->aA,zero_add->bG
open List renaming setIfInBounds_toArray->aC,set_cons_succ->aB,set_cons_zero->ay
open World renaming block_lt_of_cell?->bA
section
open Go.RowKit Lib
theorem YC:dx prog 162 165 dA.size:=dx.of (size:=1) (bytes:=8) (z:=.pointer aK) underlying162 η rfl ξ
abbrev Aq (B:Nat) (w:World) (v:Value) (l:Δ):Prop:=Own dA 165 B w v l
def WM (v:Value) (X:World):Nat:=
 match v with
 |dr (av a)=>match X.cell? ⟨a.block,0,aK⟩ with
  |some (bf _ n)=>n.toNat
  |_=>0
 |_=>0
theorem Cx {X:World} {q lv:Nat} (h:X.cell? ⟨q,0,aK⟩=av (bf ct lv)):WM (dr (av ⟨q,0,aK⟩)) X=lv:=by
 show (match X.cell? ⟨q,0,aK⟩ with
  |some (bf _ n)=>n.toNat
  |_=>0)=lv
 rw[h];simp
structure Fnd (tb:Nat) (key:ByteArray) (P:Nat->Nat->Value->Ψ) (Q:Nat->Nat->Value->Ψ):Prop where
 BB:∀lv q pv X,P lv q pv X->X.cell? ⟨q,0,aK⟩=av (bf ct lv)/\lv<=15/\(0<lv->Calls prog 130 #[ptr q,cu key] X fun e X'=>∃a:Nat,e=c8 (bf ct a)/\(∃v,X'.cell? ⟨q,6,aK⟩=av v)/\X'.frozen? ⟨q,6,aK⟩=false/\
  Calls prog 131 #[ptr tb,ptr q,bf ct a] (X'.setCell ⟨q,6,aK⟩ (bf ct a)) fun e iG=>∃q' nB,e=c8 (ec #[ptr q',bf ct 0])/\nB<lv/\Q nB q' pv iG)
 app:∀lv q pv X,Q lv q pv X->∃pl,Aq 0 X pv pl/\pl.length<=100/\∀W pv' W',W=X.alloc (dg #[dr (av ⟨q,0,aK⟩)] 165)->Aq 0 W' pv' (pl++[q])->W.grownBy W' pv.ownBlock->(pv'.ownBlock=pv.ownBlock\/∀k,pv'.ownBlock=av k->W.heap.size<=k)->P lv q pv' W'
section
variable {w:World} {tb:Nat}
theorem Cy {key:ByteArray} {P Q:Nat->Nat->Value->Ψ} {G0:Ψ} (hF:Fnd tb key P Q) (r:Calls prog 129 #[ptr tb] w fun e X=>(e=c8 (ec #[dr aK,bf ct 0])/\G0 X)\/∃q lv,e=c8 (ec #[ptr q,bf ct 0])/\∀W,W=X.alloc (dg #[dr (av ⟨q,0,aK⟩)] 165)->P lv q (cx (av ⟨X.heap.size,0,aK⟩) 1 1) W):
  Calls prog 87 #[ptr tb,cu key] w fun e w'=>(e=c8 (ec #[cx aK 0 0,bf ct 0])/\G0 w')\/∃q pv,e=c8 (ec #[pv,bf ct 0])/\P 0 q pv w':=by
 have f:=aa hF;have s:=aa r;clear hF r;unfold ptr at f s |-;go_enter func87,ntmps87;go_wp2_with fail;refine s.o.mono ?_;rintro e X (⟨rfl,t⟩|⟨q,lv,rfl,b⟩)
 ·have B:=aa t;clear t;go_wp2_with fail
  go_ret2
  exact cS ⟨rfl,B.o⟩
 ·obtain⟨i,n⟩:=ξx (X.alloc (dg #[dr (av ⟨q,0,aK⟩)] 165));have C:=aa (b i n);clear b;go_wp2_with fail;rw[<-n];clear n
  go_loopw [6,7,8] (fun j _ pv wr=>∃lv q,j=dr (av ⟨q,0,aK⟩)/\Hid (P lv q pv wr)) (fun j _ _ wr=>WM j wr)
  case atStart=>exact⟨lv,q,rfl,C⟩
  case round=>
   obtain⟨lv,q,rfl,b⟩:=hrel;obtain⟨c0,D,k⟩:=f.o.BB _ _ _ _ b.o;have jK:(lv:Int)<=15:=κ;by_cases F:0<lv
   ·have hpos:(lv:Int)>0:=κ;have m:=aa (k F);have I:=aa (Cx c0);clear k;go_wp2_with fail;refine m.o.mono ?_;rintro e L ⟨a,rfl,⟨v,u⟩,M,h⟩;obtain⟨W2,V⟩:=ξx (L.setCell ⟨q,6,aK⟩ (bf ct a));have S:W2.cell? ⟨q,6,aK⟩=av (bf ct a):=(by rw[V];exact World.cell?_setCell_same _ _ _ u);rw[<-V] at h;have O:=aa h;clear h c0;go_wp2_with fail;rw[<-V];clear V u M;refine O.o.mono ?_;rintro e c ⟨q',nB,rfl,d,x⟩;unfold ptr;obtain⟨pl,hown,E,T⟩:=f.o.app _ _ _ _ x;obtain⟨R,Y,Z,p⟩:=Own.slice hown;subst Z;have g:=aa (And.intro hown E);have U:=aa T;have dP:=aa d;obtain⟨N,H⟩:=ξx pl.length;rw[<-H] at g U p |-;have HN:=aa H;have Zu:(N:Int)<=100:=(by have:=g.o.2;omega);have G:=aa (show Aq 0 (c.alloc (dg #[dr (av ⟨q',0,aK⟩)] 165)) (cx R N Y) pl/\bg dA (c.alloc (dg #[dr (av ⟨q',0,aK⟩)] 165)) c.heap.size 0 [q']/\pl.length+1<=1000000000 from⟨g.o.1.alloc _,bg.dZ (K:=dA) (l:=[q']) (aW.new c #[dr (av ⟨q',0,aK⟩)] 165) rfl,by have:=g.o.2;have:=HN.o;omega⟩);clear hown T E d x H S;go_wp2_with (at_builtin;refine Hid.o ?_);refine aa ?_;refine fB (K:=dA) YC rfl _ _ rfl rfl G.o.1 (aA _) c.heap.size 0 1 1 [q'] rfl rfl G.o.2.1 G.o.2.2 ?_;intro v2 w5 y z J;have A:=aa (U.o _ v2 w5 rfl y z J);clear y z J;go_wp2_with fail;go_roundw
    case rel=>exact⟨nB,q',rfl,A⟩
    case measure=>have h1:=Cx (f.o.BB _ _ _ _ A.o).1;have h2:=I.o;have h3:=dP.o;rw[h1,h2];exact h3
   ·obtain rfl:lv=0:=by omega
    have hpos:¬((0:Nat):Int)>0:=ξ;clear k;go_wp2_with fail
    go_ret2
    exact dc ⟨q,_,rfl,b.o⟩
end
structure Eac (tb q:Nat) (lo hi:ByteArray) (fn:Nat) (caps:Array Value) (xb rg ro NL cap:Nat) (L:Nat->Ψ) (G:Bool->Ψ):Prop where
 item:∀a X,L a X->X.cell? ⟨xb,0,aK⟩=av (cu lo)/\X.cell? ⟨xb,1,aK⟩=av (cu hi)/\X.cell? ⟨q,1,aK⟩=av (cx (av ⟨rg,ro,aK⟩) NL cap)/\a<=NL/\NL<=cap/\(a=NL->G true X.drew)/\
  (a<NL->∃kb,X.cell? ⟨rg,ro+a*3,aK⟩=av (cu kb)/\Calls prog 154 #[eU #[cu lo,cu hi],cu kb] X.drew fun e X'=>∃b,e=c8 (ey b)/\X'.cell? ⟨xb,0,aK⟩=av (cu lo)/\X'.cell? ⟨xb,1,aK⟩=av (cu hi)/\X'.cell? ⟨q,1,aK⟩=av (cx (av ⟨rg,ro,aK⟩) NL cap)/\X'.cell? ⟨rg,ro+a*3,aK⟩=av (cu kb)/\(b=true->G true X')/\
   (b=false->Calls prog 184 #[ptr tb,ptr q,bf ct a] X' fun e X1=>∃q',e=c8 (ec #[ptr q',bf ct 0])/\X1.cell? ⟨xb,0,aK⟩=av (cu lo)/\X1.cell? ⟨xb,1,aK⟩=av (cu hi)/\
    Calls prog 153 #[ptr tb,ptr q',eU #[cu lo,cu hi],.func (.func fn) #[] caps] X1 fun e X2=>∃b,e=c8 (ec #[ey b,bf ct 0])/\(b=true->L (a+1) X2)/\(b=false->G false X2)))
section
variable {w:World} {tb q:Nat}
theorem Cz {lo hi:ByteArray} {fn:Nat} {caps:Array Value} {lv:Nat} {G:Bool->Ψ} (B:∀(W:World) (args:Array Value),Sem.run prog (callFunc fn args) W=.ok (.enter fn args) W) (l:lv<=15)
  (hS:∀W,W=w.alloc (dg #[cu lo,cu hi] 168)->Calls prog fn (#[ptr q]++caps) W fun e X=>∃b,e=c8 (ey b)/\(b=false->G false X)/\(b=true->X.cell? ⟨q,0,aK⟩=av (bf ct lv)/\X.cell? ⟨w.heap.size,0,aK⟩=av (cu lo)/\(lv=0->G true X)/\
   (0<lv->Calls prog 130 #[ptr q,cu lo] X fun e X1=>∃a:Nat,e=c8 (bf ct a)/\a<=400/\∃rg ro NL cap L,NL<=400/\Eac tb q lo hi fn caps w.heap.size rg ro NL cap L G/\L a X1))):
  Calls prog 153 #[ptr tb,ptr q,eU #[cu lo,cu hi],.func (.func fn) #[] caps] w fun e w'=>∃b,e=c8 (ec #[ey b,bf ct 0])/\G b w':=by
 obtain⟨m,n⟩:=ξx (w.alloc (dg #[cu lo,cu hi] 168))
 have D:=aa (hS m n)
 have jK:(lv:Int)<=15:=κ
 have M:=aa B
 clear hS l B
 unfold ptr at D |-
 go_enter func153,ntmps153
 go_wp2_with fail
 rw[<-n]
 rw[M.o,Oper.upon_enter]
 refine D.o.mono ?_
 rintro e X ⟨b,rfl,H,c⟩
 obtain⟨xb,O⟩:=ξx w.heap.size
 rw[<-O] at c |-
 clear n O
 cases b with
 |false=>
  have d:=aa (H rfl);clear H c;go_wp2_with fail
  go_ret2
  exact⟨false,rfl,d.o⟩
 |true=>
  obtain⟨c0,s0,p,r⟩:=c rfl;clear H c;by_cases E:lv=0
  ·subst E;have d:=aa (p rfl);clear p r;go_wp2_with fail
   go_ret2
   exact⟨true,rfl,d.o⟩
  ·have Zj:((lv:Int)==0)=false:=θ;have t:=aa (r (Nat.pos_of_ne_zero E));clear p r;go_wp2_with fail;refine t.o.mono ?_;rintro e X1 ⟨a,rfl,u,rg,ro,NL,cap,L,N,g,f⟩;have v:=aa g;have P:=aa f;have Qj:(a:Int)<=400:=κ;have Zu:(NL:Int)<=400:=κ;clear c0 s0 u g f N;go_wp2_with fail
   go_loopw [10,11,12,13] (fun x _ _ _ wr=>∃a:Nat,x=bf ct a/\Hid (L a wr)) (fun x _ _ _ _=>NL-(RowKit.intOf x).toNat)
   case atStart=>exact⟨a,rfl,P⟩
   case round=>
    obtain⟨a,rfl,f⟩:=hrel;obtain⟨s0,s1,F,R,U,h,Y⟩:=v.o.item _ _ f.o;have JG:(NL:Int)<=cap:=κ;by_cases y:a<NL
    ·have V:(a:Int)<NL:=κ;obtain⟨kb,Z,C⟩:=Y y;have z:=aa C;clear C h Y f;go_wp2_with (refine wp_region_held_drew (S:=(fun X=>X.cell? ⟨xb,0,aK⟩=av (cu lo)/\X.cell? ⟨xb,1,aK⟩=av (cu hi)/\X.cell? ⟨q,1,aK⟩=av (cx (av ⟨rg,ro,aK⟩) NL cap)/\X.cell? ⟨rg,ro+a*3,aK⟩=av (cu kb))) η ?_ (fun A=> ?_);focus skip;rotate_left;refine Hid.o ?_);refine aa ?_;·first|trivial|exact⟨s0,s1,F,Z⟩
     refine cN 0 A ?_;refine cN 1 A ?_;refine cN 2 A ?_;refine cN 3 A ?_;refine cN 4 A ?_;refine cN 5 A ?_;refine cN 6 A ?_;refine cN 7 A ?_;try simp only[Act.put,aC,aB,ay]
     refine cN 8 A ?_;refine cN 9 A ?_;refine cN 10 A ?_;refine cN 11 A ?_;refine cN 12 A ?_;try simp only[Act.put,aC,aB,ay]
     refine cN 13 A ?_;refine cN 14 A ?_;refine cN 15 A ?_;refine cN 16 A ?_;refine cN 17 A ?_;try simp only[Act.put,aC,aB,ay]
     refine fL [18] (fM fun K I=> ?_);go_simp;refine z.o.mono ?_;rintro e w6 ⟨b,rfl,s,i,Q,k,c,H⟩;have T:=aa (And.intro c H);refine I.out _ _ ⟨s,i,Q,k⟩ (fun A=> ?_);clear I K c H;refine cN 19 A ?_;refine cN 20 A ?_;refine wpAnyH_done η ?_ _;try simp only[Act.put,aC,aB,ay]
     cases b with
     |true=>
      have d:=aa (T.o.1 rfl);clear T;go_wp2_with fail
      go_ret2
      exact⟨true,rfl,d.o⟩
     |false=>
      have j:=aa (T.o.2 rfl);clear T;unfold ptr at j;go_wp2_with fail;refine j.o.mono ?_;rintro e w7 ⟨q',rfl,t0,t1,C⟩;have J:=aa C;clear C Q k s i;unfold ptr at J;go_wp2_with fail;refine J.o.mono ?_;rintro e w8 ⟨b,rfl,c,H⟩;clear t0 t1;cases b with
      |true=>
       have Zs:=aa (c rfl);clear c H;go_wp2_with fail;go_roundw
       case rel=>exact⟨a+1,ς,Zs⟩
       case measure=>simp[RowKit.intOf];omega
      |false=>
       have d:=aa (H rfl);clear c H;go_wp2_with fail
       go_ret2
       exact⟨false,rfl,d.o⟩
    ·obtain rfl:a=NL:=by omega
     have V:¬(a:Int)<a:=κ;have d:=aa (h rfl);clear h Y f;go_wp2_with (refine wp_region_held_drew (S:=(fun X=>X.cell? ⟨xb,0,aK⟩=av (cu lo)/\X.cell? ⟨xb,1,aK⟩=av (cu hi)/\X.cell? ⟨q,1,aK⟩=av (cx (av ⟨rg,ro,aK⟩) a cap))) η ?_ (fun A=> ?_);focus skip;rotate_left;refine Hid.o ?_);refine aa ?_;·first|trivial|exact⟨s0,s1,F⟩
     refine CZ 0 A ?_;refine CZ 1 A ?_;refine CZ 2 A ?_;refine CZ 3 A ?_;refine CZ 4 A ?_;refine CZ 5 A ?_;refine CZ 6 A ?_;refine CZ 7 A ?_;try simp only[Act.put,aC,aB,ay]
     refine OO 8 A ?_;refine OO 9 A ?_;try simp only[Act.put,aC,aB,ay]
     refine OO 10 A ?_;refine OO 11 A ?_;try simp only[Act.put,aC,aB,ay]
     refine OO 12 A ?_;refine OO 13 A ?_;try simp only[Act.put,aC,aB,ay]
     refine OO 14 A ?_;refine OO 15 A ?_;try simp only[Act.put,aC,aB,ay]
     refine OO 16 A ?_;refine OO 17 A ?_;try simp only[Act.put,aC,aB,ay]
     refine OO 18 A ?_;refine OO 19 A ?_;try simp only[Act.put,aC,aB,ay]
     refine CZ 20 A ?_;refine wpAnyH_done η ?_ _;try simp only[Act.put,aC,aB,ay]
     go_wp2_with fail
     go_ret2
     exact⟨true,rfl,d.o⟩
end
structure adh (key:ByteArray) (L:Nat->Nat->Nat->Nat->Ψ) (G:Option (List UInt8)->Ψ):Prop where
 search:∀q pr n cap X,L q pr n cap X->X.cell? ⟨pr,n,aK⟩=av (dr (av ⟨q,0,aK⟩))/\n<=100/\Calls prog 88 #[ptr q,cu key] X fun e X'=>
  (∃a:Nat,e=c8 (ec #[bf ct a,ey false])/\G aK X')\/
  (∃(a g o n' c':Nat) (v0:List UInt8),e=c8 (ec #[bf ct a,ey true])/\a<n'/\n'<=400/\X'.cell? ⟨q,1,aK⟩=av (cx (av ⟨g,o,aK⟩) n' c')/\X'.cell? ⟨g,o+a*3+1,aK⟩=av (cu (bs v0))/\v0.length<=200/\∀iG,Below X'.heap.size X' iG->G (av v0) iG)
structure adi (tb:Nat) (key:ByteArray) (L:Nat->Nat->Nat->Nat->Ψ) (N:Ψ) (G:Int->Ψ):Prop where
 search:∀q pr n cap X,L q pr n cap X->X.cell? ⟨pr,n,aK⟩=av (dr (av ⟨q,0,aK⟩))/\n<=100/\Calls prog 88 #[ptr q,cu key] X fun e X'=>
  (∃a:Nat,e=c8 (ec #[bf ct a,ey false])/\N X')\/
  (∃(a g n' c':Nat),e=c8 (ec #[bf ct a,ey true])/\a<n'/\n'<=400/\X'.cell? ⟨q,1,aK⟩=av (cx (av ⟨g,0,aK⟩) n' c')/\
   Calls prog 203 #[cx (av ⟨g,0,aK⟩) n' c',bf ct a,bf ct (a+1:Nat)] X' fun e iG=>∃(n'':Nat) (v:Value),e=c8 v/\v=cx (av ⟨g,0,aK⟩) n'' c'/\(∃u,iG.cell? ⟨q,1,aK⟩=av u)/\iG.frozen? ⟨q,1,aK⟩=false/\
    Calls prog 90 #[ptr tb,cx (av ⟨pr,0,aK⟩) (n+1) cap] (iG.setCell ⟨q,1,aK⟩ v) fun e w'=>∃c:Int,e=c8 (bf ct c)/\G c w')
section
variable {w:World} {tb:Nat}
theorem RQ {key:ByteArray} {L:Nat->Nat->Nat->Nat->Ψ} {G:Option (List UInt8)->Ψ} (b:adh key L G)
  (hF:Calls prog 87 #[ptr tb,cu key] w fun e X=>(e=c8 (ec #[cx aK 0 0,bf ct 0])/\G aK X)\/
   ∃q pr n cap,e=c8 (ec #[cx (av ⟨pr,0,aK⟩) (n+1) cap,bf ct 0])/\L q pr n cap X):
  Calls prog 51 #[ptr tb,cu key] w fun e w'=>∃v:Option (List UInt8),e=c8 (ec #[cu (bs (v.getD [])),ey v.isSome,bf ct 0])/\G v w':=by
 have c:=aa b
 have d:=aa hF
 clear b hF
 unfold ptr at c d |-
 go_enter func51,ntmps51
 go_wp2_with fail
 refine d.o.mono ?_
 rintro e X (⟨rfl,h⟩|⟨q,pr,n,cap,rfl,f⟩)
 ·have H:=aa h;clear h;go_wp2_with fail
  go_ret3
  exact⟨aK,rfl,H.o⟩
 ·have j:=aa f;clear f;obtain⟨p,r,B⟩:=c.o.search _ _ _ _ _ j.o;have Q:(n:Int)<=100:=by omega
  have k:=aa B;clear B;go_wp2_with fail;clear p;refine k.o.mono ?_;rintro e X2 (⟨a,rfl,h⟩|⟨a,g,o,n',c',v0,rfl,l,P,c1,I,x,h⟩)
  ·have H:=aa h;clear h;go_wp2_with fail
   go_ret3
   exact⟨aK,rfl,H.o⟩
  ·have R:(a:Int)<n':=κ;have s:(n':Int)<=400:=κ;have H:=aa h;clear h;go_wp2_with fail;refine (jM (bs v0) X2 zaS).mono ?_;rintro e X3 ⟨rfl,i⟩;have m:=aa i;clear i c1 I;go_wp2_with fail
   go_ret3
   exact⟨av v0,rfl,H.o _ m.o⟩
theorem RU {key:ByteArray} {L:Nat->Nat->Nat->Nat->Ψ} {N:Ψ} {G:Int->Ψ} (d:adi tb key L N G)
  (hF:Calls prog 87 #[ptr tb,cu key] w fun e X=>(e=c8 (ec #[cx aK 0 0,bf ct 0])/\N X)\/
   ∃q pr n cap,e=c8 (ec #[cx (av ⟨pr,0,aK⟩) (n+1) cap,bf ct 0])/\L q pr n cap X):
  Calls prog 148 #[ptr tb,cu key] w fun e w'=>(e=c8 (ec #[ey false,bf ct 0])/\N w')\/∃c:Int,e=c8 (ec #[ey (decide (c=0)),bf ct c])/\G c w':=by
 have f:=aa d
 have i:=aa hF
 clear d hF
 unfold ptr at f i |-
 go_enter func148,ntmps148
 go_wp2_with fail
 refine i.o.mono ?_
 rintro e X (⟨rfl,h⟩|⟨q,pr,n,cap,rfl,j⟩)
 ·have H:=aa h;clear h;go_wp2_with fail
  go_ret2
  exact cS ⟨rfl,H.o⟩
 ·have m:=aa j;clear j;obtain⟨p,x,B⟩:=f.o.search _ _ _ _ _ m.o;have Q:(n:Int)<=100:=by omega
  have r:=aa B;clear B;go_wp2_with fail;clear p;refine r.o.mono ?_;rintro e X2 (⟨a,rfl,h⟩|⟨a,g,n',c',rfl,s,P,c1,k⟩)
  ·have H:=aa h;clear h;go_wp2_with fail
   go_ret2
   exact cS ⟨rfl,H.o⟩
  ·have R:(a:Int)<n':=κ;have y:(n':Int)<=400:=κ;have l:=aa k;clear k;rw[show ((a+1:Nat):Int)=(a:Int)+1 by omega] at l;go_wp2_with fail;refine l.o.mono ?_;rintro e X3 ⟨n'',v,rfl,rfl,⟨u,D⟩,f1,b⟩;have t:=aa b;clear b c1;go_wp2_with fail;refine t.o.mono ?_;rintro e W ⟨c,rfl,h⟩;have H:=aa h;clear h D f1;by_cases hc:c=0
   ·subst hc;go_wp2_with fail
    go_ret2
    exact dc ⟨0,rfl,H.o⟩
   ·go_wp2_with fail
    go_ret2
    exact dc ⟨c,by rw[decide_eq_false hc];rfl,H.o⟩
end
structure adj (tb:Nat) (key:ByteArray) (vl:List UInt8) (L:Nat->Nat->Nat->Nat->Ψ) (G:Int->Ψ):Prop where
 search:∀q pr n cap X,L q pr n cap X->X.cell? ⟨pr,n,aK⟩=av (dr (av ⟨q,0,aK⟩))/\n<=100/\Calls prog 88 #[ptr q,cu key] X fun e X'=>
  (∃a:Nat,e=c8 (ec #[bf ct a,ey false])/\a<=400/\∃rv rn rc,X'.cell? ⟨q,1,aK⟩=av (cx rv rn rc)/\∀W ib,W=X'.alloc (dg #[cu key,cu ⟨#[]⟩,dr aK] 175)->ib=X'.heap.size->Calls prog 89 #[cx rv rn rc,bf ct a,cx (av ⟨ib,0,aK⟩) 1 1] W fun e iG=>
   ∃g n' c',e=c8 (cx (av ⟨g,0,aK⟩) n' c')/\a<n'/\n'<=c'/\n'<=401/\(∃v,iG.cell? ⟨q,1,aK⟩=av v)/\iG.frozen? ⟨q,1,aK⟩=false/\(∃v,iG.cell? ⟨g,a*3+1,aK⟩=av v)/\iG.frozen? ⟨g,a*3+1,aK⟩=false/\g≠q/\
    Calls prog 90 #[ptr tb,cx (av ⟨pr,0,aK⟩) (n+1) cap] ((iG.setCell ⟨q,1,aK⟩ (cx (av ⟨g,0,aK⟩) n' c')).setCell ⟨g,a*3+1,aK⟩ (cu (bs vl))) fun e w'=>∃c:Int,e=c8 (bf ct c)/\G c w')\/
  (∃(a g o n' c':Nat) (v0:List UInt8),e=c8 (ec #[bf ct a,ey true])/\a<n'/\n'<=400/\X'.cell? ⟨q,1,aK⟩=av (cx (av ⟨g,o,aK⟩) n' c')/\X'.cell? ⟨g,o+a*3+1,aK⟩=av (cu (bs v0))/\X'.frozen? ⟨g,o+a*3+1,aK⟩=false/\(v0=vl->G 0 X')/\
   (v0≠vl->Calls prog 90 #[ptr tb,cx (av ⟨pr,0,aK⟩) (n+1) cap] (X'.setCell ⟨g,o+a*3+1,aK⟩ (cu (bs vl))) fun e w'=>∃c:Int,e=c8 (bf ct c)/\G c w'))
section
variable {w:World} {tb:Nat}
theorem zab {G:Prop} (h:G:=by
 refine u.o.mono ?_;rintro e X2 (⟨a,rfl,ha,rv,rn,rc,c1,h⟩|⟨a,g,o,n',c',v0,rfl,m,F,c1,Z,fz,H,d⟩);·have Qj:(a:Int)<=400:=κ;obtain⟨W2,v⟩:=ξx (X2.alloc (dg #[cu key,cu ⟨#[]⟩,dr aK] 175));obtain⟨ib,f⟩:=ξx X2.heap.size;have p:=aa (h W2 ib v f);clear h;go_wp2_with fail;rw[<-v,<-f];clear v f;refine p.o.mono ?_;rintro e X3 ⟨g,n',c',rfl,m,I,F,⟨v1,y⟩,f1,⟨v2,D⟩,f2,z,i⟩;have R:(a:Int)<n':=κ;have J:(n':Int)<=401:=κ;obtain⟨X4,N⟩:=ξx (X3.setCell ⟨q,1,aK⟩ (cx (av ⟨g,0,aK⟩) n' c'));have e1:X4.cell? ⟨q,1,aK⟩=av (cx (av ⟨g,0,aK⟩) n' c'):=(by rw[N];exact World.cell?_setCell_same _ _ _ y);have e2:X4.cell? ⟨g,a*3+1,aK⟩=av v2:=(by rw[N,World.cell?_setCell_other _ _ _ _ (by intro e;injection e with e;exact z e.symm)];exact D);have r:X4.heap[g]?=X3.heap[g]?:=(by rw[N];exact ((aE.refl (fun b=>b=q) X3).setCell ⟨q,1,aK⟩ _ fun _=>rfl).block g (bA _ _ D) z);have e3:X4.frozen? ⟨g,a*3+1,aK⟩=false:=(by unfold World.frozen? at f2 |-;rw[r];exact f2);rw[<-N] at i;have s:=aa i;clear i;go_wp2_with fail;rw[<-N];clear N y f1 D f2 c1;go_wp2_with fail;refine s.o.mono ?_;rintro e K ⟨c,rfl,k⟩;have l:=aa k;clear k;go_wp2_with fail;go_ret;exact⟨c,rfl,l.o⟩
 ·have R:(a:Int)<n':=κ;have J:(n':Int)<=400:=κ;by_cases j:v0=vl;·have l:=aa (H j);have M:(bs v0).toList=(bs vl).toList:=(by rw[j]);clear H d;go_wp2_with fail;go_ret;exact⟨0,rfl,l.o⟩
  ·have s:=aa (d j);have M:((bs v0).toList==(bs vl).toList)=false:=(by rw[bN,bN];exact beq_eq_false_iff_ne.2 j);clear H d j;go_wp2_with fail;refine s.o.mono ?_;rintro e K ⟨c,rfl,k⟩;have l:=aa k;clear k;go_wp2_with fail;go_ret;exact⟨c,rfl,l.o⟩):G:=h
theorem RV {key:ByteArray} {vl:List UInt8} {L:Nat->Nat->Nat->Nat->Ψ} {G:Int->Ψ} (O:adj tb key vl L G) (Y:key.size<=96) (j:vl.length<=56)
  (hF:Calls prog 87 #[ptr tb,cu key] w fun e X=>(e=c8 (ec #[cx aK 0 0,bf ct 0])/\∀W,W=(X.alloc (dg #[bf ct 0,cx aK 0 0,bf ct (-1),cu ⟨#[]⟩,cu ⟨#[]⟩,bf ct 0,bf ct 0,ey false] 170)).alloc (dg #[dr (av ⟨X.heap.size,0,aK⟩)] 165)->L X.heap.size (X.heap.size+1) 0 1 W)\/
   ∃q pr n cap,e=c8 (ec #[cx (av ⟨pr,0,aK⟩) (n+1) cap,bf ct 0])/\L q pr n cap X):
  Calls prog 47 #[ptr tb,cu key,cu (bs vl)] w fun e w'=>∃c:Int,e=c8 (bf ct c)/\G c w':=by
 have A:=aa O
 have Q:=aa hF
 have ya:¬(key.size:Int)>96:=κ
 have Uq:¬((bs vl).size:Int)>56:=zaS
 clear O hF Y j
 unfold ptr at A Q |-
 go_enter func47,ntmps47
 go_wp2_with fail
 refine Q.o.mono ?_
 rintro e X (⟨rfl,t⟩|⟨q,pr,n,cap,rfl,t⟩)
 ·obtain⟨C,E⟩:=ξx ((X.alloc (dg #[bf ct 0,cx aK 0 0,bf ct (-1),cu ⟨#[]⟩,cu ⟨#[]⟩,bf ct 0,bf ct 0,ey false] 170)).alloc (dg #[dr (av ⟨X.heap.size,0,aK⟩)] 165));have S:=t C E;obtain⟨P,T,B⟩:=A.o.search _ _ _ _ _ S;simp only[bG] at B;have u:=aa B;have x:=aa E;clear t S B P T E;go_wp2_with fail;rw[<-x.o];obtain⟨pr,U⟩:=ξx (X.heap.size+1);rw[<-U] at u |-;clear U x;obtain⟨q,V⟩:=ξx X.heap.size;rw[<-V] at u |-;clear V;exact zab
 ·have HL:=aa t;clear t;obtain⟨P,T,B⟩:=A.o.search _ _ _ _ _ HL.o;have Qi:(n:Int)<=100:=by omega
  have u:=aa B;clear B;go_wp2_with fail;clear P;exact zab
end
end
end Go.Proofs.YtgfdijemhanfkaaGreatDoor
