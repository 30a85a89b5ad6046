/- Elder texts, cut down and merged (21). -/
import Derived.Test.YtlpfhjbpknbndaaGreatDoorP20
import Derived.Test.YtlpfhjbpknbndaaGreatDoorP18
import Derived.Test.YtlpfhjbpknbndaaGreatDoorP2
import Derived.Test.YtlpfhjbpknbndaaGreatDoorP6
import Derived.Test.YtlpfhjbpknbndaaGreatDoorP19
import Derived.Test.YtlpfhjbpknbndaaGreatDoorP17
import Derived.Laws.OwnMore
import Derived.Test.YtlpfhjbpknbndaaGreatDoorPTk
set_option maxRecDepth 100000
set_option maxHeartbeats 8000000
namespace Go.Proofs.YtlpfhjbpknbndaaGreatDoor
open Value renaming int→bf,string→bR,bool→eX,agg→iK,slice→cx,tuple→gu
open IntKind renaming i64→cu,u64→dg
open Ending renaming returned→eb
open Obj renaming cells→ey
open Or renaming inr→dn,inl→dc
open Option renaming some→aD,none→av
open Nat renaming le_refl->ah,le_succ->iN,le_trans->aH,add_assoc->gH,zero_le->aB,zero_add->bE,lt_of_le_of_lt->fP
open World renaming alloc->aC,size_alloc->aS,setCell->iX
open Bool renaming and_eq_true->eH,false_eq_true->jo
open List renaming mem_cons->aX,set_cons_zero->ay,set_cons_succ->az,length_set->bP,length_nil->ef,nil_append->dI,length_take->aO,length_append->au,length_singleton->ew
section
open Go.RowKit Lib
section
variable {w X:World} {rb n B:Nat} {l:List Bk.B} {K:Nat->Prop} {Q:World->Prop}
theorem Bf (h:BH w rb n l B K Q X) (hf:Bk.Fit l) (nm:List UInt8) (now:Nat) (k:now<2^64) (s:B<=50000000) (hn:2*l.length+38<=n):
  Calls Tryz.prog 10 #[ptr rb,bR (bs nm),bf dg now] X fun e X'=>e=eb (bf cu ((Bk.make l nm now).2:Nat))/\BH w rb n (Bk.make l nm now).1 (B+60000) K Q X':=by
 have i:=aa (nD h hf nm);unfold ptr at i |-;unfold qH at i;clear h;rcases Bk.jZ l nm with⟨E,a,c⟩|⟨E,g,a,c⟩|⟨b,E,g,a,c⟩
 ·have H:Bk.make l nm now=(l,28):=by unfold Bk.make;rw[E];rfl
  rw[H];rw[a,c] at i;clear E a c H;generalize bs nm=N at*;go_enter Tryz.func10,Tryz.ntmps10;go_wp2_with fail;refine i.o.mono ?_;rintro e w1 ⟨rfl,d⟩;have f:=aa (d.still ((Below.refl _ w1).alloc (ah _) (ey #[bR ⟨#[]⟩,bf cu 0,bf dg 0,eX false,bR ⟨#[]⟩,bf dg 0] 46)));clear d i;go_wp2;go_ret;exact⟨rfl,f.o.more (by omega)⟩
 ·have H:Bk.make l nm now=(Bk.ins l ⟨nm,0,now,false,[],0⟩,0):=by unfold Bk.make;rw[E,g];rfl
  have j:Bk.One ⟨nm,0,now,false,[],0⟩:=⟨E,by show (0:Int)<=0;decide,by show (0:Int)<=2;decide,k,rfl,by show 0<2^64;decide⟩;have q:=aa (fun W (m:BH w rb n l (B+30000) K Q W)=>Be m hf ⟨nm,0,now,false,[],0⟩ j (by omega) hn);unfold qH ptr at q;rw[H];rw[a,c] at i;simp only at q;clear E a c g H j hf;generalize Bk.ins l ⟨nm,0,now,false,[],0⟩=L at*;generalize bs nm=N at*;go_enter Tryz.func10,Tryz.ntmps10;go_wp2_with fail;refine i.o.mono ?_;rintro e w1 ⟨rfl,d⟩;have f:=aa (d.still ((Below.refl _ w1).alloc (ah _) (ey #[bR ⟨#[]⟩,bf cu 0,bf dg 0,eX false,bR ⟨#[]⟩,bf dg 0] 46)));clear d i;go_wp2_with fail;refine (q.o _ f.o).mono ?_;rintro e w3 ⟨rfl,h3⟩;have p:=aa h3;clear h3 f;go_wp2;go_ret;exact⟨rfl,p.o.more (by omega)⟩
 ·have H:Bk.make l nm now=(l,21):=by unfold Bk.make;rw[E,g];rfl
  rw[H];rw[a,c] at i;clear E a c g H hf;generalize bs nm=N at*;generalize bs b.name=r at*;generalize bs b.pre=PB at*;go_enter Tryz.func10,Tryz.ntmps10;go_wp2_with fail;refine i.o.mono ?_;rintro e w1 ⟨rfl,d⟩;have f:=aa (d.still ((Below.refl _ w1).alloc (ah _) (ey #[bR r,bf cu b.state,bf dg b.born,eX b.on,bR PB,bf dg b.after] 46)));clear d i;go_wp2;go_ret;exact⟨rfl,f.o.more (by omega)⟩
theorem F_ (h:BH w rb n l B K Q X) (hf:Bk.Fit l) (b:Bk.B) (F:b.born<2^64) (ha:b.after<2^64) (O:B<=50000000) (hn:2*l.length+38<=n):
  Calls Tryz.prog 21 #[ptr rb,qH b] X fun e X'=>e=eb (bf cu ((Bk.restore l b).2:Nat))/\BH w rb n (Bk.restore l b).1 (B+60000) K Q X':=by
 obtain⟨C,s,t,c,D⟩:=h.boxed #[bR (bs b.name),bf cu b.state,bf dg b.born,eX b.on,bR (bs b.pre),bf dg b.after] 46;have u:=aa (show ∀Y,s Y->aU Y X.heap.size 46 [bR (bs b.name),bf cu b.state,bf dg b.born,eX b.on,bR (bs b.pre),bf dg b.after] from D);have J:=aa (fun l' B' Y (G:RH w rb 4 n l' B' C s Y)=>c l' B' Y Y G (aG.refl _ _));have z:=aa (uo t (bs b.name));have N:=aa (fun W=>rZ b W);have v:=aa t;rw[bS] at z;unfold ptr at z |-;clear h t D c;cases a:Nm.bucket b.name with
 |false=>
  have d:Bk.restore l b=(l,28):=by unfold Bk.restore;rw[a];rfl
  rw[d];rw[a,if_neg (by decide)] at z;unfold qH;clear d a N hf v;generalize bs b.name=E at*;generalize bs b.pre=PB at*;go_enter Tryz.func21,Tryz.ntmps21;go_wp2_with fail;generalize aC X _=X0 at*;refine z.o.mono ?_;rintro e w1 ⟨rfl,H⟩;have f:=aa (J.o _ _ _ H);clear H z;go_wp2;go_ret;exact⟨rfl,f.o.more (by omega)⟩
 |true=>
  rw[a,if_pos rfl] at z;by_cases hc:b.state<0\/2<b.state\/Bk.wrong b.on b.pre b.after=true
  ·have d:Bk.restore l b=(l,30):=(by unfold Bk.restore;rw[a,if_neg (by decide),if_pos hc]);have g:(decide (0<=b.state)&&decide (b.state<=2)&& !Bk.wrong b.on b.pre b.after)=false:=by
    rcases hc with hc|hc|hc;·rw[decide_eq_false (by omega:¬0<=b.state)];rfl
    ·rw[decide_eq_false (by omega:¬b.state<=2),Bool.and_false,Bool.false_and]
    ·rw[hc];simp
   rw[d];rw[g] at N;unfold qH at N |-;clear d a hf v g hc;generalize bs b.name=E at*;generalize bs b.pre=PB at*;go_enter Tryz.func21,Tryz.ntmps21;go_wp2_with fail;generalize aC X _=X0 at*;generalize X.heap.size=bb at*;refine z.o.mono ?_;rintro e w1 ⟨rfl,H⟩;have f:=aa H;obtain⟨x0,x,i,j,k,m⟩:=six (u.o _ H.q);clear H z;go_wp2_with fail;refine (N.o _).mono ?_;rintro e I ⟨rfl,A⟩;have p:=aa (J.o _ _ _ (f.o.still A));clear A f x0 x i j k m;go_wp2;go_ret;exact⟨rfl,p.o.more (by omega)⟩
  ·have d:Bk.restore l b=(Bk.ins l b,0):=(by unfold Bk.restore;rw[a,if_neg (by decide),if_neg hc]);have hr:Bk.wrong b.on b.pre b.after=false:=by
    cases hr:Bk.wrong b.on b.pre b.after with
    |false=>rfl
    |true=>exact absurd (dn (dn hr)) hc
   have r:Bk.One b:=⟨a,by omega,by omega,F,hr,ha⟩;have g:(decide (0<=b.state)&&decide (b.state<=2)&& !Bk.wrong b.on b.pre b.after)=true:=(by rw[decide_eq_true r.low,decide_eq_true r.high,hr];rfl);have y:=aa (fun W (L:BH w rb n l B C s W)=>Be L hf b r (by omega) hn);rw[d];rw[g] at N;unfold qH at N y |-;unfold ptr at y;clear d a hf v g hc hr r;generalize Bk.ins l b=P at*;generalize bs b.name=E at*;generalize bs b.pre=PB at*;go_enter Tryz.func21,Tryz.ntmps21;go_wp2_with fail;generalize aC X _=X0 at*;generalize X.heap.size=bb at*;refine z.o.mono ?_;rintro e w1 ⟨rfl,H⟩;have f:=aa H;obtain⟨x0,x,i,j,k,m⟩:=six (u.o _ H.q);clear H z;go_wp2_with fail;refine (N.o _).mono ?_;rintro e I ⟨rfl,A⟩;have p:=aa (f.o.still A);clear A f x0 x i j k m;obtain⟨x0,x,i,j,k,m⟩:=six (u.o _ p.o.q);go_wp2_with fail;refine (y.o _ p.o).mono ?_;rintro e w3 ⟨rfl,h3⟩;have M:=aa (J.o _ _ _ h3);clear h3 p x0 x i j k m;go_wp2;go_ret;exact⟨rfl,M.o.more (by omega)⟩
end
namespace Bk
def abc:Text:=[97,98,99]
def Tu:List B:=[⟨abc,0,7,false,[],0⟩]
def Ga:List B:=[⟨abc,1,7,false,[],0⟩]
theorem gX:make [] abc 7=(Tu,0)/\setState Tu abc 1=(Ga,0)/\err Ga abc=0/\seen Ga abc=⟨abc,1,7,false,[],0⟩/\make Ga abc 8=(Ga,21):=by decide+kernel
theorem Xl:Fit Tu:=by
 have:=Fit.make Fit.nil abc 7 (by decide)
 rwa [gX.1] at this
theorem Tv:Fit Ga:=by
 have:=Fit.setState Xl abc 1
 rwa [gX.2.1] at this
end Bk
theorem DI {w X:World} {A:Nat->Prop} {g b xb n:Nat} (h:C1 A 200 g 1 b xb (Wl.dQ n) [] X) (hA:∀k,k<w.heap.size->A k) (H:Below w.heap.size w X) (a:3<=n) (c:n<=4098):
  BH w X.heap.size n [] 0 (fun _=>False) (fun _=>True) (X.alloc (ey #[ptr xb] 74)):=M_ h hA H a c (by decide)
theorem DJ (w:World):Calls Tryz.prog 5 #[] w fun e w'=>e=eb (eX true)/\Below w.heap.size w w':=by go_enter Tryz.func5,Tryz.ntmps5;go_wp2_with fail;refine (Dh w 40 (by decide) (by decide)).mono ?_;rintro e C ⟨g,b,rfl,H,A⟩;have a:=aa (And.intro H A);clear H A;go_wp2_with fail;refine (Cc a.o.1).mono ?_;rintro e w3 ⟨xb,rfl,h3,B⟩;have i:=aa (And.intro h3 (a.o.2.trans (B.mono a.o.2.size)));clear h3 B;go_wp2_with fail;refine (G8 w3 xb).mono ?_;rintro e D ⟨rfl,rfl⟩;have j:=aa (DI (w:=w) i.o.1 (fun k t=>t) i.o.2 (by decide) (by decide));generalize aC w3 _=W at*;generalize w3.heap.size=rb at*;have y:=aa (Bf j.o Bk.Fit.nil Bk.abc 7 (by decide) (by decide) (by decide));rw[Bk.gX.1] at y;clear a i j;unfold ptr at y |-;go_wp2_with fail;refine y.o.mono ?_;rintro e E ⟨rfl,l⟩;have K:=aa (uq l Bk.Xl Bk.abc 1 (by decide) (by decide));rw[Bk.gX.2.1] at K;unfold ptr at K;clear l y;go_wp2_with fail;refine K.o.mono ?_;rintro e F ⟨rfl,m⟩;have c:=aa (nD m Bk.Tv Bk.abc);rw[Bk.gX.2.2.1,Bk.gX.2.2.2.1,show qH ⟨Bk.abc,1,7,false,[],0⟩=iK #[bR ⟨#[97,98,99]⟩,bf cu 1,bf dg 7,eX false,bR ⟨#[]⟩,bf dg 0] from rfl] at c;unfold ptr at c;clear m K;go_wp2_with fail;refine c.o.mono ?_;rintro e n ⟨rfl,p⟩;obtain⟨I,Q,r,_,s⟩:=p.boxed #[bR ⟨#[97,98,99]⟩,bf cu 1,bf dg 7,eX false,bR ⟨#[]⟩,bf dg 0] 46;have d:=aa (DG r Bk.Tv (by decide));have u:=aa (show ∀Y,Q Y->aU Y n.heap.size 46 [bR ⟨#[97,98,99]⟩,bf cu 1,bf dg 7,eX false,bR ⟨#[]⟩,bf dg 0] from s);unfold ptr at d;clear p c r s;rw[show Bk.Ga.length=1 from rfl] at d;go_wp2_with fail;generalize n.heap.size=J at*;refine d.o.mono ?_;rintro e L ⟨M,N,O,rfl,h,G⟩;have f:=aa (Bf h Bk.Tv Bk.abc 8 (by decide) (by decide) (by decide));rw[Bk.gX.2.2.2.2] at f;unfold ptr at f;have v:=aa (fun Y x=>u.o Y (G Y x).1);clear h d G;go_wp2_with fail;refine f.o.mono ?_;rintro e P ⟨rfl,h⟩;obtain⟨x0,X,R,S,T,U⟩:=six (v.o _ h.q);have z:=aa h.below;clear h f;go_wp2;go_ret;exact⟨rfl,z.o⟩
end
namespace Bk
variable {l:List B}
theorem NA (n:Text) (now:Nat):(make l n now).1.length<=l.length+1:=by
 unfold make
 split
 ·exact iN _
 ·split
  ·exact iN _
  ·exact jd _
theorem Bg (n:Text) (s:Int):(setState l n s).1.length<=l.length+1:=by
 unfold setState
 split
 ·exact iN _
 ·split
  ·exact iN _
  ·exact aH (Nat.le_of_eq xg) (iN _)
theorem DK (n:Text) (on:Bool) (pre:Text) (after:Nat):(cU l n on pre after).1.length<=l.length+1:=by
 unfold cU
 split
 ·exact iN _
 ·split
  ·exact iN _
  ·exact aH (Nat.le_of_eq xg) (iN _)
theorem DL (b:B):(restore l b).1.length<=l.length+1:=by
 unfold restore
 split
 ·exact iN _
 ·split
  ·exact iN _
  ·exact jd _
theorem DM (n:Text):(dropped l n).1.length<=l.length+1:=by
 unfold dropped
 split
 ·exact iN _
 ·exact aH drop_length (iN _)
theorem J9 {n:Text} {b:B} (h:Nm.bucket n=true) (H:find l n=aD b):err l n=0:=by unfold err;rw[h,if_neg (by decide),H];rfl
end Bk
set_option maxRecDepth 100000
open Go.ChangeShapes Go.WideShapes Go.ChangeAt Go.RowKit Lib
theorem zP {m:Int} (h:(Lit.int dg m).wf=true):∃n:Nat,m=n/\n<2^64:=by simp only[Lit.wf,eH,decide_eq_true_eq] at h;obtain⟨H,a⟩:=h;change (0:Int)<=m at H;change m<=18446744073709551615 at a;exact⟨m.toNat,by omega,by omega⟩
structure xD where
 what:Int
 state:Int
 name:ByteArray
 now:Nat
 on:Bool
 pre:ByteArray
 after:Nat
instance:Inhabited xD:=⟨⟨0,0,.empty,0,false,.empty,0⟩⟩
structure xD.ok (x:xD):Prop where
 w1:-9223372036854775808<=x.what/\x.what<=9223372036854775807
 s1:-9223372036854775808<=x.state/\x.state<=9223372036854775807
 n1:x.now<2^64
 a1:x.after<2^64
def xD.cells (x:xD):List Value:=[bf cu x.what,bf cu x.state,bR x.name,bf dg x.now,eX x.on,bR x.pre,bf dg x.after]
def xE (w:World) (v:Value) (l:List xD):Prop:=
 ∃(a:Option Addr) (cap:Nat),v=cx a l.length cap/\l.length<=cap/\l.length<=9223372036854775807/\∀i (hi:i<l.length),l[i].ok/\∃g o,a=aD ⟨g,o,av⟩/\g<w.heap.size/\
  ∀j (h:j<l.length) m,m<7->w.cell? ⟨g,o+(j*7+m),av⟩=l[j].cells[m]?
theorem Qq {H:Type} {enc:TypeId×Value->H} {W:World} {n:Nat} {cs:List Value} {y:DataW H×List MemPlace} (C:cs.length=3)
  (h:DataW.trod enc Tryz.prog W 0 (fun _=>true) true n 38 cs=aD y):∃(on:Bool) (pre:ByteArray) (after:Nat),cs=[.bool on,.string pre,.int dg after]/\after<2^64:=by
 obtain⟨xs,k,_,_,_,a,hf⟩:=DataW.trod_struct Tryz.underlying38 h;have f:Tryz.prog.cellsOf 33=1:=by kernel_rfl
 have cb:Tryz.prog.cellsOf 4=1:=by kernel_rfl
 have c:Tryz.prog.cellsOf 9=1:=by kernel_rfl
 match xs,a,cs,C with
 |[y0,y1,y2],_,[v0,v1,v2],_=>
  have g:=hf 0 _ rfl;have G:=hf 1 _ rfl;have d:=hf 2 _ rfl;simp[f,c,cb] at g G d;obtain⟨B,e,_⟩:=DataW.trod_bool Tryz.underlying4 g;obtain⟨s1,E,_,_⟩:=DataW.trod_string Tryz.underlying9 G;obtain⟨m,b,_,j⟩:=DataW.trod_int Tryz.underlying33 d;injection e with e _;injection E with E _;injection b with b _;subst e E b;obtain⟨n,rfl,hn⟩:=zP j;exact⟨B,s1,n,rfl,hn⟩
theorem Qr {H:Type} {enc:TypeId×Value->H} {W:World} {n:Nat} {cs:List Value} {y:DataW H×List MemPlace} (C:cs.length=7)
  (h:DataW.trod enc Tryz.prog W 0 (fun _=>true) true n 40 cs=aD y):∃x:xD,cs=x.cells/\x.ok:=by
 obtain⟨xs,k,_,_,_,a,hf⟩:=DataW.trod_struct Tryz.underlying40 h;have p:Tryz.prog.cellsOf 3=1:=by kernel_rfl
 have q:Tryz.prog.cellsOf 33=1:=by kernel_rfl
 have c:Tryz.prog.cellsOf 9=1:=by kernel_rfl
 have r:Tryz.prog.cellsOf 38=3:=by kernel_rfl
 match xs,a,cs,C with
 |[y0,y1,y2,y3,y4],_,[v0,v1,v2,v3,v4,v5,v6],_=>
  have G:=hf 0 _ rfl;have j:=hf 1 _ rfl;have l:=hf 2 _ rfl;have m:=hf 3 _ rfl;have o:=hf 4 _ rfl;simp[p,q,c,r] at G j l m o;obtain⟨M,e,_,b⟩:=DataW.trod_int Tryz.underlying3 G;obtain⟨s,E,_,d⟩:=DataW.trod_int Tryz.underlying3 j;obtain⟨s2,f,_,_⟩:=DataW.trod_string Tryz.underlying9 l;obtain⟨m3,g,_,J⟩:=DataW.trod_int Tryz.underlying33 m;obtain⟨on,pre,after,i,h4⟩:=Qq rfl o;injection e with e _;injection E with E _;injection f with f _;injection g with g _;injection i with i e5;injection e5 with e5 e6;injection e6 with e6 _;subst e E f g i e5 e6;obtain⟨n,rfl,hn⟩:=zP J;exact⟨⟨M,s,s2,n,on,pre,after⟩,rfl,⟨KF b,KF d,hn,h4⟩⟩
theorem J_ {H:Type} {enc:TypeId×Value->H} {W:World} {base:Nat} {v:Value} {d:DataW H} {p:List MemPlace}
  (hval:Value.okWide Tryz.prog W .any base 22 v) (hd:DataW.Trod enc Tryz.prog W 0 (fun _=>true) true 22 v d p):∃l,xE W v l:=by
 obtain⟨a,n,cap,rfl⟩:=okWide_slice Tryz.underlying22 hval;obtain⟨f,hf⟩:=hd;obtain⟨l,a,cap,e,b,g,h3⟩:=RD (W:=W) (fun x:xD=>x.cells) (fun x=>x.ok) Tryz.underlying22 (c:=7) (by kernel_rfl) (by decide) (fun n cs y hl h=>Qr hl h) hf;exact⟨l,a,cap,e,b,g,h3⟩
theorem xE.slice {w:World} {v:Value} {l:List xD} (h:xE w v l):∃a cap,v=cx a l.length cap:=by obtain⟨a,cap,rfl,_⟩:=h;exact⟨a,cap,rfl⟩
theorem xE.at {w w':World} {l:List xD} {a:Option Addr} {n cap:Nat} (h:xE w (cx a n cap) l) (b:Below w.heap.size w w') {k:Nat} (H:k<l.length):
  ∃g o,a=aD ⟨g,o,av⟩/\(l[k]).ok/\w'.cell? ⟨g,o+k*7,av⟩=aD (bf cu (l[k]).what)/\w'.cell? ⟨g,o+k*7+1,av⟩=aD (bf cu (l[k]).state)/\w'.cell? ⟨g,o+k*7+2,av⟩=aD (bR (l[k]).name)/\w'.cell? ⟨g,o+k*7+3,av⟩=aD (bf dg (l[k]).now)/\w'.cell? ⟨g,o+k*7+4,av⟩=aD (eX (l[k]).on)/\w'.cell? ⟨g,o+k*7+5,av⟩=aD (bR (l[k]).pre)/\w'.cell? ⟨g,o+k*7+6,av⟩=aD (bf dg (l[k]).after):=by
 obtain⟨a',C,e,_,_,hi⟩:=h;injection e with e1 _ _;subst e1;obtain⟨d,g,o,rfl,c,h3⟩:=hi k H;refine⟨g,o,rfl,d, ?_, ?_, ?_, ?_, ?_, ?_, ?_⟩;·rw[b.cell (p:=⟨g,o+k*7,av⟩) c];exact h3 k H 0 (by decide)
 ·rw[b.cell (p:=⟨g,o+k*7+1,av⟩) c,gH];exact h3 k H 1 (by decide)
 ·rw[b.cell (p:=⟨g,o+k*7+2,av⟩) c,gH];exact h3 k H 2 (by decide)
 ·rw[b.cell (p:=⟨g,o+k*7+3,av⟩) c,gH];exact h3 k H 3 (by decide)
 ·rw[b.cell (p:=⟨g,o+k*7+4,av⟩) c,gH];exact h3 k H 4 (by decide)
 ·rw[b.cell (p:=⟨g,o+k*7+5,av⟩) c,gH];exact h3 k H 5 (by decide)
 ·rw[b.cell (p:=⟨g,o+k*7+6,av⟩) c,gH];exact h3 k H 6 (by decide)
section
open Go.RowKit Lib
def dm:Elem Bk.B:=⟨fun b=>[bR (bs b.name),bf cu b.state,bf dg b.born,eX b.on,bR (bs b.pre),bf dg b.after,cx av 0 0,cx av 0 0],8,by decide,fun _=>rfl,by
 intro a u hu
 simp only[aX,List.not_mem_nil,or_false] at hu
 rcases hu with rfl|rfl|rfl|rfl|rfl|rfl|rfl|rfl<;>rfl⟩
theorem Gb:dx Tryz.prog 32 53 dm.size:=dx.of (size:=8) (bytes:=112) (z:=.agg #[.string .empty,.int cu 0,.int dg 0,.bool false,.string .empty,.int dg 0,.slice av 0 0,.slice av 0 0]) Tryz.underlying32 (by kernel_rfl) rfl (by decide)
abbrev b8 (B:Nat) (w:World) (v:Value) (l:List Bk.B):Prop:=Own dm 53 B w v l
def mV (v:Value):Value:=iK #[v,bf dg 1]
theorem kH {X:World} {g o:Nat} {l:List Bk.B} (h:bu dm X g o l) (j:Nat) (H:j<l.length):
  X.cell? ⟨g,o+j*8,av⟩=aD (bR (bs l[j].name))/\X.cell? ⟨g,o+j*8+1,av⟩=aD (bf cu l[j].state)/\X.cell? ⟨g,o+j*8+2,av⟩=aD (bf dg l[j].born)/\X.cell? ⟨g,o+j*8+3,av⟩=aD (eX l[j].on)/\
  X.cell? ⟨g,o+j*8+4,av⟩=aD (bR (bs l[j].pre))/\X.cell? ⟨g,o+j*8+5,av⟩=aD (bf dg l[j].after)/\X.cell? ⟨g,o+j*8+6,av⟩=aD (cx av 0 0)/\X.cell? ⟨g,o+j*8+7,av⟩=aD (cx av 0 0):=
 ⟨h.at j 0 (by decide) H _ rfl,h.at j 1 (by decide) H _ rfl,h.at j 2 (by decide) H _ rfl,h.at j 3 (by decide) H _ rfl,h.at j 4 (by decide) H _ rfl,h.at j 5 (by decide) H _ rfl,h.at j 6 (by decide) H _ rfl,h.at j 7 (by decide) H _ rfl⟩
def jr (l:List Bk.B) (n:List UInt8):Int:=match Bk.idx l n with
 |some i=>i
 |none=>-1
theorem ig (w:World) {B:Nat} {v:Value} {l:List Bk.B} (h:b8 B w v l) (hl:l.length<=100000) (nm:List UInt8):
  Calls Tryz.prog 14 #[mV v,bR (bs nm)] w fun e w'=>e=eb (bf cu (jr l nm))/\Below w.heap.size w w':=by
 unfold mV;obtain⟨a,c,rfl,hc⟩:=Own.slice h;obtain⟨N,m⟩:∃N,N=l.length:=⟨_,rfl⟩;rw[<-m];have t:=aa (show b8 B (w.alloc (ey #[cx a N c,bf dg 1] 35)) (cx a N c) l by rw[m];exact Own.alloc h _);have D:=aa (aU.new w #[cx a N c,bf dg 1] 35);have u:=aa ((Below.refl _ w).alloc (ah _) (ey #[cx a N c,bf dg 1] 35));have K:(N:Int)<=100000:=by omega
 have X:(N:Int)<=c:=by omega
 have z:=aa m;clear h m hc hl;go_enter Tryz.func14,Tryz.ntmps14;go_wp2_with fail;generalize aC w _=W at*;have x0:=D.o.cell (j:=0) rfl
 go_loopw [5] (fun I wr=>∃i:Nat,i<=N/\I=bf cu i/\Hid (wr=W/\∀j (H:j<l.length),j<i->l[j].name≠nm)) (fun I _=>N-(RowKit.intOf I).toNat)
 case atStart=>exact⟨0,aB _,rfl,aa ⟨rfl,fun j H h=>absurd h (Nat.not_lt_zero j)⟩⟩
 case round=>
  obtain⟨i,hi,rfl,A⟩:=hrel;obtain⟨E,hg⟩:=A.o;subst E;have n:=aa hg;clear hg A;by_cases d:i<N
  ·have F:(i:Int)<N:=(by omega);have b:i<l.length:=(by rw[<-z.o];exact d);obtain⟨g,C,e,p,M,q⟩:=Own.form t.o (by omega);have G:a=aD ⟨g,0,av⟩:=(by injection e);subst G;have c0:=(kH (Own.lies t.o) i b).1;rw[bE] at c0;obtain⟨k,y⟩:∃k,k=(l[i]).name:=⟨_,rfl⟩;rw[<-y] at c0;have R:=aa y;clear y e p M q;by_cases f:k=nm
   ·have r:=aa (show jr l nm=i by
     have:Bk.idx l nm=aD i:=(by unfold Bk.idx;rw[List.findIdx?_eq_some_iff_getElem];exact⟨b,by rw[<-R.o,f];exact beq_self_eq_true _,fun j H=>by simpa using n.o j (Nat.lt_trans H b) H⟩);unfold jr;rw[this])
    have s:(bs k).toList=(bs nm).toList:=(by rw[f]);clear R;go_wp2_with fail;go_ret;rw[r.o];exact⟨rfl,u.o⟩
   ·have Q:=aa (show ∀j (H:j<l.length),j<i+1->l[j].name≠nm from fun j H L=>by
     by_cases e:j=i;·subst e;rw[<-R.o];exact f
     ·exact n.o j H (by omega))
    have s:((bs k).toList==(bs nm).toList)=false:=(by rw[bt,bt];exact beq_eq_false_iff_ne.2 f);clear R f;go_wp2_with fail;go_roundw
    case rel=>exact⟨i+1,d,by go_num,aa ⟨by trivial,Q.o⟩⟩
    case measure=>simp[RowKit.intOf];omega
  ·obtain rfl:i=N:=by omega
   have F:¬(i:Int)<i:=by omega
   have r:=aa (show jr l nm=-1 by
    have:Bk.idx l nm=none:=(by unfold Bk.idx;rw[List.findIdx?_eq_none_iff];intro x J;obtain⟨j,H,rfl⟩:=List.mem_iff_getElem.1 J;simpa using n.o j H (by rw[z.o];exact H));unfold jr;rw[this])
   go_wp2_with fail;go_ret;rw[r.o];exact⟨rfl,u.o⟩
theorem kI (w:World) {B:Nat} {v:Value} {l:List Bk.B} (h:b8 B w v l) (hl:l.length<=100000) (nm:List UInt8):
  Calls Tryz.prog 13 #[mV v,bR (bs nm)] w fun e w'=>e=eb (bf cu (Bk.err l nm:Nat))/\Below w.heap.size w w':=by
 have g:=aa (show b8 B (w.alloc (ey #[v,bf dg 1] 35)) v l from Own.alloc h _);have j:=aa (fun (W:World) (n:b8 B W v l)=>ig W n hl nm);have d:=aa ((Below.refl _ w).alloc (ah _) (ey #[v,bf dg 1] 35));have k:=aa (fun W=>lZ (bs nm) W);rw[bS] at k;unfold mV at j |-;clear h;cases H:Nm.bucket nm with
 |false=>
  have a:Bk.err l nm=28:=by unfold Bk.err;rw[H];rfl
  rw[a];rw[H] at k;clear a H;generalize bs nm=N at*;go_enter Tryz.func13,Tryz.ntmps13;go_wp2_with fail;refine (k.o _).mono ?_;rintro e w1 ⟨rfl,rfl⟩;go_wp2;go_ret;exact⟨rfl,d.o⟩
 |true=>
  rw[H] at k;cases c:Bk.idx l nm with
  |none=>
   have a:Bk.err l nm=20:=(by unfold Bk.err;rw[H,Bk.xB c];rfl);have f:jr l nm=-1:=(by unfold jr;rw[c]);rw[a];rw[f] at j;clear a H c f;generalize bs nm=N at*;go_enter Tryz.func13,Tryz.ntmps13;go_wp2_with fail;refine (k.o _).mono ?_;rintro e w1 ⟨rfl,rfl⟩;go_wp2_with fail;refine (j.o _ g.o).mono ?_;rintro e p ⟨rfl,A⟩;have F:=aa (d.o.trans (A.mono d.o.size));clear A;go_wp2;go_ret;exact⟨rfl,F.o⟩
  |some i=>
   have a:Bk.err l nm=0:=by
    have m:(Bk.find l nm).isSome=true:=(by rw[<-Bk.kG,c];rfl);unfold Bk.err;rw[H,if_neg (by decide)];cases q:Bk.find l nm with
    |none=>rw[q] at m;cases m
    |some b=>rfl
   have f:jr l nm=i:=(by unfold jr;rw[c]);rw[a];rw[f] at j;have r:¬(i:Int)<0:=(by omega);clear a H c f;generalize bs nm=N at*;go_enter Tryz.func13,Tryz.ntmps13;go_wp2_with fail;refine (k.o _).mono ?_;rintro e w1 ⟨rfl,rfl⟩;go_wp2_with fail;refine (j.o _ g.o).mono ?_;rintro e p ⟨rfl,A⟩;have F:=aa (d.o.trans (A.mono d.o.size));clear A;go_wp2;go_ret;exact⟨rfl,F.o⟩
theorem xF (v0 v1 v2 v3 v4 v5 v6 v7:Value) (b:Bk.B) (c:dm.enc b=[v0,v1,v2,v3,v4,v5,v6,v7]):∀(l:List Bk.B) (j:Nat),j<l.length->
  ((((((((dm.cells l).set (j*8) v0).set (j*8+1) v1).set (j*8+2) v2).set (j*8+3) v3).set (j*8+4) v4).set (j*8+5) v5).set (j*8+6) v6).set (j*8+7) v7=dm.cells (l.set j b)
 |[],j,h=>absurd h (Nat.not_lt_zero j)
 |a::l,0,_=>by rw[ay,dm.cR,dm.cR,c];rfl
 |a::l,j+1,h=>by
  have i:=xF v0 v1 v2 v3 v4 v5 v6 v7 b c l j (by simpa using h);have hl:(dm.enc a).length=8:=rfl;have hs:∀(ys:List Value) (m:Nat) (v:Value),(dm.enc a++ys).set ((j+1)*8+m) v=dm.enc a++ys.set (j*8+m) v:=fun ys m v=>by rw[List.set_append_right _ _ (by rw[hl];omega),hl,show (j+1)*8+m-8=j*8+m by omega]
  have H:∀(ys:List Value) (v:Value),(dm.enc a++ys).set ((j+1)*8) v=dm.enc a++ys.set (j*8) v:=fun ys v=>hs ys 0 v;rw[az,dm.cR,dm.cR,H,hs,hs,hs,hs,hs,hs,hs,i]
theorem NC {B:Nat} {X:World} {g cap n:Nat} {l:List Bk.B} (h:b8 B X (cx (aD ⟨g,0,av⟩) n cap) l) (j:Nat) (H:j<l.length) (b:Bk.B) {v0 v1 v2 v3 v4 v5 v6 v7:Value} (d:dm.enc b=[v0,v1,v2,v3,v4,v5,v6,v7]):
  b8 B ((((((((X.setCell ⟨g,j*8,av⟩ v0).setCell ⟨g,j*8+1,av⟩ v1).setCell ⟨g,j*8+2,av⟩ v2).setCell ⟨g,j*8+3,av⟩ v3).setCell ⟨g,j*8+4,av⟩ v4).setCell ⟨g,j*8+5,av⟩ v5).setCell ⟨g,j*8+6,av⟩ v6).setCell ⟨g,j*8+7,av⟩ v7) (cx (aD ⟨g,0,av⟩) n cap) (l.set j b)/\
  aG (fun k=>k=g) X ((((((((X.setCell ⟨g,j*8,av⟩ v0).setCell ⟨g,j*8+1,av⟩ v1).setCell ⟨g,j*8+2,av⟩ v2).setCell ⟨g,j*8+3,av⟩ v3).setCell ⟨g,j*8+4,av⟩ v4).setCell ⟨g,j*8+5,av⟩ v5).setCell ⟨g,j*8+6,av⟩ v6).setCell ⟨g,j*8+7,av⟩ v7):=by
 have hn:n=l.length:=by obtain⟨a,c,e,_⟩:=Own.slice h;injection e
 subst hn;have c:∀(Y:World) (k:Nat) (v:Value),aG (fun k=>k=g) X Y->aG (fun k=>k=g) X (Y.setCell ⟨g,k,av⟩ v):=fun Y k v f=>f.setCell _ _ fun _=>rfl;refine⟨?_,c _ _ _ (c _ _ _ (c _ _ _ (c _ _ _ (c _ _ _ (c _ _ _ (c _ _ _ (c _ _ _ (aG.refl _ X))))))))⟩;have s0:=(World.ownsRow.stored h (j*8) v0).1;have s1:=(World.ownsRow.stored s0 (j*8+1) v1).1;have s2:=(World.ownsRow.stored s1 (j*8+2) v2).1;have S:=(World.ownsRow.stored s2 (j*8+3) v3).1;have i:=(World.ownsRow.stored S (j*8+4) v4).1;have m:=(World.ownsRow.stored i (j*8+5) v5).1;have o:=(World.ownsRow.stored m (j*8+6) v6).1;have s:=(World.ownsRow.stored o (j*8+7) v7).1;rw[xF v0 v1 v2 v3 v4 v5 v6 v7 b d l j H] at s;unfold b8 Own;rw[bP];exact s
def Uc (b:Bk.B):Value:=iK #[bR (bs b.name),bf cu b.state,bf dg b.born,eX b.on,bR (bs b.pre),bf dg b.after,cx av 0 0,cx av 0 0]
structure Ud (w:World) (u v0 v1 v2 v3 v4 v5 v6 v7:Value) (X:World):Prop where
 below:Below w.heap.size w X
 m:aU X w.heap.size 35 [u,bf dg 1]
 b:aU X (w.heap.size+1) 53 [v0,v1,v2,v3,v4,v5,v6,v7]
 r:aU X (w.heap.size+2) 35 [cx av 0 0,bf dg 0]
theorem Ud.but {w X X':World} {u v0 v1 v2 v3 v4 v5 v6 v7:Value} {S:Nat->Prop} (h:Ud w u v0 v1 v2 v3 v4 v5 v6 v7 X) (H:aG S X X') (hS:∀k,S k->w.heap.size+2<k):Ud w u v0 v1 v2 v3 v4 v5 v6 v7 X':=
 ⟨h.below.trans (H.below h.below.size fun k a hs=>by have:=hS k hs;omega),h.m.but H (fun hs=>by have:=hS _ hs;omega),h.b.but H (fun hs=>by have:=hS _ hs;omega),h.r.but H (fun hs=>by have:=hS _ hs;omega)⟩
theorem Ud.begin (w:World) (u v0 v1 v2 v3 v4 v5 v6 v7:Value):Ud w u v0 v1 v2 v3 v4 v5 v6 v7 (((w.alloc (ey #[u,bf dg 1] 35)).alloc (ey #[v0,v1,v2,v3,v4,v5,v6,v7] 53)).alloc (ey #[cx av 0 0,bf dg 0] 35)):=by
 have h:(w.alloc (ey #[u,bf dg 1] 35)).heap.size=w.heap.size+1:=aS _ _;have H:((w.alloc (ey #[u,bf dg 1] 35)).alloc (ey #[v0,v1,v2,v3,v4,v5,v6,v7] 53)).heap.size=w.heap.size+2:=by rw[aS,h]
 have k:=aU.new (w.alloc (ey #[u,bf dg 1] 35)) #[v0,v1,v2,v3,v4,v5,v6,v7] 53;have K:=aU.new ((w.alloc (ey #[u,bf dg 1] 35)).alloc (ey #[v0,v1,v2,v3,v4,v5,v6,v7] 53)) #[cx av 0 0,bf dg 0] 35;rw[h] at k;rw[H] at K;exact⟨(((Below.refl _ w).alloc (ah _) _).alloc (by omega) _).alloc (by omega) _,((aU.new w _ _).alloc _).alloc _,k.alloc _,K⟩
theorem lG (w:World) {B:Nat} {v:Value} {l:List Bk.B} (h:b8 B w v l) (hl:l.length<=100000) (i:Nat) (hi:i<l.length) (b:Bk.B):
  Calls Tryz.prog 34 #[mV v,.int cu i,Uc b] w fun e w'=>∃v',e=eb (mV v')/\b8 w.heap.size w' v' (l.set i b)/\Below w.heap.size w w':=by
 obtain⟨a,s,rfl,hc⟩:=Own.slice h;have E:dm.enc b=[.string (bs b.name),.int cu b.state,.int dg b.born,.bool b.on,.string (bs b.pre),.int dg b.after,.slice av 0 0,.slice av 0 0]:=rfl;unfold mV Uc;have P:=aa E;obtain⟨N,q⟩:∃N,N=l.length:=⟨_,rfl⟩;rw[<-q];have t:=aa (Ud.begin w (.slice a N s) (.string (bs b.name)) (.int cu b.state) (.int dg b.born) (.bool b.on) (.string (bs b.pre)) (.int dg b.after) (.slice av 0 0) (.slice av 0 0));have u:=aa (show b8 B w (.slice a N s) l by rw[q];exact h);have n:=aa (And.intro q (And.intro hl hi));have Kg:(i:Int)<N:=by omega
 clear h E hc hl hi q;generalize bs b.name=S at*;generalize bs b.pre=T at*;generalize b.state=s1 at*;generalize b.born=s2 at*;generalize b.on=U at*;generalize b.after=V at*;go_enter Tryz.func34,Tryz.ntmps34;go_wp2_with (at_builtin;refine Hid.o ?_);refine aa ?_;have O:(((w.alloc (ey #[.slice a N s,.int dg 1] 35)).alloc (ey #[.string S,.int cu s1,.int dg s2,.bool U,.string T,.int dg V,.slice av 0 0,.slice av 0 0] 53)).alloc (ey #[.slice av 0 0,.int dg 0] 35)).heap.size=w.heap.size+1+1+1:=by rw[aS,aS,aS]
 rw[<-O];generalize aC (aC (aC w _) _) _=w3 at*;have x:=aa O;refine uX (K:=dm) Gb rfl _ _ rfl rfl (Lj dm 53 w3) (by rw[aS];omega) _ B l rfl (by rw[n.o.1] at u |-;exact Own.alloc (Own.below u.o t.o.below (ah _)) _) (by have:=n.o.2.1;rw[ef];omega) ?_;intro v2 W F I;rw[dI] at F
 have L:aG (fun k=>w3.heap.size<=k) w3 W:=((aG.refl _ w3).alloc _).grown I (by
  intro k H _;simp[Act.eval,Value.ownBlock] at H;omega)
 have g:=aa (t.o.but L (fun k H=>by omega));obtain⟨G,C,rfl,X,Z,d⟩:=Own.form F (by have:=n.o.2.2;omega);rw[<-n.o.1] at F d |-;have y:=aa F;have z:=aa (show w.heap.size+2<G by omega);have n1:¬G=w.heap.size:=by omega
 have n2:¬G=w.heap.size+1:=by omega
 have n3:¬G=w.heap.size+1+1:=by omega
 have n4:¬w.heap.size=G:=by omega
 have n5:¬w.heap.size+1=G:=by omega
 have n6:¬w.heap.size+1+1=G:=by omega
 have x0:=g.o.m.cell (j:=0) rfl;have x1:=g.o.m.cell (j:=1) rfl;have xz:=g.o.m.frozen 0;have b0:=g.o.b.cell (j:=0) rfl;have b1:=g.o.b.cell (j:=1) rfl;have b2:=g.o.b.cell (j:=2) rfl;have b3:=g.o.b.cell (j:=3) rfl;have b4:=g.o.b.cell (j:=4) rfl;have b5:=g.o.b.cell (j:=5) rfl;have b6:=g.o.b.cell (j:=6) rfl;have b7:=g.o.b.cell (j:=7) rfl;have r0:=g.o.r.cell (j:=0) rfl;have r1:=g.o.r.cell (j:=1) rfl;have R:=g.o.r.frozen 0;have A:=g.o.r.frozen 1;obtain⟨c0,c1,c2,c3,c4,c5,c6,c7⟩:=kH (Own.lies y.o) i n.o.2.2;have f:=Own.frozen y.o;have f0:=f (i*8);have f1:=f (i*8+1);have f2:=f (i*8+2);have f3:=f (i*8+3);have f4:=f (i*8+4);have f5:=f (i*8+5);have f6:=f (i*8+6);have f7:=f (i*8+7);rw[bE] at c0 c1 c2 c3 c4 c5 c6 c7;clear f F I L X Z u t O;have xM:(N:Int)<=C:=by have:=n.o.1;omega
 clear d;go_wp2;clear x0 x1 xz b0 b1 b2 b3 b4 b5 b6 b7 r0 r1 R A c0 c1 c2 c3 c4 c5 c6 c7 f0 f1 f2 f3 f4 f5 f6 f7;have J:aG (fun k=>k=w.heap.size) W (W.setCell ⟨w.heap.size,0,av⟩ (.slice (aD ⟨G,0,av⟩) N C)):=(aG.refl _ W).setCell _ _ fun _=>rfl
 obtain⟨q1,D⟩:=NC (Own.but y.o J (fun k H e=>by
  have:G=k:=by injection H
  have:=z.o;omega)) i n.o.2.2 b P.o
 have k1:=((g.o.r.but J (by omega)).but D (by omega));have k2:=(k1.set 0 (.slice (aD ⟨G,0,av⟩) N C)).set 1 (.int dg 1);generalize ((((((((iX (iX W _ _) _ _).setCell _ _).setCell _ _).setCell _ _).setCell _ _).setCell _ _).setCell _ _).setCell _ _)=p at*;have M:aG (fun k=>k=w.heap.size+2) p ((p.setCell ⟨w.heap.size+2,0,av⟩ (.slice (aD ⟨G,0,av⟩) N C)).setCell ⟨w.heap.size+2,1,av⟩ (.int dg 1)):=by have c:∀(Y:World) (k:Nat) (v:Value),aG (fun k=>k=w.heap.size+2) p Y->aG (fun k=>k=w.heap.size+2) p (Y.setCell ⟨w.heap.size+2,k,av⟩ v):=fun Y k v hY=>hY.setCell _ _ fun _=>rfl;exact c _ _ _ (c _ _ _ (aG.refl _ p))
 try simp only[Exit.inBlock,Exit.then]
 refine bodyPost_ret (aU.result rfl _ _ rfl k2 Tryz.underlying35 rfl (by kernel_rfl)) rfl ?_
 refine⟨_,rfl,Own.mono (Own.but q1 M (fun k H e=>by
  have:G=k:=by injection H
  have:=z.o;omega)) (by have:=x.o;omega), ?_⟩
 have Q:=g.o.below;have h6:=J.below (B:=w.heap.size) Q.size (fun k H e=>by omega);have h7:=D.below (B:=w.heap.size) (aH Q.size J.size) (fun k H e=>by have:=z.o;omega);have h8:=M.below (B:=w.heap.size) (aH (aH Q.size J.size) D.size) (fun k H e=>by omega);exact ((Q.trans h6).trans h7).trans h8
def oR (w w':World) (v:Value) (l l':List Bk.B) (c:Nat) (e:Ending):Prop:=∃v',e=eb (gu #[mV v',bf cu c])/\(b8 w.heap.size w' v' l'\/(v'=v/\l'=l))/\Below w.heap.size w w'
theorem fC {fn:Func} {p u:Tmp} (h:fn.results=#[.cell p 35,.tmp u]) (tmps:Array Value) {w:World} {g:Nat} {v0 v1:Value}
  (hp:tmps.getD p undef=.pointer (aD ⟨g,0,av⟩)) (hg:aU w g 35 [v0,v1]):
  (results fn tmps).run Tryz.prog w=.ok (.tuple #[.agg #[v0,v1],tmps.getD u undef]) w:=by
 rw[results_cell_tmp h,hp];simp[asAddr,run_loadVar_row w g _ 35 _ (0,0) _ hg Tryz.underlying35 rfl (by kernel_rfl),Result.andThen]
structure MX (w:World) (u:Value) (X:World):Prop where
 below:Below w.heap.size w X
 m:aU X w.heap.size 35 [u,bf dg 1]
 r:aU X (w.heap.size+1) 35 [cx av 0 0,bf dg 0]
theorem MX.but {w X X':World} {u:Value} {S:Nat->Prop} (h:MX w u X) (H:aG S X X') (hS:∀k,S k->w.heap.size+1<k):MX w u X':=
 ⟨h.below.trans (H.below h.below.size fun k a hs=>by have:=hS k hs;omega),h.m.but H (fun hs=>by have:=hS _ hs;omega),h.r.but H (fun hs=>by have:=hS _ hs;omega)⟩
theorem MX.later {w X X':World} {u:Value} (h:MX w u X) (H:Below X.heap.size X X'):MX w u X':=
 ⟨h.below.trans (H.mono h.below.size),h.m.below H h.m.lt,h.r.below H h.r.lt⟩
theorem MX.begin (w:World) (u:Value):MX w u ((w.alloc (ey #[u,bf dg 1] 35)).alloc (ey #[cx av 0 0,bf dg 0] 35)):=by have h:(w.alloc (ey #[u,bf dg 1] 35)).heap.size=w.heap.size+1:=aS _ _;have k:=aU.new (w.alloc (ey #[u,bf dg 1] 35)) #[cx av 0 0,bf dg 0] 35;rw[h] at k;exact⟨((Below.refl _ w).alloc (ah _) _).alloc (by omega) _,(aU.new w _ _).alloc _,k⟩
theorem MX.same {w X:World} {u:Value} (h:MX w u X):aU ((X.setCell ⟨w.heap.size+1,0,av⟩ u).setCell ⟨w.heap.size+1,1,av⟩ (bf dg 1)) (w.heap.size+1) 35 [u,bf dg 1]/\Below w.heap.size w ((X.setCell ⟨w.heap.size+1,0,av⟩ u).setCell ⟨w.heap.size+1,1,av⟩ (bf dg 1)):=by have c:∀(Y:World) (k:Nat) (v:Value),aG (fun k=>k=w.heap.size+1) X Y->aG (fun k=>k=w.heap.size+1) X (Y.setCell ⟨w.heap.size+1,k,av⟩ v):=fun Y k v H=>H.setCell _ _ fun _=>rfl;exact⟨(h.r.set 0 _).set 1 _,h.below.trans ((c _ _ _ (c _ _ _ (aG.refl _ X))).below h.below.size fun k a e=>by omega)⟩
theorem MX.turned {w X:World} {u U:Value} {l:List Bk.B} {base:Nat} (h:MX w u X) (H:b8 base X U l) (g:w.heap.size+1<base):
  aU (((X.setCell ⟨w.heap.size,0,av⟩ U).setCell ⟨w.heap.size+1,0,av⟩ U).setCell ⟨w.heap.size+1,1,av⟩ (bf dg 1)) (w.heap.size+1) 35 [U,bf dg 1]/\Below w.heap.size w (((X.setCell ⟨w.heap.size,0,av⟩ U).setCell ⟨w.heap.size+1,0,av⟩ U).setCell ⟨w.heap.size+1,1,av⟩ (bf dg 1))/\
  b8 w.heap.size (((X.setCell ⟨w.heap.size,0,av⟩ U).setCell ⟨w.heap.size+1,0,av⟩ U).setCell ⟨w.heap.size+1,1,av⟩ (bf dg 1)) U l:=by
 have c:∀(Y:World) (j k:Nat) (v:Value),(j=w.heap.size\/j=w.heap.size+1)->aG (fun k=>k=w.heap.size\/k=w.heap.size+1) X Y->aG (fun k=>k=w.heap.size\/k=w.heap.size+1) X (Y.setCell ⟨j,k,av⟩ v):=fun Y j k v d f=>f.setCell _ _ fun _=>d;have b:=c _ _ 1 (bf dg 1) (dn rfl) (c _ _ 0 U (dn rfl) (c _ _ 0 U (dc rfl) (aG.refl _ X)));have i:=c _ _ 0 U (dc rfl) (aG.refl _ X);refine⟨?_,h.below.trans (b.below h.below.size fun k a e=>by omega),Own.mono (Own.but H b fun k a e=>by have:=(Own.block H k a).1;omega) (by omega)⟩;have K:aU (X.setCell ⟨w.heap.size,0,av⟩ U) (w.heap.size+1) 35 [cx av 0 0,bf dg 0]:=h.r.other _ _ (by show w.heap.size+1≠w.heap.size;omega);exact (K.set 0 _).set 1 _
structure Xm (w:World) (u:Value) (B bb:Nat) (b:Bk.B) (out:List Bk.B) (ov:Value) (X:World):Prop where
 x:MX w u X
 own:b8 (bb+1) X ov out
 b:aU X bb 53 (dm.enc b)
 qo:w.heap.size+1<bb
theorem Xm.app {w X W X':World} {u ov v':Value} {B bb:Nat} {b:Bk.B} {out out':List Bk.B} {o:Obj} (h:Xm w u B bb b out ov X) (a:W=X.alloc o) (c:b8 (bb+1) X' v' out') (hg:W.grownBy X' ov.ownBlock):Xm w u B bb b out' v' X':=by have H:aG (fun k=>bb+1<=k) X X':=((aG.refl _ X).alloc o).grown (by rw[<-a];exact hg) (fun k e _=>(Own.block h.own k e).1);exact⟨h.x.but H fun k d=>by have:=h.qo;omega,c,h.b.but H (by omega),h.qo⟩
theorem uU (X:World) (x:Bk.B):bu dm (X.alloc (ey #[bR (bs x.name),bf cu x.state,bf dg x.born,eX x.on,bR (bs x.pre),bf dg x.after,cx av 0 0,cx av 0 0] 53)) X.heap.size 0 [x]:=bu.fN (aU.new X _ _) rfl
theorem DN (X:World) {b:Bk.B} {cs:List Value} (h:dm.enc b=cs):bu dm (X.alloc (ey cs.toArray 53)) X.heap.size 0 [b]:=bu.fN (aU.new X _ _) (by rw[<-h];simp[Elem.cells])
theorem ur (w:World) {B:Nat} {v:Value} {l:List Bk.B} (h:b8 B w v l) (hl:l.length<=100000) (hg:Bk.Good l) (nm:List UInt8) (now:Nat):
  Calls Tryz.prog 11 #[mV v,bR (bs nm),bf dg now] w fun e w'=>oR w w' v l (Bk.make l nm now).1 (Bk.make l nm now).2 e:=by
 obtain⟨a,s,rfl,hc⟩:=Own.slice h;have t:=aa (fun (W:World) (hW:b8 B W (cx a l.length s) l)=>ig W hW hl nm);have u:=aa (fun W=>lZ (bs nm) W);rw[bS] at u;obtain⟨N,hN⟩:∃N,N=l.length:=⟨_,rfl⟩;rw[<-hN] at h hc hl t |-;have c:=aa (MX.begin w (cx a N s));have HO:=aa h;have HN:=aa (And.intro hN hl);have NF:=aa hg;unfold mV at t |-;have IP:(N:Int)<=100000:=by omega
 have xM:(N:Int)<=s:=by omega
 clear h hc hl hN hg;cases p:Nm.bucket nm with
 |false=>
  have q:Bk.make l nm now=(l,28):=by unfold Bk.make;rw[p];rfl
  rw[q];rw[p] at u;clear q p;generalize bs nm=A at*;go_enter Tryz.func11,Tryz.ntmps11;go_wp2_with fail;generalize aC (aC w _) _=w2 at*;refine (u.o _).mono ?_;rintro e w1 ⟨rfl,rfl⟩;have x0:=c.o.m.cell (j:=0) rfl;have D:=c.o.m.cell (j:=1) rfl;have r0:=c.o.r.cell (j:=0) rfl;have r1:=c.o.r.cell (j:=1) rfl;have z0:=c.o.r.frozen 0;have z1:=c.o.r.frozen 1;go_wp2;obtain⟨Q,E⟩:=c.o.same;try simp only[Exit.inBlock,Exit.then]
  refine bodyPost_ret (fC rfl _ rfl Q) rfl ?_;exact⟨_,rfl,dn ⟨rfl,rfl⟩,E⟩
 |true=>
  rw[p] at u;cases k:Bk.idx l nm with
  |some i=>
   have q:Bk.make l nm now=(l,21):=(by have h1:(Bk.find l nm).isSome=true:=(by rw[<-Bk.kG,k];rfl);unfold Bk.make;rw[p,if_neg (by decide),h1];rfl);have F:jr l nm=i:=(by unfold jr;rw[k]);rw[q];rw[F] at t;have hii:(0:Int)<=i:=(by omega);clear q p k F;generalize bs nm=A at*;go_enter Tryz.func11,Tryz.ntmps11;go_wp2_with fail;generalize aC (aC w _) _=w2 at*;refine (u.o _).mono ?_;rintro e w1 ⟨rfl,rfl⟩;have x0:=c.o.m.cell (j:=0) rfl;have D:=c.o.m.cell (j:=1) rfl;go_wp2_with fail;refine (t.o _ (Own.below HO.o c.o.below (ah _))).mono ?_;rintro e w3 ⟨rfl,T⟩;have C:=aa (c.o.later T);clear x0 D T;have x0:=C.o.m.cell (j:=0) rfl;have D:=C.o.m.cell (j:=1) rfl;have r0:=C.o.r.cell (j:=0) rfl;have r1:=C.o.r.cell (j:=1) rfl;have z0:=C.o.r.frozen 0;have z1:=C.o.r.frozen 1;go_wp2;obtain⟨Q,E⟩:=C.o.same;try simp only[Exit.inBlock,Exit.then]
   refine bodyPost_ret (fC rfl _ rfl Q) rfl ?_;exact⟨_,rfl,dn ⟨rfl,rfl⟩,E⟩
  |none=>
   obtain⟨b,U⟩:∃b:Bk.B,b=⟨nm,0,now,false,[],0⟩:=⟨_,rfl⟩;have G:Bk.find l nm=none:=Bk.xB k;have q:Bk.make l nm now=(Bk.ins l b,0):=(by unfold Bk.make;rw[p,if_neg (by decide),G,U];rfl);have F:jr l nm=-1:=(by unfold jr;rw[k]);rw[q];rw[F] at t;have P:=aa (show dm.enc b=[bR (bs nm),bf cu 0,bf dg now,eX false,bR ⟨#[]⟩,bf dg 0,cx av 0 0,cx av 0 0] by rw[U];rfl);have Yg:=aa (show Bk.find l b.name=av by rw[U];exact G);have Rg:b.name=nm:=(by rw[U]);obtain⟨A,L⟩:∃A,A=bs nm:=⟨_,rfl⟩;have V:=aa (show A=bs b.name by rw[L,Rg]);rw[<-L] at t P u |-;clear q p k F G U Rg L;go_enter Tryz.func11,Tryz.ntmps11;go_wp2_with fail;generalize aC (aC w _) _=w2 at*;refine (u.o _).mono ?_;rintro e w1 ⟨rfl,rfl⟩;have x0:=c.o.m.cell (j:=0) rfl;have D:=c.o.m.cell (j:=1) rfl;go_wp2_with fail;refine (t.o _ (Own.below HO.o c.o.below (ah _))).mono ?_;rintro e w3 ⟨rfl,T⟩;have C:=aa (c.o.later T);clear x0 D T
   have Y:=aa (show Xm w (cx a N s) B w3.heap.size b [] (cx av 0 0) (w3.alloc (ey #[bR A,bf cu 0,bf dg now,eX false,bR ⟨#[]⟩,bf dg 0,cx av 0 0,cx av 0 0] 53)) from
    ⟨C.o.later ((Below.refl _ w3).alloc (ah _) _),Own.nil _ _ _ _,by rw[P.o];exact aU.new w3 _ _,C.o.r.lt⟩)
   go_wp2_with fail;generalize aC w3 _=w4 at*;generalize w3.heap.size=bb at*
   go_loopw [9,10,11] (fun ov dv iv wr=>∃(i:Nat) (out:List Bk.B) (Z:Bool),i<=N/\iv=bf cu i/\dv=eX Z/\Hid ((l.take i).foldl (Bk.xS b) ([],false)=(out,Z)/\Xm w (cx a N s) B bb b out ov wr)) (fun _ _ iv _=>N-(RowKit.intOf iv).toNat)
   case atStart=>exact⟨0,[],false,aB _,rfl,rfl,aa ⟨by rw[List.take_zero];rfl,Y.o⟩⟩
   case round=>
    clear Y;obtain⟨i,out,Z,hi,rfl,rfl,hR⟩:=hrel
    have qE:=aa (show out.length+3<=1000000000 by
     have h1:=(Bk.Bd b (l.take i) [] false).1;rw[hR.o.1,ef,aO] at h1;have:=HN.o;simp only at h1;omega)
    obtain⟨a8,c8,EB,Vv⟩:=Own.slice hR.o.2.own;subst EB;have H:=aa hR.o.2;have HS:=aa hR.o.1;have x0:=H.o.x.m.cell (j:=0) rfl;clear Vv hR;by_cases n:i<N
    ·have F:(i:Int)<N:=(by omega);have M:i<l.length:=(by rw[<-HN.o.1];exact n);have R:b8 B wr (cx a N s) l:=Own.below HO.o H.o.x.below (ah _);obtain⟨g,cap',e,hBg,mw,hlc⟩:=Own.form R (by omega);have e1:a=aD ⟨g,0,av⟩:=(by injection e);subst e1;obtain⟨c0,c1,c2,c3,c4,c5,c6,c7⟩:=kH (Own.lies R) i M;rw[bE] at c0 c1 c2 c3 c4 c5 c6 c7;have I:=aa (Bk.Nz b i M);rw[HS.o] at I;obtain⟨x,k⟩:∃x,x=l[i]:=⟨_,rfl⟩;rw[<-k] at c0 c1 c2 c3 c4 c5 I;have Vo:=aa k;clear k e hBg mw hlc R HS;cases Z with
     |true=>
      have sW:=aa (show (l.take (i+1)).foldl (Bk.xS b) ([],false)=(out++[x],true) by rw[I.o];exact if_neg (by simp));clear I;go_wp2_with (at_builtin;refine Hid.o ?_);refine aa ?_;refine cT (K:=dm) Gb rfl _ _ rfl rfl (Own.alloc H.o.own _) (by have:=H.o.b.lt;rw[aS];omega) wr.heap.size 0 1 1 [x] rfl rfl (uU wr x) (by have:=qE.o;omega) ?_;intro v5 S J f _;have X:=aa (H.o.app rfl J f);clear J f c0 c1 c2 c3 c4 c5 c6 c7 x0;go_wp2_with fail;go_roundw
      case rel=>exact⟨i+1,_,_,n,by go_num,rfl,aa ⟨sW.o,X.o⟩⟩
      case measure=>simp[RowKit.intOf];omega
     |false=>
      cases bK:Op.bytesLess A.toList (bs x.name).toList with
      |true=>
       have sW:=aa (show (l.take (i+1)).foldl (Bk.xS b) ([],false)=(out++[b]++[x],true) by
        rw[I.o];rw[V.o,bt,bt,Tr.lt_eq] at bK;exact if_pos ⟨rfl,bK⟩)
       have y:=H.o.b;rw[P.o] at y;have y0:=y.cell (j:=0) rfl;have y1:=y.cell (j:=1) rfl;have y2:=y.cell (j:=2) rfl;have y3:=y.cell (j:=3) rfl;have y4:=y.cell (j:=4) rfl;have y5:=y.cell (j:=5) rfl;have y6:=y.cell (j:=6) rfl;have y7:=y.cell (j:=7) rfl;clear y I;go_wp2_with (at_builtin;refine Hid.o ?_);refine aa ?_;refine cT (K:=dm) Gb rfl _ _ rfl rfl (Own.alloc H.o.own _) (by have:=H.o.b.lt;rw[aS];omega) wr.heap.size 0 1 1 [b] rfl rfl (DN wr P.o) (by have:=qE.o;omega) ?_;intro v5 S J f _;have X:=aa (H.o.app rfl J f);clear J f c0 c1 c2 c3 c4 c5 c6 c7 x0 y0 y1 y2 y3 y4 y5 y6 y7;have x0:=X.o.x.m.cell (j:=0) rfl;have R:b8 B S (cx (aD ⟨g,0,av⟩) N s) l:=Own.below HO.o X.o.x.below (ah _);obtain⟨c0,c1,c2,c3,c4,c5,c6,c7⟩:=kH (Own.lies R) i M;rw[bE] at c0 c1 c2 c3 c4 c5 c6 c7;rw[<-Vo.o] at c0 c1 c2 c3 c4 c5;clear R;go_wp2_with (at_builtin;refine Hid.o ?_);refine aa ?_;refine cT (K:=dm) (l:=out++[b]) Gb rfl _ _ rfl rfl (Own.alloc X.o.own _) (by have:=X.o.b.lt;rw[aS];omega) S.heap.size 0 1 1 [x] rfl rfl (uU S x) (by have:=qE.o;rw[au,ew];omega) ?_;intro v6 w6 nQ hg6 _;have l7:=aa (X.o.app rfl nQ hg6);clear nQ hg6 c0 c1 c2 c3 c4 c5 c6 c7 x0;go_wp2_with fail;go_roundw
       case rel=>exact⟨i+1,_,_,n,by go_num,rfl,aa ⟨sW.o,l7.o⟩⟩
       case measure=>simp[RowKit.intOf];omega
      |false=>
       have sW:=aa (show (l.take (i+1)).foldl (Bk.xS b) ([],false)=(out++[x],false) by
        rw[I.o];rw[V.o,bt,bt,Tr.lt_eq] at bK;exact if_neg (fun h=>by rw[bK] at h;cases h.2))
       clear I;go_wp2_with (at_builtin;refine Hid.o ?_);refine aa ?_;refine cT (K:=dm) Gb rfl _ _ rfl rfl (Own.alloc H.o.own _) (by have:=H.o.b.lt;rw[aS];omega) wr.heap.size 0 1 1 [x] rfl rfl (uU wr x) (by have:=qE.o;omega) ?_;intro v5 S J f _;have X:=aa (H.o.app rfl J f);clear J f c0 c1 c2 c3 c4 c5 c6 c7 x0;go_wp2_with fail;go_roundw
       case rel=>exact⟨i+1,_,_,n,by go_num,rfl,aa ⟨sW.o,X.o⟩⟩
       case measure=>simp[RowKit.intOf];omega
    ·obtain rfl:i=N:=by omega
     have F:¬(i:Int)<i:=(by omega);have O:=aa (Bk.Qn NF.o Yg.o);have hS:=HS.o;rw[HN.o.1,List.take_length] at hS;rw[hS] at O;clear hS HS;cases Z with
     |true=>
      have d:=O.o;simp only[if_true] at d;subst d;have D:=H.o.x.m.cell (j:=1) rfl;have r0:=H.o.x.r.cell (j:=0) rfl;have r1:=H.o.x.r.cell (j:=1) rfl;have z:=H.o.x.m.frozen 0;have z0:=H.o.x.r.frozen 0;have z1:=H.o.x.r.frozen 1;go_wp2;obtain⟨Q,E,q3⟩:=H.o.x.turned H.o.own (by have:=H.o.qo;omega);try simp only[Exit.inBlock,Exit.then]
      refine bodyPost_ret (fC rfl _ rfl Q) rfl ?_;exact⟨_,rfl,dc q3,E⟩
     |false=>
      have d:=O.o;simp only[jo,if_false] at d;have y:=H.o.b;rw[P.o] at y;have y0:=y.cell (j:=0) rfl;have y1:=y.cell (j:=1) rfl;have y2:=y.cell (j:=2) rfl;have y3:=y.cell (j:=3) rfl;have y4:=y.cell (j:=4) rfl;have y5:=y.cell (j:=5) rfl;have y6:=y.cell (j:=6) rfl;have y7:=y.cell (j:=7) rfl;clear y;go_wp2_with (at_builtin;refine Hid.o ?_);refine aa ?_;refine cT (K:=dm) Gb rfl _ _ rfl rfl (Own.alloc H.o.own _) (by have:=H.o.b.lt;rw[aS];omega) wr.heap.size 0 1 1 [b] rfl rfl (DN wr P.o) (by have:=qE.o;omega) ?_;intro v5 S J f _;rw[d] at J;obtain⟨a9,c9,hv9,_⟩:=Own.slice J;subst hv9;have X:=aa (H.o.app rfl J f);clear J f x0 y0 y1 y2 y3 y4 y5 y6 y7 d;have x0:=X.o.x.m.cell (j:=0) rfl;have D:=X.o.x.m.cell (j:=1) rfl;have r0:=X.o.x.r.cell (j:=0) rfl;have r1:=X.o.x.r.cell (j:=1) rfl;have z:=X.o.x.m.frozen 0;have z0:=X.o.x.r.frozen 0;have z1:=X.o.x.r.frozen 1;go_wp2;obtain⟨Q,E,q3⟩:=X.o.x.turned X.o.own (by have:=X.o.qo;omega);try simp only[Exit.inBlock,Exit.then]
      refine bodyPost_ret (fC rfl _ rfl Q) rfl ?_;exact⟨_,rfl,dc q3,E⟩
theorem DP {X:World} {g:Nat} {t:TypeId} {a a1:Value} (h:aU X g t [a,a1]) (v0 v1:Value):aU ((X.setCell ⟨g,0,av⟩ v0).setCell ⟨g,1,av⟩ v1) g t [v0,v1]/\aG (fun k=>k=g) X ((X.setCell ⟨g,0,av⟩ v0).setCell ⟨g,1,av⟩ v1):=by have c:∀(Y:World) (k:Nat) (v:Value),aG (fun k=>k=g) X Y->aG (fun k=>k=g) X (Y.setCell ⟨g,k,av⟩ v):=fun Y k v H=>H.setCell _ _ fun _=>rfl;exact⟨(h.set 0 v0).set 1 v1,c _ _ _ (c _ _ _ (aG.refl _ X))⟩
theorem MX.kX {w X:World} {u:Value} (h:MX w u X) (v0 v1:Value):aU ((X.setCell ⟨w.heap.size+1,0,av⟩ v0).setCell ⟨w.heap.size+1,1,av⟩ v1) (w.heap.size+1) 35 [v0,v1]/\aG (fun k=>k=w.heap.size+1) X ((X.setCell ⟨w.heap.size+1,0,av⟩ v0).setCell ⟨w.heap.size+1,1,av⟩ v1):=DP h.r v0 v1
namespace Bk
theorem uV {l:List B} {n:Text} (h:err l n=0):∃i,idx l n=aD i:=by
 obtain⟨_,b,H⟩:=Dl h;have:(idx l n).isSome=true:=by rw[kG,H];rfl
 exact Option.isSome_iff_exists.1 this
end Bk
theorem uB (w:World) {B:Nat} {u:Value} {l:List Bk.B} (h:b8 B w u l) (hl:l.length<=100000) (hg:Bk.Good l) (nm:List UInt8) (s:Int):
  Calls Tryz.prog 16 #[mV u,bR (bs nm),bf cu s] w fun e w'=>oR w w' u l (Bk.setState l nm s).1 (Bk.setState l nm s).2 e:=by
 obtain⟨a,t,rfl,hc⟩:=Own.slice h;obtain⟨N,Z⟩:∃N,N=l.length:=⟨_,rfl⟩;rw[<-Z] at h hc |-;have T:=aa (fun (W:World) (P:b8 B W (cx a N t) l)=>kI W P hl nm);have H:=aa (MX.begin w (cx a N t));have q:=aa h;have M:=aa (fun (W:World) (P:b8 B W (cx a N t) l)=>ig W P hl nm);have HN:=aa (And.intro Z hl);have IP:(N:Int)<=100000:=by omega
 have xM:(N:Int)<=t:=by omega
 unfold mV at T M |-;clear h Z hc;by_cases y:Bk.err l nm=0
 ·obtain⟨i,hi⟩:=Bk.uV y;obtain⟨v,hx1,hx2⟩:=Bk.iO hi;clear hx1 hx2;have hI:jr l nm=i:=by unfold jr;rw[hi]
  rw[y] at T;rw[hI] at M;by_cases hs:s≠1/\s≠2
  ·have z:Bk.setState l nm s=(l,30):=(by unfold Bk.setState;rw[y,if_neg (by simp),if_pos hs]);rw[z];have h1:(s !=1)=true:=(by rw[bne_iff_ne];exact hs.1);have h2:(s !=2)=true:=(by rw[bne_iff_ne];exact hs.2);clear z hs y hi hI v M;generalize bs nm=NM at*;go_enter Tryz.func16,Tryz.ntmps16;go_wp2_with fail;generalize aC (aC w _) _=w2 at*;refine (T.o _ (Own.below q.o H.o.below (ah _))).mono ?_;rintro e w3 ⟨rfl,f⟩;have C:=aa (H.o.later f);clear f H;have x0:=C.o.m.cell (j:=0) rfl;have X:=C.o.m.cell (j:=1) rfl;have r0:=C.o.r.cell (j:=0) rfl;have r1:=C.o.r.cell (j:=1) rfl;have z0:=C.o.r.frozen 0;have z1:=C.o.r.frozen 1;go_wp2;obtain⟨A,Q⟩:=C.o.kX (cx a N t) (bf dg 1);try simp only[Exit.inBlock,Exit.then]
   refine bodyPost_ret (fC rfl _ rfl A) rfl ?_;exact⟨_,rfl,dn ⟨rfl,rfl⟩,C.o.below.trans (Q.below C.o.below.size fun k D e=>by omega)⟩
  ·have hf:∀x:Bk.B,({x with state:=s}:Bk.B).name=x.name:=fun _=>rfl;have z:Bk.setState l nm s=(l.set i {l[i] with state:=s},0):=(by unfold Bk.setState;rw[y,if_neg (by simp),if_neg hs,Bk.uT hg hi v fun b=>{b with state:=s}]);rw[z];have Y:=aa (fun (W:World) (P:b8 B W (cx a N t) l)=>lG W P HN.o.2 i v {l[i] with state:=s});unfold Uc mV at Y;simp only at Y;have kZ:s=1\/s=2:=(by omega);have O:=aa v;clear z hs y hi hI hf hg;generalize (l.set i {l[i] with state:=s})=L2 at*;generalize bs nm=NM at*;rcases kZ with rfl|rfl
   ·go_enter Tryz.func16,Tryz.ntmps16;go_wp2_with fail;generalize aC (aC w _) _=w2 at*;refine (T.o _ (Own.below q.o H.o.below (ah _))).mono ?_;rintro e w3 ⟨rfl,f⟩;have C:=aa (H.o.later f);clear f H;have x0:=C.o.m.cell (j:=0) rfl;have X:=C.o.m.cell (j:=1) rfl;go_wp2_with fail;refine (M.o _ (Own.below q.o C.o.below (ah _))).mono ?_;rintro e d ⟨rfl,n⟩;have E:=aa (C.o.later n);clear n C x0 X;have x0:=E.o.m.cell (j:=0) rfl;have X:=E.o.m.cell (j:=1) rfl;have F:b8 B d (cx a N t) l:=Own.below q.o E.o.below (ah _);obtain⟨g,R,e,I,mw,J⟩:=Own.form F (fP (aB _) O.o);have e1:a=aD ⟨g,0,av⟩:=(by injection e);subst e1;obtain⟨c0,c1,c2,c3,c4,c5,c6,c7⟩:=kH (Own.lies F) i O.o;rw[bE] at c0 c1 c2 c3 c4 c5 c6 c7;have hii:(i:Int)<N:=(by have:=O.o;have:=HN.o.1;omega);have p:=aa (E.o.later ((Below.refl _ d).alloc (ah _) (ey #[bR (bs l[i].name),bf cu 1,bf dg l[i].born,eX l[i].on,bR (bs l[i].pre),bf dg l[i].after,cx av 0 0,cx av 0 0] 53)));have n1:¬w.heap.size=d.heap.size:=(by have:=E.o.m.lt;omega);have n2:¬d.heap.size=w.heap.size:=(by have:=E.o.m.lt;omega);have n3:w.heap.size<d.heap.size:=E.o.m.lt;have y0:=p.o.m.cell (j:=0) rfl;have y1:=p.o.m.cell (j:=1) rfl;clear I mw J F e;go_wp2_with fail;clear c0 c1 c2 c3 c4 c5 c6 c7 x0 X;generalize aC d _=w5 at*;refine (Y.o _ (Own.below q.o p.o.below (ah _))).mono ?_;rintro e w6 ⟨v',rfl,K,S⟩;have G:=aa (p.o.later S);obtain⟨a6,L,Gc,_⟩:=Own.slice K;subst Gc;have U:=aa K;have V:=aa (show w.heap.size+1<w5.heap.size from p.o.r.lt);clear K S y0 y1;have r0:=G.o.r.cell (j:=0) rfl;have r1:=G.o.r.cell (j:=1) rfl;have z0:=G.o.r.frozen 0;have z1:=G.o.r.frozen 1;go_wp2;obtain⟨A,Q⟩:=G.o.kX (cx a6 L2.length L) (bf dg 1);try simp only[Exit.inBlock,Exit.then]
    refine bodyPost_ret (fC rfl _ rfl A) rfl ?_;exact⟨_,rfl,dc (Own.mono (Own.but U.o Q fun k D e=>by have:=(Own.block U.o k D).1;have:=V.o;omega) (by have:=V.o;omega)),G.o.below.trans (Q.below G.o.below.size fun k D e=>by omega)⟩
   ·go_enter Tryz.func16,Tryz.ntmps16;go_wp2_with fail;generalize aC (aC w _) _=w2 at*;refine (T.o _ (Own.below q.o H.o.below (ah _))).mono ?_;rintro e w3 ⟨rfl,f⟩;have C:=aa (H.o.later f);clear f H;have x0:=C.o.m.cell (j:=0) rfl;have X:=C.o.m.cell (j:=1) rfl;go_wp2_with fail;refine (M.o _ (Own.below q.o C.o.below (ah _))).mono ?_;rintro e d ⟨rfl,n⟩;have E:=aa (C.o.later n);clear n C x0 X;have x0:=E.o.m.cell (j:=0) rfl;have X:=E.o.m.cell (j:=1) rfl;have F:b8 B d (cx a N t) l:=Own.below q.o E.o.below (ah _);obtain⟨g,R,e,I,mw,J⟩:=Own.form F (fP (aB _) O.o);have e1:a=aD ⟨g,0,av⟩:=(by injection e);subst e1;obtain⟨c0,c1,c2,c3,c4,c5,c6,c7⟩:=kH (Own.lies F) i O.o;rw[bE] at c0 c1 c2 c3 c4 c5 c6 c7;have hii:(i:Int)<N:=(by have:=O.o;have:=HN.o.1;omega);have p:=aa (E.o.later ((Below.refl _ d).alloc (ah _) (ey #[bR (bs l[i].name),bf cu 2,bf dg l[i].born,eX l[i].on,bR (bs l[i].pre),bf dg l[i].after,cx av 0 0,cx av 0 0] 53)));have n1:¬w.heap.size=d.heap.size:=(by have:=E.o.m.lt;omega);have n2:¬d.heap.size=w.heap.size:=(by have:=E.o.m.lt;omega);have n3:w.heap.size<d.heap.size:=E.o.m.lt;have y0:=p.o.m.cell (j:=0) rfl;have y1:=p.o.m.cell (j:=1) rfl;clear I mw J F e;go_wp2_with fail;clear c0 c1 c2 c3 c4 c5 c6 c7 x0 X;generalize aC d _=w5 at*;refine (Y.o _ (Own.below q.o p.o.below (ah _))).mono ?_;rintro e w6 ⟨v',rfl,K,S⟩;have G:=aa (p.o.later S);obtain⟨a6,L,Gc,_⟩:=Own.slice K;subst Gc;have U:=aa K;have V:=aa (show w.heap.size+1<w5.heap.size from p.o.r.lt);clear K S y0 y1;have r0:=G.o.r.cell (j:=0) rfl;have r1:=G.o.r.cell (j:=1) rfl;have z0:=G.o.r.frozen 0;have z1:=G.o.r.frozen 1;go_wp2;obtain⟨A,Q⟩:=G.o.kX (cx a6 L2.length L) (bf dg 1);try simp only[Exit.inBlock,Exit.then]
    refine bodyPost_ret (fC rfl _ rfl A) rfl ?_;exact⟨_,rfl,dc (Own.mono (Own.but U.o Q fun k D e=>by have:=(Own.block U.o k D).1;have:=V.o;omega) (by have:=V.o;omega)),G.o.below.trans (Q.below G.o.below.size fun k D e=>by omega)⟩
 ·have z:Bk.setState l nm s=(l,Bk.err l nm):=by unfold Bk.setState;rw[if_pos y]
  rw[z];have O6:((Bk.err l nm:Int) !=0)=true:=by rw[bne_iff_ne];omega
  clear z y M;generalize Bk.err l nm=c at*;generalize bs nm=NM at*;go_enter Tryz.func16,Tryz.ntmps16;go_wp2_with fail;generalize aC (aC w _) _=w2 at*;refine (T.o _ (Own.below q.o H.o.below (ah _))).mono ?_;rintro e w3 ⟨rfl,f⟩;have C:=aa (H.o.later f);clear f H;have x0:=C.o.m.cell (j:=0) rfl;have X:=C.o.m.cell (j:=1) rfl;have r0:=C.o.r.cell (j:=0) rfl;have r1:=C.o.r.cell (j:=1) rfl;have z0:=C.o.r.frozen 0;have z1:=C.o.r.frozen 1;go_wp2;obtain⟨A,Q⟩:=C.o.kX (cx a N t) (bf dg 1);try simp only[Exit.inBlock,Exit.then]
  refine bodyPost_ret (fC rfl _ rfl A) rfl ?_;exact⟨_,rfl,dn ⟨rfl,rfl⟩,C.o.below.trans (Q.below C.o.below.size fun k D e=>by omega)⟩
structure MY (w:World) (u:Value) (t:TypeId) (cs:List Value) (X:World):Prop where
 below:Below w.heap.size w X
 m:aU X w.heap.size 35 [u,bf dg 1]
 y:aU X (w.heap.size+1) t cs
 r:aU X (w.heap.size+2) 35 [cx av 0 0,bf dg 0]
theorem MY.later {w X X':World} {u:Value} {t:TypeId} {cs:List Value} (h:MY w u t cs X) (H:Below X.heap.size X X'):MY w u t cs X':=
 ⟨h.below.trans (H.mono h.below.size),h.m.below H h.m.lt,h.y.below H h.y.lt,h.r.below H h.r.lt⟩
theorem MY.kX {w X:World} {u:Value} {t:TypeId} {cs:List Value} (h:MY w u t cs X) (v0 v1:Value):aU ((X.setCell ⟨w.heap.size+2,0,av⟩ v0).setCell ⟨w.heap.size+2,1,av⟩ v1) (w.heap.size+2) 35 [v0,v1]/\aG (fun k=>k=w.heap.size+2) X ((X.setCell ⟨w.heap.size+2,0,av⟩ v0).setCell ⟨w.heap.size+2,1,av⟩ v1):=DP h.r v0 v1
theorem MY.begin (w:World) (u:Value) (t:TypeId) (cs:Array Value):MY w u t cs.toList (((w.alloc (ey #[u,bf dg 1] 35)).alloc (ey cs t)).alloc (ey #[cx av 0 0,bf dg 0] 35)):=by
 have h:(w.alloc (ey #[u,bf dg 1] 35)).heap.size=w.heap.size+1:=aS _ _;have H:((w.alloc (ey #[u,bf dg 1] 35)).alloc (ey cs t)).heap.size=w.heap.size+2:=by rw[aS,h]
 have k:=aU.new (w.alloc (ey #[u,bf dg 1] 35)) cs t;have K:=aU.new ((w.alloc (ey #[u,bf dg 1] 35)).alloc (ey cs t)) #[cx av 0 0,bf dg 0] 35;rw[h] at k;rw[H] at K;exact⟨(((Below.refl _ w).alloc (ah _) _).alloc (by omega) _).alloc (by omega) _,((aU.new w _ _).alloc _).alloc _,k.alloc _,K⟩
theorem xI (w:World) {B:Nat} {u:Value} {l:List Bk.B} (h:b8 B w u l) (hl:l.length<=100000) (hg:Bk.Good l) (nm:List UInt8) (on:Bool) (pre:List UInt8) (after:Nat):
  Calls Tryz.prog 18 #[mV u,bR (bs nm),kE on pre after] w fun e w'=>oR w w' u l (Bk.cU l nm on pre after).1 (Bk.cU l nm on pre after).2 e:=by
 obtain⟨a,s,rfl,hc⟩:=Own.slice h;obtain⟨N,hN⟩:∃N,N=l.length:=⟨_,rfl⟩;rw[<-hN] at h hc |-;have T:=aa (fun (W:World) (V:b8 B W (cx a N s) l)=>kI W V hl nm);have H:=aa (MY.begin w (cx a N s) 38 #[eX on,bR (bs pre),bf dg after]);have n:=aa h;have R:=aa (fun (W:World) (V:b8 B W (cx a N s) l)=>ig W V hl nm);have HN:=aa (And.intro hN hl);have IP:(N:Int)<=100000:=by omega
 have xM:(N:Int)<=s:=by omega
 unfold mV at T R |-;unfold kE;clear h hN hc;by_cases I:Bk.err l nm=0
 ·obtain⟨i,hi⟩:=Bk.uV I;obtain⟨A,hx1,hx2⟩:=Bk.iO hi;clear hx1 hx2;have hI:jr l nm=i:=by unfold jr;rw[hi]
  rw[I] at T;rw[hI] at R;have D:(bs pre).size=pre.length:=aP pre;cases p:Bk.wrong on pre after with
  |true=>
   have J:Bk.cU l nm on pre after=(l,30):=(by unfold Bk.cU;rw[I,if_neg (by simp),p,if_pos rfl]);rw[J];clear J I hi hI A R;unfold Bk.wrong at p;simp only[Bool.or_eq_true,eH,decide_eq_true_eq,Bool.not_eq_true',bne_iff_ne] at p;generalize bs nm=NM at*;by_cases hp:20<pre.length
   ·have BT:(20:Int)<(bs pre).size:=(by omega);clear p D hp;generalize bs pre=PP at*;go_enter Tryz.func18,Tryz.ntmps18;go_wp2_with fail;generalize aC (aC (aC w _) _) _=X at*;refine (T.o _ (Own.below n.o H.o.below (ah _))).mono ?_;rintro e w3 ⟨rfl,d⟩;have C:=aa (H.o.later d);clear d H;have s0:=C.o.y.cell (j:=0) rfl;have s1:=C.o.y.cell (j:=1) rfl;have s2:=C.o.y.cell (j:=2) rfl;have x0:=C.o.m.cell (j:=0) rfl;have x:=C.o.m.cell (j:=1) rfl;have Y:=C.o.r.cell (j:=0) rfl;have r1:=C.o.r.cell (j:=1) rfl;have Z:=C.o.r.frozen 0;have z1:=C.o.r.frozen 1;go_wp2;obtain⟨Q,q⟩:=C.o.kX (cx a N s) (bf dg 1);try simp only[Exit.inBlock,Exit.then]
    refine bodyPost_ret (fC rfl _ rfl Q) rfl ?_;exact⟨_,rfl,dn ⟨rfl,rfl⟩,C.o.below.trans (q.below C.o.below.size fun k F e=>by omega)⟩
   ·have BT:¬(20:Int)<(bs pre).size:=(by omega);have jN:=p.resolve_left hp;obtain⟨rfl,jL⟩:=jN;clear p D hp;by_cases f:pre=[]
    ·have ha:after≠0:=jL.resolve_left (fun h=>h f);have LB:((after:Int) !=0)=true:=(by rw[bne_iff_ne];omega);have hq:bs pre=⟨#[]⟩:=(by rw[f];rfl);rw[hq] at H BT |-;clear jL ha hq f;go_enter Tryz.func18,Tryz.ntmps18;go_wp2_with fail;generalize aC (aC (aC w _) _) _=X at*;refine (T.o _ (Own.below n.o H.o.below (ah _))).mono ?_;rintro e w3 ⟨rfl,d⟩;have C:=aa (H.o.later d);clear d H;have s0:=C.o.y.cell (j:=0) rfl;have s1:=C.o.y.cell (j:=1) rfl;have s2:=C.o.y.cell (j:=2) rfl;have x0:=C.o.m.cell (j:=0) rfl;have x:=C.o.m.cell (j:=1) rfl;have Y:=C.o.r.cell (j:=0) rfl;have r1:=C.o.r.cell (j:=1) rfl;have Z:=C.o.r.frozen 0;have z1:=C.o.r.frozen 1;go_wp2;obtain⟨Q,q⟩:=C.o.kX (cx a N s) (bf dg 1);try simp only[Exit.inBlock,Exit.then]
     refine bodyPost_ret (fC rfl _ rfl Q) rfl ?_;exact⟨_,rfl,dn ⟨rfl,rfl⟩,C.o.below.trans (q.below C.o.below.size fun k F e=>by omega)⟩
    ·have hpb:((bs pre).toList==(⟨#[]⟩:ByteArray).toList)=false:=(by rw[bt,show (⟨#[]⟩:ByteArray)=bs [] from rfl,bt,beq_eq_false_iff_ne];exact f);have aaG:¬(bs pre).toList=[]:=(by rw[bt];exact f);clear jL f;generalize bs pre=PP at*;go_enter Tryz.func18,Tryz.ntmps18;go_wp2_with fail;generalize aC (aC (aC w _) _) _=X at*;refine (T.o _ (Own.below n.o H.o.below (ah _))).mono ?_;rintro e w3 ⟨rfl,d⟩;have C:=aa (H.o.later d);clear d H;have s0:=C.o.y.cell (j:=0) rfl;have s1:=C.o.y.cell (j:=1) rfl;have s2:=C.o.y.cell (j:=2) rfl;have x0:=C.o.m.cell (j:=0) rfl;have x:=C.o.m.cell (j:=1) rfl;have Y:=C.o.r.cell (j:=0) rfl;have r1:=C.o.r.cell (j:=1) rfl;have Z:=C.o.r.frozen 0;have z1:=C.o.r.frozen 1;go_wp2;obtain⟨Q,q⟩:=C.o.kX (cx a N s) (bf dg 1);try simp only[Exit.inBlock,Exit.then]
     refine bodyPost_ret (fC rfl _ rfl Q) rfl ?_;exact⟨_,rfl,dn ⟨rfl,rfl⟩,C.o.below.trans (q.below C.o.below.size fun k F e=>by omega)⟩
  |false=>
   have J:Bk.cU l nm on pre after=(l.set i {l[i] with on:=on,pre:=pre,after:=after},0):=(by unfold Bk.cU;rw[I,if_neg (by simp),p,if_neg (by decide),Bk.uT hg hi A fun b=>{b with on:=on,pre:=pre,after:=after}]);rw[J];have S:=aa (fun (W:World) (V:b8 B W (cx a N s) l)=>lG W V HN.o.2 i A {l[i] with on:=on,pre:=pre,after:=after});unfold Uc mV at S;simp only at S;have U:=aa A;clear J I hi hI hg;generalize (l.set i {l[i] with on:=on,pre:=pre,after:=after})=L2 at*;generalize bs nm=NM at*;unfold Bk.wrong at p;simp only[Bool.or_eq_false_iff,Bool.and_eq_false_iff,decide_eq_false_iff_not,Bool.not_eq_false',bne_eq_false_iff_eq] at p;have BT:¬(20:Int)<(bs pre).size:=(by omega);cases on with
   |true=>
    clear p D;generalize bs pre=PP at*;go_enter Tryz.func18,Tryz.ntmps18;go_wp2_with fail;generalize aC (aC (aC w _) _) _=X at*;refine (T.o _ (Own.below n.o H.o.below (ah _))).mono ?_;rintro e w3 ⟨rfl,d⟩;have C:=aa (H.o.later d);clear d H;have s0:=C.o.y.cell (j:=0) rfl;have s1:=C.o.y.cell (j:=1) rfl;have s2:=C.o.y.cell (j:=2) rfl;have x0:=C.o.m.cell (j:=0) rfl;have x:=C.o.m.cell (j:=1) rfl;go_wp2_with fail;refine (R.o _ (Own.below n.o C.o.below (ah _))).mono ?_;rintro e t ⟨rfl,v⟩;have E:=aa (C.o.later v);clear v C x0 x s0 s1 s2;have s0:=E.o.y.cell (j:=0) rfl;have s1:=E.o.y.cell (j:=1) rfl;have s2:=E.o.y.cell (j:=2) rfl;have x0:=E.o.m.cell (j:=0) rfl;have x:=E.o.m.cell (j:=1) rfl;have K:b8 B t (cx a N s) l:=Own.below n.o E.o.below (ah _);obtain⟨g,cap',e,L,mw,M⟩:=Own.form K (fP (aB _) U.o);have e1:a=aD ⟨g,0,av⟩:=(by injection e);subst e1;obtain⟨c0,c1,c2,c3,c4,c5,c6,c7⟩:=kH (Own.lies K) i U.o;rw[bE] at c0 c1 c2 c3 c4 c5 c6 c7;have hii:(i:Int)<N:=(by have:=U.o;have:=HN.o.1;omega);have z:=aa (E.o.later ((Below.refl _ t).alloc (ah _) (ey #[bR (bs l[i].name),bf cu l[i].state,bf dg l[i].born,eX true,bR PP,bf dg after,cx av 0 0,cx av 0 0] 53)));have y0:=z.o.m.cell (j:=0) rfl;have y1:=z.o.m.cell (j:=1) rfl;have n3:w.heap.size<t.heap.size:=E.o.m.lt;have n4:w.heap.size+1<t.heap.size:=E.o.y.lt;clear L mw M K e;go_wp2_with fail;clear c0 c1 c2 c3 c4 c5 c6 c7 x0 x s0 s1 s2;generalize aC t _=w5 at*;refine (S.o _ (Own.below n.o z.o.below (ah _))).mono ?_;rintro e w6 ⟨v',rfl,O,jO⟩;have G:=aa (z.o.later jO);obtain⟨a6,P,Gc,_⟩:=Own.slice O;subst Gc;have xG:=aa O;have xH:=aa (show w.heap.size+2<w5.heap.size from z.o.r.lt);clear O jO y0 y1;have Y:=G.o.r.cell (j:=0) rfl;have r1:=G.o.r.cell (j:=1) rfl;have Z:=G.o.r.frozen 0;have z1:=G.o.r.frozen 1;go_wp2;obtain⟨Q,q⟩:=G.o.kX (cx a6 L2.length P) (bf dg 1);try simp only[Exit.inBlock,Exit.then]
    refine bodyPost_ret (fC rfl _ rfl Q) rfl ?_;exact⟨_,rfl,dc (Own.mono (Own.but xG.o q fun k F e=>by have:=(Own.block xG.o k F).1;have:=xH.o;omega) (by have:=xH.o;omega)),G.o.below.trans (q.below G.o.below.size fun k F e=>by omega)⟩
   |false=>
    have jN:=p.2.resolve_left (by decide);have hq:bs pre=⟨#[]⟩:=(by rw[jN.1];rfl);have ha:after=0:=jN.2;rw[hq] at H BT S |-;have hz:((after:Nat):Int)=0:=(by rw[ha];rfl);rw[hz] at H S |-;clear p D jN hq hz ha;go_enter Tryz.func18,Tryz.ntmps18;go_wp2_with fail;generalize aC (aC (aC w _) _) _=X at*;refine (T.o _ (Own.below n.o H.o.below (ah _))).mono ?_;rintro e w3 ⟨rfl,d⟩;have C:=aa (H.o.later d);clear d H;have s0:=C.o.y.cell (j:=0) rfl;have s1:=C.o.y.cell (j:=1) rfl;have s2:=C.o.y.cell (j:=2) rfl;have x0:=C.o.m.cell (j:=0) rfl;have x:=C.o.m.cell (j:=1) rfl;go_wp2_with fail;refine (R.o _ (Own.below n.o C.o.below (ah _))).mono ?_;rintro e t ⟨rfl,v⟩;have E:=aa (C.o.later v);clear v C x0 x s0 s1 s2;have s0:=E.o.y.cell (j:=0) rfl;have s1:=E.o.y.cell (j:=1) rfl;have s2:=E.o.y.cell (j:=2) rfl;have x0:=E.o.m.cell (j:=0) rfl;have x:=E.o.m.cell (j:=1) rfl;have K:b8 B t (cx a N s) l:=Own.below n.o E.o.below (ah _);obtain⟨g,cap',e,L,mw,M⟩:=Own.form K (fP (aB _) U.o);have e1:a=aD ⟨g,0,av⟩:=(by injection e);subst e1;obtain⟨c0,c1,c2,c3,c4,c5,c6,c7⟩:=kH (Own.lies K) i U.o;rw[bE] at c0 c1 c2 c3 c4 c5 c6 c7;have hii:(i:Int)<N:=(by have:=U.o;have:=HN.o.1;omega);have z:=aa (E.o.later ((Below.refl _ t).alloc (ah _) (ey #[bR (bs l[i].name),bf cu l[i].state,bf dg l[i].born,eX false,bR ⟨#[]⟩,bf dg 0,cx av 0 0,cx av 0 0] 53)));have y0:=z.o.m.cell (j:=0) rfl;have y1:=z.o.m.cell (j:=1) rfl;have n3:w.heap.size<t.heap.size:=E.o.m.lt;have n4:w.heap.size+1<t.heap.size:=E.o.y.lt;clear L mw M K e;go_wp2_with fail;clear c0 c1 c2 c3 c4 c5 c6 c7 x0 x s0 s1 s2;generalize aC t _=w5 at*;refine (S.o _ (Own.below n.o z.o.below (ah _))).mono ?_;rintro e w6 ⟨v',rfl,O,jO⟩;have G:=aa (z.o.later jO);obtain⟨a6,P,Gc,_⟩:=Own.slice O;subst Gc;have xG:=aa O;have xH:=aa (show w.heap.size+2<w5.heap.size from z.o.r.lt);clear O jO y0 y1;have Y:=G.o.r.cell (j:=0) rfl;have r1:=G.o.r.cell (j:=1) rfl;have Z:=G.o.r.frozen 0;have z1:=G.o.r.frozen 1;go_wp2;obtain⟨Q,q⟩:=G.o.kX (cx a6 L2.length P) (bf dg 1);try simp only[Exit.inBlock,Exit.then]
    refine bodyPost_ret (fC rfl _ rfl Q) rfl ?_;exact⟨_,rfl,dc (Own.mono (Own.but xG.o q fun k F e=>by have:=(Own.block xG.o k F).1;have:=xH.o;omega) (by have:=xH.o;omega)),G.o.below.trans (q.below G.o.below.size fun k F e=>by omega)⟩
 ·have J:Bk.cU l nm on pre after=(l,Bk.err l nm):=by unfold Bk.cU;rw[if_pos I]
  rw[J];have O6:((Bk.err l nm:Int) !=0)=true:=by rw[bne_iff_ne];omega
  clear J I R;generalize Bk.err l nm=c at*;generalize bs nm=NM at*;generalize bs pre=PP at*;go_enter Tryz.func18,Tryz.ntmps18;go_wp2_with fail;generalize aC (aC (aC w _) _) _=X at*;refine (T.o _ (Own.below n.o H.o.below (ah _))).mono ?_;rintro e w3 ⟨rfl,d⟩;have C:=aa (H.o.later d);clear d H;have x0:=C.o.m.cell (j:=0) rfl;have x:=C.o.m.cell (j:=1) rfl;have Y:=C.o.r.cell (j:=0) rfl;have r1:=C.o.r.cell (j:=1) rfl;have Z:=C.o.r.frozen 0;have z1:=C.o.r.frozen 1;go_wp2;obtain⟨Q,q⟩:=C.o.kX (cx a N s) (bf dg 1);try simp only[Exit.inBlock,Exit.then]
  refine bodyPost_ret (fC rfl _ rfl Q) rfl ?_;exact⟨_,rfl,dn ⟨rfl,rfl⟩,C.o.below.trans (q.below C.o.below.size fun k F e=>by omega)⟩
end
end Go.Proofs.YtlpfhjbpknbndaaGreatDoor
