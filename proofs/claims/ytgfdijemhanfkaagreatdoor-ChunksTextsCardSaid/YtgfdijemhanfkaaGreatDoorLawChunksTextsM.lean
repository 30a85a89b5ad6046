/- A part of the law. -/
import Derived.Test.YtgfdijemhanfkaaGreatDoorP39
import Derived.Test.YtgfdijemhanfkaaGreatDoorChTxM
import Derived.Test.YtgfdijemhanfkaaGreatDoorPTk
set_option linter.unusedSimpArgs false
set_option linter.unusedVariables false
set_option maxRecDepth 100000
set_option maxHeartbeats 8000000
namespace Go.Proofs.YtgfdijemhanfkaaGreatDoor
open _root_.Go.Proofs.Tryz
open Value renaming int→bf,string→cu,bool→ey
open IntKind renaming i64→ct
open Ending renaming returned→c8
open Or renaming inl→cS,inr→dc
open Option renaming none→aK,some→av
open Nat renaming le_refl->af,zero_le->aA
open World renaming size_alloc->aY
set_option maxRecDepth 100000
open Go.RowKit Go.Maps Lib
theorem xW (w:World) (hT:jC w) (v:Value) (l:List (List UInt8)) (N:Reads w v l):
  Calls prog 4 #[v] w fun e w'=>e=c8 (ey true)/\Below w.heap.size w w':=by
 obtain⟨a,cap,rfl,P,d⟩:=N;have HT:=aa hT
 have HV:=aa (show ∀wq,Below w.heap.size w wq->∀i (hi:i<l.length),∃E O,a=av ⟨E,O,aK⟩/\wq.cell? ⟨E,O+i,aK⟩=av (cu (bs l[i])) from fun wq Q i hi=>by
  obtain⟨E,O,e1,e2,e3⟩:=d i hi;exact⟨E,O,e1,(Q.cell (p:=⟨E,O+i,aK⟩) e2).trans (e3 i hi)⟩)
 have R:=aa (xK w hT);clear hT P d;obtain⟨L,hL⟩:=ξx l.length;rw[<-hL];have HL:=aa hL;clear hL;go_enter func4,ntmps4;go_wp2_with fail;refine R.o.mono ?_;rintro e w1 ⟨rfl,aT⟩;have G:=aa aT;clear aT R;by_cases hx:(20:Int)<L;·go_wp2;go_ret;exact⟨rfl,G.o⟩
 have RJ:=aa (HT.o.below G.o (af _));have S:=aa (show L<=20 by omega);clear HT;go_wp2_with fail
 go_loopw [30] (fun I wr=>∃k:Nat,k<=L/\I=bf ct k/\w1=wr/\Hid (∀i (hi:i<l.length),i<k->1<=l[i].length/\l[i].length<=128)) (fun I _=>L-(RowKit.intOf I).toNat)
 case atStart=>exact⟨0,aA _,rfl,rfl,aa fun i hi h=>absurd h (Nat.not_lt_zero _)⟩
 case round=>
  obtain⟨k,T,rfl,hwr,HS⟩:=hrel;subst hwr;by_cases H:k<L
  ·have hI:(k:Int)<L:=κ;have eP:k<l.length:=(by rw[<-HL.o];exact H);obtain⟨E,O,rfl,hcell⟩:=HV.o _ G.o k eP;obtain⟨X,hX⟩:=ξx (bs (l[k]'eP));have hz:X.size=(l[k]'eP).length:=(by rw[hX,aG]);rw[<-hX] at hcell;have s:=aa (And.intro hz (show k+1<=L from H));clear hX hz;by_cases h0:(X.size:Int)<1;·go_wp2;go_ret;exact⟨rfl,G.o⟩
   by_cases h1:(128:Int)<X.size;·go_wp2;go_ret;exact⟨rfl,G.o⟩
   have HZ2:=aa (show 1<=X.size/\X.size<=128 by omega);go_wp2;go_roundw
   case rel=>
    refine⟨k+1,s.o.2,ς,trivial,aa fun i hi h=> ?_⟩;by_cases e:i=k;·subst e;have e1:=s.o.1;have e2:=HZ2.o;omega
    ·exact HS.o i hi κ
   case measure=>simp[RowKit.intOf];omega
  ·obtain rfl:k=L:=by omega
   have Lm:=aa (show ∀i (hi:i<l.length),1<=l[i].length/\l[i].length<=128 from fun i hi=>HS.o i hi (by rw[HL.o];exact hi));have hI:¬(k:Int)<k:=κ;clear HS H T;go_wp2_with fail;refine (z6 w1 200 ξ ξ).mono ?_;rintro e w2 ⟨g,b,rfl,U,aQ⟩;have H2:=aa (And.intro U aQ);clear U aQ;go_wp2_with fail;refine (zR H2.o.1).mono ?_;rintro e w3 ⟨xb,rfl,h3,b8⟩;have H3:=aa (And.intro h3 (H2.o.2.trans (b8.mono H2.o.2.size)));clear h3 b8;go_wp2_with fail;refine (DV w3 xb).mono ?_;rintro e W ⟨rfl,rC⟩;have V:W.heap.size=w3.heap.size+1:=(by rw[rC];exact aY _ _);have F:=aa (nX W w3.heap.size);unfold ptr at F;have HW:=aa (And.intro rC V);clear rC V;go_wp2_with fail;refine F.o.mono ?_;rintro e w5 ⟨rfl,xB⟩
   have H5:=aa (show KS w1 cX W.heap.size w3.heap.size 200 [] [] 0 0 (fun k=>k=W.heap.size) (fun _=>True) w5 by
    rw[xB,HW.o.2,HW.o.1];exact A1 H3.o.1 (fun k T=>T) H3.o.2 ξ ξ)
   clear xB H2 H3 F HW;generalize W.heap.size=sb at*;generalize w3.heap.size=rb at*;have Nq:=aa (OM H5.o);obtain⟨q,Q⟩:=ξx w5.heap.size;rw[<-Q] at Nq;obtain⟨Y,hY⟩:=ξx (w5.alloc (.map #[] 0));rw[<-hY] at Nq;have HY:=aa (And.intro hY Q);have hmm:=@run_makeMap prog;clear Q hY H5;go_wp2;rw[<-HY.o.1,<-HY.o.2];clear HY
   go_loopw [54] (fun I wr=>∃j:Nat,j<=k/\I=bf ct j/\∃pl cs,Hid (CX w1 sb rb q j pl pl cs wr)) (fun I _=>k-(RowKit.intOf I).toNat)
   case atStart=>exact⟨0,aA _,rfl,[],[],Nq⟩
   case round=>
    clear Nq;obtain⟨j,hj,rfl,pl,cs,n⟩:=hrel;by_cases H:j<k
    ·have I5:(j:Int)<k:=κ;have u:j<l.length:=(by rw[<-HL.o];exact H);obtain⟨E,O,rfl,hcell⟩:=HV.o _ (G.o.trans (n.o.below.mono G.o.size)) j u;have s:=aa (Lm.o j u);have J:=aa (show j<20/\j+1<=k by have:=S.o;omega);generalize (l[j]'u)=t at*;have HP:=aa (n.o.put RJ.o J.o.1 s.o.1 s.o.2);unfold ptr at HP;clear u H hj n;go_wp2_with fail;refine HP.o.mono ?_;rintro e w6 ⟨id,z,(⟨rfl,f,K⟩|⟨rfl,f,cs',K⟩)⟩
     ·have sq:=K.yes f s.o.2;obtain⟨w7,A,B⟩:=K.note (by have:=J.o;omega) s.o.2 z (cS ⟨rfl,f⟩);have H7:=aa B;generalize bs id=ID at*;clear f K B z HP;go_wp2;go_roundw
      case rel=>exact⟨j+1,J.o.2,ς,_,_,H7⟩
      case measure=>have:=J.o.2;simp[RowKit.intOf];omega
     ·have sq:=K.no f s.o.2;obtain⟨w7,A,B⟩:=K.note (by have:=J.o;omega) s.o.2 z (dc ⟨rfl,f⟩);have H7:=aa B;generalize bs id=ID at*;generalize bs t=TT at*;clear f K B z HP;go_wp2;go_roundw
      case rel=>exact⟨j+1,J.o.2,ς,_,_,H7⟩
      case measure=>have:=J.o.2;simp[RowKit.intOf];omega
    ·obtain rfl:j=k:=by omega
     have I5:¬(j:Int)<j:=κ;obtain⟨D,Z,hD2⟩:=n.o.st.q;have hown:=Z.kept (World.grownBy_alloc wr (.map #[] 0) aK) ν;have HD:=aa hD2;have ace:=aa hown;clear H hj Z hD2 hown
     go_wp2_with (first
      |(at_range;refine wpList_range_own _ rfl _ 45 rfl 9 9 (string_keyed eC) rI (plainElem prog 9) q pl.length D rfl ace.o ?_;intro w6 Zh hg6 Wk)
      |go_in)
     try go_frame
     rw[aY] at Zh Wk;try rw[aY]
     have H6:=aa (n.o.range S.o HD.o Zh hg6 Wk);clear Zh hg6 Wk ace n HD;obtain⟨m,f⟩:=ξx wr.heap.size;rw[<-f] at H6 |-;obtain⟨r,hr⟩:=ξx (m+1);rw[<-hr] at H6 |-;clear f hr
     go_loopw [93] (fun _ wr=>∃left cnt ml,Hid (CY w1 sb rb q m r pl cs D left cnt ml wr)) (fun _ wr=>wr.rangeLeft q r)
     case atStart=>exact⟨_,_,_,H6⟩
     case round=>
      clear H6;obtain⟨left,cnt,ml,n⟩:=hrel;have wF:=n.o.st.q.1
      go_wp2_with (first
       |(at_next;refine wpList_next_ranges _ rfl _ rfl 9 (string_keyed eC) (plainElem prog 9) (fun t:List UInt8=>Value.string (bs t)) (fun t:List UInt8=>Value.string (bs t)) (fun key kl T=>by obtain⟨t,e,_⟩:=qL eC T;exact⟨t,e⟩) (fun v y N=>by obtain⟨t,e,_⟩:=sC eC N;exact⟨t,e⟩) q r pl.length D left cnt rfl wF ?_ ?_)
       |go_in)
      ·intro hc0 hl0;have F:=aa n.o.all;unfold ptr at F;clear wF hc0 hl0 n;go_wp2_with fail;refine F.o.mono ?_;rintro e w7 ⟨al,rfl,hN,jE⟩;have hlen:=hN.len rI;have HB7:=aa (G.o.trans (jE.mono G.o.size));clear hN jE F;go_wp2;go_ret;exact⟨rfl,HB7.o⟩
      ·intro x c kl yd yp w7 aff C hlx N hat acf Zi hg7 hs7 Ke;obtain⟨f,hno,qh,B⟩:=n.o.step C hlx N hat acf Zi hg7;have M:=aa (And.intro f (And.intro hno (And.intro qh (And.intro wF.left_eq Zi))));have HG:=aa (B.get f);unfold ptr at HG;clear C hlx N hat acf Zi hg7 hs7 f hno qh B wF n;go_wp2_with fail;refine HG.o.mono ?_;rintro e w8 ⟨rfl,h8⟩;have sq:=h8.off (h8.S8 M.o.1) M.o.2.1;obtain⟨w9,A,h9⟩:=h8.mark M.o.1 M.o.2.1 M.o.2.2.1;have H9:=aa h9;generalize bs c=CC at*;generalize bs x=XX at*;clear h8 h9 HG;go_wp2;go_roundw
       case rel=>exact⟨_,_,_,H9⟩
       case measure=>rw[H9.o.st.q.1.left_eq,M.o.2.2.2.1];exact M.o.2.2.2.2
end Go.Proofs.YtgfdijemhanfkaaGreatDoor
