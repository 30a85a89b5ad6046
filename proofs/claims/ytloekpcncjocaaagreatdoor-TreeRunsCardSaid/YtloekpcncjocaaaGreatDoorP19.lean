/- Elder texts, cut down and merged (19). -/
import Derived.Test.YtloekpcncjocaaaGreatDoorP18
import Derived.Test.YtloekpcncjocaaaGreatDoorP2
import Derived.Test.YtloekpcncjocaaaGreatDoorP1
import Derived.Test.YtloekpcncjocaaaGreatDoorP6
import Derived.Lib.Hide
import Derived.Deep.CutBlock
import Derived.Deep.DeepCutAuto
import Derived.Test.YtloekpcncjocaaaGreatDoorPTk
set_option maxRecDepth 100000
set_option maxHeartbeats 8000000
namespace Go.Proofs.YtloekpcncjocaaaGreatDoor
namespace Tr
def kk (step i:Nat):Tx:=[UInt8.ofNat (i*step%1009/256),UInt8.ofNat (i*step%1009%256)]
theorem CE:∀s:Fin 1001,s.val≠0→Nat.gcd 1009 s.val=1:=by decide+kernel
theorem wG {step i j:Nat} (h0:0<step) (h1:step≤1000) (hj:j<1009) (hij:i≤j) (h:i*step%1009=j*step%1009):i=j:=by
 have hc:Nat.Coprime 1009 step:=CE ⟨step,by omega⟩ (by show step≠0;omega)
 have hs:(j-i)*step%1009=0:=by
  rw[Nat.sub_mul]
  have hle:i*step≤j*step:=Nat.mul_le_mul_right _ hij
  omega
 have hd:1009∣(j-i)*step:=Nat.dvd_of_mod_eq_zero hs
 have hd2:1009∣j-i:=hc.dvd_of_dvd_mul_right hd
 obtain⟨c,vg⟩:=hd2
 omega
theorem Ji {step i j:Nat} (h0:0<step) (h1:step≤1000) (hi:i<1009) (hj:j<1009) (h:kk step i=kk step j):i=j:=by
 unfold kk at h
 injection h with e1 e2
 injection e2 with e2 _
 have e1:=congrArg UInt8.toNat e1
 have e2:=congrArg UInt8.toNat e2
 rw[UInt8.toNat_ofNat',UInt8.toNat_ofNat'] at e1 e2
 have b1:=Nat.mod_lt (i*step) (show 0<1009 by decide)
 have b2:=Nat.mod_lt (j*step) (show 0<1009 by decide)
 have e:i*step%1009=j*step%1009:=by
  generalize i*step%1009=x at*
  generalize j*step%1009=y at*
  omega
 rcases Nat.le_total i j with hij|hij
 ·exact wG h0 h1 hj hij e
 ·exact (wG h0 h1 hi hij e.symm).symm
theorem Fo (step i:Nat):(kk step i).length=2:=rfl
def yu (step i:Nat) (l:bt):Prop:=l.length=i∧∀j,j<1009→(got l (kk step j)).isSome=decide (j<i)
theorem yu.zero (step:Nat):yu step 0 []:=⟨rfl,fun j _=>by
 rw[lF fun p hp=>by cases hp]
 exact (decide_eq_false (Nat.not_lt_zero j)).symm⟩
theorem yu.succ {step i:Nat} {l:bt} (h:yu step i l) (h0:0<step) (h1:step≤1000) (hi:i<1009) (v:Tx):yu step (i+1) (put l (kk step i) v):=by
 have hn:got l (kk step i)=none:=by
  have:=h.2 i hi
  rw[decide_eq_false (Nat.lt_irrefl i)] at this
  cases e:got l (kk step i) with
  |none=>rfl
  |some x=>rw[e] at this;cases this
 refine⟨by rw[uj v hn,h.1],fun j hj=> ?_⟩
 rw[Lz]
 by_cases e:kk step j=kk step i
 ·rw[if_pos e,Ji h0 h1 hj hi e]
  exact (decide_eq_true (Nat.lt_succ_self i)).symm
 ·rw[if_neg e,h.2 j hj]
  have hne:j≠i:=fun h=>e (by rw[h])
  exact decide_eq_decide.2 (by omega)
structure uZ (step n t:Nat) (l:bt):Prop where
 len:l.length+t=n
 has:∀j,j<1009→(got l (kk step j)).isSome=decide (j<n∧¬(j%2=0∧j<2*t))
theorem yu.WD {step n:Nat} {l:bt} (h:yu step n l):uZ step n 0 l:=⟨by rw[h.1];rfl,fun j hj=>by rw[h.2 j hj];exact decide_eq_decide.2 (by omega)⟩
theorem uZ.there {step n t:Nat} {l:bt} (h:uZ step n t l) (ht:2*t<n) (hn:n≤400):(got l (kk step (2*t))).isSome=true:=by
 rw[h.has _ (by omega)]
 exact decide_eq_true (by omega)
theorem uZ.succ {step n t:Nat} {l:bt} (h:uZ step n t l) (h0:0<step) (h1:step≤1000) (hr:aP l) (ht:2*t<n) (hn:n≤400):uZ step n (t+1) (del l (kk step (2*t))):=by
 refine⟨by have:=CB hr (h.there ht hn);have:=h.len;omega,fun j hj=> ?_⟩
 rw[LA]
 by_cases e:kk step j=kk step (2*t)
 ·rw[if_pos e,Ji h0 h1 hj (by omega) e]
  exact (decide_eq_false (by omega)).symm
 ·rw[if_neg e,h.has j hj]
  have hne:j≠2*t:=fun h=>e (by rw[h])
  exact decide_eq_decide.2 (by omega)
theorem uZ.fin {step n t:Nat} {l:bt} (h:uZ step n t l) (h1:¬2*t<n) (h2:2*t≤n+1) (hn:n≤400):l.length=n/2∧∀j,j<n→(got l (kk step j)).isSome=decide (j%2=1):=by
 have:=h.len
 refine⟨by omega,fun j hj=> ?_⟩
 rw[h.has j (by omega)]
 exact decide_eq_decide.2 (by omega)
end Tr
end Go.Proofs.YtloekpcncjocaaaGreatDoor
namespace Go.Proofs.YtloekpcncjocaaaGreatDoor
open Go.RowKit Lib
theorem AK (w:World) (pb step i:Nat) (hc:w.cell? ⟨pb,0,none⟩=some (.int .i64 step)) (h1:step≤1000) (h2:i≤1000):
  Calls Tryz.prog 27 #[.int .i64 i,ptr pb] w fun e w'=>e=.returned (.string (bs [UInt8.ofNat (i*step%1009/256),UInt8.ofNat (i*step%1009%256)]))∧Below w.heap.size w w':=by
 have hm:i*step≤1000*1000:=Nat.mul_le_mul h2 h1
 obtain⟨p,hp⟩:∃p,p=i*step:=⟨_,rfl⟩
 have OS:(i:Int)*step=p:=by rw[hp];exact (Int.natCast_mul i step).symm
 obtain⟨k,hk⟩:∃k,k=p%1009:=⟨_,rfl⟩
 have pH:(p:Int)%1009=k:=by omega
 have hpb:(p:Int)≤1000000:=by omega
 have hkb:(k:Int)≤1008:=by omega
 have qt:aG (w.alloc (.cells #[.int .u8 ((k:Int)/256),.int .u8 ((k:Int)%256)] 5)) w.heap.size 5 (([UInt8.ofNat (k/256),UInt8.ofNat (k%256)]:List UInt8).map aR):=by
  have:=aG.new w #[.int .u8 ((k:Int)/256),.int .u8 ((k:Int)%256)] 5
  have e1:aR (UInt8.ofNat (k/256))=.int .u8 ((k:Int)/256):=by
   unfold aR
   rw[UInt8.toNat_ofNat']
   congr 1
   omega
  have e2:aR (UInt8.ofNat (k%256))=.int .u8 ((k:Int)%256):=by
   unfold aR
   rw[UInt8.toNat_ofNat']
   congr 1
   omega
  rw[List.map_cons,List.map_cons,List.map_nil,e1,e2]
  exact this
 have hbk:(convert 67 9 (.slice (some ⟨w.heap.size,0,none⟩) 2 2)).run Tryz.prog (w.alloc (.cells #[.int .u8 ((k:Int)/256),.int .u8 ((k:Int)%256)] 5))=.ok (.string (bs [UInt8.ofNat (k/256),UInt8.ofNat (k%256)])) (w.alloc (.cells #[.int .u8 ((k:Int)/256),.int .u8 ((k:Int)%256)] 5)):=run_convert_bytes_back (P:=Tryz.prog) _ 67 9 5 ⟨w.heap.size,0,none⟩ 2 [UInt8.ofNat (k/256),UInt8.ofNat (k%256)] (by kernel_rfl) (by kernel_rfl) (by kernel_rfl) (by
  intro j hj
  rw[show (⟨w.heap.size,0,none⟩:Addr).add j=⟨w.heap.size,j,none⟩ by unfold Addr.add;split<;>simp_all]
  refine qt.cell ?_
  rw[List.getElem?_map,List.getElem?_eq_getElem hj]
  rfl)
 have HB:=aa ((Below.refl _ w).alloc (Nat.le_refl _) (.cells #[.int .u8 ((k:Int)/256),.int .u8 ((k:Int)%256)] 5))
 rw[←hp,←hk]
 clear hp hk hm qt
 unfold ptr
 go_enter Tryz.func27,Tryz.ntmps27
 go_wp2_with fail
 go_ret
 exact⟨rfl,HB.out⟩
theorem Fp (W:World) (args:Array Value):Sem.run Tryz.prog (callFunc 27 args) W=.ok (.enter 27 args) W:=by
 simp[callFunc,go_sem,Tryz.f27]
theorem yw (w:World) (pb step i:Nat) (hc:w.cell? ⟨pb,0,none⟩=some (.int .i64 step)) (h1:step≤1000) (h2:i≤1000):
  Calls Tryz.prog 27 #[.int .i64 i,ptr pb] w fun e w'=>e=.returned (.string (bs (Tr.kk step i)))∧Below w.heap.size w w':=AK w pb step i hc h1 h2
theorem yx (w:World) (n step size:Int) (hn:-9223372036854775808≤n∧n≤9223372036854775807) (hs:-9223372036854775808≤step∧step≤9223372036854775807) (hz:-9223372036854775808≤size∧size≤9223372036854775807):
  Calls Tryz.prog 5 #[.int .i64 n,.int .i64 step,.int .i64 size] w fun e w'=>e=.returned (.bool true)∧Below w.heap.size w w':=by
 have HEK:=aa Fp
 go_enter Tryz.func5,Tryz.ntmps5
 go_wp2_with fail
 obtain⟨W0,kC⟩:∃W0,W0=w.alloc (.cells #[.int .i64 step] 3):=⟨_,rfl⟩
 obtain⟨pb,hpb⟩:∃pb,pb=w.heap.size:=⟨_,rfl⟩
 have mK:aG W0 pb 3 [.int .i64 step]:=by rw[kC,hpb];exact aG.new w _ _
 have hb0:Below w.heap.size w W0:=by rw[kC];exact (Below.refl _ w).alloc (Nat.le_refl _) _
 rw[←kC,←hpb]
 refine (nO W0).mono ?_
 rintro e w1 ⟨rfl,aQ⟩
 have H1:=aa (show Below w.heap.size w w1∧aG w1 pb 3 [.int .i64 step] from⟨hb0.trans (aQ.mono hb0.size),mK.below aQ mK.lt⟩)
 have c0:=H1.out.2.cell (j:=0) rfl
 clear kC hpb mK hb0 aQ
 by_cases hn0:n<0
 ·skip
  go_wp2_with fail
  go_ret
  exact⟨rfl,H1.out.1⟩
 by_cases Be:400<n
 ·skip
  go_wp2_with fail
  go_ret
  exact⟨rfl,H1.out.1⟩
 by_cases hs0:step<1
 ·skip
  go_wp2_with fail
  go_ret
  exact⟨rfl,H1.out.1⟩
 by_cases hs4:1000<step
 ·skip
  go_wp2_with fail
  go_ret
  exact⟨rfl,H1.out.1⟩
 obtain⟨s,rfl⟩:∃s:Nat,step=s:=⟨step.toNat,by omega⟩
 obtain⟨N,rfl⟩:∃N:Nat,n=N:=⟨n.toNat,by omega⟩
 have WE:(s:Int)%1009=s:=by omega
 have WG:((s:Int)==0)=false:=by rw[beq_eq_false_iff_ne];omega
 by_cases SA:size<0
 ·skip
  go_wp2_with fail
  go_ret
  exact⟨rfl,H1.out.1⟩
 by_cases hz4:56<size
 ·skip
  go_wp2_with fail
  go_ret
  exact⟨rfl,H1.out.1⟩
 obtain⟨m,rfl⟩:∃m:Nat,size=m:=⟨size.toNat,by omega⟩
 have HA:=aa (show N≤400∧0<s∧s≤1000∧m≤56 by omega)
 have G8:(N:Int)≤400:=by omega
 go_wp2_with fail
 clear hn hs hz hn0 Be hs0 hs4 SA hz4 WE WG c0
 refine (pF w1 1200 (by decide) (by decide)).mono ?_
 rintro e w2 ⟨g,b,rfl,hk2,aC⟩
 have H2:=aa (And.intro hk2 aC)
 clear hk2 aC
 go_wp2_with fail
 refine (oH H2.out.1).mono ?_
 rintro e w3 ⟨xb,rfl,h3,cC⟩
 have H3:=aa (And.intro h3 (H2.out.2.trans (cC.mono H2.out.2.size)))
 clear h3 cC
 go_wp2_with fail
 refine (rN w3 xb).mono ?_
 rintro e w4 ⟨rfl,rfl⟩
 have H4:=aa (uk (w:=w1) (place:=0) H3.out.1 (fun k hk=>hk) H3.out.2 (by decide) (by decide) (by decide))
 obtain⟨rb,hrb⟩:∃rb,rb=w3.heap.size:=⟨_,rfl⟩
 obtain⟨W,hW⟩:∃W,W=w3.alloc (.cells #[ptr xb] 75):=⟨_,rfl⟩
 have FH:W.heap.size=rb+1:=by rw[hW,hrb,World.size_alloc]
 rw[←hW,←hrb] at H4
 rw[←hrb,←hW]
 clear hrb hW H3 H2
 go_wp2_with fail
 refine (iz W rb 0).mono ?_
 rintro e w5 ⟨rfl,rfl⟩
 rw[FH]
 obtain⟨W5,Oz⟩:∃W5,W5=W.alloc (.cells #[ptr rb,.int .i64 0] 81):=⟨_,rfl⟩
 obtain⟨tb,htb⟩:∃tb,tb=rb+1:=⟨_,rfl⟩
 have h5:TF w1 rb tb 0 1200 [] 0 [] 0 [] W5:=by rw[Oz,htb];exact H4.out
 rw[←Oz,←htb]
 have hmk:=m5 W5 m (by have:=HA.out;omega)
 have hbk:=rS W5 m m
 obtain⟨vl,hvl⟩:∃vl,vl=List.replicate m (0:UInt8):=⟨_,rfl⟩
 have HV:=aa (show vl.length≤56 by rw[hvl,List.length_replicate];exact HA.out.2.2.2)
 rw[←hvl] at hbk
 obtain⟨W6,FI⟩:∃W6,W6=W5.alloc (.cells (List.replicate m (.int .u8 0)).toArray 5):=⟨_,rfl⟩
 rw[←FI] at hmk hbk
 have H6:=aa (show TF w1 rb tb 0 1200 [] (30000*0) [] 0 [] W6 by rw[FI];exact h5.still ((Below.refl _ _).alloc (Nat.le_refl _) _))
 clear Oz htb H4 FH hvl FI h5
 go_wp2_with fail
 go_loopw [70] (fun iv wr=>∃(i:Nat) (l:Tr.bt) (U:Nat),i≤N∧iv=.int .i64 i∧Hid (TF w1 rb tb 0 1200 l (30000*i) [] U [] wr∧Tr.yu s i l)) (fun iv _=>N-(RowKit.intOf iv).toNat)
 case atStart=>exact⟨0,[],0,Nat.zero_le _,rfl,aa ⟨H6.out,Tr.yu.zero s⟩⟩
 case round=>
  clear hmk hbk H6
  obtain⟨i,l,U,hi,rfl,hR⟩:=hrel
  by_cases hlt:i<N
  ·have hI:(i:Int)<N:=by omega
   have HK:=aa (yw wr pb s i (by rw[hR.out.1.below.cell (p:=⟨pb,0,none⟩) H1.out.2.lt];exact H1.out.2.cell (j:=0) rfl) HA.out.2.2.1 (by omega))
   have dP:=aa hlt
   clear hlt hi
   unfold ptr at HK
   go_wp2_with fail
   refine HK.out.mono ?_
   rintro e w7 ⟨rfl,fG⟩
   have H7:=aa (hR.out.1.still fG)
   have Pf:=aa hR.out.2
   clear fG HK hR
   go_wp2_with fail
   refine (yt (key:=Tr.kk s i) (vl:=vl) H7.out (by rw[Tr.Fo];decide) HV.out (by have:=dP.out;have:=HA.out.1;omega)).mono ?_
   rintro e w8 (⟨rfl,U8,h8⟩|⟨-,hf,-⟩)
   rotate_left
   ·have h1:=H7.out.gO
    have h2:=Pf.out.1
    have h3:=HA.out.1
    have h4:=dP.out
    omega
   have H8:=aa (h8.more (show 30000*i+30000≤30000*(i+1) by omega))
   clear h8
   go_wp2_with fail
   go_roundw
   case rel=>exact⟨i+1,_,_,dP.out,by go_num,aa ⟨H8.out,Pf.out.succ HA.out.2.1 HA.out.2.2.1 (by have:=dP.out;have:=HA.out.1;omega) vl⟩⟩
   case measure=>have:=dP.out;simp[RowKit.intOf];omega
  ·obtain rfl:i=N:=by omega
   have hI:¬(i:Int)<i:=by omega
   have Pf:=aa hR.out.2
   have H6:=aa hR.out.1
   clear hR hlt hi
   go_wp2_with fail
   refine (um H6.out).mono ?_
   rintro e w8 ⟨rfl,h8⟩
   rw[Pf.out.1]
   have H8:=aa h8
   clear h8 H6
   go_wp2_with fail
   go_loopw [16] (fun iv wr=>∃(t:Nat) (l:Tr.bt) (U:Nat),2*t≤i+1∧iv=.int .i64 (2*t:Nat)∧Hid (TF w1 rb tb 0 1200 l (30000*(i+t)) [] U [] wr∧Tr.uZ s i t l)) (fun iv _=>i+1-(RowKit.intOf iv).toNat)
   case atStart=>exact⟨0,_,_,Nat.zero_le _,rfl,aa ⟨H8.out,Pf.out.WD⟩⟩
   case round=>
    clear H8 Pf
    obtain⟨t,l,U,ht,rfl,hR⟩:=hrel
    by_cases hlt:2*t<i
    ·have hI:((2*t:Nat):Int)<i:=by omega
     have HK:=aa (yw wr pb s (2*t) (by rw[hR.out.1.below.cell (p:=⟨pb,0,none⟩) H1.out.2.lt];exact H1.out.2.cell (j:=0) rfl) HA.out.2.2.1 (by have:=HA.out.1;omega))
     have dP:=aa hlt
     clear hlt ht
     generalize hj:2*t=j at*
     have HJ:=aa hj
     clear hj
     unfold ptr at HK
     go_wp2_with fail
     refine HK.out.mono ?_
     rintro e w9 ⟨rfl,gI⟩
     have H9:=aa (hR.out.1.still gI)
     have HD:=aa hR.out.2
     clear gI HK hR
     go_wp2_with fail
     refine (CD (key:=Tr.kk s j) H9.out (by have:=dP.out;have:=HA.out.1;have:=HJ.out;omega)).mono ?_
     rintro e w10 ⟨rfl,U10,h10⟩
     have Dx:=HD.out.there (by rw[HJ.out];exact dP.out) HA.out.1
     rw[HJ.out] at Dx
     rw[Dx]
     have H10:=aa (show TF w1 rb tb 0 1200 _ (30000*(i+(t+1))) [] U10 [] w10∧Tr.uZ s i (t+1) (Tr.del l (Tr.kk s j)) from⟨h10.more (by omega),by have:=HD.out.succ HA.out.2.1 HA.out.2.2.1 H9.out.rising (by rw[HJ.out];exact dP.out) HA.out.1;rwa [HJ.out] at this⟩)
     clear h10 Dx
     go_wp2_with fail
     go_roundw
     case rel=>exact⟨t+1,_,_,by have:=dP.out;have:=HJ.out;omega,by have:=HJ.out;go_num,H10⟩
     case measure=>have:=dP.out;simp[RowKit.intOf];omega
    ·have hI:¬((2*t:Nat):Int)<i:=by omega
     have HF:=aa (hR.out.2.fin hlt ht HA.out.1)
     have H8:=aa hR.out.1
     clear hR
     generalize hj:2*t=j at*
     clear hj hlt ht
     go_wp2_with fail
     refine (Jf H8.out).mono ?_
     rintro e w9 ⟨c,rfl,h9⟩
     have H9:=aa h9
     clear h9 H8
     go_wp2_with fail
     go_loopw [120] (fun iv wr=>∃q:Nat,q≤i∧iv=.int .i64 q∧Hid (TF w1 rb tb 0 1200 l (30000*(i+t)) [] U [] wr)) (fun iv _=>i-(RowKit.intOf iv).toNat)
     case atStart=>exact⟨0,Nat.zero_le _,rfl,H9⟩
     case round=>
      clear H9
      obtain⟨q,hq,rfl,hR⟩:=hrel
      by_cases hlt:q<i
      ·have hI:(q:Int)<i:=by omega
       have HK:=aa (yw wr pb s q (by rw[hR.out.below.cell (p:=⟨pb,0,none⟩) H1.out.2.lt];exact H1.out.2.cell (j:=0) rfl) HA.out.2.2.1 (by have:=HA.out.1;omega))
       have dP:=aa hlt
       clear hlt hq
       unfold ptr at HK
       go_wp2_with fail
       refine HK.out.mono ?_
       rintro e w10 ⟨rfl,lH⟩
       have H10:=aa (hR.out.still lH)
       clear lH HK hR
       go_wp2_with fail
       refine (Oy (key:=Tr.kk s q) H10.out).mono ?_
       rintro e w11 ⟨rfl,h11⟩
       rw[HF.out.2 q dP.out]
       have H11:=aa h11
       obtain⟨sv,nH⟩:∃sv,sv=bs ((Tr.got l (Tr.kk s q)).getD []):=⟨_,rfl⟩
       rw[←nH]
       have hqm:(q:Int)%2=((q%2:Nat):Int):=by omega
       have J_:((((q%2:Nat):Int))==1)=decide (q%2=1):=by
        by_cases h:q%2=1
        ·rw[decide_eq_true h,h];rfl
        ·rw[decide_eq_false h,beq_eq_false_iff_ne];omega
       clear nH h11
       generalize hz:decide (q%2=1)=z at*
       generalize Jv:((q%2:Nat):Int)=z2 at*
       clear hz Jv
       cases z<;>
       ·go_wp2_with fail
        go_roundw
        case rel=>exact⟨q+1,dP.out,by go_num,H11⟩
        case measure=>have:=dP.out;simp[RowKit.intOf];omega
      ·obtain rfl:q=i:=by omega
       have hI:¬(q:Int)<q:=by omega
       have H9:=hR
       clear hR hlt hq
       go_wp2_with fail
       refine (um H9.out).mono ?_
       rintro e w10 ⟨rfl,h10⟩
       rw[HF.out.1]
       have HB:=aa (show Below w.heap.size w w10 from H1.out.1.trans (h10.below.mono H1.out.1.size))
       have hh:(q:Int)/2=((q/2:Nat):Int):=by omega
       generalize ((q/2:Nat):Int)=z2 at*
       clear h10
       go_wp2_with fail
       go_ret
       exact⟨rfl,HB.out⟩
theorem j6 (w:World) {B B':Nat} {v v':Value} {l:Tr.bt} (h:bR B w v l) (h':bR B' w v' l) (hl:l.length≤100000):
  Calls Tryz.prog 20 #[v,v'] w fun e w'=>e=.returned (.bool true)∧Below w.heap.size w w':=by
 obtain⟨a,cp,rfl,hc⟩:=Own.slice h
 obtain⟨a',Tt,rfl,ve⟩:=Own.slice h'
 have HO:=aa h
 have Y8:=aa h'
 obtain⟨N,hN⟩:∃N,N=l.length:=⟨_,rfl⟩
 rw[←hN]
 have G8:(N:Int)≤100000:=by omega
 have vB:(N:Int)≤cp:=by omega
 have aaN:(N:Int)≤Tt:=by omega
 have HN:=aa hN
 clear h h' hN hc ve hl
 go_enter Tryz.func20,Tryz.ntmps20
 go_wp2_with fail
 go_loopw [5] (fun iv wr=>∃i:Nat,i≤N∧iv=.int .i64 i∧Hid (Below w.heap.size w wr)) (fun iv _=>N-(RowKit.intOf iv).toNat)
 case atStart=>exact⟨0,Nat.zero_le _,rfl,aa (Below.refl _ _)⟩
 case round=>
  obtain⟨i,hi,rfl,hR⟩:=hrel
  by_cases hlt:i<N
  ·have hI:(i:Int)<N:=by omega
   have hil:i<l.length:=by rw[←HN.out];exact hlt
   obtain⟨g,cap,e,hBg,rF,hlc⟩:=Own.form HO.out (by omega)
   have e1:a=some ⟨g,0,none⟩:=by injection e
   subst e1
   obtain⟨g',cap',e',WH,WJ,WK⟩:=Own.form Y8.out (by omega)
   have e1':a'=some ⟨g',0,none⟩:=by injection e'
   subst e1'
   obtain⟨c0,c1⟩:=kH (Own.lies (Own.below HO.out hR.out (Nat.le_refl _))) i hil
   obtain⟨d0,d1⟩:=kH (Own.lies (Own.below Y8.out hR.out (Nat.le_refl _))) i hil
   rw[Nat.zero_add] at c0 c1 d0 d1
   obtain⟨kx,jq⟩:∃kx,kx=bs (l[i]).1:=⟨_,rfl⟩
   obtain⟨vx,mS⟩:∃vx,vx=bs (l[i]).2:=⟨_,rfl⟩
   rw[←jq] at c0 d0
   rw[←mS] at c1 d1
   clear jq mS e hBg rF hlc e' WH WJ WK
   go_wp2_with fail
   go_wp2_with (refine wp_region_held_drew (S:=(fun X=>X.cell? ⟨g,i*2,none⟩=some (.string kx)∧X.cell? ⟨g,i*2+1,none⟩=some (.string vx)∧X.cell? ⟨g',i*2,none⟩=some (.string kx)∧X.cell? ⟨g',i*2+1,none⟩=some (.string vx))) (by kernel_rfl) ?_ (fun hS=> ?_);focus skip;rotate_left;refine Hid.out ?_)
   refine aa ?_
   ·first|trivial|exact⟨c0,c1,d0,d1⟩
   refine bC 0 hS ?_
   refine bC 1 hS ?_
   refine bC 2 hS ?_
   refine bC 3 hS ?_
   refine bC 4 hS ?_
   refine bC 5 hS ?_
   refine bC 6 hS ?_
   refine bC 7 hS ?_
   try simp only[Act.put,List.setIfInBounds_toArray,List.set_cons_succ,List.set_cons_zero]
   refine bC 8 hS ?_
   refine wpAnyH_done (by kernel_rfl) ?_ _
   try simp only[Act.put,List.setIfInBounds_toArray,List.set_cons_succ,List.set_cons_zero]
   have HB:=aa (hR.out.trans ((Below.refl wr.heap.size wr).drew.mono hR.out.size))
   go_wp2_with fail
   go_roundw
   case rel=>exact⟨i+1,hlt,by go_num,HB⟩
   case measure=>simp[RowKit.intOf];omega
  ·obtain rfl:i=N:=by omega
   have hI:¬(i:Int)<i:=by omega
   go_wp2_with fail
   go_ret
   exact⟨rfl,hR.out⟩
structure Kp (R R':Nat→Prop) (X X':World):Prop where
 but:aj (fun k=>¬R k) X X'
 sub:∀k,R k→R' k
 new:∀k,R' k→R k∨X.heap.size≤k
theorem Kp.trans {R1 R2 R3:Nat→Prop} {X1 X2 X3:World} (h:Kp R1 R2 X1 X2) (h2:Kp R2 R3 X2 X3):Kp R1 R3 X1 X3:=
 ⟨h.but.trans h2.but fun k _ hn hk=>hn (h.sub k hk),fun k hk=>h2.sub k (h.sub k hk),fun k hk=>(h2.new k hk).elim (h.new k) fun e=>.inr (Nat.le_trans h.but.size e)⟩
theorem Kp.below {R R':Nat→Prop} {X1 X2 X3:World} (h:Kp R R' X1 X2) (hb:Below X2.heap.size X2 X3):Kp R R' X1 X3:=
 ⟨h.but.trans (aj.aq hb (fun _=>False)) (fun _ _ f=>f.elim),h.sub,h.new⟩
theorem Mv.kp {R R':Nat→Prop} {ps ps':List (Nat×List UInt8)} {pg bN:List (Option Wl.Text)} {rt rt':List Nat} {place:Nat} {o:List Nat} {X X':World} (h:Mv R R' ps ps' pg bN rt rt' place o X X'):Kp R R' X X':=⟨h.but,h.sub,h.new⟩
theorem MS.mv {ring g N lb xb rb tb place:Nat} {H:List Wl.Text} {o pages:List Nat} {R R':Nat→Prop} {ps:List (Nat×List UInt8)} {pg:List (Option Wl.Text)} {rt:List Nat} {l:List (Tr.Tx×Tr.Tx)} {X X':World} (h:MS ring g N lb xb rb H tb place o R ps pg rt l pages X) (k:Kp R R' X X'):Mv R R' ps ps pg pg rt rt place o X X':=by
 have bY:place<rt.length:=by rw[h.rm.rep.pQ];exact h.AA
 exact⟨k.but,k.sub,k.new,by omega,rfl,fun _ _=>rfl,rt.getD place 0,(dH rfl bY).symm⟩
theorem LF (k:Tr.Tx):hasB [] [] k=true:=by cases k<;>rfl
theorem mX {lim:Int}:∀(l s:Tr.bt),(s.length+l.length:Int)≤lim→l.foldl (aX lim [] []) s=s++l
 |[],s,_=>(List.append_nil s).symm
 |p::l,s,h=>by
  have e:aX lim [] [] s p=s++[p]:=by
   unfold aX
   rw[if_pos ⟨by rw[List.length_cons] at h;omega,LF _⟩]
  rw[List.foldl_cons,e,mX l (s++[p]) (by rw[List.length_append,List.length_singleton];rw[List.length_cons] at h;omega),List.append_assoc]
  rfl
theorem Jj {lim:Int} (l:Tr.bt) (h:(l.length:Int)≤lim):l.foldl (aX lim [] []) []=l:=mX l [] (by rw[List.length_nil];omega)
theorem yy {B:Nat} {X:World} {g n c:Nat} {l:List Int} (h:eo B X (.slice (some ⟨g,0,none⟩) n c) l) (j:Nat) (hj:j<l.length):X.cell? ⟨g,j,none⟩=some (.int .i64 l[j]):=by
 have h2:=(Own.lies h).at j 0 Nat.zero_lt_one hj (.int .i64 l[j]) rfl
 rw[show (cO .i64).size=1 from rfl,Nat.zero_add,Nat.mul_one,Nat.add_zero] at h2
 exact h2
section
variable {ring g N lb xb rb tb place:Nat} {H:List Wl.Text} {o pages:List Nat} {R:Nat→Prop} {ps:List (Nat×List UInt8)} {pg:List (Option Wl.Text)} {rt:List Nat} {l:List (Tr.Tx×Tr.Tx)} {X:World}
theorem wH (h:MS ring g N lb xb rb H tb place o R ps pg rt l pages X) {B:Nat} {v:Value} (hv:bR B X v l) (hR:∀x,v.ownBlock=some x→R x) (hl:l.length≤1000):
  Calls Tryz.prog 22 #[ptr tb,v] X fun e X'=>e=.returned (.bool true)∧∃R',MS ring g N lb xb rb H tb place o R' ps pg rt l pages X'∧Mv R R' ps ps pg pg rt rt place o X X':=by
 have H0:=aa (And.intro h (And.intro hv hR))
 have HP:=aa (f_ h.ok)
 have HS:=aa (AH (qP h.ok))
 have WL:=aa (show ((pages.map fun n:Nat=>(n:Int)).mergeSort fun x y=>decide (x≤y)).length=pages.length by rw[List.length_mergeSort,List.length_map])
 generalize hsp:((pages.map fun n:Nat=>(n:Int)).mergeSort fun x y=>decide (x≤y))=sp at HS WL
 have R_:=aa hsp
 obtain⟨a,cp,rfl,hc⟩:=Own.slice hv
 obtain⟨L,hL⟩:∃L,L=l.length:=⟨_,rfl⟩
 have HL:=aa (And.intro hL hl)
 rw[←hL]
 clear h hv hR hc hsp hL hl
 go_enter Tryz.func22,Tryz.ntmps22
 go_wp2_with fail
 refine (yq H0.out.1 [] [] 1073741824).mono ?_
 rintro e X1 ⟨u,rfl,pJ,R1,h1,Y9,Y_⟩
 rw[Jj l (by have:=HL.out;omega)] at pJ
 have H1:=aa (And.intro h1 (And.intro Y9.kp (And.intro pJ Y_)))
 obtain⟨au,cu,rfl,TX⟩:=Own.slice pJ
 rw[←HL.out.1]
 clear h1 Y9 pJ Y_ TX
 go_wp2_with fail
 refine (AB H1.out.1).mono ?_
 rintro e X2 ⟨rfl,R2,h2,Tg⟩
 have H2:=aa (And.intro h2 (And.intro (H1.out.2.1.trans Tg.kp) (And.intro (Own.but H1.out.2.2.1 Tg.but fun x hx hn=>hn (H1.out.2.2.2 x hx)) fun x hx=>Tg.sub x (H1.out.2.2.2 x hx))))
 rw[←HL.out.1]
 clear h2 Tg H1
 go_wp2_with fail
 refine (AD H2.out.1).mono ?_
 rintro e X3 ⟨rfl,R3,h3,mv3⟩
 have H3:=aa (And.intro h3 (And.intro (H2.out.2.1.trans mv3.kp) (And.intro (Own.but H2.out.2.2.1 mv3.but fun x hx hn=>hn (H2.out.2.2.2 x hx)) fun x hx=>mv3.sub x (H2.out.2.2.2 x hx))))
 obtain⟨P,hP⟩:∃P,P=pages.length:=⟨_,rfl⟩
 rw[←hP]
 have WM:=aa hP
 have MD:(P:Int)≤2*L+16:=by have:=HP.out.1;have:=HL.out.1;omega
 have C4:(L:Int)≤1000:=by have:=HL.out;omega
 clear h3 mv3 H2 hP
 go_wp2_with fail
 refine (AG H3.out.1).mono ?_
 rintro e X4 ⟨vp,rfl,Bt,R4,h4,WN,hp4⟩
 rw[R_.out] at Bt
 obtain⟨ap,cpp,Md,Sc⟩:=Own.slice Bt
 rw[WL.out,←WM.out] at Md Sc
 subst Md
 have H4:=aa (And.intro h4 (And.intro (H3.out.2.1.trans WN.kp) (And.intro (Own.but H3.out.2.2.1 WN.but fun x hx hn=>hn (H3.out.2.2.2 x hx)) Bt)))
 have aaO:(P:Int)≤cpp:=by omega
 clear h4 WN H3 Bt hp4 Sc
 go_wp2_with fail
 go_loopw [37] (fun iv wr=>∃i:Nat,i≤P∧iv=.int .i64 i∧Hid (Below X4.heap.size X4 wr)) (fun iv _=>P-(RowKit.intOf iv).toNat)
 case atStart=>exact⟨0,Nat.zero_le _,rfl,aa (Below.refl _ _)⟩
 case round=>
  obtain⟨i,hi,rfl,hB⟩:=hrel
  by_cases hlt:i<P
  ·have hI:(i:Int)<P:=by omega
   have q_:sp.length=P:=by rw[WL.out,WM.out]
   have iB:=Own.below H4.out.2.2.2 hB.out (Nat.le_refl _)
   obtain⟨gp,cap,e,-,-,-⟩:=Own.form iB (by omega)
   have e1:ap=some ⟨gp,0,none⟩:=by injection e
   subst e1
   have c1:=yy iB i (by omega)
   have dP:=aa hlt
   cases i with
   |zero=>
    obtain⟨x,hx⟩:∃x,x=sp[0]'(by omega):=⟨_,rfl⟩
    rw[←hx] at c1
    clear hx iB e q_ hi hlt
    go_wp2_with fail
    go_roundw
    case rel=>exact⟨1,dP.out,by go_num,hB⟩
    case measure=>have:=dP.out;simp[RowKit.intOf];omega
   |succ j=>
    have c0:=yy iB j (by omega)
    have WO:sp[j]'(by omega)<sp[j+1]'(by omega):=List.pairwise_iff_getElem.1 HS.out j (j+1) (by omega) (by omega) (by omega)
    obtain⟨x,hx⟩:∃x,x=sp[j]'(by omega):=⟨_,rfl⟩
    obtain⟨y,hy⟩:∃y,y=sp[j+1]'(by omega):=⟨_,rfl⟩
    rw[←hx] at c0 WO
    rw[←hy] at c1 WO
    have hnl:¬y≤x:=by omega
    have hcs:((j+1:Nat):Int)=j+1:=by omega
    have hsub:(j:Int)+1-1=j:=by omega
    have hpos:(0:Int)<j+1:=by omega
    rw[hcs] at hI ⊢
    clear hx hy iB e q_ hi hlt WO
    go_wp2_with fail
    go_roundw
    case rel=>exact⟨j+1+1,dP.out,by go_num,hB⟩
    case measure=>have:=dP.out;simp[RowKit.intOf];omega
  ·obtain rfl:i=P:=by omega
   have hI:¬(i:Int)<i:=by omega
   obtain⟨z,D1,Jv⟩:∃z:Bool,decide ((i:Int)=0)=z∧decide ((L:Int)=0)=z:=by
    refine⟨_,rfl,decide_eq_decide.2 ?_⟩
    have h1:=HP.out.2
    have h2:=HL.out.1
    have h3:=WM.out
    omega
   have Za:=Own.below (Own.but H0.out.2.1 H4.out.2.1.but fun x hx hn=>hn (H0.out.2.2 x hx)) hB.out (Nat.le_refl _)
   have Zb:=Own.below H4.out.2.2.1 hB.out (Nat.le_refl _)
   have HV:=aa (And.intro Zb Za)
   clear Za Zb hlt hi
   cases z with
   |true=>
    have q1:(i:Int)=0:=of_decide_eq_true D1
    have q2:(L:Int)=0:=of_decide_eq_true Jv
    have q3:i=0:=by omega
    have q4:L=0:=by omega
    subst q3 q4
    clear q1 q2 D1 Jv
    go_wp2_with fail
    rw[show (Value.slice au 0 cu)=.slice au l.length cu by rw[←HL.out.1],show (Value.slice a 0 cp)=.slice a l.length cp by rw[←HL.out.1]]
    refine (j6 _ HV.out.1 HV.out.2 (by have:=HL.out;omega)).mono ?_
    rintro e X6 ⟨rfl,qZ⟩
    have H6:=aa (show MS ring g N lb xb rb H tb place o R4 ps pg rt l pages X6∧Kp R R4 X X6 from⟨(H4.out.1.still hB.out).still qZ,(H4.out.2.1.below hB.out).below qZ⟩)
    go_wp2_with fail
    go_ret
    exact⟨rfl,R4,H6.out.1,H0.out.1.mv H6.out.2⟩
   |false=>
    have q1:¬(i:Int)=0:=of_decide_eq_false D1
    have q2:¬(L:Int)=0:=of_decide_eq_false Jv
    have z1:((i:Int)==0)=false:=beq_eq_false_iff_ne.2 q1
    have z2:((L:Int)==0)=false:=beq_eq_false_iff_ne.2 q2
    clear D1 Jv
    go_wp2_with fail
    rw[show (Value.slice au L cu)=.slice au l.length cu by rw[←HL.out.1],show (Value.slice a L cp)=.slice a l.length cp by rw[←HL.out.1]]
    refine (j6 _ HV.out.1 HV.out.2 (by have:=HL.out;omega)).mono ?_
    rintro e X6 ⟨rfl,qZ⟩
    have H6:=aa (show MS ring g N lb xb rb H tb place o R4 ps pg rt l pages X6∧Kp R R4 X X6 from⟨(H4.out.1.still hB.out).still qZ,(H4.out.2.1.below hB.out).below qZ⟩)
    go_wp2_with fail
    go_ret
    exact⟨rfl,R4,H6.out.1,H0.out.1.mv H6.out.2⟩
end
end Go.Proofs.YtloekpcncjocaaaGreatDoor
namespace Go.Proofs.YtloekpcncjocaaaGreatDoor
set_option maxRecDepth 100000
open Go.ChangeShapes Go.WideShapes Go.ChangeAt Go.RowKit Lib
structure lI where
 what:Int
 map:Int
 n:Int
 long:Int
 key:ByteArray
 val:ByteArray
 till:ByteArray
instance:Inhabited lI:=⟨⟨0,0,0,0,.empty,.empty,.empty⟩⟩
structure lI.ok (x:lI):Prop where
 w1:-9223372036854775808≤x.what∧x.what≤9223372036854775807
 m1:-9223372036854775808≤x.map∧x.map≤9223372036854775807
 n1:-9223372036854775808≤x.n∧x.n≤9223372036854775807
 l1:-9223372036854775808≤x.long∧x.long≤9223372036854775807
def lI.cells (x:lI):List Value:=[.int .i64 x.what,.int .i64 x.map,.int .i64 x.n,.int .i64 x.long,.string x.key,.string x.val,.string x.till]
def Dy (w:World) (v:Value) (l:List lI):Prop:=
 ∃(a:Option Addr) (cap:Nat),v=.slice a l.length cap∧l.length≤cap∧l.length≤9223372036854775807∧∀i (hi:i<l.length),l[i].ok∧∃g o,a=some ⟨g,o,none⟩∧g<w.heap.size∧
  ∀j (hj:j<l.length) m,m<7→w.cell? ⟨g,o+(j*7+m),none⟩=l[j].cells[m]?
theorem LG {H:Type} {enc:TypeId×Value→H} {W:World} {n:Nat} {cs:List Value} {y:DataW H×List MemPlace} (yW:cs.length=7)
  (h:DataW.trod enc Tryz.prog W 0 (fun _=>true) true n 39 cs=some y):∃x:lI,cs=x.cells∧x.ok:=by
 obtain⟨xs,k,_,_,_,hxl,hf⟩:=DataW.trod_struct Tryz.underlying39 h
 have ci:Tryz.prog.cellsOf 3=1:=by kernel_rfl
 have cs':Tryz.prog.cellsOf 9=1:=by kernel_rfl
 match xs,hxl,cs,yW with
 |[y0,y1,y2,y3,y4,y5,y6],_,[v0,v1,v2,v3,v4,v5,v6],_=>
  have g0:=hf 0 _ rfl
  have g1:=hf 1 _ rfl
  have g2:=hf 2 _ rfl
  have g3:=hf 3 _ rfl
  have g4:=hf 4 _ rfl
  have g5:=hf 5 _ rfl
  have g6:=hf 6 _ rfl
  simp[ci,cs'] at g0 g1 g2 g3 g4 g5 g6
  obtain⟨m0,e0,_,hw0⟩:=DataW.trod_int Tryz.underlying3 g0
  obtain⟨m1,e1,_,hw1⟩:=DataW.trod_int Tryz.underlying3 g1
  obtain⟨m2,e2,_,gy⟩:=DataW.trod_int Tryz.underlying3 g2
  obtain⟨m3,e3,_,lU⟩:=DataW.trod_int Tryz.underlying3 g3
  obtain⟨s4,e4,_,_⟩:=DataW.trod_string Tryz.underlying9 g4
  obtain⟨s5,e5,_,_⟩:=DataW.trod_string Tryz.underlying9 g5
  obtain⟨s6,e6,_,_⟩:=DataW.trod_string Tryz.underlying9 g6
  injection e0 with e0 _
  injection e1 with e1 _
  injection e2 with e2 _
  injection e3 with e3 _
  injection e4 with e4 _
  injection e5 with e5 _
  injection e6 with e6 _
  subst e0 e1 e2 e3 e4 e5 e6
  exact⟨⟨m0,m1,m2,m3,s4,s5,s6⟩,rfl,⟨kN hw0,kN hw1,kN gy,kN lU⟩⟩
theorem AL {H:Type} {enc:TypeId×Value→H} {W:World} {base:Nat} {v:Value} {d:DataW H} {p:List MemPlace}
  (hval:Value.okWide Tryz.prog W .any base 22 v) (hd:DataW.Trod enc Tryz.prog W 0 (fun _=>true) true 22 v d p):∃l,Dy W v l:=by
 obtain⟨a,n,cap,rfl⟩:=okWide_slice Tryz.underlying22 hval
 obtain⟨f,hf⟩:=hd
 obtain⟨l,a,cap,e,h1,h2,h3⟩:=M0 (W:=W) (fun x:lI=>x.cells) (fun x=>x.ok) Tryz.underlying22 (c:=7) (by kernel_rfl) (by decide) (fun n cs y hl h=>LG hl h) hf
 exact⟨l,a,cap,e,h1,h2,h3⟩
theorem Dy.slice {w:World} {v:Value} {l:List lI} (h:Dy w v l):∃a cap,v=.slice a l.length cap:=by
 obtain⟨a,cap,rfl,_⟩:=h
 exact⟨a,cap,rfl⟩
theorem Dy.below {w w':World} {v:Value} {l:List lI} (h:Dy w v l) (hb:Below w.heap.size w w'):Dy w' v l:=by
 obtain⟨a,cap,rfl,hc,hm,hi⟩:=h
 refine⟨a,cap,rfl,hc,hm,fun i hil=> ?_⟩
 obtain⟨h0,g,o,rfl,e2,e3⟩:=hi i hil
 exact⟨h0,g,o,rfl,Nat.lt_of_lt_of_le e2 hb.size,fun j hj m hm=>by
  rw[←e3 j hj m hm]
  exact World.cell?_of_block (hb.block g e2)⟩
theorem Dy.at {w w':World} {l:List lI} {a:Option Addr} {n cap:Nat} (h:Dy w (.slice a n cap) l) (hb:Below w.heap.size w w') {k:Nat} (hk:k<l.length):
  ∃g o,a=some ⟨g,o,none⟩∧(l[k]).ok∧w'.cell? ⟨g,o+k*7,none⟩=some (.int .i64 (l[k]).what)∧w'.cell? ⟨g,o+k*7+1,none⟩=some (.int .i64 (l[k]).map)∧w'.cell? ⟨g,o+k*7+2,none⟩=some (.int .i64 (l[k]).n)∧w'.cell? ⟨g,o+k*7+3,none⟩=some (.int .i64 (l[k]).long)∧w'.cell? ⟨g,o+k*7+4,none⟩=some (.string (l[k]).key)∧w'.cell? ⟨g,o+k*7+5,none⟩=some (.string (l[k]).val)∧w'.cell? ⟨g,o+k*7+6,none⟩=some (.string (l[k]).till):=by
 obtain⟨a',cap',e,_,_,hi⟩:=h
 injection e with e1 _ _
 subst e1
 obtain⟨h0,g,o,rfl,h2,h3⟩:=hi k hk
 refine⟨g,o,rfl,h0, ?_, ?_, ?_, ?_, ?_, ?_, ?_⟩
 ·rw[hb.cell (p:=⟨g,o+k*7,none⟩) h2];exact h3 k hk 0 (by decide)
 ·rw[hb.cell (p:=⟨g,o+k*7+1,none⟩) h2,Nat.add_assoc];exact h3 k hk 1 (by decide)
 ·rw[hb.cell (p:=⟨g,o+k*7+2,none⟩) h2,Nat.add_assoc];exact h3 k hk 2 (by decide)
 ·rw[hb.cell (p:=⟨g,o+k*7+3,none⟩) h2,Nat.add_assoc];exact h3 k hk 3 (by decide)
 ·rw[hb.cell (p:=⟨g,o+k*7+4,none⟩) h2,Nat.add_assoc];exact h3 k hk 4 (by decide)
 ·rw[hb.cell (p:=⟨g,o+k*7+5,none⟩) h2,Nat.add_assoc];exact h3 k hk 5 (by decide)
 ·rw[hb.cell (p:=⟨g,o+k*7+6,none⟩) h2,Nat.add_assoc];exact h3 k hk 6 (by decide)
def lI.few (x:lI):Prop:=x.key.size≤120∧x.val.size≤120∧x.till.size≤120
def OB (w w':World) (l:List lI) (e:Ending):Prop:=∃b:Bool,e=.returned (.bool b)∧(b=true→l.length≤150∧∀x∈l,x.few)∧Below w.heap.size w w'
theorem uo (w:World) {v:Value} {l:List lI} (hl:Dy w v l):
  Calls Tryz.prog 7 #[v] w fun e w'=>OB w w' l e:=by
 have HL:=aa hl
 obtain⟨al,cl,rfl⟩:=hl.slice
 have Qp:(l.length:Int)≤9223372036854775807:=by obtain⟨_,_,_,_,h,_⟩:=hl;omega
 clear hl
 go_enter Tryz.func7,Tryz.ntmps7
 by_cases h150:150<l.length
 ·have j1:(150:Int)<l.length:=by omega
  go_wp2
  go_ret
  exact⟨false,rfl,fun h=>(by cases h),Below.refl _ _⟩
 have j1:¬(150:Int)<l.length:=by omega
 have HM:=aa (show l.length≤150 by omega)
 clear h150
 go_wp2
 go_loopw [10] (fun iv wr=>∃i:Nat,i≤l.length∧iv=.int .i64 i∧Hid (Below w.heap.size w wr∧∀x∈l.take i,x.few)) (fun iv _=>l.length-(RowKit.intOf iv).toNat)
 case atStart=>exact⟨0,Nat.zero_le _,rfl,aa ⟨Below.refl _ _,fun x hx=>by rw[List.take_zero] at hx;cases hx⟩⟩
 case round=>
  obtain⟨i,hi,rfl,hR⟩:=hrel
  by_cases hlt:i<l.length
  ·have hI:(i:Int)<l.length:=by omega
   obtain⟨gp,op,rfl,hok,c0,c1,c2,c3,c4,c5,c6⟩:=Dy.at HL.out hR.out.1 hlt
   have dP:=aa hlt
   have HX:=aa (show l.take (i+1)=l.take i++[l[i]] from List.take_succ_eq_append_getElem hlt)
   have HB:=aa (show ∀o:Obj,Below w.heap.size w (wr.alloc o) from fun o=>hR.out.1.alloc hR.out.1.size o)
   clear hi hok
   generalize l[i]=x at*
   clear hlt
   obtain⟨what,map,n,long,key,val,till⟩:=x
   simp only at c0 c1 c2 c3 c4 c5 c6
   by_cases h1:120<key.size
   ·have k1:(120:Int)<key.size:=by omega
    go_wp2
    go_ret
    exact⟨false,rfl,fun h=>(by cases h),HB.out _⟩
   by_cases h2:120<val.size
   ·have k1:¬(120:Int)<key.size:=by omega
    have k2:(120:Int)<val.size:=by omega
    go_wp2
    go_ret
    exact⟨false,rfl,fun h=>(by cases h),HB.out _⟩
   by_cases h3:120<till.size
   ·have k1:¬(120:Int)<key.size:=by omega
    have k2:¬(120:Int)<val.size:=by omega
    have k3:(120:Int)<till.size:=by omega
    go_wp2
    go_ret
    exact⟨false,rfl,fun h=>(by cases h),HB.out _⟩
   have k1:¬(120:Int)<key.size:=by omega
   have k2:¬(120:Int)<val.size:=by omega
   have k3:¬(120:Int)<till.size:=by omega
   have HF:=aa (show ∀x∈l.take (i+1),x.few from fun x hx=>by
    rw[HX.out] at hx
    rcases List.mem_append.1 hx with hx|hx
    ·exact hR.out.2 x hx
    ·rw[List.mem_singleton.1 hx]
     exact⟨by show key.size≤120;omega,by show val.size≤120;omega,by show till.size≤120;omega⟩)
   clear h1 h2 h3
   go_wp2
   go_roundw
   case rel=>exact⟨i+1,dP.out,by go_num,aa ⟨HB.out _,HF.out⟩⟩
   case measure=>have:=dP.out;simp[RowKit.intOf];omega
  ·have hI:¬(i:Int)<l.length:=by omega
   have HF:=aa (show ∀x∈l,x.few from by
    have:=hR.out.2
    rwa [List.take_of_length_le (by omega)] at this)
   clear hlt
   go_wp2
   go_ret
   exact⟨true,rfl,fun _=>⟨HM.out,HF.out⟩,hR.out.1⟩
def nP (s:ByteArray) (n:Int):List UInt8:=s.data.toList++List.replicate (min (max n 0) 120).toNat 0
theorem wI (w:World) (s:ByteArray) (n:Int) (hs:s.size≤1000):
  Calls Tryz.prog 12 #[.string s,.int .i64 n] w fun e w'=>e=.returned (.string (bs (nP s n)))∧Below w.heap.size w w':=by
 obtain⟨m,hm⟩:∃m:Nat,min (max n 0) 120=(m:Int):=⟨(min (max n 0) 120).toNat,by omega⟩
 have hm2:m≤120:=by omega
 obtain⟨x,hx⟩:∃x,max n 0=x:=⟨_,rfl⟩
 rw[hx] at hm
 have hmk:=m5 w m (by omega)
 have hbk:=rS w m m
 obtain⟨Zr,WQ⟩:∃Zr:Array Value,Zr=(List.replicate m (Value.int .u8 0)).toArray:=⟨_,rfl⟩
 obtain⟨zs,hzs⟩:∃zs,zs=bs (List.replicate m 0):=⟨_,rfl⟩
 rw[←WQ] at hmk
 rw[←WQ,←hzs] at hbk
 obtain⟨W2,lY⟩:∃W2,W2=w.alloc (.cells Zr 5):=⟨_,rfl⟩
 rw[←lY] at hmk hbk
 have hsz:zs.size=m:=by rw[hzs,aB,List.length_replicate]
 have FG:¬(9223372036854775807<s.size+zs.size):=by omega
 have aaP:(s++zs).size≤9223372036854775807:=by rw[ByteArray.size_append];omega
 have HE:=aa (show s++zs=bs (nP s n) by
  unfold nP
  rw[hx,hm,Int.toNat_natCast,←DE,←hzs,JL])
 have HB:=aa (show Below w.heap.size w W2 by rw[lY];exact (Below.refl _ w).alloc (Nat.le_refl _) _)
 clear WQ hzs lY hsz hm2
 go_enter Tryz.func12,Tryz.ntmps12
 go_wp2_with fail
 go_ret
 rw[HE.out]
 exact⟨rfl,HB.out⟩
end Go.Proofs.YtloekpcncjocaaaGreatDoor
namespace Go.Proofs.YtloekpcncjocaaaGreatDoor
open Go.RowKit Lib
theorem rO {w X:World} {rb tb place n B U:Nat} {l:Tr.bt} {V:List (Value×Tr.bt)} {A:List (Nat×TypeId×List Value)} {v:Value} (h:TF w rb tb place n l B V U A X) (hv:(v,l)∈V) (hl:l.length≤1000):
  Calls Tryz.prog 22 #[ptr tb,v] X fun e X'=>e=.returned (.bool true)∧TF w rb tb place n l B V U A X':=by
 obtain⟨g,b,xb,R,ps,pg,rt,pages,h1,h2,h3,h4,h5⟩:=h.ms
 refine (wH h1 (h5.rows _ hv).1 (h5.rows _ hv).2 hl).mono ?_
 rintro e X' ⟨rfl,R',hm,mv⟩
 exact⟨rfl,by rw[←h4];exact ga h2 h3 h5 hm mv⟩
theorem uq (s:ByteArray) (n:Int):(nP s n).length≤s.size+120:=by
 unfold nP
 rw[List.length_append,List.length_replicate,show s.data.toList.length=s.size from Array.length_toList]
 omega
theorem AM {l:Tr.bt} {key:List UInt8} {i:Nat} (hi:i<l.length):Tr.del (l.take (i+1)) key=Tr.del (l.take i) key++(if (l[i]).1=key then [] else [l[i]]):=by
 rw[List.take_succ_eq_append_getElem hi]
 unfold Tr.del
 rw[List.filter_append]
 congr 1
 by_cases h:(l[i]).1=key
 ·rw[if_pos h,List.filter_cons_of_neg (by simp[h]),List.filter_nil]
 ·rw[if_neg h,List.filter_cons_of_pos (by simp[h]),List.filter_nil]
theorem qS (w:World) {B:Nat} {v:Value} {l:Tr.bt} (h:bR B w v l) (hl:l.length≤100000) (key:List UInt8):
  Calls Tryz.prog 17 #[v,.string (bs key)] w fun e w'=>∃v',e=.returned v'∧bR w.heap.size w' v' (Tr.del l key)∧Below w.heap.size w w':=by
 obtain⟨a,cp,rfl,hc⟩:=Own.slice h
 have HO:=aa h
 obtain⟨N,hN⟩:∃N,N=l.length:=⟨_,rfl⟩
 rw[←hN]
 have G8:(N:Int)≤100000:=by omega
 have vB:(N:Int)≤cp:=by omega
 have HN:=aa hN
 have HL:=aa hl
 clear h hN hc hl
 go_enter Tryz.func17,Tryz.ntmps17
 go_wp2_with fail
 go_loopw [5,6] (fun ov iv wr=>∃i:Nat,i≤N∧iv=.int .i64 i∧Hid (bR w.heap.size wr ov (Tr.del (l.take i) key)∧Below w.heap.size w wr)) (fun _ iv _=>N-(RowKit.intOf iv).toNat)
 case atStart=>exact⟨0,Nat.zero_le _,rfl,aa ⟨Own.nil _ _ _ _,Below.refl _ _⟩⟩
 case round=>
  rename_i ov iv wr
  obtain⟨i,hi,rfl,hR⟩:=hrel
  by_cases hlt:i<N
  ·have hI:(i:Int)<N:=by omega
   have hil:i<l.length:=by rw[←HN.out];exact hlt
   obtain⟨g,cap',e,hBg,rF,hlc⟩:=Own.form HO.out (by omega)
   have e1:a=some ⟨g,0,none⟩:=by injection e
   subst e1
   obtain⟨c0,c1⟩:=kH (Own.lies (Own.below HO.out hR.out.2 (Nat.le_refl _))) i hil
   rw[Nat.zero_add] at c0 c1
   obtain⟨kx,jq⟩:∃kx,kx=(l[i]).1:=⟨_,rfl⟩
   obtain⟨vx,mS⟩:∃vx,vx=(l[i]).2:=⟨_,rfl⟩
   rw[←jq] at c0
   rw[←mS] at c1
   have py:=aa jq
   have Fm:=aa mS
   clear jq mS e hBg rF hlc
   by_cases hk:kx=key
   ·have hkb:(bs kx).toList=(bs key).toList:=by rw[hk]
    have HE:=aa (show Tr.del (l.take (i+1)) key=Tr.del (l.take i) key by rw[AM hil,if_pos (by rw[←py.out];exact hk),List.append_nil])
    clear py
    go_wp2_with fail
    go_roundw
    case rel=>exact⟨i+1,hlt,by go_num,aa ⟨by rw[HE.out];exact hR.out.1,hR.out.2⟩⟩
    case measure=>simp[RowKit.intOf];omega
   ·have hkb:((bs kx).toList==(bs key).toList)=false:=by rw[az,az];exact beq_eq_false_iff_ne.2 hk
    have HE:=aa (show Tr.del (l.take (i+1)) key=Tr.del (l.take i) key++[(kx,vx)] by rw[AM hil,if_neg (by rw[←py.out];exact hk),py.out,Fm.out])
    have hdl:(Tr.del (l.take i) key).length≤i:=by
     unfold Tr.del
     exact Nat.le_trans (List.length_filter_le _ _) (by rw[List.length_take];omega)
    obtain⟨a8,c8,AU,G9⟩:=Own.slice hR.out.1
    subst AU
    have p8:=aa (show bR w.heap.size (wr.alloc (.cells #[.string (bs kx),.string (bs vx)] 63)) (.slice a8 (Tr.del (l.take i) key).length c8) (Tr.del (l.take i) key)∧aJ cQ (wr.alloc (.cells #[.string (bs kx),.string (bs vx)] 63)) wr.heap.size 0 [(kx,vx)]∧(Tr.del (l.take i) key).length+1≤1000000000∧w.heap.size≤(wr.alloc (.cells #[.string (bs kx),.string (bs vx)] 63)).heap.size∧Below w.heap.size w (wr.alloc (.cells #[.string (bs kx),.string (bs vx)] 63)) from
     ⟨hR.out.1.alloc _,aJ.dI (aG.new wr _ _) rfl,by have:=HL.out;omega,by have:=hR.out.2.size;rw[World.size_alloc];omega,hR.out.2.alloc hR.out.2.size _⟩)
    clear py Fm hdl hk hR G9
    generalize MQ:(Tr.del (l.take i) key).length=DL at*
    have Sd:=aa MQ
    clear MQ
    go_wp2_with (at_builtin;refine Hid.out ?_)
    refine aa ?_
    refine bB (K:=cQ) pe rfl _ _ rfl rfl p8.out.1 p8.out.2.2.2.1 wr.heap.size 0 1 1 [(kx,vx)] rfl rfl p8.out.2.1 (by rw[Sd.out];exact p8.out.2.2.1) ?_
    intro v2 w5 cR cP gy
    have HP:=aa (show bR w.heap.size w5 v2 (Tr.del (l.take (i+1)) key)∧Below w.heap.size w w5 from⟨by rw[HE.out];exact cR,p8.out.2.2.2.2.trans (((aj.refl _ _).grown cP (fun k e _=>e)).below p8.out.2.2.2.1 fun k hk e=>by have:=(Own.block p8.out.1 k e).1;omega)⟩)
    clear cR cP gy
    go_wp2_with fail
    go_roundw
    case rel=>exact⟨i+1,hlt,by go_num,HP⟩
    case measure=>simp[RowKit.intOf];omega
  ·obtain rfl:i=N:=by omega
   have hI:¬(i:Int)<i:=by omega
   have HE:=aa (show l.take i=l from List.take_of_length_le (by rw[←HN.out];exact Nat.le_refl _))
   go_wp2_with fail
   go_ret
   exact⟨_,rfl,by have:=hR.out.1;rw[HE.out] at this;exact this,hR.out.2⟩
theorem wJ {w W:World} {v:Value} {out:Tr.bt} (ho:bR w.heap.size W v out) (hb:Below w.heap.size w W) (kx vx:List UInt8):bR w.heap.size (W.alloc (.cells #[.string (bs kx),.string (bs vx)] 63)) v out∧aJ cQ (W.alloc (.cells #[.string (bs kx),.string (bs vx)] 63)) W.heap.size 0 [(kx,vx)]∧w.heap.size≤(W.alloc (.cells #[.string (bs kx),.string (bs vx)] 63)).heap.size∧Below w.heap.size w (W.alloc (.cells #[.string (bs kx),.string (bs vx)] 63)):=
 ⟨ho.alloc _,aJ.dI (aG.new W _ _) rfl,by have:=hb.size;rw[World.size_alloc];omega,hb.alloc hb.size _⟩
theorem wK {w W W2:World} {v v2:Value} {out Se:Tr.bt} (ho:bR w.heap.size W v out) (hs:w.heap.size≤W.heap.size) (hb:Below w.heap.size w W) (cR:bR w.heap.size W2 v2 Se) (hg:W.grownBy W2 v.ownBlock):bR w.heap.size W2 v2 Se∧Below w.heap.size w W2:=
 ⟨cR,hb.trans (((aj.refl _ _).grown hg (fun k e _=>e)).below hs fun k hk e=>by have:=(Own.block ho k e).1;omega)⟩
theorem qT (w:World) {B:Nat} {v:Value} {l:Tr.bt} (h:bR B w v l) (hl:l.length≤100000) (hr:Tr.aP l) (key vl:List UInt8):
  Calls Tryz.prog 14 #[v,.string (bs key),.string (bs vl)] w fun e w'=>∃v',e=.returned v'∧bR w.heap.size w' v' (Tr.put l key vl)∧Below w.heap.size w w':=by
 obtain⟨a,cp,rfl,hc⟩:=Own.slice h
 have HO:=aa h
 obtain⟨N,hN⟩:∃N,N=l.length:=⟨_,rfl⟩
 rw[←hN]
 have G8:(N:Int)≤100000:=by omega
 have vB:(N:Int)≤cp:=by omega
 have HN:=aa hN
 have HL:=aa hl
 have HR:=aa hr
 clear h hN hc hl hr
 go_enter Tryz.func14,Tryz.ntmps14
 go_wp2_with fail
 go_loopw [7,8,9] (fun ov dv iv wr=>∃(i:Nat) (out:Tr.bt) (dn:Bool),i≤N∧iv=.int .i64 i∧dv=.bool dn∧Hid (Tr.cA l key vl i out dn∧bR w.heap.size wr ov out∧Below w.heap.size w wr)) (fun _ _ iv _=>N-(RowKit.intOf iv).toNat)
 case atStart=>exact⟨0,[],false,Nat.zero_le _,rfl,rfl,aa ⟨Tr.cA.zero,Own.nil _ _ _ _,Below.refl _ _⟩⟩
 case round=>
  obtain⟨i,out,dn,hi,rfl,rfl,hR⟩:=hrel
  have Fq:=aa (show out.length+2≤1000000000 by have:=hR.out.1.len;have:=HL.out;have:=HN.out;omega)
  obtain⟨a8,c8,AU,G9⟩:=Own.slice hR.out.2.1
  subst AU
  have HW:=aa hR.out.2
  clear G9
  by_cases hlt:i<N
  ·have hI:(i:Int)<N:=by omega
   have hil:i<l.length:=by rw[←HN.out];exact hlt
   obtain⟨g,cap',e,hBg,rF,hlc⟩:=Own.form HO.out (by omega)
   have e1:a=some ⟨g,0,none⟩:=by injection e
   subst e1
   obtain⟨c0,c1⟩:=kH (Own.lies (Own.below HO.out hR.out.2.2 (Nat.le_refl _))) i hil
   rw[Nat.zero_add] at c0 c1
   have hpe:l[i]=((l[i]).1,(l[i]).2):=rfl
   obtain⟨kx,jq⟩:∃kx,kx=(l[i]).1:=⟨_,rfl⟩
   obtain⟨vx,mS⟩:∃vx,vx=(l[i]).2:=⟨_,rfl⟩
   rw[←jq] at c0
   rw[←mS] at c1
   have MR:=aa (show l[i]=(kx,vx) by rw[jq,mS])
   clear jq mS e hBg rF hlc hpe
   cases dn with
   |true=>
    have hab:=hR.out.1.above hil
    have HI:=aa (hR.out.1.behind hil)
    rw[MR.out] at hab HI
    have hkb:((bs kx).toList==(bs key).toList)=false:=by rw[az,az];exact beq_eq_false_iff_ne.2 (Tr.ne_of_lt hab).symm
    clear hab hR
    have bX:=aa (wJ HW.out.1 HW.out.2 kx vx)
    go_wp2_with (at_builtin;refine Hid.out ?_)
    refine aa ?_
    refine bB (K:=cQ) pe rfl _ _ rfl rfl bX.out.1 bX.out.2.2.1 wr.heap.size 0 1 1 [(kx,vx)] rfl rfl bX.out.2.1 (by have:=Fq.out;first|omega|(rw[List.length_append,List.length_singleton];omega)) ?_
    intro LH w5 cR cP gy
    have HP:=aa (show bR w.heap.size w5 LH (out++[(kx,vx)])∧Below w.heap.size w w5 from wK bX.out.1 bX.out.2.2.1 bX.out.2.2.2 cR cP)
    clear cR cP gy bX
    go_wp2_with fail
    go_roundw
    case rel=>exact⟨i+1,_,_,hlt,by go_num,rfl,aa ⟨HI.out,HP.out⟩⟩
    case measure=>simp[RowKit.intOf];omega
   |false=>
    cases aQ:Op.bytesLess (bs kx).toList (bs key).toList with
    |true=>
     have kg:Tr.lt kx key=true:=by rw[az,az,Tr.lt_eq] at aQ;exact aQ
     have HI:=aa (hR.out.1.before hil (by rw[MR.out];exact kg))
     rw[MR.out] at HI
     have hkb:((bs kx).toList==(bs key).toList)=false:=by rw[az,az];exact beq_eq_false_iff_ne.2 (Tr.ne_of_lt kg)
     have hq:Op.bytesLess (bs key).toList (bs kx).toList=false:=by rw[az,az,Tr.lt_eq];exact Tr.lt_asymm kg
     have hqe:((bs key).toList==(bs kx).toList)=false:=by rw[az,az];exact beq_eq_false_iff_ne.2 (Tr.ne_of_lt kg).symm
     clear kg hR
     have bX:=aa (wJ HW.out.1 HW.out.2 kx vx)
     go_wp2_with (at_builtin;refine Hid.out ?_)
     refine aa ?_
     refine bB (K:=cQ) pe rfl _ _ rfl rfl bX.out.1 bX.out.2.2.1 wr.heap.size 0 1 1 [(kx,vx)] rfl rfl bX.out.2.1 (by have:=Fq.out;first|omega|(rw[List.length_append,List.length_singleton];omega)) ?_
     intro LH w5 cR cP gy
     have HP:=aa (show bR w.heap.size w5 LH (out++[(kx,vx)])∧Below w.heap.size w w5 from wK bX.out.1 bX.out.2.2.1 bX.out.2.2.2 cR cP)
     clear cR cP gy bX
     go_wp2_with fail
     go_roundw
     case rel=>exact⟨i+1,_,_,hlt,by go_num,rfl,aa ⟨HI.out,HP.out⟩⟩
     case measure=>simp[RowKit.intOf];omega
    |false=>
     have kg:Tr.lt kx key=false:=by rw[az,az,Tr.lt_eq] at aQ;exact aQ
     by_cases hk:kx=key
     ·have hkb:(bs kx).toList=(bs key).toList:=by rw[hk]
      have HI:=aa (hR.out.1.here HR.out hil (by rw[MR.out];exact hk))
      clear hk kg hR
      have bX:=aa (wJ HW.out.1 HW.out.2 key vl)
      go_wp2_with (at_builtin;refine Hid.out ?_)
      refine aa ?_
      refine bB (K:=cQ) pe rfl _ _ rfl rfl bX.out.1 bX.out.2.2.1 wr.heap.size 0 1 1 [(key,vl)] rfl rfl bX.out.2.1 (by have:=Fq.out;first|omega|(rw[List.length_append,List.length_singleton];omega)) ?_
      intro LH w5 cR cP gy
      have HP:=aa (show bR w.heap.size w5 LH (out++[(key,vl)])∧Below w.heap.size w w5 from wK bX.out.1 bX.out.2.2.1 bX.out.2.2.2 cR cP)
      clear cR cP gy bX
      have cb:=aa (Own.lies (Own.below HO.out HP.out.2 (Nat.le_refl _)))
      have c0':=(kH cb.out i hil).1
      rw[Nat.zero_add,MR.out] at c0'
      simp only at c0'
      clear c0 c1 cb
      go_wp2_with fail
      go_roundw
      case rel=>exact⟨i+1,_,_,hlt,by go_num,rfl,aa ⟨HI.out,HP.out⟩⟩
      case measure=>simp[RowKit.intOf];omega
     ·have HI:=aa (hR.out.1.gap HR.out hil (by
       rw[MR.out]
       cases e:Tr.lt key kx with
       |true=>rfl
       |false=>exact absurd (Tr.ff _ _ kg e) hk))
      rw[MR.out] at HI
      have hkb:((bs kx).toList==(bs key).toList)=false:=by rw[az,az];exact beq_eq_false_iff_ne.2 hk
      have hq:Op.bytesLess (bs key).toList (bs kx).toList=true:=by
       rw[az,az,Tr.lt_eq]
       cases e:Tr.lt key kx with
       |true=>rfl
       |false=>exact absurd (Tr.ff _ _ kg e) hk
      clear hk kg hR
      have bX:=aa (wJ HW.out.1 HW.out.2 key vl)
      go_wp2_with (at_builtin;refine Hid.out ?_)
      refine aa ?_
      refine bB (K:=cQ) pe rfl _ _ rfl rfl bX.out.1 bX.out.2.2.1 wr.heap.size 0 1 1 [(key,vl)] rfl rfl bX.out.2.1 (by have:=Fq.out;first|omega|(rw[List.length_append,List.length_singleton];omega)) ?_
      intro LH w5 cR cP gy
      have HQ:=aa (show bR w.heap.size w5 LH (out++[(key,vl)])∧Below w.heap.size w w5 from wK bX.out.1 bX.out.2.2.1 bX.out.2.2.2 cR cP)
      clear cR cP gy bX
      obtain⟨a9,c9,Zc,WC⟩:=Own.slice HQ.out.1
      obtain⟨n9,WR⟩:∃n9,n9=(out++[(key,vl)]).length:=⟨_,rfl⟩
      rw[←WR] at Zc
      subst Zc
      have HN9:=aa WR
      clear WR
      have cb:=aa (Own.lies (Own.below HO.out HQ.out.2 (Nat.le_refl _)))
      have c0':=(kH cb.out i hil).1
      have c1':=(kH cb.out i hil).2
      rw[Nat.zero_add,MR.out] at c0' c1'
      simp only at c0' c1'
      clear c0 c1 WC cb
      have ur:=aa (wJ HQ.out.1 HQ.out.2 kx vx)
      go_wp2_with (at_builtin;refine Hid.out ?_)
      refine aa ?_
      refine bB (K:=cQ) (l:=out++[(key,vl)]) pe rfl _ _ rfl rfl ur.out.1 ur.out.2.2.1 w5.heap.size 0 1 1 [(kx,vx)] rfl rfl ur.out.2.1 (by have:=Fq.out;first|omega|(rw[List.length_append,List.length_singleton];omega)) ?_
      intro vw6 w6 cR cP gy
      have HP:=aa (show bR w.heap.size w6 vw6 (out++[(key,vl)]++[(kx,vx)])∧Below w.heap.size w w6 from wK ur.out.1 ur.out.2.2.1 ur.out.2.2.2 cR cP)
      clear cR cP gy ur
      go_wp2_with fail
      go_roundw
      case rel=>exact⟨i+1,_,_,hlt,by go_num,rfl,aa ⟨HI.out,HP.out⟩⟩
      case measure=>simp[RowKit.intOf];omega
  ·obtain rfl:i=N:=by omega
   have hI:¬(i:Int)<i:=by omega
   cases dn with
   |true=>
    have HE:=aa (show out=Tr.put l key vl from Tr.cA.fin (by have:=hR.out.1;rwa [HN.out] at this))
    clear hR
    go_wp2_with fail
    go_ret
    exact⟨_,rfl,by rw[←HE.out];exact HW.out.1,HW.out.2⟩
   |false=>
    have HE:=aa (show out++[(key,vl)]=Tr.put l key vl from Tr.cA.last (by have:=hR.out.1;rwa [HN.out] at this))
    clear hR
    have bX:=aa (wJ HW.out.1 HW.out.2 key vl)
    go_wp2_with (at_builtin;refine Hid.out ?_)
    refine aa ?_
    refine bB (K:=cQ) pe rfl _ _ rfl rfl bX.out.1 bX.out.2.2.1 wr.heap.size 0 1 1 [(key,vl)] rfl rfl bX.out.2.1 (by have:=Fq.out;first|omega|(rw[List.length_append,List.length_singleton];omega)) ?_
    intro LH w5 cR cP gy
    have HP:=aa (show bR w.heap.size w5 LH (out++[(key,vl)])∧Below w.heap.size w w5 from wK bX.out.1 bX.out.2.2.1 bX.out.2.2.2 cR cP)
    clear cR cP gy bX
    go_wp2_with fail
    go_ret
    exact⟨_,rfl,by rw[←HE.out];exact HP.out.1,HP.out.2⟩
theorem yz (w:World) (n:Int) (hn:-9223372036854775808≤n∧n≤9223372036854775807) (v:Value) (l:List lI) (hl:Dy w v l):
  Calls Tryz.prog 4 #[.int .i64 n,v] w fun e w'=>e=.returned (.bool true)∧Below w.heap.size w w':=by
 have HL:=aa hl
 obtain⟨al,cl,rfl⟩:=hl.slice
 clear hl
 go_enter Tryz.func4,Tryz.ntmps4
 go_wp2_with fail
 refine (nO w).mono ?_
 rintro e w1 ⟨rfl,aQ⟩
 have H1:=aa aQ
 clear aQ
 by_cases Be:n<4
 ·go_wp2_with fail
  go_ret
  exact⟨rfl,H1.out⟩
 by_cases WS:30<n
 ·go_wp2_with fail
  go_ret
  exact⟨rfl,H1.out⟩
 go_wp2_with fail
 refine (uo w1 (HL.out.below H1.out)).mono ?_
 rintro e w2 ⟨b,rfl,qU,aC⟩
 have H2:=aa (show Below w.heap.size w w2 from H1.out.trans (aC.mono H1.out.size))
 cases b with
 |false=>
  clear qU aC
  go_wp2_with fail
  go_ret
  exact⟨rfl,H2.out⟩
 |true=>
  have OC:=aa (qU rfl)
  obtain⟨m,rfl⟩:∃m:Nat,n=m:=⟨n.toNat,by omega⟩
  have HM:=aa (show 4≤m∧m≤30 by omega)
  clear qU aC hn
  go_wp2_with fail
  clear Be WS
  refine (pF w2 m HM.out.1 (by have:=HM.out;omega)).mono ?_
  rintro e w3 ⟨g,b,rfl,KS,cC⟩
  have H3:=aa (And.intro KS cC)
  clear KS cC
  go_wp2_with fail
  refine (oH H3.out.1).mono ?_
  rintro e w4 ⟨xb,rfl,h4,hb4⟩
  have H4:=aa (And.intro h4 (H3.out.2.trans (hb4.mono H3.out.2.size)))
  clear h4 hb4
  go_wp2_with fail
  refine (rN w4 xb).mono ?_
  rintro e w5 ⟨rfl,rfl⟩
  have H5:=aa (uk (w:=w2) (place:=1) H4.out.1 (fun k hk=>hk) H4.out.2 (by have:=HM.out;omega) (by have:=HM.out;omega) (by decide))
  obtain⟨rb,hrb⟩:∃rb,rb=w4.heap.size:=⟨_,rfl⟩
  obtain⟨W,hW⟩:∃W,W=w4.alloc (.cells #[ptr xb] 75):=⟨_,rfl⟩
  have FH:W.heap.size=rb+1:=by rw[hW,hrb,World.size_alloc]
  rw[←hW,←hrb] at H5
  rw[←hrb,←hW]
  clear hrb hW H3 H4
  go_wp2_with fail
  refine (iz W rb 1).mono ?_
  rintro e w6 ⟨rfl,rfl⟩
  rw[FH]
  obtain⟨W6,FI⟩:∃W6,W6=W.alloc (.cells #[ptr rb,.int .i64 1] 81):=⟨_,rfl⟩
  obtain⟨tb,htb⟩:∃tb,tb=rb+1:=⟨_,rfl⟩
  have H6:=aa (show TF w2 rb tb 1 m [] (30000*0) [(.slice none 0 0,[])] 0 [] W6 by
   rw[FI,htb]
   exact H5.out.hold (Below.refl _ _) (Own.nil _ _ _ _))
  rw[←FI,←htb]
  clear FI htb H5 FH
  have Qp:(l.length:Int)≤150:=by have:=OC.out.1;omega
  go_wp2_with fail
  go_loopw [9,45] (fun ov iv wr=>∃(k:Nat) (L:Tr.bt) (U:Nat),k≤l.length∧iv=.int .i64 k∧Hid (TF w2 rb tb 1 m L (30000*k) [(ov,L)] U [] wr∧L.length≤k)) (fun _ iv _=>l.length-(RowKit.intOf iv).toNat)
  case atStart=>exact⟨0,[],0,Nat.zero_le _,rfl,aa ⟨H6.out,Nat.le_refl _⟩⟩
  case round=>
   clear H6
   obtain⟨k,L,U,hk,rfl,hR⟩:=hrel
   by_cases hlt:k<l.length
   ·have hI:(k:Int)<l.length:=by omega
    obtain⟨gp,op,rfl,hok,c0,c1,c2,c3,c4,c5,c6⟩:=Dy.at HL.out (H2.out.trans (hR.out.1.below.mono H2.out.size)) hlt
    have Sf:=aa hok
    have yA:=aa (OC.out.2 _ (List.getElem_mem hlt))
    have dP:=aa (show k<l.length∧k≤150 by omega)
    clear hk hok
    generalize l[k]=x at*
    clear hlt
    obtain⟨what,map,an,long,key,val,till⟩:=x
    simp only at c0 c1 c2 c3 c4 c5 c6 Sf
    obtain⟨vl,rfl⟩:∃vl,val=bs vl:=⟨val.data.toList,rfl⟩
    obtain⟨Y,hY⟩:∃Y,Y=wr.alloc (.cells #[.int .i64 what,.int .i64 map,.int .i64 an,.int .i64 long,.string key,.string (bs vl),.string till] 39):=⟨_,rfl⟩
    obtain⟨ab,hab⟩:∃ab,ab=wr.heap.size:=⟨_,rfl⟩
    have HY:=aa (show TF w2 rb tb 1 m L (30000*k) [(u9,L)] U [(ab,39,[.int .i64 what,.int .i64 map,.int .i64 an,.int .i64 long,.string key,.string (bs vl),.string till])] Y∧L.length≤k by
     rw[hY,hab]
     exact⟨hR.out.1.box _ _,hR.out.2⟩)
    have CF:=aa (And.intro hY hab)
    clear hY hab hR
    go_upto_block 2 with fail
    rw[←CF.out.1,←CF.out.2]
    have kJ:=HY.out.1.blk List.mem_cons_self
    have y0:=kJ.cell (j:=0) rfl
    have y3:=kJ.cell (j:=3) rfl
    have y4:=kJ.cell (j:=4) rfl
    have y5:=kJ.cell (j:=5) rfl
    simp only at y0 y3 y4 y5
    clear c0 c1 c2 c3 c4 c5 c6 CF kJ
    refine (wI Y key long (by have:=yA.out.1;simp only at this;omega)).mono ?_
    rintro e w7 ⟨rfl,fG⟩
    obtain⟨KK,OD⟩:∃KK,KK=nP key long:=⟨_,rfl⟩
    rw[←OD]
    have hks:(bs KK).size=KK.length:=aB _
    have hvs:(bs vl).size=vl.length:=aB _
    have gH:KK.length≤240:=by
     rw[OD]
     have h1:=uq key long
     have h2:=yA.out.1
     simp only at h2
     omega
    have hvl:vl.length≤120:=by
     have h2:=yA.out.2.1
     simp only at h2
     rw[aB] at h2
     exact h2
    have H7:=aa (show TF w2 rb tb 1 m L (30000*k) [(u9,L)] U [(ab,39,[.int .i64 what,.int .i64 map,.int .i64 an,.int .i64 long,.string key,.string (bs vl),.string till])] w7∧L.length≤k from⟨HY.out.1.still fG,HY.out.2⟩)
    have kJ:=H7.out.1.blk List.mem_cons_self
    have z0:=kJ.cell (j:=0) rfl
    have z5:=kJ.cell (j:=5) rfl
    simp only at z0 z5
    clear y0 y3 y4 y5 fG HY yA Sf OD kJ
    by_cases kI:96<KK.length∨56<vl.length
    ·have HZ:=aa (show TF w2 rb tb 1 m L (30000*(k+1)) [(u9,L)] U [] w7∧L.length≤k+1 from⟨(H7.out.1.less (fun _ h=>h) (A':=[]) (fun p hp=>by cases hp)).more (by omega),by have:=H7.out.2;omega⟩)
     by_cases aQ:96<KK.length
     ·have g1:(96:Int)<(bs KK).size:=by omega
      clear kI hks hvs gH hvl aQ H7
      go_wp2_with fail
      go_roundw
      case rel=>exact⟨k+1,_,_,dP.out.1,by go_num,HZ⟩
      case measure=>have:=dP.out;simp[RowKit.intOf];omega
     ·have g1:¬(96:Int)<(bs KK).size:=by omega
      have g2:(56:Int)<(bs vl).size:=by omega
      clear kI hks hvs gH hvl aQ H7
      go_wp2_with fail
      go_roundw
      case rel=>exact⟨k+1,_,_,dP.out.1,by go_num,HZ⟩
      case measure=>have:=dP.out;simp[RowKit.intOf];omega
    have Hs:=aa (show KK.length≤96∧vl.length≤56 by omega)
    have g1:¬(96:Int)<(bs KK).size:=by omega
    have g2:¬(56:Int)<(bs vl).size:=by omega
    clear kI hks hvs gH hvl
    by_cases h0:what=0
    ·subst h0
     go_wp2_with fail
     clear g1 g2
     refine (LC H7.out.1).mono ?_
     rintro e w8 ⟨rfl,h8⟩
     have H8:=aa (And.intro h8 H7.out.2)
     have HU:=aa h8.gO
     have kJ:=h8.blk List.mem_cons_self
     have x5:=kJ.cell (j:=5) rfl
     simp only at x5
     clear h8 H7 kJ z0 z5
     go_wp2_with fail
     refine (yt (key:=KK) (vl:=vl) H8.out.1 Hs.out.1 Hs.out.2 (by have:=dP.out;omega)).mono ?_
     rintro e w9 (⟨rfl,U9,h9⟩|⟨rfl,hf,h9⟩)
     ·have H9:=aa (And.intro h9 H8.out.2)
      have kJ:=h9.blk List.mem_cons_self
      have q5:=kJ.cell (j:=5) rfl
      simp only at q5
      have hro:=h9.row (p:=(u9,L)) List.mem_cons_self
      have fM:=aa hro
      have Jk:=aa H8.out.1.rising
      clear h9 kJ x5 hro
      go_wp2_with fail
      refine (qT w9 fM.out (by have:=H8.out.2;have:=dP.out;omega) Jk.out KK vl).mono ?_
      rintro e w10 ⟨v10,rfl,qo,lH⟩
      have HS:=aa (show TF w2 rb tb 1 m (Tr.put L KK vl) (30000*(k+1)) [(v10,Tr.put L KK vl)] U9 [] w10∧(Tr.put L KK vl).length≤k+1 from⟨((H9.out.1.hold lH qo).less (V':=[(v10,Tr.put L KK vl)]) (A':=[]) (fun p hp=>by rw[List.mem_singleton.1 hp];exact List.mem_cons_self) (fun p hp=>by cases hp)).more (by omega),by have:=Tr.jc L KK vl;have:=H8.out.2;omega⟩)
      clear qo lH H9 H8 fM Jk HU q5
      go_wp2_with fail
      refine (rO HS.out.1 List.mem_cons_self (by have:=HS.out.2;have:=dP.out;omega)).mono ?_
      rintro e wz ⟨rfl,hz⟩
      have HZ:=aa (hz.less (fun _ h=>h) (A':=[]) (fun p hp=>by cases hp))
      have OE:=aa HS.out.2
      clear hz
      go_wp2_with fail
      go_roundw
      case rel=>exact⟨k+1,_,_,dP.out.1,by go_num,aa ⟨HZ.out,OE.out⟩⟩
      case measure=>have:=dP.out;simp[RowKit.intOf];omega
     ·have H9:=aa (show TF w2 rb tb 1 m L (30000*(k+1)) [(u9,L)] U [] w9∧L.length≤k+1 from⟨(h9.less (fun _ h=>h) (A':=[]) (fun p hp=>by cases hp)).more (by omega),by have:=H8.out.2;omega⟩)
      have HF:=aa hf
      obtain⟨N,hN⟩:∃N,N=m-2:=⟨_,rfl⟩
      have Zd:(U:Int)≤316:=by have:=HU.out;have:=H8.out.2;have:=dP.out;omega
      have G8:(N:Int)≤28:=by have:=HM.out;omega
      have hfI:¬(35:Int)≤(N:Int)-U:=by omega
      have HN:=aa hN
      clear h9 hf x5 hN
      go_wp2_with fail
      refine (LD H9.out.1).mono ?_
      rintro e w10 ⟨rfl,rfl⟩
      rw[←HN.out]
      have HS:=H9
      clear H9 H8
      go_wp2_with fail
      refine (rO HS.out.1 List.mem_cons_self (by have:=HS.out.2;have:=dP.out;omega)).mono ?_
      rintro e wz ⟨rfl,hz⟩
      have HZ:=aa (hz.less (fun _ h=>h) (A':=[]) (fun p hp=>by cases hp))
      have OE:=aa HS.out.2
      clear hz
      go_wp2_with fail
      go_roundw
      case rel=>exact⟨k+1,_,_,dP.out.1,by go_num,aa ⟨HZ.out,OE.out⟩⟩
      case measure=>have:=dP.out;simp[RowKit.intOf];omega
    by_cases h1:what=1
    ·subst h1
     have hro:=H7.out.1.row (p:=(u9,L)) List.mem_cons_self
     have fM:=aa hro
     clear hro
     go_wp2_with fail
     clear g1 g2 z5
     refine (lG w7 fM.out (by have:=H7.out.2;have:=dP.out;omega) KK).mono ?_
     rintro e w8 ⟨rfl,kL⟩
     have H8:=aa (show TF w2 rb tb 1 m L (30000*k) [(u9,L)] U [] w8∧L.length≤k from⟨(H7.out.1.still kL).less (fun _ h=>h) (A':=[]) (fun p hp=>by cases hp),H7.out.2⟩)
     obtain⟨sv,nH⟩:∃sv,sv=bs ((Tr.got L KK).getD []):=⟨_,rfl⟩
     rw[←nH]
     obtain⟨th,Dx⟩:∃th,th=(Tr.got L KK).isSome:=⟨_,rfl⟩
     rw[←Dx]
     have Sg:=aa Dx
     clear kL H7 fM nH z0 Dx
     go_wp2_with fail
     refine (CD (key:=KK) H8.out.1 (by have:=dP.out;omega)).mono ?_
     rintro e w9 ⟨rfl,U9,h9⟩
     rw[←Sg.out]
     have H9:=aa (And.intro h9 H8.out.2)
     have hro:=h9.row (p:=(u9,L)) List.mem_cons_self
     have fM:=aa hro
     clear h9 H8 hro Sg
     cases th<;>
     ·go_wp2_with fail
      refine (qS w9 fM.out (by have:=H9.out.2;have:=dP.out;omega) KK).mono ?_
      rintro e w10 ⟨v10,rfl,qo,lH⟩
      have HS:=aa (show TF w2 rb tb 1 m (Tr.del L KK) (30000*(k+1)) [(v10,Tr.del L KK)] U9 [] w10∧(Tr.del L KK).length≤k+1 from⟨((H9.out.1.hold lH qo).less (V':=[(v10,Tr.del L KK)]) (A':=[]) (fun p hp=>by rw[List.mem_singleton.1 hp];exact List.mem_cons_self) (fun p hp=>by cases hp)).more (by omega),by have:=Tr.mV L KK;have:=H9.out.2;omega⟩)
      clear qo lH H9 fM
      go_wp2_with fail
      refine (rO HS.out.1 List.mem_cons_self (by have:=HS.out.2;have:=dP.out;omega)).mono ?_
      rintro e wz ⟨rfl,hz⟩
      have HZ:=aa (hz.less (fun _ h=>h) (A':=[]) (fun p hp=>by cases hp))
      have OE:=aa HS.out.2
      clear hz
      go_wp2_with fail
      go_roundw
      case rel=>exact⟨k+1,_,_,dP.out.1,by go_num,aa ⟨HZ.out,OE.out⟩⟩
      case measure=>have:=dP.out;simp[RowKit.intOf];omega
    ·have f0:(what==0)=false:=beq_eq_false_iff_ne.2 h0
     have f1:(what==1)=false:=beq_eq_false_iff_ne.2 h1
     have HS:=aa (show TF w2 rb tb 1 m L (30000*(k+1)) [(u9,L)] U [] w7∧L.length≤k+1 from⟨(H7.out.1.less (fun _ h=>h) (A':=[]) (fun p hp=>by cases hp)).more (by omega),by have:=H7.out.2;omega⟩)
     clear H7
     go_wp2_with fail
     refine (rO HS.out.1 List.mem_cons_self (by have:=HS.out.2;have:=dP.out;omega)).mono ?_
     rintro e wz ⟨rfl,hz⟩
     have HZ:=aa (hz.less (fun _ h=>h) (A':=[]) (fun p hp=>by cases hp))
     have OE:=aa HS.out.2
     clear hz
     go_wp2_with fail
     go_roundw
     case rel=>exact⟨k+1,_,_,dP.out.1,by go_num,aa ⟨HZ.out,OE.out⟩⟩
     case measure=>have:=dP.out;simp[RowKit.intOf];omega
   ·obtain rfl:k=l.length:=by omega
    have hI:¬((l.length:Nat):Int)<l.length:=by omega
    have HB:=aa (show Below w.heap.size w wr from H2.out.trans (hR.out.1.below.mono H2.out.size))
    clear hR hlt hk
    go_wp2_with fail
    go_ret
    exact⟨rfl,HB.out⟩
def kK {α:Type} (f:Nat→α) (k:Nat) (a:α):Nat→α:=fun j=>if j=k then a else f j
theorem fI {α:Type} (f:Nat→α) (k:Nat) (a:α):kK f k a k=a:=if_pos rfl
theorem gd {α:Type} (f:Nat→α) {k j:Nat} (a:α) (h:j≠k):kK f k a j=f j:=if_neg h
theorem uu {α:Type} (f:Nat→α) (k:Nat):kK f k (f k)=f:=by
 funext j
 unfold kK
 by_cases h:j=k
 ·rw[if_pos h,h]
 ·rw[if_neg h]
structure T2 (w:World) (rb n:Nat) (tb pl:Nat→Nat) (l:Nat→Tr.bt) (B:Nat) (V:List (Value×Tr.bt)) (U:Nat) (A:List (Nat×TypeId×List Value)) (X:World):Prop where
 ms:∃(g b xb:Nat) (R:Nat→Prop) (ps:List (Nat×List UInt8)) (pg:List (Option Wl.Text)) (rt:List Nat) (pages:Nat→List Nat),(∀k,k<2→MS 200 g 1 b xb rb (Wl.bO n) (tb k) (pl k) (pages (1-k)) R ps pg rt (l k) (pages k) X)∧ps.length≤B∧pg.length=n-2∧Rm.used pg=U∧Hl w V A R X
 ne:pl 0≠pl 1
section
variable {w X X':World} {rb n B U:Nat} {tb pl:Nat→Nat} {l:Nat→Tr.bt} {L:Tr.bt} {V V':List (Value×Tr.bt)} {A A':List (Nat×TypeId×List Value)} {v:Value} {key vl:List UInt8} {k:Nat}
theorem T2.below (h:T2 w rb n tb pl l B V U A X):Below w.heap.size w X:=by
 obtain⟨g,b,xb,R,ps,pg,rt,pages,h1,h2,h3,h4,h5⟩:=h.ms
 exact h5.below
theorem T2.row (h:T2 w rb n tb pl l B V U A X) {p:Value×Tr.bt} (hp:p∈V):bR w.heap.size X p.1 p.2:=by
 obtain⟨g,b,xb,R,ps,pg,rt,pages,h1,h2,h3,h4,h5⟩:=h.ms
 exact (h5.rows p hp).1
theorem T2.blk (h:T2 w rb n tb pl l B V U A X) {p:Nat×TypeId×List Value} (hp:p∈A):aG X p.1 p.2.1 p.2.2:=by
 obtain⟨g,b,xb,R,ps,pg,rt,pages,h1,h2,h3,h4,h5⟩:=h.ms
 exact (h5.jd p hp).2
theorem T2.more (h:T2 w rb n tb pl l B V U A X) {B':Nat} (hB:B≤B'):T2 w rb n tb pl l B' V U A X:=by
 obtain⟨g,b,xb,R,ps,pg,rt,pages,h1,h2,h3⟩:=h.ms
 exact⟨⟨g,b,xb,R,ps,pg,rt,pages,h1,Nat.le_trans h2 hB,h3⟩,h.ne⟩
theorem T2.still (h:T2 w rb n tb pl l B V U A X) (hb:Below X.heap.size X X'):T2 w rb n tb pl l B V U A X':=by
 obtain⟨g,b,xb,R,ps,pg,rt,pages,h1,h2,h3,h4,h5⟩:=h.ms
 exact⟨⟨g,b,xb,R,ps,pg,rt,pages,fun k hk=>(h1 k hk).still hb,h2,h3,h4,h5.still hb fun _ hk=>hk⟩,h.ne⟩
theorem T2.less (h:T2 w rb n tb pl l B V U A X) (hV:∀p∈V',p∈V) (hA:∀p∈A',p∈A):T2 w rb n tb pl l B V' U A' X:=by
 obtain⟨g,b,xb,R,ps,pg,rt,pages,h1,h2,h3,h4,h5⟩:=h.ms
 exact⟨⟨g,b,xb,R,ps,pg,rt,pages,h1,h2,h3,h4,h5.less hV hA⟩,h.ne⟩
theorem T2.hold (h:T2 w rb n tb pl l B V U A X) (hb:Below X.heap.size X X') (ho:bR X.heap.size X' v L):T2 w rb n tb pl l B ((v,L)::V) U A X':=by
 obtain⟨g,b,xb,R,ps,pg,rt,pages,h1,h2,h3,h4,h5⟩:=h.ms
 have h6:=h5.still (R':=fun k=>R k∨v.ownBlock=some k) hb fun k hk=>.inl hk
 refine⟨⟨g,b,xb,fun k=>R k∨v.ownBlock=some k,ps,pg,rt,pages,fun k hk=>(h1 k hk).hold hb (fun k hk=>hk.imp_right fun e=>ho.block k e) (.inl (h1 k hk).rm.rr) (.inl (h1 k hk).own),h2,h3,h4,{h6 with rows:=fun p hp=> ?_}⟩,h.ne⟩
 rcases List.mem_cons.1 hp with rfl|hp
 ·exact⟨Own.mono ho h5.below.size,fun x hx=>.inr hx⟩
 ·exact h6.rows p hp
theorem T2.box (h:T2 w rb n tb pl l B V U A X) (cs:Array Value) (t:TypeId):T2 w rb n tb pl l B V U ((X.heap.size,t,cs.toList)::A) (X.alloc (.cells cs t)):=by
 obtain⟨g,b,xb,R,ps,pg,rt,pages,h1,h2,h3,h4,h5⟩:=h.ms
 have hb:Below X.heap.size X (X.alloc (.cells cs t)):=(Below.refl _ X).alloc (Nat.le_refl _) _
 have h6:=h5.still (R':=fun k=>R k∨k=X.heap.size) hb fun k hk=>.inl hk
 refine⟨⟨g,b,xb,fun k=>R k∨k=X.heap.size,ps,pg,rt,pages,fun k hk=>(h1 k hk).hold hb (fun k hk=>hk.imp_right fun e=>by rw[e,World.size_alloc];omega) (.inl (h1 k hk).rm.rr) (.inl (h1 k hk).own),h2,h3,h4,{h6 with jd:=fun p hp=> ?_}⟩,h.ne⟩
 rcases List.mem_cons.1 hp with rfl|hp
 ·exact⟨.inr rfl,aG.new X _ _⟩
 ·exact h6.jd p hp
theorem T2.store (h:T2 w rb n tb pl l B V U A X) {gw:Nat} {t:TypeId} {cs:List Value} (hg:(gw,t,cs)∈A) (mA:w.heap.size≤gw) (j:Nat) (u:Value) (h1':t≠81) (h2':t≠75) (h3':63≠t) (hA':∀p∈A',(p∈A∧p.1≠gw)∨p=(gw,t,cs.set j u)):T2 w rb n tb pl l B V U A' (X.setCell ⟨gw,j,none⟩ u):=by
 obtain⟨g,b,xb,R,ps,pg,rt,pages,h1,h2,h3,h4,h5⟩:=h.ms
 have hbk:=(h5.jd _ hg).2
 have hR:=(h5.jd _ hg).1
 simp only at hbk hR
 have hb:aj (fun k=>k=gw) X (X.setCell ⟨gw,j,none⟩ u):=(aj.refl _ X).setCell _ _ fun _=>rfl
 have hne:∀{g2:Nat} {t2:TypeId} {WT:List Value},aG X g2 t2 WT→t≠t2→g2≠gw:=fun aC ht e=>by
  subst e
  exact aG.ne hbk aC ht rfl
 refine⟨⟨g,b,xb,R,ps,pg,rt,pages,fun k hk=>(h1 k hk).gq hb (fun k _ e=>e▸hR) (hne (h1 k hk).rm.blk h2') (hne (h1 k hk).tr h1') (fun k hk=>.inl hk) (h1 k hk).rm.rr (h1 k hk).own,h2,h3,h4,h5.low,h5.below.setCell (p:=⟨gw,j,none⟩) mA _,fun p hp=>⟨Own.but (h5.rows p hp).1 hb (fun x hx e=>Own.bK (h5.rows p hp).1 hbk h3' (by rw[hx,e])),(h5.rows p hp).2⟩,fun p hp=> ?_⟩,h.ne⟩
 rcases hA' p hp with⟨hp,hn⟩|rfl
 ·exact⟨(h5.jd p hp).1,(h5.jd p hp).2.but hb hn⟩
 ·exact⟨hR,hbk.set j u⟩
theorem T2.rising (h:T2 w rb n tb pl l B V U A X) (hk:k<2):Tr.aP (l k):=by
 obtain⟨g,b,xb,R,ps,pg,rt,pages,h1,-⟩:=h.ms
 exact (h1 k hk).rising
theorem T2.gO (h:T2 w rb n tb pl l B V U A X):U≤2*((l 0).length+(l 1).length)+32:=by
 obtain⟨g,b,xb,R,ps,pg,rt,pages,h1,-,-,h6,-⟩:=h.ms
 have h2:=(f_ (h1 0 (by decide)).ok).1
 have h3:=(f_ (h1 1 (by decide)).ok).1
 have h4:=(h1 0 (by decide)).us
 have e:(1-0:Nat)=1:=rfl
 rw[e] at h4
 omega
theorem T2.Ft (h:T2 w rb n tb pl l B V U A X) (h0:l 0=[]) (h1':l 1=[]):U=0:=by
 obtain⟨g,b,xb,R,ps,pg,rt,pages,h1,-,-,h6,-⟩:=h.ms
 have h2:=(f_ (h1 0 (by decide)).ok).2.2 (by rw[h0];rfl)
 have h3:=(f_ (h1 1 (by decide)).ok).2.2 (by rw[h1'];rfl)
 have h4:=(h1 0 (by decide)).us
 have e:(1-0:Nat)=1:=rfl
 rw[e] at h4
 omega
theorem jD {g b xb:Nat} {R R':Nat→Prop} {ps ps':List (Nat×List UInt8)} {pg bN:List (Option Wl.Text)} {rt rt' pages':List Nat} {pages:Nat→List Nat} {l':Tr.bt} (hne:pl 0≠pl 1) (hk:k<2) (Tn:∀k,k<2→MS 200 g 1 b xb rb (Wl.bO n) (tb k) (pl k) (pages (1-k)) R ps pg rt (l k) (pages k) X) (hps:ps'.length≤B) (ku:pg.length=n-2) (h:Hl w V A R X) (hm:MS 200 g 1 b xb rb (Wl.bO n) (tb k) (pl k) (pages (1-k)) R' ps' bN rt' l' pages' X') (mv:Mv R R' ps ps' pg bN rt rt' (pl k) (pages (1-k)) X X'):T2 w rb n tb pl (kK l k l') B V (Rm.used bN) A X':=by
 refine⟨⟨g,b,xb,R',ps',bN,rt',kK pages k pages',fun j hj=> ?_,hps,by rw[mv.len];exact ku,rfl,h.mv mv.but mv.sub⟩,hne⟩
 by_cases e:j=k
 ·subst e
  rw[fI,fI,gd _ _ (by omega)]
  exact hm
 ·have e1:1-j=k:=by omega
  have e2:1-k=j:=by omega
  rw[gd _ _ e,gd _ _ e,e1,fI]
  have ho:=Tn j hj
  rw[e1] at ho
  rw[e2] at hm mv
  refine MS.other ho hm mv ?_
  rcases (show k=0∨k=1 by omega) with rfl|rfl
  ·obtain rfl:j=1:=by omega
   exact hne
  ·obtain rfl:j=0:=by omega
   exact fun h=>hne h.symm
theorem OG (h:T2 w rb n tb pl l B V U A X) (hk2:k<2) (hk:key.length≤96) (hvl:vl.length≤56) (hB:B≤60000000) (hroom:U+20≤n-2):
  Calls Tryz.prog 13 #[ptr (tb k),.string (bs key),.string (bs vl)] X fun e X'=>e=.returned (.int .i64 0)∧∃U',T2 w rb n tb pl (kK l k (Tr.put (l k) key vl)) (B+30000) V U' A X':=by
 obtain⟨g,b,xb,R,ps,pg,rt,pages,h1,h2,h3,h4,h5⟩:=h.ms
 refine (Jb (h1 k hk2) hk hvl (by omega)).mono ?_
 rintro e X' (⟨rfl,R',ps',bN,rt',pages',hm,mv⟩|⟨rfl,hf,R',hm,mv⟩)
 ·exact⟨rfl,_,jD h.ne hk2 h1 (by have:=mv.few;omega) h3 h5 hm mv⟩
 ·omega
theorem Jl (h:T2 w rb n tb pl l B V U A X) (hk2:k<2) (hb:96<key.length∨56<vl.length):
  Calls Tryz.prog 13 #[ptr (tb k),.string (bs key),.string (bs vl)] X fun e X'=>e=.returned (.int .i64 5)∧T2 w rb n tb pl l B V U A X':=by
 obtain⟨g,b,xb,R,ps,pg,rt,pages,h1,h2,h3,h4,h5⟩:=h.ms
 refine (Ow (h1 k hk2) hb).mono ?_
 rintro e X' ⟨rfl,R',hm,mv⟩
 have:=jD h.ne hk2 h1 h2 h3 h5 hm mv
 rw[uu,h4] at this
 exact⟨rfl,this⟩
theorem CG (h:T2 w rb n tb pl l B V U A X) (hk2:k<2) (hB:B≤60000000):
  Calls Tryz.prog 16 #[ptr (tb k),.string (bs key)] X fun e X'=>e=.returned (.tuple #[.bool (Tr.got (l k) key).isSome,.int .i64 0])∧∃U',T2 w rb n tb pl (kK l k (Tr.del (l k) key)) (B+30000) V U' A X':=by
 obtain⟨g,b,xb,R,ps,pg,rt,pages,h1,h2,h3,h4,h5⟩:=h.ms
 refine (Jc (h1 k hk2) (by omega)).mono ?_
 rintro e X' ⟨rfl,R',ps',bN,rt',pages',hm,mv⟩
 exact⟨rfl,_,jD h.ne hk2 h1 (by have:=mv.few;omega) h3 h5 hm mv⟩
theorem OH (h:T2 w rb n tb pl l B V U A X) (hk2:k<2):
  Calls Tryz.prog 18 #[ptr (tb k),.string (bs key)] X fun e X'=>e=.returned (.tuple #[.string (bs ((Tr.got (l k) key).getD [])),.bool (Tr.got (l k) key).isSome,.int .i64 0])∧T2 w rb n tb pl l B V U A X':=by
 obtain⟨g,b,xb,R,ps,pg,rt,pages,h1,h2,h3,h4,h5⟩:=h.ms
 refine (Jd (h1 k hk2)).mono ?_
 rintro e X' ⟨rfl,R',hm,mv⟩
 have:=jD h.ne hk2 h1 h2 h3 h5 hm mv
 rw[uu,h4] at this
 exact⟨rfl,this⟩
theorem LJ (h:T2 w rb n tb pl l B V U A X) (hk2:k<2) (lo hi:List UInt8) (lim:Int):
  Calls Tryz.prog 19 #[ptr (tb k),.string (bs lo),.string (bs hi),.int .i64 lim] X fun e X'=>∃u,e=.returned (.tuple #[u,.int .i64 0])∧T2 w rb n tb pl l B ((u,(l k).foldl (aX lim lo hi) [])::V) U A X':=by
 obtain⟨g,b,xb,R,ps,pg,rt,pages,h1,h2,h3,h4,h5⟩:=h.ms
 refine (yq (h1 k hk2) lo hi lim).mono ?_
 rintro e X' ⟨u,rfl,ho,R',hm,mv,hu⟩
 have h6:=h5.mv mv.but mv.sub
 have h7:Hl w ((u,(l k).foldl (aX lim lo hi) [])::V) A R' X':=by
  refine⟨h6.low,h6.below,fun p hp=> ?_,h6.jd⟩
  rcases List.mem_cons.1 hp with rfl|hp
  ·exact⟨Own.mono ho h5.below.size,hu⟩
  ·exact h6.rows p hp
 refine⟨u,rfl,⟨g,b,xb,R',ps,pg,rt,pages,fun j hj=> ?_,h2,h3,h4,h7⟩,h.ne⟩
 by_cases e:j=k
 ·subst e;exact hm
 ·have e1:1-j=k:=by omega
  have e2:1-k=j:=by omega
  have ho:=h1 j hj
  rw[e1] at ho ⊢
  rw[e2] at hm mv
  refine MS.other ho hm mv ?_
  rcases (show k=0∨k=1 by omega) with rfl|rfl
  ·obtain rfl:j=1:=by omega
   exact h.ne
  ·obtain rfl:j=0:=by omega
   exact fun h'=>h.ne h'.symm
theorem Dz (h:T2 w rb n tb pl l B V U A X) (hk2:k<2) (hv:(v,l k)∈V) (hl:(l k).length≤1000):
  Calls Tryz.prog 22 #[ptr (tb k),v] X fun e X'=>e=.returned (.bool true)∧T2 w rb n tb pl l B V U A X':=by
 obtain⟨g,b,xb,R,ps,pg,rt,pages,h1,h2,h3,h4,h5⟩:=h.ms
 refine (wH (h1 k hk2) (h5.rows _ hv).1 (h5.rows _ hv).2 hl).mono ?_
 rintro e X' ⟨rfl,R',hm,mv⟩
 have:=jD h.ne hk2 h1 h2 h3 h5 hm mv
 rw[uu,h4] at this
 exact⟨rfl,this⟩
theorem LK (h:T2 w rb n tb pl l B V U A X):
  Calls Tryz.prog 24 #[ptr rb] X fun e X'=>e=.returned (.tuple #[.int .i64 U,.int .i64 0])∧T2 w rb n tb pl l B V U A X':=by
 have h':=h
 obtain⟨g,b,xb,R,ps,pg,rt,pages,h1,h2,h3,h4,h5⟩:=h.ms
 refine (p4 (h1 0 (by decide)).rm).mono ?_
 rintro e X' ⟨rfl,hb⟩
 exact⟨by rw[h4],h'.still hb⟩
end
structure yB (w:World) (rb n:Nat) (tb pl:Nat→Nat) (l:Nat→Tr.bt) (B:Nat) (V:List (Value×Tr.bt)) (U:Nat) (A:List (Nat×TypeId×List Value)) (pg:List (Option Wl.Text)) (pages:Nat→List Nat) (R:Nat→Prop) (X:World):Prop where
 ms:∃(g b xb:Nat) (ps:List (Nat×List UInt8)) (rt:List Nat),(∀k,k<2→MS 200 g 1 b xb rb (Wl.bO n) (tb k) (pl k) (pages (1-k)) R ps pg rt (l k) (pages k) X)∧ps.length≤B
 len:pg.length=n-2
 us:Rm.used pg=U
 hl:Hl w V A R X
 ne:pl 0≠pl 1
def aZ (pages:List Nat):List Int:=(pages.map fun n:Nat=>(n:Int)).mergeSort fun x y=>decide (x≤y)
theorem eF (pages:List Nat):(aZ pages).length=pages.length:=by
 unfold aZ
 rw[List.length_mergeSort,List.length_map]
theorem q9 {pages:List Nat} {x:Int} (h:x∈aZ pages):∃i:Nat,x=i∧i∈pages:=by
 unfold aZ at h
 rw[List.mem_mergeSort] at h
 obtain⟨i,h1,h2⟩:=List.mem_map.1 h
 exact⟨i,h2.symm,h1⟩
theorem Fu {pg:List (Option Wl.Text)} {i:Nat} (h:(pg.getD i none).isSome=true) (hl:i<pg.length):Rm.has pg i=true:=by
 unfold Rm.has
 rw[if_pos ⟨by omega,by omega⟩,Int.toNat_natCast]
 exact h
theorem AO {pg:List (Option Wl.Text)} {i:Nat} (hl:i<pg.length):Rm.kQ pg i=0:=by
 unfold Rm.kQ
 rw[if_pos ⟨by omega,by omega⟩]
section
variable {w X X':World} {rb n B U:Nat} {tb pl:Nat→Nat} {l:Nat→Tr.bt} {V V':List (Value×Tr.bt)} {A A':List (Nat×TypeId×List Value)} {pg:List (Option Wl.Text)} {pages:Nat→List Nat} {R:Nat→Prop} {k:Nat}
theorem T2.open (h:T2 w rb n tb pl l B V U A X):∃pg pages R,yB w rb n tb pl l B V U A pg pages R X:=by
 obtain⟨g,b,xb,R,ps,pg,rt,pages,h1,h2,h3,h4,h5⟩:=h.ms
 exact⟨pg,pages,R,⟨g,b,xb,ps,rt,h1,h2⟩,h3,h4,h5,h.ne⟩
theorem yB.shut (h:yB w rb n tb pl l B V U A pg pages R X):T2 w rb n tb pl l B V U A X:=by
 obtain⟨g,b,xb,ps,rt,h1,h2⟩:=h.ms
 exact⟨⟨g,b,xb,R,ps,pg,rt,pages,h1,h2,h.len,h.us,h.hl⟩,h.ne⟩
theorem LL (h:yB w rb n tb pl l B V U A pg pages R X) {i:Nat} {x:Int} (hx:(aZ (pages 0)++aZ (pages 1))[i]?=some x):
  Calls Tryz.prog 25 #[ptr rb,.int .i64 x] X fun e X'=>e=.returned (.tuple #[.bool true,.int .i64 0])∧Below X.heap.size X X':=by
 have hm:=List.mem_of_getElem? hx
 have hh:Rm.has pg x=true∧Rm.kQ pg x=0:=by
  obtain⟨g,b,xb,ps,rt,h1,h2⟩:=h.ms
  have key:∀k,k<2→x∈aZ (pages k)→Rm.has pg x=true∧Rm.kQ pg x=0:=fun k hk hx=>by
   obtain⟨i,rfl,hi⟩:=q9 hx
   have ht:=eT (h1 k hk).ok i hi
   have hlt:=aY ht
   exact⟨Fu ht hlt,AO hlt⟩
  rcases List.mem_append.1 hm with hm|hm
  ·exact key 0 (by decide) hm
  ·exact key 1 (by decide) hm
 obtain⟨g,b,xb,ps,rt,h1,h2⟩:=h.ms
 refine (zn (h1 0 (by decide)).rm x).mono ?_
 rintro e X' ⟨rfl,hb⟩
 exact⟨by rw[hh.1,hh.2],hb⟩
theorem yB.count (h:yB w rb n tb pl l B V U A pg pages R X):U=(pages 0).length+(pages 1).length:=by
 obtain⟨g,b,xb,ps,rt,h1,h2⟩:=h.ms
 have h4:=(h1 0 (by decide)).us
 have e:(1-0:Nat)=1:=rfl
 rw[e,h.us] at h4
 exact h4
theorem yB.few (h:yB w rb n tb pl l B V U A pg pages R X) (hk:k<2):(pages k).length≤2*(l k).length+16:=by
 obtain⟨g,b,xb,ps,rt,h1,h2⟩:=h.ms
 exact (f_ (h1 k hk).ok).1
theorem yB.still (h:yB w rb n tb pl l B V U A pg pages R X) (hb:Below X.heap.size X X'):yB w rb n tb pl l B V U A pg pages R X':=by
 obtain⟨g,b,xb,ps,rt,h1,h2⟩:=h.ms
 exact⟨⟨g,b,xb,ps,rt,fun k hk=>(h1 k hk).still hb,h2⟩,h.len,h.us,h.hl.still hb (fun _ h=>h),h.ne⟩
theorem wL (h:yB w rb n tb pl l B V U A pg pages R X) (hk:k<2):
  Calls Tryz.prog 23 #[ptr (tb k)] X fun e X'=>∃v R',e=.returned (.tuple #[v,.int .i64 0])∧eo X.heap.size X' v (aZ (pages k))∧yB w rb n tb pl l B V U A pg pages R' X'∧Kp R R' X X'∧∀b,v.ownBlock=some b→R' b:=by
 obtain⟨g,b,xb,ps,rt,h1,h2⟩:=h.ms
 refine (AG (h1 k hk)).mono ?_
 rintro e X' ⟨v,rfl,ho,R',hm,mv,hv⟩
 refine⟨v,R',rfl,ho,⟨⟨g,b,xb,ps,rt,fun j hj=> ?_,h2⟩,h.len,h.us,h.hl.mv mv.but mv.sub,h.ne⟩,mv.kp,hv⟩
 by_cases e:j=k
 ·subst e;exact hm
 ·have e1:1-j=k:=by omega
  have e2:1-k=j:=by omega
  have ho:=h1 j hj
  rw[e1] at ho ⊢
  rw[e2] at hm mv
  refine MS.other ho hm mv ?_
  rcases (show k=0∨k=1 by omega) with rfl|rfl
  ·obtain rfl:j=1:=by omega
   exact h.ne
  ·obtain rfl:j=0:=by omega
   exact fun h'=>h.ne h'.symm
theorem Jm (h:yB w rb n tb pl l B V U A pg pages R X):
  Calls Tryz.prog 24 #[ptr rb] X fun e X'=>e=.returned (.tuple #[.int .i64 U,.int .i64 0])∧Below X.heap.size X X':=by
 obtain⟨g,b,xb,ps,rt,h1,h2⟩:=h.ms
 refine (p4 (h1 0 (by decide)).rm).mono ?_
 rintro e X' ⟨rfl,hb⟩
 exact⟨by rw[h.us],hb⟩
theorem yB.grow (h:yB w rb n tb pl l B V U A pg pages R X) {B':Nat} {v:Value} {L:List Int} (ho:eo B' X v L) (hB:w.heap.size≤B') (hv:∀b,v.ownBlock=some b→R b) (hg:X.grownBy X' v.ownBlock) (hA:∀p∈A,p.2.1≠3):yB w rb n tb pl l B V U A pg pages R X':=by
 obtain⟨g,b,xb,ps,rt,h1,h2⟩:=h.ms
 have hb:aj (fun k=>v.ownBlock=some k) X X':=(aj.refl _ X).grown hg fun k e _=>e
 have hnb:∀{g2:Nat} {t2:TypeId} {WT:List Value},aG X g2 t2 WT→3≠t2→¬v.ownBlock=some g2:=fun aC ht=>Own.bK ho aC ht
 refine⟨⟨g,b,xb,ps,rt,fun k hk=>(h1 k hk).gq hb (fun k _ e=>hv k e) (hnb (h1 k hk).rm.blk (by decide)) (hnb (h1 k hk).tr (by decide)) (fun k hk=>.inl hk) (h1 k hk).rm.rr (h1 k hk).own,h2⟩,h.len,h.us,⟨h.hl.low,h.hl.below.trans (hb.below h.hl.below.size fun k hk e=>by have:=(ho.block k e).1;omega),fun p hp=>⟨Own.but (h.hl.rows p hp).1 hb fun x hx e=>Own.wQ ho (h.hl.rows p hp).1 (by decide) e hx,(h.hl.rows p hp).2⟩,fun p hp=>⟨(h.hl.jd p hp).1,(h.hl.jd p hp).2.but hb (hnb (h.hl.jd p hp).2 (hA p hp).symm)⟩⟩,h.ne⟩
end
end Go.Proofs.YtloekpcncjocaaaGreatDoor
