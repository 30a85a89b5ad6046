/- Elder texts, cut down and merged (16). -/
import Derived.Test.YtgfdijemhanfkaaGreatDoorP15
import Derived.Test.YtgfdijemhanfkaaGreatDoorP5
import Derived.Test.YtgfdijemhanfkaaGreatDoorP7
import Derived.Test.YtgfdijemhanfkaaGreatDoorP8
import Derived.Test.YtgfdijemhanfkaaGreatDoorPTk
set_option maxRecDepth 100000
set_option maxHeartbeats 8000000
namespace Go.Proofs.YtgfdijemhanfkaaGreatDoor
open _root_.Go.Proofs.Tryz
open Value renaming int→bf,slice→cx
open IntKind renaming i64→ct
open Option renaming none→aK,some→av
open Ending renaming returned→c8
open Obj renaming cells→dg
open Nat renaming le_refl->af,zero_le->aA
open List renaming getElem_mem->bp,take_succ_eq_append_getElem->cz,length_take->aJ,take_of_length_le->bD
section
open Go.RowKit Go.Maps Lib
def Nl (l:List UInt8):Value:=bf ct (IntKind.i64.wrap (Wl.dec l:Nat))
def FV:Value->Option (DataW Unit×List MemPlace)
 |.int ct n=>if-9223372036854775808<=n/\n<9223372036854775808 then av (.lit (.string (Ch.rM n)),[]) else aK
 |_=>aK
theorem No {n:Int} (h:-9223372036854775808<=n) (H:n<=9223372036854775807):IntKind.i64.wrap (Ch.cnt n:Int)=n:=by rw[IntKind.wrap_i64];unfold Ch.cnt;omega
theorem uG {n:Int} (h:-9223372036854775808<=n) (H:n<9223372036854775808):Nl (Ch.rM n)=bf ct n:=by have:=No h (Int.le_of_lt_add_one H);unfold Nl;rw[Ch.T4,this]
theorem Q6 (l:List UInt8) (h:l.length=8):FV (Nl l)=av (.lit (.string l),[]):=by
 have hd:Wl.dec l<256^8:=by have:=Pk.dec_lt l;rwa [h] at this
 have H:=IntKind.wrap_i64 (Wl.dec l:Nat);unfold Nl FV;simp only;rw[if_pos κ];have e:Ch.rM (IntKind.i64.wrap (Wl.dec l:Nat))=l:=by unfold Ch.rM;rw[show Ch.cnt (IntKind.i64.wrap (Wl.dec l:Nat))=Wl.dec l by unfold Ch.cnt;omega];exact Pk.KX 8 l h
 rw[e]
theorem Np {v:Value} {y:DataW Unit×List MemPlace} (h:FV v=av y):∃l,v=Nl l/\l.length=8/\y=(.lit (.string l),[]):=by
 unfold FV at h
 split at h
 ·rename_i n
  split at h
  ·rename_i hn;injection h with h;exact⟨Ch.rM n,(uG hn.1 hn.2).symm,Wl.bO _ _,h.symm⟩
  ·cases h
 ·cases h
def DK:ME:=⟨Nl,FV,fun l=>l.length=8,Q6,fun _ _ h=>Np h⟩
abbrev SMap (w:World) (b:Nat) (m:Wl.ew):Prop:=eW prog 3 DK w b m
theorem zL:prog.underlying 84=av (.map 3 2):=underlying84
theorem FW (w:World):(zeroValue 2).run prog w=.ok (DK.enc (Ch.rM 0)) w:=by rw[show DK.enc (Ch.rM 0)=bf ct 0 from uG ξ ξ];kernel_rfl
theorem eW.UD {P:Program} {T K E:TypeId} {w:World} {b:Nat} {m:Wl.ew} {M:ME} (h:eW P K M w b m) (a:P.underlying K=av (.int ct)) (d:P.underlying T=av (.map K E)) {z:List UInt8} (e:(zeroValue E).run P w=.ok (M.enc z) w) (U:M.fits z)
  {k:Nat} (F:k<=1000000) (hl:Wl.look k m=aK):(Instr.lookup T (.map (av b)) (.int ct k) false).run P w=.ok (M.enc z) w:=by
 obtain⟨v,ps,hr,c⟩:=h.1.lookup (int_keyed a) d e (M.read z U) (keyOf_int_mk a (sO F));rw[xp hl] at c;exact zar
theorem SMap.tells {w:World} {b:Nat} {m:Wl.ew} {l:List (Nat×Int)} (h:SMap w b m) (hs:Ch.nv m l) (c:∀x∈l,Ch.oG x) (hn:l.length<=1000000) {k:Nat} (a:k<=1000000):
  (Instr.lookup 84 (.map (av b)) (bf ct k) false).run prog w=.ok (bf ct (Ch.tot l k)) w:=by
 have d:=Ch.we l k c;cases H:Ch.there l k with
 |true=>
  have:=(eW.at (M:=DK) h gB zL (FW w) (Wl.bO _ _) a (by rw[hs.at_ k,H,if_pos rfl])).1;rw[show DK.enc (Ch.rM (Ch.tot l k))=bf ct (Ch.tot l k) from uG κ κ] at this;exact this
 |false=>
  have:=eW.UD (M:=DK) h gB zL (FW w) (Wl.bO _ _) a (by rw[hs.at_ k,H,if_neg ξ]);rw[show DK.enc (Ch.rM 0)=bf ct 0 from uG ξ ξ] at this;rw[Ch.Fe H];exact this
structure lU (w:World) (l:List (Nat×Int)) (b k:Nat) (m:Wl.ew) (X:World):Prop where
 below:Below w.heap.size w X
 aaH:SMap X b m
 ok:Ch.nv m (l.take k)
 few:m.length<=k
theorem oU {w:World} {g o:Nat} {l:List (Nat×Int)} (a:Option Addr) (c:Nat) (ha:0<l.length->a=av ⟨g,o,aK⟩/\bg gp w g o l/\g<w.heap.size) (F:∀x∈l,Ch.oG x) (hn:l.length<=1000):
  Calls prog 57 #[cx a l.length c] w fun e w'=>∃m,e=c8 (.map (av w.heap.size))/\SMap w' w.heap.size m/\Ch.nv m l/\m.length<=l.length/\Below w.heap.size w w':=by
 obtain⟨L,q⟩:=ξx l.length;rw[<-q] at ha |-;have J:=aa q;have r:=aa (And.intro ha F);have zJ:(L:Int)<=1000:=κ
 have W:=aa hn;have N:=aa (show lU w l w.heap.size 0 [] (w.alloc (.map #[] 0)) from⟨(Below.refl _ w).alloc (af _) _,eW.made _ _ _ w,Ch.nv.nil,af _⟩);clear ha F hn q;have s:=@run_makeMap prog;go_enter func57,ntmps57;go_wp2;clear s
 go_loopw [9] (fun I wr=>∃k:Nat,k<=L/\I=bf ct k/\∃m,Hid (lU w l w.heap.size k m wr)) (fun I _=>L-(RowKit.intOf I).toNat)
 case atStart=>exact⟨0,aA _,rfl,[],N⟩
 case round=>
  clear N;obtain⟨k,hk,rfl,m,H⟩:=hrel;by_cases j:k<L
  ·have R:(k:Int)<L:=κ;have E:k<l.length:=(by rw[<-J.o];exact j);obtain⟨U,G,K⟩:=r.o.1 κ;subst U;have h:=G.below H.o.below K;have x0:=h.at k 0 ξ E (bf ct l[k].1) rfl;have X:=h.at k 1 ξ E (bf ct l[k].2) rfl;rw[show gp.size=2 from rfl] at x0 X;rw[Nat.add_zero] at x0;rw[<-Nat.add_assoc] at X;obtain⟨x,p⟩:=ξx (l[k]'E);rw[<-p] at x0 X;have t:=aa (show Ch.oG x/\l.take (k+1)=l.take k++[x] from⟨r.o.2 x (by rw[p];exact bp E),by rw[p];exact cz E⟩);have b:x.1<=1000000:=(by have:=t.o.1.1;omega);have d:∀y∈l.take k,Ch.oG y:=fun y hy=>r.o.2 y (List.mem_of_mem_take hy);have u:=Ch.we (l.take k) x.1 d;have v:(l.take k).length<=1000:=(by rw[aJ];have:=W.o;omega);have hx2:=t.o.1.2;have z:=(Below.refl _ wr).alloc (af _) (dg #[bf ct x.1,bf ct x.2] 81);have f:SMap (wr.alloc (dg #[bf ct x.1,bf ct x.2] 81)) w.heap.size m:=H.o.aaH.but (aE.aF z (fun _=>False)) id;have S:=f.tells H.o.ok d κ b;have A:IntKind.i64.wrap (Ch.tot (l.take k) x.1+x.2)=Ch.tot (l.take k) x.1+x.2:=zaA;have O:DK.enc (Ch.rM (Ch.tot (l.take k) x.1+x.2))=bf ct (Ch.tot (l.take k) x.1+x.2):=uG κ κ;have C:=aa (And.intro f (And.intro z (And.intro b O)));have V:=aa (show m.length<=1000000 by have:=H.o.few;have:=W.o;have:=J.o;omega);have B:=H.o.ok.snoc x;rw[<-t.o.2] at B;have P:=aa B;obtain⟨pg,fO⟩:=x;simp only at x0 X S A C P;generalize Ch.tot (l.take k) pg=T at*;clear h E p b d u v hx2 z f O B G K;go_wp2_with (at_mapUpdate;refine Dv (M:=DK) rfl _ _ _ rfl C.o.1 gB zL V.o pg C.o.2.2.1 (Ch.rM (T+fO)) (Wl.bO _ _) rfl rfl C.o.2.2.2.symm ?_;intro Y n Q;refine Hid.o ?_);refine aa ?_;have Z:=aa (show lU w l w.heap.size (k+1) _ Y from⟨(H.o.below.trans (C.o.2.1.mono H.o.below.size)).trans ((aE.dK Q).below (H.o.below.trans (C.o.2.1.mono H.o.below.size)).size (fun i hi e=>by injection e with e;omega)),n,P.o,by have:=Ch.lq pg (Ch.rM (T+fO)) m;have:=H.o.few;omega⟩);clear n Q x0 X S;go_wp2;go_roundw
   case rel=>exact⟨k+1,j,ς,_,Z⟩
   case measure=>simp[RowKit.intOf];omega
  ·obtain rfl:k=L:=by omega
   have R:¬(k:Int)<k:=κ;have D:=H.o.ok;rw[bD (by rw[J.o];exact af _)] at D;have HO:=aa D;clear D;go_wp2;go_ret;exact⟨rfl,m,H.o.aaH,HO.o,H.o.few,H.o.below⟩
end
end Go.Proofs.YtgfdijemhanfkaaGreatDoor
