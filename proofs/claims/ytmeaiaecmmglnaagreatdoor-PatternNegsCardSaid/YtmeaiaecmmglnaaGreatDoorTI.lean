import Derived.Test.YtmeaiaecmmglnaaGreatDoorTH
import Derived.Test.YtmeaiaecmmglnaaGreatDoorMV
set_option linter.all false
set_option maxRecDepth 100000
namespace Go.Proofs.YtmeaiaecmmglnaaGreatDoor
open Go.RowKit
open Lib (hid)
def Rd (w:World) (p:Addr) (v:Value) (w':World):Prop:=w'.cell? p=some v∧Hid (Below w.heap.size w w')
theorem Rd.keep {w w' w'':World} {p:Addr} {v:Value} (h:Rd w p v w') (hp:p.block < w.heap.size) (hb:Below w'.heap.size w' w''):Rd w p v w'':=
 ⟨(hb.cell (p:=p) (by have:=h.2.out.size; omega)).trans h.1,hid (h.2.out.trans (hb.mono h.2.out.size))⟩
theorem Rd.row {w w':World} {p:Addr} {v:Value} (h:Rd w p v w') {A:Option Addr} {m c:Nat} {base:Nat} {zs:List Int} (ho:w.ownsRow base 21 1 (.slice A m c) m (i32s zs)) (hm:m≤36000000000000) (hz:Rg zs):Rns w' A m zs:=
 ⟨qB6.of_own (qCH ho h.2.out rfl),hm,hz⟩
theorem rg_isZ {zs:List Int} (h:zs.all isZ=true):Rg zs:=fun z hz=>by have:=qBC.1 (List.all_eq_true.1 h z hz); omega
theorem qG5 (zs:List Int):(stz (encs (nats zs))).size≤4 * zs.length:=by
 rw [qAC]
 have:=qHI (nats zs)
 rwa [qFA] at this
set_option maxHeartbeats 2000000 in
theorem refPrint_c (A:Option Addr) (n c:Nat) (ts:List Tok) (w:World) (h:Tks w A n ts) (hn:n≤100000000) (hm:ts.all mayT=true):Calls Tryz.prog 31 #[.slice A n c] w fun e w'=>e=.returned (.string (prtZ ts))∧Below w.heap.size w w':=by
 have HL:=hid h.len
 have H:=hid h
 have HM:=hid hm
 clear h hm
 generalize hg:w.heap.size=g at *
 have Hg:=hid hg
 clear hg
 have B0:=hid (show Below g w w by rw [← Hg.out]; exact Below.refl _ _)
 go_enter Tryz.func31,Tryz.ntmps31
 go_wp2
 go_loopw [3,4,5] (fun sv rv iv wr=>∃ (k:Nat) (O R:List Int) (mr:Nat),k≤n∧iv=.int .i64 (k:Int)∧prt ts []=O++prt (ts.drop k) R∧O.length+2 * mr≤4 * k∧R.all isZ=true∧sv=.string (stz (encs (nats O))) ∧
  wr.ownsRow g 21 1 rv mr (i32s R)∧Below g w wr) (fun _ _ iv _=>n - (intOf iv).toNat)
 case atStart=>exact ⟨0,[],[],0,Nat.zero_le _,rfl,rfl,by simp,rfl,rfl,World.ownsRow_nil _ _ _ _,B0.out⟩
 case round=>
  obtain ⟨k,O,R,mr,hk,rfl,hprt0,hpot,hrz0,rfl,hr0,hb0⟩:=hrel;have HPRT:=hid hprt0;have HRZ:=hid hrz0;have HR:=hid hr0;have HB:=hid hb0;have HT:=hid (H.out.below (w':=wr) (by rw [Hg.out]; exact hb0));have hgs:g≤wr.heap.size:=by have:=hb0.size; have:=Hg.out; omega
  have z1:(stz (encs (nats O))).size≤16 * n:=by have:=qG5 O; omega
  have hRl:R.length=mr:=by have:=hr0.1; simpa [qHN] using this
  have z2:(stz (encs (nats (inQ R)))).size≤16 * n+8:=by have:=qG5 (inQ R); have:=qJ5 R; omega
  have HRL:=hid hRl;clear hprt0 hrz0 hr0 hb0 hRl
  by_cases hlt:k < n
  · have HDR:=hid (drop_tk (ts:=ts) (k:=k) (by rw [HL.out]; exact hlt))
    have hmay:=List.all_eq_true.1 HM.out _ (tk_mem (ts:=ts) (k:=k) (by rw [HL.out]; exact hlt));obtain ⟨ad,rfl,hab,c0,c1,_,_⟩:=HT.out.at_ hlt;generalize tk ts k=t at *;obtain ⟨r,q,a⟩:=t;dsimp only at c0 c1;simp only [mayT,Bool.and_eq_true] at hmay;obtain ⟨hz,_⟩:=hmay;have hnn:=(qBC.1 hz).1;obtain ⟨x,rfl⟩:∃ x:Nat,r=(x:Int):=⟨r.toNat,by omega⟩;have HZ:=hid hz;have HXC:=hid (show isC x=true by rw [← qBG]; exact hz);clear hz hnn
    cases q
    · obtain ⟨A4,c4,h4⟩:=qAL HR.out
      subst h4;have hpb:(ad.add (k * 3)).block < wr.heap.size:=by rw [qA8]; exact hab
      have z3:(stz (encN x)).size≤4:=by rw [qAC]; exact qF7 x
      have q1:¬ 9223372036854775807 < (stz (encs (nats O))).size+(stz (encs (nats (inQ R)))).size:=by omega
      have q2:¬ 9223372036854775807 < (stz (encs (nats O))++stz (encs (nats (inQ R)))).size+(stz (encN x)).size:=by rw [ByteArray.size_append]; omega
      have q3:¬ 9223372036854775807 < (stz (encs (nats O))).size+(stz (encs (nats (inQ R)))).size+(stz (encN x)).size:=by omega
      go_wp2
      have hS:Rd wr (ad.add (k * 3)) (.int .i32 (x:Int)) wr.drew:=⟨c0,hid (Below.refl _ _).drew⟩;refine wp_region_held_drew (S:=(fun w'=>w'.cell? (ad.add (k * 3))=some (.int .i32 (x:Int))∧Hid (Below wr.heap.size wr w'))) (by kernel_rfl) (hS) (fun hHeld=>?_);refine' qt 0 hHeld ?_
      try simp only [pk]
      refine' qt 1 hHeld ?_
      try simp only [pk]
      refine' qt 4 hHeld ?_
      try simp only [pk]
      refine' qt 5 hHeld ?_
      try simp only [pk]
      refine' qt 6 hHeld ?_
      try simp only [pk]
      refine' qt 7 hHeld ?_
      try simp only [pk]
      refine' qt 8 hHeld ?_
      try simp only [pk]
      refine qp 2 fun K hK=>?_;go_simp;refine (refRow_c A4 mr c4 R _ (Rd.row (w:=wr) (p:=ad.add (k * 3)) (v:=.int .i32 (x:Int)) hHeld HR.out (by omega) (rg_isZ HRZ.out)) (by omega) HRZ.out).mono ?_;rintro r w1 ⟨rfl,hb⟩;have hS:=Rd.keep (w:=wr) (p:=ad.add (k * 3)) (v:=.int .i32 (x:Int)) hHeld hpb hb;clear hb;clear hHeld
      go_wp2_with fail
      refine hK.out _ _ hS (fun hHeld=>?_);clear hK K hS
      try simp only [pk]
      refine' qt 3 hHeld ?_
      try simp only [pk]
      refine qp 9 fun K hK=>?_;go_simp;refine (qBJ x _ HXC.out).mono ?_;rintro r w1 ⟨AB,mB,kB,rfl,hoB,hmB,hb⟩;have hS:=Rd.keep (w:=wr) (p:=ad.add (k * 3)) (v:=.int .i32 (x:Int)) hHeld hpb hb;have hcv:=qAZ hoB (qC0 HXC.out);have HBB:=hid hS.2.out;clear hb hoB hmB;clear hHeld
      go_wp2_with fail
      refine hK.out _ _ hS (fun hHeld=>?_);clear hK K hS
      try simp only [pk]
      refine qp 10 fun K hK=>?_;go_simp;refine hK.out _ _ hHeld (fun hHeld=>?_);clear hK K
      try simp only [pk]
      refine' qt 11 hHeld ?_
      try simp only [pk]
      refine' qt 12 hHeld ?_
      try simp only [pk]
      refine wpAnyH_done (by kernel_rfl) ?_ _;clear hHeld;clear hcv
      go_wp2
      go_roundw
      case rel=>
       refine ⟨k+1,O++inQ R++[(x:Int)],[],0,by omega,by go_num,?_,?_,rfl,?_,World.ownsRow_nil _ _ _ _,HB.out.trans (HBB.out.mono hgs)⟩
       · rw [HPRT.out,HDR.out,prt_p rfl]; simp
       · have:=qJ5 R
         have:=HRL.out;simp only [List.length_append,List.length_singleton]; omega
       · rw [qAU,qAU,qAF,qAF,qB8,qB8]
         congr 2
         show stz (encN x)=stz (encs [x])
         rw [qGY]
      case measure=>simp [intOf]; omega
    · go_wp2_with (at_builtin; go_must (refine qEY rfl (.tmp 17) (.tmp 23) _ rfl Tryz.underlying93 g u4 mr _ rfl HR.out _ rfl (x:Int) rfl (by omega) HB.out hgs ?_))
      intro v8 w6 ho8 hb8 _
      go_wp2
      go_roundw
      case rel=>
       refine ⟨k+1,O,R++[(x:Int)],mr+1,by omega,by go_num,?_,by omega,?_,rfl,?_,hb8.out⟩
       · rw [HPRT.out,HDR.out,prt_q rfl]
       · rw [List.all_append,HRZ.out]; simp [HZ.out]
       · simpa using ho8.out
      case measure=>simp [intOf]; omega
  · have hkn:k=n:=by omega
    subst hkn;have hE:prtZ ts=stz (encs (nats O))++stz (encs (nats (inQ R))):=by
     rw [(qDO HM.out).1,HPRT.out,List.drop_of_length_le (by rw [HL.out]; exact Nat.le_refl _),qJ6,qAU,qAF,qB8]
    have HE:=hid hE;clear hE;have q1:¬ 9223372036854775807 < (stz (encs (nats O))).size+(stz (encs (nats (inQ R)))).size:=by omega
    obtain ⟨A4,c4,h4⟩:=qAL HR.out;subst h4;have HC:=hid (refRow_c A4 mr c4 R wr ⟨qB6.of_own HR.out,by omega,rg_isZ HRZ.out⟩ (by omega) HRZ.out)
    go_wp2_with fail
    refine HC.out.mono ?_;rintro e w3 ⟨rfl,hb5⟩;have HB3:=hid (HB.out.trans (hb5.mono hgs));clear hb5 HC
    go_wp2
    go_ret
    rw [HE.out];exact ⟨rfl,HB3.out⟩
end Go.Proofs.YtmeaiaecmmglnaaGreatDoor
