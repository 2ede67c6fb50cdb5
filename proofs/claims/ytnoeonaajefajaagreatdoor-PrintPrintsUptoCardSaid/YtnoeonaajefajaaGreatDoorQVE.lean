import Derived.Test.YtnoeonaajefajaaGreatDoorQMB
import Derived.Test.YtnoeonaajefajaaGreatDoorQTG
import Derived.Test.YtnoeonaajefajaaGreatDoorQMV
import Derived.Test.YtnoeonaajefajaaGreatDoorQVC
set_option linter.all false
set_option maxRecDepth 100000
namespace Go.Proofs.YtnoeonaajefajaaGreatDoor
open Go.RowKit
open Lib (hid)
set_option maxHeartbeats 1000000 in
theorem refRow_c (A:Option Addr) (n c:Nat) (zs:List Int) (w:World) (h:Rns w A n zs) (hn:n≤1000000000) (hz:zs.all isZ=true):Calls Tryz.prog 118 #[.slice A n c] w fun e w'=>
 e=.returned (.string (stz (encs (nats (inQ zs)))))∧Below w.heap.size w w':=by
 have HL:=hid h.len
 have H:=hid h
 have HZ:=hid hz
 clear h hz
 generalize hg:w.heap.size=g at *
 have Hg:=hid hg
 clear hg
 have B0:=hid (show Below g w w by rw [← Hg.out]; exact Below.refl _ _)
 go_enter Tryz.func118,Tryz.ntmps118
 go_wp2
 go_loopw [3,4,5] (fun sv av iv wr=>∃ (k:Nat) (bs:List Nat),k≤n∧iv=.int .i64 (k:Int)∧bs=encs (nats (dbl (zs.take k)))∧sv=.string (stz bs)∧av=.bool ((zs.take k).all (fun r=>decide (r=39)))∧Below g w wr) (fun _ _ iv _=>n - (intOf iv).toNat)
 case atStart=>exact ⟨0,[],Nat.zero_le _,rfl,rfl,rfl,rfl,B0.out⟩
 case round=>
  obtain ⟨k,bs,hk,rfl,hbs0,rfl,rfl,hb0⟩:=hrel;have HBS:=hid hbs0;have HB:=hid hb0;have hgs:g≤wr.heap.size:=by have:=hb0.size; have:=Hg.out; omega
  have HR:=hid (H.out.below (w':=wr) (by rw [Hg.out]; exact hb0));have hsz:(stz bs).size≤8 * k:=by
   rw [qA9,hbs0];have h1:=qHY (nats (dbl (zs.take k)));rw [qFK] at h1;have h2:=dbl_len (zs.take k);rw [List.length_take] at h2;omega
  clear hbs0 hb0
  by_cases hlt:k < n
  · obtain ⟨ad,rfl,_,hc,_,_⟩:=HR.out.at_ hlt
    have hzk:isZ (zs.getD k 0)=true:=List.all_eq_true.1 HZ.out _ (getD_mem (by rw [HL.out]; exact hlt));have HST:=hid (qF9 zs (k:=k) (by rw [HL.out]; exact hlt));have hnn:=(qAS.1 hzk).1;obtain ⟨x,hx⟩:∃ x:Nat,zs.getD k 0=(x:Int):=⟨(zs.getD k 0).toNat,by omega⟩;rw [hx] at hc hzk HST;rw [qBP] at hzk;have HXC:=hid hzk;clear hx hzk hnn
    go_wp2_with fail
    refine (qB2 x _ HXC.out).mono ?_;rintro e w1 ⟨A1,m1,c1,rfl,ho1,hm1,hb1⟩;have HB1:=hid (HB.out.trans (hb1.mono hgs));have HR1:=hid (HR.out.below hb1);have hm14:m1≤4:=by rw [hm1]; exact qC6 x
    have hcv:=qAR ho1 (qBH HXC.out);have hs1:(stz (encN x)).size≤4:=by rw [qA9]; exact qC6 x
    have hc1:w1.cell? (ad.add k)=some (.int .i32 (x:Int)):=(hb1.cell (p:=ad.add k) (by rw [qAB]; assumption)).trans hc;clear hb1 ho1 hc hm1
    by_cases hx:x=39
    · subst hx
      rw [show ((39:Nat):Int)=39 from rfl] at hc1 HST
      go_wp2
      go_roundw
      case rel=>
       refine ⟨k+1,bs++encN 39++[39],by omega,by go_num,?_,?_,?_,HB1.out⟩
       · rw [HST.out,qF0,qK7,if_pos rfl,qAU,qB4,← HBS.out,List.append_assoc]; rfl
       · rw [qAA,qAA]; rfl
       · rw [HST.out,List.all_append]; simp
      case measure=>simp [intOf]; omega
    · have hx39:((x:Int) == 39)=false:=by simp; omega
      have hx40:¬ ((x:Int)=39):=by omega
      have HX:=hid hx40;clear hx40
      go_wp2
      go_roundw
      case rel=>
       refine ⟨k+1,bs++encN x,by omega,by go_num,?_,?_,?_,HB1.out⟩
       · rw [HST.out,qF0,qK7,if_neg HX.out,qAU,qB4,← HBS.out]
         show _=bs++encs [x]
         rw [qJY]
       · rw [qAA]
       · rw [HST.out,List.all_append]; simp [HX.out]
      case measure=>simp [intOf]; omega
  · have hT:zs.take k=zs:=List.take_of_length_le (by rw [HL.out]; omega)
    rw [hT] at HBS;rw [hT];clear hT;have hbb:=HBS.out
    rcases ha:zs.all (fun r=>decide (r=39)) with _ | _
    · have HQ:=hid (show stz (encs (nats (inQ zs)))=⟨#[39]⟩++stz bs++⟨#[39]⟩ by
       rw [inQ,ha,hbb]
       show stz (encs (39 :: nats (dbl zs++[39])))=_
       rw [qAI,qAU,qB4,qAA,qAA,← ByteArray.append_assoc]; rfl)
      clear ha hbb
      go_wp2
      go_ret
      rw [HQ.out];exact ⟨rfl,HB.out⟩
    · have HQ:=hid (show stz (encs (nats (inQ zs)))=stz bs by rw [inQ,ha,hbb]; rfl)
      clear ha hbb
      go_wp2
      go_ret
      rw [HQ.out];exact ⟨rfl,HB.out⟩
end Go.Proofs.YtnoeonaajefajaaGreatDoor

set_option linter.all false
set_option maxRecDepth 100000
namespace Go.Proofs.YtnoeonaajefajaaGreatDoor
open Go.RowKit
open Lib (hid)
def Rd (w:World) (p:Addr) (v:Value) (w':World):Prop:=w'.cell? p=some v∧Hid (Below w.heap.size w w')
theorem Rd.keep {w w' w'':World} {p:Addr} {v:Value} (h:Rd w p v w') (hp:p.block < w.heap.size) (hb:Below w'.heap.size w' w''):Rd w p v w'':=
 ⟨(hb.cell (p:=p) (by have:=h.2.out.size; omega)).trans h.1,hid (h.2.out.trans (hb.mono h.2.out.size))⟩
theorem Rd.row {w w':World} {p:Addr} {v:Value} (h:Rd w p v w') {A:Option Addr} {m c:Nat} {base:Nat} {zs:List Int} (ho:w.ownsRow base 21 1 (.slice A m c) m (i32s zs)) (hm:m≤36000000000000) (hz:Rg zs):Rns w' A m zs:=
 ⟨qB6.of_own (qAV ho h.2.out rfl),hm,hz⟩
theorem rg_isZ {zs:List Int} (h:zs.all isZ=true):Rg zs:=fun z hz=>by have:=qAS.1 (List.all_eq_true.1 h z hz); omega
theorem qGQ (zs:List Int):(stz (encs (nats zs))).size≤4 * zs.length:=by
 rw [qA9]
 have:=qHY (nats zs)
 rwa [qFK] at this
set_option maxHeartbeats 2000000 in
theorem refPrint_c (A:Option Addr) (n c:Nat) (ts:List Tok) (w:World) (h:Tks w A n ts) (hn:n≤100000000) (hm:ts.all mayT=true):Calls Tryz.prog 79 #[.slice A n c] w fun e w'=>e=.returned (.string (prtZ ts))∧Below w.heap.size w w':=by
 have HL:=hid h.len
 have H:=hid h
 have HM:=hid hm
 clear h hm
 generalize hg:w.heap.size=g at *
 have Hg:=hid hg
 clear hg
 have B0:=hid (show Below g w w by rw [← Hg.out]; exact Below.refl _ _)
 go_enter Tryz.func79,Tryz.ntmps79
 go_wp2
 go_loopw [3,4,5] (fun sv rv iv wr=>∃ (k:Nat) (O R:List Int) (mr:Nat),k≤n∧iv=.int .i64 (k:Int)∧prt ts []=O++prt (ts.drop k) R∧O.length+2 * mr≤4 * k∧R.all isZ=true∧sv=.string (stz (encs (nats O))) ∧
  wr.ownsRow g 21 1 rv mr (i32s R)∧Below g w wr) (fun _ _ iv _=>n - (intOf iv).toNat)
 case atStart=>exact ⟨0,[],[],0,Nat.zero_le _,rfl,rfl,by simp,rfl,rfl,World.ownsRow_nil _ _ _ _,B0.out⟩
 case round=>
  obtain ⟨k,O,R,mr,hk,rfl,hprt0,hpot,hrz0,rfl,hr0,hb0⟩:=hrel;have HPRT:=hid hprt0;have HRZ:=hid hrz0;have HR:=hid hr0;have HB:=hid hb0;have HT:=hid (H.out.below (w':=wr) (by rw [Hg.out]; exact hb0));have hgs:g≤wr.heap.size:=by have:=hb0.size; have:=Hg.out; omega
  have z1:(stz (encs (nats O))).size≤16 * n:=by have:=qGQ O; omega
  have hRl:R.length=mr:=by have:=hr0.1; simpa [qDT] using this
  have z2:(stz (encs (nats (inQ R)))).size≤16 * n+8:=by have:=qGQ (inQ R); have:=qK8 R; omega
  have HRL:=hid hRl;clear hprt0 hrz0 hr0 hb0 hRl
  by_cases hlt:k < n
  · have HDR:=hid (drop_tk (ts:=ts) (k:=k) (by rw [HL.out]; exact hlt))
    have hmay:=List.all_eq_true.1 HM.out _ (tk_mem (ts:=ts) (k:=k) (by rw [HL.out]; exact hlt));obtain ⟨ad,rfl,hab,c0,c1,_,_⟩:=HT.out.at_ hlt;generalize tk ts k=t at *;obtain ⟨r,q,a⟩:=t;dsimp only at c0 c1;simp only [mayT,Bool.and_eq_true] at hmay;obtain ⟨hz,_⟩:=hmay;have hnn:=(qAS.1 hz).1;obtain ⟨x,rfl⟩:∃ x:Nat,r=(x:Int):=⟨r.toNat,by omega⟩;have HZ:=hid hz;have HXC:=hid (show isC x=true by rw [← qBP]; exact hz);clear hz hnn
    cases q
    · obtain ⟨A4,c4,h4⟩:=qAJ HR.out
      subst h4;have hpb:(ad.add (k * 3)).block < wr.heap.size:=by rw [qAB]; exact hab
      have z3:(stz (encN x)).size≤4:=by rw [qA9]; exact qC6 x
      have q1:¬ 9223372036854775807 < (stz (encs (nats O))).size+(stz (encs (nats (inQ R)))).size:=by omega
      have q2:¬ 9223372036854775807 < (stz (encs (nats O))++stz (encs (nats (inQ R)))).size+(stz (encN x)).size:=by rw [ByteArray.size_append]; omega
      have q3:¬ 9223372036854775807 < (stz (encs (nats O))).size+(stz (encs (nats (inQ R)))).size+(stz (encN x)).size:=by omega
      go_wp2
      have hS:Rd wr (ad.add (k * 3)) (.int .i32 (x:Int)) wr.drew:=⟨c0,hid (Below.refl _ _).drew⟩;refine wp_region_held_drew (S:=(fun w'=>w'.cell? (ad.add (k * 3))=some (.int .i32 (x:Int))∧Hid (Below wr.heap.size wr w'))) (by kernel_rfl) (hS) (fun hHeld=>?_);refine' qt 0 hHeld ?_
      try simp only [pk]
      refine' qt 1 hHeld ?_
      try simp only [pk]
      refine' qt 4 hHeld ?_
      try simp only [pk]
      refine' qt 5 hHeld ?_
      try simp only [pk]
      refine' qt 6 hHeld ?_
      try simp only [pk]
      refine' qt 7 hHeld ?_
      try simp only [pk]
      refine' qt 8 hHeld ?_
      try simp only [pk]
      refine qp 2 fun K hK=>?_;go_simp;refine (refRow_c A4 mr c4 R _ (Rd.row (w:=wr) (p:=ad.add (k * 3)) (v:=.int .i32 (x:Int)) hHeld HR.out (by omega) (rg_isZ HRZ.out)) (by omega) HRZ.out).mono ?_;rintro r w1 ⟨rfl,hb⟩;have hS:=Rd.keep (w:=wr) (p:=ad.add (k * 3)) (v:=.int .i32 (x:Int)) hHeld hpb hb;clear hb;clear hHeld
      go_wp2_with fail
      refine hK.out _ _ hS (fun hHeld=>?_);clear hK K hS
      try simp only [pk]
      refine' qt 3 hHeld ?_
      try simp only [pk]
      refine qp 9 fun K hK=>?_;go_simp;refine (qB2 x _ HXC.out).mono ?_;rintro r w1 ⟨AB,mB,kB,rfl,hoB,hmB,hb⟩;have hS:=Rd.keep (w:=wr) (p:=ad.add (k * 3)) (v:=.int .i32 (x:Int)) hHeld hpb hb;have hcv:=qAR hoB (qBH HXC.out);have HBB:=hid hS.2.out;clear hb hoB hmB;clear hHeld
      go_wp2_with fail
      refine hK.out _ _ hS (fun hHeld=>?_);clear hK K hS
      try simp only [pk]
      refine qp 10 fun K hK=>?_;go_simp;refine hK.out _ _ hHeld (fun hHeld=>?_);clear hK K
      try simp only [pk]
      refine' qt 11 hHeld ?_
      try simp only [pk]
      refine' qt 12 hHeld ?_
      try simp only [pk]
      refine wpAnyH_done (by kernel_rfl) ?_ _;clear hHeld;clear hcv
      go_wp2
      go_roundw
      case rel=>
       refine ⟨k+1,O++inQ R++[(x:Int)],[],0,by omega,by go_num,?_,?_,rfl,?_,World.ownsRow_nil _ _ _ _,HB.out.trans (HBB.out.mono hgs)⟩
       · rw [HPRT.out,HDR.out,prt_p rfl]; simp
       · have:=qK8 R
         have:=HRL.out;simp only [List.length_append,List.length_singleton]; omega
       · rw [qAU,qAU,qB4,qB4,qAA,qAA]
         congr 2
         show stz (encN x)=stz (encs [x])
         rw [qJY]
      case measure=>simp [intOf]; omega
    · go_wp2_with (at_builtin; go_must (refine qAT rfl (.tmp 17) (.tmp 23) _ rfl Tryz.underlying85 g u4 mr _ rfl HR.out _ rfl (x:Int) rfl (by omega) HB.out hgs ?_))
      intro v8 w6 ho8 hb8 _
      go_wp2
      go_roundw
      case rel=>
       refine ⟨k+1,O,R++[(x:Int)],mr+1,by omega,by go_num,?_,by omega,?_,rfl,?_,hb8.out⟩
       · rw [HPRT.out,HDR.out,prt_q rfl]
       · rw [List.all_append,HRZ.out]; simp [HZ.out]
       · simpa using ho8.out
      case measure=>simp [intOf]; omega
  · have hkn:k=n:=by omega
    subst hkn;have hE:prtZ ts=stz (encs (nats O))++stz (encs (nats (inQ R))):=by
     rw [(qG1 HM.out).1,HPRT.out,List.drop_of_length_le (by rw [HL.out]; exact Nat.le_refl _),qI4,qAU,qB4,qAA]
    have HE:=hid hE;clear hE;have q1:¬ 9223372036854775807 < (stz (encs (nats O))).size+(stz (encs (nats (inQ R)))).size:=by omega
    obtain ⟨A4,c4,h4⟩:=qAJ HR.out;subst h4;have HC:=hid (refRow_c A4 mr c4 R wr ⟨qB6.of_own HR.out,by omega,rg_isZ HRZ.out⟩ (by omega) HRZ.out)
    go_wp2_with fail
    refine HC.out.mono ?_;rintro e w3 ⟨rfl,hb5⟩;have HB3:=hid (HB.out.trans (hb5.mono hgs));clear hb5 HC
    go_wp2
    go_ret
    rw [HE.out];exact ⟨rfl,HB3.out⟩
end Go.Proofs.YtnoeonaajefajaaGreatDoor

set_option linter.all false
set_option maxRecDepth 100000
namespace Go.Proofs.YtnoeonaajefajaaGreatDoor
open Go.RowKit
open Lib (hid)
theorem sgK_at (r:Int):(r=45∧sgK r=2)∨(r=43∧sgK r=3)∨(r=37∧sgK r=4)∨(r=8240∧sgK r=5)∨(r=164∧sgK r=6)∨((r≠45∧r≠43∧r≠37∧r≠8240∧r≠164)∧sgK r=0):=by
 unfold sgK; repeat' split
 all_goals omega
set_option maxHeartbeats 1000000 in
theorem qMD (r:Int) (w:World):Calls Tryz.prog 107 #[.int .i32 r] w fun e w'=>e=.returned (.int .i64 (sgK r))∧w=w':=by
 rcases sgK_at r with ⟨rfl,h⟩ | ⟨rfl,h⟩ | ⟨rfl,h⟩ | ⟨rfl,h⟩ | ⟨rfl,h⟩ | ⟨⟨h1,h2,h3,h4,h5⟩,h⟩
 · rw [h]
   go_enter Tryz.func107,Tryz.ntmps107
   go_wp2
   go_ret
   exact ⟨rfl,rfl⟩
 · rw [h]
   go_enter Tryz.func107,Tryz.ntmps107
   go_wp2
   go_ret
   exact ⟨rfl,rfl⟩
 · rw [h]
   go_enter Tryz.func107,Tryz.ntmps107
   go_wp2
   go_ret
   exact ⟨rfl,rfl⟩
 · rw [h]
   go_enter Tryz.func107,Tryz.ntmps107
   go_wp2
   go_ret
   exact ⟨rfl,rfl⟩
 · rw [h]
   go_enter Tryz.func107,Tryz.ntmps107
   go_wp2
   go_ret
   exact ⟨rfl,rfl⟩
 · rw [h]
   have g1:(r == 45)=false:=by simpa using h1
   have g2:(r == 43)=false:=by simpa using h2
   have g3:(r == 37)=false:=by simpa using h3
   have g4:(r == 8240)=false:=by simpa using h4
   have g5:(r == 164)=false:=by simpa using h5
   clear h1 h2 h3 h4 h5 h
   go_enter Tryz.func107,Tryz.ntmps107
   go_wp2
   go_ret
   exact ⟨rfl,rfl⟩
set_option maxHeartbeats 1000000 in
theorem qIU (r:Int) (w:World):Calls Tryz.prog 106 #[.int .i32 r] w fun e w'=>e=.returned (.bool (mrk r))∧w=w':=by
 rcases hm:mrk r with _ | _
 · have hn:¬ mrk r=true:=by rw [hm]; decide
   rw [mrk_iff] at hn;have h1:(r == 35)=false:=by simp only [beq_eq_false_iff_ne,ne_eq]; omega
   have h2:(r == 64)=false:=by simp only [beq_eq_false_iff_ne,ne_eq]; omega
   have h3:(r == 44)=false:=by simp only [beq_eq_false_iff_ne,ne_eq]; omega
   have h4:(r == 46)=false:=by simp only [beq_eq_false_iff_ne,ne_eq]; omega
   have h5:(r == 59)=false:=by simp only [beq_eq_false_iff_ne,ne_eq]; omega
   have h6:(r == 42)=false:=by simp only [beq_eq_false_iff_ne,ne_eq]; omega
   by_cases h0:48≤r
   · have g0:decide (48≤r)=true:=decide_eq_true h0
     have g1:decide (r≤57)=false:=decide_eq_false (by omega);clear hm hn h0
     go_enter Tryz.func106,Tryz.ntmps106
     go_wp2
     go_ret
     exact ⟨rfl,rfl⟩
   · have g0:decide (48≤r)=false:=decide_eq_false h0
     clear hm hn h0
     go_enter Tryz.func106,Tryz.ntmps106
     go_wp2
     go_ret
     exact ⟨rfl,rfl⟩
 · rcases mrk_iff.1 hm with ⟨h0,h1⟩ | rfl | rfl | rfl | rfl | rfl | rfl
   · have g0:decide (48≤r)=true:=decide_eq_true h0
     have g1:decide (r≤57)=true:=decide_eq_true h1;clear hm h0 h1
     go_enter Tryz.func106,Tryz.ntmps106
     go_wp2
     go_ret
     exact ⟨rfl,rfl⟩
   all_goals
    clear hm
    go_enter Tryz.func106,Tryz.ntmps106
    go_wp2
    go_ret
    exact ⟨rfl,rfl⟩
theorem nds_eq (r:Int):nds r=(((decide (0 < sgK r) || mrk r) || decide (r=69)) || decide (r=39)):=by
 have h:=qG3 r
 have h1:decide (r ∈ ints sgs)=decide (0 < sgK r):=by
  rw [decide_eq_decide,← sgK_pos]; omega
 have h2:decide (r ∈ ints oth)=(decide (r=69) || decide (r=39)):=by
  rw [oth_cons,← Bool.decide_or,decide_eq_decide]; simp
 rw [nds,h1,h2,Bool.or_assoc,Bool.or_assoc,Bool.or_assoc]
set_option maxHeartbeats 1000000 in
theorem refNeeds_c (r:Int) (w:World):Calls Tryz.prog 119 #[.int .i32 r] w fun e w'=>e=.returned (.bool (nds r))∧w=w':=by
 have C1:=hid (qMD r w)
 have C2:=hid (qIU r w)
 rw [nds_eq]
 generalize sgK r=K at *
 generalize mrk r=M at *
 rcases hK:decide (0 < K) with _ | _
 · cases M
   · by_cases h1:r=69
     · subst h1
       go_enter Tryz.func119,Tryz.ntmps119
       go_wp2_with fail
       refine C1.out.mono ?_;rintro e w1 ⟨rfl,rfl⟩
       go_wp2_with fail
       refine C2.out.mono ?_;rintro e w1 ⟨rfl,rfl⟩
       go_wp2
       go_ret
       exact ⟨rfl,rfl⟩
     · have g1:(r == 69)=false:=by simpa using h1
       by_cases h2:r=39
       · subst h2
         clear h1
         go_enter Tryz.func119,Tryz.ntmps119
         go_wp2_with fail
         refine C1.out.mono ?_;rintro e w1 ⟨rfl,rfl⟩
         go_wp2_with fail
         refine C2.out.mono ?_;rintro e w1 ⟨rfl,rfl⟩
         go_wp2
         go_ret
         exact ⟨rfl,rfl⟩
       · have g2:(r == 39)=false:=by simpa using h2
         rw [decide_eq_false h1,decide_eq_false h2];clear h1 h2
         go_enter Tryz.func119,Tryz.ntmps119
         go_wp2_with fail
         refine C1.out.mono ?_;rintro e w1 ⟨rfl,rfl⟩
         go_wp2_with fail
         refine C2.out.mono ?_;rintro e w1 ⟨rfl,rfl⟩
         go_wp2
         go_ret
         exact ⟨rfl,rfl⟩
   · go_enter Tryz.func119,Tryz.ntmps119
     go_wp2_with fail
     refine C1.out.mono ?_;rintro e w1 ⟨rfl,rfl⟩
     go_wp2_with fail
     refine C2.out.mono ?_;rintro e w1 ⟨rfl,rfl⟩
     go_wp2
     go_ret
     exact ⟨rfl,rfl⟩
 · go_enter Tryz.func119,Tryz.ntmps119
   go_wp2_with fail
   refine C1.out.mono ?_;rintro e w1 ⟨rfl,rfl⟩
   go_wp2
   go_ret
   exact ⟨rfl,rfl⟩
theorem im_ext {is js:List Itm} (hl:is.length=js.length) (h:∀ j,j < is.length→im is j=im js j):is=js:=by
 apply List.ext_getElem hl
 intro i h1 h2
 have:=h i h1
 rwa [im_eq h1,im_eq h2] at this
set_option maxHeartbeats 1000000 in
theorem qLB (A A':Option Addr) (n c n' c':Nat) (is js:List Itm) (w:World) (h:Its w A n is) (h':Its w A' n' js) :
 Calls Tryz.prog 52 #[.slice A n c,.slice A' n' c'] w fun e w'=>e=.returned (.bool (decide (is=js)))∧Below w.heap.size w w':=by
 have hn:=h.2.1
 have hn':=h'.2.1
 have hl:=hid h.len
 have hl':=hid h'.len
 have H:=hid h
 have H':=hid h'
 clear h h'
 by_cases hne:n=n'
 · subst hne
   go_enter Tryz.func52,Tryz.ntmps52
   go_wp2
   go_loopw [5] (fun i wr=>∃ k m:Nat,k≤n∧i=.int .i64 k∧wr=w.drewN m∧∀ j,j < k→im is j=im js j) (fun i _=>n - (intOf i).toNat)
   case atStart=>exact ⟨0,0,Nat.zero_le _,rfl,rfl,fun j hj=>absurd hj (by omega)⟩
   case round=>
    obtain ⟨k,m,hk,rfl,rfl,hall0⟩:=hrel;have hall:=hid hall0;clear hall0
    by_cases hlt:k < n
    · obtain ⟨ad,rfl,hb,c0,c1,_⟩:=H.out.at_ hlt
      obtain ⟨ad',rfl,hb',d0,d1,_⟩:=H'.out.at_ hlt;have HE:Hid (im is k=im js k↔((im is k).1=(im js k).1∧(im is k).2=(im js k).2)):=hid Prod.ext_iff;generalize (im is k).1=X at c0 HE;generalize (im is k).2=P at c1 HE;generalize (im js k).1=Y at d0 HE;generalize (im js k).2=Q at d1 HE
      by_cases hXY:X=Y
      · have g1:(X != Y)=false:=by simpa using hXY
        by_cases hPQ:P=Q
        · have g2:(P != Q)=false:=by simpa using hPQ
          have HE2:=hid (HE.out.2 ⟨hXY,hPQ⟩);clear hXY hPQ HE
          go_wp2
          go_quiet (fail)
          go_wp2
          go_roundw
          case rel=>
           refine ⟨k+1,_,by omega,by go_num,rfl,fun j hj=>?_⟩
           rcases Nat.lt_or_ge j k with hjk | hjk
           · exact hall.out j hjk
           · obtain rfl:j=k:=by omega
             exact HE2.out
          case measure=>simp [intOf]; omega
        · have g2:(P != Q)=true:=by simpa using hPQ
          have HE2:Hid (¬ im is k=im js k):=hid fun e=>hPQ (HE.out.1 e).2
          clear hXY hPQ HE
          go_wp2
          go_quiet (fail)
          go_wp2
          go_ret
          exact ⟨congrArg _ (congrArg _ (decide_eq_false fun e=>HE2.out (by rw [e])).symm),((Below.refl _ _).of_drewN _).of_drewN _⟩
      · have g1:(X != Y)=true:=by simpa using hXY
        have HE2:Hid (¬ im is k=im js k):=hid fun e=>hXY (HE.out.1 e).1
        clear hXY HE
        go_wp2
        go_quiet (fail)
        go_wp2
        go_ret
        exact ⟨congrArg _ (congrArg _ (decide_eq_false fun e=>HE2.out (by rw [e])).symm),((Below.refl _ _).of_drewN _).of_drewN _⟩
    · go_wp2
      go_ret
      refine ⟨?_,(Below.refl _ _).of_drewN _⟩;have:decide (is=js)=true:=decide_eq_true (im_ext (by rw [hl.out,hl'.out]) fun j hj=>hall.out j (by rw [hl.out] at hj; omega));rw [this]; rfl
 · have hb:(((n:Nat):Int) != (n':Int))=true:=by simp; omega
   go_enter Tryz.func52,Tryz.ntmps52
   go_wp2
   go_ret
   refine ⟨?_,Below.refl _ _⟩;have:decide (is=js)=false:=by
    simp only [decide_eq_false_iff_not];intro e; apply hne;rw [← hl.out,← hl'.out,e]
   rw [this]; rfl
end Go.Proofs.YtnoeonaajefajaaGreatDoor

set_option linter.all false
set_option maxRecDepth 100000
namespace Go.Proofs.YtnoeonaajefajaaGreatDoor
open Go.RowKit
open Lib (hid)
set_option maxHeartbeats 2000000 in
theorem qJT (A:Option Addr) (n c:Nat) (ts:List Tok) (w:World) (h:Tks w A n ts) (hn9:n≤1000000000):Calls Tryz.prog 72 #[.slice A n c] w fun e w'=>
 ∃ A' m c',e=.returned (.tuple #[.slice A' m c',.agg #[.int .i64 (itms ts).2.1,.int .i64 (itms ts).2.2]])∧Hid (OwnI w' w.heap.size A' m c' (itms ts).1)∧Hid (Below w.heap.size w w'):=by
 have HL:=hid h.len
 have hn:=h.2.1
 have H:=hid h
 clear h
 generalize hg:w.heap.size=g at *
 have Hg:=hid hg
 clear hg
 have hgl:g≤w.heap.size:=by rw [Hg.out]; exact Nat.le_refl _
 have FB0:=FB.new w (.int .i64 0) (.int .i64 0)
 rw [Hg.out] at FB0
 have BW:=hid ((Below.refl g w).alloc hgl (.cells #[.int .i64 0,.int .i64 0] 27))
 generalize hW0:w.alloc (.cells #[.int .i64 0,.int .i64 0] 27)=W0 at *
 have hs0:W0.heap.size=g+1:=by rw [← hW0,World.size_alloc,Hg.out]
 have HW0:=hid hW0
 clear hW0
 have BQ:=hid (Below.refl (g+1) W0)
 have HT0:=hid (H.out.below (w':=W0) (by rw [Hg.out]; exact BW.out))
 go_enter Tryz.func72,Tryz.ntmps72
 go_wp2
 rw [HW0.out,Hg.out]
 go_loopw [4,5] (fun v iv wr=>∃ (k:Nat),k≤n∧iv=.int .i64 (k:Int)∧(ts.take k).find? badT=none∧wr.ownsRow (g+1) 67 2 v k (itsV ((ts.take k).map itm))∧Below (g+1) W0 wr) (fun _ iv _=>n - (intOf iv).toNat)
 case atStart=>exact ⟨0,Nat.zero_le _,rfl,rfl,World.ownsRow_nil _ _ _ _,BQ.out⟩
 case round=>
  obtain ⟨k,hk,rfl,hf0,ho0,hb0⟩:=hrel;have HF:=hid hf0;have HO:=hid ho0;have HB:=hid hb0;have hqs:g+1≤wr.heap.size:=by have:=hb0.size; omega
  have HT:=hid (HT0.out.below (w':=wr) (by rw [hs0]; exact hb0));have FBr:=hid (FB0.below hb0 (Nat.lt_succ_self g));clear hf0 hb0 ho0
  by_cases hlt:k < n
  · obtain ⟨ad,rfl,hab,c0,c1,c2,hr32⟩:=HT.out.at_ hlt
    have HFA:=hid (find_at (ts:=ts) (k:=k) (by rw [HL.out]; exact hlt) HF.out);have HFT:=hid (qLL (ts:=ts) (k:=k) (by rw [HL.out]; exact hlt) HF.out);have HS:=hid (qD0 ts (k:=k) (by rw [HL.out]; exact hlt));have HTA:=HT.out.below ((Below.refl _ wr).alloc (Nat.le_refl _) (.cells #[.int .i64 1,.int .i32 (tk ts k).1] 67));obtain ⟨ad',e',_,d0,d1,d2,_⟩:=HTA.at_ hlt
    cases e'
    clear hr32 HTA;generalize tk ts k=t at *;obtain ⟨r,q,p⟩:=t;dsimp only at c0 c1 c2 d0 d1 d2;have BA:=hid (HB.out.alloc hqs (.cells #[.int .i64 1,.int .i32 r] 67));have OA:=hid (HO.out.alloc (.cells #[.int .i64 1,.int .i32 r] 67));have hqa:g+1≤(wr.alloc (.cells #[.int .i64 1,.int .i32 r] 67)).heap.size:=by simp; omega
    cases q
    · have HC:=hid (qIU r)
      rcases hm:mrk r with _ | _
      · rw [hm] at HC
        have HN:=hid (HFT.out (by simp [badT,hm]));have HC2:=hid (qMD r);clear hm
        by_cases hK:0 < sgK r
        · have HV:=hid (show itm (r,false,p)=(sgK r,0) from itm_s rfl (by dsimp only; omega))
          have g1:decide (0 < sgK r)=true:=decide_eq_true hK;have OB:=hid (HO.out.alloc (.cells #[.int .i64 (sgK r),.int .i32 0] 67));have BB:=hid (HB.out.alloc hqs (.cells #[.int .i64 (sgK r),.int .i32 0] 67));have hqb:g+1≤(wr.alloc (.cells #[.int .i64 (sgK r),.int .i32 0] 67)).heap.size:=by simp; omega
          generalize sgK r=K at *;clear hK
          go_wp2_with fail
          refine (HC.out _).mono ?_;rintro e w1 ⟨rfl,rfl⟩
          go_wp2_with fail
          refine (HC2.out _).mono ?_;rintro e w1 ⟨rfl,rfl⟩
          go_wp2_with (at_builtin; go_must (refine qCC rfl (.tmp 42) (.tmp 44) _ rfl Tryz.underlying22 (g+1) u4 k ((ts.take k).map itm) rfl OB.out (K,0) (by rw [World.size_alloc]; rfl) (K) (0) rfl (by omega) BB.out hqb ?_))
          intro v' w' ho4 hb4 _
          go_wp2
          go_roundw
          case rel=>
           have e:(ts.take (k+1)).map itm=(ts.map itm).take k++[(K,0)]:=by rw [HS.out,List.map_append,List.map_take,List.map_cons,List.map_nil,HV.out]
           refine ⟨k+1,by omega,by go_num,HN.out,?_,hb4.out⟩;rw [e]; exact ho4.out
          case measure=>simp [intOf]; omega
        · have HV:=hid (show itm (r,false,p)=(1,r) from itm_p (by have:=qG3 r; dsimp only; omega))
          have g1:decide (0 < sgK r)=false:=decide_eq_false hK;generalize sgK r=K at *;clear hK
          go_wp2_with fail
          refine (HC.out _).mono ?_;rintro e w1 ⟨rfl,rfl⟩
          go_wp2_with fail
          refine (HC2.out _).mono ?_;rintro e w1 ⟨rfl,rfl⟩
          go_wp2_with (at_builtin; go_must (refine qCC rfl (.tmp 42) (.tmp 44) _ rfl Tryz.underlying22 (g+1) u4 k ((ts.take k).map itm) rfl OA.out (1,r) (by rw [World.size_alloc]; rfl) (1) (r) rfl (by omega) BA.out hqa ?_))
          intro v' w' ho4 hb4 _
          go_wp2
          go_roundw
          case rel=>
           have e:(ts.take (k+1)).map itm=(ts.map itm).take k++[(1,r)]:=by rw [HS.out,List.map_append,List.map_take,List.map_cons,List.map_nil,HV.out]
           refine ⟨k+1,by omega,by go_num,HN.out,?_,hb4.out⟩;rw [e]; exact ho4.out
          case measure=>simp [intOf]; omega
      · rw [hm] at HC
        have HV:=hid (qG4 (HFA.out (by simp [badT,hm])));have FB1:=FBr.out.alloc (.cells #[.int .i64 1,.int .i32 r] 67);clear hm
        go_wp2_with fail
        refine (HC.out _).mono ?_;rintro e w1 ⟨rfl,rfl⟩;generalize hWA:wr.alloc (.cells #[.int .i64 1,.int .i32 r] 67)=WA at *;have HWA:=hid hWA;clear hWA;have f0:=FB1.c0;have f1:=FB1.c1;have f2:=FB1.fr 0;have f3:=FB1.fr 1;have FE:=FB1.set (.int .i64 4) (.int .i64 p);have e0:=FE.c0;have e1:=FE.c1;have BE:=hid (Below.set2 (BW.out.trans (BA.out.mono (Nat.le_succ g))) (Nat.le_refl g) (.int .i64 4) (.int .i64 p));clear FE FB1
        go_wp2
        go_region
        all_goals go_wp2
        generalize hWE:(WA.setCell ⟨g,0,none⟩ (.int .i64 4)).setCell ⟨g,1,none⟩ (.int .i64 p)=WE at *;rw [HV.out];exact bodyPost_ret (v:=.tuple #[.slice none 0 0,.agg #[(.int .i64 4),(.int .i64 p)]]) (by simp [results,Tryz.results72,go_sem,e0,e1]) rfl ⟨_,_,_,rfl,hid (qHK _ _),hid BE.out.drew⟩
    · have HN:=hid (HFT.out rfl)
      have HV:=hid (show itm (r,true,p)=(1,r) from itm_q rfl)
      go_wp2_with (at_builtin; go_must (refine qCC rfl (.tmp 42) (.tmp 44) _ rfl Tryz.underlying22 (g+1) u4 k ((ts.take k).map itm) rfl OA.out (1,r) (by rw [World.size_alloc]; rfl) (1) (r) rfl (by omega) BA.out hqa ?_))
      intro v' w' ho4 hb4 _
      go_wp2
      go_roundw
      case rel=>
       have e:(ts.take (k+1)).map itm=(ts.map itm).take k++[(1,r)]:=by rw [HS.out,List.map_append,List.map_take,List.map_cons,List.map_nil,HV.out]
       refine ⟨k+1,by omega,by go_num,HN.out,?_,hb4.out⟩;rw [e]; exact ho4.out
      case measure=>simp [intOf]; omega
  · have hkm:k=n:=by omega
    subst hkm;rw [List.take_of_length_le (by rw [HL.out]; exact Nat.le_refl _)] at HF HO;obtain ⟨A7,c7,hA⟩:=qAJ HO.out;subst hA
    by_cases hm:40 < k
    · have g1:decide ((40:Int) < (k:Int))=true:=decide_eq_true (by omega)
      have HV:=hid (qEI HF.out (by rw [HL.out]; exact hm));have FB1:=FBr.out;have f0:=FB1.c0;have f1:=FB1.c1;have f2:=FB1.fr 0;have f3:=FB1.fr 1;have FE:=FB1.set (.int .i64 8) (.int .i64 0);have e0:=FE.c0;have e1:=FE.c1;have BE:=hid (Below.set2 (BW.out.trans (HB.out.mono (Nat.le_succ g))) (Nat.le_refl g) (.int .i64 8) (.int .i64 0));clear FE FB1
      go_wp2
      generalize hWE:(wr.setCell ⟨g,0,none⟩ (.int .i64 8)).setCell ⟨g,1,none⟩ (.int .i64 0)=WE at *;rw [HV.out];exact bodyPost_ret (v:=.tuple #[.slice none 0 0,.agg #[(.int .i64 8),(.int .i64 0)]]) (by simp [results,Tryz.results72,go_sem,e0,e1]) rfl ⟨_,_,_,rfl,hid (qHK _ _),BE⟩
    · have g1:decide ((40:Int) < (k:Int))=false:=decide_eq_false (by omega)
      have HV:=hid (qGU HF.out (by rw [HL.out]; exact hm));have FB3:=FBr.out;have f0:=FB3.c0;have f1:=FB3.c1;have f2:=FB3.fr 0;have f3:=FB3.fr 1;have FE:=FB3.set (.int .i64 0) (.int .i64 0);have e0:=FE.c0;have e1:=FE.c1;have BE:=hid (Below.set2 (BW.out.trans (HB.out.mono (Nat.le_succ g))) (Nat.le_refl g) (.int .i64 0) (.int .i64 0));have OE:=hid (show OwnI ((wr.setCell ⟨g,0,none⟩ (.int .i64 0)).setCell ⟨g,1,none⟩ (.int .i64 0)) g A7 k c7 (ts.map itm) from
       ⟨qC5 (qAH (qAH HO.out (p:=⟨g,0,none⟩) (Nat.lt_succ_self g) _) (p:=⟨g,1,none⟩) (Nat.lt_succ_self g) _) (Nat.le_succ g),by omega,fun i hi=>by
        obtain ⟨t,ht,rfl⟩:=List.mem_map.1 hi;exact ri_itm (H.out.2.2 t ht)⟩)
      clear FE FB3
      go_wp2
      generalize hWE:(wr.setCell ⟨g,0,none⟩ (.int .i64 0)).setCell ⟨g,1,none⟩ (.int .i64 0)=WE at *;rw [HV.out];exact bodyPost_ret (v:=.tuple #[.slice A7 k c7,.agg #[(.int .i64 0),(.int .i64 0)]]) (by simp [results,Tryz.results72,go_sem,e0,e1]) rfl ⟨_,_,_,rfl,OE,BE⟩
end Go.Proofs.YtnoeonaajefajaaGreatDoor
