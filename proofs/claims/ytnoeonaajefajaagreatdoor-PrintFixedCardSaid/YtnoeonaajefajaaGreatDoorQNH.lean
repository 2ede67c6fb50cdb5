import Derived.Deep.DeepCutAuto
import Derived.Test.YtnoeonaajefajaaGreatDoorQMC
import Derived.Test.YtnoeonaajefajaaGreatDoorQMB
set_option linter.all false
set_option maxRecDepth 100000
namespace Go.Proofs.YtnoeonaajefajaaGreatDoor
open Go.RowKit
open Lib (hid)
def patV (x0 x1 x2 x3 x4:Value) (p:NF) (y0 y1 y2:Value):Array Value:=
 #[x0,x1,x2,x3,x4,.int .i64 (p.minInt:Int),.int .i64 (p.maxInt:Int),.int .i64 (p.minFrac:Int),.int .i64 (p.maxFrac:Int),.int .i64 (p.minSig:Int),.int .i64 (p.maxSig:Int),
  .int .i64 (p.prim:Int),.int .i64 (p.sec:Int),.string (stz p.inc),.bool p.sci,.int .i64 (p.minExp:Int),.bool p.plus,y0,y1,y2]
theorem OkN.small {p:NF} (h:OkN p):p.minInt≤40∧p.maxInt≤40∧p.minFrac≤p.maxFrac∧p.maxFrac≤40∧p.minSig≤p.maxSig∧p.maxSig≤40∧p.prim≤40∧p.sec≤40∧p.inc.length≤p.minInt+p.minFrac∧p.minExp≤9:=by
 have hb:=h.big
 simp only [bigN,Bool.or_eq_false_iff,decide_eq_false_iff_not] at hb
 obtain ⟨⟨⟨⟨⟨⟨h1,h2⟩,h3⟩,h4⟩,h5⟩,h6⟩,h7⟩:=hb
 have hi:=h.incs.1
 have he:p.minExp≤9:=by rcases h.exp with ⟨_,_,e⟩ | ⟨_,e,_⟩ <;> omega
 rcases h.kind with ⟨⟨k1,k2⟩,k3,k4,k5,k6,_⟩ | ⟨⟨k1,k2⟩,k3,_⟩ <;> omega
theorem qEO (cs:ByteArray) (c:Nat) (hcs:cs=stz [c]) (n:Nat) (w:World) (hn:n≤1000000000):Calls Tryz.prog 78 #[.string cs,.int .i64 (n:Int)] w fun e w'=>
 e=.returned (.string (stz (List.replicate n c)))∧w=w':=by
 have:=qKJ cs c hcs (n:Int) w (by omega)
 rwa [Int.toNat_natCast] at this
theorem qGF {p:NF} (h2:p.maxInt≤40) (h7:p.prim≤40) (h8:p.sec≤40):leastN p≤81:=by
 unfold leastN
 repeat' split
 all_goals omega
def cmR (P S:Nat) (L:List Nat) (i:Nat):List Nat:=if i=0 then cmW P S L else cmZ P S (L.drop i)
theorem cmR_step {P S:Nat} {L:List Nat} {i:Nat} (h:i < L.length) :
 cmR P S L i=(if 0 < i∧0 < P∧(L.length - i=P∨(S≠P∧L.length - i=P+S)) then [44] else [])++L.getD i 0 :: cmR P S L (i+1):=by
 have hg:L.getD i 0=L[i]:=by rw [List.getD,List.getElem?_eq_getElem h]; rfl
 rw [hg]
 rcases Nat.eq_zero_or_pos i with h0 | h0
 · subst h0
   rw [if_neg (fun e=>absurd e.1 (Nat.lt_irrefl 0)),List.nil_append]
   cases L with
   | nil=>simp at h
   | cons c t=>rfl
 · have e1:cmR P S L i=cmZ P S (L.drop i):=if_neg (by omega)
   have e2:cmR P S L (i+1)=cmZ P S (L.drop (i+1)):=if_neg (by omega);have e3:(L.drop (i+1)).length+1=L.length - i:=by rw [List.length_drop]; omega
   rw [e1,e2,List.drop_eq_getElem_cons h,cmZ,e3]
   by_cases hc:0 < P∧(L.length - i=P∨(S≠P∧L.length - i=P+S))
   · rw [if_pos hc,if_pos (show 0 < i∧_ from ⟨h0,hc⟩)]
   · rw [if_neg hc,if_neg (show ¬ (0 < i∧_) from fun e=>hc e.2)]
theorem cmR_end (P S:Nat) (L:List Nat):cmR P S L L.length=[]:=by
 unfold cmR; split
 · rename_i h
   rw [List.eq_nil_of_length_eq_zero h]; rfl
 · rw [List.drop_of_length_le (Nat.le_refl _)]; rfl
theorem ext_one {s:ByteArray} {i:Nat} (h:i < s.size):s.extract i (i+1)=stz [s[i].toNat]:=by
 refine qE9 ?_
 rw [qC7,qAQ h,List.drop_append_of_le_length (by rw [List.length_take,qA1]; omega),List.drop_eq_nil_of_le (by rw [List.length_take,qA1]; omega),List.nil_append]
def SlMid (W:World) (v:Value) (u:Value) (W':World):Prop:=u=v∧∃ m,W'=W.drewN m
set_option maxHeartbeats 4000000 in
theorem qHF (x0 x1 x2 x3 x4 y0 y1 y2:Value) (p:NF) (m:Int) (w:World) (h:OkN p) (hm:m≤1000):Calls Tryz.prog 45 #[.agg (patV x0 x1 x2 x3 x4 p y0 y1 y2),.int .i64 m] w fun e w'=>
 e=.returned (.string (stz (prN p m.toNat)))∧Below w.heap.size w w':=by
 obtain ⟨b1,b2,b3,b4,b5,b6,b7,b8,b9,b10⟩:=h.small
 have hI:(stz p.inc).size=p.inc.length:=qA9 _
 have HD:Hid (stz (List.replicate (p.minInt+p.minFrac - p.inc.length) 48)++stz p.inc=stz (dgs p)):=hid (by rw [dgs,qAA])
 have hdl:(stz (dgs p)).size=p.minInt+p.minFrac:=by rw [qA9,qGX b9]
 have hd256:∀ c ∈ dgs p,c < 256:=fun c hc=>by have:=qJC.1 (qLO h.incs.2 c hc); omega
 have HB:Hid ((stz (dgs p)).extract 0 p.minInt++stz (List.replicate p.minSig 64)++stz (List.replicate (p.maxSig - p.minSig) 35)=stz (qCH p)):=hid (by
  rw [qCH,qAA,qAA,ByteArray.append_assoc]
  congr 1
  apply qDS
  rw [qBL,qAE hd256,qAE fun c hc=>hd256 c (List.mem_of_mem_take hc)])
 have HFR:Hid ((stz (dgs p)).extract p.minInt (stz (dgs p)).size++stz (List.replicate (p.maxFrac - p.minFrac) 35)=stz (frcN p)):=hid (by
  rw [frcN,qAA]
  congr 1
  apply qDS
  rw [qB7,qAE hd256,qAE fun c hc=>hd256 c (List.mem_of_mem_drop hc)])
 have C1:=hid (fun W=>qEO ⟨#[48]⟩ 48 rfl (p.minInt+p.minFrac - p.inc.length) W (by omega))
 have C2:=hid (fun W=>qEO ⟨#[64]⟩ 64 rfl p.minSig W (by omega))
 have C3:=hid (fun W=>qEO ⟨#[35]⟩ 35 rfl (p.maxSig - p.minSig) W (by omega))
 have C4:=hid (fun W=>qEO ⟨#[35]⟩ 35 rfl (p.maxFrac - p.minFrac) W (by omega))
 have C5:=hid (fun W=>qEO ⟨#[48]⟩ 48 rfl p.minExp W (by omega))
 have s1:(stz (List.replicate (p.minInt+p.minFrac - p.inc.length) 48)).size=p.minInt+p.minFrac - p.inc.length:=by rw [qA9,List.length_replicate]
 have s2:(stz (List.replicate p.minSig 64)).size=p.minSig:=by rw [qA9,List.length_replicate]
 have s3:(stz (List.replicate (p.maxSig - p.minSig) 35)).size=p.maxSig - p.minSig:=by rw [qA9,List.length_replicate]
 have s4:(stz (List.replicate (p.maxFrac - p.minFrac) 35)).size=p.maxFrac - p.minFrac:=by rw [qA9,List.length_replicate]
 have s5:(stz (List.replicate p.minExp 48)).size=p.minExp:=by rw [qA9,List.length_replicate]
 have sB:(stz (qCH p)).size=p.minInt+p.maxSig:=by rw [qA9,qF3 h]
 have HFD:=hid (show (stz (frcN p)).size=p.maxFrac by rw [qA9,qFM h])
 generalize hI0:stz p.inc=I at *
 have HI0:=hid hI0
 generalize stz (List.replicate (p.minInt+p.minFrac - p.inc.length) 48)=R1 at *
 generalize stz (List.replicate p.minSig 64)=R2 at *
 generalize stz (List.replicate (p.maxSig - p.minSig) 35)=R3 at *
 generalize stz (List.replicate (p.maxFrac - p.minFrac) 35)=R4 at *
 generalize hR5:stz (List.replicate p.minExp 48)=R5 at *
 have HR5:=hid hR5
 generalize stz (dgs p)=D at *
 generalize hB0:stz (qCH p)=B at *
 have HB0:=hid hB0
 generalize hk1:p.minInt+p.minFrac - p.inc.length=k1 at *
 generalize hk3:p.maxSig - p.minSig=k3 at *
 generalize hk4:p.maxFrac - p.minFrac=k4 at *
 have hw1:IntKind.i64.wrap ((p.minInt:Int)+(p.minFrac:Int))=(p.minInt:Int)+(p.minFrac:Int):=IntWalk.i64_in _ (by omega)
 have hw2:IntKind.i64.wrap ((p.minInt:Int)+(p.minFrac:Int) - (p.inc.length:Int))=(k1:Int):=by rw [IntWalk.i64_in _ (by omega)]; omega
 have hw3:IntKind.i64.wrap ((p.maxSig:Int) - (p.minSig:Int))=(k3:Int):=by rw [IntWalk.i64_in _ (by omega)]; omega
 have hw4:IntKind.i64.wrap ((p.maxFrac:Int) - (p.minFrac:Int))=(k4:Int):=by rw [IntWalk.i64_in _ (by omega)]; omega
 have sE:(D.extract 0 p.minInt).size=p.minInt:=by rw [ByteArray.size_extract]; omega
 have q1:¬ 9223372036854775807 < R1.size+I.size:=by omega
 have q2:¬ 9223372036854775807 < (D.extract 0 p.minInt).size+R2.size:=by omega
 have q3:¬ 9223372036854775807 < (D.extract 0 p.minInt++R2).size+R3.size:=by rw [ByteArray.size_append]; omega
 have q4:¬ 9223372036854775807 < (D.extract 0 p.minInt).size+R2.size+R3.size:=by omega
 clear hI0 hR5 hB0
 have BA:=hid ((Below.refl _ w).alloc (Nat.le_refl _) (.cells (patV x0 x1 x2 x3 x4 p y0 y1 y2) 24))
 have bx:=BX.new w (patV x0 x1 x2 x3 x4 p y0 y1 y2) 24
 generalize hW:w.alloc (.cells (patV x0 x1 x2 x3 x4 p y0 y1 y2) 24)=W at *
 have HW:=hid hW
 clear hW
 generalize hg:w.heap.size=g at *
 have Hg:=hid hg
 clear hg
 have c5:W.cell? ⟨g,5,none⟩=some (.int .i64 (p.minInt:Int)):=bx.c 5
 have c6:W.cell? ⟨g,6,none⟩=some (.int .i64 (p.maxInt:Int)):=bx.c 6
 have c7:W.cell? ⟨g,7,none⟩=some (.int .i64 (p.minFrac:Int)):=bx.c 7
 have c8:W.cell? ⟨g,8,none⟩=some (.int .i64 (p.maxFrac:Int)):=bx.c 8
 have c9:W.cell? ⟨g,9,none⟩=some (.int .i64 (p.minSig:Int)):=bx.c 9
 have c10:W.cell? ⟨g,10,none⟩=some (.int .i64 (p.maxSig:Int)):=bx.c 10
 have c11:W.cell? ⟨g,11,none⟩=some (.int .i64 (p.prim:Int)):=bx.c 11
 have c12:W.cell? ⟨g,12,none⟩=some (.int .i64 (p.sec:Int)):=bx.c 12
 have c13:W.cell? ⟨g,13,none⟩=some (.string I):=by rw [← HI0.out]; exact bx.c 13
 have c14:W.cell? ⟨g,14,none⟩=some (.bool p.sci):=bx.c 14
 have c15:W.cell? ⟨g,15,none⟩=some (.int .i64 (p.minExp:Int)):=bx.c 15
 have c16:W.cell? ⟨g,16,none⟩=some (.bool p.plus):=bx.c 16
 have HOK:=hid h
 clear h bx
 go_enter Tryz.func45,Tryz.ntmps45
 go_wp2
 rw [HW.out,Hg.out]
 go_quiet ((go_at_call 78; first | exact qEZ (C1.out _) | exact qAZ (C1.out _)))
 go_wp2
 rw [HD.out]
 go_quiet ((go_at_call 78; first | with_reducible exact qEZ (C2.out _) | with_reducible exact qAZ (C2.out _) | with_reducible exact qEZ (C3.out _) | with_reducible exact qAZ (C3.out _)))
 rw [HB.out]
 clear q1 q2 q3 q4 hw1 hw2 hw3 s1 s2 s3 sE C1 C2 C3 HD HB hI
 have HLS:=hid (qGF b2 b7 b8)
 go_upto_region 4 with fail
 go_cut [45] (SlMid W (.bool (p.sci && decide (p.minSig=0))))
 case first=>
  clear c5 c6 c7 c8 c10 c11 c12 c13 c15 c16 hw4 sB hdl C4 C5 s4 s5
  rcases hs:p.sci with _ | _
  · rw [hs] at c14
    have HS:=hid hs;clear hs
    go_wp2_with fail
    go_meet
    exact ⟨by rw [HS.out]; rfl,_,rfl⟩
  · rw [hs] at c14
    by_cases h9:p.minSig=0
    · have g9:((p.minSig:Int) == 0)=true:=by simp only [beq_iff_eq]; omega
      have HS:=hid hs;have H9:=hid h9;clear hs h9
      go_wp2_with fail
      go_meet
      exact ⟨by rw [HS.out,H9.out]; rfl,_,rfl⟩
    · have g9:((p.minSig:Int) == 0)=false:=by simp only [beq_eq_false_iff_ne,ne_eq]; omega
      have HS:=hid hs;have H9:=hid h9;clear hs h9
      go_wp2_with fail
      go_meet
      exact ⟨by rw [decide_eq_false H9.out,Bool.and_false],_,rfl⟩
 case rest=>
 obtain ⟨rfl,n0,rfl⟩:=hcut
 have HLE:Hid (leastN p=if (p.sci && decide (p.minSig=0))=true then p.maxInt else if 0 < p.prim then p.prim+1+(if p.sec≠p.prim then p.sec else 0) else if p.maxFrac=0 then 1 else 0):=hid (by
  unfold leastN;rw [show (p.minSig == 0)=decide (p.minSig=0) from rfl])
 generalize (p.sci && decide (p.minSig=0))=T at *
 generalize hln:leastN p=ln at *
 have HLN:=hid hln
 clear hln
 go_upto_if 45 with fail
 go_cut [7] (SlMid W (.int .i64 (ln:Int)))
 case first=>
  clear c5 c7 c9 c10 c13 c14 c15 c16 hw4 sB hdl C4 C5 s4 s5
  cases T
  · have hle:=HLE.out
    rw [if_neg (by decide)] at hle;have HL2:=hid hle;clear hle HLE
    by_cases hP:0 < p.prim
    · have g1:decide ((0:Int) < (p.prim:Int))=true:=decide_eq_true (by omega)
      have hle:=HL2.out;rw [if_pos hP] at hle
      by_cases hS:p.sec=p.prim
      · have g2:((p.sec:Int) != (p.prim:Int))=false:=by simp only [bne_eq_false_iff_eq]; omega
        rw [if_neg (fun e=>e hS)] at hle;have HL3:=hid (show ((p.prim:Int)+1)=(ln:Int) by omega);clear hS hle
        go_wp2_with fail
        go_meet
        exact ⟨by rw [← HL3.out],_,rfl⟩
      · have g2:((p.sec:Int) != (p.prim:Int))=true:=by simp only [bne_iff_ne,ne_eq]; omega
        rw [if_pos hS] at hle;have HL3:=hid (show ((p.prim:Int)+1+(p.sec:Int))=(ln:Int) by omega);clear hS hle
        go_wp2_with fail
        go_meet
        exact ⟨by rw [← HL3.out],_,rfl⟩
    · have g1:decide ((0:Int) < (p.prim:Int))=false:=decide_eq_false (by omega)
      have hle:=HL2.out;rw [if_neg hP] at hle
      by_cases hF:p.maxFrac=0
      · have g2:((p.maxFrac:Int) == 0)=true:=by simp only [beq_iff_eq]; omega
        rw [if_pos hF] at hle;have HL3:=hid (show (1:Int)=(ln:Int) by omega);clear hF hle
        go_wp2_with fail
        go_meet
        exact ⟨by rw [← HL3.out],_,rfl⟩
      · have g2:((p.maxFrac:Int) == 0)=false:=by simp only [beq_eq_false_iff_ne,ne_eq]; omega
        rw [if_neg hF] at hle;have HL3:=hid (show (0:Int)=(ln:Int) by omega);clear hF hle
        go_wp2_with fail
        go_meet
        exact ⟨by rw [← HL3.out],_,rfl⟩
  · have hle:=HLE.out
    rw [if_pos rfl] at hle;have HL3:=hid (show (p.maxInt:Int)=(ln:Int) by omega);clear hle HLE
    go_wp2_with fail
    go_meet
    exact ⟨by rw [← HL3.out],_,rfl⟩
 case rest=>
 obtain ⟨rfl,n1,rfl⟩:=hcut
 clear HLE
 obtain ⟨bl,hbl⟩:∃ bl,bl=p.minInt+p.maxSig:=⟨_,rfl⟩
 rw [← hbl] at sB
 have hbl8:bl≤80:=by omega
 have HBL:=hid hbl
 have hls:=HLS.out
 clear hbl HLS
 have C6:=hid (fun W=>qKJ ⟨#[35]⟩ 35 rfl ((ln:Int) - (bl:Int)) W (by omega))
 have s6:(stz (List.replicate ((ln:Int) - (bl:Int)).toNat 35)).size≤81:=by rw [qA9,List.length_replicate]; omega
 have C7:=hid (fun W=>qKJ ⟨#[35]⟩ 35 rfl m W (by omega))
 have s7:(stz (List.replicate m.toNat 35)).size≤1000:=by rw [qA9,List.length_replicate]; omega
 have HWH:Hid (stz (whl p m.toNat)=(if p.sci=true then ⟨#[]⟩ else stz (List.replicate m.toNat 35))++(stz (List.replicate ((ln:Int) - (bl:Int)).toNat 35)++B)):=hid (by
  rw [whl,qAA,qAA,HB0.out,qF3 HOK.out,HLN.out,← HBL.out,show ((ln:Int) - (bl:Int)).toNat=ln - bl by omega]
  congr 1
  cases p.sci <;> rfl)
 generalize stz (List.replicate ((ln:Int) - (bl:Int)).toNat 35)=R6 at *
 generalize stz (List.replicate m.toNat 35)=R7 at *
 go_wp2_with fail
 refine (C6.out _).mono ?_
 rintro e w2 ⟨rfl,rfl⟩
 clear C6
 go_upto_if 75 with fail
 go_cut [6] (SlMid W (.string (stz (whl p m.toNat))))
 case first=>
  clear c5 c6 c7 c8 c9 c10 c11 c12 c13 c14 c15 c16 hw4 hdl C4 C5 s4 s5
  rcases hs:p.sci with _ | _
  · rw [hs,if_neg (by decide)] at HWH
    clear hs
    go_wp2_with fail
    refine (C7.out _).mono ?_;rintro e w2 ⟨rfl,rfl⟩
    go_wp2_with fail
    go_meet
    exact ⟨by rw [HWH.out],_,rfl⟩
  · rw [hs,if_pos rfl] at HWH
    clear hs
    go_wp2_with fail
    go_meet
    exact ⟨by rw [HWH.out,show (⟨#[]⟩:ByteArray)=stz [] from rfl,← qI2 (R6++B),← qAA]; rfl,_,rfl⟩
 case rest=>
 obtain ⟨rfl,n1,rfl⟩:=hcut
 clear C7 s7 s6 HWH sB
 have hok:=qJ9 HOK.out m.toNat
 have h256:∀ c ∈ whl p m.toNat,c < 256:=fun c hc=>by
  have:=hok c hc;simp only [okW,h35,a64,dg,Bool.or_eq_true,Bool.and_eq_true,decide_eq_true_iff,beq_iff_eq] at this;omega
 have hTb:=qAE h256
 have hTl:(whl p m.toNat).length≤1200:=by rw [qFN HOK.out,HLN.out]; split <;> omega
 generalize hL:whl p m.toNat=L at *
 have HLL:=hid hL
 generalize stz L=T at *
 have hTs:T.size=L.length:=by rw [← qA1,hTb]
 have HTB:=hid hTb
 clear hok h256 hTb hL
 generalize htl:L.length=tl at *
 have HTL:=hid htl
 clear htl
 go_wp2
 go_loopw [8,9] (fun sv iv wr=>∃ (i:Nat) (pre:List Nat) (t:ByteArray) (k:Nat),i≤tl∧iv=.int .i64 (i:Int)∧sv=.string t∧t=stz pre∧pre.length≤2 * i∧cmW p.prim p.sec L=pre++cmR p.prim p.sec L i∧wr=W.drewN k) (fun _ iv _=>tl - (intOf iv).toNat)
 case atStart=>exact ⟨0,[],⟨#[]⟩,n1,Nat.zero_le _,rfl,rfl,rfl,Nat.le_refl _,rfl,rfl⟩
 case round=>
  obtain ⟨i,pre,t,n2,hi,rfl,rfl,ht0,hpl,hcm0,rfl⟩:=hrel;have HTT:=hid ht0;have HCM:=hid hcm0;have hts:t.size≤2 * i:=by rw [ht0,qA9]; exact hpl
  clear ht0 hcm0
  by_cases hlt:i < tl
  · have hiT:i < T.size:=by omega
    have HEX:=hid (ext_one hiT);have hex1:(T.extract i (i+1)).size=1:=by rw [ByteArray.size_extract]; omega
    have HST:Hid (cmR p.prim p.sec L i=(if 0 < i∧0 < p.prim∧(tl - i=p.prim∨(p.sec≠p.prim∧tl - i=p.prim+p.sec)) then [44] else [])++T[i].toNat :: cmR p.prim p.sec L (i+1)):=hid (by
     have e:=qBQ T i hiT;rw [HTB.out] at e;rw [cmR_step (by rw [HTL.out]; exact hlt),HTL.out,e])
    clear c5 c6 c7 c8 c9 c10 c13 c14 c15 c16 hw4 hdl C4 C5 s4 s5
    by_cases hP:0 < p.prim
    · have g1:decide ((0:Int) < (p.prim:Int))=true:=decide_eq_true (by omega)
      by_cases hi0:0 < i
      · have g2:decide ((0:Int) < (i:Int))=true:=decide_eq_true (by omega)
        by_cases h3:tl - i=p.prim
        · have g3:((tl:Int) - (i:Int) == (p.prim:Int))=true:=by simp only [beq_iff_eq]; omega
          have HCC:=hid (show 0 < i∧0 < p.prim∧(tl - i=p.prim∨(p.sec≠p.prim∧tl - i=p.prim+p.sec)) from ⟨hi0,hP,.inl h3⟩);clear h3
          go_wp2
          go_roundw
          case rel=>
           refine ⟨i+1,pre++[44]++[T[i].toNat],_,n2,by omega,by go_num,rfl,?_,?_,?_,rfl⟩
           · rw [HTT.out,qAA,qAA,HEX.out]; rfl
           · simp only [List.length_append,List.length_singleton]; omega
           · rw [HCM.out,HST.out,if_pos HCC.out]; simp
          case measure=>simp [intOf]; omega
        · have g3:((tl:Int) - (i:Int) == (p.prim:Int))=false:=by simp only [beq_eq_false_iff_ne,ne_eq]; omega
          by_cases h4:p.sec=p.prim
          · have g4:((p.sec:Int) != (p.prim:Int))=false:=by simp only [bne_eq_false_iff_eq]; omega
            have HCC:=hid (show ¬ (0 < i∧0 < p.prim∧(tl - i=p.prim∨(p.sec≠p.prim∧tl - i=p.prim+p.sec))) from fun e=>e.2.2.elim h3 fun e'=>e'.1 h4);clear h3 h4
            go_wp2
            go_roundw
            case rel=>
             refine ⟨i+1,pre++[T[i].toNat],_,n2,by omega,by go_num,rfl,?_,?_,?_,rfl⟩
             · rw [HTT.out,qAA,HEX.out]
             · simp only [List.length_append,List.length_singleton]; omega
             · rw [HCM.out,HST.out,if_neg HCC.out]; simp
            case measure=>simp [intOf]; omega
          · have g4:((p.sec:Int) != (p.prim:Int))=true:=by simp only [bne_iff_ne,ne_eq]; omega
            by_cases h5:tl - i=p.prim+p.sec
            · have g5:((tl:Int) - (i:Int) == (p.prim:Int)+(p.sec:Int))=true:=by simp only [beq_iff_eq]; omega
              have HCC:=hid (show 0 < i∧0 < p.prim∧(tl - i=p.prim∨(p.sec≠p.prim∧tl - i=p.prim+p.sec)) from ⟨hi0,hP,.inr ⟨h4,h5⟩⟩);clear h3 h4 h5
              go_wp2
              go_roundw
              case rel=>
               refine ⟨i+1,pre++[44]++[T[i].toNat],_,n2,by omega,by go_num,rfl,?_,?_,?_,rfl⟩
               · rw [HTT.out,qAA,qAA,HEX.out]; rfl
               · simp only [List.length_append,List.length_singleton]; omega
               · rw [HCM.out,HST.out,if_pos HCC.out]; simp
              case measure=>simp [intOf]; omega
            · have g5:((tl:Int) - (i:Int) == (p.prim:Int)+(p.sec:Int))=false:=by simp only [beq_eq_false_iff_ne,ne_eq]; omega
              have HCC:=hid (show ¬ (0 < i∧0 < p.prim∧(tl - i=p.prim∨(p.sec≠p.prim∧tl - i=p.prim+p.sec))) from fun e=>e.2.2.elim h3 fun e'=>h5 e'.2);clear h3 h4 h5
              go_wp2
              go_roundw
              case rel=>
               refine ⟨i+1,pre++[T[i].toNat],_,n2,by omega,by go_num,rfl,?_,?_,?_,rfl⟩
               · rw [HTT.out,qAA,HEX.out]
               · simp only [List.length_append,List.length_singleton]; omega
               · rw [HCM.out,HST.out,if_neg HCC.out]; simp
              case measure=>simp [intOf]; omega
      · have g2:decide ((0:Int) < (i:Int))=false:=decide_eq_false (by omega)
        have HCC:=hid (show ¬ (0 < i∧0 < p.prim∧(tl - i=p.prim∨(p.sec≠p.prim∧tl - i=p.prim+p.sec))) from fun e=>hi0 e.1)
        go_wp2
        go_roundw
        case rel=>
         refine ⟨i+1,pre++[T[i].toNat],_,n2,by omega,by go_num,rfl,?_,?_,?_,rfl⟩
         · rw [HTT.out,qAA,HEX.out]
         · simp only [List.length_append,List.length_singleton]; omega
         · rw [HCM.out,HST.out,if_neg HCC.out]; simp
        case measure=>simp [intOf]; omega
    · have g1:decide ((0:Int) < (p.prim:Int))=false:=decide_eq_false (by omega)
      have HCC:=hid (show ¬ (0 < i∧0 < p.prim∧(tl - i=p.prim∨(p.sec≠p.prim∧tl - i=p.prim+p.sec))) from fun e=>hP e.2.1)
      go_wp2
      go_roundw
      case rel=>
       refine ⟨i+1,pre++[T[i].toNat],_,n2,by omega,by go_num,rfl,?_,?_,?_,rfl⟩
       · rw [HTT.out,qAA,HEX.out]
       · simp only [List.length_append,List.length_singleton]; omega
       · rw [HCM.out,HST.out,if_neg HCC.out]; simp
      case measure=>simp [intOf]; omega
  · have hie:i=tl:=by omega
    subst hie;have HPRE:Hid (pre=cmW p.prim p.sec L):=hid (by
     have e:cmW p.prim p.sec L=pre++cmR p.prim p.sec L L.length:=by rw [HTL.out]; exact HCM.out
     rw [cmR_end,List.append_nil] at e; exact e.symm)
    have HOUT:Hid (stz (prN p m.toNat)=t++stz (if 0 < p.maxFrac then 46 :: frcN p else [])++stz (if p.sci=true then 69 :: expN p else [])):=hid (by
     rw [prN,HLL.out,← HPRE.out,qAA,qAA,← HTT.out,ByteArray.append_assoc])
    have HFZ:Hid ((stz (if 0 < p.maxFrac then 46 :: frcN p else [])).size≤41):=hid (by
     rw [qA9]; split
     · rw [List.length_cons,qFM HOK.out]; omega
     · exact Nat.zero_le _)
    have HF2:Hid (((t++⟨#[46]⟩)++D.extract p.minInt (p.minInt+p.minFrac))++R4=t++stz (46 :: frcN p)):=hid (by
     rw [← hdl,show (46 :: frcN p)=[46]++frcN p from rfl,qAA,← HFR.out]; simp only [ByteArray.append_assoc]; rfl)
    have HEX:Hid (stz (69 :: expN p)=⟨#[69]⟩++(if p.plus=true then ⟨#[43]⟩ else ⟨#[]⟩)++R5):=hid (by
     rw [show (69 :: expN p)=[69]++((if p.plus then [43] else [])++List.replicate p.minExp 48) from rfl,qAA,qAA,HR5.out,ByteArray.append_assoc]
     cases p.plus <;> rfl)
    have hDe:(D.extract p.minInt D.size).size≤80:=by rw [ByteArray.size_extract]; omega
    have hts2:t.size≤2400:=by omega
    have hi0:¬ ((i:Int) < (i:Int)):=by omega
    clear HPRE HCM HTT HLL HTL HTB HFR c6 c9 c10 c11 c12 c13;have HOF:=hid (show ∀ h:0 < p.maxFrac,(stz (if 0 < p.maxFrac then 46 :: frcN p else []))=stz (46 :: frcN p) from fun h=>by rw [if_pos h]);have HON:=hid (show ∀ h:¬ 0 < p.maxFrac,(stz (if 0 < p.maxFrac then 46 :: frcN p else []))=⟨#[]⟩ from fun h=>by rw [if_neg h]; rfl);generalize stz (if 0 < p.maxFrac then 46 :: frcN p else [])=Fz at *
    go_upto_if 130 with fail
    go_cut [8] (SlMid W (.string (t++Fz)))
    case first=>
     by_cases hF:0 < p.maxFrac
     · have g1:decide ((0:Int) < (p.maxFrac:Int))=true:=decide_eq_true (by omega)
       have HO:=hid (HOF.out hF);clear HOF HON c14 c15 c16 HOUT
       go_wp2_with fail
       go_quiet ((go_at_call 78; first | with_reducible exact qEZ (C4.out _) | with_reducible exact qAZ (C4.out _)))
       go_wp2_with fail
       go_meet
       exact ⟨by rw [HF2.out,HO.out],_,World.drewN_drewN ..⟩
     · have g1:decide ((0:Int) < (p.maxFrac:Int))=false:=decide_eq_false (by omega)
       have HO:=hid (HON.out hF)
       go_wp2_with fail
       go_meet
       exact ⟨by rw [HO.out,show (⟨#[]⟩:ByteArray)=ByteArray.empty from rfl,ByteArray.append_empty],_,rfl⟩
    case rest=>
    obtain ⟨rfl,n3,rfl⟩:=hcut;have hzz:(t++Fz).size≤2500:=by rw [ByteArray.size_append]; have:=HFZ.out; omega
    generalize t++Fz=t2 at *;clear HF2 HOF HON HFZ C4 s4 c5 c7 c8 hDe hts2
    rcases hsc:p.sci with _ | _
    · rw [hsc] at c14 HOUT
      have HO:=hid (show stz (prN p m.toNat)=t2 by rw [HOUT.out,if_neg (by decide)]; exact ByteArray.append_empty);clear hsc
      go_wp2_with fail
      go_ret
      exact ⟨by rw [HO.out]; rfl,BA.out.of_drewN _⟩
    · rw [hsc] at c14 HOUT
      clear hsc
      rcases hpl:p.plus with _ | _
      · rw [hpl] at c16 HEX
        have HO:=hid (show stz (prN p m.toNat)=(t2++⟨#[69]⟩)++R5 by
         rw [HOUT.out,if_pos rfl,HEX.out,if_neg (by decide),show (⟨#[]⟩:ByteArray)=ByteArray.empty from rfl,ByteArray.append_empty,ByteArray.append_assoc])
        clear hpl
        go_upto_region 29 with fail
        go_wp2_with ((go_at_call 78; refine (C5.out _).mono ?_; rintro e w9 ⟨rfl,rfl⟩))
        go_ret
        exact ⟨by rw [HO.out]; rfl,BA.out.of_drewN _⟩
      · rw [hpl] at c16 HEX
        have HO:=hid (show stz (prN p m.toNat)=((t2++⟨#[69]⟩)++⟨#[43]⟩)++R5 by
         rw [HOUT.out,if_pos rfl,HEX.out,if_pos rfl,ByteArray.append_assoc,ByteArray.append_assoc,ByteArray.append_assoc])
        clear hpl
        go_upto_region 29 with fail
        go_wp2_with ((go_at_call 78; refine (C5.out _).mono ?_; rintro e w9 ⟨rfl,rfl⟩))
        go_ret
        exact ⟨by rw [HO.out]; rfl,BA.out.of_drewN _⟩
end Go.Proofs.YtnoeonaajefajaaGreatDoor
