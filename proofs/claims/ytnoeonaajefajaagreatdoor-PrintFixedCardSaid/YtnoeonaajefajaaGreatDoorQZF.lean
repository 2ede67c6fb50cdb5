import Derived.Test.YtnoeonaajefajaaGreatDoorQZC
set_option linter.all false
set_option maxRecDepth 100000
set_option linter.unusedVariables false
namespace Go.Proofs.YtnoeonaajefajaaGreatDoor
open Go.RowKit
theorem bts_nil:bts (⟨#[]⟩:ByteArray)=[]:=rfl
theorem pdB_bts {a r:Int} (k:Int) (hz:isZ r=true):bts (pdB a r k)=encs (padC (decide (a=k)) r):=by
 unfold pdB padC
 by_cases h:a=k
 · rw [if_pos h,decide_eq_true h,if_pos rfl]
   by_cases h39:r=39
   · subst h39
     rw [(qG1 (by decide)).2.1]; rfl
   · have hm:([(42,false,0),(r,decide (r=39),0)]:List Tok).all mayT=true:=by
      simp [mayT,hz,h39]; decide
     rw [(qG1 hm).2.1,if_neg h39,decide_eq_false h39];rfl
 · rw [if_neg h,decide_eq_false h,if_neg (by decide)]; rfl
def fN (n:NF) (m:Int):ByteArray:=stz (prN n m.toNat)
theorem prN_small {p:NF} (h:OkN p) (m:Nat):(prN p m).length≤m+300:=by
 have e:=qFQ h m
 have hls:=qGF h.small.2.1 h.small.2.2.2.2.2.2.1 h.small.2.2.2.2.2.2.2.1
 obtain ⟨b1,b2,b3,b4,b5,b6,b7,b8,b9,b10⟩:=h.small
 have e1:(if p.sci then 0 else m:Nat)≤m:=by split <;> omega
 have e2:(if p.prim=0 then 1 else if p.sec=p.prim then 2 else 3:Nat)≤3:=by split <;> (try split) <;> omega
 have e3:(if 0 < p.maxFrac then 1+p.maxFrac else 0:Nat)≤41:=by split <;> omega
 have e4:(if p.sci then 1+((if p.plus then 1 else 0)+p.minExp) else 0:Nat)≤11:=by
  split
  · split <;> omega
  · omega
 omega
theorem qJV (p:Pt) (h:OkN p.num):NPr p.g (fN p.num):=
 ⟨fun m W hq hm=>print_c (.slice none 0 0) (.slice none 0 0) (.bool false) (.slice none 0 0) (.slice none 0 0) (.int .i64 0) (.int .i32 0) (.int .i64 0) p.num m W hq h hm,fun m hm=>by
  have:=prN_small h m.toNat;rw [fN,qA9]; omega⟩
section
variable {p:Pt} {N:List Nat}
theorem GdP.okN (h:GdP p N):OkN p.num:=qLN h.num
theorem GdP.wid4 (h:GdP p N):p.width≤400:=by
 have h1:=h.wid
 have h2:=qIO h.ok N [48]
 have h3:=h.cnt
 split at h1 <;> omega
theorem GdP.g (h:GdP p N):GdG p.g:=by
 have hz:=qAS.1 h.pad
 have hn:=h.okN.small
 refine ⟨Nat.le_trans h.pre.2 (by decide),Nat.le_trans h.suf.2 (by decide),?_,?_,by show -2147483648≤p.pad∧p.pad≤2147483647; omega,by show (stz p.num.inc).size≤_; rw [qA9]; omega⟩
 all_goals
  show _≤1000
  cases hb:p.neg
  · have h1:=h.pre.2
    have h2:=h.suf.2;have h3:=(h.one hb).1;have h4:=(h.one hb).2
    first
     | (show p.npre.length≤_; rw [h3,List.length_cons]; omega)
     | (show p.nsuf.length≤_; rw [h4]; omega)
  · have:=h.two hb
    first
     | (show p.npre.length≤_; omega)
     | (show p.nsuf.length≤_; omega)
theorem prB_bts (h:GdP p N):bts (prB p.g (fN p.num))=encs (prP p):=by
 have hG:=(gd_pr h).1
 have hN:=(qER hG.num).encs
 have hlt:∀ b ∈ prN p.num (morP p),b < 256:=fun b hb=>by have:=((qER hG.num).mem b hb).2.2.2; omega
 have hp:partB p.g (fN p.num)=stz (prN p.num (morP p)):=by
  have e:(((p.width:Nat):Int) - p.pre.length - ((prN p.num 0).length:Nat) - p.suf.length).toNat=morP p:=by
   unfold morP;have:=h.wid
   split
   · rename_i h0
     rw [if_neg (by rw [h0]; decide)] at this;omega
   · omega
  show stz (prN p.num (((p.width:Nat):Int) - p.pre.length - ((stz (prN p.num (0:Int).toNat)).size:Nat) - p.suf.length).toNat)=_
  rw [qA9]
  show stz (prN p.num (((p.width:Nat):Int) - p.pre.length - ((prN p.num 0).length:Nat) - p.suf.length).toNat)=_
  rw [e]
 have hi:∀ is,bts (prtZ (tksI is))=encs (itC is):=fun is=>(qG1 (qG6 is)).2.1
 unfold prB fstB
 rw [hp]
 show bts (pdB p.at_ p.pad 1++prtZ (tksI p.pre)++pdB p.at_ p.pad 2++stz (prN p.num (morP p))++pdB p.at_ p.pad 3++prtZ (tksI p.suf)++pdB p.at_ p.pad 4++sndB p.g)=_
 have hs:bts (sndB p.g)=encs (if p.neg then 59 :: hfC 0 0 p.npre [48] p.nsuf else []):=by
  show bts (if p.neg then (⟨#[59]⟩:ByteArray)++prtZ (tksI p.npre)++⟨#[48]⟩++prtZ (tksI p.nsuf) else ⟨#[]⟩)=_
  cases p.neg
  · rfl
  · simp only [if_true,qAP,hi]
    show [59]++encs (itC p.npre)++[48]++encs (itC p.nsuf)=encs ([59]++([]++(itC p.npre++([]++([48]++([]++(itC p.nsuf++[])))))))
    simp only [qB4,List.nil_append,List.append_nil,List.append_assoc];rfl
 simp only [qAP,hi,hs,pdB_bts _ h.pad,qAE hlt]
 conv=>lhs; rw [← hN]
 unfold prP txC hfC
 simp only [qB4,List.append_assoc]
theorem prB_eq (h:GdP p N):prB p.g (fN p.num)=stz (encs (prP p)):=qE9 (prB_bts h)
theorem prP_pos (h:GdP p N):0 < (stz (encs (prP p))).size:=by
 have hG:=(gd_pr h).1
 have hn:=(qER hG.num).ne
 have h1:=encs_len (prP p)
 have h2:0 < (prP p).length:=by
  have:0 < (prN p.num (morP p)).length:=List.length_pos_iff.2 hn;unfold prP txC hfC;simp only [List.length_append];omega
 rw [qA9]; omega
theorem qIW (PV:Array Value) (w:World) (hM:Mw w) (h:Ptv w PV p) (g:GdP p N) (hm:(p.has 4 && p.has 5)=false) :
 Calls Tryz.prog 17 #[.agg PV] w fun e w'=>e=.returned (.string (stz (encs (prP p))))∧Below w.heap.size w w':=by
 rw [← prB_eq g]
 exact print_t PV p (fN p.num) w hM h g.g g.wid4 (qJV p g.okN) (by rw [prB_bts g]; exact (qL7 g hm).1)
theorem good_g (PV:Array Value) (w:World) (hM:Mw w) (h:Ptv w PV p) (g:GdP p N) (hm:(p.has 4 && p.has 5)=false) :
 Calls Tryz.prog 16 #[.agg PV] w fun e w'=>e=.returned (.bool true)∧Below w.heap.size w w':=
 good_t PV _ w h.sz.1 (prP_pos g) fun W hb=>qIW PV W (hM.below hb) (h.below hb) g hm
end
end Go.Proofs.YtnoeonaajefajaaGreatDoor

set_option linter.all false
set_option maxRecDepth 100000
set_option linter.unusedVariables false
namespace Go.Proofs.YtnoeonaajefajaaGreatDoor
open Go.RowKit
open Lib (hid)
set_option maxHeartbeats 8000000 in
theorem same_n (PV QV:Array Value) (q q':Pg) (w:World) (h:Pgv w PV q) (h':Pgv w QV q') (hT:tolV q'=tolV q) (hp:q'.pre=q.pre) (hs:q'.suf=q.suf) (hn:q.npre≠q'.npre) :
 Calls Tryz.prog 77 #[.agg PV,.agg QV] w fun e w'=>e=.returned (.bool false)∧Below w.heap.size w w':=by
 have HX:=hid (GX2.new w PV QV)
 obtain ⟨A0,n0,c0,A1,n1,c1,A3,n3,c3,A4,n4,c4,e,i0,i1,i3,i4⟩:=h
 obtain ⟨B0,m0,d0,B1,m1,d1,B3,m3,d3,B4,m4,d4,e2,u0,u1,u3,u4⟩:=h'
 rw [hp] at u0
 rw [hs] at u1
 have HB1:=hid (fun W=>qHU PV _ _ _ _ q W e)
 have HB2:=hid (fun W=>qHU QV _ _ _ _ q' W e2)
 rw [hT] at HB2
 have HE0:=hid (fun W (hb:Below w.heap.size w W)=>qJU A0 B0 n0 c0 m0 d0 _ W (i0.below hb) (u0.below hb))
 have HE1:=hid (fun W (hb:Below w.heap.size w W)=>qJU A1 B1 n1 c1 m1 d1 _ W (i1.below hb) (u1.below hb))
 have HE3:=hid (fun W (hb:Below w.heap.size w W)=>slEq_c A3 B3 n3 c3 m3 d3 _ _ W (i3.below hb) (u3.below hb))
 rw [decide_eq_false hn] at HE3
 have hsz:(Tryz.prog.info? 24).map (·.size)=some PV.size:=by rw [e]; exact qHD ..
 have hsz2:(Tryz.prog.info? 24).map (·.size)=some QV.size:=by rw [e2]; exact qHD ..
 have k0:PV[0]? = some (.slice A0 n0 c0):=by rw [e]; rfl
 have j0:QV[0]? = some (.slice B0 m0 d0):=by rw [e2]; rfl
 have k1:PV[1]? = some (.slice A1 n1 c1):=by rw [e]; rfl
 have j1:QV[1]? = some (.slice B1 m1 d1):=by rw [e2]; rfl
 have k3:PV[3]? = some (.slice A3 n3 c3):=by rw [e]; rfl
 have j3:QV[3]? = some (.slice B3 m3 d3):=by rw [e2]; rfl
 have k4:PV[4]? = some (.slice A4 n4 c4):=by rw [e]; rfl
 have j4:QV[4]? = some (.slice B4 m4 d4):=by rw [e2]; rfl
 clear i0 i1 i3 i4 u0 u1 u3 u4 e e2 hn hp hs hT
 go_enter Tryz.func77,Tryz.ntmps77
 go_upto_region 1 with fail
 change Code.wp _ _ _ _ ((w.alloc (.cells PV 24)).alloc (.cells QV 24))
 generalize (w.alloc (.cells PV 24)).alloc (.cells QV 24)=W at *
 generalize hg:w.heap.size=g at *
 have Hg:=hid hg
 clear hg
 have ST:∀ W,GX2 w W g PV QV→Hid (GX2 w W g PV QV)∧W.cell? ⟨g,0,none⟩=some (.slice A0 n0 c0)∧W.cell? ⟨g,1,none⟩=some (.slice A1 n1 c1)∧W.cell? ⟨g,3,none⟩=some (.slice A3 n3 c3)∧W.cell? ⟨g,4,none⟩=some (.slice A4 n4 c4)∧W.cell? ⟨g+1,0,none⟩=some (.slice B0 m0 d0)∧W.cell? ⟨g+1,1,none⟩=some (.slice B1 m1 d1)∧W.cell? ⟨g+1,3,none⟩=some (.slice B3 m3 d3)∧W.cell? ⟨g+1,4,none⟩=some (.slice B4 m4 d4):=fun W x=>⟨hid x,(x.bx.c 0).trans k0,(x.bx.c 1).trans k1,(x.bx.c 3).trans k3,(x.bx.c 4).trans k4,(x.by_.c 0).trans j0,(x.by_.c 1).trans j1,(x.by_.c 3).trans j3,(x.by_.c 4).trans j4⟩
 refine wp_region_held_drew (S:=(fun W:World=>Hid (GX2 w W g PV QV)∧W.cell? ⟨g,0,none⟩=some (.slice A0 n0 c0)∧W.cell? ⟨g,1,none⟩=some (.slice A1 n1 c1)∧W.cell? ⟨g,3,none⟩=some (.slice A3 n3 c3)∧W.cell? ⟨g,4,none⟩=some (.slice A4 n4 c4)∧W.cell? ⟨g+1,0,none⟩=some (.slice B0 m0 d0)∧W.cell? ⟨g+1,1,none⟩=some (.slice B1 m1 d1)∧W.cell? ⟨g+1,3,none⟩=some (.slice B3 m3 d3)∧W.cell? ⟨g+1,4,none⟩=some (.slice B4 m4 d4))) (by kernel_rfl) (ST _ HX.out.drew) (fun hHeld=>?_)
 refine ql 0 hHeld (fun _ h=>h.1.out.bx) Tryz.underlying24 hsz ?_
 try simp only [pk]
 refine ql 2 hHeld (fun _ h=>h.1.out.by_) Tryz.underlying24 hsz2 ?_
 try simp only [pk]
 refine qk 1 (HB1.out _) (fun W hb=>ST W (hHeld.1.out.below hb)) fun W hHeld _=>?_
 try simp only [pk]
 refine qk 3 (HB2.out _) (fun W hb=>ST W (hHeld.1.out.below hb)) fun W hHeld _=>?_
 try simp only [pk]
 refine qA8 4 rfl (by kernel_rfl) (by kernel_rfl) (by kernel_rfl) (fun _ _ _ h=>h) rfl (fun w _=>qIV q w rfl rfl rfl) hHeld ?_
 try simp only [pk]
 refine' qt 5 hHeld ?_
 try simp only [pk]
 refine' qt 6 hHeld ?_
 try simp only [pk]
 refine' qt 7 hHeld ?_
 try simp only [pk]
 refine' qt 8 hHeld ?_
 try simp only [pk]
 refine' qt 9 hHeld ?_
 try simp only [pk]
 refine qk 10 (HE0.out _ (Hg.out ▸ hHeld.1.out.b)) (fun W hb=>ST W (hHeld.1.out.below hb)) fun W hHeld _=>?_
 try simp only [pk]
 refine' qt 11 hHeld ?_
 try simp only [pk]
 refine' qt 12 hHeld ?_
 try simp only [pk]
 refine' qt 13 hHeld ?_
 try simp only [pk]
 refine' qt 14 hHeld ?_
 try simp only [pk]
 refine' qt 15 hHeld ?_
 try simp only [pk]
 refine' qt 16 hHeld ?_
 try simp only [pk]
 refine qk 17 (HE1.out _ (Hg.out ▸ hHeld.1.out.b)) (fun W hb=>ST W (hHeld.1.out.below hb)) fun W hHeld _=>?_
 try simp only [pk]
 refine' qt 18 hHeld ?_
 try simp only [pk]
 refine' qt 19 hHeld ?_
 try simp only [pk]
 refine' qt 20 hHeld ?_
 try simp only [pk]
 refine' qt 21 hHeld ?_
 try simp only [pk]
 refine' qt 22 hHeld ?_
 try simp only [pk]
 refine' qt 23 hHeld ?_
 try simp only [pk]
 refine qk 24 (HE3.out _ (Hg.out ▸ hHeld.1.out.b)) (fun W hb=>ST W (hHeld.1.out.below hb)) fun W hHeld _=>?_
 try simp only [pk]
 refine' qt 25 hHeld ?_
 try simp only [pk]
 refine' qt 26 hHeld ?_
 try simp only [pk]
 refine qs 27 hHeld ?_
 try simp only [pk]
 refine qs 28 hHeld ?_
 try simp only [pk]
 refine qs 29 hHeld ?_
 try simp only [pk]
 refine qs 30 hHeld ?_
 try simp only [pk]
 refine qs 31 hHeld ?_
 try simp only [pk]
 refine' qt 32 hHeld ?_
 try simp only [pk]
 refine' qt 33 hHeld ?_
 try simp only [pk]
 refine wpAnyH_done (by kernel_rfl) ?_ _
 clear ST
 have HXe:=hHeld.1
 clear hHeld
 go_wp2
 go_ret
 exact ⟨rfl,Hg.out ▸ HXe.out.b⟩
def ex17:List Nat:=[42,120,35,35,35,44,35,35,48]
def qMF:Pt:={ npre:=[(2,0)],num:={ minInt:=1,prim:=3,sec:=3 },at_:=1,pad:=120,width:=7 }
theorem qMG:compZ ex17=(qMF,0,0):=by kernel_rfl
theorem ex17_print:encs (prP qMF)=ex17:=by decide +kernel
def ex0P:Pt:={ npre:=[(2,0)] }
theorem ex0_comp:compZ [35]=(ex0P,0,0):=by kernel_rfl
theorem ex0_num:numZ [35]=({},0):=by decide +kernel
theorem ex0_text:bts (prB (({}:Pt).g) (fN {}))=[35]:=by decide +kernel
theorem its_nil2 (w:World):Pgv w patZ ({}:Pt).g:=(Ptv.nil w).g
set_option maxHeartbeats 4000000 in
theorem good_z (w:World) (hM:Mw w):Calls Tryz.prog 16 #[.agg patZ] w fun e w'=>e=.returned (.bool false)∧Below w.heap.size w w':=by
 refine good_f patZ w (Ptv.nil w).sz.1 fun W hb=>?_
 have hok:OkN ({}:Pt).num:=qLN ex0_num
 have hM':=hM.below hb
 refine print_b patZ ({}:Pt).g (fN {}) false W hM' (its_nil2 W) ⟨by decide,by decide,by decide,by decide,by decide,by decide⟩ (by decide) (qJV {} hok) fun W1 hq1 hb1=>?_
 refine says_b _ patZ ex0P ({}:Pt).g false W1 hq1 ?_ (by rw [ex0_text]; exact ex0_comp) (its_nil2 W1) fun PVa W2 h1 h2=>?_
 · have:=congrArg List.length ex0_text
   rw [qA1] at this;rw [this]; decide
 · exact same_n PVa patZ ex0P.g ({}:Pt).g W2 h1 h2 rfl rfl rfl (by decide)
set_option maxHeartbeats 8000000 in
theorem qFY (w:World) (hM:Mw w):Calls Tryz.prog 15 #[] w fun e w'=>e=.returned (.bool true)∧Below w.heap.size w w':=by
 obtain ⟨N,hgd,-,hmx⟩:=gd_of (qAO ⟨#[42,120,35,35,35,44,35,35,48]⟩) (show compZ (bts ⟨#[42,120,35,35,35,44,35,35,48]⟩)=(qMF,0,0) from qMG)
 have HC:=hid (fun W (h:Mw W)=>qLA ⟨#[42,120,35,35,35,44,35,35,48]⟩ W (by show 9≤_; omega) h)
 rw [show compZ (bts ⟨#[42,120,35,35,35,44,35,35,48]⟩)=(qMF,0,0) from qMG] at HC
 have HG:=hid (fun PV W (h:Mw W) (hp:Ptv W PV qMF)=>good_g PV W h hp hgd hmx)
 have HP:=hid (fun PV W (h:Mw W) (hp:Ptv W PV qMF)=>qIW PV W h hp hgd hmx)
 rw [show stz (encs (prP qMF))=(⟨#[42,120,35,35,35,44,35,35,48]⟩:ByteArray) by rw [ex17_print]; rfl] at HP
 have HZ:=hid (fun W (h:Mw W)=>good_z W h)
 unfold patZ at HZ
 have HM:=hid hM
 clear hM hgd hmx
 go_enter Tryz.func15,Tryz.ntmps15
 go_upto_region 1 with fail
 go_cut [1,2] (McP qMF 0 0 w)
 case first=>
  go_wp2_with (first
   | go_skip
   | (go_at_call 19; refine (HC.out _ HM.out).mono ?_; rintro e w1 ⟨PVa,rfl,hpt,hb1⟩; obtain ⟨hsa,h20,hce⟩:=hpt.out.sz)
   | (refine wpList_store_row rfl 24 _ _ rfl w1.heap.size PVa rfl rfl 24 patZ ((BX.new w1 patZ 24).alloc _) hsa h20 hce ?_)
   | (refine wpList_store_row rfl 27 _ _ rfl (w1.heap.size+1) #[.int .i64 _,.int .i64 _] rfl rfl 27 _ (pb_f PVa) (qA3 _ _) rfl (qA6 _ _) ?_)
   | fail)
  go_meet
  exact qJR hpt.out hb1
 case rest=>
 obtain ⟨a,PVa,rfl,rfl,hpb,hbc⟩:=hcut
 have HPB:=hid hpb
 have HB:=hid hbc
 clear hpb hbc
 have y0:=HPB.out.bf.c 0
 have k0:=HPB.out.bp
 have s0:=HPB.out.pt.sz.1
 go_step
 go_wp2_with (first
  | go_skip
  | (refine qAG rfl 24 _ rfl a rfl 24 PVa (0,0) _ k0 Tryz.underlying24 rfl s0 ?_)
  | (refine qAG rfl 24 _ rfl a rfl 24 PVa (0,0) _ k1 Tryz.underlying24 rfl s0 ?_)
  | (go_at_call 16; first
   | ((with_reducible refine (HG.out PVa _ (HM.out.below HB.out) HPB.out.pt).mono ?_); rintro e w4 ⟨rfl,hb4⟩; have HPB4:=hid (HPB.out.below hb4); have k1:=HPB4.out.bp; have HB4:=hid (HB.out.trans (hb4.mono HB.out.size)); clear HG)
   | ((with_reducible refine (HZ.out _ (HM.out.below HB5.out)).mono ?_); rintro e w6 ⟨rfl,hb6⟩))
  | (go_at_call 17; refine (HP.out PVa _ (HM.out.below HB4.out) HPB4.out.pt).mono ?_; rintro e w5 ⟨rfl,hb5⟩; have HB5:=hid (HB4.out.trans (hb5.mono HB4.out.size)))
  | fail)
 go_ret
 exact ⟨rfl,HB5.out.trans (hb6.mono HB5.out.size)⟩
end Go.Proofs.YtnoeonaajefajaaGreatDoor
