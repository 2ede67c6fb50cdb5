import Derived.Test.YtmeaiaecmmglnaaGreatDoorNN
set_option linter.all false
set_option maxRecDepth 100000
namespace Go.Proofs.YtmeaiaecmmglnaaGreatDoor
open Go.RowKit
open Lib (hid)
set_option maxHeartbeats 1000000 in
theorem step15_c (m:ByteArray) (sc:Bool) (ex wh fr:ByteArray) (pt:Bool) (ba:ByteArray) (w:World) (hM:Mw w) (hs:ba.size+fr.size < 4294967281) :
 Calls Tryz.prog 91 #[.agg (ptV m sc ex wh fr pt ba)] w fun e w'=>e=.returned (.string (stz (incZ (bts ba++bts fr))))∧Below w.heap.size w w':=by
 have HX:=hid (PX.new (m:=m) (sc:=sc) (ex:=ex) (wh:=wh) (fr:=fr) (pt:=pt) (ba:=ba) hM)
 obtain ⟨c0,c1,c2,c3,c4,c5,c6⟩:=HX.out.cells
 clear hM
 generalize hW:w.alloc (.cells (ptV m sc ex wh fr pt ba) 118)=W at *
 have HW:=hid hW
 clear hW
 generalize hg:w.heap.size=g at *
 have Hg:=hid hg
 clear hg
 have h1:¬ 9223372036854775807 < ba.size+fr.size:=by omega
 have hf:∀ b ∈ ((bts ba++bts fr).filter fun c=>!h35 c),b < 256:=fun b hb=>by
  rcases List.mem_append.1 (List.mem_filter.1 hb).1 with h | h
  · exact qAP _ b h
  · exact qAP _ b h
 have hfl:((bts ba++bts fr).filter fun c=>!h35 c).length≤ba.size+fr.size:=by
  have:=List.length_filter_le (fun c=>!h35 c) (bts ba++bts fr);rw [List.length_append,qA1,qA1] at this;exact this
 have H1:Hid (∀ W,Mw W→Calls Tryz.prog 76 #[.string (ba++fr),.string ⟨#[35]⟩,.string ⟨#[]⟩] W fun e w'=>
  e=.returned (.string (stz ((bts ba++bts fr).filter fun c=>!h35 c)))∧Below W.heap.size W w'):=hid (fun W h=>by
   have:=qKD (ba++fr) 35 W h (by rw [ByteArray.size_append]; exact hs);rw [qAS] at this;exact this)
 have H2:Hid (∀ W,Calls Tryz.prog 89 #[.string (stz ((bts ba++bts fr).filter fun c=>!h35 c)),.string ⟨#[48]⟩] W fun e w'=>e=.returned (.string (stz (incZ (bts ba++bts fr))))∧W=w'):=hid (fun W=>by
  have:=qHW (stz ((bts ba++bts fr).filter fun c=>!h35 c)) 48 (by decide) W;rw [qAM hf] at this;exact this)
 have hil:(stz (incZ (bts ba++bts fr))).size < 4294967281:=by
  rw [qAC];have:=qBF z48 ((bts ba++bts fr).filter fun c=>!h35 c);unfold incZ;omega
 clear hf hfl
 generalize stz ((bts ba++bts fr).filter fun c=>!h35 c)=A at *
 generalize stz (incZ (bts ba++bts fr))=I at *
 have H3:=hid (fun W=>strClone_c I W hil)
 go_enter Tryz.func91,Tryz.ntmps91
 go_upto_region 1 with fail
 rw [HW.out,Hg.out]
 go_wp2_with (first
  | (go_at_call 76; refine (H1.out _ HX.out.mw).mono ?_; rintro e w1 ⟨rfl,hbx⟩; have HX:=hid (HX.out.below hbx); clear hbx)
  | (go_at_call 89; refine (H2.out _).mono ?_; rintro e w' ⟨rfl,rfl⟩)
  | (go_at_call 138; refine (H3.out _).mono ?_; rintro e w2 ⟨rfl,hbx⟩; have HX:=hid (HX.out.below hbx); clear hbx)
  | go_in)
 go_ret
 exact ⟨rfl,Hg.out ▸ HX.out.b⟩
def cntV (p:NF):Array Value:=#[.int .i64 (p.minInt:Int),.int .i64 (p.maxInt:Int),.int .i64 (p.minFrac:Int),.int .i64 (p.maxFrac:Int),.int .i64 (p.minSig:Int),.int .i64 (p.maxSig:Int),.int .i64 (p.prim:Int),.int .i64 (p.sec:Int),.int .i64 (p.inc.length:Int),.int .i64 (p.minExp:Int)]
set_option maxHeartbeats 1000000 in
theorem counts_c (x0 x1 x2 x3 x4 y0 y1 y2:Value) (p:NF) (w:World):Calls Tryz.prog 133 #[.agg (patV x0 x1 x2 x3 x4 p y0 y1 y2)] w fun e w'=>e=.returned (.agg (cntV p))∧Below w.heap.size w w':=by
 have hI:(stz p.inc).size=p.inc.length:=qAC _
 unfold patV
 generalize stz p.inc=I at *
 go_enter Tryz.func133,Tryz.ntmps133
 go_wp2
 exact bodyPost_ret (v:=.agg (cntV p)) (by simp [results,Tryz.results133,go_sem,cntV]) rfl ⟨rfl,((Below.refl _ _).alloc (Nat.le_refl _) _).alloc (by simp) _⟩
theorem idx_cnt (p:NF) {k:Nat} (hk:k < 10) (W:World):(Instr.index 180 (.agg (cntV p)) (.int .i64 (k:Int))).run Tryz.prog W=.ok (.int .i64 (((cntN p).getD k 0:Nat):Int)) W:=by
 have:k=0∨k=1∨k=2∨k=3∨k=4∨k=5∨k=6∨k=7∨k=8∨k=9:=by omega
 rcases this with rfl | rfl | rfl | rfl | rfl | rfl | rfl | rfl | rfl | rfl <;> rfl
theorem qA0 (x0 x1 x2 x3 x4:Value) (p:NF) (y0 y1 y2:Value):(Tryz.prog.info? 25).map (·.size)=some (patV x0 x1 x2 x3 x4 p y0 y1 y2).size:=by
 rw [show (patV x0 x1 x2 x3 x4 p y0 y1 y2).size=20 from rfl]
 kernel_rfl
set_option maxHeartbeats 1000000 in
theorem within_c (x0 x1 x2 x3 x4 y0 y1 y2:Value) (p:NF) (w:World):Calls Tryz.prog 105 #[.agg (patV x0 x1 x2 x3 x4 p y0 y1 y2)] w fun e w'=>e=.returned (.bool (!(cntN p).any (fun k=>decide (40 < k))))∧Below w.heap.size w w':=by
 have HC:=hid (fun W=>counts_c x0 x1 x2 x3 x4 y0 y1 y2 p W)
 have HN:=hid (fun k (hk:k < 10) W=>idx_cnt p (k:=k) hk W)
 have HL:=hid (show (cntN p).length=10 from rfl)
 have hsz:=qA0 x0 x1 x2 x3 x4 p y0 y1 y2
 have hbx:BX (w.alloc (.cells (patV x0 x1 x2 x3 x4 p y0 y1 y2) 25)) w.heap.size (patV x0 x1 x2 x3 x4 p y0 y1 y2) 25:=BX.new _ _ _
 have HB:=hid (qA5 w (.cells (patV x0 x1 x2 x3 x4 p y0 y1 y2) 25))
 generalize hbb:(cntN p).any (fun k=>decide (40 < k))=bb at *
 have HBB:=hid hbb
 clear hbb
 go_enter Tryz.func105,Tryz.ntmps105
 go_upto_region 1 with fail
 generalize w.alloc (.cells (patV x0 x1 x2 x3 x4 p y0 y1 y2) 25)=W at *
 generalize patV x0 x1 x2 x3 x4 p y0 y1 y2=PV at *
 generalize hg:w.heap.size=g at *
 have Hg:=hid hg
 clear hg
 go_wp2_with (first
  | (refine wpList_load_row rfl 25 _ rfl g rfl 25 PV (0,0) _ hbx Tryz.underlying25 rfl hsz ?_)
  | (go_at_call 133; refine (HC.out _).mono ?_; rintro e w1 ⟨rfl,hb⟩; have HB:=hid (HB.out.trans (hb.mono (Hg.out ▸ HB.out.size))); clear hb))
 clear HC hsz hbx
 generalize cntV p=V at *
 generalize cntN p=L at *
 go_loopw [7] (fun iv wr=>∃ k:Nat,k≤10∧iv=.int .i64 (k:Int)∧Below g w wr∧∀ j,j < k→L.getD j 0≤40) (fun iv _=>10 - (intOf iv).toNat)
 case atStart=>exact ⟨0,Nat.zero_le _,rfl,HB.out,fun j hj=>absurd hj (Nat.not_lt_zero _)⟩
 case round=>
  obtain ⟨k,hk,rfl,hb0,hall0⟩:=hrel;have HB:=hid hb0;have HA:=hid hall0;clear hb0 hall0
  by_cases hlt:k < 10
  · have hlt':decide ((k:Int) < 10)=true:=decide_eq_true (by omega)
    have hix:=HN.out k hlt;obtain ⟨x,hx⟩:∃ x,L.getD k 0=x:=⟨_,rfl⟩;rw [hx] at hix;have HX:=hid hx;have hx0:decide ((x:Int) < 0)=false:=decide_eq_false (by omega);clear hx
    by_cases h40:40 < x
    · have h4:decide ((40:Int) < (x:Int))=true:=decide_eq_true (by omega)
      have HV:=hid (show L.any (fun k=>decide (40 < k))=true from List.any_eq_true.2 ⟨x,by
       rw [← HX.out];exact qE8 (by rw [HL.out]; exact hlt),decide_eq_true h40⟩)
      clear h40;obtain rfl:bb=true:=HBB.out.symm.trans HV.out
      go_wp2
      go_ret
      exact ⟨rfl,Hg.out ▸ HB.out⟩
    · have h4:decide ((40:Int) < (x:Int))=false:=decide_eq_false (by omega)
      go_wp2
      go_roundw
      case rel=>
       refine ⟨k+1,by omega,by go_num,HB.out,fun j hj=>?_⟩
       rcases Nat.lt_or_eq_of_le (Nat.le_of_lt_succ hj) with h | h
       · exact HA.out j h
       · subst h; rw [HX.out]; omega
      case measure=>simp [intOf]; omega
  · have hke:k=10:=by omega
    subst hke;have HV:=hid (show L.any (fun k=>decide (40 < k))=false by
     refine qE9 fun c hc=>?_
     obtain ⟨j,hj,e⟩:=List.getElem_of_mem hc;have:=HA.out j (by rw [← HL.out]; exact hj);rw [List.getD,List.getElem?_eq_getElem hj,Option.getD_some,e] at this;exact decide_eq_false (by omega))
    obtain rfl:bb=false:=HBB.out.symm.trans HV.out
    go_wp2
    go_ret
    exact ⟨rfl,Hg.out ▸ HB.out⟩
def patN (p:NF):Array Value:=patV (.slice none 0 0) (.slice none 0 0) (.bool false) (.slice none 0 0) (.slice none 0 0) p (.int .i64 0) (.int .i32 0) (.int .i64 0)
def patZ:Array Value:=#[.slice none 0 0,.slice none 0 0,.bool false,.slice none 0 0,.slice none 0 0,.int .i64 0,.int .i64 0,.int .i64 0,.int .i64 0,.int .i64 0,.int .i64 0,.int .i64 0,.int .i64 0,.string ⟨#[]⟩,.bool false,.int .i64 0,.bool false,.int .i64 0,.int .i32 0,.int .i64 0]
end Go.Proofs.YtmeaiaecmmglnaaGreatDoor
