import Derived.Test.YtnoeonaajefajaaGreatDoorQNP
set_option linter.all false
set_option maxRecDepth 100000
namespace Go.Proofs.YtnoeonaajefajaaGreatDoor
open Go.RowKit
open Lib (hid)
def stpV:Array Value:=#[.func (.func 181) #[] #[],.func (.func 182) #[] #[],.func (.func 183) #[] #[],.func (.func 184) #[] #[],.func (.func 185) #[] #[],.func (.func 186) #[] #[],.func (.func 187) #[] #[],.func (.func 188) #[] #[],.func (.func 189) #[] #[]]
structure ZX (w0 W:World) (r a s:Nat) (m:ByteArray) (sc:Bool) (ex wh fr:ByteArray) (pt:Bool) (ba:ByteArray):Prop where
 m0:Mw w0
 b:Below w0.heap.size w0 W
 br:BX W r patZ 24
 bn:BX W a (ptV m sc ex wh fr pt ba) 156
 bs:BX W s stpV 160
 h0:w0.heap.size≤r
section
variable {w0 W:World} {r a s:Nat} {m:ByteArray} {sc:Bool} {ex wh fr:ByteArray} {pt:Bool} {ba:ByteArray}
theorem ZX.mw (x:ZX w0 W r a s m sc ex wh fr pt ba):Mw W:=x.m0.below x.b
theorem ZX.below {W':World} (x:ZX w0 W r a s m sc ex wh fr pt ba) (hb:Below W.heap.size W W'):ZX w0 W' r a s m sc ex wh fr pt ba:=
 ⟨x.m0,x.b.trans (hb.mono x.b.size),x.br.below hb x.br.lt,x.bn.below hb x.bn.lt,x.bs.below hb x.bs.lt,x.h0⟩
end
theorem qAM (m:ByteArray) (sc:Bool) (ex wh fr:ByteArray) (pt:Bool) (ba:ByteArray):(Tryz.prog.info? 156).map (·.size)=some (ptV m sc ex wh fr pt ba).size:=by
 rw [show (ptV m sc ex wh fr pt ba).size=7 from rfl]
 kernel_rfl
def qII:Array Value:=#[.string ⟨#[]⟩,.bool false,.string ⟨#[]⟩,.string ⟨#[]⟩,.string ⟨#[]⟩,.bool false,.string ⟨#[]⟩]
theorem ZX.start {w w1:World} (hM:Mw w) (hb:Below (w.alloc (.cells patZ 24)).heap.size (w.alloc (.cells patZ 24)) w1) (m:ByteArray) (sc:Bool) (ex wh fr:ByteArray) (pt:Bool) (ba:ByteArray) :
 ZX w (((w1.alloc (.cells qII 156)).setRow w1.heap.size (ptV m sc ex wh fr pt ba)).alloc (.cells stpV 160)) w.heap.size w1.heap.size (w1.heap.size+1) m sc ex wh fr pt ba:=by
 have hs:w.heap.size < w1.heap.size:=by have:=hb.size; simp at this; omega
 have h1:BX w1 w.heap.size patZ 24:=(BX.new w patZ _).below hb (by simp)
 have h2:Below w.heap.size w w1:=(qA2 w _).trans (hb.mono (by simp))
 have h3:BX ((w1.alloc (.cells qII 156)).setRow w1.heap.size (ptV m sc ex wh fr pt ba)) w1.heap.size (ptV m sc ex wh fr pt ba) 156:=setRow_heap _ _ qII _ _ _ (BX.new w1 qII _)
 have h4:BX ((w1.alloc (.cells qII 156)).setRow w1.heap.size (ptV m sc ex wh fr pt ba)) w.heap.size patZ 24:=(setRow_other _ _ _ _ (by omega)).trans (h1.alloc _)
 have h5:=(((h2.alloc (Nat.le_of_lt hs) (.cells qII 156)).setRow (g:=w1.heap.size) (Nat.le_of_lt hs) (ptV m sc ex wh fr pt ba)).alloc (by simp; omega) (.cells stpV 160))
 refine ⟨hM,h5,h4.alloc _,h3.alloc _,?_,Nat.le_refl _⟩
 have:=BX.new ((w1.alloc (.cells qII 156)).setRow w1.heap.size (ptV m sc ex wh fr pt ba)) stpV 160
 simpa using this
theorem qA4 {P:Program} {fn:Func} {p q:Tmp} {ty:TypeId} (h:fn.results=#[.cell p ty,.tmp q]) (tmps:Array Value) (w:World) (g:Nat) (t:TypeId) (cs:Array Value) (fr:Nat × Nat) (d:TypeDesc)
 (hp:tmps.getD p undef=.pointer (some ⟨g,0,none⟩)) (hg:w.heap[g]? = some (.cells cs t fr))
 (hu:P.underlying ty=some d) (hd:(match d with | .struct _ | .array _ _=>true | _=>false)=true) (hi:(P.info? ty).map (·.size)=some cs.size) :
 (results fn tmps).run P w=.ok (.tuple #[.agg cs,tmps.getD q undef]) w:=by
 have hp':tmps[p]?.getD undef=.pointer (some ⟨g,0,none⟩):=by simpa using hp
 simp [results,h,hp',asAddr,run_loadVar_row w g t ty cs fr d hg hu hd hi]
theorem steps_c (w:World):Calls Tryz.prog 130 #[] w fun e w'=>e=.returned (.slice (some ⟨w.heap.size,0,none⟩) 9 9)∧w'=w.alloc (.cells stpV 160):=by
 go_enter Tryz.func130,Tryz.ntmps130
 go_wp2
 go_ret
 exact ⟨rfl,rfl⟩
theorem part_cells (m:ByteArray) (sc:Bool) (ex wh fr:ByteArray) (pt:Bool) (ba:ByteArray):(ptV m sc ex wh fr pt ba).all (·.oneCell')=true:=by simp [ptV,Value.oneCell']
theorem prt_eta (n:Prt) (h:∀ b,b ∈ n.main∨b ∈ n.exp∨b ∈ n.whole∨b ∈ n.frac∨b ∈ n.bare→b < 256):(⟨bts (stz n.main),n.sci,bts (stz n.exp),bts (stz n.whole),bts (stz n.frac),n.pointed,bts (stz n.bare)⟩:Prt)=n:=by
 rw [qAE fun b hb=>h b (.inl hb),qAE fun b hb=>h b (.inr (.inl hb)),qAE fun b hb=>h b (.inr (.inr (.inl hb))),qAE fun b hb=>h b (.inr (.inr (.inr (.inl hb)))),qAE fun b hb=>h b (.inr (.inr (.inr (.inr hb))))]
set_option maxHeartbeats 8000000 in
theorem parse_p (s m:ByteArray) (sc:Bool) (ex wh fr:ByteArray) (pt:Bool) (ba:ByteArray) (w:World) (hM:Mw w) (hx:ex.size < 4294967281) (hw:wh.size < 4294967281) (hbf:ba.size+fr.size < 4294967281)
 (hC:∀ W,Mw W→Calls Tryz.prog 129 #[.string s] W fun e w'=>e=.returned (.agg (ptV m sc ex wh fr pt ba))∧Below W.heap.size W w') :
 Calls Tryz.prog 88 #[.string s] w fun e w'=>e=.returned (.tuple #[.agg (patN (resE ⟨bts m,sc,bts ex,bts wh,bts fr,pt,bts ba⟩ (stp ⟨bts m,sc,bts ex,bts wh,bts fr,pt,bts ba⟩)).1),.int .i64 (((resE ⟨bts m,sc,bts ex,bts wh,bts fr,pt,bts ba⟩ (stp ⟨bts m,sc,bts ex,bts wh,bts fr,pt,bts ba⟩)).2:Nat):Int)])∧Below w.heap.size w w':=by
 have E1:=hid (fun W (h:Mw W)=>er1_c m sc ex wh fr pt ba W h hx)
 have E2:=hid (fun W (h:Mw W)=>er2_c m sc ex wh fr pt ba W h )
 have E3:=hid (fun W (h:Mw W)=>er3_c m sc ex wh fr pt ba W h hw)
 have E4:=hid (fun W (h:Mw W)=>er4_c m sc ex wh fr pt ba W h )
 have E5:=hid (fun W (h:Mw W)=>er5_c m sc ex wh fr pt ba W h )
 have E6:=hid (fun W (h:Mw W)=>er6_c m sc ex wh fr pt ba W h )
 have E7:=hid (fun W (h:Mw W)=>er7_c m sc ex wh fr pt ba W h )
 have E8:=hid (fun W (h:Mw W)=>er8_c m sc ex wh fr pt ba W h )
 have E9:=hid (fun W (h:Mw W)=>er9_c m sc ex wh fr pt ba W h hbf hw)
 have EP:=hid (fun W (h:Mw W)=>qLW m sc ex wh fr pt ba W h hbf hw)
 generalize hq:resE ⟨bts m,sc,bts ex,bts wh,bts fr,pt,bts ba⟩ (stp ⟨bts m,sc,bts ex,bts wh,bts fr,pt,bts ba⟩)=q
 have HQ:Hid (q=resE ⟨bts m,sc,bts ex,bts wh,bts fr,pt,bts ba⟩ [er1 ⟨bts m,sc,bts ex,bts wh,bts fr,pt,bts ba⟩,er2 ⟨bts m,sc,bts ex,bts wh,bts fr,pt,bts ba⟩,er3 ⟨bts m,sc,bts ex,bts wh,bts fr,pt,bts ba⟩,er4 ⟨bts m,sc,bts ex,bts wh,bts fr,pt,bts ba⟩,er5 ⟨bts m,sc,bts ex,bts wh,bts fr,pt,bts ba⟩,er6 ⟨bts m,sc,bts ex,bts wh,bts fr,pt,bts ba⟩,er7 ⟨bts m,sc,bts ex,bts wh,bts fr,pt,bts ba⟩,er8 ⟨bts m,sc,bts ex,bts wh,bts fr,pt,bts ba⟩,er9 ⟨bts m,sc,bts ex,bts wh,bts fr,pt,bts ba⟩]):=hid hq.symm
 clear hq
 generalize er1 ⟨bts m,sc,bts ex,bts wh,bts fr,pt,bts ba⟩=e1 at *
 generalize er2 ⟨bts m,sc,bts ex,bts wh,bts fr,pt,bts ba⟩=e2 at *
 generalize er3 ⟨bts m,sc,bts ex,bts wh,bts fr,pt,bts ba⟩=e3 at *
 generalize er4 ⟨bts m,sc,bts ex,bts wh,bts fr,pt,bts ba⟩=e4 at *
 generalize er5 ⟨bts m,sc,bts ex,bts wh,bts fr,pt,bts ba⟩=e5 at *
 generalize er6 ⟨bts m,sc,bts ex,bts wh,bts fr,pt,bts ba⟩=e6 at *
 generalize er7 ⟨bts m,sc,bts ex,bts wh,bts fr,pt,bts ba⟩=e7 at *
 generalize er8 ⟨bts m,sc,bts ex,bts wh,bts fr,pt,bts ba⟩=e8 at *
 generalize er9 ⟨bts m,sc,bts ex,bts wh,bts fr,pt,bts ba⟩=e9 at *
 generalize (⟨bts m,sc,bts ex,bts wh,bts fr,pt,bts ba⟩:Prt)=n at *
 have HC:=hid hC
 have HM:=hid hM
 clear hC hM hx hw hbf
 go_enter Tryz.func88,Tryz.ntmps88
 go_upto_region 2 with (first
  | (go_at_call 129; refine (HC.out _ (HM.out.below (qA2 _ _))).mono ?_; rintro e w1 ⟨rfl,hbx⟩; have HZ:=hid (ZX.start HM.out hbx m sc ex wh fr pt ba); clear hbx)
  | (refine wpList_store_row rfl 156 _ _ rfl w1.heap.size (ptV m sc ex wh fr pt ba) rfl rfl 156 qII (BX.new w1 qII _) (qAM ..) rfl (part_cells ..) ?_))
 change Code.wp _ _ _ _ ((w1.alloc (.cells qII 156)).setRow w1.heap.size (ptV m sc ex wh fr pt ba))
 generalize hW:(w1.alloc (.cells qII 156)).setRow w1.heap.size (ptV m sc ex wh fr pt ba)=W at *
 have HS:Hid (W.heap.size=w1.heap.size+1):=hid (by rw [← hW]; simp)
 clear hW
 go_wp2_with (go_at_call 130; refine (steps_c _).mono ?_; rintro e w' ⟨rfl,rfl⟩)
 rw [HS.out]
 generalize W.alloc (.cells stpV 160)=W2 at *
 generalize w1.heap.size=a at *
 generalize hg:w.heap.size=r at *
 have Hg:=hid hg
 clear hg HS
 go_loopw [12] (fun iv wr=>∃ k:Nat,k≤9∧iv=.int .i64 (k:Int)∧ZX w wr r a (a+1) m sc ex wh fr pt ba∧q=resE n ([e1,e2,e3,e4,e5,e6,e7,e8,e9].drop k)) (fun iv _=>9 - (intOf iv).toNat)
 case atStart=>exact ⟨0,Nat.zero_le _,rfl,HZ.out,HQ.out⟩
 case round=>
  clear HZ HQ;obtain ⟨k,hk,rfl,hz,hq⟩:=hrel;have HZ:=hid hz;have HQ:=hid hq;clear hz hq;have hbn:=HZ.out.bn
  by_cases hlt:k < 9
  · have:k=0∨k=1∨k=2∨k=3∨k=4∨k=5∨k=6∨k=7∨k=8:=by omega
    rcases this with rfl | rfl | rfl | rfl | rfl | rfl | rfl | rfl | rfl
    · have hs:wr.cell? ⟨a+1,0,none⟩=some (.func (.func 181) #[] #[]):=HZ.out.bs.v 0 rfl
      have HL:=hid (show q=resE n (e1 :: [e1,e2,e3,e4,e5,e6,e7,e8,e9].drop 1) from HQ.out)
      by_cases h0:e1=0
      · subst h0
        go_wp2_with (first
         | (refine wpList_load_row rfl 156 _ rfl a rfl 156 (ptV m sc ex wh fr pt ba) (0,0) _ hbn Tryz.underlying156 rfl (qAM ..) ?_)
         | (go_at_call 181; refine (E1.out _ HZ.out.mw).mono ?_; rintro e w2 ⟨rfl,hbx⟩; have HZ:=hid (HZ.out.below hbx); clear hbx))
        go_roundw
        case rel=>
         exact ⟨1,by omega,by go_num,HZ.out,HL.out⟩
        case measure=>simp [intOf]
      · obtain ⟨j,rfl⟩:∃ j,e1=j+1:=⟨e1 - 1,by omega⟩
        have hne:(((j+1:Nat):Int) != 0)=true:=by simp only [bne_iff_ne,ne_eq]; omega
        obtain rfl:q=({},j+1):=HL.out
        go_wp2_with (first
         | (refine wpList_load_row rfl 156 _ rfl a rfl 156 (ptV m sc ex wh fr pt ba) (0,0) _ hbn Tryz.underlying156 rfl (qAM ..) ?_)
         | (go_at_call 181; refine (E1.out _ HZ.out.mw).mono ?_; rintro e w2 ⟨rfl,hbx⟩; have HZ:=hid (HZ.out.below hbx); have hbr:=HZ.out.br; clear hbx)
         | (refine wpList_store_row rfl 24 _ _ rfl r patZ rfl rfl 24 patZ hbr (qA0 _ _ _ _ _ {} _ _ _) rfl (qA5 {}) ?_))
        exact bodyPost_ret (v:=.tuple #[.agg patZ,.int .i64 ((j+1:Nat):Int)]) (qA4 Tryz.results88 _ _ r 24 _ (0,0) _ rfl (setRow_heap _ _ _ _ _ _ hbr) Tryz.underlying24 rfl (qA0 _ _ _ _ _ {} _ _ _)) rfl ⟨rfl,HZ.out.b.setRow (Nat.le_of_eq Hg.out) _⟩
    · have hs:wr.cell? ⟨a+1,1,none⟩=some (.func (.func 182) #[] #[]):=HZ.out.bs.v 1 rfl
      have HL:=hid (show q=resE n (e2 :: [e1,e2,e3,e4,e5,e6,e7,e8,e9].drop 2) from HQ.out)
      by_cases h0:e2=0
      · subst h0
        go_wp2_with (first
         | (refine wpList_load_row rfl 156 _ rfl a rfl 156 (ptV m sc ex wh fr pt ba) (0,0) _ hbn Tryz.underlying156 rfl (qAM ..) ?_)
         | (go_at_call 182; refine (E2.out _ HZ.out.mw).mono ?_; rintro e w2 ⟨rfl,hbx⟩; have HZ:=hid (HZ.out.below hbx); clear hbx))
        go_roundw
        case rel=>
         exact ⟨2,by omega,by go_num,HZ.out,HL.out⟩
        case measure=>simp [intOf]
      · obtain ⟨j,rfl⟩:∃ j,e2=j+1:=⟨e2 - 1,by omega⟩
        have hne:(((j+1:Nat):Int) != 0)=true:=by simp only [bne_iff_ne,ne_eq]; omega
        obtain rfl:q=({},j+1):=HL.out
        go_wp2_with (first
         | (refine wpList_load_row rfl 156 _ rfl a rfl 156 (ptV m sc ex wh fr pt ba) (0,0) _ hbn Tryz.underlying156 rfl (qAM ..) ?_)
         | (go_at_call 182; refine (E2.out _ HZ.out.mw).mono ?_; rintro e w2 ⟨rfl,hbx⟩; have HZ:=hid (HZ.out.below hbx); have hbr:=HZ.out.br; clear hbx)
         | (refine wpList_store_row rfl 24 _ _ rfl r patZ rfl rfl 24 patZ hbr (qA0 _ _ _ _ _ {} _ _ _) rfl (qA5 {}) ?_))
        exact bodyPost_ret (v:=.tuple #[.agg patZ,.int .i64 ((j+1:Nat):Int)]) (qA4 Tryz.results88 _ _ r 24 _ (0,0) _ rfl (setRow_heap _ _ _ _ _ _ hbr) Tryz.underlying24 rfl (qA0 _ _ _ _ _ {} _ _ _)) rfl ⟨rfl,HZ.out.b.setRow (Nat.le_of_eq Hg.out) _⟩
    · have hs:wr.cell? ⟨a+1,2,none⟩=some (.func (.func 183) #[] #[]):=HZ.out.bs.v 2 rfl
      have HL:=hid (show q=resE n (e3 :: [e1,e2,e3,e4,e5,e6,e7,e8,e9].drop 3) from HQ.out)
      by_cases h0:e3=0
      · subst h0
        go_wp2_with (first
         | (refine wpList_load_row rfl 156 _ rfl a rfl 156 (ptV m sc ex wh fr pt ba) (0,0) _ hbn Tryz.underlying156 rfl (qAM ..) ?_)
         | (go_at_call 183; refine (E3.out _ HZ.out.mw).mono ?_; rintro e w2 ⟨rfl,hbx⟩; have HZ:=hid (HZ.out.below hbx); clear hbx))
        go_roundw
        case rel=>
         exact ⟨3,by omega,by go_num,HZ.out,HL.out⟩
        case measure=>simp [intOf]
      · obtain ⟨j,rfl⟩:∃ j,e3=j+1:=⟨e3 - 1,by omega⟩
        have hne:(((j+1:Nat):Int) != 0)=true:=by simp only [bne_iff_ne,ne_eq]; omega
        obtain rfl:q=({},j+1):=HL.out
        go_wp2_with (first
         | (refine wpList_load_row rfl 156 _ rfl a rfl 156 (ptV m sc ex wh fr pt ba) (0,0) _ hbn Tryz.underlying156 rfl (qAM ..) ?_)
         | (go_at_call 183; refine (E3.out _ HZ.out.mw).mono ?_; rintro e w2 ⟨rfl,hbx⟩; have HZ:=hid (HZ.out.below hbx); have hbr:=HZ.out.br; clear hbx)
         | (refine wpList_store_row rfl 24 _ _ rfl r patZ rfl rfl 24 patZ hbr (qA0 _ _ _ _ _ {} _ _ _) rfl (qA5 {}) ?_))
        exact bodyPost_ret (v:=.tuple #[.agg patZ,.int .i64 ((j+1:Nat):Int)]) (qA4 Tryz.results88 _ _ r 24 _ (0,0) _ rfl (setRow_heap _ _ _ _ _ _ hbr) Tryz.underlying24 rfl (qA0 _ _ _ _ _ {} _ _ _)) rfl ⟨rfl,HZ.out.b.setRow (Nat.le_of_eq Hg.out) _⟩
    · have hs:wr.cell? ⟨a+1,3,none⟩=some (.func (.func 184) #[] #[]):=HZ.out.bs.v 3 rfl
      have HL:=hid (show q=resE n (e4 :: [e1,e2,e3,e4,e5,e6,e7,e8,e9].drop 4) from HQ.out)
      by_cases h0:e4=0
      · subst h0
        go_wp2_with (first
         | (refine wpList_load_row rfl 156 _ rfl a rfl 156 (ptV m sc ex wh fr pt ba) (0,0) _ hbn Tryz.underlying156 rfl (qAM ..) ?_)
         | (go_at_call 184; refine (E4.out _ HZ.out.mw).mono ?_; rintro e w2 ⟨rfl,hbx⟩; have HZ:=hid (HZ.out.below hbx); clear hbx))
        go_roundw
        case rel=>
         exact ⟨4,by omega,by go_num,HZ.out,HL.out⟩
        case measure=>simp [intOf]
      · obtain ⟨j,rfl⟩:∃ j,e4=j+1:=⟨e4 - 1,by omega⟩
        have hne:(((j+1:Nat):Int) != 0)=true:=by simp only [bne_iff_ne,ne_eq]; omega
        obtain rfl:q=({},j+1):=HL.out
        go_wp2_with (first
         | (refine wpList_load_row rfl 156 _ rfl a rfl 156 (ptV m sc ex wh fr pt ba) (0,0) _ hbn Tryz.underlying156 rfl (qAM ..) ?_)
         | (go_at_call 184; refine (E4.out _ HZ.out.mw).mono ?_; rintro e w2 ⟨rfl,hbx⟩; have HZ:=hid (HZ.out.below hbx); have hbr:=HZ.out.br; clear hbx)
         | (refine wpList_store_row rfl 24 _ _ rfl r patZ rfl rfl 24 patZ hbr (qA0 _ _ _ _ _ {} _ _ _) rfl (qA5 {}) ?_))
        exact bodyPost_ret (v:=.tuple #[.agg patZ,.int .i64 ((j+1:Nat):Int)]) (qA4 Tryz.results88 _ _ r 24 _ (0,0) _ rfl (setRow_heap _ _ _ _ _ _ hbr) Tryz.underlying24 rfl (qA0 _ _ _ _ _ {} _ _ _)) rfl ⟨rfl,HZ.out.b.setRow (Nat.le_of_eq Hg.out) _⟩
    · have hs:wr.cell? ⟨a+1,4,none⟩=some (.func (.func 185) #[] #[]):=HZ.out.bs.v 4 rfl
      have HL:=hid (show q=resE n (e5 :: [e1,e2,e3,e4,e5,e6,e7,e8,e9].drop 5) from HQ.out)
      by_cases h0:e5=0
      · subst h0
        go_wp2_with (first
         | (refine wpList_load_row rfl 156 _ rfl a rfl 156 (ptV m sc ex wh fr pt ba) (0,0) _ hbn Tryz.underlying156 rfl (qAM ..) ?_)
         | (go_at_call 185; refine (E5.out _ HZ.out.mw).mono ?_; rintro e w2 ⟨rfl,hbx⟩; have HZ:=hid (HZ.out.below hbx); clear hbx))
        go_roundw
        case rel=>
         exact ⟨5,by omega,by go_num,HZ.out,HL.out⟩
        case measure=>simp [intOf]
      · obtain ⟨j,rfl⟩:∃ j,e5=j+1:=⟨e5 - 1,by omega⟩
        have hne:(((j+1:Nat):Int) != 0)=true:=by simp only [bne_iff_ne,ne_eq]; omega
        obtain rfl:q=({},j+1):=HL.out
        go_wp2_with (first
         | (refine wpList_load_row rfl 156 _ rfl a rfl 156 (ptV m sc ex wh fr pt ba) (0,0) _ hbn Tryz.underlying156 rfl (qAM ..) ?_)
         | (go_at_call 185; refine (E5.out _ HZ.out.mw).mono ?_; rintro e w2 ⟨rfl,hbx⟩; have HZ:=hid (HZ.out.below hbx); have hbr:=HZ.out.br; clear hbx)
         | (refine wpList_store_row rfl 24 _ _ rfl r patZ rfl rfl 24 patZ hbr (qA0 _ _ _ _ _ {} _ _ _) rfl (qA5 {}) ?_))
        exact bodyPost_ret (v:=.tuple #[.agg patZ,.int .i64 ((j+1:Nat):Int)]) (qA4 Tryz.results88 _ _ r 24 _ (0,0) _ rfl (setRow_heap _ _ _ _ _ _ hbr) Tryz.underlying24 rfl (qA0 _ _ _ _ _ {} _ _ _)) rfl ⟨rfl,HZ.out.b.setRow (Nat.le_of_eq Hg.out) _⟩
    · have hs:wr.cell? ⟨a+1,5,none⟩=some (.func (.func 186) #[] #[]):=HZ.out.bs.v 5 rfl
      have HL:=hid (show q=resE n (e6 :: [e1,e2,e3,e4,e5,e6,e7,e8,e9].drop 6) from HQ.out)
      by_cases h0:e6=0
      · subst h0
        go_wp2_with (first
         | (refine wpList_load_row rfl 156 _ rfl a rfl 156 (ptV m sc ex wh fr pt ba) (0,0) _ hbn Tryz.underlying156 rfl (qAM ..) ?_)
         | (go_at_call 186; refine (E6.out _ HZ.out.mw).mono ?_; rintro e w2 ⟨rfl,hbx⟩; have HZ:=hid (HZ.out.below hbx); clear hbx))
        go_roundw
        case rel=>
         exact ⟨6,by omega,by go_num,HZ.out,HL.out⟩
        case measure=>simp [intOf]
      · obtain ⟨j,rfl⟩:∃ j,e6=j+1:=⟨e6 - 1,by omega⟩
        have hne:(((j+1:Nat):Int) != 0)=true:=by simp only [bne_iff_ne,ne_eq]; omega
        obtain rfl:q=({},j+1):=HL.out
        go_wp2_with (first
         | (refine wpList_load_row rfl 156 _ rfl a rfl 156 (ptV m sc ex wh fr pt ba) (0,0) _ hbn Tryz.underlying156 rfl (qAM ..) ?_)
         | (go_at_call 186; refine (E6.out _ HZ.out.mw).mono ?_; rintro e w2 ⟨rfl,hbx⟩; have HZ:=hid (HZ.out.below hbx); have hbr:=HZ.out.br; clear hbx)
         | (refine wpList_store_row rfl 24 _ _ rfl r patZ rfl rfl 24 patZ hbr (qA0 _ _ _ _ _ {} _ _ _) rfl (qA5 {}) ?_))
        exact bodyPost_ret (v:=.tuple #[.agg patZ,.int .i64 ((j+1:Nat):Int)]) (qA4 Tryz.results88 _ _ r 24 _ (0,0) _ rfl (setRow_heap _ _ _ _ _ _ hbr) Tryz.underlying24 rfl (qA0 _ _ _ _ _ {} _ _ _)) rfl ⟨rfl,HZ.out.b.setRow (Nat.le_of_eq Hg.out) _⟩
    · have hs:wr.cell? ⟨a+1,6,none⟩=some (.func (.func 187) #[] #[]):=HZ.out.bs.v 6 rfl
      have HL:=hid (show q=resE n (e7 :: [e1,e2,e3,e4,e5,e6,e7,e8,e9].drop 7) from HQ.out)
      by_cases h0:e7=0
      · subst h0
        go_wp2_with (first
         | (refine wpList_load_row rfl 156 _ rfl a rfl 156 (ptV m sc ex wh fr pt ba) (0,0) _ hbn Tryz.underlying156 rfl (qAM ..) ?_)
         | (go_at_call 187; refine (E7.out _ HZ.out.mw).mono ?_; rintro e w2 ⟨rfl,hbx⟩; have HZ:=hid (HZ.out.below hbx); clear hbx))
        go_roundw
        case rel=>
         exact ⟨7,by omega,by go_num,HZ.out,HL.out⟩
        case measure=>simp [intOf]
      · obtain ⟨j,rfl⟩:∃ j,e7=j+1:=⟨e7 - 1,by omega⟩
        have hne:(((j+1:Nat):Int) != 0)=true:=by simp only [bne_iff_ne,ne_eq]; omega
        obtain rfl:q=({},j+1):=HL.out
        go_wp2_with (first
         | (refine wpList_load_row rfl 156 _ rfl a rfl 156 (ptV m sc ex wh fr pt ba) (0,0) _ hbn Tryz.underlying156 rfl (qAM ..) ?_)
         | (go_at_call 187; refine (E7.out _ HZ.out.mw).mono ?_; rintro e w2 ⟨rfl,hbx⟩; have HZ:=hid (HZ.out.below hbx); have hbr:=HZ.out.br; clear hbx)
         | (refine wpList_store_row rfl 24 _ _ rfl r patZ rfl rfl 24 patZ hbr (qA0 _ _ _ _ _ {} _ _ _) rfl (qA5 {}) ?_))
        exact bodyPost_ret (v:=.tuple #[.agg patZ,.int .i64 ((j+1:Nat):Int)]) (qA4 Tryz.results88 _ _ r 24 _ (0,0) _ rfl (setRow_heap _ _ _ _ _ _ hbr) Tryz.underlying24 rfl (qA0 _ _ _ _ _ {} _ _ _)) rfl ⟨rfl,HZ.out.b.setRow (Nat.le_of_eq Hg.out) _⟩
    · have hs:wr.cell? ⟨a+1,7,none⟩=some (.func (.func 188) #[] #[]):=HZ.out.bs.v 7 rfl
      have HL:=hid (show q=resE n (e8 :: [e1,e2,e3,e4,e5,e6,e7,e8,e9].drop 8) from HQ.out)
      by_cases h0:e8=0
      · subst h0
        go_wp2_with (first
         | (refine wpList_load_row rfl 156 _ rfl a rfl 156 (ptV m sc ex wh fr pt ba) (0,0) _ hbn Tryz.underlying156 rfl (qAM ..) ?_)
         | (go_at_call 188; refine (E8.out _ HZ.out.mw).mono ?_; rintro e w2 ⟨rfl,hbx⟩; have HZ:=hid (HZ.out.below hbx); clear hbx))
        go_roundw
        case rel=>
         exact ⟨8,by omega,by go_num,HZ.out,HL.out⟩
        case measure=>simp [intOf]
      · obtain ⟨j,rfl⟩:∃ j,e8=j+1:=⟨e8 - 1,by omega⟩
        have hne:(((j+1:Nat):Int) != 0)=true:=by simp only [bne_iff_ne,ne_eq]; omega
        obtain rfl:q=({},j+1):=HL.out
        go_wp2_with (first
         | (refine wpList_load_row rfl 156 _ rfl a rfl 156 (ptV m sc ex wh fr pt ba) (0,0) _ hbn Tryz.underlying156 rfl (qAM ..) ?_)
         | (go_at_call 188; refine (E8.out _ HZ.out.mw).mono ?_; rintro e w2 ⟨rfl,hbx⟩; have HZ:=hid (HZ.out.below hbx); have hbr:=HZ.out.br; clear hbx)
         | (refine wpList_store_row rfl 24 _ _ rfl r patZ rfl rfl 24 patZ hbr (qA0 _ _ _ _ _ {} _ _ _) rfl (qA5 {}) ?_))
        exact bodyPost_ret (v:=.tuple #[.agg patZ,.int .i64 ((j+1:Nat):Int)]) (qA4 Tryz.results88 _ _ r 24 _ (0,0) _ rfl (setRow_heap _ _ _ _ _ _ hbr) Tryz.underlying24 rfl (qA0 _ _ _ _ _ {} _ _ _)) rfl ⟨rfl,HZ.out.b.setRow (Nat.le_of_eq Hg.out) _⟩
    · have hs:wr.cell? ⟨a+1,8,none⟩=some (.func (.func 189) #[] #[]):=HZ.out.bs.v 8 rfl
      have HL:=hid (show q=resE n (e9 :: [e1,e2,e3,e4,e5,e6,e7,e8,e9].drop 9) from HQ.out)
      by_cases h0:e9=0
      · subst h0
        go_wp2_with (first
         | (refine wpList_load_row rfl 156 _ rfl a rfl 156 (ptV m sc ex wh fr pt ba) (0,0) _ hbn Tryz.underlying156 rfl (qAM ..) ?_)
         | (go_at_call 189; refine (E9.out _ HZ.out.mw).mono ?_; rintro e w2 ⟨rfl,hbx⟩; have HZ:=hid (HZ.out.below hbx); clear hbx))
        go_roundw
        case rel=>
         exact ⟨9,by omega,by go_num,HZ.out,HL.out⟩
        case measure=>simp [intOf]
      · obtain ⟨j,rfl⟩:∃ j,e9=j+1:=⟨e9 - 1,by omega⟩
        have hne:(((j+1:Nat):Int) != 0)=true:=by simp only [bne_iff_ne,ne_eq]; omega
        obtain rfl:q=({},j+1):=HL.out
        go_wp2_with (first
         | (refine wpList_load_row rfl 156 _ rfl a rfl 156 (ptV m sc ex wh fr pt ba) (0,0) _ hbn Tryz.underlying156 rfl (qAM ..) ?_)
         | (go_at_call 189; refine (E9.out _ HZ.out.mw).mono ?_; rintro e w2 ⟨rfl,hbx⟩; have HZ:=hid (HZ.out.below hbx); have hbr:=HZ.out.br; clear hbx)
         | (refine wpList_store_row rfl 24 _ _ rfl r patZ rfl rfl 24 patZ hbr (qA0 _ _ _ _ _ {} _ _ _) rfl (qA5 {}) ?_))
        exact bodyPost_ret (v:=.tuple #[.agg patZ,.int .i64 ((j+1:Nat):Int)]) (qA4 Tryz.results88 _ _ r 24 _ (0,0) _ rfl (setRow_heap _ _ _ _ _ _ hbr) Tryz.underlying24 rfl (qA0 _ _ _ _ _ {} _ _ _)) rfl ⟨rfl,HZ.out.b.setRow (Nat.le_of_eq Hg.out) _⟩
  · have hke:k=9:=by omega
    subst hke;obtain rfl:q=(patP n,0):=HQ.out;have hbr:=HZ.out.br
    go_wp2_with (first
     | (refine wpList_load_row rfl 156 _ rfl a rfl 156 (ptV m sc ex wh fr pt ba) (0,0) _ hbn Tryz.underlying156 rfl (qAM ..) ?_)
     | (go_at_call 131; refine (EP.out _ HZ.out.mw).mono ?_; rintro e w2 ⟨rfl,hbx⟩; have HZ:=hid (HZ.out.below hbx); have hbr:=HZ.out.br; clear hbx)
     | (refine wpList_store_row rfl 24 _ _ rfl r (patN (patP n)) rfl rfl 24 patZ hbr (qA0 ..) rfl (qA5 _) ?_))
    exact bodyPost_ret (v:=.tuple #[.agg (patN (patP n)),.int .i64 0]) (qA4 Tryz.results88 _ _ r 24 _ (0,0) _ rfl (setRow_heap _ _ _ _ _ _ hbr) Tryz.underlying24 rfl (qA0 ..)) rfl ⟨rfl,HZ.out.b.setRow (Nat.le_of_eq Hg.out) _⟩
theorem parse_c (s:ByteArray) (w:World) (hM:Mw w) (hs:s.size≤2000000000):Calls Tryz.prog 88 #[.string s] w fun e w'=>
 e=.returned (.tuple #[.agg (patN (numZ (bts s)).1),.int .i64 (((numZ (bts s)).2:Nat):Int)])∧Below w.heap.size w w':=by
 have hlt:=qAO s
 have hl:=qA1 s
 have h1:=qIH 69 (bts s)
 have h2:=dn_len 69 (bts s)
 have h3:=qIH 46 (upA 69 (bts s))
 have h4:=dn_len 46 (upA 69 (bts s))
 have h5:=List.length_filter_le (fun c=>c != 44) (upA 46 (upA 69 (bts s)))
 have e:=prt_eta (cutP (bts s)) (by
  intro b hb
  rcases hb with hb | hb | hb | hb | hb
  · exact qIG hlt b hb
  · exact dn_lt hlt b hb
  · exact qIG (qIG hlt) b hb
  · exact dn_lt (qIG hlt) b hb
  · exact pln_lt (qIG (qIG hlt)) b hb)
 have:=parse_p s (stz (cutP (bts s)).main) (cutP (bts s)).sci (stz (cutP (bts s)).exp) (stz (cutP (bts s)).whole) (stz (cutP (bts s)).frac) (cutP (bts s)).pointed (stz (cutP (bts s)).bare) w hM
  (by rw [qA9]; show (dnA 69 (bts s)).length < _; omega) (by rw [qA9]; show (upA 46 (upA 69 (bts s))).length < _; omega)
  (by rw [qA9,qA9]; show (pln (upA 46 (upA 69 (bts s)))).length+(dnA 46 (upA 69 (bts s))).length < _; unfold pln; omega) (fun W h=>cut15_c s W h (by omega))
 rw [e] at this
 have hr:resE (cutP (bts s)) (stp (cutP (bts s)))=numZ (bts s):=prg_num (bts s)
 rwa [hr] at this
end Go.Proofs.YtnoeonaajefajaaGreatDoor
