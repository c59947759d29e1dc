/-
  Of the proof of logsUpto_card.
-/
import Derived.Test.YthbdpfccfcceiaaGreatDoorDBDx
namespace Go.Proofs.YthbdpfccfcceiaaGreatDoor
open Go.RowKit Go.Maps Go.Lib
structure zwd (w:World)(base:Nat)(fs:List (List UInt8))(X O:Nat)(va:Value)(al ol:List Value):Prop where
 blk:w.heap[X]?=some (.cells #[va,.slice (some ⟨O,0,none⟩) (fs.length+2) (fs.length+2)] 246 (0,0))
 rowA:w.ownsRow base 48 1 va fs.length al
 at_:∀(j:Nat) u f,al[j]?=some u→fs[j]?=some f→∃g,u = .slice (some ⟨g,0,none⟩) (f.length+8) (f.length+8)∧base≤g∧w.heap[g]?=some (.cells (z4e f) 5 (0,0))
 rowO:w.heap[O]?=some (.cells ol.toArray 48 (0,0))
 lenO:ol.length=fs.length+2
 outs:∀(j:Nat) f,fs[j]?=some f→(ol[j]?=some (.slice none 0 0)∧f=[])∨∃g,al[j]?=some (.slice (some ⟨g,0,none⟩) (f.length+8) (f.length+8))∧ol[j]?=some (.slice (some ⟨g,0,none⟩) f.length (f.length+8))
 ends:∀j,j=fs.length∨j=fs.length+1→∃g,base≤g∧ol[j]?=some (.slice (some ⟨g,0,none⟩) 1 1)∧w.heap[g]?=some (.cells #[b8 77] 5 (0,0))
 low:base≤X∧base≤O∧X≠O
 vaO:va.ownBlock≠some O
theorem zu1:(Tryz.prog.info? 48).map (λi=>(i.zero,i.size,i.bytes))=some (some (.slice none 0 0),1,24):=by kernel_rfl
theorem zqz (n:Nat):(madeCells #[Value.slice none 0 0] n).toList=List.replicate n (.slice none 0 0):=by
 apply List.ext_getElem?
 intro i
 by_cases h:i<n
 ·simp[madeCells,h,Nat.mod_one]
 ·simp[madeCells,h]
theorem zln (A D:List Value)(j:Nat)(h:j<D.length)(x:Value):(A++(List.replicate j x++D.drop j)).set (A.length+j) x=A++(List.replicate (j+1) x++D.drop (j+1)):=by
 rw[List.set_append_right _ _ (by omega),Nat.add_sub_cancel_left,z1k D j h x]
def zxi:Obj:=.cells #[b8 77] 5
theorem z2i.done {w:World}{base:Nat}{fs:List (List UInt8)}{X O:Nat}{va:Value}{al ol:List Value}(h:z2i w base fs X O fs.length va al ol)(hb:base≤w.heap.size) :
  zwd (((((w.setCell ⟨O,fs.length,none⟩ (.slice (some ⟨w.heap.size,0,none⟩) 1 1)).setCell ⟨O,fs.length+1,none⟩ (.slice (some ⟨w.heap.size+1,0,none⟩) 1 1)).setCell ⟨X,1,none⟩ (.slice (some ⟨O,0,none⟩) (fs.length+2) (fs.length+2))).alloc zxi).alloc zxi) base fs X O va al ((ol.set fs.length (.slice (some ⟨w.heap.size,0,none⟩) 1 1)).set (fs.length+1) (.slice (some ⟨w.heap.size+1,0,none⟩) 1 1))∧
  Kp (λb=>b=O∨b=X) w (((((w.setCell ⟨O,fs.length,none⟩ (.slice (some ⟨w.heap.size,0,none⟩) 1 1)).setCell ⟨O,fs.length+1,none⟩ (.slice (some ⟨w.heap.size+1,0,none⟩) 1 1)).setCell ⟨X,1,none⟩ (.slice (some ⟨O,0,none⟩) (fs.length+2) (fs.length+2))).alloc zxi).alloc zxi):=by
 have lX:=zh h.blk
 have lO:=zh h.rowO
 have nXO:=h.low.2.2
 have nXa:va.ownBlock≠some X:=zjd h.blk h.rowA (by decide)
 have k2:=Kp.setCell (S:=λb=>b=O) w ⟨O,fs.length,none⟩ (.slice (some ⟨w.heap.size,0,none⟩) 1 1) rfl
 have r2:=zq (i:=fs.length) h.rowO (.slice (some ⟨w.heap.size,0,none⟩) 1 1)
 have s2:(w.setCell ⟨O,fs.length,none⟩ (.slice (some ⟨w.heap.size,0,none⟩) 1 1)).heap.size=w.heap.size:=by simp[World.setCell]
 generalize w.setCell ⟨O,fs.length,none⟩ (.slice (some ⟨w.heap.size,0,none⟩) 1 1)=w2 at k2 r2 s2 ⊢
 have k4:=Kp.setCell (S:=λb=>b=O) w2 ⟨O,fs.length+1,none⟩ (.slice (some ⟨w.heap.size+1,0,none⟩) 1 1) rfl
 have r4:=zq (i:=fs.length+1) r2 (.slice (some ⟨w.heap.size+1,0,none⟩) 1 1)
 have s4:(w2.setCell ⟨O,fs.length+1,none⟩ (.slice (some ⟨w.heap.size+1,0,none⟩) 1 1)).heap.size=w.heap.size:=by simp[World.setCell,s2]
 generalize w2.setCell ⟨O,fs.length+1,none⟩ (.slice (some ⟨w.heap.size+1,0,none⟩) 1 1)=w4 at k4 r4 s4 ⊢
 have k04:Kp (λb=>b=O) w w4:=k2.trans k4 (λ_ _ e=>e)
 have k5:=Kp.setCell (S:=λb=>b=X) w4 ⟨X,1,none⟩ (.slice (some ⟨O,0,none⟩) (fs.length+2) (fs.length+2)) rfl
 have r5:=zq (i:=1) ((k04.block X lX nXO).trans h.blk) (.slice (some ⟨O,0,none⟩) (fs.length+2) (fs.length+2))
 have s5:(w4.setCell ⟨X,1,none⟩ (.slice (some ⟨O,0,none⟩) (fs.length+2) (fs.length+2))).heap.size=w.heap.size:=by simp[World.setCell,s4]
 generalize w4.setCell ⟨X,1,none⟩ (.slice (some ⟨O,0,none⟩) (fs.length+2) (fs.length+2))=w5 at k5 r5 s5 ⊢
 have k6:=Kp.alloc (λ_=>False) w5 zxi
 have o6:=heap_alloc_new w5 zxi
 have s6:(w5.alloc zxi).heap.size=w.heap.size+1:=by simp[s5]
 rw[s5]at o6
 generalize w5.alloc zxi=w6 at k6 o6 s6 ⊢
 have k7:=Kp.alloc (λ_=>False) w6 zxi
 have o7:=heap_alloc_new w6 zxi
 rw[s6]at o7
 generalize w6.alloc zxi=w7 at k7 o7 ⊢
 have k57:Kp (λ_=>False) w5 w7:=k6.trans k7 (λ_ _ e=>e)
 have k05:Kp (λb=>b=O∨b=X) w w5:=(k04.mono (λ_ _ e=>Or.inl e)).trans k5 (λ_ _ e=>Or.inr e)
 have k07:Kp (λb=>b=O∨b=X) w w7:=k05.trans k57 (λ_ _ e=>e.elim)
 have low1:∀j,j<fs.length→((ol.set fs.length (.slice (some ⟨w.heap.size,0,none⟩) 1 1)).set (fs.length+1) (.slice (some ⟨w.heap.size+1,0,none⟩) 1 1))[j]?=ol[j]?:=λj hj=>by rw[List.getElem?_set_ne (by omega),List.getElem?_set_ne (by omega)]
 refine⟨⟨(k57.block X (by omega) id).trans r5,zi h.rowA k07 (λb e e2=>?_),λj u f hu hf=>?_,?_,by simp[h.lenO],λj f hf=>?_,λj hj=>?_,h.low,h.vaO⟩,k07⟩
 ·rcases e2 with e2|e2
  ·exact h.vaO (by rw[← e2];exact e)
  ·exact nXa (by rw[← e2];exact e)
 ·obtain⟨g,a1,a2,a3⟩:=h.at_ j u f hu hf
  refine⟨g,a1,a2,(k07.block g (zh a3) (λe=>?_)).trans a3⟩
  rcases e with e|e
  ·rw[e,h.rowO]at a3;injection a3 with a3;injection a3 with _ a3;cases a3
  ·rw[e,h.blk]at a3;injection a3 with a3;injection a3 with _ a3;cases a3
 ·rw[k57.block O (by omega) id,k5.block O (by omega) (λe=>nXO e.symm),r4]
  simp
 ·have hj:j<fs.length:=(List.getElem?_eq_some_iff.1 hf).1
  rw[low1 j hj]
  exact h.outs j f hj hf
 ·have hol:=h.lenO
  rcases hj with rfl|rfl
  ·exact⟨w.heap.size,hb,by rw[List.getElem?_set_ne (by omega),List.getElem?_set_self (by omega)],(k7.block _ (by omega) id).trans o6⟩
  ·exact⟨w.heap.size+1,by omega,by rw[List.getElem?_set_self (by rw[List.length_set];omega)],o7⟩
theorem zwd.kp {S:Nat→Prop}{w w':World}{base:Nat}{fs:List (List UInt8)}{X O:Nat}{va:Value}{al ol:List Value}(h:zwd w base fs X O va al ol)(k:Kp S w w')(hs:∀b,base≤b→b<w.heap.size→¬S b):zwd w' base fs X O va al ol:=
 ⟨(k.block X (zh h.blk) (hs X h.low.1 (zh h.blk))).trans h.blk,zi h.rowA k (λb e=>hs b (h.rowA.lt b e).1 (h.rowA.lt b e).2),λj u f hu hf=>by
  obtain⟨g,h1,h2,h3⟩:=h.at_ j u f hu hf
  exact⟨g,h1,h2,(k.block g (zh h3) (hs g h2 (zh h3))).trans h3⟩,(k.block O (zh h.rowO) (hs O h.low.2.1 (zh h.rowO))).trans h.rowO,h.lenO,h.outs,λj hj=>by
  obtain⟨g,h1,h2,h3⟩:=h.ends j hj
  exact⟨g,h1,h2,(k.block g (zh h3) (hs g h1 (zh h3))).trans h3⟩,h.low,h.vaO⟩
theorem zwd.fin {w:World}{base:Nat}{fs:List (List UInt8)}{X O:Nat}{va:Value}{al ol:List Value}(h:zwd w base fs X O va al ol)(hl:fs.length≤1100000)(hs:∀f∈fs,f.length≤1100000) :
  FIn w (.slice (some ⟨O,0,none⟩) fs.length (fs.length+2)) fs (λb=>base≤b∧b<w.heap.size):=by
 have lO:=zh h.rowO
 have hall:al.length=fs.length:=by simpa using h.rowA.1
 refine⟨_,_,rfl,hl,λ_=>⟨O,0,rfl,lO,⟨h.low.2.1,lO⟩,λi f hf=>?_⟩⟩
 rw[Nat.zero_add,zg h.rowO,List.getElem?_toArray]
 rcases h.outs i f hf with ⟨h1,rfl⟩|⟨g,h1,h2⟩
 ·exact⟨none,0,0,O,h1,⟨_,_,rfl,Nat.le_refl _,λe=>absurd rfl e⟩,⟨h.low.2.1,lO⟩,by simp⟩
 ·obtain⟨g2,e2,h3,h4⟩:=h.at_ i _ f h1 hf
  injection e2 with e2 _ _
  injection e2 with e2
  injection e2 with e2 _ _
  subst e2
  have lg:=zh h4
  refine⟨_,_,_,g,h2,⟨_,_,rfl,by omega,λ_=>⟨lg,0,rfl,λj hj=>?_⟩⟩,⟨h3,lg⟩,hs f (List.mem_of_getElem? hf)⟩
  rw[Nat.zero_add,zg h4,z4e,List.getElem?_toArray,List.getElem?_append_left (by simpa using hj),List.getElem?_map,List.getElem?_eq_getElem hj,List.getD_eq_getElem?_getD,List.getElem?_eq_getElem hj]
  rfl
section
variable {R:Ending→World→Prop}{w:World}
set_option maxRecDepth 20000 in
set_option maxHeartbeats 4000000 in
theorem zbr (v:Value)(fs:List (List UInt8))(hv:FIn w v fs (λb=>b<w.heap.size))
  (hR:∀w' X O va al ol v2,zwd w' w.heap.size fs X O va al ol→Kp (λ_=>False) w w'→FIn w' v2 fs (λb=>w.heap.size≤b∧b<w'.heap.size)→R (.returned (.tuple #[.pointer (some ⟨X,0,none⟩),v2])) w') :
  Calls Tryz.prog 92 #[v] w R:=by
 have HV:=ze hv
 have HR:=ze hR
 obtain⟨a0,cap0,rfl,hn0,_⟩:=hv
 have HN0:=ze hn0
 have hn0':(fs.length:Int)≤1100000:=by omega
 obtain⟨iB,hB⟩:=info_parts zu1
 have HIB:=ze hB
 obtain⟨iU,hU⟩:=info_parts zom
 have HIU:=ze hU
 clear hR hn0 hB hU
 have HM0:Hid (z2i ((w.alloc (.cells #[.slice none 0 0,.slice none 0 0] 246)).alloc (.cells (madeCells #[.slice none 0 0] (fs.length+2)) 48)) w.heap.size fs w.heap.size (w.heap.size+1) 0 (.slice none 0 0) [] (List.replicate (fs.length+2) (.slice none 0 0))):=by
  refine⟨?_,World.ownsRow_nil _ _ _ _,λj u f hu=>by simp at hu,?_,by simp,λj f hj=>by omega,λj _ h2=>?_,⟨Nat.le_refl _,by omega,by omega⟩,λe=>by cases e⟩
  ·rw[Below.heap_alloc _ _ _ (by simp)]
   exact heap_alloc_new w _
  ·have h:=heap_alloc_new (w.alloc (.cells #[.slice none 0 0,.slice none 0 0] 246)) (.cells (madeCells #[.slice none 0 0] (fs.length+2)) 48)
   rw[show (w.alloc (.cells #[.slice none 0 0,.slice none 0 0] 246)).heap.size=w.heap.size+1 by simp]at h
   rw[h,← zqz]
  ·rw[List.getElem?_replicate,if_pos h2]
 have HK0:Hid (Kp (λ_=>False) w ((w.alloc (.cells #[.slice none 0 0,.slice none 0 0] 246)).alloc (.cells (madeCells #[.slice none 0 0] (fs.length+2)) 48))):=(Kp.alloc (λ_=>False) w _).trans (Kp.alloc (λ_=>False) _ _) (λ_ _ e=>e)
 go_enter Tryz.func92,Tryz.ntmps92
 go_wp2_with (first
  |(refine wpList_make_row _ rfl _ _ 37 rfl 48 iB (.slice none 0 0) Tryz.underlying37 HIB.out.1 HIB.out.2.1 HIB.out.2.2.1 rfl .i64 .i64 (fs.length+2) ?_ ?_ (by rw[HIB.out.2.2.2];have:=HN0.out;omega) (by have:=HN0.out;omega) ?_;(simp[Act.eval]);(simp[Act.eval]))
  |fail)
 go_loopw [6,7,8] (λv6 _ _ wr=>∃(i:Nat) (va:Value) (al ol:List Value),i≤fs.length∧v6 = .int .i64 i∧z2i wr w.heap.size fs w.heap.size (w.heap.size+1) i va al ol∧Kp (λ_=>False) w wr) (λv6 _ _ _=>fs.length-(intOf v6).toNat)
 case atStart=>exact⟨0,_,_,_,Nat.zero_le _,rfl,HM0.out,HK0.out⟩
 case round=>
  clear HM0 HK0
  obtain⟨i,va,al,ol,hi,rfl,hm,hk⟩:=hrel
  have HM:=ze hm
  have HK:=ze hk
  have HVR:=ze (HV.out.kp hk (λ_ _ e=>e))
  obtain⟨aa,ca,hva⟩:=zp hm.rowA
  by_cases hlt:i<fs.length
  ·have hlt':(i:Int)<fs.length:=by omega
   obtain⟨f,hfi⟩:∃f,fs[i]?=some f:=⟨fs[i],List.getElem?_eq_getElem hlt⟩
   obtain⟨a1,cap1,e1,_,hcells⟩:=HVR.out
   injection e1 with e1 _ e2
   subst e1;subst e2
   obtain⟨ga,oa,rfl,hgal,hgaw,hcells⟩:=hcells (λe=>by rw[e]at hlt;simp at hlt)
   obtain⟨bf,nf,cf,gf,hcell,hrd,hgf,hfl⟩:=hcells i f hfi
   obtain⟨qf,kf,ef,hkf,hrd2⟩:=id hrd
   injection ef with ef1 ef2 ef3
   subst ef1;subst ef2;subst ef3
   have HFI:=ze hfi
   have HRD:=ze hrd
   have HFL:=ze hfl
   have HLT:=ze hlt
   have HGA:Hid (ga<w.heap.size):=hgaw
   have HGF:Hid (gf<w.heap.size):=hgf
   have HSW:Hid (w.heap.size≤wr.heap.size):=hk.size
   have hfl':(f.length:Int)≤1100000:=by omega
   have HCELL:=ze hcell
   clear hcells hrd hfl hfi hlt hgf hgal hgaw hm hk hrd2 hkf
   generalize wr=wa at *
   have ngw:ga≠wa.heap.size:=by have:=HGA.out;have:=HSW.out;omega
   have HMAD:Hid ((madeCells #[Value.int .u8 0] (f.length+8)).toList.length=f.length+8):=zpz _
   generalize hmc:madeCells #[Value.int .u8 0] (f.length+8)=MC at HMAD
   have HMC:=ze hmc
   clear hmc
   have c1:=λo=>((Kp.alloc (λ_=>False) wa o).cell (a:=⟨ga,oa+i,none⟩) (World.block_lt_of_cell? _ _ HCELL.out) (λe=>e)).trans HCELL.out
   have HRA:=ze (λo=>zcj (HRD.out.kp (Kp.alloc (λ_=>False) wa o) (λe=>e)))
   cases bf with
   |none=>
    have HNIL:Hid (f=[]):=by
     show _=_
     obtain⟨q,k,e,_,h⟩:=HRD.out
     injection e with e _ _
     exact Classical.byContradiction (λhne=>by
      obtain⟨_,o,e2,_⟩:=h hne
      rw[← e]at e2
      cases e2)
    go_wp2_with (first
     |(refine wpList_make_row _ rfl _ _ 48 rfl 5 iU (.int .u8 0) Tryz.underlying48 HIU.out.1 HIU.out.2.1 HIU.out.2.2.1 rfl .i64 .i64 (f.length+8) ?_ ?_ (by rw[HIU.out.2.2.2];have:=HFL.out;omega) (by have:=HFL.out;omega) ?_;(simp[Act.eval]);(simp[Act.eval]);rw[HMC.out])
     |(refine z9r rfl _ _ rfl wa.heap.size (f.length+8) (f.length+8) _ f rfl rfl (HRA.out _) (by omega) MC.toList (by rw[heap_alloc_new]) HMAD.out ?_;intro w2 hb2 hk2;have K2:=ze ((Kp.alloc (λb=>b=wa.heap.size) wa (.cells MC 5)).trans hk2 (λ_ _ e=>e));have B2:=ze hb2;have c2:=(K2.out.cell (a:=⟨ga,oa+i,none⟩) (World.block_lt_of_cell? _ _ HCELL.out) ngw).trans HCELL.out;clear hb2 hk2)
     |fail)
    go_loopw [8] (λv8 wr=>∃j:Nat,j≤8∧v8 = .int .i64 ((f.length+j:Nat):Int)∧Kp (λb=>b=wa.heap.size) wa wr∧wr.heap[wa.heap.size]?=some (.cells (f.map b8++(List.replicate j (b8 77)++(MC.toList.drop f.length).drop j)).toArray 5 (0,0))) (λv8 _=>f.length+8-(intOf v8).toNat)
    case atStart=>exact⟨0,by omega,by simp,K2.out,by simpa using B2.out⟩
    case round=>
     clear c2 K2 B2
     obtain⟨j,hj,rfl,hkj,hbj⟩:=hrel
     have HKJ:=ze hkj
     have HBJ:=ze hbj
     have hlm:=HMAD.out
     by_cases qj:j<8
     ·have qj':(j:Int)<8:=by omega
      have qj2:(f.length:Int)+j<(f.length:Int)+8:=by omega
      obtain⟨cv,hcv⟩:∃cv,(f.map b8++(List.replicate j (b8 77)++(MC.toList.drop f.length).drop j))[f.length+j]?=some cv:=⟨_,List.getElem?_eq_getElem (by simp at hlm ⊢;omega)⟩
      have m0:wr.cell? ⟨wa.heap.size,f.length+j,none⟩=some cv:=(zg hbj (f.length+j)).trans (by rw[List.getElem?_toArray];exact hcv)
      have mf0:wr.frozen? ⟨wa.heap.size,f.length+j,none⟩=false:=zx hbj _
      clear hkj hbj hlm hcv
      go_wp2_with fail
      go_roundw
      case rel=>
       refine⟨j+1,by omega,by go_num,HKJ.out.trans (Kp.setCell (S:=λb=>b=wa.heap.size) wr ⟨wa.heap.size,f.length+j,none⟩ _ rfl) (λ_ _ e=>e),?_⟩
       rw[zq HBJ.out]
       have hfs:=zln (f.map b8) (MC.toList.drop f.length) j (by have:=HMAD.out;rw[List.length_drop];omega) (b8 77)
       rw[List.length_map]at hfs
       rw[← hfs]
       simp
       rfl
      case measure=>simp[intOf];omega
     ·have qj2:¬(f.length:Int)+j<(f.length:Int)+8:=by omega
      obtain rfl:j=8:=by omega
      have HB8:Hid (wr.heap[wa.heap.size]?=some (.cells (z4e f) 5 (0,0))):=by
       show _=_
       rw[hbj]
       unfold z4e
       rw[List.drop_drop,List.drop_eq_nil_of_le (by omega),List.append_nil]
      have hXl:w.heap.size<wa.heap.size:=zh HM.out.blk
      have bX:=(hkj.block w.heap.size hXl (by omega)).trans HM.out.blk
      have x0:=zg bX 0
      have x0f:=zx bX 0
      simp at x0
      rw[hva]at x0
      have HROW:=ze (zi HM.out.rowA hkj (λb e (e2:b=wa.heap.size)=>by have:=(HM.out.rowA.lt b e).2;omega))
      have HCJ:=ze ((hkj.cell (a:=⟨ga,oa+i,none⟩) (World.block_lt_of_cell? _ _ HCELL.out) ngw).trans HCELL.out)
      have HOL:Hid (w.heap.size+1<wa.heap.size):=zh HM.out.rowO
      have HOJ:=ze ((hkj.block (w.heap.size+1) HOL.out (by have:=HOL.out;omega)).trans HM.out.rowO)
      have nwg:w.heap.size≠wa.heap.size:=by omega
      have ngX:ga≠w.heap.size:=by have:=HGA.out;omega
      have ngO:ga≠w.heap.size+1:=by have:=HGA.out;omega
      have HVA:=ze hva
      clear hkj hbj hlm c1 hcell
      go_wp2_with (first
       |(at_builtin;refine zz rfl _ _ 37 rfl w.heap.size 48 iB (.slice none 0 0) 1 24 Tryz.underlying37 HIB.out.1 HIB.out.2.1 HIB.out.2.2.1 HIB.out.2.2.2 rfl (by decide) _ _ _ rfl (by have h:=HROW.out;rw[HVA.out]at h;exact h.alloc _) ⟨wr.heap.size,0,none⟩ 1 1 [.slice (some ⟨wa.heap.size,0,none⟩) (f.length+8) (f.length+8)] rfl rfl (cell_one_new _ _ _) (by simp[Value.oneCell']) (by have:=HN0.out;have:=HLT.out;unfold maxLen;omega) (by have:=HN0.out;have:=HLT.out;omega) (by have h1:=HKJ.out.size;have h2:=HSW.out;simp;omega) (by decide) ?_;intro v6 w6 own6 grow6 loc6 keep6;have hk6:Kp (λb=>va.ownBlock=some b) wr w6:=(by rw[HVA.out];exact zhc (S:=λb=>(Value.slice aa i ca).ownBlock=some b) grow6 (λ_ h=>h));have HMO:=ze (HM.out.more (Nat.le_refl _) HSW.out HFI.out HKJ.out HB8.out hk6 own6 (by rw[HVA.out];exact loc6.imp id (λh=>⟨_,h,by simp⟩)));have KW6:=ze hk6;have hw0:w.heap.size<wr.heap.size:=Nat.lt_of_lt_of_le hXl HKJ.out.size;have b6:=(hk6.block w.heap.size hw0 (λe=>zjd HM.out.blk HM.out.rowA (by decide) e)).trans ((HKJ.out.block w.heap.size hXl nwg).trans HM.out.blk);have y0:=zg b6 0;have y0f:=zx b6 0;simp at y0;have g6:=(hk6.cell (a:=⟨ga,oa+i,none⟩) (World.block_lt_of_cell? _ _ HCJ.out) (λe=>absurd HGA.out (Nat.not_lt.2 (HM.out.rowA.lt ga e).1))).trans HCJ.out;have o6:=(hk6.block (w.heap.size+1) (zh HOJ.out) HM.out.vaO).trans HOJ.out;have hol:=HM.out.lenO;obtain⟨zc,hzc⟩:∃zc,ol[i]?=some zc:=⟨_,List.getElem?_eq_getElem (by have:=HLT.out;omega)⟩;have z6:w6.cell? ⟨w.heap.size+1,i,none⟩=some zc:=(zg o6 i).trans (by rw[List.getElem?_toArray];exact hzc);have z6f:=zx o6 i;obtain⟨a6,c6,rfl,_⟩:=zr own6;clear hk6 own6 grow6 loc6 keep6 b6 o6 hol hzc)
       |fail)
      go_roundw
      case rel=>
       refine⟨i+1,_,_,_,by have:=HLT.out;omega,by go_num,HMO.out.1 HNIL.out,?_⟩
       have kx:Kp (λ_=>False) w (w6.setCell ⟨w.heap.size,0,none⟩ (.slice a6 (i+1) c6)):=((HK.out.trans HKJ.out (λb hb e=>by have:=HSW.out;omega)).trans KW6.out (λb hb e=>by have:=(HM.out.rowA.lt b e).1;omega)).trans (Kp.setCell (S:=λb=>b=w.heap.size) w6 ⟨w.heap.size,0,none⟩ _ rfl) (λb hb e=>by omega)
       exact kx
      case measure=>have:=HLT.out;simp[intOf];omega
   |some abf=>
    go_wp2_with (first
     |(refine wpList_make_row _ rfl _ _ 48 rfl 5 iU (.int .u8 0) Tryz.underlying48 HIU.out.1 HIU.out.2.1 HIU.out.2.2.1 rfl .i64 .i64 (f.length+8) ?_ ?_ (by rw[HIU.out.2.2.2];have:=HFL.out;omega) (by have:=HFL.out;omega) ?_;(simp[Act.eval]);(simp[Act.eval]);rw[HMC.out])
     |(refine z9r rfl _ _ rfl wa.heap.size (f.length+8) (f.length+8) _ f rfl rfl (HRA.out _) (by omega) MC.toList (by rw[heap_alloc_new]) HMAD.out ?_;intro w2 hb2 hk2;have K2:=ze ((Kp.alloc (λb=>b=wa.heap.size) wa (.cells MC 5)).trans hk2 (λ_ _ e=>e));have B2:=ze hb2;have c2:=(K2.out.cell (a:=⟨ga,oa+i,none⟩) (World.block_lt_of_cell? _ _ HCELL.out) ngw).trans HCELL.out;clear hb2 hk2)
     |fail)
    go_loopw [8] (λv8 wr=>∃j:Nat,j≤8∧v8 = .int .i64 ((f.length+j:Nat):Int)∧Kp (λb=>b=wa.heap.size) wa wr∧wr.heap[wa.heap.size]?=some (.cells (f.map b8++(List.replicate j (b8 77)++(MC.toList.drop f.length).drop j)).toArray 5 (0,0))) (λv8 _=>f.length+8-(intOf v8).toNat)
    case atStart=>exact⟨0,by omega,by simp,K2.out,by simpa using B2.out⟩
    case round=>
     clear c2 K2 B2
     obtain⟨j,hj,rfl,hkj,hbj⟩:=hrel
     have HKJ:=ze hkj
     have HBJ:=ze hbj
     have hlm:=HMAD.out
     by_cases qj:j<8
     ·have qj':(j:Int)<8:=by omega
      have qj2:(f.length:Int)+j<(f.length:Int)+8:=by omega
      obtain⟨cv,hcv⟩:∃cv,(f.map b8++(List.replicate j (b8 77)++(MC.toList.drop f.length).drop j))[f.length+j]?=some cv:=⟨_,List.getElem?_eq_getElem (by simp at hlm ⊢;omega)⟩
      have m0:wr.cell? ⟨wa.heap.size,f.length+j,none⟩=some cv:=(zg hbj (f.length+j)).trans (by rw[List.getElem?_toArray];exact hcv)
      have mf0:wr.frozen? ⟨wa.heap.size,f.length+j,none⟩=false:=zx hbj _
      clear hkj hbj hlm hcv
      go_wp2_with fail
      go_roundw
      case rel=>
       refine⟨j+1,by omega,by go_num,HKJ.out.trans (Kp.setCell (S:=λb=>b=wa.heap.size) wr ⟨wa.heap.size,f.length+j,none⟩ _ rfl) (λ_ _ e=>e),?_⟩
       rw[zq HBJ.out]
       have hfs:=zln (f.map b8) (MC.toList.drop f.length) j (by have:=HMAD.out;rw[List.length_drop];omega) (b8 77)
       rw[List.length_map]at hfs
       rw[← hfs]
       simp
       rfl
      case measure=>simp[intOf];omega
     ·have qj2:¬(f.length:Int)+j<(f.length:Int)+8:=by omega
      obtain rfl:j=8:=by omega
      have HB8:Hid (wr.heap[wa.heap.size]?=some (.cells (z4e f) 5 (0,0))):=by
       show _=_
       rw[hbj]
       unfold z4e
       rw[List.drop_drop,List.drop_eq_nil_of_le (by omega),List.append_nil]
      have hXl:w.heap.size<wa.heap.size:=zh HM.out.blk
      have bX:=(hkj.block w.heap.size hXl (by omega)).trans HM.out.blk
      have x0:=zg bX 0
      have x0f:=zx bX 0
      simp at x0
      rw[hva]at x0
      have HROW:=ze (zi HM.out.rowA hkj (λb e (e2:b=wa.heap.size)=>by have:=(HM.out.rowA.lt b e).2;omega))
      have HCJ:=ze ((hkj.cell (a:=⟨ga,oa+i,none⟩) (World.block_lt_of_cell? _ _ HCELL.out) ngw).trans HCELL.out)
      have HOL:Hid (w.heap.size+1<wa.heap.size):=zh HM.out.rowO
      have HOJ:=ze ((hkj.block (w.heap.size+1) HOL.out (by have:=HOL.out;omega)).trans HM.out.rowO)
      have nwg:w.heap.size≠wa.heap.size:=by omega
      have ngX:ga≠w.heap.size:=by have:=HGA.out;omega
      have ngO:ga≠w.heap.size+1:=by have:=HGA.out;omega
      have HVA:=ze hva
      clear hkj hbj hlm c1 hcell
      go_wp2_with (first
       |(at_builtin;refine zz rfl _ _ 37 rfl w.heap.size 48 iB (.slice none 0 0) 1 24 Tryz.underlying37 HIB.out.1 HIB.out.2.1 HIB.out.2.2.1 HIB.out.2.2.2 rfl (by decide) _ _ _ rfl (by have h:=HROW.out;rw[HVA.out]at h;exact h.alloc _) ⟨wr.heap.size,0,none⟩ 1 1 [.slice (some ⟨wa.heap.size,0,none⟩) (f.length+8) (f.length+8)] rfl rfl (cell_one_new _ _ _) (by simp[Value.oneCell']) (by have:=HN0.out;have:=HLT.out;unfold maxLen;omega) (by have:=HN0.out;have:=HLT.out;omega) (by have h1:=HKJ.out.size;have h2:=HSW.out;simp;omega) (by decide) ?_;intro v6 w6 own6 grow6 loc6 keep6;have hk6:Kp (λb=>va.ownBlock=some b) wr w6:=(by rw[HVA.out];exact zhc (S:=λb=>(Value.slice aa i ca).ownBlock=some b) grow6 (λ_ h=>h));have HMO:=ze (HM.out.more (Nat.le_refl _) HSW.out HFI.out HKJ.out HB8.out hk6 own6 (by rw[HVA.out];exact loc6.imp id (λh=>⟨_,h,by simp⟩)));have KW6:=ze hk6;have hw0:w.heap.size<wr.heap.size:=Nat.lt_of_lt_of_le hXl HKJ.out.size;have b6:=(hk6.block w.heap.size hw0 (λe=>zjd HM.out.blk HM.out.rowA (by decide) e)).trans ((HKJ.out.block w.heap.size hXl nwg).trans HM.out.blk);have y0:=zg b6 0;have y0f:=zx b6 0;simp at y0;have g6:=(hk6.cell (a:=⟨ga,oa+i,none⟩) (World.block_lt_of_cell? _ _ HCJ.out) (λe=>absurd HGA.out (Nat.not_lt.2 (HM.out.rowA.lt ga e).1))).trans HCJ.out;have o6:=(hk6.block (w.heap.size+1) (zh HOJ.out) HM.out.vaO).trans HOJ.out;have hol:=HM.out.lenO;obtain⟨zc,hzc⟩:∃zc,ol[i]?=some zc:=⟨_,List.getElem?_eq_getElem (by have:=HLT.out;omega)⟩;have z6:w6.cell? ⟨w.heap.size+1,i,none⟩=some zc:=(zg o6 i).trans (by rw[List.getElem?_toArray];exact hzc);have z6f:=zx o6 i;obtain⟨a6,c6,rfl,_⟩:=zr own6;clear hk6 own6 grow6 loc6 keep6 b6 o6 hol hzc)
       |fail)
      go_roundw
      case rel=>
       refine⟨i+1,_,_,_,by have:=HLT.out;omega,by go_num,HMO.out.2,?_⟩
       have kx:Kp (λ_=>False) w (w6.setCell ⟨w.heap.size,0,none⟩ (.slice a6 (i+1) c6)):=((HK.out.trans HKJ.out (λb hb e=>by have:=HSW.out;omega)).trans KW6.out (λb hb e=>by have:=(HM.out.rowA.lt b e).1;omega)).trans (Kp.setCell (S:=λb=>b=w.heap.size) w6 ⟨w.heap.size,0,none⟩ _ rfl) (λb hb e=>by omega)
       exact kx.trans (Kp.setCell (S:=λb=>b=w.heap.size+1) _ ⟨w.heap.size+1,i,none⟩ _ rfl) (λb hb e=>by omega)
      case measure=>have:=HLT.out;simp[intOf];omega
  ·have hge:¬(i:Int)<fs.length:=by omega
   obtain rfl:i=fs.length:=by omega
   have HSW:Hid (w.heap.size≤wr.heap.size):=hk.size
   obtain⟨HD,HDK'⟩:=hm.done hk.size
   have HDN:=ze HD
   have HDK:=ze HDK'
   have lX:w.heap.size<wr.heap.size:=zh hm.blk
   have lO:w.heap.size+1<wr.heap.size:=zh hm.rowO
   have hlen:=hm.lenO
   obtain⟨u1,hu1⟩:∃u,ol[fs.length]?=some u:=⟨_,List.getElem?_eq_getElem (by omega)⟩
   obtain⟨u2,hu2⟩:∃u,ol[fs.length+1]?=some u:=⟨_,List.getElem?_eq_getElem (by omega)⟩
   have mO1:wr.cell? ⟨w.heap.size+1,fs.length,none⟩=some u1:=(zg hm.rowO _).trans (by rw[List.getElem?_toArray];exact hu1)
   have mO2:wr.cell? ⟨w.heap.size+1,fs.length+1,none⟩=some u2:=(zg hm.rowO _).trans (by rw[List.getElem?_toArray];exact hu2)
   have mX:wr.cell? ⟨w.heap.size,1,none⟩=some (.slice none 0 0):=zg hm.blk 1
   have gO1:wr.frozen? ⟨w.heap.size+1,fs.length,none⟩=false:=zx hm.rowO _
   have gO2:wr.frozen? ⟨w.heap.size+1,fs.length+1,none⟩=false:=zx hm.rowO _
   have gX:wr.frozen? ⟨w.heap.size,1,none⟩=false:=zx hm.blk _
   have q90:∀(w:World) (a:Option Addr) (n c n' c':Nat),(binOp .eql 37 (.slice a n c) (.slice none n' c')).run Tryz.prog w = .ok (.bool a.isNone) w:=λw a n c n' c'=>Lib.run_eql_slice_nil w _ _ a n c n' c' Tryz.underlying37
   clear hm hk hlen HD hu1 hu2 hi hlt HDK'
   have hge2:¬(fs.length:Int)<fs.length:=by omega
   cases a0 with
   |none=>
    have h0:fs=[]:=Classical.byContradiction (λhne=>by
     obtain⟨a,c,e,_,h⟩:=HV.out
     injection e with e _ _
     subst e
     obtain⟨_,_,e,_⟩:=h hne
     cases e)
    have H0:=ze h0
    clear h0
    go_wp2_with fail
    refine HR.out _ _ _ _ _ _ _ HDN.out (HK.out.trans HDK.out (λb hb e=>by omega)) ?_
    have h0:=H0.out
    subst h0
    exact⟨none,0,rfl,by simp,λe=>absurd rfl e⟩
   |some aq=>
    have HSM:=ze (show ∀f∈fs,f.length≤1100000 from (λf hf=>by
     obtain⟨a,c,_,_,h⟩:=HV.out
     obtain⟨_,_,_,_,_,h⟩:=h (λe=>by rw[e]at hf;cases hf)
     obtain⟨k,hk⟩:=List.getElem?_of_mem hf
     obtain⟨_,_,_,_,_,_,_,h⟩:=h k f hk
     exact h))
    have HKN:=ze (HK.out.trans HDK.out (λb hb e=>by omega))
    go_wp2_with fail
    have hle:(fs.length:Int)≤(fs.length:Int)+2:=by omega
    have HRX:=ze (λwz k=>HR.out wz _ _ _ _ _ _ (HDN.out.kp (S:=λ_=>False) k (λ_ _ _ e=>e)) (HKN.out.trans k (λ_ _ e=>e)) ((HDN.out.kp (S:=λ_=>False) k (λ_ _ _ e=>e)).fin HN0.out HSM.out))
    go_region
    go_wp2_with fail
    first|exact HRX.out _ (Kp.drew _ _)|exact HRX.out _ (Kp.drewN _ _ _)|exact HRX.out _ (Kp.refl _ _)
end
end Go.Proofs.YthbdpfccfcceiaaGreatDoor
