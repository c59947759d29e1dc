/-
  Of the proof of logsUpto_card.
-/
import Derived.Test.YthbdpfccfcceiaaGreatDoorF8x
namespace Go.Proofs.YthbdpfccfcceiaaGreatDoor
section
open Go.RowKit Go.Maps Go.Lib
def zw (body:List UInt8):Nat × Nat × RS:=((⟨body,false⟩:RS).one.1,(⟨body,false⟩:RS).one.2.four.1,(⟨body,false⟩:RS).one.2.four.2)
theorem zcb {fn:Func}{p u:Tmp}{ty:TypeId}(h:fn.results=#[.cell p ty,.tmp u])(tmps:Array Value)(w:World)(g:Nat)(cs:Array Value)
  (hp:tmps.getD p undef = .pointer (some ⟨g,0,none⟩)) (hv:(loadVar ty ⟨g,0,none⟩).run Tryz.prog w = .ok (.agg cs) w) :
  (results fn tmps).run Tryz.prog w = .ok (.tuple #[.agg cs,tmps.getD u undef]) w:=by
 have hp':tmps[p]?.getD undef = .pointer (some ⟨g,0,none⟩):=by simpa using hp
 simp[results,h,hp',asAddr,hv]
theorem zee {w:World}{g:Nat}{cs:Array Value}{fr:Nat × Nat}(hg:w.heap[g]?=some (.cells cs 110 fr))(hs:cs.size=3):(loadVar 110 ⟨g,0,none⟩).run Tryz.prog w = .ok (.agg cs) w:=
 run_loadVar_row w g 110 110 cs fr _ hg Tryz.underlying110 rfl (by rw[hs];kernel_rfl)
section
variable {R:Ending→World→Prop}
theorem RS.four_len (s:RS):s.four.2.bs.length≤s.bs.length:=by
 show (s.take 4).2.bs.length≤_
 unfold RS.take
 split
 ·exact Nat.le_refl _
 ·show (s.bs.drop 4).length≤_
  rw[List.length_drop];omega
theorem RS.four_lt (s:RS):s.four.1<4294967296:=by
 unfold RS.four
 split
 ·exact z7w _
 ·omega
set_option maxRecDepth 20000 in
set_option maxHeartbeats 2000000 in
theorem zrr (v:Value)(body:List UInt8)(g:Nat)(w:World)(h:RdC w v body g)(hg:g<w.heap.size)(hl:body.length≤1100000)(hk:(zw body).1=72)
  (hR:∀w',Kp (λ_=>False) w w'→R (.returned (.tuple #[.agg #[.int .u8 72,.int .i64 ((zw body).2.1:Nat),.slice none 0 0],.bool (zw body).2.2.done])) w') :
  Calls Tryz.prog 175 #[v] w R:=by
 obtain⟨o,cap,rfl,hcap,hc⟩:=h
 have k0:=Kp.alloc (λ_=>False) w (.cells #[.int .u8 0,.int .i64 0,.slice none 0 0] 110)
 have h0:RdC (w.alloc (.cells #[.int .u8 0,.int .i64 0,.slice none 0 0] 110)) (.slice (some ⟨g,o,none⟩) body.length cap) body g:=RdC.kept ⟨o,cap,rfl,hcap,hc⟩ k0
 have H1:=ze (zte h0 (Nat.lt_of_lt_of_le hg k0.size))
 have K0:=ze k0
 have HR0:=ze hR
 have HL:=ze hl
 have b0:=heap_alloc_new w (.cells #[.int .u8 0,.int .i64 0,.slice none 0 0] 110)
 have B0:=ze b0
 have sA:(w.alloc (.cells #[.int .u8 0,.int .i64 0,.slice none 0 0] 110)).heap.size=w.heap.size+1:=by simp
 have SA:=ze sA
 have HK:Hid ((⟨body,false⟩:RS).one.1=72):=hk
 clear h0 hR hl hc hcap k0 b0 hk hg sA
 go_enter Tryz.func175,Tryz.ntmps175
 generalize hA:w.alloc (.cells #[.int .u8 0,.int .i64 0,.slice none 0 0] 110)=A at H1 K0 B0 SA ⊢
 have HT:=ze (RS.four_lt (⟨body,false⟩:RS).one.2)
 have e64:wrap64 (((⟨body,false⟩:RS).one.2.four.1:Nat):Int)=(((⟨body,false⟩:RS).one.2.four.1:Nat):Int):=by
  have h64:IntKind.i64.wrap (((⟨body,false⟩:RS).one.2.four.1:Nat):Int)=(((⟨body,false⟩:RS).one.2.four.1:Nat):Int):=IntWalk.i64_in _ (by have:=HT.out;omega)
  exact IntWalk.i64_left _ ▸ h64
 have HBk2:Hid (∀w1 w2:World,(A.alloc (.cells #[.slice (some ⟨g,o,none⟩) body.length cap,.bool false] 303)).heap.size≤w1.heap.size→Kp (λb=>b=A.heap.size) (w1.alloc (.cells #[.int .u8 72,.int .i64 0,.slice none 0 0] 110)) w2→w2.heap[w1.heap.size]?=some (.cells #[.int .u8 72,.int .i64 0,.slice none 0 0] 110 (0,0))):=λw1 w2 hs hk=>by
  have hb:=heap_alloc_new w1 (.cells #[.int .u8 72,.int .i64 0,.slice none 0 0] 110)
  simp at hs
  exact (hk.block _ (zh hb) (λe=>by omega)).trans hb
 go_wp2_with (first
  |(go_at_call 144;refine zod _ _ _ _ ?_)
  |(go_at_call 206;refine ztf _ ⟨body,false⟩ _ g _ H1.out HL.out ?_;intro w1 v1 hr1 hk1;rw[HK.out];have HR1:=ze hr1;have HK1:=ze hk1;have HS1:=ze hk1.size;have kB:=Kp.alloc (λ_=>False) w1 (.cells #[.int .u8 72,.int .i64 0,.slice none 0 0] 110);have bB:=heap_alloc_new w1 (.cells #[.int .u8 72,.int .i64 0,.slice none 0 0] 110);have HB2:=ze (hr1.kp kB (λe=>e) (λe=>e));have KB:=ze kB;have BB:=ze bB;clear hr1 hk1 kB bB)
  |(go_at_call 174;refine zff _ (⟨body,false⟩:RS).one.2 v1 g _ HB2.out (Nat.le_trans (RS.one_len _) HL.out) ?_;intro w2 v2 hr2 hk2;have HR2:=ze hr2;have HK2:=ze hk2;have b2:=HBk2.out w1 w2 HS1.out hk2;have c20:w2.cell? ⟨w1.heap.size,0,none⟩=some (.int .u8 72):=zg b2 0;have c21:w2.cell? ⟨w1.heap.size,1,none⟩=some (.int .i64 0):=zg b2 1;have c22:w2.cell? ⟨w1.heap.size,2,none⟩=some (.slice none 0 0):=zg b2 2;have f21:=zj b2 1;have BX2:=ze b2;clear hr2 hk2 b2)
  |fail)
 have hs1:=HS1.out
 simp at hs1
 have hT:=HT.out
 have HR:Hid (∀w',Kp (λ_=>False) w w'→R (.returned (.tuple #[.agg #[.int .u8 72,.int .i64 ((⟨body,false⟩:RS).one.2.four.1:Nat),.slice none 0 0],.bool (⟨body,false⟩:RS).one.2.four.2.done])) w'):=HR0.out
 generalize hTT:(⟨body,false⟩:RS).one.2.four.1=T at HR HT hT e64 ⊢
 clear c20 c21 c22 f21
 have kS:Kp (λb=>b=w1.heap.size) w2 (w2.setCell ⟨w1.heap.size,1,none⟩ (.int .i64 (T:Nat))):=Kp.setCell _ _ _ rfl
 have bS:(w2.setCell ⟨w1.heap.size,1,none⟩ (.int .i64 (T:Nat))).heap[w1.heap.size]?=some (.cells #[.int .u8 72,.int .i64 (T:Nat),.slice none 0 0] 110 (0,0)):=zn BX2.out _
 rw[e64]
 generalize w2.setCell ⟨w1.heap.size,1,none⟩ (.int .i64 (T:Nat))=W at kS bS ⊢
 have ka:Kp (λb=>b=A.heap.size∨b=w1.heap.size) A W:=((((Kp.alloc _ _ _).trans HK1.out (λ_ _ h=>Or.inl h)).trans (Kp.alloc _ _ _) (λ_ _ h=>h)).trans HK2.out (λ_ _ h=>Or.inl h)).trans kS (λ_ _ h=>Or.inr h)
 have hsA:=SA.out
 have hb0:W.heap[w.heap.size]?=some (.cells #[.int .u8 0,.int .i64 0,.slice none 0 0] 110 (0,0)):=(ka.block _ (zh B0.out) (λe=>by omega)).trans B0.out
 have kw:Kp (λ_=>False) w W:=K0.out.trans ka (λb hb e=>by omega)
 have HRW:=ze (HR2.out.kp kS (λe=>by omega) (λe=>by have:=HR1.out.lt;omega))
 have q20:W.cell? ⟨w1.heap.size,0,none⟩=some (.int .u8 72):=zg bS 0
 have q21:W.cell? ⟨w1.heap.size,1,none⟩=some (.int .i64 (T:Nat)):=zg bS 1
 have q22:W.cell? ⟨w1.heap.size,2,none⟩=some (.slice none 0 0):=zg bS 2
 have q00:W.cell? ⟨w.heap.size,0,none⟩=some (.int .u8 0):=zg hb0 0
 have q01:W.cell? ⟨w.heap.size,1,none⟩=some (.int .i64 0):=zg hb0 1
 have q02:W.cell? ⟨w.heap.size,2,none⟩=some (.slice none 0 0):=zg hb0 2
 have f00:=zj hb0 0
 have f01:=zj hb0 1
 have f02:=zj hb0 2
 have HB0:=ze hb0
 have KW:=ze kw
 have HLEN:Hid ((⟨body,false⟩:RS).one.2.four.2.bs.length≤1100000):=Nat.le_trans (Nat.le_trans (RS.four_len _) (RS.one_len _)) HL.out
 clear ka kS bS hs1 hsA hb0 kw
 go_region_law (refine zpd rfl 192 _ _ _ rfl Tryz.func192 (by kernel_rfl) (by kernel_rfl) _ (by simp[Act.eval];rfl) ?_;refine zbk _ (⟨body,false⟩:RS).one.2.four.2 v2 g _ (HRW.out.kp (Kp.drew (λ_=>False) W) (λe=>e) (λe=>e)) HLEN.out ?_;refine⟨_,rfl,?_⟩)
 all_goals
  go_wp2_with fail
  refine bodyPost_ret (zcb rfl _ _ w.heap.size #[.int .u8 72,.int .i64 (T:Nat),.slice none 0 0] rfl (zee (fr:=(0,0)) ?_ rfl)) rfl ?_
  ·exact zn (zn (zn (show W.drew.heap[w.heap.size]?=_ from HB0.out) _) _) _
  ·refine HR.out _ ?_
   refine (KW.out.trans (Kp.drew _ _) (λ_ _ h=>h)).trans (S':=λb=>b=w.heap.size) ?_ (λb hb e=>by omega)
   exact ((Kp.setCell (S:=λb=>b=w.heap.size) _ _ _ rfl).trans (Kp.setCell (S:=λb=>b=w.heap.size) _ _ _ rfl) (λ_ _ h=>h)).trans (Kp.setCell (S:=λb=>b=w.heap.size) _ _ _ rfl) (λ_ _ h=>h)
end
end
section
open Go.RowKit Go.Maps Go.Lib
section
variable {R:Ending→World→Prop}
set_option maxRecDepth 20000 in
set_option maxHeartbeats 2000000 in
theorem zjo (v:Value)(body:List UInt8)(g:Nat)(w:World)(h:RdC w v body g)(hg:g<w.heap.size)(hl:body.length≤1100000)(hk1:(zw body).1≠67)(hk2:(zw body).1≠72)
  (hR:∀w',Kp (λ_=>False) w w'→R (.returned (.tuple #[.agg #[.int .u8 0,.int .i64 0,.slice none 0 0],.bool false])) w') :
  Calls Tryz.prog 175 #[v] w R:=by
 obtain⟨o,cap,rfl,hcap,hc⟩:=h
 have k0:=Kp.alloc (λ_=>False) w (.cells #[.int .u8 0,.int .i64 0,.slice none 0 0] 110)
 have h0:RdC (w.alloc (.cells #[.int .u8 0,.int .i64 0,.slice none 0 0] 110)) (.slice (some ⟨g,o,none⟩) body.length cap) body g:=RdC.kept ⟨o,cap,rfl,hcap,hc⟩ k0
 have H1:=ze (zte h0 (Nat.lt_of_lt_of_le hg k0.size))
 have K0:=ze k0
 have HR0:=ze hR
 have HL:=ze hl
 have b0:=heap_alloc_new w (.cells #[.int .u8 0,.int .i64 0,.slice none 0 0] 110)
 have B0:=ze b0
 have sA:(w.alloc (.cells #[.int .u8 0,.int .i64 0,.slice none 0 0] 110)).heap.size=w.heap.size+1:=by simp
 have SA:=ze sA
 obtain⟨k,hk⟩:∃k,(⟨body,false⟩:RS).one.1=k:=⟨_,rfl⟩
 have hk8:=RS.one_lt (⟨body,false⟩:RS)
 have hk67:(⟨body,false⟩:RS).one.1≠67:=hk1
 have hk72:(⟨body,false⟩:RS).one.1≠72:=hk2
 rw[hk]at hk8 hk67 hk72
 have HK:=ze hk
 have n67:((k:Int) == 67)=false:=by simp;omega
 have n72:((k:Int) == 72)=false:=by simp;omega
 have e8:IntKind.u8.wrap (k:Int)=(k:Int):=by
  simp only[IntKind.wrap,IntKind.bits,IntKind.signed]
  simp
  omega
 clear hk1 hk2 hk67 hk72
 clear h0 hR hl hc hcap k0 b0 hk hg sA
 go_enter Tryz.func175,Tryz.ntmps175
 generalize hA:w.alloc (.cells #[.int .u8 0,.int .i64 0,.slice none 0 0] 110)=A at H1 K0 B0 SA ⊢
 have HT:=ze (RS.four_lt (⟨body,false⟩:RS).one.2)
 have e64:wrap64 (((⟨body,false⟩:RS).one.2.four.1:Nat):Int)=(((⟨body,false⟩:RS).one.2.four.1:Nat):Int):=by
  have h64:IntKind.i64.wrap (((⟨body,false⟩:RS).one.2.four.1:Nat):Int)=(((⟨body,false⟩:RS).one.2.four.1:Nat):Int):=IntWalk.i64_in _ (by have:=HT.out;omega)
  exact IntWalk.i64_left _ ▸ h64
 have HNQ:Hid (∀w1:World,(A.alloc (.cells #[.slice (some ⟨g,o,none⟩) body.length cap,.bool false] 303)).heap.size≤w1.heap.size→w.heap.size≠w1.heap.size):=λw1 hs=>by
  have:=SA.out
  simp at hs
  omega
 have HBk0:Hid (∀w1 w2:World,Kp (λb=>b=A.heap.size) (A.alloc (.cells #[.slice (some ⟨g,o,none⟩) body.length cap,.bool false] 303)) w1→Kp (λb=>b=A.heap.size) (w1.alloc (.cells #[.int .u8 (k:Int),.int .i64 0,.slice none 0 0] 110)) w2→w2.heap[w.heap.size]?=some (.cells #[.int .u8 0,.int .i64 0,.slice none 0 0] 110 (0,0))):=λw1 w2 hk1 hk2=>by
  have hs:=SA.out
  have ka:Kp (λb=>b=A.heap.size) A w2:=(((Kp.alloc _ _ _).trans hk1 (λ_ _ h=>h)).trans (Kp.alloc _ _ _) (λ_ _ h=>h)).trans hk2 (λ_ _ h=>h)
  exact (ka.block _ (zh B0.out) (λe=>by omega)).trans B0.out
 have HBk2:Hid (∀w1 w2:World,(A.alloc (.cells #[.slice (some ⟨g,o,none⟩) body.length cap,.bool false] 303)).heap.size≤w1.heap.size→Kp (λb=>b=A.heap.size) (w1.alloc (.cells #[.int .u8 (k:Int),.int .i64 0,.slice none 0 0] 110)) w2→w2.heap[w1.heap.size]?=some (.cells #[.int .u8 (k:Int),.int .i64 0,.slice none 0 0] 110 (0,0))):=λw1 w2 hs hk=>by
  have hb:=heap_alloc_new w1 (.cells #[.int .u8 (k:Int),.int .i64 0,.slice none 0 0] 110)
  simp at hs
  exact (hk.block _ (zh hb) (λe=>by omega)).trans hb
 go_wp2_with (first
  |(go_at_call 144;refine zod _ _ _ _ ?_)
  |(go_at_call 206;refine ztf _ ⟨body,false⟩ _ g _ H1.out HL.out ?_;intro w1 v1 hr1 hk1;rw[HK.out];have HR1:=ze hr1;have HK1:=ze hk1;have HS1:=ze hk1.size;have kB:=Kp.alloc (λ_=>False) w1 (.cells #[.int .u8 (k:Int),.int .i64 0,.slice none 0 0] 110);have bB:=heap_alloc_new w1 (.cells #[.int .u8 (k:Int),.int .i64 0,.slice none 0 0] 110);have HB2:=ze (hr1.kp kB (λe=>e) (λe=>e));have KB:=ze kB;have BB:=ze bB;clear hr1 hk1 kB bB)
  |(go_at_call 174;refine zff _ (⟨body,false⟩:RS).one.2 v1 g _ HB2.out (Nat.le_trans (RS.one_len _) HL.out) ?_;intro w2 v2 hr2 hk2;have HR2:=ze hr2;have HK2:=ze hk2;have b2:=HBk2.out w1 w2 HS1.out hk2;have c20:w2.cell? ⟨w1.heap.size,0,none⟩=some (.int .u8 (k:Int)):=zg b2 0;have c21:w2.cell? ⟨w1.heap.size,1,none⟩=some (.int .i64 0):=zg b2 1;have c22:w2.cell? ⟨w1.heap.size,2,none⟩=some (.slice none 0 0):=zg b2 2;have f21:=zj b2 1;have BX2:=ze b2;have b3:=HBk0.out w1 w2 HK1.out hk2;have c00:w2.cell? ⟨w.heap.size,0,none⟩=some (.int .u8 0):=zg b3 0;have c01:w2.cell? ⟨w.heap.size,1,none⟩=some (.int .i64 0):=zg b3 1;have c02:w2.cell? ⟨w.heap.size,2,none⟩=some (.slice none 0 0):=zg b3 2;have f00:=zj b3 0;have f01:=zj b3 1;have f02:=zj b3 2;have B3:=ze b3;have nq:=HNQ.out w1 HS1.out;have nq':w1.heap.size≠w.heap.size:=λe=>nq e.symm;clear hr2 hk2 b2 b3)
  |fail)
 have hnq:=HNQ.out w1 HS1.out
 have hsA:=SA.out
 refine bodyPost_ret (zcb rfl _ _ w.heap.size #[.int .u8 0,.int .i64 0,.slice none 0 0] rfl (zee (fr:=(0,0)) ?_ rfl)) rfl ?_
 ·have kS:Kp (λb=>b=w1.heap.size) w2 (w2.setCell ⟨w1.heap.size,1,none⟩ (.int .i64 ((⟨body,false⟩:RS).one.2.four.1:Nat))):=Kp.setCell _ _ _ rfl
  exact zn (zn (zn ((kS.block _ (zh B3.out) hnq).trans B3.out) _) _) _
 ·refine HR0.out _ ?_
  have hs1:=HS1.out
  simp at hs1
  have ka:Kp (λb=>b=A.heap.size) A w2:=(((Kp.alloc _ _ _).trans HK1.out (λ_ _ h=>h)).trans (Kp.alloc _ _ _) (λ_ _ h=>h)).trans HK2.out (λ_ _ h=>h)
  have kw:Kp (λ_=>False) w w2:=K0.out.trans ka (λb hb (e:b=A.heap.size)=>by omega)
  refine kw.trans (S':=λb=>b=w.heap.size∨b=w1.heap.size) ?_ (λb hb e=>by omega)
  exact (((Kp.setCell _ _ _ (Or.inr rfl)).trans (Kp.setCell _ _ _ (Or.inl rfl)) (λ_ _ h=>h)).trans (Kp.setCell _ _ _ (Or.inl rfl)) (λ_ _ h=>h)).trans (Kp.setCell _ _ _ (Or.inl rfl)) (λ_ _ h=>h)
end
end
section
open Go.RowKit Go.Maps Go.Lib
section
variable {R:Ending→World→Prop}
set_option maxRecDepth 20000 in
set_option maxHeartbeats 2000000 in
theorem zlk (v:Value)(body:List UInt8)(g:Nat)(w:World)(h:RdC w v body g)(hg:g<w.heap.size)(hl:body.length≤1100000)(hk:(zw body).1=67)(hdn:((zw body).2.2.one.2.writes (zw body).2.2.one.1).2.done=true)
  (hR:∀(b:Bool) w' u,(b=true↔((zw body).2.2.one.2.writes (zw body).2.2.one.1).2.done=true∧((((zw body).2.2.one.2.writes (zw body).2.2.one.1).1.map Prod.fst).Pairwise blt∧1≤(zw body).2.2.one.1∧(zw body).2.2.one.1≤10))→Kp (λ_=>False) w w'→WR w.heap.size w' u ((zw body).2.2.one.2.writes (zw body).2.2.one.1).1→
   R (.returned (.tuple #[.agg #[.int .u8 67,.int .i64 ((zw body).2.1:Nat),u],.bool b])) w') :
  Calls Tryz.prog 175 #[v] w R:=by
 obtain⟨o,cap,rfl,hcap,hc⟩:=h
 have k0:=Kp.alloc (λ_=>False) w (.cells #[.int .u8 0,.int .i64 0,.slice none 0 0] 110)
 have h0:RdC (w.alloc (.cells #[.int .u8 0,.int .i64 0,.slice none 0 0] 110)) (.slice (some ⟨g,o,none⟩) body.length cap) body g:=RdC.kept ⟨o,cap,rfl,hcap,hc⟩ k0
 have H1:=ze (zte h0 (Nat.lt_of_lt_of_le hg k0.size))
 have K0:=ze k0
 have HR0:=ze hR
 have HDN0:=ze hdn
 have HL:=ze hl
 have b0:=heap_alloc_new w (.cells #[.int .u8 0,.int .i64 0,.slice none 0 0] 110)
 have B0:=ze b0
 have sA:(w.alloc (.cells #[.int .u8 0,.int .i64 0,.slice none 0 0] 110)).heap.size=w.heap.size+1:=by simp
 have SA:=ze sA
 have HK:Hid ((⟨body,false⟩:RS).one.1=67):=hk
 clear h0 hR hl hc hcap k0 b0 hk hg sA hdn
 go_enter Tryz.func175,Tryz.ntmps175
 generalize hA:w.alloc (.cells #[.int .u8 0,.int .i64 0,.slice none 0 0] 110)=A at H1 K0 B0 SA ⊢
 have HT:=ze (RS.four_lt (⟨body,false⟩:RS).one.2)
 have e64:wrap64 (((⟨body,false⟩:RS).one.2.four.1:Nat):Int)=(((⟨body,false⟩:RS).one.2.four.1:Nat):Int):=by
  have h64:IntKind.i64.wrap (((⟨body,false⟩:RS).one.2.four.1:Nat):Int)=(((⟨body,false⟩:RS).one.2.four.1:Nat):Int):=IntWalk.i64_in _ (by have:=HT.out;omega)
  exact IntWalk.i64_left _ ▸ h64
 have HBk2:Hid (∀w1 w2:World,(A.alloc (.cells #[.slice (some ⟨g,o,none⟩) body.length cap,.bool false] 303)).heap.size≤w1.heap.size→Kp (λb=>b=A.heap.size) (w1.alloc (.cells #[.int .u8 67,.int .i64 0,.slice none 0 0] 110)) w2→w2.heap[w1.heap.size]?=some (.cells #[.int .u8 67,.int .i64 0,.slice none 0 0] 110 (0,0))):=λw1 w2 hs hk=>by
  have hb:=heap_alloc_new w1 (.cells #[.int .u8 67,.int .i64 0,.slice none 0 0] 110)
  simp at hs
  exact (hk.block _ (zh hb) (λe=>by omega)).trans hb
 go_wp2_with (first
  |(go_at_call 144;refine zod _ _ _ _ ?_)
  |(go_at_call 206;refine ztf _ ⟨body,false⟩ _ g _ H1.out HL.out ?_;intro w1 v1 hr1 hk1;rw[HK.out];have HR1:=ze hr1;have HK1:=ze hk1;have HS1:=ze hk1.size;have kB:=Kp.alloc (λ_=>False) w1 (.cells #[.int .u8 67,.int .i64 0,.slice none 0 0] 110);have bB:=heap_alloc_new w1 (.cells #[.int .u8 67,.int .i64 0,.slice none 0 0] 110);have HB2:=ze (hr1.kp kB (λe=>e) (λe=>e));have KB:=ze kB;have BB:=ze bB;clear hr1 hk1 kB bB)
  |(go_at_call 174;refine zff _ (⟨body,false⟩:RS).one.2 v1 g _ HB2.out (Nat.le_trans (RS.one_len _) HL.out) ?_;intro w2 v2 hr2 hk2;have HR2:=ze hr2;have HK2:=ze hk2;have b2:=HBk2.out w1 w2 HS1.out hk2;have c20:w2.cell? ⟨w1.heap.size,0,none⟩=some (.int .u8 67):=zg b2 0;have c21:w2.cell? ⟨w1.heap.size,1,none⟩=some (.int .i64 0):=zg b2 1;have c22:w2.cell? ⟨w1.heap.size,2,none⟩=some (.slice none 0 0):=zg b2 2;have f21:=zj b2 1;have BX2:=ze b2;clear hr2 hk2 b2)
  |(go_at_call 207;refine z0j _ (⟨body,false⟩:RS).one.2.four.2 v2 g _ (HR2.out.kp (Kp.setCell (S:=λb=>b=w1.heap.size) _ _ _ rfl) (λe=>by have h:=HS1.out;simp at h;omega) (λe=>by have:=HR1.out.lt;omega)) (Nat.le_trans (Nat.le_trans (RS.four_len _) (RS.one_len _)) HL.out) ?_;intro w3 v3 u hr3 hk3 hrow3;have HR3:=ze hr3;have HK3:=ze hk3;have HROW3:=ze hrow3;obtain⟨pu,capu,rfl⟩:=zp hrow3;have b4:w3.heap[w1.heap.size]?=some (.cells #[.int .u8 67,.int .i64 ((⟨body,false⟩:RS).one.2.four.1:Nat),.slice none 0 0] 110 (0,0)):=(hk3.block _ (zh (zn BX2.out _)) (λ(e:w1.heap.size=A.heap.size)=>by have h:=HS1.out;simp at h;omega)).trans (zn BX2.out _);have c42:w3.cell? ⟨w1.heap.size,2,none⟩=some (.slice none 0 0):=zg b4 2;have f42:=zj b4 2;have B4:=ze b4;clear hr3 hk3 hrow3 b4)
  |fail)
 have hs1:=HS1.out
 simp at hs1
 have hsA:=SA.out
 have HR:Hid (∀(b:Bool) w' u,(b=true↔((⟨body,false⟩:RS).one.2.four.2.one.2.writes (⟨body,false⟩:RS).one.2.four.2.one.1).2.done=true∧((((⟨body,false⟩:RS).one.2.four.2.one.2.writes (⟨body,false⟩:RS).one.2.four.2.one.1).1.map Prod.fst).Pairwise blt∧1≤(⟨body,false⟩:RS).one.2.four.2.one.1∧(⟨body,false⟩:RS).one.2.four.2.one.1≤10))→Kp (λ_=>False) w w'→WR w.heap.size w' u ((⟨body,false⟩:RS).one.2.four.2.one.2.writes (⟨body,false⟩:RS).one.2.four.2.one.1).1→
   R (.returned (.tuple #[.agg #[.int .u8 67,.int .i64 ((⟨body,false⟩:RS).one.2.four.1:Nat),u],.bool b])) w'):=HR0.out
 have hn1:=RS.one_lt (⟨body,false⟩:RS).one.2.four.2
 have HWL:=ze (RS.writes_length (⟨body,false⟩:RS).one.2.four.2.one.2 (⟨body,false⟩:RS).one.2.four.2.one.1)
 have HBL:Hid (((⟨body,false⟩:RS).one.2.four.2.one.2.writes (⟨body,false⟩:RS).one.2.four.2.one.1).2.bs.length≤1100000):=Nat.le_trans (RS.writes_len _ _) (Nat.le_trans (RS.one_len _) (Nat.le_trans (Nat.le_trans (RS.four_len _) (RS.one_len _)) HL.out))
 clear c20 c21 c22 f21 c42 f42 e64
 have HDN:Hid (((⟨body,false⟩:RS).one.2.four.2.one.2.writes (⟨body,false⟩:RS).one.2.four.2.one.1).2.done=true):=HDN0.out
 generalize (⟨body,false⟩:RS).one.2.four.1=T at HR B4 HK3 HROW3 ⊢
 generalize hws:(⟨body,false⟩:RS).one.2.four.2.one.2.writes (⟨body,false⟩:RS).one.2.four.2.one.1=ws at HR HR3 HROW3 HWL HBL HDN
 generalize (⟨body,false⟩:RS).one.2.four.2.one.1=n at HR HROW3 HWL hn1 ⊢
 have kX:Kp (λb=>b=w1.heap.size) w2 (w2.setCell ⟨w1.heap.size,1,none⟩ (.int .i64 (T:Nat))):=Kp.setCell _ _ _ rfl
 have kS:Kp (λb=>b=w1.heap.size) w3 (w3.setCell ⟨w1.heap.size,2,none⟩ (.slice pu n capu)):=Kp.setCell _ _ _ rfl
 have bS:(w3.setCell ⟨w1.heap.size,2,none⟩ (.slice pu n capu)).heap[w1.heap.size]?=some (.cells #[.int .u8 67,.int .i64 (T:Nat),.slice pu n capu] 110 (0,0)):=zn B4.out _
 have k2:=HK2.out.size
 have k2':=kX.size
 simp at k2
 generalize w3.setCell ⟨w1.heap.size,2,none⟩ (.slice pu n capu)=W at kS bS ⊢
 have ka:Kp (λb=>b=A.heap.size∨b=w1.heap.size) A W:=((((((Kp.alloc _ _ _).trans HK1.out (λ_ _ h=>Or.inl h)).trans (Kp.alloc _ _ _) (λ_ _ h=>h)).trans HK2.out (λ_ _ h=>Or.inl h)).trans kX (λ_ _ h=>Or.inr h)).trans HK3.out (λ_ _ h=>Or.inl h)).trans kS (λ_ _ h=>Or.inr h)
 have hb0:W.heap[w.heap.size]?=some (.cells #[.int .u8 0,.int .i64 0,.slice none 0 0] 110 (0,0)):=(ka.block _ (zh B0.out) (λe=>by omega)).trans B0.out
 have kw:Kp (λ_=>False) w W:=K0.out.trans ka (λb hb e=>by omega)
 have hrw:W.ownsRow w.heap.size 153 3 (.slice pu n capu) n (ws.1.flatMap z5f):=by
  have h:=zi HROW3.out kS (λb e (h:b=w1.heap.size)=>by have:=(HROW3.out.lt b e).1;omega)
  exact⟨h.1,h.2.imp id (λ⟨g',cap',cur,e1,e2,e3⟩=>⟨g',cap',cur,e1,by omega,e3⟩)⟩
 have HROWLT:Hid (∀b,(Value.slice pu n capu).ownBlock=some b→w.heap.size<b):=λb e=>by
  have:=(HROW3.out.lt b e).1
  omega
 have HWR:Hid (WR w.heap.size W (.slice pu n capu) ws.1):=by
  show WR _ _ _ _
  unfold WR
  rw[HWL.out]
  exact hrw
 have HRW:=ze (HR3.out.kp kS (λe=>by omega) (λe=>by have:=HR1.out.lt;omega))
 have q20:W.cell? ⟨w1.heap.size,0,none⟩=some (.int .u8 67):=zg bS 0
 have q21:W.cell? ⟨w1.heap.size,1,none⟩=some (.int .i64 (T:Nat)):=zg bS 1
 have q22:W.cell? ⟨w1.heap.size,2,none⟩=some (.slice pu n capu):=zg bS 2
 have q00:W.cell? ⟨w.heap.size,0,none⟩=some (.int .u8 0):=zg hb0 0
 have q01:W.cell? ⟨w.heap.size,1,none⟩=some (.int .i64 0):=zg hb0 1
 have q02:W.cell? ⟨w.heap.size,2,none⟩=some (.slice none 0 0):=zg hb0 2
 have f00:=zj hb0 0
 have f01:=zj hb0 1
 have f02:=zj hb0 2
 have HB0:=ze hb0
 have HBS:=ze bS
 have KW:=ze kw
 have HN1:=ze hn1
 clear ka kS kX bS hs1 hsA hb0 kw hrw k2 k2' hn1 hws
 by_cases hd:ws.2.done=true
 ·go_region_with (first
   |(go_at_call 192;refine zbk _ ws.2 v3 g _ (HRW.out.kp (Kp.drew (λ_=>False) W) (λe=>e) (λe=>e)) HBL.out ?_;rw[hd])
   |(go_at_call 208;refine zix (.slice pu n capu) ws.1 _ w.heap.size (zi HWR.out (Kp.drew (λ_=>False) W) (λ_ _ e=>e)) (by have:=HWL.out;have:=HN1.out;omega) ?_;intro b w5 hiff hk5;have HIFF:=ze hiff;have HK5:Hid (Kp (λ_=>False) W w5):=(Kp.drew _ _).trans hk5 (λ_ _ h=>h);have b52:=(HK5.out.block _ (zh HBS.out) (λe=>e)).trans HBS.out;have b50:=(HK5.out.block _ (zh HB0.out) (λe=>e)).trans HB0.out;clear hiff hk5;have c20:w5.cell? ⟨w1.heap.size,0,none⟩=some (.int .u8 67):=zg b52 0;have c21:w5.cell? ⟨w1.heap.size,1,none⟩=some (.int .i64 (T:Nat)):=zg b52 1;have c22:w5.cell? ⟨w1.heap.size,2,none⟩=some (.slice pu n capu):=zg b52 2;have c00:w5.cell? ⟨w.heap.size,0,none⟩=some (.int .u8 0):=zg b50 0;have c01:w5.cell? ⟨w.heap.size,1,none⟩=some (.int .i64 0):=zg b50 1;have c02:w5.cell? ⟨w.heap.size,2,none⟩=some (.slice none 0 0):=zg b50 2;have g00:=zj b50 0;have g01:=zj b50 1;have g02:=zj b50 2;have B50:=ze b50;clear b52 b50))
  all_goals
   go_wp2_with fail
   refine bodyPost_ret (zcb rfl _ _ w.heap.size #[.int .u8 67,.int .i64 (T:Nat),.slice pu n capu] rfl (zee (fr:=(0,0)) ?_ rfl)) rfl ?_
   ·exact zn (zn (zn B50.out _) _) _
   ·have kF:Kp (λb=>b=w.heap.size) w5 (((w5.setCell ⟨w.heap.size,0,none⟩ (.int .u8 67)).setCell ⟨w.heap.size,1,none⟩ (.int .i64 (T:Nat))).setCell ⟨w.heap.size,2,none⟩ (.slice pu n capu)):=((Kp.setCell (S:=λb=>b=w.heap.size) _ _ _ rfl).trans (Kp.setCell (S:=λb=>b=w.heap.size) _ _ _ rfl) (λ_ _ h=>h)).trans (Kp.setCell (S:=λb=>b=w.heap.size) _ _ _ rfl) (λ_ _ h=>h)
    refine HR.out _ _ (.slice pu n capu) (by rw[HIFF.out,HWL.out];simp[hd]) ((KW.out.trans HK5.out (λ_ _ h=>h)).trans kF (λb hb (e:b=w.heap.size)=>by omega)) ?_
    exact zi (zi HWR.out HK5.out (λ_ _ e=>e)) kF (λb e (h:b=w.heap.size)=>by have:=(HROWLT.out b e);omega)
 ·exact absurd HDN.out hd
end
end
section
open Go.RowKit Go.Maps Go.Lib
section
variable {R:Ending→World→Prop}
set_option maxRecDepth 20000 in
set_option maxHeartbeats 2000000 in
theorem zwk (v:Value)(body:List UInt8)(g:Nat)(w:World)(h:RdC w v body g)(hg:g<w.heap.size)(hl:body.length≤1100000)(hk:(zw body).1=67)(hdn:((zw body).2.2.one.2.writes (zw body).2.2.one.1).2.done=false)
  (hR:∀(b:Bool) w' u,(b=true↔((zw body).2.2.one.2.writes (zw body).2.2.one.1).2.done=true∧((((zw body).2.2.one.2.writes (zw body).2.2.one.1).1.map Prod.fst).Pairwise blt∧1≤(zw body).2.2.one.1∧(zw body).2.2.one.1≤10))→Kp (λ_=>False) w w'→WR w.heap.size w' u ((zw body).2.2.one.2.writes (zw body).2.2.one.1).1→
   R (.returned (.tuple #[.agg #[.int .u8 67,.int .i64 ((zw body).2.1:Nat),u],.bool b])) w') :
  Calls Tryz.prog 175 #[v] w R:=by
 obtain⟨o,cap,rfl,hcap,hc⟩:=h
 have k0:=Kp.alloc (λ_=>False) w (.cells #[.int .u8 0,.int .i64 0,.slice none 0 0] 110)
 have h0:RdC (w.alloc (.cells #[.int .u8 0,.int .i64 0,.slice none 0 0] 110)) (.slice (some ⟨g,o,none⟩) body.length cap) body g:=RdC.kept ⟨o,cap,rfl,hcap,hc⟩ k0
 have H1:=ze (zte h0 (Nat.lt_of_lt_of_le hg k0.size))
 have K0:=ze k0
 have HR0:=ze hR
 have HDN0:=ze hdn
 have HL:=ze hl
 have b0:=heap_alloc_new w (.cells #[.int .u8 0,.int .i64 0,.slice none 0 0] 110)
 have B0:=ze b0
 have sA:(w.alloc (.cells #[.int .u8 0,.int .i64 0,.slice none 0 0] 110)).heap.size=w.heap.size+1:=by simp
 have SA:=ze sA
 have HK:Hid ((⟨body,false⟩:RS).one.1=67):=hk
 clear h0 hR hl hc hcap k0 b0 hk hg sA hdn
 go_enter Tryz.func175,Tryz.ntmps175
 generalize hA:w.alloc (.cells #[.int .u8 0,.int .i64 0,.slice none 0 0] 110)=A at H1 K0 B0 SA ⊢
 have HT:=ze (RS.four_lt (⟨body,false⟩:RS).one.2)
 have e64:wrap64 (((⟨body,false⟩:RS).one.2.four.1:Nat):Int)=(((⟨body,false⟩:RS).one.2.four.1:Nat):Int):=by
  have h64:IntKind.i64.wrap (((⟨body,false⟩:RS).one.2.four.1:Nat):Int)=(((⟨body,false⟩:RS).one.2.four.1:Nat):Int):=IntWalk.i64_in _ (by have:=HT.out;omega)
  exact IntWalk.i64_left _ ▸ h64
 have HBk2:Hid (∀w1 w2:World,(A.alloc (.cells #[.slice (some ⟨g,o,none⟩) body.length cap,.bool false] 303)).heap.size≤w1.heap.size→Kp (λb=>b=A.heap.size) (w1.alloc (.cells #[.int .u8 67,.int .i64 0,.slice none 0 0] 110)) w2→w2.heap[w1.heap.size]?=some (.cells #[.int .u8 67,.int .i64 0,.slice none 0 0] 110 (0,0))):=λw1 w2 hs hk=>by
  have hb:=heap_alloc_new w1 (.cells #[.int .u8 67,.int .i64 0,.slice none 0 0] 110)
  simp at hs
  exact (hk.block _ (zh hb) (λe=>by omega)).trans hb
 go_wp2_with (first
  |(go_at_call 144;refine zod _ _ _ _ ?_)
  |(go_at_call 206;refine ztf _ ⟨body,false⟩ _ g _ H1.out HL.out ?_;intro w1 v1 hr1 hk1;rw[HK.out];have HR1:=ze hr1;have HK1:=ze hk1;have HS1:=ze hk1.size;have kB:=Kp.alloc (λ_=>False) w1 (.cells #[.int .u8 67,.int .i64 0,.slice none 0 0] 110);have bB:=heap_alloc_new w1 (.cells #[.int .u8 67,.int .i64 0,.slice none 0 0] 110);have HB2:=ze (hr1.kp kB (λe=>e) (λe=>e));have KB:=ze kB;have BB:=ze bB;clear hr1 hk1 kB bB)
  |(go_at_call 174;refine zff _ (⟨body,false⟩:RS).one.2 v1 g _ HB2.out (Nat.le_trans (RS.one_len _) HL.out) ?_;intro w2 v2 hr2 hk2;have HR2:=ze hr2;have HK2:=ze hk2;have b2:=HBk2.out w1 w2 HS1.out hk2;have c20:w2.cell? ⟨w1.heap.size,0,none⟩=some (.int .u8 67):=zg b2 0;have c21:w2.cell? ⟨w1.heap.size,1,none⟩=some (.int .i64 0):=zg b2 1;have c22:w2.cell? ⟨w1.heap.size,2,none⟩=some (.slice none 0 0):=zg b2 2;have f21:=zj b2 1;have BX2:=ze b2;clear hr2 hk2 b2)
  |(go_at_call 207;refine z0j _ (⟨body,false⟩:RS).one.2.four.2 v2 g _ (HR2.out.kp (Kp.setCell (S:=λb=>b=w1.heap.size) _ _ _ rfl) (λe=>by have h:=HS1.out;simp at h;omega) (λe=>by have:=HR1.out.lt;omega)) (Nat.le_trans (Nat.le_trans (RS.four_len _) (RS.one_len _)) HL.out) ?_;intro w3 v3 u hr3 hk3 hrow3;have HR3:=ze hr3;have HK3:=ze hk3;have HROW3:=ze hrow3;obtain⟨pu,capu,rfl⟩:=zp hrow3;have b4:w3.heap[w1.heap.size]?=some (.cells #[.int .u8 67,.int .i64 ((⟨body,false⟩:RS).one.2.four.1:Nat),.slice none 0 0] 110 (0,0)):=(hk3.block _ (zh (zn BX2.out _)) (λ(e:w1.heap.size=A.heap.size)=>by have h:=HS1.out;simp at h;omega)).trans (zn BX2.out _);have c42:w3.cell? ⟨w1.heap.size,2,none⟩=some (.slice none 0 0):=zg b4 2;have f42:=zj b4 2;have B4:=ze b4;clear hr3 hk3 hrow3 b4)
  |fail)
 have hs1:=HS1.out
 simp at hs1
 have hsA:=SA.out
 have HR:Hid (∀(b:Bool) w' u,(b=true↔((⟨body,false⟩:RS).one.2.four.2.one.2.writes (⟨body,false⟩:RS).one.2.four.2.one.1).2.done=true∧((((⟨body,false⟩:RS).one.2.four.2.one.2.writes (⟨body,false⟩:RS).one.2.four.2.one.1).1.map Prod.fst).Pairwise blt∧1≤(⟨body,false⟩:RS).one.2.four.2.one.1∧(⟨body,false⟩:RS).one.2.four.2.one.1≤10))→Kp (λ_=>False) w w'→WR w.heap.size w' u ((⟨body,false⟩:RS).one.2.four.2.one.2.writes (⟨body,false⟩:RS).one.2.four.2.one.1).1→
   R (.returned (.tuple #[.agg #[.int .u8 67,.int .i64 ((⟨body,false⟩:RS).one.2.four.1:Nat),u],.bool b])) w'):=HR0.out
 have hn1:=RS.one_lt (⟨body,false⟩:RS).one.2.four.2
 have HWL:=ze (RS.writes_length (⟨body,false⟩:RS).one.2.four.2.one.2 (⟨body,false⟩:RS).one.2.four.2.one.1)
 have HBL:Hid (((⟨body,false⟩:RS).one.2.four.2.one.2.writes (⟨body,false⟩:RS).one.2.four.2.one.1).2.bs.length≤1100000):=Nat.le_trans (RS.writes_len _ _) (Nat.le_trans (RS.one_len _) (Nat.le_trans (Nat.le_trans (RS.four_len _) (RS.one_len _)) HL.out))
 clear c20 c21 c22 f21 c42 f42 e64
 have HDN:Hid (((⟨body,false⟩:RS).one.2.four.2.one.2.writes (⟨body,false⟩:RS).one.2.four.2.one.1).2.done=false):=HDN0.out
 generalize (⟨body,false⟩:RS).one.2.four.1=T at HR B4 HK3 HROW3 ⊢
 generalize hws:(⟨body,false⟩:RS).one.2.four.2.one.2.writes (⟨body,false⟩:RS).one.2.four.2.one.1=ws at HR HR3 HROW3 HWL HBL HDN
 generalize (⟨body,false⟩:RS).one.2.four.2.one.1=n at HR HROW3 HWL hn1 ⊢
 have kX:Kp (λb=>b=w1.heap.size) w2 (w2.setCell ⟨w1.heap.size,1,none⟩ (.int .i64 (T:Nat))):=Kp.setCell _ _ _ rfl
 have kS:Kp (λb=>b=w1.heap.size) w3 (w3.setCell ⟨w1.heap.size,2,none⟩ (.slice pu n capu)):=Kp.setCell _ _ _ rfl
 have bS:(w3.setCell ⟨w1.heap.size,2,none⟩ (.slice pu n capu)).heap[w1.heap.size]?=some (.cells #[.int .u8 67,.int .i64 (T:Nat),.slice pu n capu] 110 (0,0)):=zn B4.out _
 have k2:=HK2.out.size
 have k2':=kX.size
 simp at k2
 generalize w3.setCell ⟨w1.heap.size,2,none⟩ (.slice pu n capu)=W at kS bS ⊢
 have ka:Kp (λb=>b=A.heap.size∨b=w1.heap.size) A W:=((((((Kp.alloc _ _ _).trans HK1.out (λ_ _ h=>Or.inl h)).trans (Kp.alloc _ _ _) (λ_ _ h=>h)).trans HK2.out (λ_ _ h=>Or.inl h)).trans kX (λ_ _ h=>Or.inr h)).trans HK3.out (λ_ _ h=>Or.inl h)).trans kS (λ_ _ h=>Or.inr h)
 have hb0:W.heap[w.heap.size]?=some (.cells #[.int .u8 0,.int .i64 0,.slice none 0 0] 110 (0,0)):=(ka.block _ (zh B0.out) (λe=>by omega)).trans B0.out
 have kw:Kp (λ_=>False) w W:=K0.out.trans ka (λb hb e=>by omega)
 have hrw:W.ownsRow w.heap.size 153 3 (.slice pu n capu) n (ws.1.flatMap z5f):=by
  have h:=zi HROW3.out kS (λb e (h:b=w1.heap.size)=>by have:=(HROW3.out.lt b e).1;omega)
  exact⟨h.1,h.2.imp id (λ⟨g',cap',cur,e1,e2,e3⟩=>⟨g',cap',cur,e1,by omega,e3⟩)⟩
 have HROWLT:Hid (∀b,(Value.slice pu n capu).ownBlock=some b→w.heap.size<b):=λb e=>by
  have:=(HROW3.out.lt b e).1
  omega
 have HWR:Hid (WR w.heap.size W (.slice pu n capu) ws.1):=by
  show WR _ _ _ _
  unfold WR
  rw[HWL.out]
  exact hrw
 have HRW:=ze (HR3.out.kp kS (λe=>by omega) (λe=>by have:=HR1.out.lt;omega))
 have q20:W.cell? ⟨w1.heap.size,0,none⟩=some (.int .u8 67):=zg bS 0
 have q21:W.cell? ⟨w1.heap.size,1,none⟩=some (.int .i64 (T:Nat)):=zg bS 1
 have q22:W.cell? ⟨w1.heap.size,2,none⟩=some (.slice pu n capu):=zg bS 2
 have q00:W.cell? ⟨w.heap.size,0,none⟩=some (.int .u8 0):=zg hb0 0
 have q01:W.cell? ⟨w.heap.size,1,none⟩=some (.int .i64 0):=zg hb0 1
 have q02:W.cell? ⟨w.heap.size,2,none⟩=some (.slice none 0 0):=zg hb0 2
 have f00:=zj hb0 0
 have f01:=zj hb0 1
 have f02:=zj hb0 2
 have HB0:=ze hb0
 have HBS:=ze bS
 have KW:=ze kw
 have HN1:=ze hn1
 clear ka kS kX bS hs1 hsA hb0 kw hrw k2 k2' hn1 hws
 have hd:=HDN.out
 refine wp_region_any (by kernel_rfl) ?_
 change wpAny _ _ _ _ _ _ _ (World.drew _)
 refine wpAny_take (i:=1) (v:=?_) rfl (by kernel_rfl) (by kernel_rfl) (by kernel_rfl) (λ_ _ _ h=>h) (Or.inl ⟨by rfl,?_⟩) ?_
 rotate_left
 ·intro w';go_simp
  first|done|with_reducible rfl
 refine wpAny_ready (rs:=[0,2]) (by kernel_rfl) (by simp) ?_
 refine AllReady.cons rfl (λK hK=>?_) (AllReady.cons rfl (λK hK=>?_) AllReady.nil)
 ·go_simp
  refine hK _ _ ?_
  clear hK K
  refine wpAny_ready (rs:=[2]) (by kernel_rfl) (by simp) ?_
  refine AllReady.cons rfl (λK hK=>?_) AllReady.nil
  refine zpd rfl 192 _ _ _ rfl Tryz.func192 (by kernel_rfl) (by kernel_rfl) _ (by simp[Act.eval];rfl) ?_
  refine zbk _ ws.2 v3 g _ (HRW.out.kp (Kp.drew (λ_=>False) W) (λe=>e) (λe=>e)) HBL.out ?_
  rw[hd]
  refine⟨_,rfl,?_⟩
  refine hK _ _ ?_
  clear hK K
  try go_simp
  refine wpAny_take (i:=3) (v:=?_) rfl (by kernel_rfl) (by kernel_rfl) (by kernel_rfl) (λ_ _ _ h=>h) (Or.inl ⟨by rfl,?_⟩) ?_
  rotate_left
  ·intro w';go_simp
   first|done|with_reducible rfl
  refine wpAny_take (i:=4) (v:=undef) rfl (by kernel_rfl) (by kernel_rfl) (by kernel_rfl) (λ_ _ _ h=>h) (Or.inr ⟨by rfl,rfl⟩) ?_
  refine wpAny_take (i:=5) (v:=undef) rfl (by kernel_rfl) (by kernel_rfl) (by kernel_rfl) (λ_ _ _ h=>h) (Or.inr ⟨by rfl,rfl⟩) ?_
  refine wpAny_take (i:=6) (v:=undef) rfl (by kernel_rfl) (by kernel_rfl) (by kernel_rfl) (λ_ _ _ h=>h) (Or.inr ⟨by rfl,rfl⟩) ?_
  refine wpAny_take (i:=7) (v:=?_) rfl (by kernel_rfl) (by kernel_rfl) (by kernel_rfl) (λ_ _ _ h=>h) (Or.inl ⟨by rfl,?_⟩) ?_
  rotate_left
  ·intro w';go_simp
   first|done|with_reducible rfl
  refine wpAny_ready (rs:=[8]) (by kernel_rfl) (by simp) ?_
  refine AllReady.cons rfl (λK hK=>?_) AllReady.nil
  go_simp
  refine hK _ _ ?_
  clear hK K
  refine wpAny_take (i:=9) (v:=?_) rfl (by kernel_rfl) (by kernel_rfl) (by kernel_rfl) (λ_ _ _ h=>h) (Or.inl ⟨by rfl,?_⟩) ?_
  rotate_left
  ·intro w';go_simp
   first|done|with_reducible rfl
  refine wpAny_done (by kernel_rfl) ?_ _
  go_wp2_with fail
  refine bodyPost_ret (zcb rfl _ _ w.heap.size #[.int .u8 67,.int .i64 (T:Nat),.slice pu n capu] rfl (zee (fr:=(0,0)) ?_ rfl)) rfl ?_
  ·exact zn (zn (zn (show W.drew.heap[w.heap.size]?=_ from HB0.out) _) _) _
  ·have kF:Kp (λb=>b=w.heap.size) W (((W.drew.setCell ⟨w.heap.size,0,none⟩ (.int .u8 67)).setCell ⟨w.heap.size,1,none⟩ (.int .i64 (T:Nat))).setCell ⟨w.heap.size,2,none⟩ (.slice pu n capu)):=(Kp.drew _ _).trans (((Kp.setCell (S:=λb=>b=w.heap.size) _ _ _ rfl).trans (Kp.setCell (S:=λb=>b=w.heap.size) _ _ _ rfl) (λ_ _ h=>h)).trans (Kp.setCell (S:=λb=>b=w.heap.size) _ _ _ rfl) (λ_ _ h=>h)) (λ_ _ h=>h)
   refine HR.out false _ (.slice pu n capu) (by simp[hd]) (KW.out.trans kF (λb hb (e:b=w.heap.size)=>by omega)) ?_
   exact zi HWR.out kF (λb e (h:b=w.heap.size)=>by have:=(HROWLT.out b e);omega)
 ·refine zpd rfl 192 _ _ _ rfl Tryz.func192 (by kernel_rfl) (by kernel_rfl) _ (by simp[Act.eval];rfl) ?_
  refine zbk _ ws.2 v3 g _ (HRW.out.kp (Kp.drew (λ_=>False) W) (λe=>e) (λe=>e)) HBL.out ?_
  rw[hd]
  refine⟨_,rfl,?_⟩
  refine hK _ _ ?_
  clear hK K
  try go_simp
  refine wpAny_take (i:=3) (v:=?_) rfl (by kernel_rfl) (by kernel_rfl) (by kernel_rfl) (λ_ _ _ h=>h) (Or.inl ⟨by rfl,?_⟩) ?_
  rotate_left
  ·intro w';go_simp
   first|done|with_reducible rfl
  refine wpAny_take (i:=4) (v:=undef) rfl (by kernel_rfl) (by kernel_rfl) (by kernel_rfl) (λ_ _ _ h=>h) (Or.inr ⟨by rfl,rfl⟩) ?_
  refine wpAny_take (i:=5) (v:=undef) rfl (by kernel_rfl) (by kernel_rfl) (by kernel_rfl) (λ_ _ _ h=>h) (Or.inr ⟨by rfl,rfl⟩) ?_
  refine wpAny_take (i:=6) (v:=undef) rfl (by kernel_rfl) (by kernel_rfl) (by kernel_rfl) (λ_ _ _ h=>h) (Or.inr ⟨by rfl,rfl⟩) ?_
  refine wpAny_take (i:=7) (v:=?_) rfl (by kernel_rfl) (by kernel_rfl) (by kernel_rfl) (λ_ _ _ h=>h) (Or.inl ⟨by rfl,?_⟩) ?_
  rotate_left
  ·intro w';go_simp
   first|done|with_reducible rfl
  refine wpAny_ready (rs:=[0]) (by kernel_rfl) (by simp) ?_
  refine AllReady.cons rfl (λK hK=>?_) AllReady.nil
  go_simp
  refine hK _ _ ?_
  clear hK K
  refine wpAny_ready (rs:=[8]) (by kernel_rfl) (by simp) ?_
  refine AllReady.cons rfl (λK hK=>?_) AllReady.nil
  go_simp
  refine hK _ _ ?_
  clear hK K
  refine wpAny_take (i:=9) (v:=?_) rfl (by kernel_rfl) (by kernel_rfl) (by kernel_rfl) (λ_ _ _ h=>h) (Or.inl ⟨by rfl,?_⟩) ?_
  rotate_left
  ·intro w';go_simp
   first|done|with_reducible rfl
  refine wpAny_done (by kernel_rfl) ?_ _
  go_wp2_with fail
  refine bodyPost_ret (zcb rfl _ _ w.heap.size #[.int .u8 67,.int .i64 (T:Nat),.slice pu n capu] rfl (zee (fr:=(0,0)) ?_ rfl)) rfl ?_
  ·exact zn (zn (zn (show W.drew.heap[w.heap.size]?=_ from HB0.out) _) _) _
  ·have kF:Kp (λb=>b=w.heap.size) W (((W.drew.setCell ⟨w.heap.size,0,none⟩ (.int .u8 67)).setCell ⟨w.heap.size,1,none⟩ (.int .i64 (T:Nat))).setCell ⟨w.heap.size,2,none⟩ (.slice pu n capu)):=(Kp.drew _ _).trans (((Kp.setCell (S:=λb=>b=w.heap.size) _ _ _ rfl).trans (Kp.setCell (S:=λb=>b=w.heap.size) _ _ _ rfl) (λ_ _ h=>h)).trans (Kp.setCell (S:=λb=>b=w.heap.size) _ _ _ rfl) (λ_ _ h=>h)) (λ_ _ h=>h)
   refine HR.out false _ (.slice pu n capu) (by simp[hd]) (KW.out.trans kF (λb hb (e:b=w.heap.size)=>by omega)) ?_
   exact zi HWR.out kF (λb e (h:b=w.heap.size)=>by have:=(HROWLT.out b e);omega)
end
end
section
open Go.RowKit Go.Maps Go.Lib
abbrev W3:=ByteArray × ByteArray × Bool
def zdh (body:List UInt8):List W3 × RS:=(zw body).2.2.one.2.writes (zw body).2.2.one.1
def z4d (body:List UInt8)(k t:Nat)(ws:List W3):Prop:=
 (k=72∧(zw body).1=72∧t=(zw body).2.1∧ws=[]∧(zw body).2.2.done=true)∨
 (k=67∧(zw body).1=67∧t=(zw body).2.1∧ws=(zdh body).1∧(zdh body).2.done=true∧(ws.map Prod.fst).Pairwise blt∧1≤ws.length∧ws.length≤10)
theorem z3f (body:List UInt8):(zdh body).1.length=(zw body).2.2.one.1:=RS.writes_length _ _
section
variable {R:Ending→World→Prop}
theorem zel (v:Value)(body:List UInt8)(g:Nat)(w:World)(h:RdC w v body g)(hg:g<w.heap.size)(hl:body.length≤1100000)
  (h1:(∀k t ws,¬z4d body k t ws)→∀w' (a b:Int) p n c,Kp (λ_=>False) w w'→R (.returned (.tuple #[.agg #[.int .u8 a,.int .i64 b,.slice p n c],.bool false])) w')
  (h2:∀(k t:Nat) ws w' u,z4d body k t ws→t<4294967296→(k=72→u = .slice none 0 0)→Kp (λ_=>False) w w'→WR w.heap.size w' u ws→R (.returned (.tuple #[.agg #[.int .u8 k,.int .i64 t,u],.bool true])) w') :
  Calls Tryz.prog 175 #[v] w R:=by
 have ht:(zw body).2.1<4294967296:=RS.four_lt _
 by_cases q1:(zw body).1=72
 ·refine zrr v body g w h hg hl q1 (λw' hk=>?_)
  cases hd:(zw body).2.2.done with
  |true=>exact h2 72 _ [] w' _ (Or.inl ⟨rfl,q1,rfl,rfl,hd⟩) ht (λ_=>rfl) hk (World.ownsRow_nil _ _ _ _)
  |false=>
   refine h1 (λk t ws hr=>?_) w' _ _ _ _ _ hk
   rcases hr with ⟨_,_,_,_,e⟩|⟨_,e,_⟩
   ·rw[hd]at e;cases e
   ·omega
 ·by_cases q2:(zw body).1=67
  ·have fin:∀(b:Bool) w' u,(b=true↔((zw body).2.2.one.2.writes (zw body).2.2.one.1).2.done=true∧((((zw body).2.2.one.2.writes (zw body).2.2.one.1).1.map Prod.fst).Pairwise blt∧1≤(zw body).2.2.one.1∧(zw body).2.2.one.1≤10))→Kp (λ_=>False) w w'→WR w.heap.size w' u ((zw body).2.2.one.2.writes (zw body).2.2.one.1).1→R (.returned (.tuple #[.agg #[.int .u8 67,.int .i64 ((zw body).2.1:Nat),u],.bool b])) w':=by
    intro b w' u hb hk hw
    have hn:=z3f body
    cases b with
    |true=>
     have hb':=hb.1 rfl
     exact h2 67 _ (zdh body).1 w' u (Or.inr ⟨rfl,q2,rfl,rfl,hb'.1,hb'.2.1,by omega,by omega⟩) ht (λe=>by omega) hk hw
    |false=>
     obtain⟨pu,cu,rfl⟩:=zp hw
     refine h1 (λk t ws hr=>?_) w' _ _ _ _ _ hk
     rcases hr with ⟨_,e,_⟩|⟨_,_,_,rfl,e1,e2,e3,e4⟩
     ·omega
     ·have:=hb.2 ⟨e1,e2,by omega,by omega⟩
      cases this
   cases hdn:((zw body).2.2.one.2.writes (zw body).2.2.one.1).2.done with
   |true=>exact zlk v body g w h hg hl q2 hdn fin
   |false=>exact zwk v body g w h hg hl q2 hdn fin
  ·refine zjo v body g w h hg hl q2 q1 (λw' hk=>h1 (λk t ws hr=>?_) w' _ _ _ _ _ hk)
   rcases hr with ⟨_,e,_⟩|⟨_,e,_⟩<;>omega
def z0e (bs:List UInt8):Nat:=(bs.getD 0 0).toNat+256*(bs.getD 1 0).toNat
def zfc (bs:List UInt8)(k t:Nat)(ws:List W3)(r:List UInt8):Prop:=
 2≤bs.length∧∃c,zlc bs (2+z0e bs)=some (c,r)∧z4d (c.drop 2) k t ws
theorem z9e {fn:Func}{p u v:Tmp}{ty:TypeId}(h:fn.results=#[.cell p ty,.tmp u,.tmp v])(tmps:Array Value)(w:World)(g:Nat)(cs:Array Value)
  (hp:tmps.getD p undef = .pointer (some ⟨g,0,none⟩)) (hv:(loadVar ty ⟨g,0,none⟩).run Tryz.prog w = .ok (.agg cs) w) :
  (results fn tmps).run Tryz.prog w = .ok (.tuple #[.agg cs,tmps.getD u undef,tmps.getD v undef]) w:=by
 have hp':tmps[p]?.getD undef = .pointer (some ⟨g,0,none⟩):=by simpa using hp
 simp[results,h,hp',asAddr,hv]
end
end
end Go.Proofs.YthbdpfccfcceiaaGreatDoor
