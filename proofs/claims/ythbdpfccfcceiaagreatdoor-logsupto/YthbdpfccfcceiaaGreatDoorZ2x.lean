/-
  Of the proof of logsUpto_card.
-/
import Derived.Test.YthbdpfccfcceiaaGreatDoorG4x
namespace Go.Proofs.YthbdpfccfcceiaaGreatDoor
section
open Go.RowKit
section
variable {own:Nat→Lab}{c:Nat}{w w':World}
variable {R:Ending→World→Prop}
theorem z90 (s:Nat)(hm0:w'.heap[s]?=some (.map #[] 0))(hm1:w'.heap[s+1]?=some (.map #[] 0))(hm2:w'.heap[s+3]?=some (.map #[] 0))(hm3:w'.heap[s+4]?=some (.map #[] 0))
  (hh:w'.heap[s+2]?=some (.cells #[.map (some s),.map (some (s+1))] 209 (0,0)))
  (hs:w'.heap[s+5]?=some (.cells (zgk (s+3) (s+2) (s+4)) 102 (0,0)))
  (o0:own s=⟨c,3,0,eb⟩) (o1:own (s+1)=⟨c,4,0,eb⟩) (o2:own (s+2)=⟨c,2,0,eb⟩) (o3:own (s+3)=⟨c,1,0,eb⟩) (o4:own (s+4)=⟨c,10,0,eb⟩) (o5:own (s+5)=⟨c,0,0,eb⟩):XE own c w' (s+5) (zdc (s+4)):=by
 have f:∀(k:TypeId) (b:Nat),w'.heap[b]?=some (.map #[] 0)→fmap w' Tryz.prog k b 0 (λ_=>none):=λk b hb=>by
  have hlt:=zh hb
  have hz:({ w' with heap:=w'.heap.extract 0 b }:World).heap.size=b:=by simp;omega
  have h:=z0o ({ w' with heap:=w'.heap.extract 0 b }:World) Tryz.prog k
  have hn:=heap_alloc_new ({ w' with heap:=w'.heap.extract 0 b }:World) (.map #[] 0)
  rw[hz]at h hn
  exact h.of_block (hb.trans hn.symm)
 refine⟨s+3,s+2,s,s+1,λ_=>0,λ_=>0,λ_=>.slice none 0 0,o5,o3,o2,o0,o1,hs,hh,?_,?_,?_,?_,?_,?_,?_,?_,⟨λb e=>by simp[zdc,Value.ownBlock]at e,World.ownsRow_nil _ _ _ _,λi v hv=>by simp[zdc]at hv,λi v f hv=>by simp[zdc]at hv⟩,⟨o4,?_,λn b e=>(by cases e),λn b e=>(by cases e)⟩⟩
 ·refine (show (zpc λn=>((zdc (s+4)).txs n).map λ_=>Value.pointer (some ⟨0,0,none⟩))=λ_=>none from ?_) ▸ f _ _ hm2
  funext v;unfold zpc;split<;>rfl
 ·intro n t e;cases e
 ·intro n t e;cases e
 ·intro n t e;cases e
 ·refine (show (zkf λk m=>((zdc (s+4)).ver k m).map z4b)=λ_=>none from ?_) ▸ f _ _ hm0
  funext v;unfold zkf;split
  ·split<;>rfl
  ·rfl
 ·refine (show (z3b λk=>if (zdc (s+4)).mom k=[] then none else some (Value.slice none 0 0))=λ_=>none from ?_) ▸ f _ _ hm1
  funext v;cases v<;>rfl
 ·intro k hk;exact absurd rfl hk
 ·intro k hk;exact absurd rfl hk
 ·refine (show (zpc λn=>((zdc (s+4)).bk.un n).map λb=>Value.pointer (some ⟨b.pb,0,none⟩))=λ_=>none from ?_) ▸ f _ _ hm3
  funext v;unfold zpc;split<;>rfl
theorem zvw (w:World)(o:Obj):(w.alloc o).heap=w.heap.push o:=rfl
theorem zfr (w:World)(s:Nat)(hs:w.heap.size=s)
  (hR:∀w3,Kp (λ_=>False) w w3→w3.heap.size=s+6→w3.heap[s]?=some (.map #[] 0)→w3.heap[s+1]?=some (.map #[] 0)→w3.heap[s+3]?=some (.map #[] 0)→w3.heap[s+4]?=some (.map #[] 0)→
   w3.heap[s+2]?=some (.cells #[.map (some s),.map (some (s+1))] 209 (0,0))→
   w3.heap[s+5]?=some (.cells (zgk (s+3) (s+2) (s+4)) 102 (0,0))→R (.returned (.pointer (some ⟨s+5,0,none⟩))) w3) :
  Calls Tryz.prog 33 #[] w R:=by
 subst hs
 refine z11 w (hR _ ?_ (by simp) ?_ ?_ ?_ ?_ ?_ ?_)
 ·exact (((((Kp.alloc _ _ _).trans (Kp.alloc (λ_=>False) _ _) (λ_ _ h=>h)).trans (Kp.alloc (λ_=>False) _ _) (λ_ _ h=>h)).trans (Kp.alloc (λ_=>False) _ _) (λ_ _ h=>h)).trans (Kp.alloc (λ_=>False) _ _) (λ_ _ h=>h)).trans (Kp.alloc (λ_=>False) _ _) (λ_ _ h=>h)
 all_goals
  simp only[zvw,Array.getElem?_push,Array.size_push]
  repeat (first|rw[if_pos (by omega)] | rw[if_neg (by omega)])
  exact if_pos trivial
end
end
section
open Go.RowKit
section
variable {own own':Nat→Lab}{c:Nat}{w w':World}{p nt:Nat}{ds:List (Nat × Nat)}{vL vP vK:Value}{bk:BO}
variable {R:Ending→World→Prop}
theorem zb1 (q:Nat)(hq:w'.heap[q]?=some (.cells #[.slice none 0 0,.int .i64 0,.int .i64 0,.slice none 0 0,.slice none 0 0,.int .i64 0,.slice none 0 0] 78 (0,0)))(o:own q=⟨c,0,0,eb⟩):YE own c w' q zjc:=by
 refine⟨.slice none 0 0,.slice none 0 0,.slice none 0 0,[],[],⟨o,hq,World.ownsRow_nil _ _ _ _,?_,rfl,World.ownsRow_nil _ _ _ _,?_,?_,?_,World.ownsRow_nil _ _ _ _,?_⟩,by simp[zjc],rfl,λi x b h=>by simp at h⟩
 ·intro b e;cases e
 ·intro b e;cases e
 ·intro i hi;exact absurd hi (by simp[zjc])
 ·intro i hi;exact absurd hi (by simp)
 ·intro b e;cases e
theorem zwt:(Tryz.prog.info? 81).map (λi=>(i.zero,i.size,i.bytes))=some (some (.agg #[.pointer none,.pointer none]),2,16):=by kernel_rfl
theorem zl0 (w:World)(o:Obj)(x y:Value)(t:TypeId):∀j u,[x,y][j]?=some u→((w.alloc o).alloc (.cells #[x,y] t)).cell? ((⟨w.heap.size+1,0,none⟩:Addr).add j)=some u:=by
 have h:=zqh (w.alloc o) x y t
 have e:(w.alloc o).heap.size=w.heap.size+1:=by simp
 rw[e]at h
 exact h
theorem z1l (l:List (Nat × Nat))(q:Nat × Nat):zce (l++[q])=zce l++[.pointer (some ⟨q.1,0,none⟩),.pointer (some ⟨q.2,0,none⟩)]:=by simp[zce]
def z5h:Obj:=.cells #[.slice none 0 0,.int .i64 0,.int .i64 0,.slice none 0 0,.slice none 0 0,.int .i64 0,.slice none 0 0] 78
def zrf (own:Nat→Lab)(n i:Nat)(b:Nat):Lab:=
 if b<n then own b else if b=n+1 then ⟨2*i+2,3,0,eb⟩ else if b=n+2 then ⟨2*i+2,4,0,eb⟩ else if b=n+3 then ⟨2*i+2,2,0,eb⟩ else if b=n+4 then ⟨2*i+2,1,0,eb⟩ else if b=n+5 then ⟨2*i+2,10,0,eb⟩ else if b=n+6 then ⟨2*i+2,0,0,eb⟩
 else if b=n+7 then ⟨2*i+3,0,0,eb⟩ else if b=n+9 then ⟨0,1,0,eb⟩ else zt
theorem zvn (n i:Nat){b:Nat}(h:b<n):zrf own n i b=own b:=by simp[zrf,h]
theorem Inv.grown (h:Inv own w p ds vL vP vK bk nt){w3 w4:World}{v4:Value}{o:Obj}(k3:Kp (λ_=>False) w w3)(s3:w3.heap.size=w.heap.size+1+6)
  (b0:w3.heap[w.heap.size+1]?=some (.map #[] 0)) (b1:w3.heap[w.heap.size+1+1]?=some (.map #[] 0)) (b2:w3.heap[w.heap.size+1+3]?=some (.map #[] 0)) (b5:w3.heap[w.heap.size+1+4]?=some (.map #[] 0))
  (b3:w3.heap[w.heap.size+1+2]?=some (.cells #[.map (some (w.heap.size+1)),.map (some (w.heap.size+1+1))] 209 (0,0)))
  (b4:w3.heap[w.heap.size+1+5]?=some (.cells (zgk (w.heap.size+1+3) (w.heap.size+1+2) (w.heap.size+1+4)) 102 (0,0)))
  (g4:((w3.alloc z5h).alloc o).grownBy w4 vL.ownBlock) (l4:v4.ownBlock=vL.ownBlock∨v4.ownBlock=some ((w3.alloc z5h).alloc o).heap.size)
  (r4:w4.ownsRow 0 81 2 v4 (ds.length+1) (zce ds++[.pointer (some ⟨w.heap.size+1+5,0,none⟩),.pointer (some ⟨w3.heap.size,0,none⟩)])) :
  Kp (λb=>own b≠zt) w (w4.setCell ⟨p,0,none⟩ v4)∧Inv (zrf own w.heap.size ds.length) (w4.setCell ⟨p,0,none⟩ v4) p (ds++[(w.heap.size+1+5,w3.heap.size)]) v4 vP vK bk (nt+1):=by
 have lp:=zh h.book.world
 have lL:∀b,vL.ownBlock=some b→b<w.heap.size:=λb e=>(h.rowL.lt b e).2
 have npL:vL.ownBlock≠some p:=λe=>by
  have:=h.ownL p e
  rw[h.book.ownP]at this;simp at this
 have k4:Kp (λb=>vL.ownBlock=some b) w3 w4:=((Kp.alloc _ _ _).trans (Kp.alloc (λb=>vL.ownBlock=some b) _ _) (λ_ _ h=>h)).trans (Kp.of_grown (S:=λb=>vL.ownBlock=some b) g4 (λ_ h=>h)) (λ_ _ h=>h)
 have k5:Kp (λb=>b=p) w4 (w4.setCell ⟨p,0,none⟩ v4):=Kp.setCell w4 _ _ rfl
 have kk:Kp (λb=>vL.ownBlock=some b∨b=p) w (w4.setCell ⟨p,0,none⟩ v4):=((kpF k3).trans (k4.mono (S':=λb=>vL.ownBlock=some b∨b=p) (λ_ _ h=>Or.inl h)) (λ_ _ h=>h)).trans (k5.mono (S':=λb=>vL.ownBlock=some b∨b=p) (λ_ _ h=>Or.inr h)) (λ_ _ h=>h)
 -- blocks since w
 have nw:∀b o,w.heap.size≤b→w3.heap[b]?=some o→(w4.setCell ⟨p,0,none⟩ v4).heap[b]?=some o:=λb o hb e=>
  ((k5.block b (Nat.lt_of_lt_of_le (zh e) k4.size) (λe=>by omega)).trans (k4.block b (zh e) (λe=>by have:=lL b e;omega))).trans e
 have by4:w4.heap[w3.heap.size]?=some z5h:=by
  rw[g4.block w3.heap.size (by simp;omega) (λe=>by have:=lL _ e.symm;omega),Below.heap_alloc _ _ _ (by simp)]
  exact heap_alloc_new w3 _
 have by5:(w4.setCell ⟨p,0,none⟩ v4).heap[w3.heap.size]?=some z5h:=(k5.block _ (zh by4) (λe=>by omega)).trans by4
 have T:∀b,b<w.heap.size→own b≠⟨0,0,0,eb⟩→own b≠⟨0,1,0,eb⟩→(w4.setCell ⟨p,0,none⟩ v4).heap[b]?=w.heap[b]?:=λb hb n0 n1=>kk.block b hb (λe=>by
  rcases e with e|e
  ·exact n1 (h.ownL b e)
  ·exact n0 (by rw[e];exact h.book.ownP))
 have A:∀b,b<w.heap.size→zrf own w.heap.size ds.length b=own b:=λb hb=>zvn _ _ hb
 have hp4:w4.heap[p]?=some (.cells (zcf vL vP vK bk) 68 (0,0)):=(k4.block p (Nat.lt_of_lt_of_le lp k3.size) npL).trans ((k3.block p lp (λe=>e)).trans h.book.world)
 have B:=h.book
 have hnd:=h.nds
 have hnb:=h.nbk
 refine⟨kk.mono (λb _ e=>?_),⟨⟨(A p lp).trans B.ownP,?_,?_,?_,?_,?_,B.four,?_,?_,B.num⟩,?_,?_,?_,by simp;omega,by omega,h.tab.block (T 0 h.tab.lt.1 (by rw[h.tabO.1];simp[zt]) (by rw[h.tabO.1];simp[zt])) (T 1 h.tab.lt.2 (by rw[h.tabO.2];simp[zt]) (by rw[h.tabO.2];simp[zt])),⟨(A 0 h.tab.lt.1).trans h.tabO.1,(A 1 h.tab.lt.2).trans h.tabO.2⟩,h.more.frame (λb hb hl=>T b hb (λe=>by rw[e]at hl;unfold BqL at hl;simp at hl) (λe=>by rw[e]at hl;unfold BqL at hl;simp at hl)) (λb hb _=>A b hb)⟩⟩
 ·rcases e with e|e
  ·rw[h.ownL b e];simp[zt]
  ·rw[e,B.ownP];simp[zt]
 ·exact zq hp4 _
 ·exact zl B.rowP (λb e=>T b (B.rowP.lt b e).2 (by rw[B.ownQ b e];simp) (by rw[B.ownQ b e];simp))
 ·exact λb e=>(A b (B.rowP.lt b e).2).trans (B.ownQ b e)
 ·exact zl B.rowK (λb e=>T b (B.rowK.lt b e).2 (by rw[B.ownK b e];simp) (by rw[B.ownK b e];simp))
 ·exact λb e=>(A b (B.rowK.lt b e).2).trans (B.ownK b e)
 ·exact λq hq=>zl (B.lists q hq) (λb e=>T b ((B.lists q hq).lt b e).2 (λe2=>by have:=B.ownR q hq b e;rw[e2]at this;simp at this) (λe2=>by have:=B.ownR q hq b e;rw[e2]at this;simp at this))
 ·exact λq hq b e=>by rw[A b ((B.lists q hq).lt b e).2];exact B.ownR q hq b e
 ·rw[List.length_append,z1l]
  refine zi r4 k5 (λb e e2=>?_)
  rcases l4 with l4|l4
  ·exact npL (by rw[← l4,← e2];exact e)
  ·rw[l4]at e
   injection e with e
   simp at e
   omega
 ·intro b e
  rcases l4 with l4|l4
  ·rw[l4]at e
   exact (A b (lL b e)).trans (h.ownL b e)
  ·rw[l4]at e
   injection e with e
   simp[s3]at e
   have:b=w.heap.size+9:=by omega
   subst this
   unfold zrf
   rw[if_neg (by omega),if_neg (by omega),if_neg (by omega),if_neg (by omega),if_neg (by omega),if_neg (by omega),if_neg (by omega),if_neg (by omega),if_pos (by omega)]
 ·intro i hi
  by_cases hd:i<ds.length
  ·rw[List.getElem_append_left hd]
   refine ((h.duos i hd).frame (λb hb hc=>?_) (λb hb _=>A b hb)).mono (by omega)
   have nz:∀l:Lab,l.c≤1→l≠zt→own b≠l:=λl hl h9 e=>by
    rcases hc with hc|hc
    ·unfold Cap at hc
     rw[e]at hc
     rcases hc with hc|hc<;>omega
    ·exact h9 (e.symm.trans hc)
   exact T b hb (nz _ (by simp) (by simp[zt])) (nz _ (by simp) (by simp[zt]))
  ·have hi':i=ds.length:=by simp at hi;omega
   subst hi'
   simp only[List.getElem_append_right (Nat.le_refl _),Nat.sub_self,List.getElem_cons_zero]
   refine⟨zdc (w.heap.size+1+4),zjc,?_,?_,z1r _,zfs,by simp[zjc]⟩
   ·exact z90 (w.heap.size+1) (nw _ _ (by omega) b0) (nw _ _ (by omega) b1) (nw _ _ (by omega) b2) (nw _ _ (by omega) b5) (nw _ _ (by omega) b3) (nw _ _ (by omega) b4) (by unfold zrf;rw[if_neg (by omega),if_pos (by omega)]) (by unfold zrf;rw[if_neg (by omega),if_neg (by omega),if_pos (by omega)]) (by unfold zrf;rw[if_neg (by omega),if_neg (by omega),if_neg (by omega),if_pos (by omega)]) (by unfold zrf;rw[if_neg (by omega),if_neg (by omega),if_neg (by omega),if_neg (by omega),if_pos (by omega)]) (by unfold zrf;rw[if_neg (by omega),if_neg (by omega),if_neg (by omega),if_neg (by omega),if_neg (by omega),if_pos (by omega)]) (by unfold zrf;rw[if_neg (by omega),if_neg (by omega),if_neg (by omega),if_neg (by omega),if_neg (by omega),if_neg (by omega),if_pos (by omega)])
   ·exact zb1 w3.heap.size by5 (by unfold zrf;rw[if_neg (by omega),if_neg (by omega),if_neg (by omega),if_neg (by omega),if_neg (by omega),if_neg (by omega),if_neg (by omega),if_pos (by omega)])
set_option maxRecDepth 20000 in
set_option maxHeartbeats 2000000 in
theorem zj0 (h:Inv own w p ds vL vP vK bk nt)(hnt:nt<1000000)(e a b:Int)(st tt:ByteArray)(vl vm:Value)
  (hK:∀w' own' vL' q,Kp (λb=>own b≠zt) w w'→(∀b,b<w.heap.size→own' b=own b)→Inv own' w' p (ds++[q]) vL' vP vK bk (nt+1)→R (.returned (.bool true)) w') :
  Calls Tryz.prog 31 #[.pointer (some ⟨p,0,none⟩),.agg #[.int .i64 1,.int .i64 e,.int .i64 a,.int .i64 b,.string st,.string tt,vl,vm]] w R:=by
 have H:=ze h
 have HK:=ze hK
 have HNT:=ze hnt
 obtain⟨i0,hi⟩:=info_parts zwt
 have HI:=ze hi
 have lp:p<w.heap.size:=zh h.book.world
 have c0:w.cell? ⟨p,0,none⟩=some vL:=zg h.book.world 0
 have C0:=ze c0
 have HL:=ze h.rowL
 have LP:=ze lp
 have HW:=ze h.book.world
 have NPL:Hid (vL.ownBlock≠some p):=λe=>by
  have:=h.ownL p e
  rw[h.book.ownP]at this;simp at this
 have HND:Hid (ds.length≤nt):=h.nds
 clear h hK hnt hi lp c0
 go_enter Tryz.func31,Tryz.ntmps31
 go_wp2_with (first
  |(go_at_call 33;refine zfr _ (w.heap.size+1) ?_ (λw3 k3 s3 b0 b1 b2 b5 b3 b4=>?_);(simp);have k3':=(Kp.alloc (λ_=>False) w (.cells #[.int .i64 1,.int .i64 e,.int .i64 a,.int .i64 b,.string st,.string tt,vl,vm] 71)).trans k3 (λ_ _ h=>h);have d0:=(k3'.cell (a:=⟨p,0,none⟩) LP.out (λh=>h)).trans C0.out;have K3:=ze k3';have S3:=ze s3;have B0:=ze b0;have B1:=ze b1;have B2:=ze b2;have B5:=ze b5;have B3:=ze b3;have B4:=ze b4;clear k3 k3' s3 b0 b1 b2 b5 b3 b4)
  |(at_builtin;refine zz rfl _ _ 62 rfl 0 81 i0 (.agg #[.pointer none,.pointer none]) 2 16 Tryz.underlying62 HI.out.1 HI.out.2.1 HI.out.2.2.1 HI.out.2.2.2 rfl (by decide) _ _ _ rfl (((zi HL.out K3.out (λ_ _ h=>h)).alloc _).alloc _) ⟨w3.heap.size+1,0,none⟩ 1 1 [.pointer (some ⟨w.heap.size+1+5,0,none⟩),.pointer (some ⟨w3.heap.size,0,none⟩)] rfl rfl (zl0 w3 _ _ _ _) (by simp[Value.oneCell']) (by have:=HNT.out;have:=HND.out;unfold maxLen;omega) (by have:=HNT.out;have:=HND.out;omega) (Nat.zero_le _) (by decide) ?_;intro v4 w4 own4 grow4 loc4 keep4;have hk4:=((Kp.alloc (λb=>vL.ownBlock=some b) w3 z5h).trans (Kp.alloc (λb=>vL.ownBlock=some b) _ _) (λ_ _ h=>h)).trans (Kp.of_grown (S:=λb=>vL.ownBlock=some b) grow4 (λ_ h=>h)) (λ_ _ h=>h);have hp4:=mbs hk4 ((K3.out.block p LP.out (λh=>h)).trans HW.out) NPL.out;have y0:w4.cell? ⟨p,0,none⟩=some vL:=zg hp4 0;have yf:=zx hp4 0;obtain⟨a4,cap4,rfl,_⟩:=zr own4;have HF:=ze (H.out.grown K3.out S3.out B0.out B1.out B2.out B5.out B3.out B4.out grow4 loc4 own4);clear hk4 hp4 own4 grow4 loc4 keep4)
  |fail)
 exact HK.out _ _ _ _ HF.out.1 (λ_ hb=>zvn _ _ hb) HF.out.2
end
end
section
open Go.RowKit
theorem zh0 (k:Int){n j:Nat}(h:j<n):(z9c k n)[j]?=some (zfj k j):=by
 unfold z9c
 rw[List.getElem?_map,List.getElem?_range h]
 rfl
theorem zkp (k:Int)(n:Nat):(z9c k n).length=n:=by simp[z9c]
theorem zhi (k:Int)(n:Nat):z9c k (n+1)=z9c k n++[zfj k n]:=by
 unfold z9c
 rw[List.range_succ,List.map_append]
 rfl
theorem zpq (k:Int)(w:World)(g:Nat)(hg:w.heap[g]?=some (.cells (ztn k) 5 (0,0))):(convert 48 9 (.slice (some ⟨g,0,none⟩) 2 2)).run Tryz.prog w = .ok (.string (zsc k)) w:=by
 have h:=run_convert_bytes_back (P:=Tryz.prog) w 48 9 5 ⟨g,0,none⟩ 2 [UInt8.ofNat (k % 256).toNat,UInt8.ofNat (k / 256 % 256).toNat] Tryz.underlying48 Tryz.underlying5 Tryz.underlying9 (λj hj=>?_)
 ·exact h
 ·have e1:((UInt8.ofNat (k % 256).toNat).toNat:Int)=k % 256:=by
   rw[UInt8.toNat_ofNat'];omega
  have e2:((UInt8.ofNat (k / 256 % 256).toNat).toNat:Int)=k / 256 % 256:=by
   rw[UInt8.toNat_ofNat'];omega
  rcases (by simpa using hj:j<2) with hj2
  rcases (by omega:j=0∨j=1) with rfl|rfl
  ·show World.cell? _ ⟨g,0,none⟩=_
   rw[zg hg]
   show some _=some _
   simp only[List.getElem_cons_zero,e1]
   rfl
  ·show World.cell? _ ⟨g,1,none⟩=_
   rw[zg hg]
   show some _=some _
   simp only[List.getElem_cons_succ,List.getElem_cons_zero,e2]
   rfl
section
variable {R:Ending→World→Prop}{own:Nat→Lab}{w:World}{p:Nat}{vL vP vK:Value}{bk:BO}
set_option maxRecDepth 20000 in
set_option maxHeartbeats 400000 in
theorem zzi (k:Int)(x:Int)(i:Nat)(hx:x=i)(w:World)(hk:0≤k∧k<1000000000000)(hi:i<100000000)(hR:R (.returned (.int .u8 (zaf k i))) w) :
  Calls Tryz.prog 65 #[.int .i64 k,.int .i64 x] w R:=by
 subst hx
 obtain⟨hk1,hk2⟩:=hk
 have hi':(i:Int)<100000000:=by omega
 by_cases q:i % 2=0
 ·have e:zaf k i=k % 256:=by simp[zaf,q]
  rw[e]at hR
  have HR:=ze hR
  have q':(i:Int) % 2=0:=by omega
  have q2:((i:Int) % 2 == 0)=true:=by simpa using q'
  clear hR e q
  go_enter Tryz.func65,Tryz.ntmps65
  go_wp2
  exact HR.out
 ·have e:zaf k i=k / 256 % 256:=by simp[zaf,q]
  rw[e]at hR
  have HR:=ze hR
  have q':¬(i:Int) % 2=0:=by omega
  have q2:((i:Int) % 2 == 0)=false:=by simpa using q'
  clear hR e q
  go_enter Tryz.func65,Tryz.ntmps65
  go_wp2
  exact HR.out
set_option maxRecDepth 20000 in
set_option maxHeartbeats 4000000 in
theorem zjz (h:Bk own w p vL vP vK bk)(hq:Bq own w bk)(hb:bk.l.length<10000000)(hb2:bk.b.length<100000000000)(hb3:bk.f.length<10000000)(hR:∀w',Kp (λ_=>False) w w'→R (.returned (.bool true)) w') :
  Calls Tryz.prog 32 #[.pointer (some ⟨p,3,none⟩)] w R:=by
 have H:=ze h
 have HQ:=ze hq
 have HR:=ze hR
 obtain⟨aP,capP,hvP,hcP⟩:=zr h.rowP
 obtain⟨aB,capB,hvB,hcB⟩:=zr hq.rowB
 obtain⟨aF,capF,hvF,hcF⟩:=zr hq.rowF
 have c3:w.cell? ⟨p,3,none⟩=some bk.vB:=zg h.world 3
 have c4:w.cell? ⟨p,4,none⟩=some bk.vI:=zg h.world 4
 have c5:w.cell? ⟨p,5,none⟩=some vP:=zg h.world 5
 have c6:w.cell? ⟨p,6,none⟩=some vK:=zg h.world 6
 have c7:w.cell? ⟨p,7,none⟩=some bk.vF:=zg h.world 7
 have c8:w.cell? ⟨p,8,none⟩=some bk.vJ:=zg h.world 8
 have lp:p<w.heap.size:=zh h.world
 have HLP:=ze lp
 have hb':(bk.l.length:Int)<10000000:=by omega
 have hb2':(bk.b.length:Int)<100000000000:=by omega
 have hb3':(bk.f.length:Int)<10000000:=by omega
 have C3:=ze c3
 have C4:=ze c4
 have C5:=ze c5
 have C6:=ze c6
 have C7:=ze c7
 have C8:=ze c8
 have HVP:=ze hvP
 have HVB:=ze hvB
 have HVF:=ze hvF
 clear h hq hR c3 c4 c5 c6 c7 c8 lp hvP hvB hvF hcP hcB hcF
 go_enter Tryz.func32,Tryz.ntmps32
 go_wp2
 go_loopw [3] (λv3 wr=>∃i:Nat,i≤bk.b.length∧v3 = .int .i64 i∧Kp (λ_=>False) w wr) (λv3 _=>bk.b.length-(intOf v3).toNat)
 case atStart=>exact⟨0,Nat.zero_le _,rfl,Kp.refl _ _⟩
 case round=>
  obtain⟨i,hile,rfl,hkp⟩:=hrel
  have d3:=(hkp.cell (a:=⟨p,3,none⟩) HLP.out (λh=>h)).trans C3.out
  have HKP:=ze hkp
  rw[HVB.out]at d3
  by_cases hin:i<bk.b.length
  ·have hin':(i:Int)<bk.b.length:=by omega
   obtain⟨gI,capI,hvI,hcI,q4⟩:=z4h HQ.out.rowI i hin
   obtain⟨gB,capB',hvB',hcB',q3⟩:=z4h HQ.out.rowB i hin
   rw[List.getElem?_map,List.getElem?_eq_getElem hin,Option.map_some]at q3 q4
   have hnum:=HQ.out.numB bk.b[i] (List.getElem_mem hin)
   have hlist:=HQ.out.listsB bk.b[i] (List.getElem_mem hin)
   generalize bk.b[i]=e at q3 q4 hnum hlist
   obtain⟨u,n,k⟩:=e
   rw[HVB.out]at hvB'
   injection hvB' with hvB' _ _
   subst hvB'
   obtain⟨hn1,hn2,hn3⟩:=hnum
   dsimp only at q3 q4 hlist hn1 hn2 hn3
   have HL:=ze hlist
   obtain⟨au,capu,rfl,hcu⟩:=zr hlist
   have Q3:=ze q3
   have Q4:=ze q4
   have HVI:=ze hvI
   have HIN:=ze hin
   clear q3 q4 hkp hlist hvI hin hile hcu hcI hcB'
   go_wp2
   go_loopw [4] (λv4 w1=>∃j:Nat,j≤n∧v4 = .int .i64 j∧Kp (λ_=>False) w w1) (λv4 _=>n-(intOf v4).toNat)
   case atStart=>exact⟨0,Nat.zero_le _,rfl,HKP.out⟩
   case round=>
    obtain⟨j,hjle,rfl,hkp1⟩:=hrel
    have d3:=(hkp1.cell (a:=⟨p,3,none⟩) HLP.out (λh=>h)).trans C3.out
    have d4:=(hkp1.cell (a:=⟨p,4,none⟩) HLP.out (λh=>h)).trans C4.out
    rw[HVB.out]at d3
    rw[HVI.out]at d4
    have r3:=(hkp1.cell (World.block_lt_of_cell? _ _ Q3.out) (λh=>h)).trans Q3.out
    have r4:=(hkp1.cell (World.block_lt_of_cell? _ _ Q4.out) (λh=>h)).trans Q4.out
    have HK1:=ze hkp1
    have hn3':(n:Int)<10000000:=by omega
    by_cases hjn:j<n
    ·have hjn':(j:Int)<n:=by omega
     obtain⟨gu,capu',hvu,hcu',qj⟩:=z4h HL.out j hjn
     injection hvu with hvu _ _
     subst hvu
     rw[zh0 k hjn]at qj
     have rj:=(hkp1.cell (World.block_lt_of_cell? _ _ qj) (λh=>h)).trans qj
     have HSG:=ze (λ(q:Nat)=>zzi (R:=λe w'=>e = .returned (.int .u8 (zaf k j))∧w'=wr.drewN q) k j j rfl (wr.drewN q) ⟨by omega,by omega⟩ (by omega) ⟨rfl,rfl⟩)
     clear hkp1 hjle qj hcu'
     unfold zfj at rj
     generalize zaf k j=z at rj HSG
     go_wp2
     go_quiet (first | (go_at_call 65;exact Calls.quiet_of_same (HSG.out _)))
     all_goals go_wp2
     all_goals go_roundw
     case rel=>exact⟨j+1,by omega,by go_num,HK1.out.trans (Kp.drewN _ _ _) (λ_ _ h=>h)⟩
     case measure=>simp[intOf];omega
    ·have hje:¬(j:Int)<n:=by omega
     clear hkp1 hjle d4 r4
     go_wp2
     go_roundw
     case rel=>exact⟨i+1,by have:=HIN.out;omega,by go_num,HK1.out⟩
     case measure=>have:=HIN.out;simp[intOf];omega
  ·have hnl:¬(i:Int)<bk.b.length:=by omega
   clear hkp hin hile
   go_wp2
   go_loopw [5] (λv5 w1=>∃i:Nat,i≤bk.l.length∧v5 = .int .i64 i∧Kp (λ_=>False) w w1) (λv5 _=>bk.l.length-(intOf v5).toNat)
   case atStart=>exact⟨0,Nat.zero_le _,rfl,HKP.out⟩
   case round=>
    clear d3 HKP
    obtain⟨i,hile,rfl,hkp⟩:=hrel
    have d5:=(hkp.cell (a:=⟨p,5,none⟩) HLP.out (λh=>h)).trans C5.out
    have d6:=(hkp.cell (a:=⟨p,6,none⟩) HLP.out (λh=>h)).trans C6.out
    by_cases hin:i<bk.l.length
    ·obtain⟨gK,capK,hvK,hcK,q6⟩:=z4h H.out.rowK i hin
     obtain⟨gP,capP',hvP,hcP',q5⟩:=z4h H.out.rowP i hin
     rw[List.getElem?_map,List.getElem?_eq_getElem hin,Option.map_some]at q5 q6
     have r5:=(hkp.cell (World.block_lt_of_cell? _ _ q5) (λh=>h)).trans q5
     have r6:=(hkp.cell (World.block_lt_of_cell? _ _ q6) (λh=>h)).trans q6
     have hnum:=H.out.num bk.l[i] (List.getElem_mem hin)
     have hlist:=H.out.lists bk.l[i] (List.getElem_mem hin)
     generalize bk.l[i]=e at q5 q6 r5 r6 hnum hlist
     obtain⟨u,n,k⟩:=e
     rw[hvP]at d5
     rw[hvK]at d6
     have hin':(i:Int)<bk.l.length:=by omega
     have HKP:=ze hkp
     have kc:=zrj k wr
     obtain⟨hn1,hn2,hn3⟩:=hnum
     dsimp only at r5 r6 hlist hn1 hn2 hn3
     have HL:=ze hlist
     clear q5 q6 hkp hlist hvK hvP hin hile
     go_wp2
     go_region
     obtain⟨hnl,au,capu,rfl,hcu,hx⟩:=zbl HL.out
     have HXU:=ze hx
     have hk2:Kp (λ_=>False) w (wr.alloc (.cells #[.int .u8 (k % 256),.int .u8 (k / 256 % 256)] 5)).drew:=(HKP.out.trans (Kp.alloc (λ_=>False) _ _) (λ_ _ h=>h)).trans (Kp.drew (λ_=>False) _) (λ_ _ h=>h)
     have hk2':Kp (λ_=>False) wr (wr.alloc (.cells #[.int .u8 (k % 256),.int .u8 (k / 256 % 256)] 5)).drew:=(Kp.alloc (λ_=>False) _ _).trans (Kp.drew (λ_=>False) _) (λ_ _ h=>h)
     have HLG:Hid (gP<wr.heap.size):=World.block_lt_of_cell? _ _ r5
     have HLW:Hid (p<wr.heap.size):=World.block_lt_of_cell? _ _ d5
     have R5:=ze r5
     have D5:=ze d5
     generalize (wr.alloc (.cells #[.int .u8 (k % 256),.int .u8 (k / 256 % 256)] 5)).drew=w2 at *
     have HK2:=ze hk2
     have HK2':=ze hk2'
     clear hx hk2 kc r6 d6 r5 d5 hk2'
     go_wp2
     go_loopw [7] (λv7 w3=>∃j:Nat,j≤n∧v7 = .int .i64 j∧Kp (λ_=>False) w2 w3) (λv7 _=>n-(intOf v7).toNat)
     case atStart=>exact⟨0,Nat.zero_le _,rfl,Kp.refl _ _⟩
     case round=>
      obtain⟨j,hjle,rfl,hkp3⟩:=hrel
      have hk3:=HK2'.out.trans hkp3 (λ_ _ h=>h)
      have r5:=(hk3.cell (a:=⟨gP,i,none⟩) HLG.out (λh=>h)).trans R5.out
      have d5:=(hk3.cell (a:=⟨p,5,none⟩) HLW.out (λh=>h)).trans D5.out
      have hn3':(n:Int)<10000000:=by omega
      have HK3:=ze (HK2.out.trans hkp3 (λ_ _ h=>h))
      have HK3':=ze hkp3
      by_cases hjn:j<n
      ·have hjn':(j:Int)<n:=by omega
       obtain⟨gu,rfl,q0,q1⟩:=HXU.out j (by simpa using hjn)
       rw[List.getElem_replicate]at q0 q1
       have z0:=(HK3.out.cell (World.block_lt_of_cell? _ _ q0) (λh=>h)).trans q0
       have z1:=(HK3.out.cell (World.block_lt_of_cell? _ _ q1) (λh=>h)).trans q1
       have z0':wr.cell? ⟨gu,j*2,none⟩=some (.string ⟨#[]⟩):=z0
       clear q0 q1 z0 hkp3 hk3 hjn hjle
       go_wp2
       go_roundw
       case rel=>exact⟨j+1,by omega,by go_num,HK3'.out⟩
       case measure=>simp[intOf];omega
      ·have hje:j=n:=by omega
       subst hje
       clear hkp3 hk3 hjn hjle
       go_wp2
       go_roundw
       case rel=>exact⟨i+1,by omega,by go_num,HK3.out⟩
       case measure=>simp[intOf];omega
    ·rw[HVP.out]at d5
     have HKP:=ze hkp
     have hnl:¬(i:Int)<bk.l.length:=by omega
     clear hkp hin hile d6
     go_wp2
     go_loopw [8] (λv8 w1=>∃i:Nat,i≤bk.f.length∧v8 = .int .i64 i∧Kp (λ_=>False) w w1) (λv8 _=>bk.f.length-(intOf v8).toNat)
     case atStart=>exact⟨0,Nat.zero_le _,rfl,HKP.out⟩
     case round=>
      clear d5 HKP
      obtain⟨i,hile,rfl,hkp⟩:=hrel
      have d7:=(hkp.cell (a:=⟨p,7,none⟩) HLP.out (λh=>h)).trans C7.out
      have d8:=(hkp.cell (a:=⟨p,8,none⟩) HLP.out (λh=>h)).trans C8.out
      have HKP:=ze hkp
      by_cases hin:i<bk.f.length
      ·obtain⟨gJ,capJ,hvJ,hcJ,q8⟩:=z4h HQ.out.rowJ i hin
       obtain⟨gF,capF',hvF',hcF',q7⟩:=z4h HQ.out.rowF i hin
       rw[List.getElem?_map,List.getElem?_eq_getElem hin,Option.map_some]at q7 q8
       have r7:=(hkp.cell (World.block_lt_of_cell? _ _ q7) (λh=>h)).trans q7
       have r8:=(hkp.cell (World.block_lt_of_cell? _ _ q8) (λh=>h)).trans q8
       have hnum:=HQ.out.numF bk.f[i] (List.getElem_mem hin)
       have hlist:=HQ.out.listsF bk.f[i] (List.getElem_mem hin)
       have hmark:=(HQ.out.markF bk.f[i] (List.getElem_mem hin)).1
       generalize bk.f[i]=e at q7 q8 r7 r8 hnum hlist hmark
       obtain⟨u,n,k,gm⟩:=e
       rw[hvF']at d7
       rw[hvJ]at d8
       have hin':(i:Int)<bk.f.length:=by omega
       have kc:=zrj k wr
       obtain⟨hn1,hn2,hn3⟩:=hnum
       dsimp only at r7 r8 hlist hn1 hn2 hn3 hmark
       have HL:=ze hlist
       have HM:=ze hmark
       clear q7 q8 hkp hlist hvJ hvF' hin hile hmark hcJ hcF'
       go_wp2
       go_region
       obtain⟨au,capu,rfl,hcu⟩:=zr HL.out
       have hk2:Kp (λ_=>False) w (wr.alloc (.cells #[.int .u8 (k % 256),.int .u8 (k / 256 % 256)] 5)).drew:=(HKP.out.trans (Kp.alloc (λ_=>False) _ _) (λ_ _ h=>h)).trans (Kp.drew (λ_=>False) _) (λ_ _ h=>h)
       have hk2':Kp (λ_=>False) wr (wr.alloc (.cells #[.int .u8 (k % 256),.int .u8 (k / 256 % 256)] 5)).drew:=(Kp.alloc (λ_=>False) _ _).trans (Kp.drew (λ_=>False) _) (λ_ _ h=>h)
       have HLG:Hid (gF<wr.heap.size):=World.block_lt_of_cell? _ _ r7
       have HLW:Hid (p<wr.heap.size):=World.block_lt_of_cell? _ _ d7
       have R7:=ze r7
       have D7:=ze d7
       generalize (wr.alloc (.cells #[.int .u8 (k % 256),.int .u8 (k / 256 % 256)] 5)).drew=w2 at *
       have HK2:=ze hk2
       have HK2':=ze hk2'
       clear hk2 kc r8 d8 r7 d7 hk2' hcu
       go_wp2
       go_loopw [10] (λv10 w3=>∃j:Nat,j≤n∧v10 = .int .i64 j∧Kp (λ_=>False) w2 w3) (λv10 _=>n-(intOf v10).toNat)
       case atStart=>exact⟨0,Nat.zero_le _,rfl,Kp.refl _ _⟩
       case round=>
        obtain⟨j,hjle,rfl,hkp3⟩:=hrel
        have hk3:=HK2'.out.trans hkp3 (λ_ _ h=>h)
        have r7:=(hk3.cell (a:=⟨gF,i,none⟩) HLG.out (λh=>h)).trans R7.out
        have d7:=(hk3.cell (a:=⟨p,7,none⟩) HLW.out (λh=>h)).trans D7.out
        have hn3':(n:Int)<10000000:=by omega
        have HK3:=ze (HK2.out.trans hkp3 (λ_ _ h=>h))
        have HK3':=ze hkp3
        by_cases hjn:j<n
        ·have hjn':(j:Int)<n:=by omega
         obtain⟨gu,capu',hvu,hcu',qj⟩:=z4h HL.out j hjn
         injection hvu with hvu _ _
         subst hvu
         rw[List.getElem?_replicate,if_pos hjn]at qj
         have rj:=(HK3.out.cell (World.block_lt_of_cell? _ _ qj) (λh=>h)).trans qj
         unfold zlf at rj
         have kcm:=zpq k wr gm ((HK3.out.block gm (zh HM.out) (λh=>h)).trans HM.out)
         clear qj hkp3 hk3 hjn hjle hcu'
         go_wp2
         go_roundw
         case rel=>exact⟨j+1,by omega,by go_num,HK3'.out⟩
         case measure=>simp[intOf];omega
        ·have hje:j=n:=by omega
         subst hje
         clear hkp3 hk3 hjn hjle
         go_wp2
         go_roundw
         case rel=>exact⟨i+1,by omega,by go_num,HK3.out⟩
         case measure=>simp[intOf];omega
      ·rw[HVF.out]at d7
       have hnl:¬(i:Int)<bk.f.length:=by omega
       clear hkp hin hile d8
       go_wp2
       exact HR.out _ HKP.out
end
end
end Go.Proofs.YthbdpfccfcceiaaGreatDoor
