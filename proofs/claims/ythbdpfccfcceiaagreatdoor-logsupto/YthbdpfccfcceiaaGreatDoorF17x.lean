/-
  Of the proof of logsUpto_card.
-/
import Derived.Test.YthbdpfccfcceiaaGreatDoorF12x
namespace Go.Proofs.YthbdpfccfcceiaaGreatDoor
section
open Go.RowKit Go.Maps Go.Lib
section
variable {R:Ending→World→Prop}
def zvm:Array Value:=#[.int .u8 0,.int .i64 0,.slice none 0 0]
set_option maxRecDepth 20000 in
set_option maxHeartbeats 1000000 in
theorem zjn (g o cap n:Nat)(w:World)(q:n<2)
  (hR:∀w',Kp (λ_=>False) w w'→R (.returned (.tuple #[.agg zvm,.slice none 0 0,.bool false])) w') :
  Calls Tryz.prog 129 #[.slice (some ⟨g,o,none⟩) n cap] w R:=by
 have q':(n:Int)<2:=by omega
 have b0:=heap_alloc_new w (.cells #[.int .u8 0,.int .i64 0,.slice none 0 0] 110)
 have k0:=Kp.alloc (λ_=>False) w (.cells #[.int .u8 0,.int .i64 0,.slice none 0 0] 110)
 have HR:=ze hR
 have B0:=ze b0
 have K0:=ze k0
 have SA:Hid (w.heap.size<(w.alloc (.cells #[.int .u8 0,.int .i64 0,.slice none 0 0] 110)).heap.size):=by show _<_;simp
 clear hR q k0 b0
 go_enter Tryz.func129,Tryz.ntmps129
 generalize hA:w.alloc (.cells #[.int .u8 0,.int .i64 0,.slice none 0 0] 110)=A at B0 K0 SA ⊢
 have c00:A.cell? ⟨w.heap.size,0,none⟩=some (.int .u8 0):=zg B0.out 0
 have c01:A.cell? ⟨w.heap.size,1,none⟩=some (.int .i64 0):=zg B0.out 1
 have c02:A.cell? ⟨w.heap.size,2,none⟩=some (.slice none 0 0):=zg B0.out 2
 have f00:=zj B0.out 0
 have f01:=zj B0.out 1
 have f02:=zj B0.out 2
 go_wp2_with fail
 refine bodyPost_ret (z9e rfl _ _ w.heap.size zvm rfl (zee (fr:=(0,0)) ?_ rfl)) rfl ?_
 ·exact zn (zn (zn B0.out _) _) _
 ·refine HR.out _ (K0.out.trans (S':=λb=>b=w.heap.size) ?_ (λb hb e=>by omega))
  exact ((Kp.setCell (S:=λb=>b=w.heap.size) _ _ _ rfl).trans (Kp.setCell (S:=λb=>b=w.heap.size) _ _ _ rfl) (λ_ _ h=>h)).trans (Kp.setCell (S:=λb=>b=w.heap.size) _ _ _ rfl) (λ_ _ h=>h)
set_option maxRecDepth 20000 in
set_option maxHeartbeats 2000000 in
theorem zzp (v:Value)(bs:List UInt8)(g:Nat)(w:World)(h:RdC w v bs g)(hg:g<w.heap.size)(hT:Tab w)(hl:bs.length≤1100000)
  (h1:(∀k t ws r,¬zfc bs k t ws r)→∀w',Kp (λ_=>False) w w'→R (.returned (.tuple #[.agg zvm,.slice none 0 0,.bool false])) w')
  (h2:∀(k t:Nat) ws r w' u v',zfc bs k t ws r→t<4294967296→(k=72→u = .slice none 0 0)→Kp (λ_=>False) w w'→WR w.heap.size w' u ws→RdC w' v' r g→R (.returned (.tuple #[.agg #[.int .u8 k,.int .i64 t,u],v',.bool true])) w') :
  Calls Tryz.prog 129 #[v] w R:=by
 obtain⟨o,cap,rfl,hcap,hc⟩:=h
 by_cases q:bs.length<2
 ·exact zjn g o cap _ w q (h1 (λk t ws r hh=>by have:=hh.1;omega))
 ·have k0:=Kp.alloc (λ_=>False) w (.cells #[.int .u8 0,.int .i64 0,.slice none 0 0] 110)
  have b0:=heap_alloc_new w (.cells #[.int .u8 0,.int .i64 0,.slice none 0 0] 110)
  have h0:RdC (w.alloc (.cells #[.int .u8 0,.int .i64 0,.slice none 0 0] 110)) (.slice (some ⟨g,o,none⟩) bs.length cap) bs g:=RdC.kept ⟨o,cap,rfl,hcap,hc⟩ k0
  have H0:=ze h0
  have K0:=ze k0
  have B0:=ze b0
  have HR1:=ze h1
  have HR2:=ze h2
  have HT:=ze hT
  have HL:=ze hl
  have HG:=ze hg
  have HQ:=ze q
  have SA:Hid (w.heap.size<(w.alloc (.cells #[.int .u8 0,.int .i64 0,.slice none 0 0] 110)).heap.size):=by show _<_;simp
  have q1:¬(bs.length:Int)<2:=by omega
  have q2:(0:Int)<bs.length:=by omega
  have q3:(1:Int)<bs.length:=by omega
  have q4:0<bs.length:=by omega
  have q5:1<bs.length:=by omega
  have hx0:=(bs.getD 0 0).toNat_lt
  have hx1:=(bs.getD 1 0).toNat_lt
  have HC:Hid (∀j,j<bs.length→(w.alloc (.cells #[.int .u8 0,.int .i64 0,.slice none 0 0] 110)).cell? ⟨g,o+j,none⟩=some (b8 (bs.getD j 0))):=λj hj=>(k0.cell (a:=⟨g,o+j,none⟩) hg (λe=>e)).trans (hc j hj)
  have HLEN:Hid (z0e bs=(bs.getD 0 0).toNat+256*(bs.getD 1 0).toNat):=rfl
  clear h1 h2 hT hl hg q h0 b0 k0 hc
  go_enter Tryz.func129,Tryz.ntmps129
  generalize hA:w.alloc (.cells #[.int .u8 0,.int .i64 0,.slice none 0 0] 110)=A at B0 K0 SA H0 HC ⊢
  have d0:=HC.out 0 q4
  have d1:=HC.out 1 q5
  rw[Nat.add_zero]at d0
  unfold b8 at d0 d1
  generalize (bs.getD 0 0).toNat=x at d0 hx0 HLEN
  generalize (bs.getD 1 0).toNat=y at d1 hx1 HLEN
  go_wp2_with fail
  go_region_held3 (λw'=>w'.cell? ⟨g,o,none⟩=some (.int .u8 (x:Int))∧w'.cell? ⟨g,o+1,none⟩=some (.int .u8 (y:Int))) (go_keep) (fail)
  all_goals go_wp2_with fail
  have en:(2+((x:Int)+(y:Int)*256))=((2+z0e bs:Nat):Int):=by have:=HLEN.out;omega
  have hn:2+z0e bs≤100000:=by have:=HLEN.out;omega
  generalize hN:2+z0e bs=n at en hn
  have HN:=ze hN
  rw[en]
  clear en d0 d1 hA
  generalize (x:Int)=x'
  generalize (y:Int)=y'
  have kD:=Kp.drew (λ_=>False) A
  refine z1n _ bs g n A.drew (H0.out.kept kD) (Nat.lt_of_lt_of_le HG.out (K0.out.trans kD (λ_ _ h=>h)).size) (HT.out.kept (K0.out.trans kD (λ_ _ h=>h))) hn HL.out ?_ ?_
  ·intro e w1 hk1
   have k1:Kp (λ_=>False) A w1:=kD.trans hk1 (λ_ _ h=>h)
   have b1:=(k1.block _ (zh B0.out) (λe=>e)).trans B0.out
   have HF:=ze (HR1.out (λk t ws r hh=>by
    obtain⟨_,c,h1,_⟩:=hh
    rw[HN.out,e]at h1;cases h1))
   have K1:=ze (K0.out.trans k1 (λ_ _ h=>h))
   have B1:=ze b1
   have c00:w1.cell? ⟨w.heap.size,0,none⟩=some (.int .u8 0):=zg b1 0
   have c01:w1.cell? ⟨w.heap.size,1,none⟩=some (.int .i64 0):=zg b1 1
   have c02:w1.cell? ⟨w.heap.size,2,none⟩=some (.slice none 0 0):=zg b1 2
   have f00:=zj b1 0
   have f01:=zj b1 1
   have f02:=zj b1 2
   clear hk1 k1 b1 e
   go_wp2_with fail
   refine bodyPost_ret (z9e rfl _ _ w.heap.size zvm rfl (zee (fr:=(0,0)) ?_ rfl)) rfl ?_
   ·exact zn (zn (zn B1.out _) _) _
   ·refine HF.out _ (K1.out.trans (S':=λb=>b=w.heap.size) ?_ (λb hb e=>by omega))
    exact ((Kp.setCell (S:=λb=>b=w.heap.size) _ _ _ rfl).trans (Kp.setCell (S:=λb=>b=w.heap.size) _ _ _ rfl) (λ_ _ h=>h)).trans (Kp.setCell (S:=λb=>b=w.heap.size) _ _ _ rfl) (λ_ _ h=>h)
  ·intro v1 v2 w1 e hr1 hr2 hk1
   obtain⟨o1,c1,rfl,hcap1,hc1⟩:=hr1
   obtain⟨o2,c2,rfl,hcap2,hc2⟩:=hr2
   have hle:n+4≤bs.length:=by
    unfold zlc at e
    split at e
    ·cases e
    ·rename_i hq
     omega
   have l1:(bs.take n).length=n:=by rw[List.length_take];omega
   obtain⟨n2,hn2⟩:∃n2,(bs.drop (n+4)).length=n2:=⟨_,rfl⟩
   have HR3:Hid (RdC w1 (.slice (some ⟨g,o2,none⟩) n2 c2) (bs.drop (n+4)) g):=⟨o2,c2,by rw[hn2],hcap2,hc2⟩
   rw[l1]at hcap1 hc1
   have k1:Kp (λ_=>False) A w1:=kD.trans hk1 (λ_ _ h=>h)
   have n2':2≤n:=by have:=HN.out;omega
   obtain⟨body,hbody⟩:∃body,(bs.take n).drop 2=body:=⟨_,rfl⟩
   have HBY:=ze hbody
   have HE:=ze e
   have b1:=(k1.block _ (zh B0.out) (λe=>e)).trans B0.out
   have B1:=ze b1
   have K1:=ze (K0.out.trans k1 (λ_ _ h=>h))
   have S1:Hid (w.heap.size<w1.heap.size):=Nat.lt_of_lt_of_le SA.out k1.size
   have HG1:Hid (g<w1.heap.size):=Nat.lt_of_lt_of_le HG.out K1.out.size
   have HLB:Hid (body.length≤1100000):=by
    show _≤_
    rw[← hbody]
    have:=HL.out
    simp;omega
   have n3':(2:Int)≤n:=by omega
   have n4':(n:Int)≤100000:=by omega
   have hcap1':(n:Int)≤c1:=by omega
   rw[l1,hn2]
   by_cases q5:c1=2
   ·have q6:n=2:=by omega
    have HV:Hid (RdC w1 (.slice (some ⟨g,o1,none⟩) 0 0) body g):=hbody ▸ RdC.dropAll 2 (by rw[l1];omega)
    clear hbody hc1 hc2 hcap2 hk1 e b1 k1 hle l1 hn2 hcap1' n3' n4'
    subst q5
    rw[q6]
    go_wp2_with (first
     |(go_at_call 175;refine zel _ body g w1 HV.out HG1.out HLB.out ?_ ?_)
     |fail)
    ·intro hno w2 a b pu nu cu hk2
     have b2:=(hk2.block _ (zh B1.out) (λe=>e)).trans B1.out
     have HF1:=ze (HR1.out (λk t ws r hh=>by
      obtain⟨_,c,h1,h2⟩:=hh
      rw[HN.out,HE.out]at h1
      injection h1 with h1
      injection h1 with h1 _
      subst h1
      rw[HBY.out]at h2
      exact hno k t ws h2))
     have K2:=ze (K1.out.trans hk2 (λ_ _ h=>h))
     have B2:=ze b2
     have c00:w2.cell? ⟨w.heap.size,0,none⟩=some (.int .u8 0):=zg b2 0
     have c01:w2.cell? ⟨w.heap.size,1,none⟩=some (.int .i64 0):=zg b2 1
     have c02:w2.cell? ⟨w.heap.size,2,none⟩=some (.slice none 0 0):=zg b2 2
     have f00:=zj b2 0
     have f01:=zj b2 1
     have f02:=zj b2 2
     clear hno hk2 b2
     go_wp2_with fail
     refine bodyPost_ret (z9e rfl _ _ w.heap.size zvm rfl (zee (fr:=(0,0)) ?_ rfl)) rfl ?_
     ·exact zn (zn (zn (zn (zn (zn B2.out _) _) _) _) _) _
     ·refine HF1.out _ (K2.out.trans (S':=λb=>b=w.heap.size) ?_ (λb hb e=>by omega))
      exact (((((Kp.setCell (S:=λb=>b=w.heap.size) _ _ _ rfl).trans (Kp.setCell (S:=λb=>b=w.heap.size) _ _ _ rfl) (λ_ _ h=>h)).trans (Kp.setCell (S:=λb=>b=w.heap.size) _ _ _ rfl) (λ_ _ h=>h)).trans (Kp.setCell (S:=λb=>b=w.heap.size) _ _ _ rfl) (λ_ _ h=>h)).trans (Kp.setCell (S:=λb=>b=w.heap.size) _ _ _ rfl) (λ_ _ h=>h)).trans (Kp.setCell (S:=λb=>b=w.heap.size) _ _ _ rfl) (λ_ _ h=>h)
    ·intro k t ws w2 u hrec ht hu hk2 hw
     have b2:=(hk2.block _ (zh B1.out) (λe=>e)).trans B1.out
     have hcut:zfc bs k t ws (bs.drop (n+4)):=⟨by have:=HQ.out;omega,bs.take n,by rw[HN.out];exact HE.out,by rw[HBY.out];exact hrec⟩
     have hwl:∀b,u.ownBlock=some b→w.heap.size<b:=λb e=>by
      have h1:=(hw.lt b e).1
      have h2:=K1.out.size
      have:=S1.out
      omega
     have hwr:∀w',Kp (λb=>b=w.heap.size) w2 w'→WR w.heap.size w' u ws:=λw' k=>by
      have h:=zi hw k (λb e (h:b=w.heap.size)=>by have:=hwl b e;omega)
      exact⟨h.1,h.2.imp id (λ⟨g',cap',cur,e1,e2,e3⟩=>⟨g',cap',cur,e1,by have:=S1.out;omega,e3⟩)⟩
     obtain⟨pu,cu,rfl⟩:=zp hw
     have HF2:=ze (λw' (k':Kp (λb=>b=w.heap.size) w2 w')=>HR2.out k t ws (bs.drop (n+4)) w' (.slice pu ws.length cu) (.slice (some ⟨g,o2,none⟩) n2 c2) hcut ht hu ((K1.out.trans hk2 (λ_ _ h=>h)).trans k' (λb hb (e:b=w.heap.size)=>by omega)) (hwr w' k') ((HR3.out.kept hk2).kp k' (λ(e:g=w.heap.size)=>by have:=HG.out;omega)))
     have B2:=ze b2
     have c00:w2.cell? ⟨w.heap.size,0,none⟩=some (.int .u8 0):=zg b2 0
     have c01:w2.cell? ⟨w.heap.size,1,none⟩=some (.int .i64 0):=zg b2 1
     have c02:w2.cell? ⟨w.heap.size,2,none⟩=some (.slice none 0 0):=zg b2 2
     have f00:=zj b2 0
     have f01:=zj b2 1
     have f02:=zj b2 2
     clear hrec ht hu hk2 hw b2 hcut hwl hwr
     go_wp2_with fail
     refine bodyPost_ret (z9e rfl _ _ w.heap.size #[.int .u8 k,.int .i64 t,.slice pu ws.length cu] rfl (zee (fr:=(0,0)) ?_ rfl)) rfl ?_
     ·exact zn (zn (zn (zn (zn (zn B2.out _) _) _) _) _) _
     ·refine HF2.out _ ?_
      exact (((((Kp.setCell (S:=λb=>b=w.heap.size) _ _ _ rfl).trans (Kp.setCell (S:=λb=>b=w.heap.size) _ _ _ rfl) (λ_ _ h=>h)).trans (Kp.setCell (S:=λb=>b=w.heap.size) _ _ _ rfl) (λ_ _ h=>h)).trans (Kp.setCell (S:=λb=>b=w.heap.size) _ _ _ rfl) (λ_ _ h=>h)).trans (Kp.setCell (S:=λb=>b=w.heap.size) _ _ _ rfl) (λ_ _ h=>h)).trans (Kp.setCell (S:=λb=>b=w.heap.size) _ _ _ rfl) (λ_ _ h=>h)
   ·have HV:Hid (RdC w1 (.slice (some ⟨g,o1+2,none⟩) (n-2) (c1-2)) body g):=by
     have h:=RdC.drop (w:=w1) (g:=g) (o:=o1) (bs:=bs.take n) (cap:=c1) (by rw[l1];exact hcap1) (by rw[l1];exact hc1) 2 (by rw[l1];omega)
     rw[l1,hbody]at h
     exact h
    clear hbody hc1 hc2 hcap2 hk1 e b1 k1 hle l1 hn2
    go_wp2_with (first
     |(go_at_call 175;refine zel _ body g w1 HV.out HG1.out HLB.out ?_ ?_)
     |fail)
    ·intro hno w2 a b pu nu cu hk2
     have b2:=(hk2.block _ (zh B1.out) (λe=>e)).trans B1.out
     have HF1:=ze (HR1.out (λk t ws r hh=>by
      obtain⟨_,c,h1,h2⟩:=hh
      rw[HN.out,HE.out]at h1
      injection h1 with h1
      injection h1 with h1 _
      subst h1
      rw[HBY.out]at h2
      exact hno k t ws h2))
     have K2:=ze (K1.out.trans hk2 (λ_ _ h=>h))
     have B2:=ze b2
     have c00:w2.cell? ⟨w.heap.size,0,none⟩=some (.int .u8 0):=zg b2 0
     have c01:w2.cell? ⟨w.heap.size,1,none⟩=some (.int .i64 0):=zg b2 1
     have c02:w2.cell? ⟨w.heap.size,2,none⟩=some (.slice none 0 0):=zg b2 2
     have f00:=zj b2 0
     have f01:=zj b2 1
     have f02:=zj b2 2
     clear hno hk2 b2
     go_wp2_with fail
     refine bodyPost_ret (z9e rfl _ _ w.heap.size zvm rfl (zee (fr:=(0,0)) ?_ rfl)) rfl ?_
     ·exact zn (zn (zn (zn (zn (zn B2.out _) _) _) _) _) _
     ·refine HF1.out _ (K2.out.trans (S':=λb=>b=w.heap.size) ?_ (λb hb e=>by omega))
      exact (((((Kp.setCell (S:=λb=>b=w.heap.size) _ _ _ rfl).trans (Kp.setCell (S:=λb=>b=w.heap.size) _ _ _ rfl) (λ_ _ h=>h)).trans (Kp.setCell (S:=λb=>b=w.heap.size) _ _ _ rfl) (λ_ _ h=>h)).trans (Kp.setCell (S:=λb=>b=w.heap.size) _ _ _ rfl) (λ_ _ h=>h)).trans (Kp.setCell (S:=λb=>b=w.heap.size) _ _ _ rfl) (λ_ _ h=>h)).trans (Kp.setCell (S:=λb=>b=w.heap.size) _ _ _ rfl) (λ_ _ h=>h)
    ·intro k t ws w2 u hrec ht hu hk2 hw
     have b2:=(hk2.block _ (zh B1.out) (λe=>e)).trans B1.out
     have hcut:zfc bs k t ws (bs.drop (n+4)):=⟨by have:=HQ.out;omega,bs.take n,by rw[HN.out];exact HE.out,by rw[HBY.out];exact hrec⟩
     have hwl:∀b,u.ownBlock=some b→w.heap.size<b:=λb e=>by
      have h1:=(hw.lt b e).1
      have h2:=K1.out.size
      have:=S1.out
      omega
     have hwr:∀w',Kp (λb=>b=w.heap.size) w2 w'→WR w.heap.size w' u ws:=λw' k=>by
      have h:=zi hw k (λb e (h:b=w.heap.size)=>by have:=hwl b e;omega)
      exact⟨h.1,h.2.imp id (λ⟨g',cap',cur,e1,e2,e3⟩=>⟨g',cap',cur,e1,by have:=S1.out;omega,e3⟩)⟩
     obtain⟨pu,cu,rfl⟩:=zp hw
     have HF2:=ze (λw' (k':Kp (λb=>b=w.heap.size) w2 w')=>HR2.out k t ws (bs.drop (n+4)) w' (.slice pu ws.length cu) (.slice (some ⟨g,o2,none⟩) n2 c2) hcut ht hu ((K1.out.trans hk2 (λ_ _ h=>h)).trans k' (λb hb (e:b=w.heap.size)=>by omega)) (hwr w' k') ((HR3.out.kept hk2).kp k' (λ(e:g=w.heap.size)=>by have:=HG.out;omega)))
     have B2:=ze b2
     have c00:w2.cell? ⟨w.heap.size,0,none⟩=some (.int .u8 0):=zg b2 0
     have c01:w2.cell? ⟨w.heap.size,1,none⟩=some (.int .i64 0):=zg b2 1
     have c02:w2.cell? ⟨w.heap.size,2,none⟩=some (.slice none 0 0):=zg b2 2
     have f00:=zj b2 0
     have f01:=zj b2 1
     have f02:=zj b2 2
     clear hrec ht hu hk2 hw b2 hcut hwl hwr
     go_wp2_with fail
     refine bodyPost_ret (z9e rfl _ _ w.heap.size #[.int .u8 k,.int .i64 t,.slice pu ws.length cu] rfl (zee (fr:=(0,0)) ?_ rfl)) rfl ?_
     ·exact zn (zn (zn (zn (zn (zn B2.out _) _) _) _) _) _
     ·refine HF2.out _ ?_
      exact (((((Kp.setCell (S:=λb=>b=w.heap.size) _ _ _ rfl).trans (Kp.setCell (S:=λb=>b=w.heap.size) _ _ _ rfl) (λ_ _ h=>h)).trans (Kp.setCell (S:=λb=>b=w.heap.size) _ _ _ rfl) (λ_ _ h=>h)).trans (Kp.setCell (S:=λb=>b=w.heap.size) _ _ _ rfl) (λ_ _ h=>h)).trans (Kp.setCell (S:=λb=>b=w.heap.size) _ _ _ rfl) (λ_ _ h=>h)).trans (Kp.setCell (S:=λb=>b=w.heap.size) _ _ _ rfl) (λ_ _ h=>h)
end
end
section
open Go.RowKit Go.Maps Go.Lib
theorem zv1:(Tryz.prog.info? 110).map (λi=>(i.zero,i.size,i.bytes))=some (some (.agg #[.int .u8 0,.int .i64 0,.slice none 0 0]),3,40):=by kernel_rfl
structure zcd where
 k:Nat
 t:Nat
 ws:List W3
 u:Value
def zcd.cells (r:zcd):List Value:=[.int .u8 r.k,.int .i64 r.t,r.u]
def znd:List UInt8→List zcd→List UInt8→Prop
 |bs,[],rest=>bs=rest
 |bs,r::rs,rest=>∃m,zfc bs r.k r.t r.ws m∧znd m rs rest
theorem znd.snoc {r:zcd}{m':List UInt8}:∀{rs:List zcd} {bs m:List UInt8},znd bs rs m→zfc m r.k r.t r.ws m'→znd bs (rs++[r]) m'
 |[],bs,m,h,hc=>by
  have h:bs=m:=h
  subst h
  exact⟨m',hc,rfl⟩
 |a::rs,bs,m,⟨q,h1,h2⟩,hc=>⟨q,h1,znd.snoc h2 hc⟩
theorem zvk {bs c r:List UInt8}{n:Nat}(h:zlc bs n=some (c,r)):r.length+n+4=bs.length∧c=bs.take n∧r=bs.drop (n+4):=by
 unfold zlc at h
 split at h
 ·cases h
 ·rename_i hq
  injection h with h
  injection h with h1 h2
  refine⟨?_,h1.symm,h2.symm⟩
  rw[← h2,List.length_drop]
  omega
theorem zfc.len {bs r:List UInt8}{k t:Nat}{ws:List W3}(h:zfc bs k t ws r):r.length<bs.length:=by
 obtain⟨_,c,h1,_⟩:=h
 have:=(zvk h1).1
 omega
structure zeg (base:Nat)(w:World)(v:Value)(l:List zcd):Prop where
 row:w.ownsRow base 110 3 v l.length (l.flatMap zcd.cells)
 wr:∀r∈l,WR base w r.u r.ws
 hor:∀r∈l,r.k=72→r.u = .slice none 0 0
 lt:∀r∈l,r.t<4294967296
theorem z7 {w:World}{base base' e e' size size' n n':Nat}{v v':Value}{xs xs':List Value}(h:w.ownsRow base e size v n xs)(h':w.ownsRow base' e' size' v' n' xs')(he:e≠e'):∀b,v.ownBlock=some b→v'.ownBlock≠some b:=λb e1 e2=>by
 rcases h.2 with ⟨rfl,rfl⟩|⟨g,cap,cur,rfl,_,hg,_⟩
 ·cases e1
 ·rcases h'.2 with ⟨rfl,rfl⟩|⟨g',cap',cur',rfl,_,hg',_⟩
  ·cases e2
  ·cases e1;cases e2
   rw[hg]at hg'
   injection hg' with hg'
   injection hg' with _ hg'
   exact he hg'
theorem zeg.kept {base:Nat}{w w':World}{v:Value}{l:List zcd}(h:zeg base w v l)(k:Kp (λ_=>False) w w'):zeg base w' v l:=
 ⟨zi h.row k (λ_ _ e=>e),λr hr=>zi (h.wr r hr) k (λ_ _ e=>e),h.hor,h.lt⟩
theorem zeg.more {base:Nat}{w w':World}{v v':Value}{l:List zcd}{r:zcd}(h:zeg base w v l)(hr:WR base w r.u r.ws)(h2:r.k=72→r.u = .slice none 0 0)(h3:r.t<4294967296)
  (k:Kp (λb=>v.ownBlock=some b) w w') (hrow:w'.ownsRow base 110 3 v' (l.length+1) (l.flatMap zcd.cells++r.cells)):zeg base w' v' (l++[r]):=by
 have keep:∀{u ws},WR base w u ws→WR base w' u ws:=λhw=>zi hw k (λb e e2=>z7 hw h.row (by decide) b e e2)
 refine⟨?_,λx hx=>?_,λx hx=>?_,λx hx=>?_⟩
 ·rw[List.length_append,List.flatMap_append]
  simpa using hrow
 ·rcases List.mem_append.1 hx with hx|hx
  ·exact keep (h.wr x hx)
  ·rw[List.mem_singleton]at hx;subst hx;exact keep hr
 ·rcases List.mem_append.1 hx with hx|hx
  ·exact h.hor x hx
  ·rw[List.mem_singleton]at hx;subst hx;exact h2
 ·rcases List.mem_append.1 hx with hx|hx
  ·exact h.lt x hx
  ·rw[List.mem_singleton]at hx;subst hx;exact h3
theorem WR.base {base base':Nat}{w:World}{u:Value}{ws:List W3}(h:WR base w u ws)(hb:base'≤base):WR base' w u ws:=
 ⟨h.1,h.2.imp id (λ⟨g,cap,cur,e1,e2,e3⟩=>⟨g,cap,cur,e1,Nat.le_trans hb e2,e3⟩)⟩
structure z7v (bs:List UInt8)(n:Nat)(l:List zcd)(rest:List UInt8):Prop where
 num:z6d bs=some n
 recs:znd (bs.drop 11) l rest
 le:l.length≤4
 stop:l.length<4→∀k t ws r,¬zfc rest k t ws r
def zg3 (v:Value):Nat:=match v with | .slice _ n _=>n|_=>0
section
variable {R:Ending→World→Prop}
theorem zzv {ops:Array Oper}{rest:List Oper}{o:Oper}{a:Act}{Q:Exit→Act→World→Prop}(w:World)(hgd:o.guard=none)(s x:Operand)
  (ho:o.op = .call { callee:=.builtin .append,args:=#[s,x],argTypes:=#[114,114] })
  (base:Nat) (v:Value) (n:Nat) (xs:List Value) (hs:a.eval s=v) (hown:w.ownsRow base 110 3 v n xs) (g:Nat) (u1 u2 u3:Value) (hx:a.eval x = .slice (some ⟨g,0,none⟩) 1 1) (hu:w.heap[g]?=some (.cells #[u1,u2,u3] 110 (0,0))) (h1:∀u∈[u1,u2,u3],u.oneCell'=true) (hl:n≤1000) (hb:base≤w.heap.size)
  (h:∀v' w',w'.ownsRow base 110 3 v' (n+1) (xs++[u1,u2,u3])→Kp (λb=>v.ownBlock=some b) w w'→wpList Tryz.prog ops Q rest (a.put o.dst v') w') :
  wpList Tryz.prog ops Q (o::rest) a w:=by
 obtain⟨i0,hi,hz0,hz1,hz2⟩:=info_parts zv1
 refine wpList_append_own_at _ hgd s x 114 ho base 110 i0 (.agg #[.int .u8 0,.int .i64 0,.slice none 0 0]) 3 40 Tryz.underlying114 hi hz0 hz1 hz2 rfl (by decide) v n xs hs hown ⟨g,0,none⟩ 1 1 [u1,u2,u3] hx rfl (λj y hj=>?_) h1 (by unfold maxLen;omega) (by omega) hb (λv' w' r1 r2 _ _=>h v' w' r1 (Kp.of_grown r2 (λ_ e=>e)))
 rw[zub,Nat.zero_add,zg hu]
 simpa using hj
set_option maxRecDepth 20000 in
set_option maxHeartbeats 2000000 in
theorem z9z (v:Value)(bs:List UInt8)(g:Nat)(w:World)(h:RdN w v bs g)(hT:Tab w)(hl:bs.length≤1100000)
  (h1:z6d bs=none→∀w',Kp (λ_=>False) w w'→R (.returned (.tuple #[.int .i64 0,.slice none 0 0,.bool false])) w')
  (h2:∀(n:Nat) l rest v' w',z7v bs n l rest→Kp (λ_=>False) w w'→zeg w.heap.size w' v' l→R (.returned (.tuple #[.int .i64 n,v',.bool (decide (rest=[]))])) w') :
  Calls Tryz.prog 75 #[v] w R:=by
 have H:=ze h
 have HT:=ze hT
 have HL:=ze hl
 have H1:=ze h1
 have H2:=ze h2
 clear h hT hl h1 h2
 go_enter Tryz.func75,Tryz.ntmps75
 go_wp2_with (first
  |(go_at_call 128;refine z9n _ bs g _ H.out HT.out HL.out ?_ ?_)
  |fail)
 ·intro e w1 hk1
  have HF:=ze (H1.out e w1 hk1)
  clear hk1 e
  go_wp2_with fail
  refine bodyPost_ret (results_tmp3 rfl _ _ _) rfl ?_
  exact HF.out
 ·intro n v1 w1 e hg hr1 hk1
  have HE:=ze e
  have HG:=ze hg
  have HR1:=ze hr1
  have HK1:=ze hk1
  clear e hg hr1 hk1
  go_wp2_with fail
  go_loopw [3,5] (λv3 v5 wr=>∃l rest,l.length≤4∧Kp (λ_=>False) w wr∧zeg w.heap.size wr v3 l∧RdC wr v5 rest g∧znd (bs.drop 11) l rest∧rest.length≤bs.length) (λv3 _ _=>4-zg3 v3)
  case atStart=>exact⟨[],bs.drop 11,by simp,HK1.out,⟨World.ownsRow_nil _ _ _ _,λr hr=>(by cases hr),λr hr=>(by cases hr),λr hr=>(by cases hr)⟩,HR1.out,rfl,by simp⟩
  case round=>
   obtain⟨l,rest,hl4,hk,hrs,hrd,hra,hrl⟩:=hrel
   obtain⟨pu,cu,rfl⟩:=zp hrs.row
   obtain⟨o5,c5,rfl,hc51,hc52⟩:=hrd
   have HRD:Hid (RdC wr (.slice (some ⟨g,o5,none⟩) rest.length c5) rest g):=⟨o5,c5,rfl,hc51,hc52⟩
   have HK:=ze hk
   have HRS:=ze hrs
   have HRA:=ze hra
   have HRL:=ze hrl
   clear hk hrs hra hrl hc51 hc52
   by_cases q:l.length<4
   ·have q':(l.length:Int)<4:=by omega
    have HQ:=ze q
    have HGW:Hid (g<wr.heap.size):=Nat.lt_of_lt_of_le HG.out HK.out.size
    clear q hl4
    go_wp2_with (first
     |(go_at_call 129;refine zzp _ rest g wr HRD.out HGW.out (HT.out.kept HK.out) (Nat.le_trans HRL.out HL.out) ?_ ?_)
     |fail)
    ·intro hno w2 hk2
     have HF:=ze (λw' (k:Kp (λ_=>False) w2 w')=>H2.out n l rest (.slice pu l.length cu) w' ⟨HE.out,HRA.out,Nat.le_of_lt HQ.out,λ_=>hno⟩ ((HK.out.trans hk2 (λ_ _ h=>h)).trans k (λ_ _ h=>h)) ((HRS.out.kept hk2).kept k))
     clear hno hk2
     unfold zvm
     by_cases q0:rest=[]
     ·have q1:rest.length=0:=by rw[q0];rfl
      rw[show decide (rest=[])=true by simpa using q0]at HF
      rw[q1]
      clear q0
      go_wp2_with fail
      refine bodyPost_ret (results_tmp3 rfl _ _ _) rfl ?_
      exact HF.out _ (Kp.alloc _ _ _)
     ·have q1:((rest.length:Int) == 0)=false:=by
       have:rest.length≠0:=λe=>q0 (List.eq_nil_of_length_eq_zero e)
       simp;omega
      rw[show decide (rest=[])=false by simpa using q0]at HF
      clear q0
      go_wp2_with fail
      refine bodyPost_ret (results_tmp3 rfl _ _ _) rfl ?_
      exact HF.out _ (Kp.alloc _ _ _)
    ·intro k t ws r w2 u v' hcut ht hu hk2 hw hr2
     obtain⟨p3,c3,rfl⟩:=zp hw
     obtain⟨o6,c6,rfl,hc61,hc62⟩:=hr2
     have kA:=Kp.alloc (λ_=>False) w2 (.cells #[.int .u8 k,.int .i64 t,.slice p3 ws.length c3] 110)
     have kB:=kA.trans (Kp.alloc (λ_=>False) _ (.cells #[.int .u8 k,.int .i64 t,.slice p3 ws.length c3] 110)) (λ_ _ h=>h)
     have KB:=ze kB
     have K2:=ze hk2
     have HW:=ze (WR.base hw HK.out.size)
     have HU:=ze hu
     have HTT:=ze ht
     have HCUT:=ze hcut
     have HR6:Hid (RdC w2 (.slice (some ⟨g,o6,none⟩) r.length c6) r g):=⟨o6,c6,rfl,hc61,hc62⟩
     have sA:(w2.alloc (.cells #[.int .u8 k,.int .i64 t,.slice p3 ws.length c3] 110)).heap.size=w2.heap.size+1:=by simp
     have hbB:=heap_alloc_new (w2.alloc (.cells #[.int .u8 k,.int .i64 t,.slice p3 ws.length c3] 110)) (.cells #[.int .u8 k,.int .i64 t,.slice p3 ws.length c3] 110)
     rw[sA]at hbB
     have HBB:=ze hbB
     clear kA kB hcut ht hu hk2 hw hc61 hc62 sA hbB
     go_wp2_with (first
      |(at_builtin;refine zzv _ rfl _ _ rfl w.heap.size (.slice pu l.length cu) l.length _ rfl ((HRS.out.kept K2.out).kept KB.out).row (w2.heap.size+1) _ _ _ rfl HBB.out (by simp[Value.oneCell']) (by have:=HQ.out;omega) (HK.out.trans (K2.out.trans KB.out (λ_ _ h=>h)) (λ_ _ h=>h)).size ?_;intro v5 w5 hown5 hk5;have HOW:=ze hown5;have HK5:=ze hk5;clear hown5 hk5)
      |fail)
     go_roundw
     case rel=>
      have k2:=K2.out.trans KB.out (λ_ _ h=>h)
      refine⟨l++[⟨k,t,ws,.slice p3 ws.length c3⟩],r,by have:=HQ.out;simp;omega,?_,?_,?_,?_,?_⟩
      ·exact (HK.out.trans k2 (λ_ _ h=>h)).trans HK5.out (λb hb e=>by have:=(HRS.out.row.lt b e).1;omega)
      ·exact ((HRS.out.kept K2.out).kept KB.out).more (r:=⟨k,t,ws,.slice p3 ws.length c3⟩) (zi HW.out KB.out (λ_ _ e=>e)) HU.out HTT.out HK5.out HOW.out
      ·exact (HR6.out.kept KB.out).kp HK5.out (λe=>by have:=(HRS.out.row.lt g e).1;have:=HG.out;omega)
      ·exact znd.snoc (r:=⟨k,t,ws,.slice p3 ws.length c3⟩) HRA.out HCUT.out
      ·have:=HCUT.out.len;have:=HRL.out;omega
     case measure=>
      obtain⟨p5,c5',rfl⟩:=zp HOW.out
      have:=HQ.out
      simp[zg3];omega
   ·have q':¬(l.length:Int)<4:=by omega
    have HF:=ze (H2.out n l rest (.slice pu l.length cu) wr ⟨HE.out,HRA.out,hl4,λh=>absurd h q⟩ HK.out HRS.out)
    clear q hl4
    by_cases q0:rest=[]
    ·have q1:rest.length=0:=by rw[q0];rfl
     rw[show decide (rest=[])=true by simpa using q0]at HF
     rw[q1]
     clear q0
     go_wp2_with fail
     refine bodyPost_ret (results_tmp3 rfl _ _ _) rfl ?_
     exact HF.out
    ·have q1:((rest.length:Int) == 0)=false:=by
      have:rest.length≠0:=λe=>q0 (List.eq_nil_of_length_eq_zero e)
      simp;omega
     rw[show decide (rest=[])=false by simpa using q0]at HF
     clear q0
     go_wp2_with fail
     refine bodyPost_ret (results_tmp3 rfl _ _ _) rfl ?_
     exact HF.out
end
end
end Go.Proofs.YthbdpfccfcceiaaGreatDoor
