/-
  Of the proof of logsUpto_card.
-/
import Derived.Test.YthbdpfccfcceiaaGreatDoorG10x
namespace Go.Proofs.YthbdpfccfcceiaaGreatDoor
section
open Go.RowKit Go.Maps Go.Lib
section
variable {R:Ending→World→Prop}
theorem zkr (a b k K:Nat)(hK:K=2 ^ k)(h:a<K):a ||| (b*K)=a+b*K:=by
 subst hK
 have h1:=Nat.two_pow_add_eq_or_of_lt h b
 rw[Nat.or_comm,Nat.mul_comm b,← h1];omega
theorem z0i (n:Nat)(h:n<4294967296):IntKind.u32.wrap (n:Int)=(n:Int):=by
 simp only[IntKind.wrap,IntKind.bits,IntKind.signed]
 simp
 omega
theorem or4 (a b c d:Nat)(ha:a<256)(hb:b<256)(hc:c<256)(hd:d<256) :
  bits .or .u32 (bits .or .u32 (bits .or .u32 (IntKind.u32.wrap (a:Int)) (IntKind.u32.wrap (IntKind.u32.wrap (b:Int)*256))) (IntKind.u32.wrap (IntKind.u32.wrap (c:Int)*65536))) (IntKind.u32.wrap (IntKind.u32.wrap (d:Int)*16777216))=((a+256*b+65536*c+16777216*d:Nat):Int):=by
 have e1:(b:Int)*256=((b*256:Nat):Int):=by omega
 have e2:(c:Int)*65536=((c*65536:Nat):Int):=by omega
 have e3:(d:Int)*16777216=((d*16777216:Nat):Int):=by omega
 rw[z0i a (by omega),z0i b (by omega),z0i c (by omega),z0i d (by omega),e1,e2,e3,z0i _ (by omega),z0i _ (by omega),z0i _ (by omega)]
 rw[z7n _ _ (by omega) (by omega),zkr _ _ 8 256 (by decide) ha,z7n _ _ (by omega) (by omega),zkr _ _ 16 65536 (by decide) (by omega),z7n _ _ (by omega) (by omega),zkr _ _ 24 16777216 (by decide) (by omega)]
 omega
theorem z7w (l:List UInt8):le4 l<4294967296:=by
 unfold le4
 have h0:=(l.getD 0 0).toNat_lt
 have h1:=(l.getD 1 0).toNat_lt
 have h2:=(l.getD 2 0).toNat_lt
 have h3:=(l.getD 3 0).toNat_lt
 omega
set_option maxRecDepth 20000 in
set_option maxHeartbeats 1000000 in
theorem zff (r:Nat)(s:RS)(v:Value)(g:Nat)(w:World)(h:zgc w r s v g)(hl:s.bs.length≤1100000)
  (hR:∀w' v',zgc w' r s.four.2 v' g→Kp (λb=>b=r) w w'→R (.returned (.int .u32 (s.four.1:Nat))) w') :
  Calls Tryz.prog 174 #[.pointer (some ⟨r,0,none⟩)] w R:=by
 have H:=ze h
 have HL:=ze hl
 have HR:=ze hR
 have q90:∀(w:World) (a:Option Addr) (n c n' c':Nat),(binOp .eql 48 (.slice a n c) (.slice none n' c')).run Tryz.prog w = .ok (.bool a.isNone) w:=λw a n c n' c'=>Lib.run_eql_slice_nil w _ _ a n c n' c' Tryz.underlying48
 clear h hl hR
 go_enter Tryz.func174,Tryz.ntmps174
 go_wp2_with (first
  |(go_at_call 205;refine z2m r s v g 4 w H.out (by omega) HL.out ?_ ?_)
  |fail)
 ·intro e hr
  have HF:=ze (HR.out _ v (by unfold RS.four;exact hr) (Kp.setCell w _ _ rfl))
  have e1:s.four.1=0:=by simp[RS.four,e]
  rw[e1]at HF
  clear hr
  go_wp2_with fail
  exact HF.out
 ·intro l v1 v2 e hlen hr hrd
  have HRD:Hid (zgc (w.setCell ⟨r,0,none⟩ v2) r s.four.2 v2 g):=by unfold RS.four;exact hr
  have HKP:Hid (Kp (λb=>b=r) w (w.setCell ⟨r,0,none⟩ v2)):=Kp.setCell w _ _ rfl
  have E1:Hid (s.four.1=le4 l):=by simp[Hid,RS.four,e]
  obtain⟨o,cap,rfl,hcap,hc⟩:=hrd
  have hc0:=hc 0 (by omega)
  have hc1:=hc 1 (by omega)
  have hc2:=hc 2 (by omega)
  have hc3:=hc 3 (by omega)
  rw[hlen]
  have E2:Hid (le4 l=(l.getD 0 0).toNat+256*(l.getD 1 0).toNat+65536*(l.getD 2 0).toNat+16777216*(l.getD 3 0).toNat):=rfl
  generalize l.getD 0 0=x0 at E2 hc0
  generalize l.getD 1 0=x1 at E2 hc1
  generalize l.getD 2 0=x2 at E2 hc2
  generalize l.getD 3 0=x3 at E2 hc3
  have h0:=x0.toNat_lt
  have h1:=x1.toNat_lt
  have h2:=x2.toNat_lt
  have h3:=x3.toNat_lt
  simp only[b8,Nat.add_zero]at hc0 hc1 hc2 hc3
  clear hr hc
  go_wp2_with fail
  have HOR:=ze (or4 x0.toNat x1.toNat x2.toNat x3.toNat (by omega) (by omega) (by omega) (by omega))
  generalize hW:w.setCell ⟨r,0,none⟩ v2=W at hc0 hc1 hc2 hc3 HRD HKP ⊢
  clear hW
  go_region_held3 (λw'=>w'.cell? ⟨g,o,none⟩=some (.int .u8 (x0.toNat:Nat))∧w'.cell? ⟨g,o+1,none⟩=some (.int .u8 (x1.toNat:Nat))∧w'.cell? ⟨g,o+2,none⟩=some (.int .u8 (x2.toNat:Nat))∧w'.cell? ⟨g,o+3,none⟩=some (.int .u8 (x3.toNat:Nat))) (go_keep) (fail)
  all_goals
   have hfin:=HR.out W.drew v2 (HRD.out.kp (Kp.drew (λ_=>False) W) (λe=>e) (λe=>e)) (HKP.out.trans (Kp.drew _ _) (λ_ _ h=>h))
   rw[E1.out,E2.out,← HOR.out]at hfin
   have HF:=ze hfin
   clear hfin
   go_wp2_with fail
   exact HF.out
end
end
section
open Go.RowKit Go.Maps Go.Lib
def z7b (l:List UInt8):ByteArray:=⟨l.toArray⟩
def RS.key (s:RS):ByteArray × RS:=(z7b s.text.1,if zu (z7b s.text.1)=true then s.text.2 else s.text.2.bad)
def RS.ver (s:RS):(ByteArray × Bool) × RS:=
 if s.one.1=0 then ((z7b s.one.2.text.1,false),if (z7b s.one.2.text.1).size≤20 then s.one.2.text.2 else s.one.2.text.2.bad)
 else if s.one.1=1 then ((eb,true),s.one.2)
 else ((eb,false),s.one.2.bad)
def RS.done (s:RS):Bool:=!s.wr && s.bs.isEmpty
section
variable {R:Ending→World→Prop}
theorem RS.one_len (s:RS):s.one.2.bs.length≤s.bs.length:=by
 show (s.take 1).2.bs.length≤_
 unfold RS.take
 split
 ·exact Nat.le_refl _
 ·show (s.bs.drop 1).length≤_
  rw[List.length_drop];omega
theorem RS.one_lt (s:RS):s.one.1<256:=by
 unfold RS.one
 split
 ·exact UInt8.toNat_lt _
 ·omega
theorem zty (w:World):(convert 48 9 (.slice none 0 0)).run Tryz.prog w = .ok (.string ⟨#[]⟩) w:=by
 rw[run_convert_bytes_string (P:=Tryz.prog) w 48 9 5 none 0 0 Tryz.underlying48 Tryz.underlying5 Tryz.underlying9]
 rfl
theorem zyo (w:World)(g o cap:Nat)(l:List UInt8)(hc:∀j,j<l.length→w.cell? ⟨g,o+j,none⟩=some (b8 (l.getD j 0))):(convert 48 9 (.slice (some ⟨g,o,none⟩) l.length cap)).run Tryz.prog w = .ok (.string (z7b l)) w:=
 run_convert_bytes_back (P:=Tryz.prog) w 48 9 5 ⟨g,o,none⟩ cap l Tryz.underlying48 Tryz.underlying5 Tryz.underlying9 (λj hj=>by
  rw[zub,hc j hj]
  simp[b8,List.getD,hj])
set_option maxRecDepth 20000 in
set_option maxHeartbeats 1000000 in
theorem zdj (r:Nat)(s:RS)(v:Value)(g:Nat)(w:World)(h:zgc w r s v g)(hl:s.bs.length≤1100000)
  (hR:∀w' v',zgc w' r s.text.2 v' g→Kp (λb=>b=r) w w'→R (.returned (.string (z7b s.text.1))) w') :
  Calls Tryz.prog 260 #[.pointer (some ⟨r,0,none⟩)] w R:=by
 have H:=ze h
 have HL:=ze hl
 have HR:=ze hR
 have HO:=ze s.one_len
 have HO2:=ze s.one_lt
 clear h hl hR
 go_enter Tryz.func260,Tryz.ntmps260
 go_wp2_with (first
  |(go_at_call 206;refine ztf r s v g w H.out HL.out ?_;intro w1 v1 hr1 hk1;have H1:=ze hr1;have HK1:=ze hk1;clear hr1 hk1)
  |(go_at_call 205;refine z2m r s.one.2 v1 g s.one.1 w1 H1.out (by have:=HO2.out;omega) (by have:=HO.out;have:=HL.out;omega) ?_ ?_)
  |fail)
 ·intro e hr
  have HF:=ze (HR.out _ v1 (by unfold RS.text;exact hr) (HK1.out.trans (Kp.setCell (S:=λb=>b=r) _ _ _ rfl) (λ_ _ h=>h)))
  have e1:s.text.1=[]:=by simp[RS.text,e]
  rw[e1]at HF
  have q:=zty (w1.setCell ⟨r,1,none⟩ (.bool true))
  clear hr
  go_wp2_with fail
  exact HF.out
 ·intro l v2 v3 e hlen hr hrd
  have HF:=ze (HR.out _ v3 (by unfold RS.text;exact hr) (HK1.out.trans (Kp.setCell (S:=λb=>b=r) _ _ _ rfl) (λ_ _ h=>h)))
  have e1:s.text.1=l:=by simp[RS.text,e]
  rw[e1]at HF
  obtain⟨o,cap,rfl,hcap,hc⟩:=hrd
  have q:=zyo _ g o cap l hc
  clear hr hc hlen e e1 hcap
  go_wp2_with fail
  exact HF.out
theorem RS.text_len (s:RS):s.text.2.bs.length≤s.bs.length:=by
 have h:=s.one_len
 show ((s.one).2.take (s.one).1).2.bs.length≤_
 unfold RS.take
 split
 ·exact h
 ·show (s.one.2.bs.drop _).length≤_
  rw[List.length_drop];omega
theorem RS.text_small (s:RS):s.text.1.length≤255:=by
 have h:=s.one_lt
 show ((((s.one).2.take (s.one).1).1).getD []).length≤_
 unfold RS.take
 split
 ·simp
 ·simp;omega
theorem z5g (l:List UInt8):(z7b l).size=l.length:=by simp[z7b,ByteArray.size]
set_option maxRecDepth 20000 in
set_option maxHeartbeats 1000000 in
theorem zb0 (r:Nat)(s:RS)(v:Value)(g:Nat)(w:World)(h:zgc w r s v g)(hl:s.bs.length≤1100000)
  (hR:∀w' v',zgc w' r s.key.2 v' g→Kp (λb=>b=r) w w'→R (.returned (.string s.key.1)) w') :
  Calls Tryz.prog 243 #[.pointer (some ⟨r,0,none⟩)] w R:=by
 have H:=ze h
 have HL:=ze hl
 have HS:=ze s.text_small
 have C:∀w1 v1,zgc w1 r s.text.2 v1 g→w1.cell? ⟨r,1,none⟩=some (.bool s.text.2.wr)∧w1.frozen? ⟨r,1,none⟩=false:=λw1 v1 hr=>⟨zg hr.blk 1,zj hr.blk 1⟩
 have HC:=ze C
 have HR:=ze hR
 clear h hl hR C
 by_cases hk:zu (z7b s.text.1)=true
 ·have e1:s.key=(z7b s.text.1,s.text.2):=by simp[RS.key,hk]
  rw[e1]at HR
  clear e1
  go_enter Tryz.func243,Tryz.ntmps243
  go_wp2_with (first
   |(go_at_call 260;refine zdj r s v g w H.out HL.out ?_;intro w1 v1 hr1 hk1;have HF:=ze (HR.out w1 v1 hr1 hk1);clear hr1 hk1)
   |(go_at_call 67;refine (z3c _ _ (by rw[z5g];have:=HS.out;unfold maxLen;omega)).mono ?_;rintro e w' ⟨rfl,rfl⟩)
   |fail)
  exact HF.out
 ·have hk':zu (z7b s.text.1)=false:=by simpa using hk
  have e1:s.key=(z7b s.text.1,s.text.2.bad):=by simp[RS.key,hk]
  rw[e1]at HR
  clear e1 hk
  go_enter Tryz.func243,Tryz.ntmps243
  go_wp2_with (first
   |(go_at_call 260;refine zdj r s v g w H.out HL.out ?_;intro w1 v1 hr1 hk1;obtain⟨c1,f1⟩:=HC.out w1 v1 hr1;have HF:=ze (HR.out _ v1 hr1.wrong (hk1.trans (Kp.setCell (S:=λb=>b=r) _ _ _ rfl) (λ_ _ h=>h)));clear hr1 hk1)
   |(go_at_call 67;refine (z3c _ _ (by rw[z5g];have:=HS.out;unfold maxLen;omega)).mono ?_;rintro e w' ⟨rfl,rfl⟩)
   |fail)
  exact HF.out
set_option maxRecDepth 20000 in
set_option maxHeartbeats 1000000 in
theorem zbk (r:Nat)(s:RS)(v:Value)(g:Nat)(w:World)(h:zgc w r s v g)(_hl:s.bs.length≤1100000)
  (hR:R (.returned (.bool s.done)) w) :
  Calls Tryz.prog 192 #[.pointer (some ⟨r,0,none⟩)] w R:=by
 obtain⟨o,cap,rfl,hcap,hc⟩:=h.rd
 have c0:w.cell? ⟨r,0,none⟩=some (.slice (some ⟨g,o,none⟩) s.bs.length cap):=zg h.blk 0
 have c1:w.cell? ⟨r,1,none⟩=some (.bool s.wr):=zg h.blk 1
 have HR:=ze hR
 unfold RS.done at HR
 clear h hR hc
 cases hw:s.wr with
 |true=>
  rw[hw]at c1 HR
  go_enter Tryz.func192,Tryz.ntmps192
  go_wp2_with fail
  exact HR.out
 |false=>
  rw[hw]at c1 HR
  by_cases h0:s.bs.length=0
  ·have e:s.bs.isEmpty=true:=by simpa using h0
   rw[e]at HR
   rw[h0]at c0
   clear h0 e hcap
   go_enter Tryz.func192,Tryz.ntmps192
   go_wp2_with fail
   exact HR.out
  ·have e:s.bs.isEmpty=false:=by
    cases hb:s.bs with
    |nil=>rw[hb]at h0;simp at h0
    |cons a l=>rfl
   rw[e]at HR
   have h1:((s.bs.length:Int) == 0)=false:=by simpa using h0
   generalize s.bs.length=n at c0 h1 hcap h0
   clear e
   go_enter Tryz.func192,Tryz.ntmps192
   go_wp2_with fail
   exact HR.out
end
end
section
open Go.RowKit Go.Maps Go.Lib
section
variable {R:Ending→World→Prop}
theorem zwl {w w2:World}{r:Nat}{s:RS}{v:Value}{g:Nat}{x y:Value}(hr:r<w.heap.size)(hg:g<w.heap.size)(H2:zgc w2 r s v g)(HK:Kp (λb=>b=r) (w.alloc (.cells #[.string ⟨#[]⟩,.bool false] 138)) w2) :
  zgc ((w2.setCell ⟨w.heap.size,0,none⟩ x).setCell ⟨w.heap.size,1,none⟩ y) r s v g∧Kp (λb=>b=r) w ((w2.setCell ⟨w.heap.size,0,none⟩ x).setCell ⟨w.heap.size,1,none⟩ y):=by
 have k:Kp (λb=>b=w.heap.size) w2 ((w2.setCell ⟨w.heap.size,0,none⟩ x).setCell ⟨w.heap.size,1,none⟩ y):=(Kp.setCell (S:=λb=>b=w.heap.size) _ _ _ rfl).trans (Kp.setCell (S:=λb=>b=w.heap.size) _ _ _ rfl) (λ_ _ h=>h)
 exact⟨H2.kp k (λe=>by omega) (λe=>by omega),((Kp.alloc _ _ _).trans HK (λ_ _ h=>h)).trans k (λb hb e=>by omega)⟩
set_option maxRecDepth 20000 in
set_option maxHeartbeats 1000000 in
theorem zr2 (r:Nat)(s:RS)(v:Value)(g:Nat)(w:World)(h:zgc w r s v g)(hl:s.bs.length≤1100000)
  (hR:∀w' v',zgc w' r s.ver.2 v' g→Kp (λb=>b=r) w w'→R (.returned (.agg #[.string s.ver.1.1,.bool s.ver.1.2])) w') :
  Calls Tryz.prog 244 #[.pointer (some ⟨r,0,none⟩)] w R:=by
 have hr:=zh h.blk
 have hg:=h.lt
 have ha:=Kp.alloc (λ_=>False) w (.cells #[.string ⟨#[]⟩,.bool false] 138)
 have H:Hid (zgc (w.alloc (.cells #[.string ⟨#[]⟩,.bool false] 138)) r s v g):=h.kp ha (λe=>e) (λe=>e)
 have HA:=ze ha
 have HL:=ze hl
 have HRL:=ze hr
 have HO:=ze s.one_len
 have HS:=ze s.one.2.text_small
 have C:∀w1 s1 v1,zgc w1 r s1 v1 g→w1.cell? ⟨r,1,none⟩=some (.bool s1.wr)∧w1.frozen? ⟨r,1,none⟩=false:=λw1 s1 v1 hr=>⟨zg hr.blk 1,zj hr.blk 1⟩
 have HC:=ze C
 have HR:=ze hR
 have hb:=heap_alloc_new w (.cells #[.string ⟨#[]⟩,.bool false] 138)
 have D:∀w1,Kp (λb=>b=r) (w.alloc (.cells #[.string ⟨#[]⟩,.bool false] 138)) w1→w1.heap[w.heap.size]?=some (.cells #[.string ⟨#[]⟩,.bool false] 138 (0,0)):=λw1 hk=>(hk.block _ (zh hb) (λe=>by omega)).trans hb
 have HD:=ze D
 have HG:=ze hg
 have nr:r≠w.heap.size:=by omega
 have nr':w.heap.size≠r:=by omega
 clear h hl hR C ha hr hb D hg
 by_cases q0:s.one.1=0
 ·by_cases q1:(z7b s.one.2.text.1).size≤20
  ·have e1:s.ver=((z7b s.one.2.text.1,false),s.one.2.text.2):=by simp[RS.ver,q0,q1]
   rw[e1]at HR
   clear e1
   go_enter Tryz.func244,Tryz.ntmps244
   go_wp2_with (first
    |(go_at_call 206;refine ztf r s v g _ H.out HL.out ?_;intro w1 v1 hr1 hk1;rw[q0];have H1:=ze hr1;have HK1:=ze hk1;clear hr1 hk1)
    |(go_at_call 260;refine zdj r s.one.2 v1 g w1 H1.out (by have:=HO.out;have:=HL.out;omega) ?_;intro w2 v2 hr2 hk2;have H2:=ze hr2;have HK2:Hid (Kp (λb=>b=r) (w.alloc (.cells #[.string ⟨#[]⟩,.bool false] 138)) w2):=HK1.out.trans hk2 (λ_ _ h=>h);have c0:w2.cell? ⟨w.heap.size,0,none⟩=some (.string ⟨#[]⟩):=zg (HD.out w2 HK2.out) 0;have c1:w2.cell? ⟨w.heap.size,1,none⟩=some (.bool false):=zg (HD.out w2 HK2.out) 1;have f0:=zj (HD.out w2 HK2.out) 0;have f1:=zj (HD.out w2 HK2.out) 1;obtain⟨c2,f2⟩:=HC.out w2 _ v2 hr2;clear hr2 hk2)
    |(go_at_call 68;refine (zvh _ _ (by rw[z5g];have:=HS.out;unfold maxLen;omega)).mono ?_;rintro e w' ⟨rfl,rfl⟩)
    |fail)
   refine bodyPost_ret (results_cell_row rfl _ _ w.heap.size 138 #[.string (z7b s.one.2.text.1),.bool false] (0,0) _ rfl ?_ Tryz.underlying138 rfl (by kernel_rfl)) rfl ?_
   ·exact zn (zn (HD.out _ HK2.out) _) _
   have hf:=zwl (x:=.string (z7b s.one.2.text.1)) (y:=.bool false) HRL.out HG.out H2.out HK2.out
   exact HR.out _ _ hf.1 hf.2
  ·have e1:s.ver=((z7b s.one.2.text.1,false),s.one.2.text.2.bad):=by simp[RS.ver,q0,q1]
   rw[e1]at HR
   clear e1
   go_enter Tryz.func244,Tryz.ntmps244
   go_wp2_with (first
    |(go_at_call 206;refine ztf r s v g _ H.out HL.out ?_;intro w1 v1 hr1 hk1;rw[q0];have H1:=ze hr1;have HK1:=ze hk1;clear hr1 hk1)
    |(go_at_call 260;refine zdj r s.one.2 v1 g w1 H1.out (by have:=HO.out;have:=HL.out;omega) ?_;intro w2 v2 hr2 hk2;have H2:=ze hr2;have HK2:Hid (Kp (λb=>b=r) (w.alloc (.cells #[.string ⟨#[]⟩,.bool false] 138)) w2):=HK1.out.trans hk2 (λ_ _ h=>h);have c0:w2.cell? ⟨w.heap.size,0,none⟩=some (.string ⟨#[]⟩):=zg (HD.out w2 HK2.out) 0;have c1:w2.cell? ⟨w.heap.size,1,none⟩=some (.bool false):=zg (HD.out w2 HK2.out) 1;have f0:=zj (HD.out w2 HK2.out) 0;have f1:=zj (HD.out w2 HK2.out) 1;obtain⟨c2,f2⟩:=HC.out w2 _ v2 hr2;clear hr2 hk2)
    |(go_at_call 68;refine (zvh _ _ (by rw[z5g];have:=HS.out;unfold maxLen;omega)).mono ?_;rintro e w' ⟨rfl,rfl⟩)
    |fail)
   refine bodyPost_ret (results_cell_row rfl _ _ w.heap.size 138 #[.string (z7b s.one.2.text.1),.bool false] (0,0) _ rfl ?_ Tryz.underlying138 rfl (by kernel_rfl)) rfl ?_
   ·exact zn (zn (HD.out _ (HK2.out.trans (Kp.setCell (S:=λb=>b=r) _ _ _ rfl) (λ_ _ h=>h))) _) _
   have hf:=zwl (x:=.string (z7b s.one.2.text.1)) (y:=.bool false) HRL.out HG.out H2.out.wrong (HK2.out.trans (Kp.setCell (S:=λb=>b=r) _ _ _ rfl) (λ_ _ h=>h))
   exact HR.out _ _ hf.1 hf.2
 ·by_cases q1:s.one.1=1
  ·have e1:s.ver=((eb,true),s.one.2):=by simp[RS.ver,q1]
   rw[e1]at HR
   clear e1 q0
   go_enter Tryz.func244,Tryz.ntmps244
   go_wp2_with (first
    |(go_at_call 206;refine ztf r s v g _ H.out HL.out ?_;intro w1 v1 hr1 hk1;rw[q1];have c0:w1.cell? ⟨w.heap.size,0,none⟩=some (.string ⟨#[]⟩):=zg (HD.out w1 hk1) 0;have c1:w1.cell? ⟨w.heap.size,1,none⟩=some (.bool false):=zg (HD.out w1 hk1) 1;have f0:=zj (HD.out w1 hk1) 0;have f1:=zj (HD.out w1 hk1) 1;obtain⟨c2,f2⟩:=HC.out w1 _ v1 hr1;have H1:=ze hr1;have HK1:=ze hk1;clear hr1 hk1)
    |fail)
   refine bodyPost_ret (results_cell_row rfl _ _ w.heap.size 138 #[.string eb,.bool true] (0,0) _ rfl ?_ Tryz.underlying138 rfl (by kernel_rfl)) rfl ?_
   ·exact zn (zn (HD.out _ HK1.out) _) _
   have hf:=zwl (x:=.string eb) (y:=.bool true) HRL.out HG.out H1.out HK1.out
   exact HR.out _ _ hf.1 hf.2
  ·have e1:s.ver=((eb,false),s.one.2.bad):=by simp[RS.ver,q0,q1]
   rw[e1]at HR
   have q0':((s.one.1:Int) == 0)=false:=by simpa using q0
   have q1':((s.one.1:Int) == 1)=false:=by simp;omega
   clear e1
   go_enter Tryz.func244,Tryz.ntmps244
   go_wp2_with (first
    |(go_at_call 206;refine ztf r s v g _ H.out HL.out ?_;intro w1 v1 hr1 hk1;have c0:w1.cell? ⟨w.heap.size,0,none⟩=some (.string ⟨#[]⟩):=zg (HD.out w1 hk1) 0;have c1:w1.cell? ⟨w.heap.size,1,none⟩=some (.bool false):=zg (HD.out w1 hk1) 1;have f0:=zj (HD.out w1 hk1) 0;have f1:=zj (HD.out w1 hk1) 1;obtain⟨c2,f2⟩:=HC.out w1 _ v1 hr1;have H1:=ze hr1;have HK1:=ze hk1;clear hr1 hk1)
    |fail)
   refine bodyPost_ret (results_cell_row rfl _ _ w.heap.size 138 #[.string eb,.bool false] (0,0) _ rfl ?_ Tryz.underlying138 rfl (by kernel_rfl)) rfl ?_
   ·exact zn (zn (HD.out _ (HK1.out.trans (Kp.setCell (S:=λb=>b=r) _ _ _ rfl) (λ_ _ h=>h))) _) _
   have hf:=zwl (x:=.string eb) (y:=.bool false) HRL.out HG.out H1.out.wrong (HK1.out.trans (Kp.setCell (S:=λb=>b=r) _ _ _ rfl) (λ_ _ h=>h))
   exact HR.out _ _ hf.1 hf.2
end
end
end Go.Proofs.YthbdpfccfcceiaaGreatDoor
