/-
  Of the proof of logsUpto_card.
-/
import Derived.Test.YthbdpfccfcceiaaGreatDoorG14x
namespace Go.Proofs.YthbdpfccfcceiaaGreatDoor
section
open Go.RowKit
section
variable {R:Ending→World→Prop}
set_option maxRecDepth 20000 in
set_option maxHeartbeats 1000000 in
theorem z40 {base:Nat}(v:Value)(fs:List (List UInt8))(lv:List Value)(w:World)(h:FR base w v fs lv)(hl:bytesOf fs≤1000000000)(hfl:fs.length≤1100000)
  (hR:R (.returned (.int .i64 (bytesOf fs:Nat))) w) :
  Calls Tryz.prog 167 #[v] w R:=by
 have H:=ze h
 have HR:=ze hR
 have HL:=ze hl
 obtain⟨pu,cu,rfl⟩:=zp h.row
 have hfl':(fs.length:Int)≤1100000:=by omega
 clear h hR hl
 go_enter Tryz.func167,Tryz.ntmps167
 go_wp2
 go_loop [3,4] (λv3 v4=>∃k:Nat,k≤fs.length∧v4 = .int .i64 k∧v3 = .int .i64 (bytesOf (fs.take k):Nat)) (λ_ v4=>fs.length-(intOf v4).toNat)
 case atStart=>exact⟨0,Nat.zero_le _,rfl,rfl⟩
 case round=>
  obtain⟨k,hk,rfl,rfl⟩:=hrel
  by_cases hlt:k<fs.length
  ·have hlt':(k:Int)<fs.length:=by omega
   obtain⟨g,cap,cur,er,_,_⟩:=zib H.out.row (by omega)
   injection er with er eb ec
   subst er
   clear eb ec
   have hkl:k<lv.length:=by rw[H.out.len];exact hlt
   have hc:=World.ownsRow.cells H.out.row (g:=g) rfl k _ (List.getElem?_eq_getElem hkl)
   rw[zub,Nat.zero_add]at hc
   obtain⟨f,hf⟩:∃f,fs[k]?=some f:=⟨fs[k],List.getElem?_eq_getElem hlt⟩
   have hb:=H.out.at_ k _ f (List.getElem?_eq_getElem hkl) hf
   obtain⟨p1,c1,e1⟩:=zp hb
   rw[e1]at hc
   have HS:=ze (z4f fs k f hf)
   have hs:=z4f fs k f hf
   have hle:=z5i fs (k+1)
   have hb1:((bytesOf (fs.take k):Nat):Int)+(f.length:Int)≤1000000000:=by have:=HL.out;omega
   generalize bytesOf (fs.take k)=S at HS hs hb1 ⊢
   generalize f.length=F at HS hs hb1 hc
   clear hle hs hf hb e1
   go_wp2
   go_round
   case rel=>exact⟨k+1,by omega,by go_num,by rw[HS.out];go_num⟩
   case measure=>simp[intOf];omega
  ·have hk':k=fs.length:=by omega
   subst hk'
   have HF:=ze HR.out
   rw[List.take_length]
   generalize bytesOf fs=S at HF ⊢
   go_wp2
   exact HF.out
end
end
section
open Go.RowKit
theorem zmg {lg:List (List UInt8)}(hl:lg.length≤5000)(hb:∀b∈lg,b≠[]∧b.length≤400):(∀f∈zm lg,f≠[])∧bytesOf (zm lg)≤2085000∧(zm lg).length≤2000:=by
 have h2:=z2e lg 400 (λb h=>(hb b h).2)
 have h3:lg.length*417≤5000*417:=Nat.mul_le_mul_right _ hl
 refine⟨λf hf=>(z8i lg (by omega) (λb h=>(hb b h).2) f hf).1,by omega,?_⟩
 rw[z4c]
 omega
section
variable {R:Ending→World→Prop}
set_option maxRecDepth 20000 in
set_option maxHeartbeats 1000000 in
theorem z53 (p:Nat)(cs:Array Value)(T:TypeId)(v:Value)(lg:List (List UInt8))(w:World)(hp:w.heap[p]?=some (.cells cs T (0,0)))(c4:cs[4]?=some v)(h5:5<cs.size)(hv:zdm w v lg)(hl:lg.length≤5000)(hb:∀b∈lg,b≠[]∧b.length≤400)
  (hR:∀w1,Kp (λ_=>False) w w1→R (.returned (.tuple #[])) (w1.setCell ⟨p,5,none⟩ (.int .i64 (bytesOf (zm lg):Nat)))) :
  Calls Tryz.prog 115 #[.pointer (some ⟨p,0,none⟩)] w R:=by
 obtain⟨_,f2,f3⟩:=zmg hl hb
 have HR:=ze hR
 have HV:=ze hv
 have HL:=ze hl
 have HB:=ze hb
 have HP:=ze hp
 have HF2:=ze f2
 have HF3:=ze f3
 obtain⟨a0,cap0,rfl,_⟩:=hv
 have d4:w.cell? ⟨p,4,none⟩=some (.slice a0 lg.length cap0):=(zg hp 4).trans c4
 have C5:Hid (∀w1,Kp (λ_=>False) w w1→w1.cell? ⟨p,5,none⟩=some cs[5]∧w1.frozen? ⟨p,5,none⟩=false):=λw1 k=>by
  have hq:=(k.block p (zh hp) (λe=>e)).trans hp
  exact⟨(zg hq 5).trans (Array.getElem?_eq_getElem h5),zj hq 5⟩
 clear hR hl hb hp c4 f2 f3
 go_enter Tryz.func115,Tryz.ntmps115
 go_wp2_with (first
  |(go_at_call 114;refine zuq _ lg _ HV.out HL.out HB.out (λv1 lv1 w1 hf1 hk1=>?_);have HX:=ze hf1;have HRF:=ze (HR.out w1 hk1);obtain⟨z5,zf⟩:=C5.out w1 hk1;obtain⟨a1,c1,rfl⟩:=zp hf1.row;clear hf1 hk1)
  |(go_at_call 167;refine z40 _ _ _ _ HX.out (by have:=HF2.out;omega) (by have:=HF3.out;omega) ?_)
  |go_in)
 first
  |(refine bodyPost_ret (results_none rfl _ _ _) rfl ?_;exact HRF.out)
  |exact HRF.out
end
end
section
open Go.RowKit
structure zhf (base:Nat)(w:World)(v:Value)(fs:List (List UInt8))(lv:List Value):Prop where
 row:w.ownsRow base 48 1 v fs.length lv
 at_:∀(i:Nat) u f,lv[i]?=some u→fs[i]?=some f→∃g,RdN w u f g∧base≤g∧g<w.heap.size∧v.ownBlock≠some g∧∃b n c,u = .slice b n c
theorem zhf.len {base:Nat}{w:World}{v:Value}{fs:List (List UInt8)}{lv:List Value}(h:zhf base w v fs lv):lv.length=fs.length:=by simpa using h.row.1
theorem zhf.kept {base:Nat}{w w':World}{v:Value}{fs:List (List UInt8)}{lv:List Value}(h:zhf base w v fs lv)(k:Kp (λ_=>False) w w'):zhf base w' v fs lv:=
 ⟨zi h.row k (λ_ _ e=>e),λi u f hu hf=>by
  obtain⟨g,h1,h2,h3,h4,h5⟩:=h.at_ i u f hu hf
  exact⟨g,h1.kp k (λe=>e),h2,Nat.lt_of_lt_of_le h3 k.size,h4,h5⟩⟩
theorem zhf.nil (base:Nat)(w:World):zhf base w (.slice none 0 0) [] []:=⟨World.ownsRow_nil _ _ _ _,λi u f hu=>by simp at hu⟩
theorem zhf.snoc {base:Nat}{w w2:World}{v v2 u:Value}{fs:List (List UInt8)}{lv:List Value}{f:List UInt8}{g:Nat}(h:zhf base w v fs lv)(hu:RdN w u f g)(hg:base≤g∧g<w.heap.size)(hgv:v.ownBlock≠some g)(hs:∃b n c,u = .slice b n c)
  (hrow:w2.ownsRow base 48 1 v2 (fs.length+1) (lv++[u])) (hk:Kp (λb=>v.ownBlock=some b) w w2) (hloc:v2.ownBlock=v.ownBlock∨v2.ownBlock=some w.heap.size):zhf base w2 v2 (fs++[f]) (lv++[u]):=by
 have hl:=h.len
 have out:∀{g:Nat},g<w.heap.size→v.ownBlock≠some g→v2.ownBlock≠some g:=λhg hv e=>by
  rcases hloc with h1|h1
  ·rw[h1]at e;exact hv e
  ·rw[h1]at e;injection e with e;omega
 refine⟨by simpa using hrow,λi x y hx hy=>?_⟩
 rcases Nat.lt_trichotomy i lv.length with hi|hi|hi
 ·rw[List.getElem?_append_left hi]at hx
  rw[List.getElem?_append_left (by omega)]at hy
  obtain⟨g0,a1,a2,a3,a4,a5⟩:=h.at_ i x y hx hy
  exact⟨g0,a1.kp hk a4,a2,Nat.lt_of_lt_of_le a3 hk.size,out a3 a4,a5⟩
 ·subst hi
  simp at hx
  rw[hl]at hy
  simp at hy
  subst hx;subst hy
  exact⟨g,hu.kp hk hgv,hg.1,Nat.lt_of_lt_of_le hg.2 hk.size,out hg.2 hgv,hs⟩
 ·rw[List.getElem?_eq_none (by simp;omega)]at hx;cases hx
theorem zvs (fs:List (List UInt8))(n:Nat):zgb (fs.take 0) n=[]:=by simp[zgb]
section
variable {R:Ending→World→Prop}
set_option maxRecDepth 20000 in
set_option maxHeartbeats 4000000 in
theorem ziw (p:Nat)(cs:Array Value)(T:TypeId)(v:Value)(lg:List (List UInt8))(sy:Nat)(keep:Int)(w:World)(hp:w.heap[p]?=some (.cells cs T (0,0)))(c4:cs[4]?=some v)(c5:cs[5]?=some (.int .i64 (sy:Nat)))(hv:zdm w v lg)(hl:lg.length≤5000)(hb:∀b∈lg,b≠[]∧b.length≤400)(hsy:sy≤bytesOf (zm lg))(hk1:-9223372036854775808≤keep∧keep≤9223372036854775807)
  (hR:∀v' lv' w',zhf w.heap.size w' v' (zgb (zm lg) (zie sy (bytesOf (zm lg)) keep)) lv'→Kp (λ_=>False) w w'→R (.returned v') w') :
  Calls Tryz.prog 116 #[.pointer (some ⟨p,0,none⟩),.int .i64 keep] w R:=by
 obtain⟨f1,f2,f3⟩:=zmg hl hb
 have HR:=ze hR
 have HV:=ze hv
 have HL:=ze hl
 have HB:=ze hb
 have HF1:=ze f1
 have HF2:=ze f2
 have HF3:=ze f3
 have HSY:=ze hsy
 obtain⟨a0,cap0,rfl,_⟩:=hv
 have d4:w.cell? ⟨p,4,none⟩=some (.slice a0 lg.length cap0):=(zg hp 4).trans c4
 have C5:Hid (∀w1,Kp (λ_=>False) w w1→w1.cell? ⟨p,5,none⟩=some (.int .i64 (sy:Nat))):=λw1 k=>by
  have hq:=(k.block p (zh hp) (λe=>e)).trans hp
  exact (zg hq 5).trans c5
 clear hR hl hb hp c4 c5
 generalize hfs:zm lg=fs at HR HF1 HF2 HF3 HSY f1 f2 f3 hsy
 generalize hN:bytesOf fs=N at HR HF2 HSY f2 hsy
 have HN:=ze hN
 have HFS:=ze hfs
 have hN':(N:Int)≤2085000:=by omega
 have hsy':(sy:Int)≤N:=by omega
 have h3':(fs.length:Int)≤2000:=by omega
 clear hN hfs f1 f2 f3 hsy
 have hk0:Hid (-9223372036854775808≤keep∧keep≤9223372036854775807):=hk1
 obtain⟨M,hM⟩:∃M,zie sy N keep=M:=⟨_,rfl⟩
 rw[hM]at HR
 have HM:=ze hM
 have hMM:(M:Int)≤2085000:=by have:=zar HSY.out keep;omega
 have HMM:=ze hMM
 unfold zie at hM
 have h5a:(0:Int)≤sy:=by omega
 by_cases q1:keep<0<;>by_cases q2:max keep 0<(N:Int)-sy
 all_goals (
  first
   |(have q3:max keep 0=0:=by omega
     rw[q3]at q2
     have HMS:Hid ((M:Int)=if (0:Int)<(N:Int)-sy then (sy:Int) else N):=by show _=_;split<;>omega
     have hMS:=HMS.out
     first|rw[if_pos q2]at hMS|rw[if_neg q2]at hMS
     have q5:(0:Int)≤(N:Int)-sy:=by omega
     first|have q6:sy<N:=by omega|have q6:¬sy<N:=by omega
     first|have q7:(sy:Int)<N:=by omega|have q7:¬(sy:Int)<N:=by omega)
   |(have q3:max keep 0=keep:=by omega
     rw[q3]at q2
     have HMS:Hid ((M:Int)=if keep<(N:Int)-sy then (sy:Int)+keep else N):=by show _=_;split<;>omega
     have hMS:=HMS.out
     first|rw[if_pos q2]at hMS|rw[if_neg q2]at hMS
     have q5:(0:Int)≤keep:=by omega)
  clear hM q3 HMS
  have HMS:=ze hMS
  clear hMS
  go_enter Tryz.func116,Tryz.ntmps116
  go_wp2_with (first
   |(go_at_call 114;refine zuq _ lg _ HV.out HL.out HB.out (λv1 lv1 w1 hf1 hk1=>?_);rw[HFS.out]at hf1;have HX:=ze hf1;have HK1:=ze hk1;have z5:=C5.out w1 hk1;obtain⟨a1,c1,rfl⟩:=zp hf1.row;clear hf1 hk1)
   |(go_at_call 167;refine z40 _ _ _ _ HX.out (by rw[HN.out];have:=HF2.out;omega) (by have:=HF3.out;omega) ?_;rw[HN.out])
   |go_in)
  go_loopw [6,7,8,9] (λv6 v7 v8 _ wr=>∃(k:Nat) (lv:List Value),k≤fs.length∧v8 = .int .i64 k∧v6 = .int .i64 (M-bytesOf (fs.take k):Nat)∧Kp (λ_=>False) w1 wr∧(∀b,v7.ownBlock=some b→w1.heap.size≤b)∧zhf w.heap.size wr v7 (zgb (fs.take k) M) lv) (λ_ _ v8 _ _=>fs.length-(intOf v8).toNat)
  case atStart=>exact⟨0,[],Nat.zero_le _,rfl,by have:=HMS.out;simp[bytesOf];omega,Kp.refl _ _,(λb e=>by cases e),(by rw[zvs];exact zhf.nil _ _)⟩
  case round=>
   obtain⟨k,lv,hk,rfl,rfl,hkp,hnew,hout⟩:=hrel
   by_cases hlt:k<fs.length
   ·by_cases hz:M-bytesOf (fs.take k)=0
    ·have HF:Hid (R (.returned u7) wr):=HR.out u7 lv wr (by rw[zjj fs M k (by omega)];exact hout) (HK1.out.trans hkp (λ_ _ h=>h))
     rw[hz]
     have hlt':(k:Int)<fs.length:=by omega
     clear hout hnew hkp
     go_wp2_with fail
     exact HF.out
    ·have hlt':(k:Int)<fs.length:=by omega
     have hzp:(0:Int)<((M-bytesOf (fs.take k):Nat):Int):=by omega
     obtain⟨f,hf⟩:∃f,fs[k]?=some f:=⟨fs[k],List.getElem?_eq_getElem hlt⟩
     have hfne:=HF1.out f (List.mem_of_getElem? hf)
     have hkl:k<lv1.length:=by rw[HX.out.len];exact hlt
     have hbr:=HX.out.at_ k _ f (List.getElem?_eq_getElem hkl) hf
     obtain⟨ga,ca,cua,eqa,_,_⟩:=zib HX.out.row (by omega)
     injection eqa with eqa eqb eqc
     subst eqa
     clear eqb eqc
     have hc0:=World.ownsRow.cells HX.out.row (g:=ga) rfl k _ (List.getElem?_eq_getElem hkl)
     rw[zub,Nat.zero_add]at hc0
     have hc:=(hkp.cell (a:=⟨ga,k,none⟩) (World.block_lt_of_cell? _ _ hc0) (λe=>e)).trans hc0
     obtain⟨gu,cu,eu⟩:=hbr.form hfne
     rw[eu]at hc hbr
     have HBR:=ze (hbr.kept hkp)
     have hfc:f.length≤cu:=by
      rcases hbr.2 with ⟨e,_⟩|⟨_,c2,_,e,_,_,h2,_⟩
      ·cases e
      ·injection e with _ _ e3;omega
     have HFC:=ze hfc
     have hfl:f.length≤2085000:=by have:=z3e (List.mem_of_getElem? hf);have:=HN.out;have:=HF2.out;omega
     have hfl':(f.length:Int)≤2085000:=by omega
     have HFN:=ze hfne
     have HB:=ze (z4f fs k f hf)
     have HST:=ze (zkj fs M k f hf (by omega))
     have HGU:Hid (gu<w1.heap.size∧w.heap.size≤gu):=by have:=hbr.lt gu rfl;exact⟨this.2,this.1⟩
     have HKP:=ze hkp
     have HNEW:=ze hnew
     have HOUT:=ze hout
     have HLEN:Hid ((zgb (fs.take k) M).length≤1100000):=by
      have h1:=zde (fs.take k) M
      have h2:=List.length_take_le k fs
      have h3:=HF3.out
      show _≤_;omega
     have HZ:Hid (bytesOf (fs.take k)<M):=by show _<_;omega
     obtain⟨Q,hQ⟩:∃Q,M-bytesOf (fs.take k)=Q:=⟨_,rfl⟩
     have HQ:=ze hQ
     rw[hQ]at hzp HST ⊢
     have hQl:(Q:Int)≤2085000:=by have:=HMM.out;omega
     clear hz hout hkp hnew hbr hf hfne hc0 eu hfl hQ hlt hk hkl hfc
     by_cases hcut:Q<f.length
     ·have hcut':(Q:Int)<f.length:=by omega
      have hcc:(Q:Int)≤cu:=by have:=HFC.out;omega
      have HTK:Hid ((f.take Q).length=Q):=by show _=_;rw[List.length_take];omega
      have HRD:Hid (RdN wr (.slice (some ⟨gu,0,none⟩) Q cu) (f.take Q) gu):=by
       refine⟨_,cu,by rw[HTK.out],by rw[HTK.out];omega,λ_=>⟨Nat.lt_of_lt_of_le HGU.out.1 HKP.out.size,0,rfl,λj hj=>?_⟩⟩
       obtain⟨pb,cb,e,hrd⟩:=HBR.out.rd
       obtain⟨g2,o2,e2,hcc⟩:=hrd HFN.out
       rw[e2]at e
       injection e with e _ _
       injection e with e
       injection e with e1 e3 _
       subst e1;subst e3
       rw[HTK.out]at hj
       rw[hcc j (by omega)]
       simp[List.getD,hj]
      have HCL:=ze hcut
      clear hcut
      go_wp2_with (first
       |(at_builtin;refine zpf _ rfl _ _ rfl w.heap.size u7 _ lv rfl (HOUT.out.kept (Kp.alloc (λ_=>False) wr (.cells #[.slice (some ⟨gu,0,none⟩) Q cu] 48))).row wr.heap.size (.slice (some ⟨gu,0,none⟩) Q cu) rfl (zg (heap_alloc_new wr _) 0) rfl HLEN.out (by have:=HK1.out.size;have:=HKP.out.size;simp;omega) ?_;intro vq wq hrowq hkq hlocq;have HRQ:=ze hrowq;have HKQ:=ze hkq;have HLQ:=ze hlocq;clear hrowq hkq hlocq)
       |go_in)
      go_roundw
      case rel=>
       refine⟨k+1,lv++[.slice (some ⟨gu,0,none⟩) Q cu],by omega,by go_num,?_,?_,?_,?_⟩
       ·have h1:=HB.out
        have h2:=HQ.out
        have h3:=HCL.out
        rw[show M-bytesOf (fs.take (k+1))=0 by omega]
        go_num
       ·exact (HKP.out.trans (Kp.alloc (λ_=>False) wr _) (λ_ _ h=>h)).trans HKQ.out (λb hb e=>by have:=HNEW.out b e;omega)
       ·intro b e
        rcases HLQ.out with h|h
        ·rw[h]at e;exact HNEW.out b e
        ·rw[h]at e;injection e with e;have:=HKP.out.size;simp at e;omega
       ·rw[HST.out]
        refine zhf.snoc (g:=gu) (HOUT.out.kept (Kp.alloc (λ_=>False) wr (.cells #[.slice (some ⟨gu,0,none⟩) Q cu] 48))) (HRD.out.kp (Kp.alloc (λ_=>False) wr (.cells #[.slice (some ⟨gu,0,none⟩) Q cu] 48)) (λe=>e)) ⟨HGU.out.2,?_⟩ ?_ ⟨_,_,_,rfl⟩ HRQ.out HKQ.out HLQ.out
        ·have:=HGU.out.1;have:=HKP.out.size;simp;omega
        ·intro e;have:=HNEW.out gu e;have:=HGU.out.1;omega
      case measure=>simp[intOf];omega
     ·have hcut':¬(Q:Int)<f.length:=by omega
      have hcut2:(f.length:Int)≤Q:=by omega
      have HTK:Hid (f.take Q=f):=List.take_of_length_le (by omega)
      have HRD:Hid (RdN wr (.slice (some ⟨gu,0,none⟩) f.length cu) f gu):=by
       refine⟨_,cu,rfl,HFC.out,λ_=>⟨Nat.lt_of_lt_of_le HGU.out.1 HKP.out.size,0,rfl,λj hj=>?_⟩⟩
       obtain⟨pb,cb,e,hrd⟩:=HBR.out.rd
       obtain⟨g2,o2,e2,hcc⟩:=hrd HFN.out
       rw[e2]at e
       injection e with e _ _
       injection e with e
       injection e with e1 e3 _
       subst e1;subst e3
       exact hcc j hj
      have HCL:=ze hcut
      clear hcut
      go_wp2_with (first
       |(at_builtin;refine zpf _ rfl _ _ rfl w.heap.size u7 _ lv rfl (HOUT.out.kept (Kp.alloc (λ_=>False) wr (.cells #[.slice (some ⟨gu,0,none⟩) f.length cu] 48))).row wr.heap.size (.slice (some ⟨gu,0,none⟩) f.length cu) rfl (zg (heap_alloc_new wr _) 0) rfl HLEN.out (by have:=HK1.out.size;have:=HKP.out.size;simp;omega) ?_;intro vq wq hrowq hkq hlocq;have HRQ:=ze hrowq;have HKQ:=ze hkq;have HLQ:=ze hlocq;clear hrowq hkq hlocq)
       |go_in)
      go_roundw
      case rel=>
       refine⟨k+1,lv++[.slice (some ⟨gu,0,none⟩) f.length cu],by omega,by go_num,?_,?_,?_,?_⟩
       ·have h1:=HB.out
        have h2:=HQ.out
        have h3:=HCL.out
        rw[show ((M-bytesOf (fs.take (k+1)):Nat):Int)=(Q:Int)-f.length by omega]
       ·exact (HKP.out.trans (Kp.alloc (λ_=>False) wr _) (λ_ _ h=>h)).trans HKQ.out (λb hb e=>by have:=HNEW.out b e;omega)
       ·intro b e
        rcases HLQ.out with h|h
        ·rw[h]at e;exact HNEW.out b e
        ·rw[h]at e;injection e with e;have:=HKP.out.size;simp at e;omega
       ·rw[HST.out,HTK.out]
        refine zhf.snoc (g:=gu) (HOUT.out.kept (Kp.alloc (λ_=>False) wr (.cells #[.slice (some ⟨gu,0,none⟩) f.length cu] 48))) (HRD.out.kp (Kp.alloc (λ_=>False) wr (.cells #[.slice (some ⟨gu,0,none⟩) f.length cu] 48)) (λe=>e)) ⟨HGU.out.2,?_⟩ ?_ ⟨_,_,_,rfl⟩ HRQ.out HKQ.out HLQ.out
        ·have:=HGU.out.1;have:=HKP.out.size;simp;omega
        ·intro e;have:=HNEW.out gu e;have:=HGU.out.1;omega
      case measure=>simp[intOf];omega
   ·have hk':k=fs.length:=by omega
    subst hk'
    rw[List.take_length]at hout ⊢
    have HF:Hid (R (.returned u7) wr):=HR.out u7 lv wr hout (HK1.out.trans hkp (λ_ _ h=>h))
    clear hout hnew hkp
    go_wp2_with fail
    exact HF.out)
end
end
end Go.Proofs.YthbdpfccfcceiaaGreatDoor
