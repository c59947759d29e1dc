/-
  Of the proof of logsUpto_card.
-/
import Derived.Test.YthbdpfccfcceiaaGreatDoorDC1x
namespace Go.Proofs.YthbdpfccfcceiaaGreatDoor
section
open Go.RowKit Go.Maps Go.Lib
structure z9t (w:World)(i:Nat)(wr:World)(v:Value)(fs:List (List UInt8))(lv:List Value):Prop where
 kp:Kp (λ_=>False) w wr
 fr:FR w.heap.size wr v fs lv
 len:fs.length=i
 small:∀f∈fs,f.length≤1100000
theorem zqu {fs:List (List UInt8)}{i:Nat}{f:List UInt8}(h:fs[i]?=some f):bytesOf (fs.take (i+1))=bytesOf (fs.take i)+f.length:=by
 obtain⟨h1,rfl⟩:=List.getElem?_eq_some_iff.1 h
 rw[List.take_succ_eq_append_getElem h1,zbe,z2c]
 simp[bytesOf]
theorem zxp (fs:List (List UInt8))(i:Nat):bytesOf (fs.take i)≤bytesOf fs:=by
 have:bytesOf fs=bytesOf (fs.take i)+bytesOf (fs.drop i):=by rw[← zbe,List.take_append_drop]
 omega
theorem BR.setAt {base:Nat}{w:World}{g cap:Nat}{bs:List UInt8}(h:BR base w (.slice (some ⟨g,0,none⟩) bs.length cap) bs)(i:Nat)(hi:i<bs.length)(y:UInt8):BR base (w.setCell ⟨g,i,none⟩ (b8 y)) (.slice (some ⟨g,0,none⟩) bs.length cap) (bs.set i y):=by
 have:=zym h i hi g cap rfl (b8 y)
 unfold BR
 rw[List.length_set,List.map_set]
 exact this
theorem zt3 (a b:Int):∃y:UInt8,Value.int .u8 (bits .xor .u8 a b)=b8 y:=by
 have h:∃n:Int,bits .xor .u8 a b=n % 256:=⟨_,(by
  show IntKind.u8.wrap _=_
  simp[IntKind.wrap,IntKind.bits,IntKind.signed]
  rfl)⟩
 obtain⟨n,hn⟩:=h
 refine⟨UInt8.ofNat (n % 256).toNat,?_⟩
 rw[hn]
 unfold b8
 congr 1
 rw[UInt8.toNat_ofNat']
 omega
theorem zw3 {f:List UInt8}{a:Nat}(h:a<f.length):(f.map b8)[a]?=some (.int .u8 ((f.getD a 0).toNat:Nat)):=by
 rw[List.getElem?_map,List.getElem?_eq_getElem h,List.getD_eq_getElem?_getD,List.getElem?_eq_getElem h]
 rfl
theorem z9t.next {w wr w1 w2:World}{i:Nat}{v v2 u:Value}{fs:List (List UInt8)}{lv:List Value}{f:List UInt8}(h:z9t w i wr v fs lv)(k1:Kp (λ_=>False) wr w1)(hu:BR wr.heap.size w1 u f)(hf:f.length≤1100000)
  (hrow:w2.ownsRow w.heap.size 48 1 v2 (fs.length+1) (lv++[u])) (k2:Kp (λb=>v.ownBlock=some b) w1 w2):z9t w (i+1) w2 v2 (fs++[f]) (lv++[u]):=by
 refine⟨(h.kp.trans k1 (λ_ _ e=>e)).trans k2 (λb hb e=>by have:=(h.fr.row.lt b e).1;omega),?_,by rw[List.length_append,h.len];rfl,λg hg=>?_⟩
 ·exact FR.snoc (w:=wr) (h.fr.kept k1) hu (λb e=>(h.fr.row.lt b e).2) (λi x hx b e=>h.fr.at_lt hx b e) h.kp.size hrow k2
 ·rcases List.mem_append.1 hg with h1|h1
  ·exact h.small g h1
  ·simp at h1;subst h1;exact hf
section
variable {R:Ending→World→Prop}{w:World}
set_option maxRecDepth 20000 in
set_option maxHeartbeats 4000000 in
theorem zns (v:Value)(fs:List (List UInt8))(hv:FIn w v fs (λb=>b<w.heap.size))(hne:∀f∈fs,f≠[])(hs:bytesOf fs≤3000000)(h0:0<w.heap.size)(x:Int)(hx:-9223372036854775808≤x∧x≤9223372036854775807)
  (hR:∀w' v' fs',FIn w' v' fs' (λb=>b<w'.heap.size)→Kp (λ_=>False) w w'→R (.returned v') w') :
  Calls Tryz.prog 117 #[v,.int .i64 x] w R:=by
 have HV:=ze hv
 have HR:=ze hR
 have HNE:=ze hne
 have HS:=ze hs
 have HX:=ze hx
 have HW0:=ze h0
 obtain⟨a0,cap0,rfl,hn0,_⟩:=hv
 have HN0:=ze hn0
 have hn0':(fs.length:Int)≤1100000:=by omega
 have HC:Hid (∀wr,Kp (λ_=>False) w wr→∀(i:Nat) f,fs[i]?=some f→∃(ga oa:Nat) (b:Option Addr) (c g:Nat),a0=some ⟨ga,oa,none⟩∧wr.cell? ⟨ga,oa+i,none⟩=some (.slice b f.length c)∧RdN wr (.slice b f.length c) f g∧f.length≤1100000):=λwr k i f hf=>by
  obtain⟨a1,c1,e1,_,h1⟩:=HV.out.kp k (λ_ _ e=>e)
  injection e1 with e1 _ _
  obtain⟨ga,oa,e2,_,_,h1⟩:=h1 (λe=>by rw[e]at hf;simp at hf)
  obtain⟨b,n,c,g,h2,h3,_,h4⟩:=h1 i f hf
  obtain⟨q,k3,e3,_⟩:=id h3
  injection e3 with _ e3 _
  subst e3
  exact⟨ga,oa,b,c,g,e1.trans e2,h2,h3,h4⟩
 clear hR hne hs hx h0 hn0
 go_enter Tryz.func117,Tryz.ntmps117
 go_wp2_with fail
 go_loop [5,6] (λv5 v6=>∃i:Nat,i≤fs.length∧v5 = .int .i64 (bytesOf (fs.take i):Nat)∧v6 = .int .i64 i) (λ_ v6=>fs.length-(intOf v6).toNat)
 case atStart=>exact⟨0,Nat.zero_le _,by simp[bytesOf],rfl⟩
 case round=>
  obtain⟨i,hi,rfl,rfl⟩:=hrel
  by_cases hlt:i<fs.length
  ·have hlt':(i:Int)<fs.length:=by omega
   obtain⟨f,hfi⟩:∃f,fs[i]?=some f:=⟨fs[i],List.getElem?_eq_getElem hlt⟩
   have HB:=ze (zqu hfi)
   have hb1:=zxp fs i
   have hb2:(bytesOf (fs.take i):Int)≤3000000:=by have:=HS.out;omega
   obtain⟨ga,oa,b,c,g,rfl,hc,_,hfl⟩:=HC.out w (Kp.refl _ _) i f hfi
   have hfl':(f.length:Int)≤1100000:=by omega
   clear hfi hb1
   go_wp2_with fail
   refine⟨⟨i+1,by omega,?_,by go_num⟩,by simp[intOf];omega⟩
   rw[HB.out]
   go_num
  ·obtain rfl:i=fs.length:=by omega
   rw[List.take_length]
   have hge:¬(fs.length:Int)<fs.length:=by omega
   by_cases hz:bytesOf fs=0
   ·have hz':(bytesOf fs:Int)=0:=by omega
    go_wp2_with fail
    exact HR.out _ _ _ HV.out (Kp.refl _ _)
   ·have hz':¬(bytesOf fs:Int)=0:=by omega
    have hz2:((bytesOf fs:Int) == 0)=false:=by simpa using hz
    have HZ:=ze hz
    have HDIV:Hid (-9223372036854775808≤wrap64 (x.tdiv 255)∧wrap64 (x.tdiv 255)≤9223372036854775807):=by
     show _∧_
     unfold wrap64
     omega
    have HPL:Hid (z0b (wrap64 (x.tdiv 255)) (bytesOf fs)<bytesOf fs):=zug _ _ (by omega)
    have hNB:(bytesOf fs:Int)≤3000000:=by have:=HS.out;omega
    generalize bytesOf fs=N at hz hz' hz2 HZ HPL hNB HS ⊢
    go_wp2_with (first
     |(go_at_call 60;refine znf (wrap64 (x.tdiv 255)) N _ HDIV.out (by have:=HZ.out;omega) (by have:=HS.out;omega) ?_)
     |fail)
    generalize z0b (wrap64 (x.tdiv 255)) N=A0 at HPL ⊢
    have HA0:Hid (A0<3000000):=by have h1:=HPL.out;have h2:=HS.out;show _<_;omega
    go_loopw [7,8,9,10] (λv7 v8 v9 _ wz=>∃(i:Nat) (A:Int) (fs':List (List UInt8)) (lv:List Value),i≤fs.length∧v7 = .int .i64 A∧v9 = .int .i64 i∧A<3000000∧-1100000*(i:Int)≤A∧z9t w i wz v8 fs' lv) (λ_ _ v9 _ _=>fs.length-(intOf v9).toNat)
    case atStart=>exact⟨0,(A0:Int),[],[],Nat.zero_le _,rfl,rfl,by have:=HA0.out;omega,by omega,Kp.refl _ _,FR.nil _ _,rfl,λf hf=>(by cases hf)⟩
    case round=>
     obtain⟨i,A,fs',lv,hi,rfl,rfl,hA1,hA2,hM⟩:=hrel
     have HM:=ze hM
     have HNF:Hid (fs'.length=i):=hM.len
     obtain⟨a8,c8,e8,_⟩:=zr hM.fr.row
     subst e8
     by_cases hlt:i<fs.length
     ·have hlt':(i:Int)<fs.length:=by omega
      obtain⟨f,hfi⟩:∃f,fs[i]?=some f:=⟨fs[i],List.getElem?_eq_getElem hlt⟩
      have HFN:Hid (f≠[]):=HNE.out f (List.mem_of_getElem? hfi)
      obtain⟨ga,oa,b,c,g,rfl,hc,hrd,hfl⟩:=HC.out wr hM.kp i f hfi
      have HRD:=ze (zcj hrd)
      have HFL:=ze hfl
      have hfl':(f.length:Int)≤1100000:=by omega
      have HLT:=ze hlt
      have hA3:-1300000000000≤A:=by omega
      have HA2:=ze hA2
      clear hM hfi hrd hfl hlt hi hA2
      by_cases hA0:0≤A
      ·by_cases hAf:A<f.length
       ·obtain⟨a,rfl⟩:∃a:Nat,A=a:=⟨A.toNat,by omega⟩
        have HAF:Hid (a<f.length):=by show _<_;omega
        have dA0:decide ((0:Int)≤(a:Int))=true:=by simp
        have dAf:decide ((a:Int)<f.length)=true:=by simpa using HAF.out
        go_wp2_with (first
         |(at_builtin;refine zsb _ rfl _ _ rfl wr.heap.size (.slice none 0 0) [] rfl (World.ownsRow_nil _ _ _ _) _ f rfl HRD.out HFN.out (by have:=HFL.out;simp;omega) (Nat.le_refl _) ?_;intro v1 w1 hb1 hk1 hl1;rw[List.nil_append]at hb1;have HB1:=ze hb1;have HK1:Hid (Kp (λ_=>False) wr w1):=hk1.mono (λ_ _ e=>by cases e);obtain⟨g1,cap1,rfl⟩:=hb1.form HFN.out;have q1:w1.cell? ⟨g1,a,none⟩=some (.int .u8 ((f.getD a 0).toNat:Nat)):=zfe hb1 a _ (zw3 HAF.out);have q1f:w1.frozen? ⟨g1,a,none⟩=false:=(by obtain⟨cur,hcur⟩:=hb1.block (b:=g1) rfl;exact zx hcur a);clear hb1 hk1 hl1)
         |fail)
        go_region_with (first
         |(go_at_call 60;refine znf x 255 _ HX.out (by omega) (by omega) ?_)
         |fail)
        all_goals
         obtain⟨y,hy⟩:=zt3 ((f[a]?.getD 0).toNat:Nat) (IntKind.u8.wrap (IntKind.i64.wrap (1+(z0b x 255:Nat))))
         rw[hy]
         have HB2:=ze ((HB1.out.setAt a HAF.out y).kept (Kp.drew (λ_=>False) _))
         have HK2:Hid (Kp (λ_=>False) wr (w1.setCell ⟨g1,a,none⟩ (b8 y)).drew):=(HK1.out.trans (Kp.setCell (S:=λb=>b=g1) w1 ⟨g1,a,none⟩ (b8 y) rfl) (λb hb e=>by have:=(HB1.out.lt g1 rfl).1;omega)).trans (Kp.drew (λ_=>False) _) (λ_ _ e=>e)
         generalize (w1.setCell ⟨g1,a,none⟩ (b8 y)).drew=wq at HB2 HK2 ⊢
         clear hy q1 q1f
         go_wp2_with (first
          |(at_builtin;refine zpf _ rfl _ _ rfl w.heap.size (.slice a8 fs'.length c8) fs'.length lv rfl (HM.out.fr.kept (HK2.out.trans (Kp.alloc _ _ _) (λ_ _ h=>h))).row wq.heap.size (.slice (some ⟨g1,0,none⟩) f.length cap1) rfl (zg (heap_alloc_new wq _) 0) rfl (by have:=HNF.out;have:=HLT.out;have:=HN0.out;omega) (by have:=HM.out.kp.size;have:=HK2.out.size;simp;omega) ?_;intro v2 w2 hr2 hk2 hl2;obtain⟨a2,c2,rfl,_⟩:=zr hr2;have HNX:=ze (HM.out.next (HK2.out.trans (Kp.alloc _ _ _) (λ_ _ h=>h)) (HB2.out.kept (Kp.alloc _ _ _)) (by rw[List.length_set];exact HFL.out) hr2 hk2);clear hr2 hk2 hl2)
          |fail)
         go_roundw
         case rel=>exact⟨i+1,(a:Int)-f.length,_,_,by have:=HLT.out;omega,rfl,by go_num,by omega,by have:=HA2.out;omega,HNX.out⟩
         case measure=>have:=HLT.out;simp[intOf];omega
       ·have dA0:decide (0≤A)=true:=by simpa using hA0
        have dAf:decide (A<f.length)=false:=by simpa using hAf
        go_wp2_with (first
         |(at_builtin;refine zsb _ rfl _ _ rfl wr.heap.size (.slice none 0 0) [] rfl (World.ownsRow_nil _ _ _ _) _ f rfl HRD.out HFN.out (by have:=HFL.out;simp;omega) (Nat.le_refl _) ?_;intro v1 w1 hb1 hk1 hl1;rw[List.nil_append]at hb1;have HB1:=ze hb1;have HK1:Hid (Kp (λ_=>False) wr w1):=hk1.mono (λ_ _ e=>by cases e);obtain⟨g1,cap1,rfl⟩:=hb1.form HFN.out;clear hb1 hk1 hl1)
         |(at_builtin;refine zpf _ rfl _ _ rfl w.heap.size (.slice a8 fs'.length c8) fs'.length lv rfl (HM.out.fr.kept (HK1.out.trans (Kp.alloc _ _ _) (λ_ _ h=>h))).row w1.heap.size (.slice (some ⟨g1,0,none⟩) f.length cap1) rfl (zg (heap_alloc_new w1 _) 0) rfl (by have:=HNF.out;have:=HLT.out;have:=HN0.out;omega) (by have:=HM.out.kp.size;have:=HK1.out.size;simp;omega) ?_;intro v2 w2 hr2 hk2 hl2;obtain⟨a2,c2,rfl,_⟩:=zr hr2;have HNX:=ze (HM.out.next (HK1.out.trans (Kp.alloc _ _ _) (λ_ _ h=>h)) (HB1.out.kept (Kp.alloc _ _ _)) HFL.out hr2 hk2);clear hr2 hk2 hl2)
         |fail)
        go_roundw
        case rel=>exact⟨i+1,A-f.length,_,_,by have:=HLT.out;omega,rfl,by go_num,by omega,by have:=HA2.out;omega,HNX.out⟩
        case measure=>have:=HLT.out;simp[intOf];omega
      ·have dA0:decide (0≤A)=false:=by simpa using hA0
       go_wp2_with (first
        |(at_builtin;refine zsb _ rfl _ _ rfl wr.heap.size (.slice none 0 0) [] rfl (World.ownsRow_nil _ _ _ _) _ f rfl HRD.out HFN.out (by have:=HFL.out;simp;omega) (Nat.le_refl _) ?_;intro v1 w1 hb1 hk1 hl1;rw[List.nil_append]at hb1;have HB1:=ze hb1;have HK1:Hid (Kp (λ_=>False) wr w1):=hk1.mono (λ_ _ e=>by cases e);obtain⟨g1,cap1,rfl⟩:=hb1.form HFN.out;clear hb1 hk1 hl1)
        |(at_builtin;refine zpf _ rfl _ _ rfl w.heap.size (.slice a8 fs'.length c8) fs'.length lv rfl (HM.out.fr.kept (HK1.out.trans (Kp.alloc _ _ _) (λ_ _ h=>h))).row w1.heap.size (.slice (some ⟨g1,0,none⟩) f.length cap1) rfl (zg (heap_alloc_new w1 _) 0) rfl (by have:=HNF.out;have:=HLT.out;have:=HN0.out;omega) (by have:=HM.out.kp.size;have:=HK1.out.size;simp;omega) ?_;intro v2 w2 hr2 hk2 hl2;obtain⟨a2,c2,rfl,_⟩:=zr hr2;have HNX:=ze (HM.out.next (HK1.out.trans (Kp.alloc _ _ _) (λ_ _ h=>h)) (HB1.out.kept (Kp.alloc _ _ _)) HFL.out hr2 hk2);clear hr2 hk2 hl2)
        |fail)
       go_roundw
       case rel=>exact⟨i+1,A-f.length,_,_,by have:=HLT.out;omega,rfl,by go_num,by omega,by have:=HA2.out;omega,HNX.out⟩
       case measure=>have:=HLT.out;simp[intOf];omega
     ·obtain rfl:i=fs.length:=by omega
      have hge:¬(fs.length:Int)<fs.length:=by omega
      have HF:=ze (HR.out wr _ fs' ((hM.fr.fin (by rw[HNF.out];exact HN0.out) hM.small (Nat.lt_of_lt_of_le HW0.out hM.kp.size))) hM.kp)
      clear hM hlt
      go_wp2_with fail
      exact HF.out
end
end
section
open Go.RowKit
def zgq (w:World)(e:Value × Nat × Int):Prop:=w.ownsRow 0 5 1 e.1 e.2.1 (z9c e.2.2 e.2.1)∧1≤e.2.2∧e.2.2<100000000000∧e.2.1<10000000
structure z6h (w:World)(p:Nat)(cs:Array Value)(vB vI v:Value)(qb:Nat)(bs ks:List Value)(lv:List Value)(i:Nat)(wr:World)(vB' vI':Value)(b':List (Value × Nat × Int)):Prop where
 hp:∃cs',wr.heap[p]?=some (.cells cs' 68 (0,0))∧cs'[3]?=some vB'∧cs'[4]?=some vI'∧cs'.size=cs.size∧∀k,k≠3→k≠4→cs'[k]?=cs[k]?
 rowB:wr.ownsRow 0 48 1 vB' (4*(qb+i)) (bs++b'.map (·.1))
 rowI:wr.ownsRow 0 3 1 vI' (4*(qb+i)) (ks++b'.map λe=>.int .i64 e.2.2)
 len:b'.length=4*i
 lists:∀e∈b',zgq wr e
 loc:∀e∈b',∀b,e.1.ownBlock=some b→(∃(j:Nat) (u:Value),j<i∧lv[j]?=some u∧u.ownBlock=some b)∨w.heap.size≤b
 locB:∀b,vB'.ownBlock=some b→vB.ownBlock=some b∨w.heap.size≤b
 locI:∀b,vI'.ownBlock=some b→vI.ownBlock=some b∨w.heap.size≤b
 kp:Kp (λb=>b=p∨vB.ownBlock=some b∨vI.ownBlock=some b∨∃(j:Nat) (u:Value),j<i∧lv[j]?=some u∧u.ownBlock=some b) w wr
theorem zzc {w:World}{p:Nat}{cs:Array Value}{base e size n:Nat}{v:Value}{xs:List Value}(hp:w.heap[p]?=some (.cells cs 68 (0,0)))(h:w.ownsRow base e size v n xs)(he:e≠68):v.ownBlock≠some p:=λeb=>by
 rcases h.2 with ⟨rfl,rfl⟩|⟨g,cap,cur,rfl,_,hg,_⟩
 ·cases eb
 ·injection eb with eb
  have eb:g=p:=eb
  rw[eb,hp]at hg
  injection hg with hg
  injection hg with _ hg
  exact he hg.symm
section
variable {w:World}{p:Nat}{cs:Array Value}{vB vI v:Value}{qb:Nat}{bs ks lv:List Value}{fl:List (List UInt8)}{base:Nat}
theorem z6h.start (hp:w.heap[p]?=some (.cells cs 68 (0,0)))(c3:cs[3]?=some vB)(c4:cs[4]?=some vI)(hB:w.ownsRow 0 48 1 vB (4*qb) bs)(hI:w.ownsRow 0 3 1 vI (4*qb) ks):z6h w p cs vB vI v qb bs ks lv 0 w vB vI []:=by
 exact⟨⟨cs,hp,c3,c4,rfl,λ_ _ _=>rfl⟩,by simpa using hB,by simpa using hI,rfl,λe he=>(by cases he),λe he=>(by cases he),λb e=>Or.inl e,λb e=>Or.inl e,Kp.refl _ _⟩
theorem z6h.inner {i:Nat}{wr:World}{vB' vI':Value}{b':List (Value × Nat × Int)}(h:z6h w p cs vB vI v qb bs ks lv i wr vB' vI' b')(hp:w.heap[p]?=some (.cells cs 68 (0,0)))(hB:w.ownsRow 0 48 1 vB (4*qb) bs)(hI:w.ownsRow 0 3 1 vI (4*qb) ks)(hv:FR base w v fl lv){j:Nat}(hj:i≤j){u:Value}{f:List UInt8}(hu:lv[j]?=some u)(hf:fl[j]?=some f):BR base wr u f:=by
 have hb:=hv.at_ j u f hu hf
 refine hb.kp h.kp (λb e hs=>?_)
 rcases hs with rfl|hs|hs|⟨k,u2,hk,hu2,e2⟩
 ·exact zzc hp hb (by decide) e
 ·exact z7 hb hB (by decide) b e hs
 ·exact z7 hb hI (by decide) b e hs
 ·have:=hv.apart j k u u2 b hu hu2 e e2
  omega
theorem z6h.outer {i:Nat}{wr:World}{vB' vI':Value}{b':List (Value × Nat × Int)}(h:z6h w p cs vB vI v qb bs ks lv i wr vB' vI' b')(hp:w.heap[p]?=some (.cells cs 68 (0,0)))(hI:w.ownsRow 0 3 1 vI (4*qb) ks)(hv:FR base w v fl lv)(hne:∀b,v.ownBlock=some b→vB.ownBlock≠some b):wr.ownsRow base 48 1 v fl.length lv:=by
 refine zi hv.row h.kp (λb e hs=>?_)
 rcases hs with rfl|hs|hs|⟨k,u2,hk,hu2,e2⟩
 ·exact zzc hp hv.row (by decide) e
 ·exact hne b e hs
 ·exact z7 hv.row hI (by decide) b e hs
 ·have hkl:k<fl.length:=by rw[← hv.len];exact (List.getElem?_eq_some_iff.1 hu2).1
  exact z7 hv.row (hv.at_ k u2 _ hu2 (List.getElem?_eq_getElem hkl)) (by decide) b e e2
theorem z6h.more {i:Nat}{wr w3:World}{vB' vI' vB3 vI3 u v1 v2 v3:Value}{b':List (Value × Nat × Int)}{n s5 s6:Nat}(h:z6h w p cs vB vI v qb bs ks lv i wr vB' vI' b')(_hB:w.ownsRow 0 48 1 vB (4*qb) bs)(_hI:w.ownsRow 0 3 1 vI (4*qb) ks)(hv:FR base w v fl lv)(hu:lv[i]?=some u)(hub:u.ownBlock=none∨∃b,u.ownBlock=some b∧b<w.heap.size)(hq:qb+i<10000000000)(hn:n<5000000)
  (k3:Kp (λb=>b=p∨vB'.ownBlock=some b∨vI'.ownBlock=some b∨u.ownBlock=some b) wr w3)
  {cs':Array Value} (hcs:wr.heap[p]?=some (.cells cs' 68 (0,0))∧cs'[3]?=some vB'∧cs'[4]?=some vI'∧cs'.size=cs.size∧∀k,k≠3→k≠4→cs'[k]?=cs[k]?) (hp3:w3.heap[p]?=some (.cells ((cs'.setIfInBounds 3 vB3).setIfInBounds 4 vI3) 68 (0,0)))
  (rB3:w3.ownsRow 0 48 1 vB3 (4*(qb+i)+4) (bs++b'.map (·.1)++[u,v1,v2,v3]))
  (rI3:w3.ownsRow 0 3 1 vI3 (4*(qb+i)+4) ((ks++b'.map λe=>.int .i64 e.2.2)++[.int .i64 ((qb+i:Nat)+1),.int .i64 ((qb+i:Nat)+1),.int .i64 ((qb+i:Nat)+1),.int .i64 ((qb+i:Nat)+1)]))
  (f0:w3.ownsRow 0 5 1 u n (z9c ((qb+i:Nat)+1) n)) (f1:w3.ownsRow 0 5 1 v1 (n+1) (z9c ((qb+i:Nat)+1) (n+1))) (f2:w3.ownsRow 0 5 1 v2 (n+2) (z9c ((qb+i:Nat)+1) (n+2))) (f3:w3.ownsRow 0 5 1 v3 (n+3) (z9c ((qb+i:Nat)+1) (n+3)))
  (hs5:wr.heap.size≤s5) (hs6:s5≤s6) (L1:zgf wr u v1 s5) (L2:zgf wr u v2 s5) (L3:zgf wr u v3 s5) (lB:∀b,vB3.ownBlock=some b→vB'.ownBlock=some b∨(s5≤b∧b<s6)) (lI:∀b,vI3.ownBlock=some b→vI'.ownBlock=some b∨s6≤b) :
  z6h w p cs vB vI v qb bs ks lv (i+1) w3 vB3 vI3 (b'++[(u,n,((qb+i:Nat):Int)+1),(v1,n+1,((qb+i:Nat):Int)+1),(v2,n+2,((qb+i:Nat):Int)+1),(v3,n+3,((qb+i:Nat):Int)+1)]):=by
 have hsz:=h.kp.size
 have ulow:∀b,u.ownBlock=some b→b<w.heap.size:=λb e=>by
  rcases hub with h0|⟨b2,h1,h2⟩
  ·rw[h0]at e;cases e
  ·rw[h1]at e;injection e with e;omega
 refine⟨?_,?_,?_,by rw[List.length_append,h.len];simp;omega,λe he=>?_,λe he b hb=>?_,λb e=>?_,λb e=>?_,?_⟩
 ·obtain⟨_,a3,a4,a5,a6⟩:=hcs
  have l3:=(Array.getElem?_eq_some_iff.1 a3).1
  have l4:=(Array.getElem?_eq_some_iff.1 a4).1
  refine⟨_,hp3,?_,?_,by simp[a5],λk k3 k4=>?_⟩
  ·rw[Array.getElem?_setIfInBounds_ne (by omega),Array.getElem?_setIfInBounds_self_of_lt l3]
  ·rw[Array.getElem?_setIfInBounds_self_of_lt (by simpa using l4)]
  ·rw[Array.getElem?_setIfInBounds_ne (by omega),Array.getElem?_setIfInBounds_ne (by omega)]
   exact a6 k k3 k4
 ·rw[show 4*(qb+(i+1))=4*(qb+i)+4 by omega,List.map_append,← List.append_assoc]
  exact rB3
 ·rw[show 4*(qb+(i+1))=4*(qb+i)+4 by omega,List.map_append,← List.append_assoc]
  exact rI3
 ·rcases List.mem_append.1 he with h1|h1
  ·obtain⟨a1,a2⟩:=h.lists e h1
   refine⟨zi a1 k3 (λb hb hs=>?_),a2⟩
   rcases hs with rfl|hs|hs|hs
   ·exact zzc hcs.1 a1 (by decide) hb
   ·exact z7 a1 h.rowB (by decide) b hb hs
   ·exact z7 a1 h.rowI (by decide) b hb hs
   ·rcases h.loc e h1 b hb with ⟨j,u2,hj,hu2,e2⟩|hge
    ·have:=hv.apart i j u u2 b hu hu2 hs e2
     omega
    ·have:=ulow b hs;omega
  ·simp only[List.mem_cons,List.not_mem_nil,or_false]at h1
   rcases h1 with rfl|rfl|rfl|rfl
   ·exact⟨f0,by dsimp only;omega,by dsimp only;omega,by dsimp only;omega⟩
   ·exact⟨f1,by dsimp only;omega,by dsimp only;omega,by dsimp only;omega⟩
   ·exact⟨f2,by dsimp only;omega,by dsimp only;omega,by dsimp only;omega⟩
   ·exact⟨f3,by dsimp only;omega,by dsimp only;omega,by dsimp only;omega⟩
 ·rcases List.mem_append.1 he with h1|h1
  ·rcases h.loc e h1 b hb with ⟨j,u2,hj,hu2,e2⟩|hge
   ·exact Or.inl ⟨j,u2,by omega,hu2,e2⟩
   ·exact Or.inr hge
  ·have lie:∀x,zgf wr u x s5→x.ownBlock=some b→(∃(j:Nat) (u:Value),j<i+1∧lv[j]?=some u∧u.ownBlock=some b)∨w.heap.size≤b:=λx hx hxb=>by
    rcases hx b hxb with h2|h2
    ·exact Or.inl ⟨i,u,by omega,hu,h2⟩
    ·exact Or.inr (by omega)
   simp only[List.mem_cons,List.not_mem_nil,or_false]at h1
   rcases h1 with rfl|rfl|rfl|rfl
   ·exact Or.inl ⟨i,u,by omega,hu,hb⟩
   ·exact lie v1 L1 hb
   ·exact lie v2 L2 hb
   ·exact lie v3 L3 hb
 ·rcases lB b e with h1|h1
  ·exact h.locB b h1
  ·exact Or.inr (by omega)
 ·rcases lI b e with h1|h1
  ·exact h.locI b h1
  ·exact Or.inr (by omega)
 ·refine (h.kp.mono (λb _ hs=>?_)).trans k3 (λb hb hs=>?_)
  ·exact hs.imp id (Or.imp id (Or.imp id (λ⟨j,u2,hj,r⟩=>⟨j,u2,by omega,r⟩)))
  ·rcases hs with hs|hs|hs|hs
   ·exact Or.inl hs
   ·rcases h.locB b hs with h1|h1
    ·exact Or.inr (Or.inl h1)
    ·omega
   ·rcases h.locI b hs with h1|h1
    ·exact Or.inr (Or.inr (Or.inl h1))
    ·omega
   ·exact Or.inr (Or.inr (Or.inr ⟨i,u,by omega,hu,hs⟩))
end
end
end Go.Proofs.YthbdpfccfcceiaaGreatDoor
