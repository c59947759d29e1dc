/-
  Of the proof of logsUpto_card.
-/
import Derived.Test.YthbdpfccfcceiaaGreatDoorA1x
namespace Go.Proofs.YthbdpfccfcceiaaGreatDoor
section
open Go.RowKit
def z5k (s:YS)(n:Int):YS:={ s with hor:=n,lg:=if s.hor<n then s.lg++[zxb n.toNat] else s.lg }
def zfm (s:YS)(t:Int):Prop:=∃i,∃hi:i<s.txs.length,(s.txs[i]).over=false∧(s.txs[i]).sees<t
theorem zrw (w:World)(p:Nat)(t:Int)(o:Obj)(x1 x2 x3 x4:Value)(u:TypeId):∀j q,[x1,x2,x3,x4][j]?=some q→(((w.setCell ⟨p,1,none⟩ (.int .i64 t)).alloc o).alloc (.cells #[x1,x2,x3,x4] u)).cell? ((⟨w.heap.size+1,0,none⟩:Addr).add j)=some q:=by
 have h:=zxe ((w.setCell ⟨p,1,none⟩ (.int .i64 t)).alloc o) x1 x2 x3 x4 u
 have e:((w.setCell ⟨p,1,none⟩ (.int .i64 t)).alloc o).heap.size=w.heap.size+1:=by simp[World.setCell]
 rw[e]at h
 exact h
section
variable {own own':Nat→Lab}{c:Nat}{w w':World}{p:Nat}{s:YS}{vL vT vG:Value}{sv lg:List Value}
variable {R:Ending→World→Prop}
theorem YR.setHor (h:YR own c w p s vL vT vG sv lg)(n:Int):YR own c (w.setCell ⟨p,1,none⟩ (.int .i64 n)) p (z5k s n) vL vT vG sv lg:=by
 have hb:∀b,b≠p→(w.setCell ⟨p,1,none⟩ (.int .i64 n)).heap[b]?=w.heap[b]?:=λb hb=>Below.heap_setCell w _ _ b hb
 refine⟨h.ownP,?_,?_,h.ownL,h.len,?_,h.ownT,λi hi hj=>?_,h.ownX,?_,h.ownG⟩
 ·rw[zq h.store];simp[z5k]
 ·exact zl h.rowL (λb e=>hb b (zpb (own:=own) (by rw[h.ownL b e,h.ownP];simp)))
 ·exact zl h.rowT (λb e=>hb b (zpb (own:=own) (by rw[h.ownT b e,h.ownP];simp)))
 ·exact zl (h.rowX i hi hj) (λb e=>hb b (zpb (own:=own) (by rw[h.ownX i hj b e,h.ownP];simp)))
 ·exact zl h.rowG (λb e=>hb b (zpb (own:=own) (by rw[h.ownG b e,h.ownP];simp)))
set_option maxRecDepth 20000 in
set_option maxHeartbeats 4000000 in
theorem z6m (h:YR own c w p s vL vT vG sv lg)(hB:YB s)(hbk:s.bku = .slice none 0 0)(t:Int)(hlg:lg.length<1000000)(hh:0≤s.hor)(hn:s.now≤2000)
  (h1:t<s.hor∨s.now<t→R (.returned (.int .i64 1)) w)
  (h2:¬t<s.hor→¬s.now<t→zfm s t→R (.returned (.int .i64 8)) w)
  (h3:¬s.now<t→¬zfm s t→t=s.hor→R (.returned (.int .i64 0)) w)
  (h4:¬s.now<t→¬zfm s t→s.hor<t→∀w' own' vG' x,Kp (λb=>(own b).c=c) w w'→(∀b,b<w.heap.size→own' b=own b)→YR own' c w' p (z5k s t) vL vT vG' sv (lg++[x])→BR w.heap.size w' x (zxb t.toNat)→(∀g,x.ownBlock=some g→own' g=own g)→R (.returned (.int .i64 0)) w') :
  Calls Tryz.prog 110 #[.pointer (some ⟨p,0,none⟩),.int .i64 t] w R:=by
 have H:=ze h
 have c1:w.cell? ⟨p,1,none⟩=some (.int .i64 s.hor):=zg h.store 1
 have c2:w.cell? ⟨p,2,none⟩=some (.int .i64 s.now):=zg h.store 2
 by_cases ha:t<s.hor
 ·have HR:=h1 (Or.inl ha)
  clear h h1 h2 h3 h4 hB hbk hlg hh hn
  go_enter Tryz.func110,Tryz.ntmps110
  go_wp2
  exact HR
 ·by_cases hb:s.now<t
  ·have HR:=h1 (Or.inr hb)
   clear h h1 h2 h3 h4 hB hbk hlg hh hn
   go_enter Tryz.func110,Tryz.ntmps110
   go_wp2
   exact HR
  ·obtain⟨aT,capT,hvT,_⟩:=zr h.rowT
   have c3:w.cell? ⟨p,3,none⟩=some (.slice aT s.txs.length capT):=(zg h.store 3).trans (by rw[hvT];rfl)
   have c6:w.cell? ⟨p,6,none⟩=some (.slice none 0 0):=(zg h.store 6).trans (by rw[hbk];rfl)
   have HH2:=ze (h2 ha hb)
   have HH3:=ze (h3 hb)
   have HH4:=ze (h4 hb)
   have HVT:=ze hvT
   have htl:(s.txs.length:Int)<1000000000000:=by have:=hB.txs;omega
   have HLG:=ze hlg
   have HHN:=ze (And.intro hh hn)
   clear h h1 h2 h3 h4 hB hbk hlg hh hn hvT
   go_enter Tryz.func110,Tryz.ntmps110
   go_wp2
   go_loopw [5] (λv5 wr=>∃i:Nat,i≤s.txs.length∧v5 = .int .i64 i∧wr=w∧∀k (hk:k<s.txs.length),k<i→¬((s.txs[k]).over=false∧(s.txs[k]).sees<t)) (λv5 _=>s.txs.length-(intOf v5).toNat)
   case atStart=>exact⟨0,Nat.zero_le _,rfl,rfl,λk _ hk=>absurd hk (by omega)⟩
   case round=>
    obtain⟨i,hile,rfl,hww,hno⟩:=hrel
    rw[hww]
    clear hww
    have HNO:=ze hno
    clear hno
    by_cases hin:i<s.txs.length
    ·have hin':(i:Int)<s.txs.length:=by omega
     obtain⟨g,cap,hv,q0,q1,q2,q3,q4⟩:=H.out.txAt i hin
     clear q2 q3 q4
     rw[HVT.out]at hv
     injection hv with hv1 _ _
     subst hv1
     have HIN:=ze hin
     generalize hov:(s.txs[i]).over=ov at q0
     generalize hse:(s.txs[i]).sees=se at q1
     have HOV:=ze hov
     have HSE:=ze hse
     clear hov hse hin hile
     cases ov with
     |true=>
      go_wp2
      go_roundw
      case rel=>
       refine⟨i+1,by have:=HIN.out;omega,by go_num,by first|rfl|trivial,λk hk hki=>?_⟩
       by_cases hk2:k=i
       ·subst hk2
        intro h
        exact Bool.noConfusion (h.1.symm.trans HOV.out)
       ·exact HNO.out k hk (by omega)
      case measure=>have:=HIN.out;simp[intOf];omega
     |false=>
      by_cases hlt:se<t
      ·have HF:=ze (HH2.out ⟨i,HIN.out,HOV.out,by have e:(s.txs[i]'HIN.out).sees=se:=HSE.out;omega⟩)
       go_wp2
       exact HF.out
      ·go_wp2
       go_roundw
       case rel=>
        refine⟨i+1,by have:=HIN.out;omega,by go_num,by first|rfl|trivial,λk hk hki=>?_⟩
        by_cases hk2:k=i
        ·subst hk2
         intro h
         have e:(s.txs[k]).sees=se:=HSE.out
         have h2:=h.2
         omega
        ·exact HNO.out k hk (by omega)
       case measure=>have:=HIN.out;simp[intOf];omega
    ·have hnl:¬(i:Int)<s.txs.length:=by omega
     have hnp:¬zfm s t:=λ⟨k,hk,h1,h2⟩=>HNO.out k hk (by omega) ⟨h1,h2⟩
     have HNP:=ze hnp
     clear hin hile hnp
     go_wp2
     go_loopw [6] (λv6 wr=>v6 = .int .i64 0∧wr=w) (λ_ _=>0)
     case atStart=>exact⟨rfl,rfl⟩
     case round=>
      obtain⟨rfl,hww⟩:=hrel
      rw[hww]
      clear hww
      by_cases heq:s.hor<t
      ·have hf1:w.frozen? ⟨p,1,none⟩=false:=zx H.out.store 1
       obtain⟨iU,hU⟩:=info_parts zom
       have HIU:=ze hU
       obtain⟨iB,hB⟩:=info_parts z2g
       have HIB:=ze hB
       have HY1:=ze (H.out.setHor t)
       have H4:=ze (HH4.out HNP.out heq)
       have HT0:Hid (0≤t∧t≤10000):=⟨by have:=HHN.out.1;omega,by have:=HHN.out.2;omega⟩
       have LP:Hid (p<w.heap.size):=zh H.out.store
       have NPG:Hid (vG.ownBlock≠some p):=λe=>by
        have:=H.out.ownG p e
        rw[H.out.ownP]at this;simp at this
       have HS1:Hid ((w.setCell ⟨p,1,none⟩ (.int .i64 t)).heap.size=w.heap.size):=by show _=_;simp[World.setCell]
       have ROW0:Hid (((w.setCell ⟨p,1,none⟩ (.int .i64 t)).alloc (.cells #[.int .u8 72] 5)).ownsRow w.heap.size 5 1 (.slice (some ⟨w.heap.size,0,none⟩) 1 1) 1 [.int .u8 72]):=by
        have e:=heap_alloc_new (w.setCell ⟨p,1,none⟩ (.int .i64 t)) (.cells #[.int .u8 72] 5)
        rw[HS1.out]at e
        exact⟨by simp,Or.inr ⟨w.heap.size,1,#[.int .u8 72],rfl,Nat.le_refl _,e,Nat.le_refl _,by unfold maxLen;omega,by simp,by simp⟩⟩
       clear hU hB
       go_wp2_with (first
        |(go_at_call 161;refine z82 t _ HT0.out.1 HT0.out.2 (λza zb zc zd hby=>?_))
        |(at_builtin;refine zz rfl _ _ 48 rfl w.heap.size 5 iU (.int .u8 0) 1 1 Tryz.underlying48 HIU.out.1 HIU.out.2.1 HIU.out.2.2.1 HIU.out.2.2.2 rfl (by decide) _ _ _ rfl (ROW0.out.alloc _) ⟨w.heap.size+1,0,none⟩ 4 4 [.int .u8 za,.int .u8 zb,.int .u8 zc,.int .u8 zd] rfl rfl ?_ (by simp[Value.oneCell']) (by decide) (by decide) (by simp[World.setCell];omega) (by decide) ?_;(exact zrw w p t _ _ _ _ _ _);intro v2 w2 own2 grow2 loc2 keep2;have hk2:=((Kp.alloc (λb=>b=w.heap.size) (w.setCell ⟨p,1,none⟩ (.int .i64 t)) (.cells #[.int .u8 72] 5)).trans (Kp.alloc (λb=>b=w.heap.size) _ (.cells #[.int .u8 za,.int .u8 zb,.int .u8 zc,.int .u8 zd] 5)) (λ_ _ h=>h)).trans (Kp.of_grown (S:=λb=>b=w.heap.size) grow2 (λk h=>by injection h with h;exact h.symm)) (λ_ _ h=>h);have hp1:=zq (i:=1) H.out.store (.int .i64 t);have hp2:=mbs hk2 hp1 (λh=>by have:=LP.out;omega);have y4:w2.cell? ⟨p,4,none⟩=some vG:=zg hp2 4;obtain⟨a2,cap2,rfl,_⟩:=zr own2;have HB2:Hid (BR w.heap.size w2 (.slice a2 5 cap2) (zxb t.toNat)):=(by show World.ownsRow _ _ _ _ _ _ _;rw[show (zxb t.toNat).length=5 from rfl,← hby];exact own2);have HK2:=ze hk2;have HP2:=ze hp2;have RG:=ze (zi HY1.out.rowG hk2 (λb hb h=>by have h1:=(H.out.rowG.lt b hb).2;omega));clear hk2 hp1 hp2 own2 grow2 loc2 keep2)
        |(at_builtin;refine zz rfl _ _ 37 rfl 0 48 iB (.slice none 0 0) 1 24 Tryz.underlying37 HIB.out.1 HIB.out.2.1 HIB.out.2.2.1 HIB.out.2.2.2 rfl (by decide) _ _ _ rfl (RG.out.alloc _) ⟨w2.heap.size,0,none⟩ 1 1 [.slice a2 5 cap2] rfl rfl (cell_one_new _ _ _) (by simp[Value.oneCell']) (by have:=HLG.out;unfold maxLen;omega) (by have:=HLG.out;omega) (Nat.zero_le _) (by decide) ?_;intro v3 w3 own3 grow3 loc3 keep3;have hk3:=zhc (S:=λb=>vG.ownBlock=some b) grow3 (λ_ h=>h);have hp3:=mbs hk3 HP2.out NPG.out;have y4:w3.cell? ⟨p,4,none⟩=some vG:=zg hp3 4;have yf4:=zx hp3 4;obtain⟨a3,cap3,rfl,_⟩:=zr own3;have HO3:=ze own3;have HG3:=ze grow3;have HL3:=ze loc3;have HK3:=ze hk3;clear hk3 hp3 own3 grow3 loc3 keep3)
        |fail)
       have s2:=HK2.out.size
       rw[HS1.out]at s2
       have Y2:YR own _ (w2.alloc (.cells #[.slice a2 5 cap2] 48)) p (z5k s t) vL vT vG sv lg:=HY1.out.frame (λb hb _=>by
        rw[HS1.out]at hb
        rw[Below.heap_alloc _ _ _ (by omega)]
        exact HK2.out.block b (by rw[HS1.out];exact hb) (by omega)) (λ_ _ _=>rfl)
       have Y3:=Y2.addLog (Kp.of_grown (S:=λb=>vG.ownBlock=some b) HG3.out (λ_ h=>h)) (.slice a2 5 cap2) HO3.out (HL3.out.imp id (λh=>⟨_,h,Nat.le_refl _⟩))
       have kk:Kp (λb=>(own b).c=_) w (w3.setCell ⟨p,4,none⟩ (.slice a3 (lg.length+1) cap3)):=
        (((Kp.setCell (S:=λb=>(own b).c=_) w ⟨p,1,none⟩ (.int .i64 t) (by show (own p).c=_;rw[H.out.ownP])).trans HK2.out (λb hb h=>by omega)).trans HK3.out (λb hb h=>by show (own b).c=_;rw[H.out.ownG b h])).trans (Kp.setCell (S:=λb=>b=p) w3 ⟨p,4,none⟩ _ rfl) (λb hb h=>by show (own b).c=_;rw[h,H.out.ownP])
       have z1:∀b,(Value.slice a2 5 cap2).ownBlock=some b→w.heap.size≤b∧b<w2.heap.size:=λb e=>HB2.out.lt b e
       have BF:BR w.heap.size (w3.setCell ⟨p,4,none⟩ (.slice a3 (lg.length+1) cap3)) (.slice a2 5 cap2) (zxb t.toNat):=
        ((HB2.out.kept (Kp.alloc (λ_=>False) _ _)).kp (Kp.of_grown (S:=λb=>vG.ownBlock=some b) HG3.out (λ_ h=>h)) (λb e h=>by have h1:=(z1 b e).1;have h2:=(H.out.rowG.lt b h).2;omega)).kp (Kp.setCell (S:=λb=>b=p) w3 ⟨p,4,none⟩ _ rfl) (λb e h=>by have h1:=(z1 b e).1;have:=LP.out;omega)
       have OF:∀g,(Value.slice a2 5 cap2).ownBlock=some g→(λb=>if (Value.slice a3 (lg.length+1) cap3).ownBlock=some b then (⟨c,3,0,eb⟩:Lab) else own b) g=own g:=λg hg=>by
        have h1:=z1 g hg
        have z3:¬(Value.slice a3 (lg.length+1) cap3).ownBlock=some g:=λe=>by
         rcases HL3.out with hl|hl
         ·rw[hl]at e
          have h2:=(H.out.rowG.lt g e).2
          omega
         ·rw[hl]at e
          injection e with e
          simp at e
          omega
        simp only[z3,if_false]
       have HF:=ze (H4.out _ _ _ _ kk (λb hb=>Y3.2 b (by simp;omega)) Y3.1 BF OF)
       clear Y2 Y3 kk s2 z1 BF OF
       go_wp2_with fail
       exact HF.out
      ·have HF:=ze (HH3.out HNP.out (by omega))
       go_wp2
       exact HF.out
end
end
section
open Go.RowKit
def z12 (s:YS)(v:YV):Prop:=∃y∈s.l,y.key=v.key∧v.t<y.t∧y.t≤s.hor
def z02 (s:YS)(v:YV):Prop:=∀y∈s.l,y.key=v.key→¬y.t<v.t
def zsi (s:YS)(v:YV):Prop:=z12 s v∨(v.gone=true∧v.t≤s.hor∧z02 s v)
def zli (s:YS)(vk:ByteArray)(vt:Int)(i:Nat):Prop:=∀y∈s.l.take i,¬(y.key=vk∧vt<y.t∧y.t≤s.hor)
def zki (s:YS)(vk:ByteArray)(vt:Int)(i:Nat):Prop:=∀y∈s.l.take i,y.key=vk→¬y.t<vt
theorem ztz {s:YS}{vk:ByteArray}{vt:Int}{i:Nat}(hi:i<s.l.length){kk:ByteArray}{tt:Int}(hk:(s.l[i]).key=kk)(ht:(s.l[i]).t=tt){fst fst':Bool}(hf:fst=true↔zki s vk vt i)(hn:zli s vk vt i)
  (h1:fst'=true↔(fst=true∧(kk=vk→¬tt<vt))) (h2:¬(kk=vk∧vt<tt∧tt≤s.hor)):(fst'=true↔zki s vk vt (i+1))∧zli s vk vt (i+1):=by
 have e:s.l.take (i+1)=s.l.take i++[s.l[i]]:=List.take_succ_eq_append_getElem hi
 subst hk
 subst ht
 refine⟨h1.trans ?_,?_⟩
 ·rw[hf]
  unfold zki
  rw[e]
  constructor
  ·rintro⟨a,b⟩ y hy
   rcases List.mem_append.1 hy with h|h
   ·exact a y h
   ·have:y=s.l[i]:=by simpa using h
    subst this;exact b
  ·intro a
   exact⟨λy hy=>a y (List.mem_append.2 (Or.inl hy)),a _ (List.mem_append.2 (Or.inr (by simp)))⟩
 ·unfold zli
  rw[e]
  intro y hy
  rcases List.mem_append.1 hy with h|h
  ·exact hn y h
  ·have:y=s.l[i]:=by simpa using h
   subst this;exact h2
theorem zz1 {s:YS}{vk vs:ByteArray}{vt:Int}{vg:Bool}{fst:Bool}(hf:fst=true↔zki s vk vt s.l.length)(hn:zli s vk vt s.l.length):zsi s ⟨vk,vt,vg,vs⟩↔(vg=true∧vt≤s.hor∧fst=true):=by
 unfold zki at hf
 unfold zli at hn
 rw[List.take_length]at hf hn
 rw[hf]
 constructor
 ·rintro (⟨y,hy,h1,h2,h3⟩|⟨h1,h2,h3⟩)
  ·exact absurd ⟨h1,h2,h3⟩ (hn y hy)
  ·exact⟨h1,h2,h3⟩
 ·rintro⟨h1,h2,h3⟩
  exact Or.inr ⟨h1,h2,h3⟩
theorem z2w {a b:ByteArray}(h:(a.toList == b.toList)=true):a=b:=WideShapes.bytes_inj (by rw[← Lib.toList_data,← Lib.toList_data];simpa using h)
theorem z3w {a b:ByteArray}(h:(a.toList == b.toList)=false):a≠b:=λe=>by rw[e]at h;simp at h
theorem zf3 (w:World)(a b:Nat):Kp (λ_=>False) w ((w.drewN a).drewN b):=(Kp.drewN _ _ _).trans (Kp.drewN (λ_=>False) _ _) (λ_ _ h=>h)
section
variable {own own':Nat→Lab}{c:Nat}{w w':World}{p:Nat}{s:YS}{vL vT vG:Value}{sv lg:List Value}
variable {R:Ending→World→Prop}
def z8n (w:World)(v:YV):World:=w.alloc (.cells #[.string v.key,.int .i64 v.t,.bool v.gone,.string v.s] 193)
set_option maxRecDepth 20000 in
set_option maxHeartbeats 4000000 in
theorem z5n (h:YR own c w p s vL vT vG sv lg)(hl:s.l.length<1000000)(vk vs:ByteArray)(vt:Int)(vg:Bool)
  (hR:∀b w',(b=true↔zsi s ⟨vk,vt,vg,vs⟩)→Kp (λ_=>False) w w'→R (.returned (.bool b)) w') :
  Calls Tryz.prog 162 #[.pointer (some ⟨p,0,none⟩),.agg #[.string vk,.int .i64 vt,.bool vg,.string vs]] w R:=by
 have H:=ze h
 have HR:=ze hR
 obtain⟨al,cl,hvl,_⟩:=zr h.rowL
 have HVV:=ze hvl
 have k1:Kp (λ_=>False) w (z8n w ⟨vk,vt,vg,vs⟩):=Kp.alloc _ _ _
 have hbox:(z8n w ⟨vk,vt,vg,vs⟩).heap[w.heap.size]?=some (.cells #[.string vk,.int .i64 vt,.bool vg,.string vs] 193 (0,0)):=heap_alloc_new w _
 have hY1:=h.kept k1
 have HY1:=ze hY1
 have HBOX:=ze hbox
 have HK1:=ze k1
 have hl':(s.l.length:Int)<1000000:=by omega
 have c0:(z8n w ⟨vk,vt,vg,vs⟩).cell? ⟨p,0,none⟩=some (.slice al s.l.length cl):=(zg hY1.store 0).trans (by rw[hvl];rfl)
 have c1:(z8n w ⟨vk,vt,vg,vs⟩).cell? ⟨p,1,none⟩=some (.int .i64 s.hor):=zg hY1.store 1
 have C0:=ze c0
 have C1:=ze c1
 have LP:Hid (p<(z8n w ⟨vk,vt,vg,vs⟩).heap.size):=zh hY1.store
 clear h hR hvl k1 hbox hY1 c0 c1 hl
 go_enter Tryz.func162,Tryz.ntmps162
 go_wp2
 go_loopw [5,6] (λv5 v6 wr=>∃(i:Nat) (fst:Bool),i≤s.l.length∧v5 = .bool fst∧v6 = .int .i64 i∧Kp (λ_=>False) (z8n w ⟨vk,vt,vg,vs⟩) wr∧
  (fst=true↔zki s vk vt i)∧zli s vk vt i) (λ_ v6 _=>s.l.length-(intOf v6).toNat)
 case atStart=>exact⟨0,true,Nat.zero_le _,rfl,rfl,Kp.refl _ _,⟨λ_ y hy=>by simp at hy,λ_=>rfl⟩,λy hy=>by simp at hy⟩
 case round=>
  obtain⟨i,fst,hile,rfl,rfl,hkp,hfst,hno⟩:=hrel
  have HF:=ze hfst
  have HNO:=ze hno
  have HKP:=ze hkp
  have d0:=(hkp.cell (a:=⟨p,0,none⟩) LP.out (λh=>h)).trans C0.out
  have d1:=(hkp.cell (a:=⟨p,1,none⟩) LP.out (λh=>h)).trans C1.out
  have hb2:=mbs hkp HBOX.out (λh=>h)
  have b0:wr.cell? ⟨w.heap.size,0,none⟩=some (.string vk):=zg hb2 0
  have b1:wr.cell? ⟨w.heap.size,1,none⟩=some (.int .i64 vt):=zg hb2 1
  have b2:wr.cell? ⟨w.heap.size,2,none⟩=some (.bool vg):=zg hb2 2
  have HRW:=ze (zi HY1.out.rowL hkp (λ_ _ h=>h))
  clear hfst hno hkp hb2
  by_cases hin:i<s.l.length
  ·have hin':(i:Int)<s.l.length:=by omega
   rcases zxh HRW.out with ⟨_,h0⟩|⟨g,cap,hv⟩
   ·rw[h0]at hin;simp at hin
   ·have hval:=hv.val
    rw[HVV.out]at hval
    injection hval with hal _ hcl
    subst hal
    have q0:=hv.c0 i hin
    have q1:=hv.c1 i hin
    have HIN:=ze hin
    generalize hkk:(s.l[i]).key=kk at q0
    generalize htt:(s.l[i]).t=tt at q1
    have HKK:=ze hkk
    have HTT:=ze htt
    have next:=λ(fst':Bool)=>ztz (fst:=fst) (fst':=fst') (vk:=vk) (vt:=vt) hin hkk htt HF.out HNO.out
    have HNX:=ze next
    clear hv hkk htt next hin hile
    cases he:(kk.toList == vk.toList)
    ·have hne:=z3w he
     have HNE:=ze hne
     clear hne
     go_wp2_with fail
     go_quiet (fail)
     go_wp2_with fail
     go_roundw
     case rel=>
      have hne:=HNE.out
      have:=HNX.out fst ⟨λh=>⟨h,λe=>absurd e hne⟩,λh=>h.1⟩ (λh=>hne h.1)
      exact⟨i+1,fst,by have:=HIN.out;omega,rfl,by go_num,HKP.out.trans (Kp.drewN (λ_=>False) _ _) (λ_ _ h=>h),this.1,this.2⟩
     case measure=>have:=HIN.out;simp[intOf];omega
    ·have HEK:=ze (z2w he)
     by_cases h1:vt<tt
     ·by_cases h2:tt≤s.hor
      ·have HFF:=ze (λ(w':World) (k:Kp (λ_=>False) w w')=>HR.out true w' ⟨λ_=>Or.inl ⟨s.l[i]'HIN.out,List.getElem_mem _,HKK.out.trans HEK.out,by have e2:(s.l[i]'HIN.out).t=tt:=HTT.out;show vt<_;omega,by have e2:(s.l[i]'HIN.out).t=tt:=HTT.out;omega⟩,λ_=>rfl⟩ k)
       go_wp2_with fail
       go_quiet (fail)
       go_wp2_with fail
       go_quiet (fail)
       go_wp2_with fail
       exact HFF.out _ ((HK1.out.trans HKP.out (λ_ _ h=>h)).trans (zf3 _ _ _) (λ_ _ h=>h))
      ·have h3:¬tt<vt:=by omega
       have e1:decide (vt<tt)=true:=decide_eq_true h1
       have e2:decide (tt≤s.hor)=false:=decide_eq_false h2
       have e3:decide (tt<vt)=false:=decide_eq_false h3
       go_wp2_with fail
       go_quiet (fail)
       go_wp2_with fail
       go_quiet (fail)
       go_wp2_with fail
       go_quiet (fail)
       go_wp2_with fail
       go_roundw
       case rel=>
        have:=HNX.out fst ⟨λh=>⟨h,λ_=>by omega⟩,λh=>h.1⟩ (λh=>by have:=h.2.2;omega)
        exact⟨i+1,fst,by have:=HIN.out;omega,rfl,by go_num,HKP.out.trans (Kp.drewN (λ_=>False) _ _) (λ_ _ h=>h),this.1,this.2⟩
       case measure=>have:=HIN.out;simp[intOf];omega
     ·have e1:decide (vt<tt)=false:=decide_eq_false h1
      by_cases h3:tt<vt
      ·have e3:decide (tt<vt)=true:=decide_eq_true h3
       go_wp2_with fail
       go_quiet (fail)
       go_wp2_with fail
       go_quiet (fail)
       go_wp2_with fail
       go_quiet (fail)
       go_wp2_with fail
       go_roundw
       case rel=>
        have:=HNX.out false ⟨λh=>(by cases h),λh=>(by have:=h.2 HEK.out;omega)⟩ (λh=>by have:=h.2.1;omega)
        exact⟨i+1,false,by have:=HIN.out;omega,rfl,by go_num,HKP.out.trans (Kp.drewN (λ_=>False) _ _) (λ_ _ h=>h),this.1,this.2⟩
       case measure=>have:=HIN.out;simp[intOf];omega
      ·have e3:decide (tt<vt)=false:=decide_eq_false h3
       go_wp2_with fail
       go_quiet (fail)
       go_wp2_with fail
       go_quiet (fail)
       go_wp2_with fail
       go_quiet (fail)
       go_wp2_with fail
       go_roundw
       case rel=>
        have:=HNX.out fst ⟨λh=>⟨h,λ_=>by omega⟩,λh=>h.1⟩ (λh=>by have:=h.2.1;omega)
        exact⟨i+1,fst,by have:=HIN.out;omega,rfl,by go_num,HKP.out.trans (Kp.drewN (λ_=>False) _ _) (λ_ _ h=>h),this.1,this.2⟩
       case measure=>have:=HIN.out;simp[intOf];omega
  ·have hie:i=s.l.length:=by omega
   have hm:=zz1 (vs:=vs) (vg:=vg) (fst:=fst) (by rw[← hie];exact HF.out) (by rw[← hie];exact HNO.out)
   have HM:=ze hm
   have hnl:¬(i:Int)<s.l.length:=by omega
   clear hm hie hin hile
   cases vg with
   |false=>
    have HFF:=ze (λ(w':World) (k:Kp (λ_=>False) w w')=>HR.out false w' ⟨λh=>(by cases h),λh=>(by have:=HM.out.1 h;cases this.1)⟩ k)
    go_wp2_with fail
    go_quiet (fail)
    go_wp2_with fail
    exact HFF.out _ ((HK1.out.trans HKP.out (λ_ _ h=>h)).trans (Kp.drewN (λ_=>False) _ _) (λ_ _ h=>h))
   |true=>
    by_cases h2:vt≤s.hor
    ·cases fst with
     |false=>
      have HFF:=ze (λ(w':World) (k:Kp (λ_=>False) w w')=>HR.out false w' ⟨λh=>(by cases h),λh=>(by have:=HM.out.1 h;cases this.2.2)⟩ k)
      go_wp2_with fail
      go_quiet (fail)
      go_wp2_with fail
      exact HFF.out _ ((HK1.out.trans HKP.out (λ_ _ h=>h)).trans (Kp.drewN (λ_=>False) _ _) (λ_ _ h=>h))
     |true=>
      have HFF:=ze (λ(w':World) (k:Kp (λ_=>False) w w')=>HR.out true w' ⟨λ_=>HM.out.2 ⟨rfl,h2,rfl⟩,λ_=>rfl⟩ k)
      go_wp2_with fail
      go_quiet (fail)
      go_wp2_with fail
      exact HFF.out _ ((HK1.out.trans HKP.out (λ_ _ h=>h)).trans (Kp.drewN (λ_=>False) _ _) (λ_ _ h=>h))
    ·have HFF:=ze (λ(w':World) (k:Kp (λ_=>False) w w')=>HR.out false w' ⟨λh=>(by cases h),λh=>(by have:=HM.out.1 h;exact absurd this.2.1 h2)⟩ k)
     have e2:decide (vt≤s.hor)=false:=decide_eq_false h2
     go_wp2_with fail
     go_quiet (fail)
     go_wp2_with fail
     exact HFF.out _ ((HK1.out.trans HKP.out (λ_ _ h=>h)).trans (Kp.drewN (λ_=>False) _ _) (λ_ _ h=>h))
end
end
section
open Go.RowKit
def ltV (a b:YV):Prop:=blt a.key b.key∨(a.key=b.key∧a.t<b.t)
theorem zsn (a:YV):¬ltV a a:=λh=>by
 rcases h with h|h
 ·exact zic _ h
 ·omega
theorem zhx {a b c:YV}(h:ltV a b)(h':ltV b c):ltV a c:=by
 rcases h with h|⟨e,h⟩<;>rcases h' with h' | ⟨e',h'⟩
 ·exact Or.inl (zxg h h')
 ·exact Or.inl (e' ▸ h)
 ·exact Or.inl (e ▸ h')
 ·exact Or.inr ⟨e.trans e',by omega⟩
structure zwf (s:YS)(k b:Nat):Prop where
 lt:b<s.l.length
 ltk:b<k
 may:zsi s s.l[b]
 top:∀j (hj:j<s.l.length),j<k→zsi s s.l[j]→¬ltV s.l[j] s.l[b]
def z8h (s:YS)(k:Nat):Prop:=∀j (hj:j<s.l.length),j<k→¬zsi s s.l[j]
section
variable {s:YS}{k b:Nat}
theorem z8h.skip (h:z8h s k)(hk:k<s.l.length)(hm:¬zsi s s.l[k]):z8h s (k+1):=λj hj hjk=>by
 by_cases e:j=k
 ·subst e;exact hm
 ·exact h j hj (by omega)
theorem z8h.new (h:z8h s k)(hk:k<s.l.length)(hm:zsi s s.l[k]):zwf s (k+1) k:=
 ⟨hk,by omega,hm,λj hj hjk hmj=>by
  by_cases e:j=k
  ·subst e;exact zsn _
  ·exact absurd hmj (h j hj (by omega))⟩
theorem zwf.skip (h:zwf s k b)(hk:k<s.l.length)(hm:¬zsi s s.l[k]):zwf s (k+1) b:=
 ⟨h.lt,Nat.lt_succ_of_lt h.ltk,h.may,λj hj hjk hmj=>by
  by_cases e:j=k
  ·subst e;exact absurd hmj hm
  ·exact h.top j hj (by omega) hmj⟩
theorem zwf.keep (h:zwf s k b)(hk:k<s.l.length)(hb:b<s.l.length)(hn:¬ltV s.l[k] s.l[b]):zwf s (k+1) b:=
 ⟨h.lt,Nat.lt_succ_of_lt h.ltk,h.may,λj hj hjk hmj=>by
  by_cases e:j=k
  ·subst e;exact hn
  ·exact h.top j hj (by omega) hmj⟩
theorem zwf.new (h:zwf s k b)(hk:k<s.l.length)(hb:b<s.l.length)(hm:zsi s s.l[k])(hl:ltV s.l[k] s.l[b]):zwf s (k+1) k:=
 ⟨hk,by omega,hm,λj hj hjk hmj=>by
  by_cases e:j=k
  ·subst e;exact zsn _
  ·exact λh2=>h.top j hj (by omega) hmj (zhx h2 hl)⟩
end
def zjg:Nat→YS→YS→Prop
 |0,s,s'=>s'=s
 |n+1,s,s'=>∃s1 b,zjg n s s1∧zwf s1 s1.l.length b∧s'={ s1 with l:=s1.l.eraseIdx b }
theorem zjg.none (s:YS):zjg 0 s s:=rfl
theorem zjg.same:∀{n:Nat} {s s':YS},zjg n s s'→s'.lg=s.lg∧s'.syn=s.syn
 |0,_,_,h=>by rw[show _=_ from h];exact⟨rfl,rfl⟩
 |_+1,_,_,⟨_,_,h,_,e⟩=>by rw[e];exact⟨(zjg.same h).1,(zjg.same h).2⟩
theorem zjg.more {n:Nat}{s s':YS}{b:Nat}(h:zjg n s s')(hb:zwf s' s'.l.length b):zjg (n+1) s { s' with l:=s'.l.eraseIdx b }:=⟨s',b,h,hb,rfl⟩
section
variable {own own':Nat→Lab}{c:Nat}{w w':World}{p:Nat}{s:YS}{vL vT vG:Value}{sv lg:List Value}
theorem YR.newVers (h:YR own c w p s vL vT vG sv lg){w3:World}{v':Value}(hk:Kp (λ_=>False) w w3)(l':List YV)(hrow:w3.ownsRow 0 193 4 v' l'.length (zo l'))(hloc:∀b,v'.ownBlock=some b→w.heap.size≤b) :
  YR (λb=>if v'.ownBlock=some b then ⟨c,1,0,eb⟩ else own b) c (w3.setCell ⟨p,0,none⟩ v') p { s with l:=l' } v' vT vG sv lg∧
  (∀b,b<w.heap.size→(λb=>if v'.ownBlock=some b then (⟨c,1,0,eb⟩:Lab) else own b) b=own b):=by
 have hout:∀b,b<w.heap.size→(λb=>if v'.ownBlock=some b then (⟨c,1,0,eb⟩:Lab) else own b) b=own b:=λb hb=>by
  by_cases e:v'.ownBlock=some b
  ·have:=hloc b e;omega
  ·simp[e]
 have lp:=zh h.store
 have old:∀b,b<w.heap.size→b≠p→(w3.setCell ⟨p,0,none⟩ v').heap[b]?=w.heap[b]?:=λb hb h2=>by
  rw[Below.heap_setCell w3 _ _ b h2];exact hk.block b hb (λe=>e)
 refine⟨⟨(hout p lp).trans h.ownP,?_,?_,?_,h.len,?_,?_,?_,?_,?_,?_⟩,hout⟩
 ·rw[zq ((hk.block p lp (λe=>e)).trans h.store)];rfl
 ·exact zl hrow (λb e=>Below.heap_setCell w3 _ _ b (λe2=>by have h1:=hloc b e;have e3:b=p:=e2;omega))
 ·intro b e;simp[e]
 ·exact zl h.rowT (λb e=>old b (h.rowT.lt b e).2 (zpb (own:=own) (by rw[h.ownT b e,h.ownP];simp)))
 ·exact λb e=>(hout b (h.rowT.lt b e).2).trans (h.ownT b e)
 ·exact λi hi hj=>zl (h.rowX i hi hj) (λb e=>old b ((h.rowX i hi hj).lt b e).2 (zpb (own:=own) (by rw[h.ownX i hj b e,h.ownP];simp)))
 ·exact λi hj b e=>(hout b ((h.rowX i (h.len ▸ hj) hj).lt b e).2).trans (h.ownX i hj b e)
 ·exact zl h.rowG (λb e=>old b (h.rowG.lt b e).2 (zpb (own:=own) (by rw[h.ownG b e,h.ownP];simp)))
 ·exact λb e=>(hout b (h.rowG.lt b e).2).trans (h.ownG b e)
end
end
end Go.Proofs.YthbdpfccfcceiaaGreatDoor
