/-
  Of the proof of logsUpto_card.
-/
import Derived.Test.YthbdpfccfcceiaaGreatDoorV3x
namespace Go.Proofs.YthbdpfccfcceiaaGreatDoor
section
open Go.RowKit Go.Maps Go.Sort
theorem fmap.drop_get {P:Program}{k:TypeId}{w:World}{b n:Nat}{f:Value→Option Value}(h:fmap w P k b n f){m:Nat}(e:n=m):fmap w P k b m f:=e ▸ h
section
variable {w:World}
theorem zqr (cur:Array Value)(d:List Int)(n:Nat)(hn:d.length=n)(hc:n≤cur.size):(putCells (Value.int .i64) 0 d.toArray cur).toList.take n=d.map (Value.int .i64):=by
 apply List.ext_getElem?
 intro i
 rw[List.getElem?_take]
 by_cases hi:i<n
 ·rw[if_pos hi,Array.getElem?_toList]
  simp only[putCells,Array.getElem?_mapIdx]
  rw[Array.getElem?_eq_getElem (by omega),List.getElem?_map,List.getElem?_eq_getElem (by omega)]
  simp[hn,hi]
 ·rw[if_neg hi,List.getElem?_map,List.getElem?_eq_none (by omega)];rfl
theorem z5q {W:World}{g:Nat}{cur:Array Value}{e:TypeId}{fz:Nat × Nat}(h:W.heap[g]?=some (.cells cur e fz))(d:Array Int):(putRow (Value.int .i64) W g 0 d).heap[g]?=some (.cells (putCells (Value.int .i64) 0 d cur) e fz):=by
 simp[putRow,mapBlock,Array.getElem?_modify,h,onCells]
theorem z4k {W:World}{g b:Nat}(h:b≠g)(d:Array Int):(putRow (Value.int .i64) W g 0 d).heap[b]?=W.heap[b]?:=by
 simp[putRow,mapBlock,Array.getElem?_modify,Ne.symm h]
theorem z6u (w:World)(n g:Nat)(d:Array Int):Kp (λb=>b=g) w (putRow (Value.int .i64) (Sort.ahead w n) g 0 d):=by
 refine⟨rfl,rfl,rfl,by simp[putRow,mapBlock,Sort.ahead],λb hb hne=>?_⟩
 rw[z4k hne];rfl
theorem z2u {zs:List Int}{g:Nat}{cur:Array Value}{e:TypeId}(hg:w.heap[g]?=some (.cells cur e (0,0)))(ht:cur.toList.take zs.length=zs.map (Value.int .i64)):Holds (Value.int .i64) w g 0 zs.toArray:=by
 intro j hj
 simp at hj
 refine⟨?_,by simp[World.frozen?,hg]⟩
 rw[Nat.zero_add,zg hg,← Array.getElem?_toList]
 have h1:(cur.toList.take zs.length)[j]?=(zs.map (Value.int .i64))[j]?:=by rw[ht]
 rw[List.getElem?_take,if_pos hj,List.getElem?_map,List.getElem?_eq_getElem hj]at h1
 rw[h1]
 simp[hj]
theorem zyu {zs:List Int}{g cap n:Nat}(h:w.ownsRow 0 3 1 (.slice (some ⟨g,0,none⟩) zs.length cap) zs.length (zs.map (Value.int .i64)))(hn:n≤zs.length){R:Ending→World→Prop}
  (hR:∀w',Kp (λb=>b=g) w w'→w'.ownsRow 0 3 1 (.slice (some ⟨g,0,none⟩) (zs.length-n) cap) (zs.length-n) ((zs.drop n).map (Value.int .i64))→R (.returned (.slice (some ⟨g,0,none⟩) (zs.length-n) cap)) w') :
  Calls Tryz.prog 135 #[.slice (some ⟨g,0,none⟩) zs.length cap,.int .i64 0,.int .i64 n] w R:=by
 rcases h.2 with ⟨h0,_⟩|⟨g',cap',cur,e,hb,hg,hnc,hm,hcs,ht⟩
 ·cases h0
 ·cases e
  rw[Nat.mul_one]at ht hcs
  have hc:=Tryz.slices_Delete_int g 0 cap 0 n zs w (z2u hg ht) hnc (by unfold maxLen at hm;omega) (Nat.zero_le _) hn
  refine hc.mono ?_
  rintro e w' ⟨rfl,q,rfl⟩
  rw[Nat.sub_zero]
  refine hR _ (z6u w q g _) ⟨by simp,Or.inr ⟨g,cap,_,rfl,hb,z5q hg _,by omega,hm,by simp[putCells,hcs],?_⟩⟩
  have h1:=zqr cur (zs.take 0++zs.drop n++List.replicate (n-0) 0) zs.length (by simp;omega) (by omega)
  rw[Nat.sub_zero]at h1
  rw[Nat.mul_one]
  have h2:∀l:List Value,l.take (zs.length-n)=(l.take zs.length).take (zs.length-n):=λl=>by rw[List.take_take,Nat.min_eq_left (by omega)]
  rw[h2,h1]
  simp only[List.take_zero,List.nil_append,List.map_append]
  rw[List.take_left' (by simp)]
end
theorem z1y (g:ByteArray→Int→Option Value)(k:ByteArray)(m:Int):zog (zkf g) (.agg #[.string k,.int .i64 m]) (zkf (zbf g k m none)):=by
 refine⟨by simp[zkf,zbf],λx hx=>?_⟩
 unfold zkf
 split
 ·rename_i cs
  split
  ·rename_i s n hcs
   have:¬(s=k∧n=m):=λ⟨e1,e2⟩=>hx (by
    subst e1;subst e2
    have:cs=#[.string s,.int .i64 n]:=by apply Array.toList_inj.1;simpa using hcs
    rw[this])
   simp[zbf,this]
  ·rfl
 ·rfl
theorem z2y (g:ByteArray→Option Value)(k:ByteArray):zog (z3b g) (.string k) (z3b (zhb g k none)):=by
 refine⟨by simp[z3b,zhb],λx hx=>?_⟩
 cases x<;>simp[z3b]
 rename_i s
 have:s≠k:=λe=>hx (by rw[e])
 simp[zhb,this]
section
variable {R:Ending→World→Prop}
set_option maxRecDepth 20000 in
set_option maxHeartbeats 1000000 in
theorem zlw (ph mv mm nm nv:Nat)(f:Value→Option Value)(fvd:Nat→Value→Option Value)(key:ByteArray)(w:World)(c0:w.cell? ⟨ph,0,none⟩=some (.map (some mv)))(c1:w.cell? ⟨ph,1,none⟩=some (.map (some mm)))
  (hown:fmap w Tryz.prog 9 mm nm f) (hver:fmap w Tryz.prog 225 mv nv (fvd 0)) (hne:mv≠mm) (hnm:nm<1000000) (hlen:key.size≤8) (g cap:Nat) (zs:List Int) (n:Nat) (hn1:1≤n) (hn2:n≤zs.length) (hl:zs.length<1000000)
  (hf:f (.string key)=some (.slice (some ⟨g,0,none⟩) zs.length cap)) (hrow:w.ownsRow 0 3 1 (.slice (some ⟨g,0,none⟩) zs.length cap) zs.length (zs.map (Value.int .i64))) (hgp:g≠ph)
  (hz:∀m∈zs,(Lit.int .i64 m).wf=true) (hdel:∀i,i<n→zog (fvd i) (.agg #[.string key,.int .i64 (zs.getD i 0)]) (fvd (i+1))) (hthere:∀i,i<n→(fvd i (.agg #[.string key,.int .i64 (zs.getD i 0)])).isSome=true)
  {f1 f2:Value→Option Value} (hf1:zog f (.string key) f1) (hf2:zhe f (.string key) (.slice (some ⟨g,0,none⟩) (zs.length-n) cap) f2)
  (h1:n=zs.length→∀w',Kp (λb=>b=mv∨b=mm∨b=g) w w'→fmap w' Tryz.prog 225 mv (nv-n) (fvd n)→fmap w' Tryz.prog 9 mm (nm-1) f1→R (.returned (.tuple #[])) w')
  (h2:n<zs.length→∀w',Kp (λb=>b=mv∨b=mm∨b=g) w w'→fmap w' Tryz.prog 225 mv (nv-n) (fvd n)→fmap w' Tryz.prog 9 mm nm f2→w'.ownsRow 0 3 1 (.slice (some ⟨g,0,none⟩) (zs.length-n) cap) (zs.length-n) ((zs.drop n).map (Value.int .i64))→R (.returned (.tuple #[])) w') :
  Calls Tryz.prog 82 #[.pointer (some ⟨ph,0,none⟩),.string key,.int .i64 n] w R:=by
 have hkey:Hid _:=WideMaps.keyOf_string_mk Tryz.underlying9 (show key.size≤maxLen by unfold maxLen;omega)
 have H1:=ze h1
 have H2:=ze h2
 have HD:=ze hdel
 have HT:=ze hthere
 have HZ:=ze hz
 have HROW:=ze hrow
 have HVER:=ze hver
 have HOWN:=ze hown
 have HF1:=ze hf1
 have HF2:=ze hf2
 have HF:=ze hf
 have HNE:=ze hne
 have HGP:=ze hgp
 have HNM:=ze hnm
 have HL8:=ze hlen
 obtain⟨g',cap',hv',hc⟩:=zoe hrow (λh=>by rw[h]at hn2;simp at hn2;omega)
 have hcap:n≤cap:=by
  rcases hrow.2 with ⟨h0,_⟩|⟨g',cap',cur,e,_,_,hnc,_⟩
  ·cases h0
  ·cases e;omega
 have hcm:(cap:Int)≤9223372036854775807:=by
  rcases hrow.2 with ⟨h0,_⟩|⟨g',cap',cur,e,_,_,hnc,hm,_⟩
  ·cases h0
  ·cases e;unfold maxLen at hm;omega
 cases hv'
 have HC:=ze hc
 have hgv:g≠mv:=λe=>zmf hver hrow (by rw[e];rfl)
 have hgm:g≠mm:=λe=>zmf hown hrow (by rw[e];rfl)
 have q0:ph≠mv:=λe=>by subst e;rw[hver.noCell]at c0;cases c0
 have q1:ph≠mm:=λe=>by subst e;rw[hown.noCell]at c0;cases c0
 have hlg:g<w.heap.size:=by
  rcases hrow.2 with ⟨h0,_⟩|⟨g',cap',cur,e,_,hg,_⟩
  ·cases h0
  ·cases e;exact zh hg
 have hph:ph<w.heap.size:=World.block_lt_of_cell? w _ c0
 have HQ:=ze (And.intro hgv (And.intro hgm (And.intro q0 (And.intro q1 (And.intro hlg hph)))))
 have hfd:(f (.string key)).getD (.slice none 0 0) = .slice (some ⟨g,0,none⟩) zs.length cap:=by rw[hf];rfl
 have HCC:=ze (And.intro c0 c1)
 have b1:(n:Int)≤zs.length:=by omega
 have b2:(zs.length:Int)<1000000:=by omega
 have b3:(zs.length:Int)≤cap:=by
  rcases hrow.2 with ⟨h0,_⟩|⟨g',cap',cur,e,_,_,hnc,_⟩
  ·cases h0
  ·cases e;omega
 generalize hL:zs.length=L at hfd b1 b2 b3
 have HL:=ze hL
 clear h1 h2 hdel hthere hz hrow hver hf1 hf2 hf hne hgp hnm hlen hc hgv hgm q0 q1 hlg hph hL hl hn2
 go_enter Tryz.func82,Tryz.ntmps82
 go_wp2_with (first
  |(at_lookup;refine z7d _ rfl _ _ 207 rfl 9 26 zdd Tryz.underlying207 (z0h _) mm nm f rfl hown (.string key) _ rfl hkey.out _ hfd ?_)
  |go_in)
 clear hown hfd c0 c1
 go_loopw [8,19] (λ_ v19 wr=>∃i:Nat,i≤n∧v19 = .int .i64 i∧Kp (λb=>b=mv) w wr∧fmap wr Tryz.prog 225 mv (nv-i) (fvd i))
  (λ_ v19 _=>n-(intOf v19).toNat)
 case atStart=>exact⟨0,Nat.zero_le _,rfl,Kp.refl _ _,HVER.out⟩
 case round=>
  obtain⟨i,hile,rfl,hkp,hfm⟩:=hrel
  have HKP:=ze hkp
  by_cases hlt:i<n
  ·have hltz:i<zs.length:=by have:=HL.out;omega
   have hck:wr.cell? ⟨g,i,none⟩=some (.int .i64 (zs.getD i 0)):=(hkp.cell (a:=⟨g,i,none⟩) HQ.out.2.2.2.2.1 HQ.out.1).trans (HC.out i hltz)
   have hmem:zs.getD i 0∈zs:=by
    simp only[List.getD,List.getElem?_eq_getElem hltz,Option.getD_some]
    exact List.getElem_mem _
   obtain⟨kl,hkl⟩:=zek key (zs.getD i 0) (by have:=HL8.out;unfold maxLen;omega) (HZ.out _ hmem)
   have e0:wr.cell? ⟨ph,0,none⟩=some (.map (some mv)):=(hkp.cell (a:=⟨ph,0,none⟩) HQ.out.2.2.2.2.2 HQ.out.2.2.1).trans HCC.out.1
   have HKL:=ze hkl
   have hdi:=ze (HD.out i hlt)
   have hti:=ze (HT.out i hlt)
   have d1:(i:Int)<n:=by omega
   generalize zs.getD i 0=m at hck HKL hdi hti hkl hmem
   clear hkp hkl hmem
   go_wp2_with (first
    |(at_delete;refine zhg _ rfl _ _ 206 225 rfl 138 z6k Tryz.underlying206 mv (nv-i) _ rfl hfm (.agg #[.string key,.int .i64 m]) _ rfl HKL.out hdi.out ?_;intro w1 hown1 hturn1)
    |go_in)
   go_roundw
   case rel=>
    refine⟨i+1,by omega,by go_num,HKP.out.trans (Kp.of_turned (S:=λb=>b=mv) hturn1 rfl) (λ_ _ h=>h),?_⟩
    rw[if_pos hti.out]at hown1
    exact hown1.drop_get (by omega)
   case measure=>simp[intOf];omega
  ·have hie:i=n:=by omega
   subst hie
   have d1:¬(i:Int)<i:=by omega
   have e1:wr.cell? ⟨ph,1,none⟩=some (.map (some mm)):=(hkp.cell (a:=⟨ph,1,none⟩) HQ.out.2.2.2.2.2 HQ.out.2.2.1).trans HCC.out.2
   have hmo:fmap wr Tryz.prog 9 mm nm f:=hkp.fmap HOWN.out (λe=>HNE.out e.symm)
   have HFM:=ze hfm
   clear hfm
   by_cases he:i=L
   ·have d2:((i:Int) == (L:Int))=true:=by simp;omega
    have HE:=ze he
    clear he
    go_wp2_with (first
     |(at_delete;refine zhg _ rfl _ _ 207 9 rfl 26 zdd Tryz.underlying207 mm nm _ rfl hmo (.string key) _ rfl hkey.out HF1.out ?_;intro w1 hown1 hturn1)
     |go_in)
    rw[HF.out]at hown1
    first|go_ret2|go_ret|go_end0
    refine H1.out (by rw[HL.out,HE.out]) w1 ((HKP.out.mono (λ_ _ h=>Or.inl h)).trans (Kp.of_turned (S:=λb=>b=mm) hturn1 rfl) (λ_ _ h=>Or.inr (Or.inl h))) (HFM.out.of_block (zlb hturn1 mv HNE.out)) hown1
   ·have d2:((i:Int) == (L:Int))=false:=by simp;omega
    have hrw:wr.ownsRow 0 3 1 (.slice (some ⟨g,0,none⟩) zs.length cap) zs.length (zs.map (Value.int .i64)):=zi HROW.out hkp (λb hb e=>HQ.out.1 (by rw[← e];simpa [Value.ownBlock] using hb))
    have hrd:wr.drew.ownsRow 0 3 1 (.slice (some ⟨g,0,none⟩) zs.length cap) zs.length (zs.map (Value.int .i64)):=zi hrw (Kp.drew (λ_=>False) _) (λ_ _ h=>h)
    have HDE:=ze (λ(R:Ending→World→Prop)=>zyu (n:=i) (R:=R) hrd (by have:=HL.out;omega))
    rw[HL.out]at HDE
    have HE:=ze (show i<zs.length by have:=HL.out;omega)
    have hkd:Kp (λb=>b=mv) w wr.drew:=hkp.trans (Kp.drew (λ_=>False) _) (λ_ _ h=>h.elim)
    have HKD:=ze hkd
    have hmd:=ze hmo.drew
    have e2:wr.drew.cell? ⟨ph,1,none⟩=some (.map (some mm)):=e1
    have HE2:=ze e2
    clear he hkp hrw hrd hkd hmo e2
    go_wp2_with fail
    go_region_with (go_at_call 135;refine HDE.out _ (λw5 k5 row5=>?_);have z1:w5.cell? ⟨ph,1,none⟩=some (.map (some mm)):=(k5.cell (a:=⟨ph,1,none⟩) (Nat.lt_of_lt_of_le HQ.out.2.2.2.2.2 HKD.out.size) (λe=>HGP.out e.symm)).trans HE2.out;obtain⟨w6,hrun6,hf6,ht6⟩:=(k5.fmap hmd.out (λe=>HQ.out.2.1 e.symm)).store zdd Tryz.underlying207 (by have:=HNM.out;unfold maxLen;omega) hkey.out _ (by have:=HF2.out;rw[HL.out]at this;exact this);rw[HF.out]at hf6;have HFIN:=ze (H2.out HE.out w6 (((HKD.out.mono (λ_ _ h=>Or.inl h)).trans (k5.mono (S':=λb=>b=mv∨b=mm∨b=g) (λ_ _ h=>Or.inr (Or.inr h))) (λ_ _ h=>h)).trans (Kp.of_turned (S:=λb=>b=mm) ht6 rfl) (λ_ _ h=>Or.inr (Or.inl h))) ((k5.fmap HFM.out.drew (λe=>HQ.out.1 e.symm)).of_block (zlb ht6 mv HNE.out)) hf6 (zi (by have:=row5;rw[← HL.out]at this;exact this) (S:=λb=>b=mm) (Kp.of_turned ht6 rfl) (λb hb e=>HQ.out.2.1 (by rw[← e];simpa [Value.ownBlock] using hb))));clear hf6 ht6 row5 k5)
    all_goals
     clear hrun6 z1
     try go_wp2_with fail
     try go_end0
     exact HFIN.out
end
def znc (s:XS)(k:ByteArray)(n:Nat):XS:=
 { s with mom:=zhb s.mom k ((s.mom k).drop n),ver:=λa m=>if a=k∧m∈(s.mom k).take n then none else s.ver a m,nv:=s.nv-n,nm:=if n=(s.mom k).length then s.nm-1 else s.nm }
theorem zlp (s:XS)(k:ByteArray)(t:Int):zv s k t≤(s.mom k).length:=by
 have h:=List.countP_le_length (p:=λm=>decide (m≤t)) (l:=s.mom k)
 unfold zv
 split
 ·omega
 ·split<;>omega
section
variable {own own':Nat→Lab}{c:Nat}{w w':World}{p:Nat}{s:XS}{mo ph mv mm:Nat}{pt mw:Int→Nat}{sl:ByteArray→Value}
variable {R:Ending→World→Prop}
theorem zxf.drop {k:ByteArray}{n:Nat}(h:∀k,zxf s k)(a:ByteArray):zxf (znc s k n) a:=by
 have ha:=h a
 by_cases e:a=k
 ·subst e
  have hm:(znc s a n).mom a=(s.mom a).drop n:=by simp[znc,zhb]
  have hnd:∀m,m∈(s.mom a).drop n→m ∉ (s.mom a).take n:=λm h1 h2=>by
   have hp:=ha.up
   rw[← List.take_append_drop n (s.mom a),List.pairwise_append]at hp
   have:=hp.2.2 m h2 m h1
   omega
  refine⟨by rw[hm,List.length_drop];have:=ha.len;omega,by rw[hm];exact List.Pairwise.sublist (List.drop_sublist _ _) ha.up,λm h1=>?_⟩
  rw[hm]at h1
  have h2:=ha.ver m (List.mem_of_mem_drop h1)
  refine⟨h2.1,?_⟩
  show (if a=a∧m∈(s.mom a).take n then none else s.ver a m).isSome=true
  rw[if_neg (λh=>hnd m h1 h.2)]
  exact h2.2
 ·have hm:(znc s k n).mom a=s.mom a:=by simp[znc,zhb,e]
  refine⟨by rw[hm];exact ha.len,by rw[hm];exact ha.up,λm h1=>?_⟩
  rw[hm]at h1
  have h2:=ha.ver m h1
  refine⟨h2.1,?_⟩
  show (if a=k∧m∈(s.mom k).take n then none else s.ver a m).isSome=true
  rw[if_neg (λh=>e h.1)]
  exact h2.2
theorem zq3 (h:XR own c w p s mo ph mv mm pt mw sl)(key:ByteArray)(n:Nat)(hn1:1≤n)(hn2:n≤(s.mom key).length)(hlen:key.size≤8)(hm:zxf s key)(hnm:s.nm<1000000)
  (hR:∀w' sl',Kp (λb=>b=mv∨b=mm∨(sl key).ownBlock=some b) w w'→XR own c w' p (znc s key n) mo ph mv mm pt mw sl'→(∀k,(znc s key n).mom k≠[]→(sl' k).ownBlock=(sl k).ownBlock)→R (.returned (.tuple #[])) w') :
  Calls Tryz.prog 82 #[.pointer (some ⟨ph,0,none⟩),.string key,.int .i64 n] w R:=by
 have c0:w.cell? ⟨ph,0,none⟩=some (.map (some mv)):=zg h.hist 0
 have c1:w.cell? ⟨ph,1,none⟩=some (.map (some mm)):=zg h.hist 1
 have hne:mv≠mm:=zfb (own:=own) (by rw[h.ownV,h.ownM];simp)
 have hmk:s.mom key≠[]:=λe=>by rw[e]at hn2;simp at hn2;omega
 obtain⟨g,cap,hv,hc⟩:=zoe (h.row key hmk) hmk
 have hrow:=h.row key hmk
 rw[hv]at hrow
 have hog:own g=⟨c,7,0,key⟩:=h.ownR key hmk g (by rw[hv];rfl)
 have hf:(z3b λk=>if s.mom k=[] then none else some (sl k)) (.string key)=some (.slice (some ⟨g,0,none⟩) (s.mom key).length cap):=by rw[zcc,if_neg hmk,hv]
 have hat:∀i (hi:i<(s.mom key).length),(s.mom key).getD i 0=(s.mom key)[i]:=λi hi=>by simp[List.getD,hi]
 have tks:∀i (hi:i<(s.mom key).length),(s.mom key).take (i+1)=(s.mom key).take i++[(s.mom key).getD i 0]:=λi hi=>by rw[hat i hi];exact List.take_succ_eq_append_getElem hi
 have hnin:∀i (hi:i<(s.mom key).length),(s.mom key).getD i 0 ∉ (s.mom key).take i:=λi hi h1=>by
  rw[hat i hi]at h1
  obtain⟨j,hj,e⟩:=List.getElem_of_mem h1
  have hj':j<i:=by simp at hj;omega
  rw[List.getElem_take]at e
  have:=(List.pairwise_iff_getElem.1 hm.up) j i (by omega) hi hj'
  omega
 have lp:=zh h.store;have lh:=zh h.hist;have lo:=h.opn.lt;have lv:=h.vers.lt;have lm:=h.moms.lt
 have kpw:∀{w'},Kp (λb=>b=mv∨b=mm∨b=g) w w'→Kp (λb=>b=mv∨b=mm∨(sl key).ownBlock=some b) w w':=λhk=>hk.mono (λb _ h'=>h'.imp id (λh'=>h'.imp id (λe=>by rw[hv,e];rfl)))
 have old:∀{w'},Kp (λb=>b=mv∨b=mm∨b=g) w w'→∀b,b<w.heap.size→own b≠⟨c,3,0,eb⟩→own b≠⟨c,4,0,eb⟩→own b≠⟨c,7,0,key⟩→w'.heap[b]?=w.heap[b]?:=λhk b hb e1 e2 e3=>
  hk.block b hb (λhb=>by
   rcases hb with hb|hb|hb
   ·exact e1 (by rw[hb,h.ownV])
   ·exact e2 (by rw[hb,h.ownM])
   ·exact e3 (by rw[hb,hog]))
 have fin:∀{w'} (sl':ByteArray→Value),Kp (λb=>b=mv∨b=mm∨b=g) w w'→(∀k,k≠key→sl' k=sl k)→
   fmap w' Tryz.prog 225 mv (s.nv-n) (zkf λa m=>((znc s key n).ver a m).map z4b)→fmap w' Tryz.prog 9 mm (znc s key n).nm (z3b λk=>if (znc s key n).mom k=[] then none else some (sl' k))→
   ((s.mom key).drop n≠[]→(sl' key).ownBlock=some g∧w'.ownsRow 0 3 1 (sl' key) ((s.mom key).drop n).length (((s.mom key).drop n).map (Value.int .i64)))→R (.returned (.tuple #[])) w':=λ{w'} sl' hk hsl hfv hfm hr=>by
  have mk:∀k,k≠key→(znc s key n).mom k=s.mom k:=λk e=>by simp[znc,zhb,e]
  have mkk:(znc s key n).mom key=(s.mom key).drop n:=by simp[znc,zhb]
  refine hR w' sl' (kpw hk) ⟨h.ownP,h.ownO,h.ownH,h.ownV,h.ownM,?_,?_,?_,h.ownT,?_,?_,hfv,hfm,?_,?_,h.log.frame (λb hlt _ hk'=>old hk b hlt (λe=>by rw[e]at hk';simp at hk') (λe=>by rw[e]at hk';simp at hk') (λe=>by rw[e]at hk';simp at hk')) (λ_ _ _ _=>rfl),h.bks.frame (λb hlt _ hk'=>old hk b hlt (λe=>by rw[e]at hk';simp at hk') (λe=>by rw[e]at hk';simp at hk') (λe=>by rw[e]at hk';simp at hk')) (λ_ _ _ _=>rfl)⟩ ?_
  ·exact (old hk p lp (by rw[h.ownP];simp) (by rw[h.ownP];simp) (by rw[h.ownP];simp)).trans h.store
  ·exact (old hk ph lh (by rw[h.ownH];simp) (by rw[h.ownH];simp) (by rw[h.ownH];simp)).trans h.hist
  ·exact h.opn.of_block (old hk mo lo (by rw[h.ownO];simp) (by rw[h.ownO];simp) (by rw[h.ownO];simp))
  ·intro n t1 e1
   have hl:=(h.ownT n t1 e1).1
   exact (old hk _ (zh (h.tx n t1 e1)) (by rw[hl];simp) (by rw[hl];simp) (by rw[hl];simp)).trans (h.tx n t1 e1)
  ·intro n t1 e1
   have hl:=(h.ownT n t1 e1).2
   exact (h.wr n t1 e1).of_block (old hk _ (h.wr n t1 e1).lt (by rw[hl];simp) (by rw[hl];simp) (by rw[hl];simp))
  ·intro k hk' b e
   by_cases ek:k=key
   ·subst ek
    rw[mkk]at hk'
    rw[(hr hk').1]at e
    cases e
    exact hog
   ·rw[mk k ek]at hk'
    rw[hsl k ek]at e
    exact h.ownR k hk' b e
  ·intro k hk'
   by_cases ek:k=key
   ·subst ek
    rw[mkk]at hk' ⊢
    exact (hr hk').2
   ·rw[mk k ek]at hk' ⊢
    rw[hsl k ek]
    have h0:=h.row k hk'
    refine⟨h0.1,?_⟩
    rcases h0.2 with h1|⟨g1,cap1,cur,e,hg0,hg,r⟩
    ·exact Or.inl h1
    ·have hl:=h.ownR k hk' g1 (by rw[e];rfl)
     exact Or.inr ⟨g1,cap1,cur,e,hg0,(old hk g1 (zh hg) (by rw[hl];simp) (by rw[hl];simp) (by rw[hl];simp[ek])).trans hg,r⟩
  ·intro k hk'
   by_cases ek:k=key
   ·subst ek
    rw[mkk]at hk'
    rw[(hr hk').1,hv];rfl
   ·rw[hsl k ek]
 have hf1:zog (z3b λk=>if s.mom k=[] then none else some (sl k)) (.string key) (z3b λk=>if zhb s.mom key [] k=[] then none else some (sl k)):=by
  have e:(λk=>if zhb s.mom key [] k=[] then none else some (sl k))=zhb (λk=>if s.mom k=[] then none else some (sl k)) key none:=by
   funext k
   by_cases ek:k=key
   ·subst ek;simp[zhb]
   ·simp[zhb,ek]
  rw[e];exact z2y _ _
 have hf2:(s.mom key).drop n≠[]→zhe (z3b λk=>if s.mom k=[] then none else some (sl k)) (.string key) (.slice (some ⟨g,0,none⟩) ((s.mom key).length-n) cap) (z3b λk=>if zhb s.mom key ((s.mom key).drop n) k=[] then none else some (zhb sl key (.slice (some ⟨g,0,none⟩) ((s.mom key).length-n) cap) k)):=λhd=>by
  have e:(λk=>if zhb s.mom key ((s.mom key).drop n) k=[] then none else some (zhb sl key (.slice (some ⟨g,0,none⟩) ((s.mom key).length-n) cap) k))=zhb (λk=>if s.mom k=[] then none else some (sl k)) key (some (.slice (some ⟨g,0,none⟩) ((s.mom key).length-n) cap)):=by
   funext k
   by_cases ek:k=key
   ·subst ek;simp only[zhb,if_true,if_neg hd]
   ·simp[zhb,ek]
  rw[e];exact zkk _ _ _
 obtain⟨f2,hf2',hf2e⟩:∃f2,zhe (z3b λk=>if s.mom k=[] then none else some (sl k)) (.string key) (.slice (some ⟨g,0,none⟩) ((s.mom key).length-n) cap) f2∧((s.mom key).drop n≠[]→f2=z3b λk=>if zhb s.mom key ((s.mom key).drop n) k=[] then none else some (zhb sl key (.slice (some ⟨g,0,none⟩) ((s.mom key).length-n) cap) k)):=by
  by_cases hd:(s.mom key).drop n=[]
  ·exact⟨_,zkk _ _ _,λh=>absurd hd h⟩
  ·exact⟨_,hf2 hd,λ_=>rfl⟩
 refine zlw ph mv mm s.nm s.nv _ (λi=>zkf λa m=>(if a=key∧m∈(s.mom key).take i then none else s.ver a m).map z4b) key w c0 c1 h.moms (by simpa using h.vers) hne hnm hlen g cap (s.mom key) n hn1 hn2 hm.len hf hrow (zfb (own:=own) (by rw[hog,h.ownH];simp)) (λm hmm=>(hm.ver m hmm).1) (λi hi=>?_) (λi hi=>?_) hf1 hf2' (λe w' hk hfv hfm=>?_) (λhlt w' hk hfv hfm hr=>?_)
 ·have hi':i<(s.mom key).length:=by omega
  have e:(λa m=>(if a=key∧m∈(s.mom key).take (i+1) then none else s.ver a m).map z4b)=zbf (λa m=>(if a=key∧m∈(s.mom key).take i then none else s.ver a m).map z4b) key ((s.mom key).getD i 0) none:=by
   funext a m
   rw[tks i hi']
   by_cases ea:a=key
   ·by_cases em:m=(s.mom key).getD i 0
    ·simp[zbf,ea,em]
    ·simp only[zbf,ea,em,true_and,and_false,if_false,List.mem_append,List.mem_singleton,or_false]
   ·simp[zbf,ea]
  rw[e];exact z1y _ _ _
 ·have hi':i<(s.mom key).length:=by omega
  rw[zol,if_neg (λh=>hnin i hi' h.2),Option.isSome_map]
  refine (hm.ver _ ?_).2
  rw[hat i hi'];exact List.getElem_mem _
 ·have hd:(s.mom key).drop n=[]:=by rw[e,List.drop_length]
  refine fin sl hk (λ_ _=>rfl) hfv ?_ (λh=>absurd hd h)
  show fmap w' Tryz.prog 9 mm (if n=(s.mom key).length then s.nm-1 else s.nm) (z3b λk=>if zhb s.mom key ((s.mom key).drop n) k=[] then none else some (sl k))
  rw[if_pos e,hd];exact hfm
 ·have hd:(s.mom key).drop n≠[]:=λe=>by have:=congrArg List.length e;simp at this;omega
  refine fin (zhb sl key (.slice (some ⟨g,0,none⟩) ((s.mom key).length-n) cap)) hk (λk ek=>z1b _ ek _) hfv ?_ (λ_=>⟨by rw[zxc];rfl,?_⟩)
  ·show fmap w' Tryz.prog 9 mm (if n=(s.mom key).length then s.nm-1 else s.nm) (z3b λk=>if zhb s.mom key ((s.mom key).drop n) k=[] then none else some (zhb sl key (.slice (some ⟨g,0,none⟩) ((s.mom key).length-n) cap) k))
   rw[if_neg (by omega),← hf2e hd];exact hfm
  ·rw[zxc,List.length_drop];exact hr
end
end
section
open Go.RowKit Go.Maps Go.Sort
def z1c (h most:Int):List ByteArray→XS→Int→XS × Int
 |[],s,gone=>(s,gone)
 |k::r,s,gone=>if min (zv s k h:Int) (most-gone)<1 then (s,gone) else z1c h most r (znc s k (min (zv s k h:Int) (most-gone)).toNat) (gone+min (zv s k h:Int) (most-gone))
section
variable {own own':Nat→Lab}{c:Nat}{w w':World}{p:Nat}{s:XS}{mo ph mv mm:Nat}{pt mw:Int→Nat}{sl:ByteArray→Value}
variable {R:Ending→World→Prop}
structure VOk (s:XS):Prop where
 mom:∀k,zxf s k
 key:∀k,s.mom k≠[]→k.size≤8
 nm:s.nm<100000
theorem VOk.drop (h:VOk s)(k:ByteArray)(n:Nat):VOk (znc s k n):=by
 refine⟨λa=>zxf.drop h.mom a,λa ha=>?_,?_⟩
 ·by_cases e:a=k
  ·subst e
   refine h.key a (λe=>ha ?_)
   simp[znc,zhb,e]
  ·refine h.key a (λe'=>ha ?_)
   simp[znc,zhb,e,e']
 ·show (if n=(s.mom k).length then s.nm-1 else s.nm)<100000
  have:=h.nm
  split<;>omega
set_option maxRecDepth 20000 in
set_option maxHeartbeats 1000000 in
theorem zky (h:XR own c w p s mo ph mv mm pt mw sl)(t most:Int)(hmost:-9223372036854775808≤most∧most≤9223372036854775807)(hv:VOk s)
  (hR:∀w' sl' (ks:List ByteArray),ks.Pairwise blt→(∀k,k∈ks↔0<zv s k t)→Kp (λb=>(own b).c=c) w w'→XR own c w' p (z1c t most ks s 0).1 mo ph mv mm pt mw sl'→R (.returned (.int .i64 (z1c t most ks s 0).2)) w') :
  Calls Tryz.prog 47 #[.pointer (some ⟨ph,0,none⟩),.int .i64 t,.int .i64 most] w R:=by
 have H:=ze h
 have HR:=ze hR
 have HV:=ze hv
 have HMO:=ze hmost
 clear h hR hv hmost
 go_enter Tryz.func47,Tryz.ntmps47
 go_wp2_with (first
  |(go_at_call 80;refine zpt H.out t HV.out.nm HV.out.mom HV.out.key (λw1 v1 ks hk1 hrow hmem hlen hsort=>?_);obtain⟨a1,cap1,rfl,hcell⟩:=zoh hrow;have HC:=ze hcell;have HSO:=ze hsort;have HME:=ze hmem;have HLE:=ze hlen;have HK1:=ze hk1;clear hcell hrow hsort hmem hlen hk1)
  |go_in)
 go_loopw [7,9,10,15] (λv7 _ _ v15 wr=>∃(i:Nat) (gone:Int) (s':XS) (sl':ByteArray→Value),i≤ks.length∧v15 = .int .i64 i∧v7 = .int .i64 gone∧0≤gone∧(gone=0∨gone≤most)∧gone≤1000000*i∧VOk s'∧Kp (λb=>(own b).c=c∧b<w.heap.size) w1 wr∧
   XR own c wr p s' mo ph mv mm pt mw sl'∧(∀k,s'.mom k≠[]→∃b,(sl' k).ownBlock=some b∧b<w.heap.size)∧z1c t most (ks.drop i) s' gone=z1c t most ks s 0)
  (λ_ _ _ v15 _=>ks.length-(intOf v15).toNat)
 case atStart=>
  refine⟨0,0,s,sl,Nat.zero_le _,rfl,rfl,Int.le_refl _,Or.inl rfl,by simp,HV.out,Kp.refl _ _,H.out.kept HK1.out,λk hk=>?_,rfl⟩
  obtain⟨g,cap,hv,_⟩:=zoe (H.out.row k hk) hk
  exact⟨g,by rw[hv];rfl,((H.out.row k hk).lt g (by rw[hv];rfl)).2⟩
 case round=>
  obtain⟨i,gone,s',sl',hile,rfl,rfl,hg0,hg1,hg2,hv',hkp,hx,hsb,heq⟩:=hrel
  have HX:=ze hx
  have HV':=ze hv'
  have HKP:=ze hkp
  have HSB:=ze hsb
  have HEQ:=ze heq
  have hib:(i:Int)<200000:=by have:=HLE.out;have:=HV.out.nm;omega
  clear hx hv' hsb heq
  by_cases hlt:i<ks.length
  ·obtain⟨g,rfl,hg1',hg2',hcell⟩:=HC.out (λh=>by rw[h]at hlt;simp at hlt)
   have hck:wr.cell? ⟨g,i,none⟩=some (.string ks[i]):=(hkp.cell (a:=⟨g,i,none⟩) hg2' (λh=>by have:g<w.heap.size:=h.2;omega)).trans (hcell i hlt)
   have hdk:ks.drop i=ks[i]::ks.drop (i+1):=List.drop_eq_getElem_cons hlt
   have hki:ks[i]∈ks:=List.getElem_mem _
   have hlt':(i:Int)<ks.length:=by omega
   have hspl:=(HME.out ks[i]).1 hki
   have hk8:ks[i].size≤8:=HV.out.key _ (λe=>by rw[zpk e]at hspl;omega)
   generalize hkeq:ks[i]=k at *
   have HDK:=ze hdk
   have HK8:=ze hk8
   have hsm:=zlp s' k t
   have hml:=(HV'.out.mom k).len
   have hsb:(zv s' k t:Int)<1000000:=by omega
   have hwr:IntKind.i64.wrap (most-gone)=most-gone:=by
    have:=HMO.out
    refine IntWalk.i64_in _ ?_
    rcases hg1 with h|h<;>omega
   have hmb:most≤9223372036854775807:=HMO.out.2
   have hml2:-9223372036854775808≤most-gone:=by have:=HMO.out;rcases hg1 with h|h<;>omega
   generalize hsp:zv s' k t=sp at hsm hsb
   have HSP:=ze hsp
   clear hdk hki hspl hk8 hcell hkp hml hsp
   by_cases hc:min (sp:Int) (most-gone)<1
   ·have d1:decide (min (sp:Int) (most-gone)<1)=true:=by simpa using hc
    have hfin:z1c t most ks s 0=(s',gone):=by rw[← HEQ.out,HDK.out,z1c,HSP.out,if_pos hc]
    have HF:=ze (λw2 (k2:Kp (λ_=>False) wr w2)=>(by rw[hfin];exact λh=>h:_→R (.returned (.int .i64 gone)) w2) (HR.out w2 sl' ks HSO.out HME.out (((HK1.out.mono (λ_ _ h=>h.elim)).trans HKP.out (λb hb h=>h.1)).trans k2 (λ_ _ h=>h.elim)) (by rw[hfin];exact HX.out.kept k2)))
    clear hfin
    go_wp2_with (first
     |(go_at_call 81;refine zxl HX.out k t HK8.out (HV'.out.mom k) (λw2 hk2=>?_);rw[HSP.out];have HK2:=ze hk2;clear hk2)
     |go_in)
    exact HF.out w2 HK2.out
   ·obtain⟨n,hn⟩:∃n:Nat,min (sp:Int) (most-gone)=n:=⟨(min (sp:Int) (most-gone)).toNat,by omega⟩
    have d1:decide ((n:Int)<1)=false:=by simp;omega
    have hn1:1≤n:=by omega
    have hn2:n≤(s'.mom k).length:=by omega
    have hn3:gone+n≤most:=by omega
    have hn4:gone+(n:Int)≤1000000*((i:Int)+1):=by omega
    have hwr2:IntKind.i64.wrap (gone+(n:Int))=gone+n:=IntWalk.i64_in _ (by omega)
    have hnext:z1c t most (ks.drop (i+1)) (znc s' k n) (gone+n)=z1c t most ks s 0:=by
     rw[← HEQ.out,HDK.out,z1c,HSP.out,if_neg hc,hn,Int.toNat_natCast]
    have HNX:=ze hnext
    have HNN:=ze (And.intro hn1 (And.intro hn2 (And.intro hn3 hn4)))
    clear hc hnext hn1 hn2 hn3 hn4
    go_wp2_with (first
     |(go_at_call 81;refine zxl HX.out k t HK8.out (HV'.out.mom k) (λw2 hk2=>?_);rw[HSP.out];have HK2:=ze hk2;clear hk2)
     |(go_at_call 82;refine zq3 (HX.out.kept HK2.out) k n HNN.out.1 HNN.out.2.1 HK8.out (HV'.out.mom k) (by have:=HV'.out.nm;omega) (λw3 sl3 hk3 hx3 hsb3=>?_);have HK3:=ze hk3;have HX3:=ze hx3;have HS3:=ze hsb3;clear hk3 hx3 hsb3)
     |go_in)
    go_roundw
    case rel=>
     have hb:=HNN.out
     have hsub:∀a,(znc s' k n).mom a≠[]→s'.mom a≠[]:=λa ha e=>ha (by
      by_cases ea:a=k
      ·subst ea;simp[znc,zhb,e]
      ·simp[znc,zhb,ea,e])
     refine⟨i+1,gone+n,znc s' k n,sl3,by omega,by go_num,rfl,by omega,Or.inr hb.2.2.1,by have:=hb.2.2.2;omega,HV'.out.drop k n,?_,HX3.out,λa ha=>?_,HNX.out⟩
     ·refine (HKP.out.trans HK2.out (λ_ _ h=>h.elim)).trans HK3.out (λb hb' h'=>?_)
      have e0:=HX.out
      rcases h' with e|e|e
      ·exact⟨by rw[e,e0.ownV],by rw[e];exact H.out.vers.lt⟩
      ·exact⟨by rw[e,e0.ownM],by rw[e];exact H.out.moms.lt⟩
      ·have hm':s'.mom k≠[]:=λe'=>by have:=hb.2.1;rw[e']at this;simp at this;omega
       obtain⟨b',hb1,hb2⟩:=HSB.out k hm'
       rw[hb1]at e
       cases e
       exact⟨by rw[e0.ownR k hm' b hb1],hb2⟩
     ·obtain⟨b',hb1,hb2⟩:=HSB.out a (hsub a ha)
      exact⟨b',by rw[HS3.out a ha];exact hb1,hb2⟩
    case measure=>simp[intOf];omega
  ·have hie:i=ks.length:=by omega
   subst hie
   have hfin:z1c t most ks s 0=(s',gone):=by rw[← HEQ.out,List.drop_length];rfl
   have hF:=HR.out wr sl' ks HSO.out HME.out ((HK1.out.mono (λ_ _ h=>h.elim)).trans HKP.out (λb hb h=>h.1)) (by rw[hfin];exact HX.out)
   rw[hfin]at hF
   have HF:=ze hF
   clear hF hfin hkp
   go_wp2
   exact HF.out
set_option maxRecDepth 20000 in
set_option maxHeartbeats 400000 in
theorem z10 (h:XR own c w p s mo ph mv mm pt mw sl)(most:Int)(hmost:-9223372036854775808≤most∧most≤9223372036854775807)(hv:VOk s)
  (hR:∀w' sl' (ks:List ByteArray),ks.Pairwise blt→(∀k,k∈ks↔0<zv s k s.hor)→Kp (λb=>(own b).c=c) w w'→XR own c w' p (z1c s.hor most ks s 0).1 mo ph mv mm pt mw sl'→R (.returned (.int .i64 (z1c s.hor most ks s 0).2)) w') :
  Calls Tryz.prog 22 #[.pointer (some ⟨p,0,none⟩),.int .i64 most] w R:=by
 have c1:w.cell? ⟨p,1,none⟩=some (.int .i64 s.hor):=zg h.store 1
 have c3:w.cell? ⟨p,0,none⟩=some (.pointer (some ⟨ph,0,none⟩)):=zg h.store 0
 have H:=ze h
 have HR:=ze hR
 have HV:=ze hv
 have HMO:=ze hmost
 have Hgo:=ze (λ(w1:World) (k1:Kp (λ_=>False) w w1)=>zky (R:=λe w'=>∃n:Int,e = .returned (.int .i64 n)∧R (.returned (.int .i64 n)) w') (H.out.kept k1) s.hor most HMO.out HV.out (λw' sl' ks hs hm hk hx=>⟨_,rfl,HR.out w' sl' ks hs hm ((k1.mono (λ_ _ h=>h.elim)).trans hk (λ_ _ h=>h)) hx⟩))
 clear h hR hv hmost
 go_enter Tryz.func22,Tryz.ntmps22
 go_wp2
 go_region_with (go_at_call 47;refine Calls.mono (Hgo.out _ (z73 (by simp))) ?_;rintro e w1 ⟨n,rfl,hn⟩;have HN:=ze hn;clear hn)
 all_goals
  go_wp2_with fail
  go_ret
  exact HN.out
end
end
section
open Go.RowKit
structure TOk (s:XS)(n:Int)(t:XT):Prop where
 num:1≤n∧n≤s.begun
 sees:s.hor≤t.sees∧t.sees≤s.now
 nw:t.nw≤10
 keys:∀k,(t.wr k).isSome=true→zu k=true
 pos:∀k,(t.wr k).isSome=true→0<t.nw
 vals:∀k v,t.wr k=some v→v.1.size≤20
structure XOk (s:XS):Prop where
 now:0≤s.now∧s.now≤2000
 hor:0≤s.hor∧s.hor≤s.now
 begun:0≤s.begun
 up:∀k,(s.mom k).Pairwise (·<·)
 mom:∀k m,m∈s.mom k→1≤m∧m≤s.now
 ver:∀k m,(s.ver k m).isSome=true↔m∈s.mom k
 key:∀k,s.mom k≠[]→zu k=true
 tx:∀n t,s.txs n=some t→TOk s n t
 nm:(s.nm:Int)≤10*s.now
 nv:(s.nv:Int)≤10*s.now
 lgl:(s.log.lg.length:Int)≤s.now+s.hor
 lgb:∀b∈s.log.lg,b.length≤400
 sy:s.log.sy≤bytesOf (zm s.log.lg)
theorem zbx:∀{l:List Int} {a b:Int},l.Pairwise (·<·)→(∀m∈l,a<m∧m≤b)→(l.length:Int)≤(b-a).toNat
 |[],_,_,_,_=>by simp only[List.length_nil];omega
 |x::r,a,b,h,hm=>by
  obtain⟨h1,h2⟩:=List.pairwise_cons.1 h
  have hx:=hm x (by simp)
  have:=zbx (a:=x) (b:=b) h2 (λm hr=>⟨h1 m hr,(hm m (List.mem_cons_of_mem _ hr)).2⟩)
  rw[List.length_cons]
  omega
section
variable {s:XS}
theorem XOk.len (h:XOk s)(k:ByteArray):(s.mom k).length≤2000:=by
 have h1:=zbx (a:=0) (b:=s.now) (h.up k) (λm hm=>by have:=h.mom k m hm;omega)
 have:=h.now
 omega
end
end
section
open Go.RowKit
structure zeq (s s':XS)(h:Int)(c:ByteArray→Nat):Prop where
 now:s'.now=s.now
 hor:s'.hor=s.hor
 begun:s'.begun=s.begun
 txs:s'.txs=s.txs
 nopen:s'.nopen=s.nopen
 log:s'.log=s.log
 bk:s'.bk=s.bk
 nv:s'.nv≤s.nv
 nm:s'.nm≤s.nm
 le:∀k,c k≤zv s k h
 mom:∀k,s'.mom k=(s.mom k).drop (c k)
 ver:∀k m,s'.ver k m=if m∈(s.mom k).take (c k) then none else s.ver k m
theorem zur {s s':XS}{k:ByteArray}(h1:s'.mom k=s.mom k)(h2:∀m,s'.ver k m=s.ver k m)(t:Int):zv s' k t=zv s k t:=by
 unfold zv
 rw[h1]
 split
 ·rfl
 ·rw[h2]
theorem zei {s:XS}{k a:ByteArray}(n:Nat)(e:a≠k)(t:Int):zv (znc s k n) a t=zv s a t:=
 zur (by simp[znc,zhb,e]) (λm=>by simp[znc,e]) t
theorem zqn {c:ByteArray→Nat}:∀{l:List ByteArray} {k:ByteArray},k∈l→c k≤(l.map c).sum
 |a::r,k,h=>by
  rw[List.map_cons,List.sum_cons]
  rcases List.mem_cons.1 h with e|h
  ·rw[e];omega
  ·have:=zqn (c:=c) h
   omega
theorem z7r (h most:Int):∀(ks:List ByteArray) (s:XS) (gone:Int),ks.Pairwise blt→(∀k∈ks,0<zv s k h)→
  ∃c,zeq s (z1c h most ks s gone).1 h c∧(∀k,k ∉ ks→c k=0)∧(z1c h most ks s gone).2=gone+((ks.map c).sum:Nat)∧((z1c h most ks s gone).2=gone∨(z1c h most ks s gone).2≤most)∧((z1c h most ks s gone).2<most→∀k∈ks,c k=zv s k h)∧(∀k1 k2,k1∈ks→blt k1 k2→0<c k2→c k1=zv s k1 h)
 |[],s,gone,_,_=>⟨λ_=>0,⟨rfl,rfl,rfl,rfl,rfl,rfl,rfl,Nat.le_refl _,Nat.le_refl _,λ_=>Nat.zero_le _,λ_=>rfl,λk m=>by simp[z1c]⟩,λ_ _=>rfl,by simp[z1c],Or.inl rfl,λ_ k hk=>(by cases hk),λk1 _ hk=>(by cases hk)⟩
 |k::r,s,gone,hn,hp=>by
  obtain⟨hkl,hnr⟩:=List.pairwise_cons.1 hn
  have hkr:k ∉ r:=λh=>zic _ (hkl k h)
  have hk:=hp k (by simp)
  by_cases hc:min (zv s k h:Int) (most-gone)<1
  ·have e:z1c h most (k::r) s gone=(s,gone):=by rw[z1c,if_pos hc]
   rw[e]
   refine⟨λ_=>0,⟨rfl,rfl,rfl,rfl,rfl,rfl,rfl,Nat.le_refl _,Nat.le_refl _,λ_=>Nat.zero_le _,λ_=>rfl,λk m=>by simp⟩,λ_ _=>rfl,?_,Or.inl rfl,λhlt=>?_,λ_ _ _ _ h=>absurd h (Nat.lt_irrefl 0)⟩
   ·have:((k::r).map λ_=>0).sum=0:=by
     generalize k::r=l
     induction l with
     |nil=>rfl
     |cons a l ih=>rw[List.map_cons,List.sum_cons,ih]
    rw[this];simp
   ·exfalso
    have:gone<most:=hlt
    omega
  ·obtain⟨n,hn'⟩:∃n:Nat,min (zv s k h:Int) (most-gone)=n:=⟨(min (zv s k h:Int) (most-gone)).toNat,by omega⟩
   have e:z1c h most (k::r) s gone=z1c h most r (znc s k n) (gone+n):=by rw[z1c,if_neg hc,hn',Int.toNat_natCast]
   rw[e]
   have hr:∀a,a∈r→a≠k:=λa ha e=>hkr (e ▸ ha)
   obtain⟨c1,g,h0,h1,h2,h3,h4⟩:=z7r h most r (znc s k n) (gone+n) hnr (λa ha=>by rw[zei n (hr a ha)];exact hp a (List.mem_cons_of_mem _ ha))
   have hck:c1 k=0:=h0 k hkr
   have hle:n≤zv s k h:=by omega
   refine⟨zhb c1 k n,⟨g.now,g.hor,g.begun,g.txs,g.nopen,g.log,g.bk,Nat.le_trans g.nv (Nat.sub_le _ _),Nat.le_trans g.nm ?_,λa=>?_,λa=>?_,λa m=>?_⟩,λa ha=>?_,?_,?_,λhlt a ha=>?_,λk1 k2 hk1 hb hc2=>?_⟩
   ·show (if n=(s.mom k).length then s.nm-1 else s.nm)≤s.nm
    split<;>omega
   ·by_cases ea:a=k
    ·subst ea;rw[zxc];exact hle
    ·rw[z1b _ ea]
     have:=g.le a
     rw[zei n ea]at this
     exact this
   ·rw[g.mom]
    by_cases ea:a=k
    ·subst ea
     rw[zxc,hck]
     simp[znc,zhb]
    ·rw[z1b _ ea]
     simp[znc,zhb,ea]
   ·rw[g.ver]
    by_cases ea:a=k
    ·subst ea
     rw[zxc,hck]
     simp[znc]
    ·rw[z1b _ ea]
     simp[znc,zhb,ea]
   ·have ea:a≠k:=λe=>ha (by rw[e];simp)
    rw[z1b _ ea]
    exact h0 a (λh=>ha (List.mem_cons_of_mem _ h))
   ·rw[h1,List.map_cons,List.sum_cons,zxc]
    have:r.map (zhb c1 k n)=r.map c1:=List.map_congr_left (λa ha=>z1b _ (hr a ha) _)
    rw[this]
    omega
   ·right
    rcases h2 with h|h<;>omega
   ·rcases List.mem_cons.1 ha with rfl|ha'
    ·rw[zxc]
     rw[h1]at hlt
     omega
    ·rw[z1b _ (hr a ha'),h3 hlt a ha',zei n (hr a ha')]
   ·have e2:k2≠k:=λe=>by
     subst e
     rcases List.mem_cons.1 hk1 with e1|h1
     ·subst e1;exact zic _ hb
     ·exact zic _ (zxg hb (hkl k1 h1))
    rw[z1b _ e2]at hc2
    have hk2:k2∈r:=Classical.byContradiction λhn=>by rw[h0 k2 hn]at hc2;omega
    rcases List.mem_cons.1 hk1 with e1|hr1
    ·subst e1
     rw[zxc]
     have:=zqn (c:=c1) hk2
     rw[h1]at h2
     omega
    ·rw[z1b _ (hr k1 hr1),h4 k1 k2 hr1 hb hc2,zei n (hr k1 hr1)]
section
variable {s s':XS}{h:Int}{c:ByteArray→Nat}
theorem zh2 (ok:XOk s)(k:ByteArray){n:Nat}(hn:n≤zv s k h):∀m∈(s.mom k).take n,m≤h:=by
 intro m hm
 have hc:n≤(s.mom k).countP (λm=>decide (m≤h)):=by
  unfold zv at hn
  split at hn
  ·omega
  ·split at hn<;>omega
 have h1:m∈(s.mom k).filter (λm=>decide (m≤h)):=by
  rw[zng _ _ (ok.up k)]
  exact List.take_subset_take_left _ hc hm
 simpa using (List.mem_filter.1 h1).2
theorem zus (ok:XOk s)(k:ByteArray){n:Nat}(hn:n≤zv s k h){t:Int}(ht:h≤t) :
  (s.mom k).filter (λm=>decide (m≤t))=(s.mom k).take n++((s.mom k).drop n).filter (λm=>decide (m≤t)):=by
 have h1:((s.mom k).take n).filter (λm=>decide (m≤t))=(s.mom k).take n:=by
  rw[List.filter_eq_self]
  intro m hm
  have:=zh2 ok k hn m hm
  simp;omega
 have e:s.mom k=(s.mom k).take n++(s.mom k).drop n:=(List.take_append_drop _ _).symm
 conv=>lhs;rw[e,List.filter_append,h1]
theorem zir (ok:XOk s)(k:ByteArray){n:Nat}{m:Int}(hm:m∈(s.mom k).drop n):m ∉ (s.mom k).take n:=λh2=>by
 have hp:=ok.up k
 rw[← List.take_append_drop n (s.mom k),List.pairwise_append]at hp
 have:=hp.2.2 m h2 m hm
 omega
theorem XOk.gone (ok:XOk s)(g:zeq s s' h c):XOk s':=by
 refine⟨by rw[g.now];exact ok.now,by rw[g.hor,g.now];exact ok.hor,by rw[g.begun];exact ok.begun,λk=>?_,λk m hm=>?_,λk m=>?_,λk hk=>?_,λn t e=>?_,?_,?_,by rw[g.log,g.now,g.hor];exact ok.lgl,by rw[g.log];exact ok.lgb,by rw[g.log];exact ok.sy⟩
 ·rw[g.mom];exact List.Pairwise.sublist (List.drop_sublist _ _) (ok.up k)
 ·rw[g.mom]at hm;rw[g.now];exact ok.mom k m (List.mem_of_mem_drop hm)
 ·rw[g.ver,g.mom]
  by_cases hm:m∈(s.mom k).take (c k)
  ·rw[if_pos hm]
   constructor
   ·intro h;cases h
   ·intro h;exact absurd hm (zir ok k h)
  ·rw[if_neg hm,ok.ver]
   constructor
   ·intro h
    rw[← List.take_append_drop (c k) (s.mom k),List.mem_append]at h
    exact h.resolve_left hm
   ·exact List.mem_of_mem_drop
 ·rw[g.mom]at hk
  exact ok.key k (λe=>hk (by rw[e,List.drop_nil]))
 ·rw[g.txs]at e
  have t1:=ok.tx n t e
  exact⟨by rw[g.begun];exact t1.num,by rw[g.hor,g.now];exact t1.sees,t1.nw,t1.keys,t1.pos,t1.vals⟩
 ·have:=ok.nm;have:=g.nm;rw[g.now];omega
 ·have:=ok.nv;have:=g.nv;rw[g.now];omega
theorem zeq.spent (ok:XOk s)(g:zeq s s' h c)(k:ByteArray):zv s' k h=zv s k h-c k:=by
 have hf:=zus ok k (g.le k) (Int.le_refl h)
 have hle:=g.le k
 have hlen:((s.mom k).take (c k)).length=c k:=by
  have h2:=zlp s k h
  simp;omega
 have hcnt:(s.mom k).countP (λm=>decide (m≤h))=c k+((s.mom k).drop (c k)).countP (λm=>decide (m≤h)):=by
  rw[List.countP_eq_length_filter,hf,List.length_append,hlen,← List.countP_eq_length_filter]
 have hub:zv s k h≤(s.mom k).countP (λm=>decide (m≤h)):=by
  unfold zv
  split
  ·omega
  ·split<;>omega
 cases e:(((s.mom k).drop (c k)).filter (λm=>decide (m≤h))).getLast? with
 |none=>
  have hnil:=List.getLast?_eq_none_iff.1 e
  have h0:((s.mom k).drop (c k)).countP (λm=>decide (m≤h))=0:=by rw[List.countP_eq_length_filter,hnil];rfl
  have:zv s' k h=0:=by
   unfold zv
   rw[g.mom,e]
  omega
 |some m=>
  have hm:m∈(s.mom k).drop (c k):=(List.mem_filter.1 (List.mem_of_getLast? e)).1
  have e2:((s.mom k).filter (λm=>decide (m≤h))).getLast?=some m:=by rw[hf,List.getLast?_append,e];rfl
  have hv:s'.ver k m=s.ver k m:=by rw[g.ver,if_neg (zir ok k hm)]
  unfold zv
  rw[g.mom,e,e2]
  simp only[hv,hcnt]
  split<;>omega
end
end
end Go.Proofs.YthbdpfccfcceiaaGreatDoor
