/-
  Of the proof of logsUpto_card.
-/
import Derived.Test.YthbdpfccfcceiaaGreatDoorT0x
import Derived.Test.YthbdpfccfcceiaaGreatDoorIter
import Derived.Sort.KeysCollected
namespace Go.Proofs.YthbdpfccfcceiaaGreatDoor
section
open Go.RowKit Go.Maps Go.Sort Go.Shelf
theorem zj3 (m:Nat):AnyZ.SortsIn Tryz.prog Tryz.sortedW_ren Fence.wide m:=
 ⟨λblk off cap ss W hH hblk hsz=>callsIn_wide.2 (AnyM.slices_Sort_string Tryz.sortW blk off cap ss W hH hblk hsz),
  λp cap W=>callsIn_wide.2 (AnyM.slices_Sort_string_none Tryz.sortW p cap W)⟩
theorem z4w (b:Nat)(w:World):Calls Tryz.prog 127 #[.map (some b)] w λe w'=>e = .returned (.func (.func 172) #[] #[.pointer (some ⟨w.heap.size,0,none⟩)])∧w'=w.alloc (.cells #[.map (some b)] 130):=
 (callsIn_wide (n:=5)).1 (AnyZ.keys_in Tryz.keysW Fence.wide 5 trivial rfl (some b) w)
set_option maxHeartbeats 1000000 in
theorem zft {D0:DataW Value}(b nn:Nat)(w:World)(hown:w.ownsMap Tryz.prog 9 zgm b nn D0)(hmax:Maps.size D0≤1000) :
  Calls Tryz.prog 126 #[.func (.func 172) #[] #[.pointer (some ⟨w.heap.size,0,none⟩)]] (w.alloc (.cells #[.map (some b)] 130)) λe w'=>∃(v:Value) (ss:List (List UInt8)),e = .returned v∧ss.Perm (strKeys D0)∧
   w'.ownsRow (w.alloc (.cells #[.map (some b)] 130)).heap.size 9 1 v ss.length ((ss.mergeSort (λx y=>decide (x≤y))).map encStr)∧Below (w.alloc (.cells #[.map (some b)] 130)).heap.size (w.alloc (.cells #[.map (some b)] 130)) w':=by
 have hbl:=hown.lt
 have hseq:SeqGives Fence.wide 2 Tryz.prog 172 #[.pointer (some ⟨w.heap.size,0,none⟩)] encStr (λss=>ss.Perm (strKeys D0)) (Maps.size D0) (w.alloc (.cells #[.map (some b)] 130)):=
  AnyZ.keys_gives (ρ:=Tryz.keysW_ren) { Tryz.keysW with } Fence.wide _ trivial rfl (by omega) w.heap.size b nn D0 _ (by simp) (by simp) (by
   obtain⟨es,clock,hb,Ft,hs,hD⟩:=hown
   exact⟨es,clock,(Below.heap_alloc _ _ b hbl).trans hb,Ft,hs,hD⟩)
 have:=AnyZ.sorted_in Tryz.sortedW Fence.wide 5 trivial trivial trivial trivial rfl (by omega) (zj3 _) (enters_of Tryz.func133 (by kernel_rfl) rfl) 172 #[.pointer (some ⟨w.heap.size,0,none⟩)] trivial (enters_of Tryz.func172 (by kernel_rfl) rfl) _ _ (by unfold maxLen;omega) (by omega) _ hseq
 refine ((callsIn_wide (n:=5)).1 this).mono ?_
 rintro e w' ⟨v,ss,h1,h2,h3,_,h5⟩
 exact⟨v,ss,h1,h2,h3,h5⟩
theorem z8w (a b:List UInt8):(decide (a≤b) || decide (b≤a))=true:=by simp only[Bool.or_eq_true,decide_eq_true_eq];exact List.le_total a b
theorem z9w (a b c:List UInt8)(h1:decide (a≤b)=true)(h2:decide (b≤c)=true):decide (a≤c)=true:=by simp only[decide_eq_true_eq]at *;exact List.le_trans h1 h2
theorem zck (l:List UInt8):encStr l = .string (ofL l):=by simp[encStr,ofL]
theorem zet (b n:Nat)(f:Value→Option Value)(w:World)(h:fmap w Tryz.prog 9 b n f)(hn:n≤1000) :
  Calls Tryz.prog 126 #[.func (.func 172) #[] #[.pointer (some ⟨w.heap.size,0,none⟩)]] (w.alloc (.cells #[.map (some b)] 130)) λe w'=>∃(v:Value) (ks:List ByteArray),e = .returned v∧ks.Pairwise blt∧(∀k,k∈ks↔(f (.string k)).isSome=true)∧ks.length=n∧
   w'.ownsRow w.heap.size 9 1 v ks.length (ks.map Value.string)∧Kp (λ_=>False) w w':=by
 obtain⟨D,hO,hs,hf⟩:=h
 refine (zft b n w hO (by omega)).mono ?_
 rintro e w' ⟨v,ss,he,hperm,hrow,hbel⟩
 obtain⟨es,eD,hp⟩:=hO.tidy zdd
 have hfrom:=zal hO eD
 have hk:∀q∈es,∃x,q.1 = .string x:=λq hq=>by
  obtain⟨x,hx⟩:=hfrom q hq
  obtain⟨l,_,hl,_⟩:=Maps.keyOf_str Tryz.underlying9 hx
  exact⟨l,hl⟩
 have hnd:(strKeys D).Nodup:=by
  rw[eD]
  show (es.map λp=>strOf p.1).Nodup
  refine List.pairwise_map.2 (hp.imp_of_mem λ{a b} ha hb hne e=>hne ?_)
  obtain⟨x,hx⟩:=hk a ha
  obtain⟨y,hy⟩:=hk b hb
  rw[hx,hy]at e ⊢
  exact congrArg _ e
 have hmem:∀k:ByteArray,k.data.toList∈strKeys D↔(f (.string k)).isSome=true:=λk=>by
  rw[eD]
  show k.data.toList∈(es.map λp=>strOf p.1)↔_
  rw[List.mem_map]
  constructor
  ·rintro⟨q,hq,e⟩
   obtain⟨x,hx⟩:=hfrom q hq
   obtain⟨l,e1,e2,_⟩:=Maps.keyOf_str Tryz.underlying9 hx
   rw[e2]at e
   have e':l=k.data.toList:=e
   have hxk:x = .string k:=by rw[e1,zck,e',zwi]
   rw[← hxk,← hf.has x q.1 hx,eD,has_eq,List.any_eq_true]
   exact⟨q,hq,WideAt.sameKey_self (zdd.key hx)⟩
  ·intro h
   obtain⟨l,hl⟩:=hf.key _ h
   have hh:=hf.has _ l hl
   rw[h,eD,has_eq]at hh
   obtain⟨q,hq,hsk⟩:=List.any_eq_true.1 hh
   obtain⟨x,e1,e2,_⟩:=Maps.keyOf_str Tryz.underlying9 hl
   refine⟨q,hq,?_⟩
   rw[WideAt.sameKey_eq hsk,e2]
   have:Value.string k = .string (ofL x):=by rw[← zck];exact e1
   show x=_
   rw[Value.string.inj this,zwe]
 have hsort:=List.mergeSort_perm ss (λx y=>decide (x≤y))
 have hpw:=List.pairwise_mergeSort (le:=λx y=>decide (x≤y)) z9w z8w ss
 have hnd2:(ss.mergeSort (λx y=>decide (x≤y))).Nodup:=(hsort.trans hperm).nodup_iff.2 hnd
 have hlen:(ss.mergeSort (λx y=>decide (x≤y))).length=ss.length:=hsort.length_eq
 have hlenD:ss.length=n:=by
  rw[hperm.length_eq,← hs,eD];simp[strKeys,Maps.size]
 refine⟨v,(ss.mergeSort (λx y=>decide (x≤y))).map ofL,he,?_,λk=>?_,by simpa using hlenD,?_,?_⟩
 ·rw[List.pairwise_map]
  refine (hpw.and hnd2).imp ?_
  intro a b hab
  show (ofL a).data.toList<(ofL b).data.toList
  rw[zwe,zwe]
  have h1:a≤b:=by simpa using hab.1
  rcases List.le_iff_lt_or_eq.1 h1 with h2|h2
  ·exact h2
  ·exact absurd h2 hab.2
 ·rw[← hmem k,← (hsort.trans hperm).mem_iff,List.mem_map]
  constructor
  ·rintro⟨l,hl,rfl⟩;rw[zwe];exact hl
  ·intro hl;exact⟨_,hl,zwi k⟩
 ·have h3:w'.ownsRow w.heap.size 9 1 v ss.length ((ss.mergeSort (λx y=>decide (x≤y))).map encStr):=⟨hrow.1,hrow.2.imp id (λ⟨g,cap,cur,e1,e2,e3⟩=>⟨g,cap,cur,e1,Nat.le_trans (by simp) e2,e3⟩)⟩
  rw[List.length_map,hlen,List.map_map]
  have:(Value.string ∘ ofL)=encStr:=by funext l;exact (zck l).symm
  rw[this]
  exact h3
 ·exact (Kp.alloc (λ_=>False) w _).trans (Kp.of_below hbel _) (λ_ _ h=>h)
end
section
open Go.RowKit Go.Maps Go.Sort
theorem z80:(Tryz.prog.info? 153).map (λi=>(i.zero,i.size,i.bytes))=some (some (.agg #[.string ⟨#[]⟩,.string ⟨#[]⟩,.bool false]),3,40):=by kernel_rfl
def WR (base:Nat)(w:World)(v:Value)(ws:List (ByteArray × ByteArray × Bool)):Prop:=w.ownsRow base 153 3 v ws.length (ws.flatMap z5f)
theorem zpl:∀(ws:List (ByteArray × ByteArray × Bool)) (j:Nat) (x:ByteArray × ByteArray × Bool),ws[j]?=some x→(ws.flatMap z5f)[j*3]?=some (.string x.1)∧(ws.flatMap z5f)[j*3+1]?=some (.string x.2.1)∧(ws.flatMap z5f)[j*3+2]?=some (.bool x.2.2)
 |[],_,_,h=>by simp at h
 |y::r,0,x,h=>by
  simp at h
  subst h
  simp[List.flatMap_cons,z5f]
 |y::r,j+1,x,h=>by
  have h':r[j]?=some x:=by simpa using h
  have ih:=zpl r j x h'
  rw[List.flatMap_cons]
  have e:∀i,(z5f y++r.flatMap z5f)[3+i]?=(r.flatMap z5f)[i]?:=λi=>by rw[List.getElem?_append_right (by simp[z5f])];simp[z5f]
  refine⟨?_,?_,?_⟩
  ·rw[show (j+1)*3=3+j*3 by omega,e];exact ih.1
  ·rw[show (j+1)*3+1=3+(j*3+1) by omega,e];exact ih.2.1
  ·rw[show (j+1)*3+2=3+(j*3+2) by omega,e];exact ih.2.2
theorem WR.rd {base:Nat}{w:World}{v:Value}{ws:List (ByteArray × ByteArray × Bool)}(h:WR base w v ws):RdW w v ws:=by
 rcases h.2 with ⟨rfl,h0⟩|⟨g,cap,cur,rfl,hb,hg,r⟩
 ·exact⟨none,0,by rw[h0],λe=>absurd (List.eq_nil_of_length_eq_zero h0) e⟩
 ·refine⟨_,cap,rfl,λ_=>⟨g,rfl,λj x hx=>?_⟩⟩
  have hc:=World.ownsRow.cells h (g:=g) rfl
  obtain⟨h1,h2,h3⟩:=zpl ws j x hx
  have a1:=hc _ _ h1
  have a2:=hc _ _ h2
  have a3:=hc _ _ h3
  rw[zub,Nat.zero_add]at a1 a2 a3
  exact⟨a1,a2,a3⟩
section
variable {R:Ending→World→Prop}
structure zh4 (w:World)(t:Nat)(kv:Value)(ks:List ByteArray)(wr:World)(uv:Value)(ws:List (ByteArray × ByteArray × Bool)):Prop where
 kp:Kp (λ_=>False) w wr
 box:wr.heap[w.heap.size+1]?=some (.cells #[.int .u8 67,.int .i64 t,uv] 110 (0,0))
 res:wr.heap[w.heap.size]?=some (.cells #[.int .u8 0,.int .i64 0,.slice none 0 0] 110 (0,0))
 row:WR (w.heap.size+2) wr uv ws
 keys:wr.ownsRow (w.heap.size+2) 9 1 kv ks.length (ks.map Value.string)
set_option maxRecDepth 20000 in
set_option maxHeartbeats 4000000 in
theorem zkv (pt mw n:Nat)(wrf:ByteArray→Option (ByteArray × Bool))(t:Nat)(w:World)(c1:w.cell? ⟨pt,1,none⟩=some (.map (some mw)))(hmap:fmap w Tryz.prog 9 mw n (z3b λk=>(wrf k).map z4b))(hn:n≤10)(hpos:0<n)(hsz:∀k,(wrf k).isSome=true→k.size≤8)(ht:t≤100000)
  (hR:∀w' wv ws,Kp (λ_=>False) w w'→wv.oneCell'=true→RdW w' wv ws→(ws.map Prod.fst).Pairwise blt→(∀x∈ws,wrf x.1=some x.2)→(∀k,(wrf k).isSome=true→k∈ws.map Prod.fst)→ws.length=n→(∀b,wv.ownBlock=some b→w.heap.size≤b)→
   R (.returned (.agg #[.int .u8 67,.int .i64 t,wv])) w') :
  Calls Tryz.prog 72 #[.pointer (some ⟨pt,0,none⟩),.int .i64 t] w R:=by
 have HR:=ze hR
 have HM:=ze hmap
 have HN:=ze hn
 have HSZ:=ze hsz
 have HC1:=ze c1
 have hptl:=World.block_lt_of_cell? w _ c1
 have ht':(t:Int)≤100000:=by omega
 clear hR hmap hn hsz
 go_enter Tryz.func72,Tryz.ntmps72
 go_upto_region 2 with fail
 have kA:Kp (λ_=>False) w ((w.alloc (.cells #[.int .u8 0,.int .i64 0,.slice none 0 0] 110)).alloc (.cells #[.int .u8 67,.int .i64 t,.slice none 0 0] 110)):=(Kp.alloc _ _ _).trans (Kp.alloc _ _ _) (λ_ _ h=>h)
 have sA:((w.alloc (.cells #[.int .u8 0,.int .i64 0,.slice none 0 0] 110)).alloc (.cells #[.int .u8 67,.int .i64 t,.slice none 0 0] 110)).heap.size=w.heap.size+2:=by simp
 have bxA:((w.alloc (.cells #[.int .u8 0,.int .i64 0,.slice none 0 0] 110)).alloc (.cells #[.int .u8 67,.int .i64 t,.slice none 0 0] 110)).heap[w.heap.size+1]?=some (.cells #[.int .u8 67,.int .i64 t,.slice none 0 0] 110 (0,0)):=by
  have h:=heap_alloc_new (w.alloc (.cells #[.int .u8 0,.int .i64 0,.slice none 0 0] 110)) (.cells #[.int .u8 67,.int .i64 t,.slice none 0 0] 110)
  have e:(w.alloc (.cells #[.int .u8 0,.int .i64 0,.slice none 0 0] 110)).heap.size=w.heap.size+1:=by simp
  rw[e]at h;exact h
 have rsA:((w.alloc (.cells #[.int .u8 0,.int .i64 0,.slice none 0 0] 110)).alloc (.cells #[.int .u8 67,.int .i64 t,.slice none 0 0] 110)).heap[w.heap.size]?=some (.cells #[.int .u8 0,.int .i64 0,.slice none 0 0] 110 (0,0)):=by
  rw[Below.heap_alloc _ _ _ (by simp)];exact heap_alloc_new w _
 generalize (w.alloc (.cells #[.int .u8 0,.int .i64 0,.slice none 0 0] 110)).alloc (.cells #[.int .u8 67,.int .i64 t,.slice none 0 0] 110)=A at kA sA bxA rsA ⊢
 have cA:A.cell? ⟨pt,1,none⟩=some (.map (some mw)):=(kA.cell hptl (λe=>e)).trans c1
 have HMA:=ze (kA.fmap HM.out (λe=>e))
 have KA:=ze kA
 have SA:=ze sA
 have BXA:=ze bxA
 have RSA:=ze rsA
 have HPOS:=ze hpos
 clear c1 kA sA bxA rsA
 go_wp2_with (first
  |(go_at_call 127;refine (z4w mw _).mono ?_;rintro e w1 ⟨rfl,rfl⟩)
  |(go_at_call 126;refine (zet mw n _ A HMA.out (by have:=HN.out;omega)).mono ?_;rintro e w2 ⟨kv,ks,rfl,hpw,hmem,hlen,hrow,hkp⟩;have HPW:=ze hpw;have HMEM:=ze hmem;have HROW:=ze hrow;have HKP:=ze hkp;subst hlen;obtain⟨gk,capk,curk,rfl,hgk,_⟩:=zib hrow HPOS.out;clear hpw hmem hrow hkp hgk)
  |go_in)
 have hkl:(ks.length:Int)≤10:=by have:=HN.out;omega
 have HKS:Hid (∀k∈ks,∃v,wrf k=some v):=λk hk=>by
  have:=(HMEM.out k).1 hk
  rw[zcc,Option.isSome_map]at this
  exact Option.isSome_iff_exists.1 this
 clear cA
 go_loopw [17] (λv17 wr=>∃(j:Nat) (uv:Value),j≤ks.length∧v17 = .int .i64 j∧zh4 w t (.slice (some ⟨gk,0,none⟩) ks.length capk) ks wr uv ((ks.take j).map λk=>(k,(wrf k).getD (eb,false)))) (λv17 _=>ks.length-(intOf v17).toNat)
 case atStart=>
  have kk:=KA.out.trans HKP.out (λ_ _ h=>h)
  have hs:=SA.out
  refine⟨0,.slice none 0 0,Nat.zero_le _,rfl,kk,(HKP.out.block _ (by omega) (λe=>e)).trans BXA.out,(HKP.out.block _ (by omega) (λe=>e)).trans RSA.out,World.ownsRow_nil _ _ _ _,?_⟩
  have:=HROW.out
  rw[SA.out]at this
  exact this
 case round=>
  obtain⟨j,uv,hj,rfl,hMW⟩:=hrel
  by_cases hlt:j<ks.length
  ·obtain⟨k,hk⟩:∃k,ks[j]?=some k:=⟨ks[j],List.getElem?_eq_getElem hlt⟩
   obtain⟨⟨val,gone⟩,hv⟩:=HKS.out k (List.mem_of_getElem? hk)
   have hkc:wr.cell? ⟨gk,j,none⟩=some (.string k):=zfe hMW.keys j _ (by rw[List.getElem?_map,hk];rfl)
   have hkey:=ze (WideMaps.keyOf_string_mk Tryz.underlying9 (show k.size≤maxLen by have:=HSZ.out k (by rw[hv];rfl);unfold maxLen;omega))
   have hmapr:=hMW.kp.fmap HM.out (λe=>e)
   have hlk:(Instr.lookup 130 (.map (some mw)) (.string k) false).run Tryz.prog wr.drew = .ok (.agg #[.string val,.bool gone]) wr.drew:=by
    have:=hmapr.drew.look false zdd Tryz.underlying130 (zil wr.drew) hkey.out
    rw[zcc,hv]at this
    simpa [z4b] using this
   have cT:wr.cell? ⟨pt,1,none⟩=some (.map (some mw)):=(hMW.kp.cell hptl (λe=>e)).trans HC1.out
   have hLj:((ks.take j).map λk=>(k,(wrf k).getD (eb,false))).length=j:=by simp;omega
   have hrow0:wr.ownsRow (w.heap.size+2) 153 3 uv j (((ks.take j).map λk=>(k,(wrf k).getD (eb,false))).flatMap z5f):=by
    have h:=hMW.row
    unfold WR at h
    rw[hLj]at h
    exact h
   obtain⟨pu,capu,rfl⟩:=zp hrow0
   have cB:wr.cell? ⟨w.heap.size+1,2,none⟩=some (.slice pu j capu):=zg hMW.box 2
   have cBa:∀ob,(wr.alloc ob).cell? ⟨w.heap.size+1,2,none⟩=some (.slice pu j capu):=λob=>zeh cB ob
   have HMW:=ze hMW
   have HR0:=ze hrow0
   have hjl:(j:Int)<ks.length:=by omega
   obtain⟨i0,hi,hz0,hz1,hz2⟩:=info_parts z80
   have HNL:Hid (j≤10):=by have:=HN.out;show _≤_;omega
   have HBX:=ze (zh hMW.box)
   have HTK:Hid ((ks.take (j+1)).map (λk=>(k,(wrf k).getD (eb,false)))=((ks.take j).map λk=>(k,(wrf k).getD (eb,false)))++[(k,val,gone)]):=by
    obtain⟨hk1,hk2⟩:=List.getElem?_eq_some_iff.1 hk
    show _=_
    rw[List.take_succ_eq_append_getElem hk1,List.map_append,hk2]
    simp[hv]
   clear hMW hkey hmapr hLj hrow0 hv hk
   go_wp2_with fail
   go_region_law (refine zmd rfl _ _ 108 rfl (w.heap.size+2) 153 i0 (.agg #[.string ⟨#[]⟩,.string ⟨#[]⟩,.bool false]) 3 40 Tryz.underlying108 hi hz0 hz1 hz2 rfl (by decide) (.slice pu j capu) j _ (by simp[Act.eval]) (zi HR0.out ((Kp.drew (λ_=>False) _).trans (Kp.alloc (λ_=>False) _ _) (λ_ _ h=>h)) (λ_ _ h=>h)) ⟨wr.heap.size,0,none⟩ 1 1 [.string k,.string val,.bool gone] (by simp[Act.eval]) rfl (λi u hu=>by rw[zub,Nat.zero_add];exact (zg (heap_alloc_new wr.drew _) i).trans (by simpa using hu)) (by simp[Value.oneCell']) (by have:=HNL.out;unfold maxLen;omega) (by have:=HNL.out;omega) (by have:=HBX.out;simp;omega) ?_;intro v' w3 hown' hgrow hloc;have HOW:=ze hown';have HGR:Hid (Kp (λb=>(Value.slice pu j capu).ownBlock=some b) wr w3):=((Kp.drew (λb=>(Value.slice pu j capu).ownBlock=some b) wr).trans (Kp.alloc (λb=>(Value.slice pu j capu).ownBlock=some b) _ _) (λ_ _ h=>h)).trans (Kp.of_grown hgrow (λ_ e=>e)) (λ_ _ h=>h);obtain⟨g3,cap3,cur3,rfl,hg3,_⟩:=zib hown' (by omega);have hbx3:w3.heap[w.heap.size+1]?=some (.cells #[.int .u8 67,.int .i64 t,.slice pu j capu] 110 (0,0)):=(HGR.out.block _ HBX.out (λe=>by have:=(HR0.out.lt _ e).1;omega)).trans HMW.out.box;have HB3:=ze hbx3;have q0:w3.cell? ⟨w.heap.size+1,2,none⟩=some (.slice pu j capu):=zg hbx3 2;have q1:w3.frozen? ⟨w.heap.size+1,2,none⟩=false:=zx hbx3 2;clear hown' hgrow hloc hg3 hbx3)
   all_goals
    clear q0 q1 hlk cT cB cBa hkc
    go_wp2_with fail
    refine⟨⟨j+1,.slice (some ⟨g3,0,none⟩) (j+1) cap3,by omega,by go_num,?_⟩,by simp[intOf];omega⟩
    have hgl:=(HOW.out.lt g3 rfl).1
    have k4:Kp (λb=>b=w.heap.size+1) w3 (w3.setCell ⟨w.heap.size+1,2,none⟩ (.slice (some ⟨g3,0,none⟩) (j+1) cap3)):=Kp.setCell _ _ _ rfl
    refine⟨?_,zn HB3.out _,?_,?_,?_⟩
    ·exact (HMW.out.kp.trans HGR.out (λb hb e=>by have:=(HR0.out.lt _ e).1;omega)).trans k4 (λb hb (e:b=w.heap.size+1)=>by omega)
    ·have hr3:w3.heap[w.heap.size]?=some (.cells #[.int .u8 0,.int .i64 0,.slice none 0 0] 110 (0,0)):=(HGR.out.block _ (zh HMW.out.res) (λe=>by have:=(HR0.out.lt _ e).1;omega)).trans HMW.out.res
     exact (k4.block _ (zh hr3) (by omega)).trans hr3
    ·rw[HTK.out]
     unfold WR
     rw[List.flatMap_append,List.length_append,List.length_map,List.length_take,Nat.min_eq_left (by omega)]
     exact zi HOW.out k4 (λb e h=>by simp only[Value.ownBlock,Option.some.injEq]at e;omega)
    ·have hgk:=(HMW.out.keys.lt gk rfl).1
     obtain⟨ck,hck⟩:=zrd HMW.out.keys (b:=gk) rfl
     exact zi (zi HMW.out.keys HGR.out (λb e h=>by
      simp only[Value.ownBlock,Option.some.injEq]at e
      subst e
      obtain⟨cu,hcu⟩:=zrd HR0.out h
      exact zne hck hcu (by decide) rfl)) k4 (λb e h=>by simp only[Value.ownBlock,Option.some.injEq]at e;omega)
  ·have hj':j=ks.length:=by omega
   subst hj'
   have HMW:=ze hMW
   have x0:wr.cell? ⟨w.heap.size+1,0,none⟩=some (.int .u8 67):=zg hMW.box 0
   have x1:wr.cell? ⟨w.heap.size+1,1,none⟩=some (.int .i64 t):=zg hMW.box 1
   have x2:wr.cell? ⟨w.heap.size+1,2,none⟩=some uv:=zg hMW.box 2
   have y0:wr.cell? ⟨w.heap.size,0,none⟩=some (.int .u8 0):=zg hMW.res 0
   have y1:wr.cell? ⟨w.heap.size,1,none⟩=some (.int .i64 0):=zg hMW.res 1
   have y2:wr.cell? ⟨w.heap.size,2,none⟩=some (.slice none 0 0):=zg hMW.res 2
   have z0:∀i,wr.frozen? ⟨w.heap.size,i,none⟩=false:=λi=>zx hMW.res i
   have hLj:((ks.take ks.length).map λk=>(k,(wrf k).getD (eb,false))).length=ks.length:=by simp
   have hrow0:wr.ownsRow (w.heap.size+2) 153 3 uv ks.length (((ks.take ks.length).map λk=>(k,(wrf k).getD (eb,false))).flatMap z5f):=by
    have h:=hMW.row
    unfold WR at h
    rw[hLj]at h
    exact h
   obtain⟨pu,capu,rfl⟩:=zp hrow0
   clear hMW hrow0 hLj
   go_wp2_with fail
   have k4:Kp (λb=>b=w.heap.size) wr (((wr.setCell ⟨w.heap.size,0,none⟩ (.int .u8 67)).setCell ⟨w.heap.size,1,none⟩ (.int .i64 t)).setCell ⟨w.heap.size,2,none⟩ (.slice pu ks.length capu)):=((Kp.setCell (S:=λb=>b=w.heap.size) _ _ _ rfl).trans (Kp.setCell (S:=λb=>b=w.heap.size) _ _ _ rfl) (λ_ _ h=>h)).trans (Kp.setCell (S:=λb=>b=w.heap.size) _ _ _ rfl) (λ_ _ h=>h)
   refine bodyPost_ret (results_cell_row rfl _ _ w.heap.size 110 #[.int .u8 67,.int .i64 t,.slice pu ks.length capu] (0,0) _ rfl ?_ Tryz.underlying110 rfl (by kernel_rfl)) rfl ?_
   ·exact zn (zn (zn HMW.out.res _) _) _
   refine HR.out _ (.slice pu ks.length capu) (ks.map λk=>(k,(wrf k).getD (eb,false))) ((HMW.out.kp).trans k4 (λb hb (e:b=w.heap.size)=>by omega)) rfl ?_ ?_ ?_ ?_ (by simp) ?_
   ·have h:=HMW.out.row.rd
    rw[List.take_length]at h
    exact h.kp k4 (λb e h=>by have:=(HMW.out.row.lt b e).1;omega)
   ·rw[List.map_map]
    have:(Prod.fst ∘ λk:ByteArray=>(k,(wrf k).getD (eb,false)))=id:=rfl
    rw[this,List.map_id]
    exact HPW.out
   ·intro x hx
    obtain⟨k,hk,rfl⟩:=List.mem_map.1 hx
    obtain⟨v,hv⟩:=HKS.out k hk
    simp[hv]
   ·intro k hk
    rw[List.map_map]
    exact List.mem_map.2 ⟨k,(HMEM.out k).2 (by rw[zcc,Option.isSome_map];exact hk),rfl⟩
   ·intro b e
    have:=(HMW.out.row.lt b e).1
    omega
end
end
section
open Go.RowKit Go.Maps
structure z6j (wr:ByteArray→Option (ByteArray × Bool))(ws:List (ByteArray × ByteArray × Bool)):Prop where
 up:(ws.map Prod.fst).Pairwise blt
 at_:∀x∈ws,wr x.1=some x.2
 all:∀k,(wr k).isSome=true→k∈ws.map Prod.fst
theorem z6j.nodup {wr:ByteArray→Option (ByteArray × Bool)}{ws:List (ByteArray × ByteArray × Bool)}(h:z6j wr ws):(ws.map Prod.fst).Nodup:=by
 unfold List.Nodup
 exact h.up.imp (λ{a b} hab (e:a=b)=>zic a (by rw[← e]at hab;exact hab))
theorem z6j.eq {wr:ByteArray→Option (ByteArray × Bool)}{ws:List (ByteArray × ByteArray × Bool)}(h:z6j wr ws):wrL ws=wr:=by
 funext k
 cases e:wr k with
 |some v=>
  obtain⟨x,hx,rfl⟩:=List.mem_map.1 (h.all k (by rw[e];rfl))
  rw[zby ws h.nodup x hx,← h.at_ x hx,e]
 |none=>
  cases e2:wrL ws k with
  |none=>rfl
  |some v=>
   have h1:(wrL ws k).isSome=true:=by rw[e2];rfl
   rw[zrk,List.any_eq_true]at h1
   obtain⟨x,hx,ek⟩:=h1
   have ek':x.1=k:=by simpa using ek
   have:=h.at_ x hx
   rw[ek',e]at this;cases this
theorem zi1 (s:XS)(t:XT)(left:Value→Bool)(nv nm:Nat)(ws:List (ByteArray × ByteArray × Bool))(h:z6j t.wr ws):zqd s ⟨0,wrL ws,0⟩ left nv nm=zqd s t left nv nm:=by
 simp only[zqd,h.eq]
def ze4 (s:XS)(wr:ByteArray→Option (ByteArray × Bool))(l:XL):Prop:=∃ws,z6j wr ws∧ws.length≤10∧l.lg=s.log.lg++[zbb (s.now+1).toNat ws]∧l.sy=s.log.sy
theorem z8e (lg:List (List UInt8))(b:List UInt8):bytesOf (zm lg)≤bytesOf (zm (lg++[b])):=by
 rw[z8d,zxk _ _ _ (λh=>z7i h)];omega
section
variable {own own':Nat→Lab}{c:Nat}{w w':World}{p:Nat}{s:XS}{mo ph mv mm:Nat}{pt mw:Int→Nat}{sl:ByteArray→Value}
theorem ztw (txs:Int→Option XT)(tx:Int)(pt:Int→Nat):zog (zpc λn=>(txs n).map λ_=>Value.pointer (some ⟨pt n,0,none⟩)) (.int .i64 tx) (zpc λn=>((zwb txs tx none) n).map λ_=>Value.pointer (some ⟨pt n,0,none⟩)):=by
 rw[zsm];exact zlm _ _
variable {R:Ending→World→Prop}
theorem zlv (pt mw n:Nat)(wrf:ByteArray→Option (ByteArray × Bool))(t:Int)(w:World)(c1:w.cell? ⟨pt,1,none⟩=some (.map (some mw)))(hmap:fmap w Tryz.prog 9 mw n (z3b λk=>(wrf k).map z4b))(hn:n≤10)(hpos:0<n)(hsz:∀k,(wrf k).isSome=true→k.size≤8)(ht:0≤t∧t≤100000)
  (hR:∀w' wv ws,Kp (λ_=>False) w w'→wv.oneCell'=true→RdW w' wv ws→z6j wrf ws→ws.length=n→(∀b,wv.ownBlock=some b→w.heap.size≤b)→
   R (.returned (.agg #[.int .u8 67,.int .i64 t,wv])) w') :
  Calls Tryz.prog 72 #[.pointer (some ⟨pt,0,none⟩),.int .i64 t] w R:=by
 obtain⟨m,rfl⟩:∃m:Nat,t=m:=⟨t.toNat,by omega⟩
 exact zkv pt mw n wrf m w c1 hmap hn hpos hsz (by omega) (λw' wv ws h1 h2 h3 h4 h5 h6 h7 h8=>hR w' wv ws h1 h2 h3 ⟨h4,h5,h6⟩ h7 h8)
theorem zw0 (h:XR own c w p s mo ph mv mm pt mw sl)(hT:Tab w)(hN:zid own c)(rv:Value)(ws:List (ByteArray × ByteArray × Bool))(h1c:rv.oneCell'=true)(hrd:RdW w rv ws)(hne:ws≠[])(hnd:(ws.map Prod.fst).Nodup)(hn:ws.length≤10)(hsz:∀x∈ws,x.1.size≤8∧x.2.1.size≤20)(hrv:∀b,rv.ownBlock=some b→(own b).c≠c)
  (hl:s.log.lg.length≤4999) (hbs:∀b∈s.log.lg,b.length≤400) (hnow:0≤s.now∧s.now<2000) (hmom:∀k,(s.mom k).length<1000000) (hnv:s.nv+10<1000000) (hnm:s.nm+10<1000000)
  (hR:∀w' own' sl' l' nv' nm',Kp (λb=>(own b).c=c) w w'→(∀b,b<w.heap.size→own' b=own b)→l'.lg=s.log.lg++[zbb (s.now+1).toNat ws]→l'.sy=s.log.sy→nv'≤s.nv+ws.length→nm'≤s.nm+ws.length→
   XR own' c w' p (zqd { s with log:=l' } ⟨0,wrL ws,0⟩ (λ_=>false) nv' nm') mo ph mv mm pt mw sl'→R (.returned (.tuple #[])) w') :
  Calls Tryz.prog 46 #[.pointer (some ⟨p,0,none⟩),.agg #[.int .u8 67,.int .i64 (s.now+1),rv]] w R:=by
 have e:((s.now+1).toNat:Int)=s.now+1:=by omega
 have:=zam (R:=R) h hT hN rv ws h1c hrd hne hnd hn hsz hrv hl hbs hnow hmom hnv hnm (s.now+1).toNat e hR
 rw[e]at this
 exact this
set_option maxRecDepth 20000 in
set_option maxHeartbeats 2000000 in
theorem z6p (h:XR own c w p s mo ph mv mm pt mw sl)(hT:Tab w)(hN:zid own c)(tx:Int)(hwx:(Lit.int .i64 tx).wf=true)(t:XT)(e:s.txs tx=some t)(hnw:0<t.nw)(hnw2:t.nw≤10)(hkeys:∀k,(t.wr k).isSome=true→k.size≤8)(hvals:∀k v,t.wr k=some v→v.1.size≤20)(hmom:∀k,(s.mom k).length<1000000)(hov:¬zjk s t)(hnow:0≤s.now∧s.now<2000)
  (hnv:s.nv+10<1000000) (hnm:s.nm+10<1000000) (hl:s.log.lg.length≤4999) (hbs:∀b∈s.log.lg,b.length≤400)
  (hR:∀w' own' sl' nv' nm' l' ws,Kp (λb=>(own b).c=c) w w'→(∀b,b<w.heap.size→own' b=own b)→nv'≤s.nv+t.nw→nm'≤s.nm+t.nw→z6j t.wr ws→ws.length=t.nw→l'.lg=s.log.lg++[zbb (s.now+1).toNat ws]→l'.sy=s.log.sy→
   XR own' c w' p { zqd { s with log:=l' } t (λ_=>false) nv' nm' with txs:=zwb s.txs tx none,nopen:=s.nopen-1 } mo ph mv mm pt mw sl'→R (.returned (.tuple #[.int .i64 (s.now+1),.int .i64 0])) w') :
  Calls Tryz.prog 36 #[.pointer (some ⟨p,0,none⟩),.int .i64 tx] w R:=by
 have hkey:Hid _:=keyOf_int_mk Tryz.underlying3 hwx
 have c2:w.cell? ⟨p,7,none⟩=some (.map (some mo)):=zg h.store 7
 have d1:w.cell? ⟨pt tx,1,none⟩=some (.map (some (mw tx))):=zg (h.tx tx t e) 1
 have hw:=h.wr tx t e
 have hf:(zpc λn=>(s.txs n).map λ_=>Value.pointer (some ⟨pt n,0,none⟩)) (.int .i64 tx)=some (.pointer (some ⟨pt tx,0,none⟩)):=by rw[zrc,e];rfl
 have H:Hid (XR own c w p s mo ph mv mm pt mw sl):=h
 have hopn:=h.opn
 have HR:Hid _:=hR
 have HT:=ze hT
 have HN:=ze hN
 have HL:=ze hl
 have HBS:=ze hbs
 have HPOS:=ze hnw
 have HNW2:=ze hnw2
 have HKEYS:=ze hkeys
 have HVALS:=ze hvals
 have HMOM:=ze hmom
 have HOV:=ze hov
 have hn:(t.nw:Int)≠0:=by omega
 have hn':((t.nw:Int) == 0)=false:=by simpa using hn
 have hlt2:s.now<2000:=hnow.2
 have hge0:0≤s.now:=hnow.1
 have HNOW:=ze hnow
 have HV:Hid (s.nv+10<1000000∧s.nm+10<1000000):=⟨hnv,hnm⟩
 clear h hR hnw hn hnow hnv hnm hT hN hl hbs hnw2 hkeys hvals hmom hov
 go_enter Tryz.func36,Tryz.ntmps36
 go_wp2_with (first
  |(at_lookup;refine z8 _ rfl _ _ 99 rfl 3 129 zld Tryz.underlying99 (zdf _) mo s.nopen _ rfl hopn (.int .i64 tx) _ rfl hkey.out _ hf ?_)
  |(at_len;refine zuf _ rfl _ 130 rfl 9 138 Tryz.underlying130 (mw tx) t.nw _ rfl hw ?_)
  |(go_at_call 71;refine znj H.out tx t e HKEYS.out HMOM.out (λ_ w1 hk1=>?_) (λho=>absurd ho HOV.out);have HK1:=ze hk1;have H1:Hid (XR own c w1 p s mo ph mv mm pt mw sl):=H.out.kept hk1;have c0':w1.cell? ⟨p,2,none⟩=some (.int .i64 s.now):=zg H1.out.store 2;clear hk1)
  |(go_at_call 72;refine zlv (pt tx) (mw tx) t.nw t.wr (s.now+1) _ (zg (H1.out.tx tx t e) 1) (H1.out.wr tx t e) HNW2.out HPOS.out HKEYS.out (by have:=HNOW.out;omega) ?_;intro w2 wv ws hk2 h1c hrd hws hlen hown2;have HK2:=ze hk2;have HWS:=ze hws;have HRD:=ze hrd;have H1C:=ze h1c;have HLEN:=ze hlen;have HO2:=ze hown2;clear hk2 h1c hrd hws hlen hown2)
  |(go_at_call 46;refine zw0 (H1.out.outer HK2.out) ((HT.out.kept HK1.out).kept HK2.out) (HN.out.outer (HT.out.kept HK1.out)) wv ws H1C.out HRD.out (λe=>by have h1:=HLEN.out;have h2:=HPOS.out;rw[e]at h1;simp at h1;omega) HWS.out.nodup (by have:=HLEN.out;have:=HNW2.out;omega) (λx hx=>⟨HKEYS.out x.1 (by rw[HWS.out.at_ x hx];rfl),HVALS.out x.1 x.2 (HWS.out.at_ x hx)⟩) (λb eb=>zse (HO2.out b eb)) HL.out HBS.out HNOW.out HMOM.out HV.out.1 HV.out.2 ?_;intro w3 own3 sl3 l3 nv3 nm3 hk3 ho3 hl3 hs3 hnv3 hnm3 hx3;rw[zi1 _ t _ _ _ ws HWS.out]at hx3;have HX3:=ze hx3;have HK3:=ze hk3;have HO3:=ze ho3;have HL3:=ze hl3;have HS3:=ze hs3;have HNV3:=ze hnv3;have HNM3:=ze hnm3;have hopn3:=hx3.opn;have c23:w3.cell? ⟨p,7,none⟩=some (.map (some mo)):=zg hx3.store 7;have c03:w3.cell? ⟨p,2,none⟩=some (.int .i64 (s.now+1)):=zg hx3.store 2;have nPO:p≠mo:=zfb (own:=own3) (by rw[hx3.ownP,hx3.ownO];simp);have hg3:Hid _:=ztw s.txs tx pt;clear hx3 hk3 ho3 hl3 hs3 hnv3 hnm3)
  |(at_delete;refine zhg _ rfl _ _ 99 3 rfl 129 zld Tryz.underlying99 mo s.nopen _ rfl hopn3 (.int .i64 tx) _ rfl hkey.out hg3.out ?_;intro w4 hown4 hturn4;have c04:w4.cell? ⟨p,2,none⟩=some (.int .i64 (s.now+1)):=(World.cell?_of_block (w:=w3) (zlb hturn4 _ nPO)).trans c03)
  |go_in)
 have hf3:(zpc λn=>(s.txs n).map λ_=>Value.pointer (some ⟨pt n,0,none⟩)) (.int .i64 tx)=some (.pointer (some ⟨pt tx,0,none⟩)):=hf
 have hown5:fmap w4 Tryz.prog 3 mo (s.nopen-1) (zpc λn=>((zwb s.txs tx none) n).map λ_=>Value.pointer (some ⟨pt n,0,none⟩)):=by
  have h5:=hown4
  rw[show (zqd { s with log:=l3 } t (λ_=>false) nv3 nm3).txs=s.txs from rfl]at h5
  rw[hf3]at h5
  exact h5
 have hfin:=HX3.out.reopen (λb hb=>zlb hturn4 b hb) (zwb s.txs tx none) (s.nopen-1) hown5 zlo
 refine HR.out w4 own3 sl3 nv3 nm3 l3 ws ?_ (λb hb=>?_) (by have:=HNV3.out;have:=HLEN.out;omega) (by have:=HNM3.out;have:=HLEN.out;omega) HWS.out HLEN.out HL3.out HS3.out hfin
 ·refine ((((HK1.out.own_of (λ_ h=>h.elim)).trans HK2.out (λ_ _ h=>h.elim)).trans HK3.out (λb hb e=>?_)).trans (Kp.of_turned (S:=λb=>b=mo) hturn4 rfl) (λb hb hbo=>by rw[hbo,H.out.ownO]))
  rw[zvc (Nat.lt_of_lt_of_le hb HK1.out.size)]at e
  exact e
 ·rw[HO3.out b (Nat.lt_of_lt_of_le (Nat.lt_of_lt_of_le hb HK1.out.size) HK2.out.size),zvc (Nat.lt_of_lt_of_le hb HK1.out.size)]
end
end
end Go.Proofs.YthbdpfccfcceiaaGreatDoor
