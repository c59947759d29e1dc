/-
  Of the proof of logsUpto_card.
-/
import Derived.Test.YthbdpfccfcceiaaGreatDoorB1x
import Derived.Lib.SlicesCompact
import Derived.Sort.Walk0
namespace Go.Proofs.YthbdpfccfcceiaaGreatDoor
section
open Go.RowKit Go.Maps
section
variable {own own':Nat→Lab}{c:Nat}{w w':World}{p:Nat}{s:XS}{mo ph mv mm:Nat}{pt mw:Int→Nat}{sl:ByteArray→Value}
variable {R:Ending→World→Prop}
set_option maxRecDepth 20000 in
set_option maxHeartbeats 400000 in
theorem zb4 (h:XR own c w p s mo ph mv mm pt mw sl)(tx:Int)(hwx:(Lit.int .i64 tx).wf=true)(key:ByteArray)(hkl:key.size≤maxLen)(hm:∀k,zxf s k)
  (h0:s.txs tx=none→R (.returned (.tuple #[.string eb,.int .i64 2])) w)
  (h1:∀t,s.txs tx=some t→zu key=false→R (.returned (.tuple #[.string eb,.int .i64 1])) w)
  (h2:∀t,s.txs tx=some t→zu key=true→(zuc s t key).2=false→∀w',Kp (λ_=>False) w w'→R (.returned (.tuple #[.string eb,.int .i64 5])) w')
  (h3:∀t,s.txs tx=some t→zu key=true→(zuc s t key).2=true→∀w',Kp (λ_=>False) w w'→R (.returned (.tuple #[.string (zuc s t key).1,.int .i64 0])) w') :
  Calls Tryz.prog 102 #[.pointer (some ⟨p,0,none⟩),.int .i64 tx,.string key] w R:=by
 have hkey:Hid _:=keyOf_int_mk Tryz.underlying3 hwx
 have c2:w.cell? ⟨p,7,none⟩=some (.map (some mo)):=zg h.store 7
 have hopn:=h.opn
 have HK:Hid _:=hkl
 have H:Hid (XR own c w p s mo ph mv mm pt mw sl):=h
 cases e:s.txs tx with
 |none=>
  have hf:(zpc λn=>(s.txs n).map λ_=>Value.pointer (some ⟨pt n,0,none⟩)) (.int .i64 tx)=none:=by rw[zrc,e];rfl
  have HR:=h0 e
  clear h h0 h1 h2 h3 hkl
  go_enter Tryz.func102,Tryz.ntmps102
  go_wp2_with (first
   |(at_lookup;refine z8 _ rfl _ _ 99 rfl 3 129 zld Tryz.underlying99 (zdf _) mo s.nopen _ rfl hopn (.int .i64 tx) _ rfl hkey.out _ hf ?_)
   |go_in)
  exact HR
 |some t=>
  have hf:(zpc λn=>(s.txs n).map λ_=>Value.pointer (some ⟨pt n,0,none⟩)) (.int .i64 tx)=some (.pointer (some ⟨pt tx,0,none⟩)):=by rw[zrc,e];rfl
  cases hb:zu key with
  |false=>
   have HR:=h1 t e hb
   clear h h0 h1 h2 h3 hkl
   go_enter Tryz.func102,Tryz.ntmps102
   go_wp2_with (first
    |(at_lookup;refine z8 _ rfl _ _ 99 rfl 3 129 zld Tryz.underlying99 (zdf _) mo s.nopen _ rfl hopn (.int .i64 tx) _ rfl hkey.out _ hf ?_)
    |(go_at_call 67;refine (z3c _ _ HK.out).mono ?_;rintro e w' ⟨rfl,rfl⟩)
    |go_in)
   exact HR
  |true=>
   cases hs:(zuc s t key).2 with
   |false=>
    have HR:Hid _:=h2 t e hb hs
    clear h h0 h1 h2 h3 hkl
    go_enter Tryz.func102,Tryz.ntmps102
    go_wp2_with (first
     |(at_lookup;refine z8 _ rfl _ _ 99 rfl 3 129 zld Tryz.underlying99 (zdf _) mo s.nopen _ rfl hopn (.int .i64 tx) _ rfl hkey.out _ hf ?_)
     |(go_at_call 67;refine (z3c _ _ HK.out).mono ?_;rintro e w' ⟨rfl,rfl⟩)
     |(go_at_call 155;refine z4n H.out tx t e key (z1d key hb) (hm key) (λw1 hk1=>?_))
     |go_in)
    exact HR.out w1 hk1
   |true=>
    have HR:Hid _:=h3 t e hb hs
    clear h h0 h1 h2 h3 hkl
    go_enter Tryz.func102,Tryz.ntmps102
    go_wp2_with (first
     |(at_lookup;refine z8 _ rfl _ _ 99 rfl 3 129 zld Tryz.underlying99 (zdf _) mo s.nopen _ rfl hopn (.int .i64 tx) _ rfl hkey.out _ hf ?_)
     |(go_at_call 67;refine (z3c _ _ HK.out).mono ?_;rintro e w' ⟨rfl,rfl⟩)
     |(go_at_call 155;refine z4n H.out tx t e key (z1d key hb) (hm key) (λw1 hk1=>?_))
     |go_in)
    exact HR.out w1 hk1
theorem zc4 (h:XR own c w p s mo ph mv mm pt mw sl)(h0:R (.returned (.int .i64 s.now)) w) :
  Calls Tryz.prog 15 #[.pointer (some ⟨p,0,none⟩)] w R:=by
 have c0:w.cell? ⟨p,2,none⟩=some (.int .i64 s.now):=zg h.store 2
 clear h
 go_enter Tryz.func15,Tryz.ntmps15
 go_wp2
 exact h0
def zdc (mu:Nat):XS:={ now:=0,hor:=0,begun:=0,txs:=λ_=>none,nopen:=0,mom:=λ_=>[],ver:=λ_ _=>none,nv:=0,nm:=0,log:=⟨.slice none 0 0,[],[],0⟩,bk:=⟨mu,0,λ_=>none,0⟩ }
def zgk (mo ph mu:Nat):Array Value:=#[.pointer (some ⟨ph,0,none⟩),.int .i64 0,.int .i64 0,.slice none 0 0,.int .i64 0,.int .i64 0,.int .i64 0,.map (some mo),.int .i64 0,.map (some mu)]
set_option maxRecDepth 20000 in
set_option maxHeartbeats 400000 in
theorem z11 (w:World)
  (hR:R (.returned (.pointer (some ⟨w.heap.size+5,0,none⟩))) ((((((w.alloc (.map #[] 0)).alloc (.map #[] 0)).alloc (.cells #[.map (some w.heap.size),.map (some (w.heap.size+1))] 209)).alloc (.map #[] 0)).alloc (.map #[] 0)).alloc (.cells (zgk (w.heap.size+3) (w.heap.size+2) (w.heap.size+4)) 102))) :
  Calls Tryz.prog 33 #[] w R:=by
 have hmm:=@run_makeMap Tryz.prog
 go_enter Tryz.func33,Tryz.ntmps33
 go_wp2
 exact hR
end
end
section
open Go.RowKit Go.Maps Go.Sort
def ofL (l:List UInt8):ByteArray:=⟨l.toArray⟩
theorem zwi (a:ByteArray):ofL a.data.toList=a:=by simp[ofL]
theorem zwe (l:List UInt8):(ofL l).data.toList=l:=by simp[ofL]
def blt (a b:ByteArray):Prop:=a.data.toList<b.data.toList
theorem zic (a:ByteArray):¬blt a a:=List.lt_irrefl _
theorem zxg {a b c:ByteArray}(h:blt a b)(h':blt b c):blt a c:=List.lt_trans h h'
theorem zro {a b:ByteArray}(h:a≠b):blt a b∨blt b a:=by
 by_cases h1:blt a b
 ·exact Or.inl h1
 ·right
  have h2:b.data.toList≤a.data.toList:=List.not_lt.1 h1
  rcases List.le_iff_lt_or_eq.1 h2 with h3|h3
  ·exact h3
  ·exact absurd (WideShapes.bytes_inj h3).symm h
section
variable {w:World}{base:Nat}{v:Value}
theorem z4p (cur:Array Value)(d:List (List UInt8))(n:Nat)(hn:d.length=n)(hc:n≤cur.size):(putCells encStr 0 d.toArray cur).toList.take n=d.map encStr:=by
 apply List.ext_getElem?
 intro i
 rw[List.getElem?_take]
 by_cases hi:i<n
 ·rw[if_pos hi,Array.getElem?_toList]
  simp only[putCells,Array.getElem?_mapIdx]
  rw[Array.getElem?_eq_getElem (by omega),List.getElem?_map,List.getElem?_eq_getElem (by omega)]
  simp[hn,hi]
 ·rw[if_neg hi,List.getElem?_map,List.getElem?_eq_none (by omega)];rfl
theorem zys {W:World}{g:Nat}{cur:Array Value}{e:TypeId}{fz:Nat × Nat}(h:W.heap[g]?=some (.cells cur e fz))(d:Array (List UInt8)):(putRow encStr W g 0 d).heap[g]?=some (.cells (putCells encStr 0 d cur) e fz):=by
 simp[putRow,mapBlock,Array.getElem?_modify,h,onCells]
theorem z0l {W:World}{g b:Nat}(h:b≠g)(d:Array (List UInt8)):(putRow encStr W g 0 d).heap[b]?=W.heap[b]?:=by
 simp[putRow,mapBlock,Array.getElem?_modify,Ne.symm h]
theorem z4o {W:World}(os:Array Obj){b:Nat}(h:b<W.heap.size):(grow W os).heap[b]?=W.heap[b]?:=by
 simp[grow,Array.getElem?_append,h]
theorem z9o (w:World)(n g:Nat)(d:Array (List UInt8))(os:Array Obj):Kp (λb=>b=g) w (grow (putRow encStr (Sort.ahead w n) g 0 d) os):=by
 refine⟨rfl,rfl,rfl,by simp[grow,putRow,mapBlock,Sort.ahead],λb hb hne=>?_⟩
 rw[z4o os (by simpa [putRow,mapBlock,Sort.ahead] using hb),z0l hne];rfl
theorem z5o {ks:List ByteArray}{g cap:Nat}{cur:Array Value}{e:TypeId}(hg:w.heap[g]?=some (.cells cur e (0,0)))(_hcs:cur.size=cap)(_hn:ks.length≤cap)(ht:cur.toList.take ks.length=ks.map Value.string):Holds encStr w g 0 (ks.map (·.data.toList)).toArray:=by
 intro j hj
 simp at hj
 refine⟨?_,by simp[World.frozen?,hg]⟩
 rw[Nat.zero_add,zg hg,← Array.getElem?_toList]
 have h1:(cur.toList.take ks.length)[j]?=(ks.map Value.string)[j]?:=by rw[ht]
 rw[List.getElem?_take,if_pos hj,List.getElem?_map,List.getElem?_eq_getElem hj]at h1
 rw[h1]
 simp[encStr,hj]
theorem zhp {ks ks':List ByteArray}{g cap:Nat}{cur:Array Value}{W:World}(hg:W.heap[g]?=some (.cells cur 9 (0,0)))(hb:base≤g)(hcs:cur.size=cap)(hm:cap≤maxLen)(hn:ks.length≤cap)(hl:ks'.length≤ks.length)
  {ds:List (List UInt8)} (hd:ds.length=ks.length) (hks:ds.take ks'.length=ks'.map (·.data.toList)) (hlt:g<W.heap.size) (os:Array Obj) :
  (grow (putRow encStr W g 0 ds.toArray) os).ownsRow base 9 1 (.slice (some ⟨g,0,none⟩) ks'.length cap) ks'.length (ks'.map Value.string):=by
 refine⟨by simp,Or.inr ⟨g,cap,putCells encStr 0 ds.toArray cur,rfl,hb,?_,by omega,hm,by simp[putCells,hcs],?_⟩⟩
 ·rw[z4o os (by simpa [putRow,mapBlock] using hlt),zys hg]
 ·have h1:=z4p cur ds ks.length hd (by omega)
  have h2:(putCells encStr 0 ds.toArray cur).toList.take ks'.length=(ds.map encStr).take ks'.length:=by
   rw[← h1,List.take_take,Nat.min_eq_left hl]
  rw[Nat.mul_one,h2,← List.map_take,hks,List.map_map]
  apply List.map_congr_left
  intro a _
  simp[encStr]
theorem z0m {ks:List ByteArray}(h:w.ownsRow base 9 1 v ks.length (ks.map Value.string))(hl:ks.length<1000000) :
  Calls Tryz.prog 133 #[v] w λe w'=>e = .returned (.tuple #[])∧∃ks':List ByteArray,ks'.Perm ks∧ks'.Pairwise (λa b=>a.data.toList≤b.data.toList)∧w'.ownsRow base 9 1 v ks'.length (ks'.map Value.string)∧Kp (λb=>v.ownBlock=some b) w w':=by
 rcases h.2 with ⟨rfl,h0⟩|⟨g,cap,cur,rfl,hb,hg,hn,hm,hcs,ht⟩
 ·refine (Tryz.slices_Sort_string_none none 0 w).mono ?_
  rintro e w' ⟨rfl,rfl⟩
  exact⟨rfl,ks,List.Perm.refl _,by rw[List.eq_nil_of_length_eq_zero h0];exact List.Pairwise.nil,h,Kp.refl _ _⟩
 ·rw[Nat.mul_one]at ht hcs
  have hH:=z5o (w:=w) (ks:=ks) hg hcs hn ht
  have hc:=Tryz.slices_Sort_string g 0 cap (ks.map (·.data.toList)) w hH (zh hg) (by simpa using (by omega:ks.length<4611686018427387904))
  rw[List.length_map]at hc
  refine hc.mono ?_
  rintro e w' ⟨rfl,n,os,rfl⟩
  have hp:((ks.map (·.data.toList)).mergeSort λx y=>decide (x≤y)).Perm (ks.map (·.data.toList)):=List.mergeSort_perm _ _
  have hlen:((ks.map (·.data.toList)).mergeSort λx y=>decide (x≤y)).length=ks.length:=by rw[hp.length_eq];simp
  refine⟨rfl,((ks.map (·.data.toList)).mergeSort λx y=>decide (x≤y)).map ofL,?_,?_,?_,?_⟩
  ·have:=hp.map ofL
   rw[List.map_map]at this
   simpa [Function.comp_def,zwi] using this
  ·rw[List.pairwise_map]
   have hs:=List.pairwise_mergeSort (le:=λx y:List UInt8=>decide (x≤y)) (λa b c h1 h2=>by simp at h1 h2 ⊢;exact List.le_trans h1 h2) (λa b=>by simp;exact List.le_total a b) (ks.map (·.data.toList))
   exact hs.imp (λh=>by rw[zwe,zwe];simpa using h)
  ·have:=zhp (W:=Sort.ahead w n) (ks:=ks) (ks':=((ks.map (·.data.toList)).mergeSort λx y=>decide (x≤y)).map ofL) (ds:=(ks.map (·.data.toList)).mergeSort λx y=>decide (x≤y)) (base:=base) hg hb hcs hm hn (by simp) hlen (by rw[List.length_map,List.take_of_length_le (by simp),List.map_map];simp[Function.comp_def,zwe]) (zh hg) os
   simpa using this
  ·exact (z9o w n g _ os).mono (λb _ hb=>by simp[Value.ownBlock,hb])
end
theorem znw {g:ByteArray→Option (ByteArray × Bool)}{k:ByteArray}{v:Value}(h:z3b (λk=>(g k).map z4b) (.string k)=some v):∃x y,g k=some (x,y)∧v = .agg #[.string x,.bool y]:=by
 rw[zcc]at h
 cases e:g k with
 |none=>rw[e]at h;cases h
 |some q=>rw[e]at h;cases h;exact⟨q.1,q.2,rfl,rfl⟩
end
section
open Go.RowKit Go.Maps Go.Sort Go.Lib
theorem zfw (d:Array (List UInt8))(hs:∀i j,i≤j→j<d.size→d[i]!≤d[j]!):∀m,m≤d.size→(compactUpTo d m).Pairwise (·<·)∧∀x,x∈compactUpTo d m↔∃j,j<m∧d[j]! = x:=by
 intro m
 induction m with
 |zero=>intro _;exact⟨by simp[compactUpTo],λx=>by simp[compactUpTo]⟩
 |succ m ih=>
  intro hm
  obtain⟨h1,h2⟩:=ih (by omega)
  rw[compactUpTo_succ]
  by_cases hk:keeps d m=true
  ·rw[if_pos hk]
   constructor
   ·rw[List.pairwise_append]
    refine⟨h1,by simp,λx hx y hy=>?_⟩
    simp at hy;subst hy
    obtain⟨j,hj,rfl⟩:=(h2 x).1 hx
    have hle:=hs j m (by omega) (by omega)
    rcases List.le_iff_lt_or_eq.1 hle with h|h
    ·exact h
    ·exfalso
     have h3:=hs j (m-1) (by omega) (by omega)
     have h4:=hs (m-1) m (by omega) (by omega)
     have h5:d[m-1]! = d[m]!:=List.le_antisymm h4 (h ▸ h3)
     have:keeps d m=false:=keeps_neg (by omega) h5.symm
     rw[this]at hk;cases hk
   ·intro x
    rw[List.mem_append,h2,List.mem_singleton]
    constructor
    ·rintro (⟨j,hj,rfl⟩|rfl)
     ·exact⟨j,by omega,rfl⟩
     ·exact⟨m,by omega,rfl⟩
    ·rintro⟨j,hj,rfl⟩
     by_cases e:j=m
     ·subst e;exact Or.inr rfl
     ·exact Or.inl ⟨j,by omega,rfl⟩
  ·rw[if_neg hk,List.append_nil]
   refine⟨h1,λx=>?_⟩
   rw[h2]
   constructor
   ·rintro⟨j,hj,rfl⟩;exact⟨j,by omega,rfl⟩
   ·rintro⟨j,hj,rfl⟩
    by_cases e:j=m
    ·subst e
     have hne:¬(d[j]!≠d[j-1]!):=λh=>hk (keeps_pos h)
     have hj0:0<j:=by
      rcases Nat.eq_zero_or_pos j with h|h
      ·subst h;exact absurd (keeps_lt_one d 0 (by omega)) hk
      ·exact h
     exact⟨j-1,by omega,(Classical.not_not.1 hne).symm⟩
    ·exact⟨j,by omega,rfl⟩
theorem zuh (ks:List ByteArray)(j:Nat)(h:j<ks.length):(ks.map (·.data.toList)).toArray[j]! = (ks[j]).data.toList:=by
 rw[getElem!_pos _ j (by simpa using h)];simp
section
variable {w:World}{base:Nat}{v:Value}
theorem zqs {ks:List ByteArray}(h:w.ownsRow base 9 1 v ks.length (ks.map Value.string))(hl:ks.length<1000000)(hs:ks.Pairwise (λa b=>a.data.toList≤b.data.toList)) :
  Calls Tryz.prog 200 #[v] w λe w'=>∃v',e = .returned v'∧∃ks':List ByteArray,(∀k,k∈ks'↔k∈ks)∧ks'.Pairwise blt∧ks'.length≤ks.length∧w'.ownsRow base 9 1 v' ks'.length (ks'.map Value.string)∧v'.ownBlock=v.ownBlock∧Kp (λb=>v.ownBlock=some b) w w':=by
 rcases h.2 with ⟨rfl,h0⟩|⟨g,cap,cur,rfl,hb,hg,hn,hm,hcs,ht⟩
 ·refine (Tryz.slices_Compact_string_empty none 0 w).mono ?_
  rintro e w' ⟨rfl,rfl⟩
  have hk:=List.eq_nil_of_length_eq_zero h0
  subst hk
  exact⟨_,rfl,[],λk=>Iff.rfl,List.Pairwise.nil,Nat.le_refl _,h,rfl,Kp.refl _ _⟩
 ·rw[Nat.mul_one]at ht hcs
  have hH:=z5o (w:=w) (ks:=ks) hg hcs hn ht
  have hc:=Tryz.slices_Compact_string g 0 cap (ks.map (·.data.toList)) w hH (by simpa using (by omega:ks.length≤9223372036854775807)) (by simpa using hn)
  rw[List.length_map]at hc
  refine hc.mono ?_
  rintro e w' ⟨rfl,q,rfl⟩
  obtain⟨p1,p2⟩:=zfw (ks.map (·.data.toList)).toArray (λi j hij hj=>by
   simp at hj
   rw[zuh ks i (by omega),zuh ks j hj]
   by_cases e:i=j
   ·subst e;exact List.le_refl _
   ·exact (List.pairwise_iff_getElem.1 hs) i j (by omega) hj (by omega)) ks.length (by simp)
  have hcomp:Lib.compact (ks.map (·.data.toList))=compactUpTo (ks.map (·.data.toList)).toArray ks.length:=by simp[Lib.compact]
  have hlen:(Lib.compact (ks.map (·.data.toList))).length≤ks.length:=by
   rw[hcomp]
   have:(compactUpTo (ks.map (·.data.toList)).toArray ks.length).length≤(List.range ks.length).length:=by
    unfold compactUpTo;rw[List.length_map];exact List.length_filter_le _ _
   simpa using this
  refine⟨_,rfl,(Lib.compact (ks.map (·.data.toList))).map ofL,λk=>?_,?_,by simpa using hlen,?_,rfl,?_⟩
  ·rw[List.mem_map]
   constructor
   ·rintro⟨x,hx,rfl⟩
    rw[hcomp,p2]at hx
    obtain⟨j,hj,rfl⟩:=hx
    rw[zuh ks j hj,zwi];exact List.getElem_mem _
   ·intro hk
    obtain⟨j,hj,rfl⟩:=List.getElem_of_mem hk
    exact⟨(ks[j]).data.toList,by rw[hcomp,p2];exact⟨j,hj,zuh ks j hj⟩,zwi _⟩
  ·rw[List.pairwise_map,hcomp]
   exact p1.imp (λh=>by unfold blt;rw[zwe,zwe];exact h)
  ·have:=zhp (W:=Sort.ahead w q) (ks:=ks) (ks':=(Lib.compact (ks.map (·.data.toList))).map ofL) (ds:=Lib.compact (ks.map (·.data.toList))++List.replicate (ks.length-(Lib.compact (ks.map (·.data.toList))).length) []) (base:=base) hg hb hcs hm hn (by simpa using hlen) (by simp;omega)
    (by rw[List.length_map,List.take_left,List.map_map];simp[Function.comp_def,zwe]) (zh hg) #[]
   have e0:∀W:World,grow W #[]=W:=λW=>by simp[grow]
   rw[e0]at this
   simpa using this
  ·have:=z9o w q g (Lib.compact (ks.map (λk:ByteArray=>k.data.toList))++List.replicate (ks.length-(Lib.compact (ks.map (λk:ByteArray=>k.data.toList))).length) []).toArray #[]
   have e0:∀W:World,grow W #[]=W:=λW=>by simp[grow]
   rw[e0]at this
   exact this.mono (λb _ hb=>by simp[Value.ownBlock,hb])
end
end
section
open Go.RowKit Go.Maps Go.Sort
def leB (a b:ByteArray):Bool:=Op.bytesLess a.toList b.toList || a.toList == b.toList
def ltB (a b:ByteArray):Bool:=Op.bytesLess a.toList b.toList
def inR (f t k:ByteArray):Bool:=leB f k && ltB k t
theorem zrl:(Tryz.prog.info? 9).map (λi=>(i.zero,i.size,i.bytes))=some (some (.string ⟨#[]⟩),1,16):=by kernel_rfl
theorem zxq {mom:ByteArray→List Int}{sl:ByteArray→Value}{key v:Value}(h:z3b (λk=>if mom k=[] then none else some (sl k)) key=some v):∃(k:ByteArray) (x:Value),key = .string k∧v=(λv:Value=>v) x:=by
 cases key<;>simp[z3b]at h
 exact⟨_,v,rfl,rfl⟩
theorem zuk {ks:List ByteArray}(h:ks.Pairwise (λa b=>a.data.toList≤b.data.toList))(hn:ks.Nodup):ks.Pairwise blt:=by
 refine (h.and hn).imp ?_
 intro a b hab
 rcases List.le_iff_lt_or_eq.1 hab.1 with h1|h1
 ·exact h1
 ·exact absurd (WideShapes.bytes_inj h1) hab.2
section
variable {own own':Nat→Lab}{c:Nat}{w w':World}{p:Nat}{s:XS}{mo ph mv mm:Nat}{pt mw:Int→Nat}{sl:ByteArray→Value}
variable {R:Ending→World→Prop}
set_option maxRecDepth 20000 in
set_option maxHeartbeats 1000000 in
theorem zjy (h:XR own c w p s mo ph mv mm pt mw sl)(f t:ByteArray)(hnm:s.nm<100000)
  (hR:∀w' v (ks:List ByteArray),Kp (λ_=>False) w w'→w'.ownsRow (w.heap.size+1) 9 1 v ks.length (ks.map Value.string)→(∀k,k∈ks↔s.mom k≠[]∧inR f t k=true)→ks.length≤s.nm→ks.Pairwise blt→R (.returned v) w') :
  Calls Tryz.prog 90 #[.pointer (some ⟨ph,0,none⟩),.string f,.string t] w R:=by
 have c1:w.cell? ⟨ph,1,none⟩=some (.map (some mm)):=zg h.hist 1
 have hmoms:=h.moms
 have HR:Hid _:=hR
 have HN:Hid _:=hnm
 clear hR h hnm
 obtain⟨i0,hi,hz0,hz1,hz2⟩:=info_parts zrl
 go_enter Tryz.func90,Tryz.ntmps90
 go_wp2_with (first
  |(at_range;refine z7g _ rfl _ 207 rfl 9 26 zdd Tryz.underlying207 mm s.nm _ rfl hmoms ?_;intro w0 hrg0 hg0 hs0)
  |go_in)
 go_frame
 go_loopw [7,8] (λv7 _ wr=>∃(left:Value→Bool) (cnt:Nat) (ks:List ByteArray),z0d wr Tryz.prog 9 mm w.heap.size s.nm (z3b λk=>if s.mom k=[] then none else some (sl k)) left cnt∧Kp (λ_=>False) w wr∧wr.ownsRow (w.heap.size+1) 9 1 v7 ks.length (ks.map Value.string)∧
   (∀k,k∈ks↔s.mom k≠[]∧left (.string k)=false∧inR f t k=true)∧ks.length+cnt≤s.nm∧w.heap.size+1≤wr.heap.size∧ks.Nodup)
  (λ_ _ wr=>wr.rangeLeft mm w.heap.size)
 case atStart=>
  refine⟨_,_,[],hrg0,Kp.of_grown hg0 (λ_ h=>by cases h),World.ownsRow_nil _ _ _ _,λk=>?_,by simp,by omega,List.nodup_nil⟩
  constructor
  ·intro h;cases h
  ·rintro⟨h1,h2,_⟩
   rw[zcc,if_neg h1]at h2;cases h2
 case round=>
  obtain⟨left,cnt,ks,hrg,hkp,hrow,hmem,hcnt,hsz,hnd⟩:=hrel
  have HM:Hid _:=hmem
  have HC:Hid _:=hcnt
  have HZ:Hid _:=hsz
  have HND:Hid _:=hnd
  clear hmem hcnt hsz hnd
  go_wp2_with (first
   |(at_next;refine zrh _ rfl _ rfl 9 zdd Value.string (λv:Value=>v) mm w.heap.size s.nm _ left cnt (λkey v hv=>?inv) rfl hrg ?_ ?_)
   |go_in)
  case inv=>exact zxq hv
  ·intro _ hl0
   go_wp2_with (first
    |(go_at_call 133;refine (z0m hrow (by have:=HC.out;have:=HN.out;omega)).mono ?_;rintro e w4 ⟨rfl,ks',hperm,hso,hrow',hk4⟩)
    |go_in)
   refine HR.out w4 _ ks' (hkp.trans hk4 (λb hb hb'=>absurd ((hrow.lt b hb').1) (by omega))) hrow' (λk=>?_) (by rw[hperm.length_eq];have:=HC.out;omega) (zuk hso (hperm.nodup_iff.2 HND.out))
   rw[hperm.mem_iff,HM.out k]
   exact⟨λ⟨h1,_,h3⟩=>⟨h1,h3⟩,λ⟨h1,h3⟩=>⟨h1,hl0 _,h3⟩⟩
  ·intro k v w1 cnt1 hlk hfk left' hrg1 hl1 hl2 hlt hg1 hs1 hen
   have hmk:s.mom k≠[]:=λe=>by rw[zcc,if_pos e]at hfk;cases hfk
   clear hfk
   have hkp1:Kp (λ_=>False) w w1:=hkp.trans (Kp.of_grown (S:=λb=>b=w.heap.size) hg1 (λb hb=>by cases hb;rfl)) (λb hb e=>by omega)
   have hrow1:=zi hrow (Kp.of_grown (S:=λb=>b=w.heap.size) hg1 (λb hb=>by cases hb;rfl)) (λb hb e=>by have:=(hrow.lt b hb).1;omega)
   have HX:Hid (∀k',left' (.string k')=false↔(k'=k∨left (.string k')=false)):=λk'=>by
    by_cases e:k'=k
    ·subst e;simp[hl1]
    ·rw[hl2 _ (λh=>e (by injection h))];simp[e]
   have HLK:Hid (left (.string k)=true):=hlk
   have hs1':w.heap.size+1≤w1.heap.size:=by rw[hs1];exact HZ.out
   have HZ1:Hid _:=hs1'
   have HMK:Hid _:=hmk
   clear hlk hl1 hl2 hmk hs1' hg1 hs1
   go_wp2_with (first
    |(at_builtin;refine wpList_append_own_at _ rfl _ _ 142 rfl (w.heap.size+1) 9 i0 (.string ⟨#[]⟩) 1 16 Tryz.underlying142 hi hz0 hz1 hz2 rfl (by decide) _ _ _ rfl (hrow1.alloc _) ⟨w1.heap.size,0,none⟩ 1 1 [.string k] rfl rfl (cell_one_new _ _ _) (by simp[Value.oneCell']) (by have:=HC.out;have:=HN.out;unfold maxLen;omega) (by have:=HC.out;have:=HN.out;omega) (by have:=HZ1.out;simp;omega) ?_;intro v' w2 hown' hgrow hnil hloc)
    |go_in)
   ·have hin:inR f t k=true:=by
     rename_i q1 q2
     simp[inR,leB,ltB];simp at q2;exact q2
    have hlt1:∀b,Value.ownBlock u7=some b→w.heap.size+1≤b:=λb hb=>(hrow1.lt b hb).1
    have K12:Kp (λb=>Value.ownBlock u7=some b) w1 w2:=(Kp.alloc (λb=>Value.ownBlock u7=some b) w1 _).trans (Kp.of_grown (S:=λb=>Value.ownBlock u7=some b) hgrow (λ_ h=>h)) (λ_ _ h=>h)
    have hmm:=hmoms.lt
    have hr1:=HZ1.out
    have hrg2:z0d w2 Tryz.prog 9 mm w.heap.size s.nm (z3b λk=>if s.mom k=[] then none else some (sl k)) left' cnt1:=hrg1.of_block (K12.block mm hrg1.toMap.lt (λe=>by have:=hlt1 _ e;omega)) (K12.block _ (by omega) (λe=>by have:=hlt1 _ e;omega))
    go_roundw
    case rel=>
     refine⟨left',cnt1,ks++[k],hrg2,hkp1.trans K12 (λb hb e=>by have:=hlt1 _ e;omega),by simpa using hown',λk'=>?_,by have:=HC.out;simp;omega,Nat.le_trans HZ1.out K12.size,List.nodup_append.2 ⟨HND.out,by simp,λa ha b hb=>by simp at hb;subst hb;intro e;subst e;have:=((HM.out a).1 ha).2.1;rw[HLK.out]at this;cases this⟩⟩
     rw[List.mem_append,List.mem_singleton,HM.out k',HX.out k']
     constructor
     ·rintro (⟨h1,h2,h3⟩|rfl)
      ·exact⟨h1,Or.inr h2,h3⟩
      ·exact⟨HMK.out,Or.inl rfl,hin⟩
     ·rintro⟨h1,h2|h2,h3⟩
      ·exact Or.inr h2
      ·exact Or.inl ⟨h1,h2,h3⟩
    case measure=>rw[hrg2.left_eq,hrg.left_eq];exact hlt
   ·have hin:inR f t k=false:=by
     rename_i q1 q2
     simp only[inR,leB,ltB,Bool.and_eq_false_iff,Bool.or_eq_false_iff];exact q2
    go_roundw
    case rel=>
     refine⟨left',cnt1,ks,hrg1,hkp1,hrow1,λk'=>?_,by have:=HC.out;omega,HZ1.out,HND.out⟩
     rw[HM.out k',HX.out k']
     constructor
     ·rintro⟨h1,h2,h3⟩;exact⟨h1,Or.inr h2,h3⟩
     ·rintro⟨h1,h2|h2,h3⟩
      ·subst h2;rw[hin]at h3;cases h3
      ·exact⟨h1,h2,h3⟩
    case measure=>rw[hrg1.left_eq,hrg.left_eq];exact hlt
   ·have hin:inR f t k=false:=by
     rename_i q1
     have:leB f k=false:=by simp only[leB,Bool.or_eq_false_iff];simpa [not_or] using q1
     simp[inR,this]
    go_roundw
    case rel=>
     refine⟨left',cnt1,ks,hrg1,hkp1,hrow1,λk'=>?_,by have:=HC.out;omega,HZ1.out,HND.out⟩
     rw[HM.out k',HX.out k']
     constructor
     ·rintro⟨h1,h2,h3⟩;exact⟨h1,Or.inr h2,h3⟩
     ·rintro⟨h1,h2|h2,h3⟩
      ·subst h2;rw[hin]at h3;cases h3
      ·exact⟨h1,h2,h3⟩
    case measure=>rw[hrg1.left_eq,hrg.left_eq];exact hlt
end
end
section
open Go.RowKit Go.Maps Go.Sort
section
variable {own own':Nat→Lab}{c:Nat}{w w':World}{p:Nat}{s:XS}{mo ph mv mm:Nat}{pt mw:Int→Nat}{sl:ByteArray→Value}
variable {R:Ending→World→Prop}
set_option maxRecDepth 20000 in
set_option maxHeartbeats 1000000 in
theorem zas (h:XR own c w p s mo ph mv mm pt mw sl)(tx:Int)(x:XT)(e:s.txs tx=some x)(f t:ByteArray)(hnm:s.nm<100000)(hnw:x.nw≤10)
  (hR:∀w' v (ks:List ByteArray),Kp (λ_=>False) w w'→w'.ownsRow (w.heap.size+1) 9 1 v ks.length (ks.map Value.string)→ks.Pairwise blt→(∀k,k∈ks↔(s.mom k≠[]∨(x.wr k).isSome=true)∧inR f t k=true)→ks.length≤s.nm+10→R (.returned v) w') :
  Calls Tryz.prog 158 #[.pointer (some ⟨p,0,none⟩),.pointer (some ⟨pt tx,0,none⟩),.string f,.string t] w R:=by
 have d3:w.cell? ⟨p,0,none⟩=some (.pointer (some ⟨ph,0,none⟩)):=zg h.store 0
 have H:Hid (XR own c w p s mo ph mv mm pt mw sl):=h
 have HR:Hid _:=hR
 have HN:Hid (s.nm<100000∧x.nw≤10):=⟨hnm,hnw⟩
 have hmwlt:=(h.wr tx x e).lt
 clear hR h hnm hnw
 obtain⟨i0,hi,hz0,hz1,hz2⟩:=info_parts zrl
 go_enter Tryz.func158,Tryz.ntmps158
 go_wp2_with (first
  |(go_at_call 90;refine zjy H.out f t HN.out.1 (λw1 v1 ks1 hk1 hrow0 hmem0 hlen0 _=>?_);have H1:Hid (XR own c w1 p s mo ph mv mm pt mw sl):=H.out.kept hk1;have d1:w1.cell? ⟨pt tx,1,none⟩=some (.map (some (mw tx))):=zg (H1.out.tx tx x e) 1;have hw:=H1.out.wr tx x e)
  |(at_range;refine z7g _ rfl _ 130 rfl 9 138 zdd Tryz.underlying130 (mw tx) x.nw _ rfl hw ?_;intro w2 hrg0 hg0 hs0)
  |go_in)
 go_frame
 have HM0:Hid _:=hmem0
 have HL0:Hid _:=hlen0
 have hsz1:=hk1.size
 clear hmem0 hlen0
 go_loopw [9,10] (λv9 _ wr=>∃(left:Value→Bool) (cnt:Nat) (ks:List ByteArray),z0d wr Tryz.prog 9 (mw tx) w1.heap.size x.nw (z3b λk=>(x.wr k).map z4b) left cnt∧Kp (λ_=>False) w wr∧wr.ownsRow (w.heap.size+1) 9 1 v9 ks.length (ks.map Value.string)∧Value.ownBlock v9≠some w1.heap.size∧
   (∀k,k∈ks↔(s.mom k≠[]∨((x.wr k).isSome=true∧left (.string k)=false))∧inR f t k=true)∧ks.length+cnt≤s.nm+x.nw∧w1.heap.size+1≤wr.heap.size)
  (λ_ _ wr=>wr.rangeLeft (mw tx) w1.heap.size)
 case atStart=>
  refine⟨_,_,ks1,hrg0,hk1.trans (Kp.of_grown (S:=λ_=>False) hg0 (λ_ h=>by cases h)) (λ_ _ h=>h),hrow0.kept hg0 (by cases hv:v1.ownBlock<;>simp),λhb=>?_,λk=>?_,by have:=HL0.out;omega,by omega⟩
  ·have:=(hrow0.lt _ hb).2;omega
  ·rw[HM0.out k,zcc,Option.isSome_map]
   constructor
   ·rintro⟨h1,h2⟩;exact⟨Or.inl h1,h2⟩
   ·rintro⟨h1|⟨h1,h3⟩,h2⟩
    ·exact⟨h1,h2⟩
    ·rw[h1]at h3;cases h3
 case round=>
  obtain⟨left,cnt,ks,hrg,hkp,hrow,hnr,hmem,hcnt,hsz⟩:=hrel
  have HM:Hid _:=hmem
  have HC:Hid _:=hcnt
  have HZ:Hid _:=hsz
  have HNR:Hid _:=hnr
  clear hmem hcnt hsz hnr
  go_wp2_with (first
   |(at_next;refine zrh _ rfl _ rfl 9 zdd Value.string (λv:Value=>v) (mw tx) w1.heap.size x.nw _ left cnt (λkey v hv=>?inv) rfl hrg ?_ ?_)
   |go_in)
  case inv=>exact zzq hv
  ·intro _ hl0
   go_wp2_with (first
    |(go_at_call 133;refine (z0m hrow (by have:=HC.out;have:=HN.out;omega)).mono ?_;rintro e w4 ⟨rfl,ks',hperm,hsort,hrow',hk4⟩)
    |(go_at_call 200;refine (zqs hrow' (by rw[hperm.length_eq];have:=HC.out;have:=HN.out;omega) hsort).mono ?_;rintro e w5 ⟨v5,rfl,ks5,hm5,hs5,hl5,hrow5,hb5,hk5⟩)
    |go_in)
   refine HR.out w5 v5 ks5 ((hkp.trans hk4 (λb hb hb'=>absurd ((hrow.lt b hb').1) (by omega))).trans hk5 (λb hb hb'=>absurd ((hrow.lt b hb').1) (by omega))) hrow5 hs5 (λk=>?_) (by rw[hperm.length_eq]at hl5;have:=HC.out;have:=HN.out;omega)
   rw[hm5,hperm.mem_iff,HM.out k]
   constructor
   ·rintro⟨h1|⟨h1,_⟩,h2⟩
    ·exact⟨Or.inl h1,h2⟩
    ·exact⟨Or.inr h1,h2⟩
   ·rintro⟨h1|h1,h2⟩
    ·exact⟨Or.inl h1,h2⟩
    ·exact⟨Or.inr ⟨h1,hl0 _⟩,h2⟩
  ·intro k v w3 cnt1 hlk hfk left' hrg1 hl1 hl2 hlt hg1 hs1 hen
   have hmk:(x.wr k).isSome=true:=by
    obtain⟨a,b,hab,_⟩:=znw hfk
    rw[hab];rfl
   clear hfk
   have hkp1:Kp (λ_=>False) w w3:=hkp.trans (Kp.of_grown (S:=λb=>b=w1.heap.size) hg1 (λb hb=>by cases hb;rfl)) (λb hb e=>by omega)
   have hrow1:=zi hrow (Kp.of_grown (S:=λb=>b=w1.heap.size) hg1 (λb hb=>by cases hb;rfl)) (λb hb e=>HNR.out (by rw[hb,e]))
   have HX:Hid (∀k',left' (.string k')=false↔(k'=k∨left (.string k')=false)):=λk'=>by
    by_cases e:k'=k
    ·subst e;simp[hl1]
    ·rw[hl2 _ (λh=>e (by injection h))];simp[e]
   have hs1':w1.heap.size+1≤w3.heap.size:=by rw[hs1];exact HZ.out
   have HZ1:Hid _:=hs1'
   have HMK:Hid _:=hmk
   clear hlk hl1 hl2 hmk hs1' hg1 hs1
   go_wp2_with (first
    |(at_builtin;refine wpList_append_own_at _ rfl _ _ 142 rfl (w.heap.size+1) 9 i0 (.string ⟨#[]⟩) 1 16 Tryz.underlying142 hi hz0 hz1 hz2 rfl (by decide) _ _ _ rfl (hrow1.alloc _) ⟨w3.heap.size,0,none⟩ 1 1 [.string k] rfl rfl (cell_one_new _ _ _) (by simp[Value.oneCell']) (by have:=HC.out;have:=HN.out;unfold maxLen;omega) (by have:=HC.out;have:=HN.out;omega) (by have:=HZ1.out;simp;omega) ?_;intro v' w4 hown' hgrow hnil hloc)
    |go_in)
   ·have hin:inR f t k=true:=by
     rename_i q1 q2
     simp[inR,leB,ltB];simp at q2;exact q2
    have hlt1:∀b,Value.ownBlock u9=some b→w.heap.size+1≤b:=λb hb=>(hrow1.lt b hb).1
    have K12:Kp (λb=>Value.ownBlock u9=some b) w3 w4:=(Kp.alloc (λb=>Value.ownBlock u9=some b) w3 _).trans (Kp.of_grown (S:=λb=>Value.ownBlock u9=some b) hgrow (λ_ h=>h)) (λ_ _ h=>h)
    have hr1:=HZ1.out
    have hrg2:z0d w4 Tryz.prog 9 (mw tx) w1.heap.size x.nw (z3b λk=>(x.wr k).map z4b) left' cnt1:=hrg1.of_block (K12.block _ hrg1.toMap.lt (λe=>by have:=hlt1 _ e;omega)) (K12.block _ (by omega) HNR.out)
    go_roundw
    case rel=>
     refine⟨left',cnt1,ks++[k],hrg2,hkp1.trans K12 (λb hb e=>by have:=hlt1 _ e;omega),by simpa using hown',λhb=>?_,λk'=>?_,by have:=HC.out;simp;omega,Nat.le_trans HZ1.out K12.size⟩
     ·rcases hloc with hl|hl
      ·exact HNR.out (hl ▸ hb)
      ·rw[hb]at hl;simp at hl;omega
     ·rw[List.mem_append,List.mem_singleton,HM.out k',HX.out k']
      constructor
      ·rintro (⟨h1|⟨h1,h2⟩,h3⟩|rfl)
       ·exact⟨Or.inl h1,h3⟩
       ·exact⟨Or.inr ⟨h1,Or.inr h2⟩,h3⟩
       ·exact⟨Or.inr ⟨HMK.out,Or.inl rfl⟩,hin⟩
      ·rintro⟨h1|⟨h1,h2|h2⟩,h3⟩
       ·exact Or.inl ⟨Or.inl h1,h3⟩
       ·exact Or.inr h2
       ·exact Or.inl ⟨Or.inr ⟨h1,h2⟩,h3⟩
    case measure=>rw[hrg2.left_eq,hrg.left_eq];exact hlt
   ·have hin:inR f t k=false:=by
     rename_i q1 q2
     simp only[inR,leB,ltB,Bool.and_eq_false_iff,Bool.or_eq_false_iff];exact q2
    go_roundw
    case rel=>
     refine⟨left',cnt1,ks,hrg1,hkp1,hrow1,HNR.out,λk'=>?_,by have:=HC.out;omega,HZ1.out⟩
     rw[HM.out k',HX.out k']
     constructor
     ·rintro⟨h1|⟨h1,h2⟩,h3⟩
      ·exact⟨Or.inl h1,h3⟩
      ·exact⟨Or.inr ⟨h1,Or.inr h2⟩,h3⟩
     ·rintro⟨h1|⟨h1,h2|h2⟩,h3⟩
      ·exact⟨Or.inl h1,h3⟩
      ·subst h2;rw[hin]at h3;cases h3
      ·exact⟨Or.inr ⟨h1,h2⟩,h3⟩
    case measure=>rw[hrg1.left_eq,hrg.left_eq];exact hlt
   ·have hin:inR f t k=false:=by
     rename_i q1
     have:leB f k=false:=by simp only[leB,Bool.or_eq_false_iff];simpa [not_or] using q1
     simp[inR,this]
    go_roundw
    case rel=>
     refine⟨left',cnt1,ks,hrg1,hkp1,hrow1,HNR.out,λk'=>?_,by have:=HC.out;omega,HZ1.out⟩
     rw[HM.out k',HX.out k']
     constructor
     ·rintro⟨h1|⟨h1,h2⟩,h3⟩
      ·exact⟨Or.inl h1,h3⟩
      ·exact⟨Or.inr ⟨h1,Or.inr h2⟩,h3⟩
     ·rintro⟨h1|⟨h1,h2|h2⟩,h3⟩
      ·exact⟨Or.inl h1,h3⟩
      ·subst h2;rw[hin]at h3;cases h3
      ·exact⟨Or.inr ⟨h1,h2⟩,h3⟩
    case measure=>rw[hrg1.left_eq,hrg.left_eq];exact hlt
end
end
section
open Go.RowKit Go.Maps Go.Sort
theorem zvi:(Tryz.prog.info? 105).map (λi=>(i.zero,i.size,i.bytes))=some (some (.agg #[.string ⟨#[]⟩,.string ⟨#[]⟩]),2,32):=by kernel_rfl
def z9 (ps:List (ByteArray × ByteArray)):List Value:=ps.flatMap λq=>[.string q.1,.string q.2]
theorem zai (ps:List (ByteArray × ByteArray)):(z9 ps).length=ps.length*2:=by
 induction ps with
 |nil=>rfl
 |cons a r ih=>simp[z9]at ih ⊢;omega
theorem zth (ps:List (ByteArray × ByteArray))(a b:ByteArray):z9 ps++[.string a,.string b]=z9 (ps++[(a,b)]):=by simp[z9]
theorem zqh (w:World)(x y:Value)(t:TypeId):∀j u,[x,y][j]?=some u→(w.alloc (.cells #[x,y] t)).cell? ((⟨w.heap.size,0,none⟩:Addr).add j)=some u:=by
 intro j u hj
 match j,hj with
 |0,hj=>simp at hj;subst hj;simp[Addr.add]
 |1,hj=>simp at hj;subst hj;simp[Addr.add]
def zdb (g:ByteArray→ByteArray × Bool)(k:ByteArray):Option (ByteArray × ByteArray):=if (g k).2 then some (k,(g k).1) else none
section
variable {own own':Nat→Lab}{c:Nat}{w w':World}{p:Nat}{s:XS}{mo ph mv mm:Nat}{pt mw:Int→Nat}{sl:ByteArray→Value}
variable {R:Ending→World→Prop}
theorem zoh {base:Nat}{v:Value}{ks:List ByteArray}(h:w.ownsRow base 9 1 v ks.length (ks.map Value.string)):∃a cap,v = .slice a ks.length cap∧(ks≠[]→∃g,a=some ⟨g,0,none⟩∧base≤g∧g<w.heap.size∧∀j (hj:j<ks.length),w.cell? ⟨g,j,none⟩=some (.string ks[j])):=by
 rcases h.2 with ⟨rfl,h0⟩|⟨g,cap,cur,rfl,hb,hg,hn,_,hcs,ht⟩
 ·exact⟨none,0,by rw[h0],λhk=>absurd (List.eq_nil_of_length_eq_zero h0) hk⟩
 ·refine⟨_,cap,rfl,λ_=>⟨g,rfl,hb,zh hg,λj hj=>?_⟩⟩
  rw[zg hg,← Array.getElem?_toList]
  rw[Nat.mul_one]at ht
  have h1:(cur.toList.take ks.length)[j]?=(ks.map Value.string)[j]?:=by rw[ht]
  rw[List.getElem?_take,if_pos hj,List.getElem?_map,List.getElem?_eq_getElem hj]at h1
  simpa using h1
set_option maxRecDepth 20000 in
set_option maxHeartbeats 1000000 in
theorem zr3 (h:XR own c w p s mo ph mv mm pt mw sl)(tx:Int)(hwx:(Lit.int .i64 tx).wf=true)(f t:ByteArray)(hnm:s.nm<100000)(hnw:∀n x,s.txs n=some x→x.nw≤10)(hm:∀k,zxf s k)(hkey:∀k,s.mom k≠[]→k.size≤8)(hkw:∀n x,s.txs n=some x→∀k,(x.wr k).isSome=true→k.size≤8)
  (h0:s.txs tx=none→R (.returned (.tuple #[.slice none 0 0,.int .i64 2])) w)
  (h1:∀x,s.txs tx=some x→∀w' v (ks:List ByteArray),Kp (λ_=>False) w w'→ks.Pairwise blt→(∀k,k∈ks↔(s.mom k≠[]∨(x.wr k).isSome=true)∧inR f t k=true)→ks.length≤s.nm+10→
   w'.ownsRow w.heap.size 105 2 v (ks.filterMap (zdb (zuc s x))).length (z9 (ks.filterMap (zdb (zuc s x))))→R (.returned (.tuple #[v,.int .i64 0])) w') :
  Calls Tryz.prog 104 #[.pointer (some ⟨p,0,none⟩),.int .i64 tx,.string f,.string t] w R:=by
 have hkey1:Hid _:=keyOf_int_mk Tryz.underlying3 hwx
 have c2:w.cell? ⟨p,7,none⟩=some (.map (some mo)):=zg h.store 7
 have hopn:=h.opn
 have H:Hid (XR own c w p s mo ph mv mm pt mw sl):=h
 cases e:s.txs tx with
 |none=>
  have hf:(zpc λn=>(s.txs n).map λ_=>Value.pointer (some ⟨pt n,0,none⟩)) (.int .i64 tx)=none:=by rw[zrc,e];rfl
  have HR:=h0 e
  clear h h0 h1 hnm hm hnw hkey hkw
  go_enter Tryz.func104,Tryz.ntmps104
  go_wp2_with (first
   |(at_lookup;refine z8 _ rfl _ _ 99 rfl 3 129 zld Tryz.underlying99 (zdf _) mo s.nopen _ rfl hopn (.int .i64 tx) _ rfl hkey1.out _ hf ?_)
   |go_in)
  exact HR
 |some x=>
  have hf:(zpc λn=>(s.txs n).map λ_=>Value.pointer (some ⟨pt n,0,none⟩)) (.int .i64 tx)=some (.pointer (some ⟨pt tx,0,none⟩)):=by rw[zrc,e];rfl
  have HR:Hid _:=h1 x e
  have HN:Hid _:=hnm
  have HM:Hid _:=hm
  have HW:Hid (∀k,(s.mom k≠[]∨(x.wr k).isSome=true)→k.size≤8):=λk hk=>hk.elim (hkey k) (hkw tx x e k)
  have HNW:=hnw tx x e
  obtain⟨i0,hi,hz0,hz1,hz2⟩:=info_parts zvi
  clear h h0 h1 hnm hm hnw hkey hkw
  go_enter Tryz.func104,Tryz.ntmps104
  go_wp2_with (first
   |(at_lookup;refine z8 _ rfl _ _ 99 rfl 3 129 zld Tryz.underlying99 (zdf _) mo s.nopen _ rfl hopn (.int .i64 tx) _ rfl hkey1.out _ hf ?_)
   |(go_at_call 158;refine zas H.out tx x e f t HN.out HNW (λw1 v1 ks hk1 hrow hsort hmem hlen=>?_);have H1:Hid (XR own c w1 p s mo ph mv mm pt mw sl):=H.out.kept hk1;obtain⟨a1,cap1,rfl,hcell⟩:=zoh hrow;have HC:Hid _:=hcell;have HROW:Hid _:=hrow;have HSO:Hid _:=hsort;have HME:Hid _:=hmem;have HLE:Hid _:=hlen;clear hcell hrow hsort hmem hlen)
   |go_in)
  clear hf hopn c2
  have HS1:Hid (w.heap.size≤w1.heap.size):=hk1.size
  go_loopw [12,34] (λv12 v34 wr=>∃i:Nat,i≤ks.length∧v34 = .int .i64 i∧Kp (λ_=>False) w1 wr∧wr.ownsRow w1.heap.size 105 2 v12 ((ks.take i).filterMap (zdb (zuc s x))).length (z9 ((ks.take i).filterMap (zdb (zuc s x)))))
   (λ_ v34 _=>ks.length-(intOf v34).toNat)
  case atStart=>exact⟨0,Nat.zero_le _,rfl,Kp.refl _ _,World.ownsRow_nil _ _ _ _⟩
  case round=>
   obtain⟨i,hile,rfl,hkp,hown⟩:=hrel
   by_cases hlt:i<ks.length
   ·obtain⟨g,rfl,hg1,hg2,hcell⟩:=HC.out (λh=>by rw[h]at hlt;simp at hlt)
    have hck:wr.cell? ⟨g,i,none⟩=some (.string ks[i]):=(hkp.cell (a:=⟨g,i,none⟩) hg2 (λh=>h)).trans (hcell i hlt)
    have hki:ks[i]∈ks:=List.getElem_mem _
    have hkk:=(HME.out ks[i]).1 hki
    have htk:ks.take (i+1)=ks.take i++[ks[i]]:=List.take_succ_eq_append_getElem hlt
    have HT:Hid _:=htk
    have hlt':(i:Int)<ks.length:=by omega
    have hi1:(i:Int)≤1000000:=by have:=HLE.out;have:=HN.out;omega
    have hlenps:Hid (((ks.take i).filterMap (zdb (zuc s x))).length≤1000000):=by
     show _≤_
     have h1:=List.length_filterMap_le (zdb (zuc s x)) (ks.take i)
     have h2:(ks.take i).length≤i:=by simp[List.length_take];omega
     have:=HLE.out;have:=HN.out;omega
    have hxr:Hid (XR own c wr p s mo ph mv mm pt mw sl):=H1.out.kept hkp
    have HWK:Hid _:=HW.out _ hkk.1
    have HKP:Hid (Kp (λ_=>False) w1 wr):=hkp
    generalize hkeq:ks[i]=k at *
    clear hkk hki htk hkp hcell
    cases hs:(zuc s x k).2
    ·go_wp2_with (first
      |(go_at_call 155;refine z4n hxr.out tx x e k HWK.out (HM.out k) (λw2 hk2=>?_);have HK2:Hid (Kp (λ_=>False) wr w2):=hk2;clear hk2)
      |go_in)
     go_roundw
     case rel=>
      refine⟨i+1,by omega,by go_num,HKP.out.trans HK2.out (λ_ _ h=>h),?_⟩
      have hp0:(ks.take (i+1)).filterMap (zdb (zuc s x))=(ks.take i).filterMap (zdb (zuc s x)):=by rw[HT.out,List.filterMap_append];simp[zdb,hs]
      rw[hp0]
      exact zi hown HK2.out (λ_ _ h=>h)
     case measure=>simp[intOf];omega
    ·go_wp2_with (first
      |(go_at_call 155;refine z4n hxr.out tx x e k HWK.out (HM.out k) (λw2 hk2=>?_);have HK2:Hid (Kp (λ_=>False) wr w2):=hk2;have hown2:=zi hown hk2 (λ_ _ h=>h);clear hk2)
      |(at_builtin;refine wpList_append_own_at _ rfl _ _ 43 rfl w1.heap.size 105 i0 (.agg #[.string ⟨#[]⟩,.string ⟨#[]⟩]) 2 32 Tryz.underlying43 hi hz0 hz1 hz2 rfl (by decide) _ _ _ rfl (hown2.alloc _) ⟨w2.heap.size,0,none⟩ 1 1 [.string k,.string (zuc s x k).1] rfl rfl (zqh _ _ _ _) (by simp[Value.oneCell']) (by have:=hlenps.out;unfold maxLen;omega) (by have:=hlenps.out;omega) (by have:=HKP.out.size;have:=HK2.out.size;simp;omega) ?_;intro v' w3 hown' hgrow hnil hloc)
      |go_in)
     have hb1:∀b,Value.ownBlock u12=some b→w1.heap.size≤b:=λb hb=>(hown2.lt b hb).1
     go_roundw
     case rel=>
      refine⟨i+1,by omega,by go_num,((HKP.out.trans HK2.out (λ_ _ h=>h)).trans ((Kp.alloc (λb=>Value.ownBlock u12=some b) w2 _).trans (Kp.of_grown (S:=λb=>Value.ownBlock u12=some b) hgrow (λ_ h=>h)) (λ_ _ h=>h)) (λb hb h=>by have:=hb1 b h;omega)),?_⟩
      have hp0:(ks.take (i+1)).filterMap (zdb (zuc s x))=(ks.take i).filterMap (zdb (zuc s x))++[(k,(zuc s x k).1)]:=by rw[HT.out,List.filterMap_append];simp[zdb,hs]
      rw[hp0,List.length_append,← zth]
      exact hown'
     case measure=>simp[intOf];omega
   ·have hie:i=ks.length:=by omega
    subst hie
    rw[List.take_length]at hown
    go_wp2_with fail
    refine HR.out wr u12 ks (hk1.trans hkp (λ_ _ h=>h)) HSO.out HME.out HLE.out ⟨hown.1,hown.2.imp id (λ⟨g,cap,cur,e1,e2,e3⟩=>⟨g,cap,cur,e1,Nat.le_trans HS1.out e2,e3⟩)⟩
end
end
end Go.Proofs.YthbdpfccfcceiaaGreatDoor
