/-
  Of the proof of logsUpto_card.
-/
import Derived.Test.YthbdpfccfcceiaaGreatDoorW1x
import Derived.Test.YthbdpfccfcceiaaGreatDoorShelf
import Derived.DeepKeys4
import Derived.Deep.RegionLaw
import Derived.Maps.AppendAt
namespace Go.Proofs.YthbdpfccfcceiaaGreatDoor
section
open Go.RowKit Go.Maps
theorem zzk (s:ByteArray)(w:World)(_hs:s.size≤maxLen)(hlim:s.size≤281474976710656) :
  Calls Tryz.prog 70 #[.string s] w λe w'=>e = .returned (.string s)∧Below w.heap.size w w':=by
 go_enter Tryz.func70,Tryz.ntmps70
 go_wp2_with (go_at_call 124;refine (Tryz.stringslite_Clone _ _ hlim).mono ?_;rintro e w' ⟨rfl,hb⟩)
 go_ret
 exact⟨rfl,hb⟩
section
variable {R:Ending→World→Prop}
set_option maxHeartbeats 400000 in
theorem z3v (pt mw n:Nat)(f:Value→Option Value)(key val:ByteArray)(g:Bool)(w:World)(c1:w.cell? ⟨pt,1,none⟩=some (.map (some mw)))(hown:fmap w Tryz.prog 9 mw n f)
  (hlen:key.size≤maxLen) (hf:f (.string key)=none) (hn:(10:Int)≤n)
  (hR:∀w',Kp (λ_=>False) w w'→R (.returned (.int .i64 3)) w') :
  Calls Tryz.prog 69 #[.pointer (some ⟨pt,0,none⟩),.string key,.agg #[.string val,.bool g]] w R:=by
 have hkey:Hid _:=WideMaps.keyOf_string_mk Tryz.underlying9 hlen
 have hpt:pt<w.heap.size:=World.block_lt_of_cell? w _ c1
 clear hlen
 go_enter Tryz.func69,Tryz.ntmps69
 go_wp2_with (first
  |(at_lookup;refine z8 _ rfl _ _ 130 rfl 9 138 zdd Tryz.underlying130 (zil _) mw n f rfl (hown.alloc _) (.string key) _ rfl hkey.out _ hf ?_)
  |(at_len;refine zuf _ rfl _ 130 rfl 9 138 Tryz.underlying130 mw n f rfl ((hown.alloc _).alloc _) ?_)
  |go_in)
 exact (Kp.alloc _ _ _).trans (Kp.alloc _ _ _) (λ_ _ h=>h)
set_option maxHeartbeats 1000000 in
theorem znt (pt mw n:Nat)(f:Value→Option Value)(key val:ByteArray)(g:Bool)(w:World)(c1:w.cell? ⟨pt,1,none⟩=some (.map (some mw)))(hown:fmap w Tryz.prog 9 mw n f)
  (hlen:key.size≤8) (v0:ByteArray) (g0:Bool) (hf:f (.string key)=some (.agg #[.string v0,.bool g0])) (hn:(n:Int)≤10)
  {f':Value→Option Value} (hp:zhe f (.string key) (.agg #[.string val,.bool g]) f')
  (hR:∀w',Kp (λb=>b=mw) w w'→fmap w' Tryz.prog 9 mw n f'→R (.returned (.int .i64 0)) w') :
  Calls Tryz.prog 69 #[.pointer (some ⟨pt,0,none⟩),.string key,.agg #[.string val,.bool g]] w R:=by
 have hkey:Hid _:=WideMaps.keyOf_string_mk Tryz.underlying9 (show key.size≤maxLen by unfold maxLen;omega)
 have hpt:pt<w.heap.size:=World.block_lt_of_cell? w _ c1
 have HR:Hid _:=hR
 have HL:Hid _:=hlen
 have HP:Hid _:=hp
 clear hR hlen hp
 go_enter Tryz.func69,Tryz.ntmps69
 go_wp2_with (first
  |(at_lookup;refine z8 _ rfl _ _ 130 rfl 9 138 zdd Tryz.underlying130 (zil _) mw n f rfl (hown.alloc _) (.string key) _ rfl hkey.out _ hf ?_)
  |(at_len;refine zuf _ rfl _ 130 rfl 9 138 Tryz.underlying130 mw n f rfl ((hown.alloc _).alloc _) ?_)
  |go_in)
 have hkp:Hid (Kp (λb=>b=mw) w ((w.alloc (Obj.cells #[Value.string val,Value.bool g] 138)).alloc (Obj.cells #[Value.string v0,Value.bool g0] 138))):=(Kp.alloc _ _ _).trans (Kp.alloc _ _ _) (λ_ _ h=>h)
 have hown2:=(hown.alloc (Obj.cells #[Value.string val,Value.bool g] 138)).alloc (Obj.cells #[Value.string v0,Value.bool g0] 138)
 have c1':((w.alloc (Obj.cells #[Value.string val,Value.bool g] 138)).alloc (Obj.cells #[Value.string v0,Value.bool g0] 138)).cell? ⟨pt,1,none⟩=some (.map (some mw)):=by go_simp
 have d0:((w.alloc (Obj.cells #[Value.string val,Value.bool g] 138)).alloc (Obj.cells #[Value.string v0,Value.bool g0] 138)).cell? ⟨w.heap.size,0,none⟩=some (.string val):=by go_simp
 have d1:((w.alloc (Obj.cells #[Value.string val,Value.bool g] 138)).alloc (Obj.cells #[Value.string v0,Value.bool g0] 138)).cell? ⟨w.heap.size,1,none⟩=some (.bool g):=by go_simp
 generalize hW:(w.alloc (Obj.cells #[Value.string val,Value.bool g] 138)).alloc (Obj.cells #[Value.string v0,Value.bool g0] 138)=W at *
 clear hW
 go_region_with (go_at_call 70;refine (zzk _ _ (by have:=HL.out;unfold maxLen;omega) (by have:=HL.out;omega)).mono ?_;rintro e w1 ⟨rfl,hb1⟩;have k1:=(hb1.cell (p:=⟨pt,1,none⟩) (World.block_lt_of_cell? W _ c1')).trans c1';have k2:=(hb1.cell (p:=⟨w.heap.size,0,none⟩) (World.block_lt_of_cell? W _ d0)).trans d0;have k3:=(hb1.cell (p:=⟨w.heap.size,1,none⟩) (World.block_lt_of_cell? W _ d1)).trans d1;obtain⟨w2,hrun,hown3,hturn⟩:=(hown2.drew.of_block (hb1.block mw hown2.lt)).store zdd Tryz.underlying130 (by unfold maxLen;omega) hkey.out (.agg #[.string val,.bool g]) HP.out;clear hkey)
 all_goals
  rw[hf]at hown3
  replace HR:=HR.out w2 (((hkp.out.trans (Kp.drew (λb=>b=mw) W) (λ_ _ h=>h)).trans (Kp.of_below hb1 (λb=>b=mw)) (λ_ _ h=>h)).trans (Kp.of_turned (S:=λb=>b=mw) hturn rfl) (λ_ _ h=>h)) hown3
  clear hrun hown3 hturn hb1 k1 k2 k3 d0 d1 c1' hown2 hkp hpt hf hown c1
  go_wp2
  exact HR
set_option maxHeartbeats 1000000 in
set_option maxRecDepth 20000 in
theorem zdy (pt mw n:Nat)(f:Value→Option Value)(key val:ByteArray)(g:Bool)(w:World)(c1:w.cell? ⟨pt,1,none⟩=some (.map (some mw)))(hown:fmap w Tryz.prog 9 mw n f)
  (hlen:key.size≤8) (hf:f (.string key)=none) (hn:(n:Int)<10)
  {f':Value→Option Value} (hp:zhe f (.string key) (.agg #[.string val,.bool g]) f')
  (hR:∀w',Kp (λb=>b=mw) w w'→fmap w' Tryz.prog 9 mw (n+1) f'→R (.returned (.int .i64 0)) w') :
  Calls Tryz.prog 69 #[.pointer (some ⟨pt,0,none⟩),.string key,.agg #[.string val,.bool g]] w R:=by
 have hkey:Hid _:=WideMaps.keyOf_string_mk Tryz.underlying9 (show key.size≤maxLen by unfold maxLen;omega)
 have hpt:pt<w.heap.size:=World.block_lt_of_cell? w _ c1
 have HR:Hid _:=hR
 have HL:Hid _:=hlen
 have HP:Hid _:=hp
 clear hR hlen hp
 go_enter Tryz.func69,Tryz.ntmps69
 go_wp2_with (first
  |(at_lookup;refine z8 _ rfl _ _ 130 rfl 9 138 zdd Tryz.underlying130 (zil _) mw n f rfl (hown.alloc _) (.string key) _ rfl hkey.out _ hf ?_)
  |(at_len;refine zuf _ rfl _ 130 rfl 9 138 Tryz.underlying130 mw n f rfl ((hown.alloc _).alloc _) ?_)
  |go_in)
 have hkp:Hid (Kp (λb=>b=mw) w ((w.alloc (Obj.cells #[Value.string val,Value.bool g] 138)).alloc (Obj.cells #[Value.string ByteArray.empty,Value.bool false] 138))):=(Kp.alloc _ _ _).trans (Kp.alloc _ _ _) (λ_ _ h=>h)
 have hown2:=(hown.alloc (Obj.cells #[Value.string val,Value.bool g] 138)).alloc (Obj.cells #[Value.string ByteArray.empty,Value.bool false] 138)
 have c1':((w.alloc (Obj.cells #[Value.string val,Value.bool g] 138)).alloc (Obj.cells #[Value.string ByteArray.empty,Value.bool false] 138)).cell? ⟨pt,1,none⟩=some (.map (some mw)):=by go_simp
 have d0:((w.alloc (Obj.cells #[Value.string val,Value.bool g] 138)).alloc (Obj.cells #[Value.string ByteArray.empty,Value.bool false] 138)).cell? ⟨w.heap.size,0,none⟩=some (.string val):=by go_simp
 have d1:((w.alloc (Obj.cells #[Value.string val,Value.bool g] 138)).alloc (Obj.cells #[Value.string ByteArray.empty,Value.bool false] 138)).cell? ⟨w.heap.size,1,none⟩=some (.bool g):=by go_simp
 generalize hW:(w.alloc (Obj.cells #[Value.string val,Value.bool g] 138)).alloc (Obj.cells #[Value.string ByteArray.empty,Value.bool false] 138)=W at *
 clear hW
 go_region_with (go_at_call 70;refine (zzk _ _ (by have:=HL.out;unfold maxLen;omega) (by have:=HL.out;omega)).mono ?_;rintro e w1 ⟨rfl,hb1⟩;have k1:=(hb1.cell (p:=⟨pt,1,none⟩) (World.block_lt_of_cell? W _ c1')).trans c1';have k2:=(hb1.cell (p:=⟨w.heap.size,0,none⟩) (World.block_lt_of_cell? W _ d0)).trans d0;have k3:=(hb1.cell (p:=⟨w.heap.size,1,none⟩) (World.block_lt_of_cell? W _ d1)).trans d1;obtain⟨w2,hrun,hown3,hturn⟩:=(hown2.drew.of_block (hb1.block mw hown2.lt)).store zdd Tryz.underlying130 (by unfold maxLen;omega) hkey.out (.agg #[.string val,.bool g]) HP.out;clear hkey)
 all_goals
  rw[hf]at hown3
  replace HR:=HR.out w2 (((hkp.out.trans (Kp.drew (λb=>b=mw) W) (λ_ _ h=>h)).trans (Kp.of_below hb1 (λb=>b=mw)) (λ_ _ h=>h)).trans (Kp.of_turned (S:=λb=>b=mw) hturn rfl) (λ_ _ h=>h)) hown3
  clear hrun hown3 hturn hb1 k1 k2 k3 d0 d1 c1' hown2 hkp hpt hf hown c1
  go_wp2
  exact HR
end
end
section
open Go.RowKit Go.Maps
section
variable {R:Ending→World→Prop}
set_option maxHeartbeats 400000 in
theorem z8z (p mo n:Nat)(f:Value→Option Value)(tx:Int)(key val:ByteArray)(w:World)(c2:w.cell? ⟨p,7,none⟩=some (.map (some mo)))(hown:fmap w Tryz.prog 3 mo n f)(hwx:(Lit.int .i64 tx).wf=true)(hf:f (.int .i64 tx)=none)
  (hR:R (.returned (.int .i64 2)) w) :
  Calls Tryz.prog 35 #[.pointer (some ⟨p,0,none⟩),.int .i64 tx,.string key,.string val] w R:=by
 have hkey:Hid _:=keyOf_int_mk Tryz.underlying3 hwx
 go_enter Tryz.func35,Tryz.ntmps35
 go_wp2_with (first
  |(at_lookup;refine z8 _ rfl _ _ 99 rfl 3 129 zld Tryz.underlying99 (zdf _) mo n f rfl hown (.int .i64 tx) _ rfl hkey.out _ hf ?_)
  |go_in)
 exact hR
set_option maxRecDepth 20000 in
set_option maxHeartbeats 400000 in
theorem z81 (p mo n:Nat)(f:Value→Option Value)(tx:Int)(key val:ByteArray)(w:World)(c2:w.cell? ⟨p,7,none⟩=some (.map (some mo)))(hown:fmap w Tryz.prog 3 mo n f)(hwx:(Lit.int .i64 tx).wf=true)(a:Addr)(hf:f (.int .i64 tx)=some (.pointer (some a)))
  (hk:key.size≤maxLen) (hv:val.size≤maxLen) (hbad:(zu key && decide (val.size≤20))=false)
  (hR:R (.returned (.int .i64 1)) w) :
  Calls Tryz.prog 35 #[.pointer (some ⟨p,0,none⟩),.int .i64 tx,.string key,.string val] w R:=by
 have hkey:Hid _:=keyOf_int_mk Tryz.underlying3 hwx
 have HK:Hid _:=hk
 have HV:Hid _:=hv
 clear hk hv hwx
 cases h1:zu key
 ·clear hbad
  go_enter Tryz.func35,Tryz.ntmps35
  go_wp2_with (first
   |(at_lookup;refine z8 _ rfl _ _ 99 rfl 3 129 zld Tryz.underlying99 (zdf _) mo n f rfl hown (.int .i64 tx) _ rfl hkey.out _ hf ?_)
   |(go_at_call 67;refine (z3c _ _ HK.out).mono ?_;rintro e w' ⟨rfl,rfl⟩)
   |go_in)
  exact hR
 ·have h2:decide (val.size≤20)=false:=by rw[h1]at hbad;simpa using hbad
  clear hbad
  go_enter Tryz.func35,Tryz.ntmps35
  go_wp2_with (first
   |(at_lookup;refine z8 _ rfl _ _ 99 rfl 3 129 zld Tryz.underlying99 (zdf _) mo n f rfl hown (.int .i64 tx) _ rfl hkey.out _ hf ?_)
   |(go_at_call 67;refine (z3c _ _ HK.out).mono ?_;rintro e w' ⟨rfl,rfl⟩)
   |(go_at_call 68;refine (zvh _ _ HV.out).mono ?_;rintro e w' ⟨rfl,rfl⟩)
   |go_in)
  exact hR
theorem z1d (s:ByteArray)(h:zu s=true):s.size≤8:=by
 unfold zu at h
 simp at h
 exact h.2.1
set_option maxRecDepth 20000 in
set_option maxHeartbeats 1000000 in
theorem z6z (p mo n pt:Nat)(f:Value→Option Value)(tx:Int)(key val:ByteArray)(w:World)(c2:w.cell? ⟨p,7,none⟩=some (.map (some mo)))(hown:fmap w Tryz.prog 3 mo n f)(hwx:(Lit.int .i64 tx).wf=true)(hf:f (.int .i64 tx)=some (.pointer (some ⟨pt,0,none⟩)))
  (h1:zu key=true) (hv:val.size≤20)
  (hR:∀w1,Kp (λ_=>False) w w1→Calls Tryz.prog 69 #[.pointer (some ⟨pt,0,none⟩),.string key,.agg #[.string val,.bool false]] w1 λe w2=>∃r,e = .returned (.int .i64 r)∧R (.returned (.int .i64 r)) w2) :
  Calls Tryz.prog 35 #[.pointer (some ⟨p,0,none⟩),.int .i64 tx,.string key,.string val] w R:=by
 have hkey:Hid _:=keyOf_int_mk Tryz.underlying3 hwx
 have hl:=z1d key h1
 have HK:Hid (key.size≤maxLen):=by show key.size≤maxLen;unfold maxLen;omega
 have HV:Hid (val.size≤20):=hv
 have h2:decide (val.size≤20)=true:=by simpa using hv
 have HR:Hid _:=hR
 clear hv hwx hl hR
 go_enter Tryz.func35,Tryz.ntmps35
 go_wp2_with (first
  |(at_lookup;refine z8 _ rfl _ _ 99 rfl 3 129 zld Tryz.underlying99 (zdf _) mo n f rfl hown (.int .i64 tx) _ rfl hkey.out _ hf ?_)
  |(go_at_call 67;refine (z3c _ _ HK.out).mono ?_;rintro e w' ⟨rfl,rfl⟩)
  |(go_at_call 68;refine (zvh _ _ (by have:=HV.out;unfold maxLen;omega)).mono ?_;rintro e w' ⟨rfl,rfl⟩)
  |(go_at_call 70;refine (zzk _ _ (by have:=HV.out;unfold maxLen;omega) (by have:=HV.out;omega)).mono ?_;rintro e w1 ⟨rfl,hb1⟩)
  |(go_at_call 69;refine (HR.out _ (Kp.of_below hb1 _)).mono ?_;rintro e w2 ⟨r,rfl,hr⟩)
  |go_in)
 exact hr
set_option maxHeartbeats 400000 in
theorem zts (p mo n:Nat)(f:Value→Option Value)(tx:Int)(key:ByteArray)(w:World)(c2:w.cell? ⟨p,7,none⟩=some (.map (some mo)))(hown:fmap w Tryz.prog 3 mo n f)(hwx:(Lit.int .i64 tx).wf=true)(hf:f (.int .i64 tx)=none)
  (hR:R (.returned (.int .i64 2)) w) :
  Calls Tryz.prog 73 #[.pointer (some ⟨p,0,none⟩),.int .i64 tx,.string key] w R:=by
 have hkey:Hid _:=keyOf_int_mk Tryz.underlying3 hwx
 go_enter Tryz.func73,Tryz.ntmps73
 go_wp2_with (first
  |(at_lookup;refine z8 _ rfl _ _ 99 rfl 3 129 zld Tryz.underlying99 (zdf _) mo n f rfl hown (.int .i64 tx) _ rfl hkey.out _ hf ?_)
  |go_in)
 exact hR
set_option maxRecDepth 20000 in
set_option maxHeartbeats 400000 in
theorem zxu (p mo n:Nat)(f:Value→Option Value)(tx:Int)(key:ByteArray)(w:World)(c2:w.cell? ⟨p,7,none⟩=some (.map (some mo)))(hown:fmap w Tryz.prog 3 mo n f)(hwx:(Lit.int .i64 tx).wf=true)(a:Addr)(hf:f (.int .i64 tx)=some (.pointer (some a)))
  (hk:key.size≤maxLen) (h1:zu key=false)
  (hR:R (.returned (.int .i64 1)) w) :
  Calls Tryz.prog 73 #[.pointer (some ⟨p,0,none⟩),.int .i64 tx,.string key] w R:=by
 have hkey:Hid _:=keyOf_int_mk Tryz.underlying3 hwx
 have HK:Hid _:=hk
 clear hk hwx
 go_enter Tryz.func73,Tryz.ntmps73
 go_wp2_with (first
  |(at_lookup;refine z8 _ rfl _ _ 99 rfl 3 129 zld Tryz.underlying99 (zdf _) mo n f rfl hown (.int .i64 tx) _ rfl hkey.out _ hf ?_)
  |(go_at_call 67;refine (z3c _ _ HK.out).mono ?_;rintro e w' ⟨rfl,rfl⟩)
  |go_in)
 exact hR
set_option maxRecDepth 20000 in
set_option maxHeartbeats 1000000 in
theorem zss (p mo n pt:Nat)(f:Value→Option Value)(tx:Int)(key:ByteArray)(w:World)(c2:w.cell? ⟨p,7,none⟩=some (.map (some mo)))(hown:fmap w Tryz.prog 3 mo n f)(hwx:(Lit.int .i64 tx).wf=true)(hf:f (.int .i64 tx)=some (.pointer (some ⟨pt,0,none⟩)))
  (h1:zu key=true)
  (hR:Calls Tryz.prog 69 #[.pointer (some ⟨pt,0,none⟩),.string key,.agg #[.string { data:=#[] },.bool true]] w λe w2=>∃r,e = .returned (.int .i64 r)∧R (.returned (.int .i64 r)) w2) :
  Calls Tryz.prog 73 #[.pointer (some ⟨p,0,none⟩),.int .i64 tx,.string key] w R:=by
 have hkey:Hid _:=keyOf_int_mk Tryz.underlying3 hwx
 have hl:=z1d key h1
 have HK:Hid (key.size≤maxLen):=by show key.size≤maxLen;unfold maxLen;omega
 have HR:Hid _:=hR
 clear hwx hl hR
 go_enter Tryz.func73,Tryz.ntmps73
 go_wp2_with (first
  |(at_lookup;refine z8 _ rfl _ _ 99 rfl 3 129 zld Tryz.underlying99 (zdf _) mo n f rfl hown (.int .i64 tx) _ rfl hkey.out _ hf ?_)
  |(go_at_call 67;refine (z3c _ _ HK.out).mono ?_;rintro e w' ⟨rfl,rfl⟩)
  |(go_at_call 69;refine Calls.mono HR.out ?_;rintro e w2 ⟨r,rfl,hr⟩)
  |go_in)
 exact hr
end
end
section
open Go.RowKit Go.Maps
theorem zlz:laidOutB Tryz.prog=true:=by kernel_rfl
theorem zsr:225<Tryz.prog.types.size:=by decide +kernel
theorem zay:(match Tryz.prog.underlying 225 with|some (.array _ _)|some (.struct _)=>true|_=>false)=true:=by kernel_rfl
set_option maxRecDepth 100000 in
theorem z6k:Keyed Tryz.prog 225:=Keyed.of_law (deep_law_laid zlz (m:=2) (by omega) zsr (by kernel_rfl) zay)
theorem zo3:∃m,Tryz.prog.types.size=m+1:=⟨Tryz.prog.types.size-1,by have:=zsr;omega⟩
theorem z7q:Tryz.prog.keyType 225=true:=by kernel_rfl
theorem zen:Tryz.prog.cellsOf 225=2:=by kernel_rfl
theorem zry:Tryz.prog.cellsOf 9=1:=by kernel_rfl
theorem zqy:Tryz.prog.cellsOf 3=1:=by kernel_rfl
set_option maxRecDepth 20000 in
theorem zek (s:ByteArray)(m:Int)(hs:s.size≤maxLen)(hm:(Lit.int .i64 m).wf=true):∃kl,keyOf Tryz.prog 225 (.agg #[.string s,.int .i64 m])=some kl:=by
 refine⟨.string (keyBytes [.string s.data.toList,.int .i64 m]),?_⟩
 obtain⟨k,hk⟩:=zo3
 unfold keyOf
 rw[Tryz.underlying225]
 simp only[z7q,Value.formed,Tryz.underlying225,zen,Value.cells,hk]
 simp[Program.keyLits,Tryz.underlying225,Tryz.underlying9,Tryz.underlying3,zen,zry,zqy,hs,hm]
theorem zqq:∀(l:List Int) (t:Int),l.Pairwise (·<·)→l.countP (λm=>decide (m<t))+(if l.contains t then 1 else 0)=l.countP (λm=>decide (m≤t))
 |[],_,_=>rfl
 |x::r,t,h=>by
  obtain⟨h1,h2⟩:=List.pairwise_cons.1 h
  have ih:=zqq r t h2
  by_cases hx:x<t
  ·have hne:(t == x)=false:=by simp;omega
   rw[List.countP_cons_of_pos (by simpa using hx),List.countP_cons_of_pos (by simp;omega),List.contains_cons,hne,Bool.false_or]
   omega
  ·have hr:∀y∈r,¬y<t:=λy hy=>by have:=h1 y hy;omega
   have hr':∀y∈r,¬y≤t:=λy hy=>by have:=h1 y hy;omega
   have e2:r.countP (λm=>decide (m<t))=0:=by rw[List.countP_eq_zero];intro y hy;simpa using hr y hy
   have e3:r.countP (λm=>decide (m≤t))=0:=by rw[List.countP_eq_zero];intro y hy;simpa using hr' y hy
   have e4:r.contains t=false:=by
    cases hh:r.contains t with
    |false=>rfl
    |true=>exact absurd (Int.le_refl t) (hr' t (by simpa using hh))
   rw[List.countP_cons_of_neg (by simpa using hx),e2,List.contains_cons,e4,Bool.or_false]
   by_cases he:x=t
   ·subst he;rw[List.countP_cons_of_pos (by simp),e3];simp
   ·have hne:(t == x)=false:=by simp;omega
    rw[List.countP_cons_of_neg (by simp;omega),e3,hne];simp
section
variable {R:Ending→World→Prop}
set_option maxRecDepth 20000 in
set_option maxHeartbeats 400000 in
theorem zos (ph mm n:Nat)(f:Value→Option Value)(key:ByteArray)(t:Int)(w:World)(c1:w.cell? ⟨ph,1,none⟩=some (.map (some mm)))(hown:fmap w Tryz.prog 9 mm n f)
  (hlen:key.size≤8) (a:Option Addr) (cap:Nat) (hf:(f (.string key)).getD (.slice none 0 0) = .slice a 0 cap)
  (hR:R (.returned (.bool false)) w) :
  Calls Tryz.prog 125 #[.pointer (some ⟨ph,0,none⟩),.string key,.int .i64 t] w R:=by
 have hkey:Hid _:=WideMaps.keyOf_string_mk Tryz.underlying9 (show key.size≤maxLen by unfold maxLen;omega)
 go_enter Tryz.func125,Tryz.ntmps125
 go_wp2_with (first
  |(at_lookup;refine z7d _ rfl _ _ 207 rfl 9 26 zdd Tryz.underlying207 (z0h _) mm n f rfl hown (.string key) _ rfl hkey.out _ hf ?_)
  |go_in)
 exact hR
set_option maxRecDepth 20000 in
set_option maxHeartbeats 400000 in
theorem zoq (ph mm n:Nat)(f:Value→Option Value)(key:ByteArray)(t:Int)(w:World)(c1:w.cell? ⟨ph,1,none⟩=some (.map (some mm)))(hown:fmap w Tryz.prog 9 mm n f)
  (hlen:key.size≤8) (g len cap:Nat) (hf:(f (.string key)).getD (.slice none 0 0) = .slice (some ⟨g,0,none⟩) (len+1) cap) (hl:(len:Int)<1000000) (last:Int) (hc:w.cell? ⟨g,len,none⟩=some (.int .i64 last))
  (hR:R (.returned (.bool (decide (t<last)))) w) :
  Calls Tryz.prog 125 #[.pointer (some ⟨ph,0,none⟩),.string key,.int .i64 t] w R:=by
 have hkey:Hid _:=WideMaps.keyOf_string_mk Tryz.underlying9 (show key.size≤maxLen by unfold maxLen;omega)
 clear hlen
 go_enter Tryz.func125,Tryz.ntmps125
 go_wp2_with (first
  |(at_lookup;refine z7d _ rfl _ _ 207 rfl 9 26 zdd Tryz.underlying207 (z0h _) mm n f rfl hown (.string key) _ rfl hkey.out _ hf ?_)
  |go_in)
 exact hR
set_option maxRecDepth 20000 in
set_option maxHeartbeats 400000 in
theorem z2n (a:Option Addr)(cap:Nat)(t:Int)(w:World)(hR:R (.returned (.int .i64 0)) w) :
  Calls Tryz.prog 134 #[.slice a 0 cap,.int .i64 t] w R:=by
 go_enter Tryz.func134,Tryz.ntmps134
 go_wp2_with (first
  |(go_at_call 180;refine (Tryz.slices_BinarySearch_int_empty _ _ _ _).mono ?_;rintro e w' ⟨rfl,rfl⟩)
  |go_in)
 exact hR
set_option maxRecDepth 20000 in
set_option maxHeartbeats 400000 in
theorem zqk (g cap:Nat)(zs:List Int)(t:Int)(w:World)(n:Nat)(hl:zs.length<1000000)
  (hc:∀j,j<zs.length→w.cell? ⟨g,j,none⟩=some (.int .i64 (zs.getD j 0))) (hs:zs.Pairwise (·<·)) (hn:zs.countP (λm=>decide (m≤t))=n)
  (hR:∀q,R (.returned (.int .i64 n)) (w.drewN q)) :
  Calls Tryz.prog 134 #[.slice (some ⟨g,0,none⟩) zs.length cap,.int .i64 t] w R:=by
 have HR:=ze hR
 have hB:=ze (Tryz.slices_BinarySearch_int g 0 zs.length cap zs t w (Nat.le_refl _) (by omega) (by simpa using hc) (by simpa using hs.imp (λh=>Int.le_of_lt h)))
 have hcnt:=zqq zs t hs
 rw[hn]at hcnt
 have hle:n≤zs.length:=by rw[← hn];exact List.countP_le_length
 rw[List.take_length]at hB
 generalize zs.countP (·<t)=pos at hB hcnt
 generalize zs.contains t=fd at hB hcnt
 have hn1:(n:Int)≤1000000:=by omega
 generalize zs.length=L at hB
 clear hR hc hs hn hl hle
 cases fd
 ·simp only[Bool.false_eq_true,if_false,Nat.add_zero]at hcnt
  subst hcnt
  go_enter Tryz.func134,Tryz.ntmps134
  go_wp2_with (first
   |(go_at_call 180;refine Calls.mono hB.out ?_;rintro e w' ⟨rfl,q,rfl⟩)
   |go_in)
  exact HR.out q
 ·simp only[if_true]at hcnt
  subst hcnt
  have h1:(pos:Int)+1≤1000000:=by omega
  go_enter Tryz.func134,Tryz.ntmps134
  go_wp2_with (first
   |(go_at_call 180;refine Calls.mono hB.out ?_;rintro e w' ⟨rfl,q,rfl⟩)
   |go_in)
  exact HR.out q
set_option maxRecDepth 20000 in
set_option maxHeartbeats 400000 in
theorem zkt (ph mm n:Nat)(f:Value→Option Value)(key:ByteArray)(t:Int)(w:World)(c1:w.cell? ⟨ph,1,none⟩=some (.map (some mm)))(hown:fmap w Tryz.prog 9 mm n f)
  (hlen:key.size≤8) (a:Option Addr) (cap:Nat) (hf:(f (.string key)).getD (.slice none 0 0) = .slice a 0 cap)
  (hR:R (.returned (.tuple #[.string ⟨#[]⟩,.bool false])) w) :
  Calls Tryz.prog 91 #[.pointer (some ⟨ph,0,none⟩),.string key,.int .i64 t] w R:=by
 have hkey:Hid _:=WideMaps.keyOf_string_mk Tryz.underlying9 (show key.size≤maxLen by unfold maxLen;omega)
 clear hlen
 go_enter Tryz.func91,Tryz.ntmps91
 go_wp2_with (first
  |(at_lookup;refine z7d _ rfl _ _ 207 rfl 9 26 zdd Tryz.underlying207 (z0h _) mm n f rfl hown (.string key) _ rfl hkey.out _ hf ?_)
  |(go_at_call 134;refine z2n _ _ _ _ ?_)
  |go_in)
 exact hR
set_option maxRecDepth 20000 in
set_option maxHeartbeats 400000 in
theorem zvv (ph mm n:Nat)(f:Value→Option Value)(key:ByteArray)(t:Int)(w:World)(c1:w.cell? ⟨ph,1,none⟩=some (.map (some mm)))(hown:fmap w Tryz.prog 9 mm n f)
  (hlen:key.size≤8) (g cap:Nat) (zs:List Int) (hf:(f (.string key)).getD (.slice none 0 0) = .slice (some ⟨g,0,none⟩) zs.length cap) (hl:zs.length<1000000)
  (hc:∀j,j<zs.length→w.cell? ⟨g,j,none⟩=some (.int .i64 (zs.getD j 0))) (hs:zs.Pairwise (·<·)) (h0:zs.countP (λm=>decide (m≤t))=0)
  (hR:∀q,R (.returned (.tuple #[.string ⟨#[]⟩,.bool false])) (w.drewN q)) :
  Calls Tryz.prog 91 #[.pointer (some ⟨ph,0,none⟩),.string key,.int .i64 t] w R:=by
 have hkey:Hid _:=WideMaps.keyOf_string_mk Tryz.underlying9 (show key.size≤maxLen by unfold maxLen;omega)
 have HR:=ze hR
 have hB:=ze (λ(R:Ending→World→Prop)=>zqk (R:=R) g cap zs t w 0 hl hc hs h0)
 clear hlen hR hc hs h0
 go_enter Tryz.func91,Tryz.ntmps91
 go_wp2_with (first
  |(at_lookup;refine z7d _ rfl _ _ 207 rfl 9 26 zdd Tryz.underlying207 (z0h _) mm n f rfl hown (.string key) _ rfl hkey.out _ hf ?_)
  |(go_at_call 134;refine hB.out _ (λq=>?_))
  |go_in)
 exact HR.out q
end
end
section
open Go.RowKit Go.Maps
section
variable {R:Ending→World→Prop}
set_option maxRecDepth 20000 in
set_option maxHeartbeats 1000000 in
theorem zwv (ph mv mm n nv:Nat)(f fv:Value→Option Value)(key:ByteArray)(t:Int)(w:World)(c0:w.cell? ⟨ph,0,none⟩=some (.map (some mv)))(c1:w.cell? ⟨ph,1,none⟩=some (.map (some mm)))
  (hown:fmap w Tryz.prog 9 mm n f) (hver:fmap w Tryz.prog 225 mv nv fv)
  (hlen:key.size≤8) (g cap:Nat) (zs:List Int) (hf:(f (.string key)).getD (.slice none 0 0) = .slice (some ⟨g,0,none⟩) zs.length cap) (hl:zs.length<1000000)
  (hc:∀j,j<zs.length→w.cell? ⟨g,j,none⟩=some (.int .i64 (zs.getD j 0))) (hs:zs.Pairwise (·<·))
  (idx:Nat) (hidx:zs.countP (λm=>decide (m≤t))=idx+1)
  (m:Int) (hm:zs.getD idx 0=m) (hwm:(Lit.int .i64 m).wf=true) (val:ByteArray) (gone:Bool) (hv:fv (.agg #[.string key,.int .i64 m])=some (.agg #[.string val,.bool gone]))
  (hR:∀w',Kp (λ_=>False) w w'→R (.returned (.tuple #[.string val,.bool (!gone)])) w') :
  Calls Tryz.prog 91 #[.pointer (some ⟨ph,0,none⟩),.string key,.int .i64 t] w R:=by
 have hkey:Hid _:=WideMaps.keyOf_string_mk Tryz.underlying9 (show key.size≤maxLen by unfold maxLen;omega)
 have HR:=ze hR
 have hB:=ze (λ(R:Ending→World→Prop)=>zqk (R:=R) g cap zs t w (idx+1) hl hc hs hidx)
 have hlt:idx<zs.length:=by have:=List.countP_le_length (p:=λm=>decide (m≤t)) (l:=zs);omega
 have hcm:=hc idx hlt
 rw[hm]at hcm
 obtain⟨kl,hkl⟩:=zek key m (by unfold maxLen;omega) hwm
 have hlk:Hid (∀W:World,W.heap[mv]?=w.heap[mv]?→(Instr.lookup 206 (.map (some mv)) (.agg #[.string key,.int .i64 m]) false).run Tryz.prog W = .ok (.agg #[.string val,.bool gone]) W):=λW hW=>by
  have:=(hver.of_block hW).look false z6k Tryz.underlying206 (zil W) hkl
  rw[hv]at this
  simpa using this
 have hmv:=hver.lt
 have hlt':(idx:Int)<zs.length:=by omega
 have hi0:(idx:Int)≤1000000:=by omega
 clear hlen hR hc hs hidx hm hwm hv hkl hver hlt hl
 generalize zs.length=L at hf hB hlt'
 have hne0:((idx:Int)+1 == 0)=false:=by simp;omega
 go_enter Tryz.func91,Tryz.ntmps91
 go_wp2_with (first
  |(at_lookup;refine z7d _ rfl _ _ 207 rfl 9 26 zdd Tryz.underlying207 (z0h _) mm n f rfl hown (.string key) _ rfl hkey.out _ hf ?_)
  |(go_at_call 134;refine hB.out _ (λq=>?_);rw[show ((idx+1:Nat):Int)=(idx:Int)+1 from rfl])
  |go_in)
 generalize hW:w.drewN q=W
 have a0:W.cell? ⟨ph,0,none⟩=some (.map (some mv)):=by rw[← hW];exact c0
 have a1:W.cell? ⟨g,idx,none⟩=some (.int .i64 m):=by rw[← hW];exact hcm
 have l1:=hlk.out W.drew (by rw[← hW];rfl)
 have l2:∀o,(Instr.lookup 206 (.map (some mv)) (.agg #[.string key,.int .i64 m]) false).run Tryz.prog (W.alloc o).drew = .ok (.agg #[.string val,.bool gone]) (W.alloc o).drew:=λo=>hlk.out (W.alloc o).drew (by rw[← hW];exact Below.heap_alloc _ _ _ hmv)
 have kk:Kp (λ_=>False) w W:=by rw[← hW];exact Kp.drewN _ _ _
 have b0:ph<W.heap.size:=World.block_lt_of_cell? W _ a0
 have b1:g<W.heap.size:=World.block_lt_of_cell? W _ a1
 clear hlk hW hown c0 c1 hcm
 go_region
 clear l1 l2 b0 b1 a0 a1
 go_wp2
 go_region
 all_goals
  try go_wp2
  exact HR.out _ (((kk.trans (Kp.alloc (λ_=>False) _ _) (λ_ _ h=>h)).trans (Kp.drew (λ_=>False) _) (λ_ _ h=>h)).trans (Kp.drew (λ_=>False) _) (λ_ _ h=>h))
end
end
section
open Go.RowKit Go.Maps
theorem fmap.store_all {P:Program}{k:TypeId}{w:World}{b n:Nat}{f:Value→Option Value}{t e:TypeId}(h:fmap w P k b n f)(K:Keyed P k)(ht:P.underlying t=some (.map k e))(hn:n<maxLen){key:Value}{kl:Lit}(hk:keyOf P k key=some kl)(val:Value) :
  ∃w',(Instr.mapUpdate t (.map (some b)) key val).run P w = .ok () w'∧(∀f',zhe f key val f'→fmap w' P k b (if (f key).isSome then n else n+1) f')∧w.mapTurned w' b:=by
 classical
 have hp0:zhe f key val (λx=>if x=key then some val else f x):=⟨by simp,λx hx=>by simp[hx]⟩
 obtain⟨w',h1,h2,h3⟩:=h.store K ht hn hk val hp0
 refine⟨w',h1,λf' hp=>?_,h3⟩
 have:f'=λx=>if x=key then some val else f x:=by
  funext x
  by_cases hx:x=key
  ·subst hx;simp[hp.same]
  ·simp[hx,hp.other x hx]
 rw[this];exact h2
theorem zmd {P:Program}{ops:Array Oper}{o:Oper}{a:Act}{w:World}{K:Act→World→Prop}{Q:Exit→Act→World→Prop}{E:Prop}
  (hg:o.guard=none) (s x:Operand) (t:TypeId) (hop:o.op=Op.call { callee:=Callee.builtin Builtin.append,args:=#[s,x],argTypes:=#[t,t] })
  (base:Nat) (e:TypeId) (i:TypeInfo) (z:Value) (size bytes:Nat) (h1:P.underlying t=some (.slice e)) (h2:P.info? e=some i) (h3:i.zero=some z) (h4:i.size=size) (h5:i.bytes=bytes) (h6:z.cells.size=size) (h7:0<size)
  (v:Value) (n:Nat) (xs:List Value) (hs:a.eval s=v) (hown:w.ownsRow base e size v n xs)
  (ad:Addr) (m c:Nat) (news:List Value) (hx:a.eval x = .slice (some ad) m c) (hn:news.length=m*size) (hc:∀j u,news[j]?=some u→w.cell? (ad.add j)=some u) (h1c:∀u∈news,u.oneCell'=true)
  (b1:n+m≤maxLen) (b2:(n+m)*bytes≤140737488355328) (hbase:base≤w.heap.size)
  (hK:∀v' w',w'.ownsRow base e size v' (n+m) (xs++news)→w.grownBy w' v.ownBlock→(v'.ownBlock=v.ownBlock∨v'.ownBlock=some w.heap.size)→K (a.put o.dst v') w') :
  if Region.wanted o (yielded ops a.tmps)=true then Oper.wp P o a w K Q else E:=by
 have hw:Region.wanted o (yielded ops a.tmps)=true:=by simp[Region.wanted,hg]
 rw[if_pos hw]
 obtain⟨v',w',hrun,r1,r2,_,r4⟩:=run_append_own_at (P:=P) w base t o.type e i z size bytes h1 h2 h3 h4 h5 h6 h7 v n xs hown ad m c news hn hc h1c b1 b2 hbase
 unfold Oper.wp
 simp[execOp,hop,resolve,invoke,builtin,hs,hx,hrun,Result.andThen]
 exact hK v' w' r1 r2 r4
theorem zql:(Tryz.prog.info? 3).map (λi=>(i.zero,i.size,i.bytes))=some (some (.int .i64 0),1,8):=by kernel_rfl
theorem fmap.ne_cells {P:Program}{k:TypeId}{w:World}{b n:Nat}{f:Value→Option Value}(h:fmap w P k b n f){g:Nat}{cur:Array Value}{e:TypeId}{fz:Nat × Nat}(hg:w.heap[g]?=some (.cells cur e fz)):g≠b:=by
 intro he;subst he
 obtain⟨D,⟨es,clock,hb,_⟩,_⟩:=h
 rw[hb]at hg;cases hg
theorem zmf {P:Program}{k:TypeId}{w:World}{b n:Nat}{f:Value→Option Value}(h:fmap w P k b n f){base e size m:Nat}{v:Value}{xs:List Value}(hr:w.ownsRow base e size v m xs):v.ownBlock≠some b:=by
 rcases hr.2 with ⟨rfl,_⟩|⟨g,cap,cur,rfl,_,hg,_⟩
 ·simp[Value.ownBlock]
 ·simp only[Value.ownBlock,ne_eq,Option.some.injEq];exact h.ne_cells hg
theorem zi {S:Nat→Prop}{w w':World}{base e size m:Nat}{v:Value}{xs:List Value}(hr:w.ownsRow base e size v m xs)(hk:Kp S w w')(hs:∀b,v.ownBlock=some b→¬S b):w'.ownsRow base e size v m xs:=by
 refine⟨hr.1,?_⟩
 rcases hr.2 with h|⟨g,cap,cur,rfl,hb,hg,r⟩
 ·exact Or.inl h
 ·exact Or.inr ⟨g,cap,cur,rfl,hb,(hk.block g (Array.getElem?_eq_some_iff.1 hg).1 (hs g rfl)).trans hg,r⟩
section
variable {R:Ending→World→Prop}
set_option maxRecDepth 20000 in
set_option maxHeartbeats 2000000 in
theorem zc1 (ph mv mm n nv:Nat)(f fv:Value→Option Value)(key val:ByteArray)(gone:Bool)(t:Int)(w:World)(c0:w.cell? ⟨ph,0,none⟩=some (.map (some mv)))(c1:w.cell? ⟨ph,1,none⟩=some (.map (some mm)))
  (hown:fmap w Tryz.prog 9 mm n f) (hver:fmap w Tryz.prog 225 mv nv fv) (hne:mv≠mm) (hn:n<1000000) (hnv:nv<1000000)
  (hlen:key.size≤8) (hwt:(Lit.int .i64 t).wf=true) (v:Value) (xs:List Int) (hf:(f (.string key)).getD (.slice none 0 0)=v) (hrow:w.ownsRow 0 3 1 v xs.length (xs.map (Value.int .i64))) (hl:xs.length<1000000)
  (hvp:v.ownBlock≠some ph) {fv':Value→Option Value} (hp:zhe fv (.agg #[.string key,.int .i64 t]) (.agg #[.string val,.bool gone]) fv')
  (hR:∀w' v',Kp (λb=>b=mv∨b=mm∨v.ownBlock=some b) w w'→fmap w' Tryz.prog 225 mv (if (fv (.agg #[.string key,.int .i64 t])).isSome then nv else nv+1) fv'→
   (∀f',zhe f (.string key) v' f'→fmap w' Tryz.prog 9 mm (if (f (.string key)).isSome then n else n+1) f')→w'.ownsRow 0 3 1 v' (xs.length+1) (xs.map (Value.int .i64)++[.int .i64 t])→
   (v'.ownBlock=v.ownBlock∨∃b,v'.ownBlock=some b∧w.heap.size≤b)→R (.returned (.tuple #[])) w') :
  Calls Tryz.prog 79 #[.pointer (some ⟨ph,0,none⟩),.string key,.int .i64 t,.agg #[.string val,.bool gone]] w R:=by
 have hkey:Hid _:=WideMaps.keyOf_string_mk Tryz.underlying9 (show key.size≤maxLen by unfold maxLen;omega)
 obtain⟨kl,hkl⟩:=zek key t (by unfold maxLen;omega) hwt
 have HR:Hid _:=hR
 have hph:ph<w.heap.size:=World.block_lt_of_cell? w _ c0
 have hmv:=hver.lt
 have hmm:=hown.lt
 have q1:ph≠mv:=λe=>by subst e;rw[hver.noCell]at c0;cases c0
 have q2:ph≠mm:=λe=>by subst e;rw[hown.noCell]at c0;cases c0
 -- the box
 have x0:(w.alloc (.cells #[.string val,.bool gone] 138)).cell? ⟨ph,0,none⟩=some (.map (some mv)):=by go_simp
 have x1:(w.alloc (.cells #[.string val,.bool gone] 138)).cell? ⟨ph,1,none⟩=some (.map (some mm)):=by go_simp
 have x2:(w.alloc (.cells #[.string val,.bool gone] 138)).cell? ⟨w.heap.size,0,none⟩=some (.string val):=by go_simp
 have x3:(w.alloc (.cells #[.string val,.bool gone] 138)).cell? ⟨w.heap.size,1,none⟩=some (.bool gone):=by go_simp
 have k0:Kp (λb=>b=mv∨b=mm∨v.ownBlock=some b) w (w.alloc (.cells #[.string val,.bool gone] 138)).drew:=(Kp.alloc _ _ _).trans (Kp.drew (λb=>b=mv∨b=mm∨v.ownBlock=some b) _) (λ_ _ h=>h)
 have hown0:=(hown.alloc (.cells #[.string val,.bool gone] 138)).drew
 have hrow0:(w.alloc (.cells #[.string val,.bool gone] 138)).drew.ownsRow 0 3 1 v xs.length (xs.map (Value.int .i64)):=zi hrow (S:=λ_=>False) ((Kp.alloc _ _ _).trans (Kp.drew (λ_=>False) _) (λ_ _ h=>h)) (λ_ _ h=>h)
 obtain⟨w1,hrun1,hver1,hturn1⟩:=((hver.alloc (.cells #[.string val,.bool gone] 138)).drew).store z6k Tryz.underlying206 (by unfold maxLen;omega) hkl (.agg #[.string val,.bool gone]) hp
 have hrow1:w1.ownsRow 0 3 1 v xs.length (xs.map (Value.int .i64)):=zi hrow0 (S:=λb=>b=mv) (Kp.of_turned hturn1 rfl) (λb hb e=>zmf hver hrow (by rw[hb,e]))
 have hown1:fmap w1 Tryz.prog 9 mm n f:=hown0.of_block (zlb hturn1 mm (Ne.symm hne))
 have c1':w1.cell? ⟨ph,1,none⟩=some (.map (some mm)):=by
  rw[World.cell?_of_block (w:=(w.alloc (.cells #[.string val,.bool gone] 138)).drew) (zlb hturn1 ph q1)];exact x1
 have k1:=k0.trans (Kp.of_turned (S:=λb=>b=mv) hturn1 rfl) (λ_ _ h=>Or.inl h)
 have hlk:Hid (∀W:World,W.heap[mm]?=w1.heap[mm]?→(Instr.lookup 207 (.map (some mm)) (.string key) false).run Tryz.prog W = .ok v W):=λW hW=>by
  have:=(hown1.of_block hW).look false zdd Tryz.underlying207 (z0h W) hkey.out
  rw[hf]at this
  simpa using this
 clear hR hown hver hown0 hrow0 hrow k0 hf hwt hkl hp c0 c1 hlen
 go_enter Tryz.func79,Tryz.ntmps79
 go_wp2_with fail
 go_region
 clear hrun1 x0 x1 x2 x3
 go_wp2_with fail
 have l1:=hlk.out w1.drew rfl
 have l2:∀o,(Instr.lookup 207 (.map (some mm)) (.string key) false).run Tryz.prog (w1.alloc o).drew = .ok v (w1.alloc o).drew:=λo=>hlk.out (w1.alloc o).drew (Below.heap_alloc _ _ _ hown1.lt)
 have hp1:ph<w1.heap.size:=World.block_lt_of_cell? w1 _ c1'
 obtain⟨i0,hi,hz0,hz1,hz2⟩:=info_parts zql
 have B1:Hid (xs.length<1000000):=hl
 have B2:Hid (n<1000000):=hn
 have hrow2:(w1.alloc (.cells #[.int .i64 t] 3)).drew.ownsRow 0 3 1 v xs.length (xs.map (Value.int .i64)):=zi hrow1 (S:=λ_=>False) ((Kp.alloc _ _ _).trans (Kp.drew (λ_=>False) _) (λ_ _ h=>h)) (λ_ _ h=>h)
 have hown2:=(hown1.alloc (.cells #[.int .i64 t] 3)).drew
 have c2':(w1.alloc (.cells #[.int .i64 t] 3)).drew.cell? ⟨ph,1,none⟩=some (.map (some mm)):=by go_simp
 have hs2:(w1.alloc (.cells #[.int .i64 t] 3)).drew.heap.size=w1.heap.size+1:=by simp
 have kw:w.heap.size≤w1.heap.size:=k1.size
 clear hlk hl hn hnv hmv hmm hph q1
 have HNE:Hid (mv≠mm):=hne
 have HV1:Hid (fmap (w1.alloc (.cells #[.int .i64 t] 3)).drew Tryz.prog 225 mv (if (fv (.agg #[.string key,.int .i64 t])).isSome then nv else nv+1) fv'):=(hver1.alloc (.cells #[.int .i64 t] 3)).drew
 clear hne hver1
 go_region_law (refine zmd rfl (.tmp 26) (.tmp 28) 26 rfl 0 3 i0 (.int .i64 0) 1 8 Tryz.underlying26 hi hz0 hz1 hz2 rfl (by decide) v xs.length (xs.map (Value.int .i64)) (by simp[Act.eval]) hrow2 ⟨w1.heap.size,0,none⟩ 1 1 [.int .i64 t] (by simp[Act.eval]) rfl (cell_one_new _ _ _) (by simp[Value.oneCell']) (by have:=B1.out;unfold maxLen;omega) (by have:=B1.out;omega) (Nat.zero_le _) ?_;intro v' w3 hown' hgrow hloc;have k3:=(World.cell?_of_block (w:=(w1.alloc (.cells #[.int .i64 t] 3)).drew) (a:=⟨ph,1,none⟩) (hgrow.block ph (by rw[hs2];omega) (λe=>hvp e.symm))).trans c2';obtain⟨w4,hrun4,hown4,hturn4⟩:=(hown2.of_block (hgrow.block mm hown2.lt (λe=>zmf hown2 hrow2 e.symm))).store_all zdd Tryz.underlying207 (by have:=B2.out;unfold maxLen;omega) hkey.out v';replace HR:=HR.out w4 v' (((k1.trans ((Kp.alloc (λb=>b=mv∨b=mm∨v.ownBlock=some b) _ _).trans (Kp.drew (λb=>b=mv∨b=mm∨v.ownBlock=some b) _) (λ_ _ h=>h)) (λ_ _ h=>h)).trans (Kp.of_grown (S:=λb=>v.ownBlock=some b) hgrow (λ_ h=>h)) (λ_ _ h=>Or.inr (Or.inr h))).trans (Kp.of_turned (S:=λb=>b=mm) hturn4 rfl) (λ_ _ h=>Or.inr (Or.inl h))) (((HV1.out.of_block (hgrow.block mv HV1.out.lt (λe=>zmf HV1.out hrow2 e.symm))).of_block (zlb hturn4 mv HNE.out))) hown4 (zi hown' (S:=λb=>b=mm) (Kp.of_turned hturn4 rfl) (λb hb e=>zmf (hown2.of_block (hgrow.block mm hown2.lt (λe=>zmf hown2 hrow2 e.symm))) hown' (by rw[hb,e]))) (hloc.imp id (λh=>⟨_,h,by rw[hs2];omega⟩));clear hown4 hturn4)
 all_goals
  clear hrun4 k3 l1 l2 c2' c1' hown' hgrow hloc hrow2 hown2 hrow1 hown1 k1 hturn1 HV1 hkey
  go_end0
  exact HR
end
end
end Go.Proofs.YthbdpfccfcceiaaGreatDoor
