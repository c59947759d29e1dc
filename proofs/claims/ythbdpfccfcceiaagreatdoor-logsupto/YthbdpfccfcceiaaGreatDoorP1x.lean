/-
  Of the proof of logsUpto_card.
-/
import Derived.Test.YthbdpfccfcceiaaGreatDoorG8x
import Derived.ProofKit
import Derived.OpenShut
import Derived.JoinedCond
import Derived.WideKeyArgs
import Derived.Deep.Slices
import Derived.LaidMore
import Derived.Stop.Joined
import Derived.Test.YthbdpfccfcceiaaGreatDoorProg
import Derived.Leaving
import Derived.ClaimOpenTies
import Derived.SevenTiedAt
import Derived.Test.YthbdpfccfcceiaaGreatDoorChecked
import Derived.KernelRfl
namespace Go.Proofs.YthbdpfccfcceiaaGreatDoor
section
open Go.ChangeShapes Go.WideShapes Go.ChangeAt Go.RowKit
theorem zm2:ownKnob Tryz.prog.godebug=none:=by kernel_rfl
theorem zrp:Tryz.prog.cellsOf 71=8:=by kernel_rfl
def zqx:S8:=⟨0,0,0,0,⟨#[]⟩,⟨#[]⟩,.slice none 0 0,.slice none 0 0⟩
theorem zl3:Tryz.prog.cellsOf 3=1:=by kernel_rfl
theorem zn3:Tryz.prog.cellsOf 9=1:=by kernel_rfl
theorem zi2:Tryz.prog.cellsOf 37=1:=by kernel_rfl
theorem zm3:Tryz.prog.cellsOf 5=1:=by kernel_rfl
theorem zj2:Tryz.prog.cellsOf 48=1:=by kernel_rfl
theorem zm0:laidOutB Tryz.prog=true:=by kernel_rfl
theorem z4r:Tryz.prog.readableRec 22=true:=by kernel_rfl
theorem zo2:22<Tryz.prog.types.size:=of_decide_eq_true (by kernel_rfl)
theorem zjm {H:Type}(d:DataW H):1≤Rows.uptoBulk d:=by
 cases d with
 |lit l=>cases l<;>simp[Rows.uptoBulk]
 |_=>simp[Rows.uptoBulk]
theorem zui {H:Type}(k:Nat):∀(l:List (DataW H)),(∀d∈l,k≤Rows.uptoBulk d)→k*l.length≤Rows.uptoBulkAll l
 |[],_=>by simp[Rows.uptoBulkAll]
 |d::r,h=>by
  have h1:=h d (by simp)
  have h2:=zui k r (λx hx=>h x (List.mem_cons_of_mem _ hx))
  simp only[Rows.uptoBulkAll,List.length_cons,Nat.mul_add,Nat.mul_one]
  omega
theorem z8j {H:Type}{d:DataW H}:∀{l:List (DataW H)},d∈l→Rows.uptoBulk d≤Rows.uptoBulkAll l
 |x::r,h=>by
  simp only[Rows.uptoBulkAll]
  rcases List.mem_cons.1 h with rfl|h
  ·omega
  ·have:=z8j h;omega
theorem z9u {cs:List Value}(h:cs.length=8):∃c0 c1 c2 c3 c4 c5 c6 c7,cs=[c0,c1,c2,c3,c4,c5,c6,c7]:=by
 have pop:∀{l:List Value} {n:Nat},l.length=n+1→∃c r,l=c::r∧r.length=n:=λ{l n} h=>by
  cases l with
  |nil=>simp at h
  |cons c r=>exact⟨c,r,rfl,by simpa using h⟩
 obtain⟨c0,r0,rfl,h0⟩:=pop h
 obtain⟨c1,r1,rfl,h1⟩:=pop h0
 obtain⟨c2,r2,rfl,h2⟩:=pop h1
 obtain⟨c3,r3,rfl,h3⟩:=pop h2
 obtain⟨c4,r4,rfl,h4⟩:=pop h3
 obtain⟨c5,r5,rfl,h5⟩:=pop h4
 obtain⟨c6,r6,rfl,h6⟩:=pop h5
 obtain⟨c7,r7,rfl,h7⟩:=pop h6
 obtain rfl:r7=[]:=List.eq_nil_of_length_eq_zero h7
 exact⟨c0,c1,c2,c3,c4,c5,c6,c7,rfl⟩
section
variable {H:Type}{enc:TypeId × Value→H}{W:World}
theorem zcn {a:Addr}{v:Value}(h:W.cell? a=some v):a.spot=none:=by
 unfold World.cell? at h
 cases hsp:a.spot with
 |none=>rfl
 |some _=>
  rw[hsp]at h
  split at h
  ·simp at h
  ·cases h
theorem zhv {n:Nat}{v:Value}{d:DataW H}{pl:List MemPlace}(h:DataW.trod enc Tryz.prog W 0 (λ_=>true) true n 48 [v]=some (d,pl))(z:Nat)(hz:z<W.heap.size) :
  ∃(f:List UInt8) (b:Option Addr) (c g:Nat),v = .slice b f.length c∧RdN W (.slice b f.length c) f g∧g<W.heap.size∧f.length≤Rows.uptoBulk d:=by
 rcases Deep.open_slice1 Tryz.underlying48 zm3 h with ⟨hc,_⟩|⟨a,len,cap,m,n,V,D,Pl,hc,_,hl,_,hm,hx,hel⟩
 ·have hc':v = .slice none 0 0:=by simpa using hc
  exact⟨[],none,0,z,hc',⟨none,0,rfl,Nat.le_refl _,λh=>absurd rfl h⟩,hz,Nat.zero_le _⟩
 ·have hc':v = .slice (some a) len cap:=by simpa using hc
  simp only[Prod.mk.injEq]at hx
  simp only[if_true]at hm
  subst hm
  obtain⟨F,hF⟩:=Deep.choose_lt (α:=UInt8) (n:=len) (p:=λi y=>W.cell? (a.add i)=some (b8 y)) (λi hi=>by
   obtain⟨h1,h2⟩:=hel i (by omega)
   obtain⟨q,e,_,hw⟩:=DataW.trod_int Tryz.underlying5 h2
   have e':V i = .int .u8 q:=by simpa using e
   have hr:0≤q∧q≤255:=by
    simp[Lit.wf]at hw
    have m0:IntKind.u8.min=0:=rfl
    have m1:IntKind.u8.max=255:=rfl
    omega
   refine⟨UInt8.ofNat q.toNat,?_⟩
   rw[h1,e']
   unfold b8
   rw[UInt8.toNat_ofNat']
   congr 2
   omega)
  have hfl:((List.range len).map F).length=len:=by simp
  have hbk:len≤Rows.uptoBulk d:=by
   have:=zui 1 ((List.range len).map D) (λd _=>zjm d)
   rw[List.length_map,List.length_range]at this
   rw[hx.1]
   simp only[Rows.uptoBulk]
   omega
  by_cases h0:len=0
  ·subst h0
   exact⟨[],some a,m,z,hc',⟨some a,m,rfl,Nat.zero_le _,λh=>absurd rfl h⟩,hz,Nat.zero_le _⟩
  ·have hs:=zcn (hF 0 (by omega))
   obtain⟨b,off,spot⟩:=a
   have hs:spot=none:=hs
   subst hs
   have hb:b<W.heap.size:=World.block_lt_of_cell? W _ (hF 0 (by omega))
   refine⟨(List.range len).map F,some ⟨b,off,none⟩,m,b,by rw[hfl];exact hc',⟨some ⟨b,off,none⟩,m,rfl,by rw[hfl];exact hl,λ_=>⟨hb,off,rfl,λj hj=>?_⟩⟩,hb,by rw[hfl];exact hbk⟩
   have hj':j<len:=by rw[hfl]at hj;exact hj
   have:=hF j hj'
   rw[add_plain]at this
   rw[this,List.getD_eq_getElem?_getD,List.getElem?_map,List.getElem?_range hj']
   rfl
theorem ziv {n:Nat}{v:Value}{d:DataW H}{pl:List MemPlace}(h:DataW.trod enc Tryz.prog W 0 (λ_=>true) true n 37 [v]=some (d,pl))(hb:Rows.uptoBulk d≤1048576):∃fs,FIn W v fs (λb=>b<W.heap.size):=by
 rcases Deep.open_slice1 Tryz.underlying37 zj2 h with ⟨hc,_⟩|⟨a,len,cap,m,n,V,D,Pl,hc,_,hl,_,hm,hx,hel⟩
 ·have hc':v = .slice none 0 0:=by simpa using hc
  rw[hc']
  exact⟨[],none,0,rfl,by simp,λh=>absurd rfl h⟩
 ·have hc':v = .slice (some a) len cap:=by simpa using hc
  simp only[Prod.mk.injEq]at hx
  simp only[if_true]at hm
  subst hm
  rw[hx.1]at hb
  simp only[Rows.uptoBulk]at hb
  have hlen:len≤1100000:=by
   have:=zui 1 ((List.range len).map D) (λd _=>zjm d)
   rw[List.length_map,List.length_range]at this
   omega
  by_cases h0:len=0
  ·subst h0
   rw[hc']
   exact⟨[],some a,m,rfl,by simp,λh=>absurd rfl h⟩
  ·have hs:=zcn (hel 0 (by omega)).1
   obtain⟨b,off,spot⟩:=a
   have hs:spot=none:=hs
   subst hs
   have hbl:b<W.heap.size:=World.block_lt_of_cell? W _ (hel 0 (by omega)).1
   obtain⟨F,hF⟩:=Deep.choose_lt (α:=List UInt8) (n:=len) (p:=λi f=>∃(p:Option Addr) (c g:Nat),V i = .slice p f.length c∧RdN W (.slice p f.length c) f g∧g<W.heap.size∧f.length≤1100000) (λi hi=>by
    obtain⟨f,p,c,g,e,h1,h2,h3⟩:=zhv (hel i (by omega)).2 b hbl
    have:=z8j (d:=D i) (l:=(List.range len).map D) (List.mem_map.2 ⟨i,List.mem_range.2 hi,rfl⟩)
    exact⟨f,p,c,g,e,h1,h2,by omega⟩)
   have hfl:((List.range len).map F).length=len:=by simp
   refine⟨(List.range len).map F,some ⟨b,off,none⟩,m,by rw[hfl];exact hc',by rw[hfl];exact hlen,λ_=>⟨b,off,rfl,hbl,hbl,λi f hf=>?_⟩⟩
   have hi:i<len:=by
    have:=(List.getElem?_eq_some_iff.1 hf).1
    rw[hfl]at this;exact this
   rw[List.getElem?_map,List.getElem?_range hi]at hf
   have hf:F i=f:=by simpa using hf
   subst hf
   obtain⟨p,c,g,e,h1,h2,h3⟩:=hF i hi
   have hcell:=(hel i (by omega)).1
   rw[add_plain,e]at hcell
   exact⟨p,_,c,g,hcell,h1,h2,h3⟩
theorem zdp {n:Nat}{cs:List Value}{d:DataW H}{pl:List MemPlace}(h:DataW.trod enc Tryz.prog W 0 (λ_=>true) true n 71 cs=some (d,pl)):(∃x:S8,x.ok∧cs=x.cells∧(Rows.uptoBulk d≤1048576→∃fs,FIn W x.vl fs (λb=>b<W.heap.size)))∧9≤Rows.uptoBulk d:=by
 obtain⟨xs,k,_,hx,hlen,hxl,hf⟩:=DataW.trod_struct Tryz.underlying71 h
 rw[zrp]at hlen
 simp only[Prod.mk.injEq]at hx
 have hxl8:xs.length=8:=hxl
 refine⟨?_,?_⟩
 ·obtain⟨c0,c1,c2,c3,c4,c5,c6,c7,rfl⟩:=z9u hlen
  have one:∀(j:Nat),j<8→∃y,xs[j]?=some y:=λj hj=>⟨_,List.getElem?_eq_getElem (by omega)⟩
  obtain⟨y0,e0⟩:=one 0 (by omega)
  obtain⟨y1,e1⟩:=one 1 (by omega)
  obtain⟨y2,e2⟩:=one 2 (by omega)
  obtain⟨y3,e3⟩:=one 3 (by omega)
  obtain⟨y4,e4⟩:=one 4 (by omega)
  obtain⟨y5,e5⟩:=one 5 (by omega)
  obtain⟨y6,e6⟩:=one 6 (by omega)
  have g0:DataW.trod enc Tryz.prog W 0 (λ_=>true) true k 3 (([c0,c1,c2,c3,c4,c5,c6,c7].drop 0).take (Tryz.prog.cellsOf 3))=some y0:=(hf 0 _ rfl).trans e0
  have g1:DataW.trod enc Tryz.prog W 0 (λ_=>true) true k 3 (([c0,c1,c2,c3,c4,c5,c6,c7].drop 1).take (Tryz.prog.cellsOf 3))=some y1:=(hf 1 _ rfl).trans e1
  have g2:DataW.trod enc Tryz.prog W 0 (λ_=>true) true k 3 (([c0,c1,c2,c3,c4,c5,c6,c7].drop 2).take (Tryz.prog.cellsOf 3))=some y2:=(hf 2 _ rfl).trans e2
  have g3:DataW.trod enc Tryz.prog W 0 (λ_=>true) true k 3 (([c0,c1,c2,c3,c4,c5,c6,c7].drop 3).take (Tryz.prog.cellsOf 3))=some y3:=(hf 3 _ rfl).trans e3
  have g4:DataW.trod enc Tryz.prog W 0 (λ_=>true) true k 9 (([c0,c1,c2,c3,c4,c5,c6,c7].drop 4).take (Tryz.prog.cellsOf 9))=some y4:=(hf 4 _ rfl).trans e4
  have g5:DataW.trod enc Tryz.prog W 0 (λ_=>true) true k 9 (([c0,c1,c2,c3,c4,c5,c6,c7].drop 5).take (Tryz.prog.cellsOf 9))=some y5:=(hf 5 _ rfl).trans e5
  have g6:DataW.trod enc Tryz.prog W 0 (λ_=>true) true k 37 (([c0,c1,c2,c3,c4,c5,c6,c7].drop 6).take (Tryz.prog.cellsOf 37))=some y6:=(hf 6 _ rfl).trans e6
  rw[zi2]at g6
  rw[zl3]at g0 g1 g2 g3
  rw[zn3]at g4 g5
  obtain⟨z0,q0,_,w0⟩:=DataW.trod_int Tryz.underlying3 g0
  obtain⟨z1,q1,_,w1⟩:=DataW.trod_int Tryz.underlying3 g1
  obtain⟨z2,q2,_,w2⟩:=DataW.trod_int Tryz.underlying3 g2
  obtain⟨z3,q3,_,w3⟩:=DataW.trod_int Tryz.underlying3 g3
  obtain⟨z4,q4,_,w4⟩:=DataW.trod_string Tryz.underlying9 g4
  obtain⟨z5,q5,_,w5⟩:=DataW.trod_string Tryz.underlying9 g5
  simp at q0 q1 q2 q3 q4 q5
  subst q0;subst q1;subst q2;subst q3;subst q4;subst q5
  have rng:∀z:Int,(Lit.int .i64 z).wf=true→-9223372036854775808≤z∧z≤9223372036854775807:=λz h=>by
   have m0:IntKind.i64.min = -9223372036854775808:=rfl
   simp[Lit.wf]at h
   omega
  exact⟨⟨z0,z1,z2,z3,z4,z5,c6,c7⟩,⟨rng z1 w1,rng z2 w2,rng z3 w3,w4,w5⟩,rfl,λhb=>ziv (d:=y6.1) (pl:=y6.2) (v:=c6) g6 (by
   rw[hx.1]at hb
   simp only[Rows.uptoBulk]at hb
   have:=z8j (d:=y6.1) (l:=xs.map (·.1)) (List.mem_map.2 ⟨y6,List.mem_of_getElem? e6,rfl⟩)
   omega)⟩
 ·rw[hx.1]
  have:=zui 1 (xs.map (·.1)) (λd _=>zjm d)
  rw[List.length_map,hxl8]at this
  simp only[Rows.uptoBulk]
  omega
theorem z4s {v:Value}{d:DataW H}{pl:List MemPlace}(hv:∃a len cap,v = .slice a len cap)(h:DataW.Trod enc Tryz.prog W 0 (λ_=>true) true 22 v d pl)(hb:Rows.uptoBulk d≤1048576):∃n f,zfu W v n f∧n<120000:=by
 obtain⟨a0,len0,cap0,rfl⟩:=hv
 obtain⟨fuel,hf⟩:=h
 rcases Deep.open_slice Tryz.underlying22 hf with ⟨hc,_⟩|⟨a,len,cap,m,n,D,Pl,hc,_,hl,_,hm,hx,hel⟩
 ·have hc':Value.slice a0 len0 cap0 = .slice none 0 0:=by simpa [Value.cells] using hc
  rw[hc']
  exact⟨0,λ_=>zqx,⟨⟨none,0,rfl,λh=>absurd h (by omega)⟩,λi hi=>absurd hi (by omega)⟩,by omega⟩
 ·have hc':Value.slice a0 len0 cap0 = .slice (some a) len cap:=by simpa [Value.cells] using hc
  rw[hc']
  simp only[Prod.mk.injEq]at hx
  simp only[if_true]at hm
  subst hm
  rw[zrp]at hel
  have hlen:len<120000:=by
   have h9:=zui 9 ((List.range len).map D) (λd hd=>by
    obtain⟨i,hi,rfl⟩:=List.mem_map.1 hd
    obtain⟨cs',_,h2⟩:=hel i (by have:=List.mem_range.1 hi;omega)
    exact (zdp h2).2)
   rw[List.length_map,List.length_range]at h9
   rw[hx.1]at hb
   simp only[Rows.uptoBulk]at hb
   omega
  haveI:Inhabited S8:=⟨zqx⟩
  obtain⟨f,hfs⟩:=Deep.choose_lt (α:=S8) (n:=len) (p:=λi x=>x.ok∧W.cells? 0 (a.add (i*8)) 8=some x.cells∧∃fs,FIn W x.vl fs (λb=>b<W.heap.size)) (λi hi=>by
   obtain⟨cs',h1,h2⟩:=hel i (by omega)
   obtain⟨⟨x,hok,rfl,hfi⟩,_⟩:=zdp h2
   refine⟨x,hok,h1,hfi ?_⟩
   have hm:=z8j (d:=D i) (l:=(List.range len).map D) (List.mem_map.2 ⟨i,List.mem_range.2 hi,rfl⟩)
   rw[hx.1]at hb
   simp only[Rows.uptoBulk]at hb
   omega)
  refine⟨len,f,⟨⟨some a,_,rfl,λh0=>?_⟩,λi hi=>(hfs i hi).2.2⟩,hlen⟩
  have cell:∀i,i<len→∀k,k<8→W.cell? ((a.add (i*8)).add k)=(f i).cells[k]?:=λi hi k hk=>(World.cells?_some (hfs i hi).2.1).2.2 k hk
  have hspot:a.spot=none:=by
   have h1:=cell 0 h0 0 (by omega)
   have h2:(a.add (0*8)).add 0=a:=by simp[Addr.add]
   rw[h2]at h1
   have h3:W.cell? a=some (.int .i64 (f 0).kind):=h1
   unfold World.cell? at h3
   cases hsp:a.spot with
   |none=>rfl
   |some _=>
    rw[hsp]at h3
    split at h3
    ·simp at h3
    ·cases h3
  obtain⟨b,off,spot⟩:=a
  dsimp only at hspot
  subst hspot
  refine⟨b,off,rfl,⟨λi hi k v hv=>?_,?_,λi hi=>(hfs i hi).1⟩⟩
  ·have hk:k<8:=by
    have:=(List.getElem?_eq_some_iff.1 hv).1
    simpa [S8.cells] using this
   have:=cell i hi k hk
   rw[add_plain,add_plain]at this
   rw[this];exact hv
  ·have h1:=cell 0 h0 0 (by omega)
   rw[add_plain,add_plain]at h1
   exact World.block_lt_of_cell? W ⟨b,off+0*8+0,none⟩ (u:=.int .i64 (f 0).kind) h1
theorem z5u {W W':World}(k:Kp (λ_=>False) W W')(may:MemPlace→Prop):W.keptBut W' may:=by
 refine⟨k.os,k.output,λi hi=>?_⟩
 rw[k.block i hi (λh=>h)]
 split
 ·rename_i c t fr c' t' fr' h1 h2
  rw[h1]at h2
  injection h2 with h2
  injection h2 with h2 h3 h4
  subst h2;subst h3;subst h4
  exact⟨rfl,rfl,rfl,λ_ _=>rfl⟩
 ·rename_i es clock es' clock' h1 h2
  rw[h1]at h2
  injection h2 with h2
  injection h2 with h2 h3
  exact Or.inr ⟨h2.symm,h3.symm⟩
 ·rfl
theorem z5w {W W':World}(k:Kp (λ_=>False) W W')(p:MemPlace)(hp:p.block<W.heap.size):W.sameAt W' p:=by
 cases p with
 |cell b off=>exact k.cell (a:=⟨b,off,none⟩) hp (λh=>h)
 |map b=>exact k.block b hp (λh=>h)
end
end
section
open Go.ChangeShapes Go.WideShapes Go.ChangeAt Go.RowKit
abbrev z7u:List (String × DataW Unit):=Rows.txsRow.laid
def zk4:String:=match z7u with|x::_=>x.1 | []=>Rows.txsRow.func
def z83:String:=match z7u with|_::x::_=>x.1|_=>Rows.txsRow.func
theorem z92:Tryz.prog.globalNamed zk4=some 0:=by kernel_rfl
theorem z70:Tryz.prog.globalNamed z83=some 1:=by kernel_rfl
theorem zm4:(Tryz.prog.globals[0]?).map (·.type)=some 349:=by kernel_rfl
theorem z93:(Tryz.prog.globals[1]?).map (·.type)=some 349:=by kernel_rfl
theorem zx3:Tryz.prog.cellsOf 230=1:=by kernel_rfl
def zh3:DataW Unit→Int
 |.lit (.int _ n)=>n
 |_=>0
def zcl:DataW Unit→List Int
 |.agg l=>l.map zh3
 |_=>[]
theorem zx1:zcl Rows.laid_palimpsest_sums_lowSums=(List.range 128).map λi=>(zje i:Int):=by decide +kernel
theorem zdz:zcl Rows.laid_palimpsest_sums_highSums=(List.range 128).map λi=>(zje (i+128):Int):=by decide +kernel
theorem z9l {W:World}{n:String}{g:Nat}{d:DataW Unit}{cs:Array Value}{fuel:Nat}{ps:List MemPlace}{f:Nat→Nat}(hg:Tryz.prog.globalNamed n=some g)(hv:W.var? Tryz.prog n=some cs)(hd:DataW.trod (λ_=>()) Tryz.prog W 0 (λ_=>true) false fuel 349 cs.toList=some (d,ps))(hp:zcl d=(List.range 128).map λi=>(f i:Int)) :
  ∀i:Nat,i<128→W.cell? ⟨g,i,none⟩=some (.int .u32 (f i:Nat)):=by
 intro i hi
 obtain⟨xs,m,_,hx,_,hxl,hel⟩:=DataW.trod_array Tryz.underlying349 hd
 have h0:=hel i hi
 rw[zx3,Nat.mul_one]at h0
 rw[List.getElem?_eq_getElem (by omega)]at h0
 obtain⟨k,e1,e2,_⟩:=DataW.trod_int Tryz.underlying230 h0
 have hk:k=(f i:Int):=by
  have h1:(zcl d)[i]?=some (f i:Int):=by rw[hp,List.getElem?_map,List.getElem?_range hi];rfl
  have hd':d = .agg (xs.map (·.1)):=by injection hx
  rw[hd']at h1
  simp only[zcl,List.map_map,List.getElem?_map]at h1
  rw[List.getElem?_eq_getElem (by omega),e2]at h1
  simpa [zh3] using h1
 subst hk
 rw[World.var?_cell hg hv i]
 rw[← Array.getElem?_toList]
 have:(cs.toList.drop i).head?=some (.int .u32 (f i:Nat)):=by
  have h2:=congrArg List.head? e1
  rw[List.head?_take]at h2
  simpa using h2
 rw[List.head?_drop]at this
 exact this
theorem zit {W:World}(h:laidMetH Tryz.prog z7u W):Tab W:=by
 rw[MakeChecks.laidMetH_plain _ _ _ (by kernel_rfl)]at h
 obtain⟨ps,⟨g0,t0,cs0,f0,p0,q0,hg0,ht0,hv0,hd0,⟨g1,t1,cs1,f1,p1,q1,hg1,ht1,hv1,hd1,_,_⟩,_⟩,_,_⟩:=h
 obtain rfl:=Option.some.inj (z92.symm.trans hg0)
 obtain rfl:=Option.some.inj (z70.symm.trans hg1)
 obtain rfl:=Option.some.inj (zm4.symm.trans ht0)
 obtain rfl:=Option.some.inj (z93.symm.trans ht1)
 exact λi hi=>⟨z9l z92 hv0 hd0 zx1 i hi,z9l (f:=λi=>zje (i+128)) z70 hv1 hd1 zdz i hi⟩
end
section
theorem zvp {P:Program}{m:Machine}{w:World}{t:Trace}(h:aloneAtReturn P m w t):leavingAtReturn P m w t:=⟨h.2.1,onlyLeaving_of_quiet h.1,h.2.2⟩
abbrev lv (c:OpenClaim)(b:Bool):OpenClaim:={ c with leaving:=b }
theorem z2q {c:OpenClaim}(hst:c.start = .entering)(hs:c.stops=[]){C:Checked}{os:Os}{f:FuncId}{L:List FuncId}{Pre:World→Array Value→Prop}{Post:Stop.Interp→World→Array Value→Value→World→Prop}
  (h:(lv c false).form C os f L Pre Post):(lv c true).form C os f L Pre Post:=by
 unfold OpenClaim.form at h ⊢
 have e1:∀b,(lv c b).start = .entering:=λ_=>hst
 have e2:∀b,(lv c b).stops=[]:=λ_=>hs
 rw[e1,e2]at h ⊢
 exact λF=>ReturnsInOpen.mono (atReturn:=aloneAtReturn C.prog) (λ_ _ _ h=>zvp h) (λ_ h=>h) (h F)
theorem z0p {p:Pinned}{s:OpenSpec}{c:OpenClaim}(hst:c.start = .entering)(hs:c.stops=[])(hw:(lv c true).wf s=true)(h:(lv c false).holds p s):(lv c true).holds p s:=by
 obtain⟨_,a1,a2,a3,a4,a5,a6,a7,f,fn,b1,b2,b3,b4,b5,b6,b7,b8,b9,b10,b11,b12,b13,b14,b15,b16,b17,b18,b19,b20,b21,L,hL,hF⟩:=h
 exact⟨hw,a1,a2,a3,a4,a5,a6,a7,f,fn,b1,b2,b3,b4,b5,b6,b7,b8,b9,b10,b11,b12,b13,b14,b15,b16,b17,b18,b19,b20,b21,L,hL,λos h1 h2 H enc inj=>z2q hst hs (hF os h1 h2 H enc inj)⟩
theorem zdw {p:Pinned}{s:OpenSpec}{c:OpenClaim}(kinds:List LaidKind)(har:Bool × String)(lk:Bool)
  (hc:c.holds p s) (hw:c.wfByText s=true) (htie:c.laidByTextAt .later p kinds true)
  (hst:c.start = .entering) (hnb:c.noBlocks=false∧c.again=false) (hm:p.checked.prog.mainIs=some (har.1,har.2.toList)) (hn:(!har.1 && har.2.isEmpty && !lk)=false)
  (hl:∀f fn,p.checked.prog.funcNamed c.func=some f→p.checked.prog.funcs[f]?=some fn→lk=p.checked.prog.looks []∧∀(j:Nat) t,fn.params[j]?=some t→p.checked.prog.wantsStandIn t=false)
  (hg:true=c.goesBy p.checked.prog) :
  Claim7.holds p (.plain s) { stood:={ row:=c,standIns:=[],harness:=har,looks:=lk },kinds:=[],alts:=[],goes:=true,laidByText:=true,laidKinds:=kinds,laidTests:=true,laidLooks:=.later }:=by
 refine⟨Claim7.tied_new_at .later kinds true (Claim7.new_of_sixth hc har lk hst hnb hm (by simpa [Claim7.isSixth] using hn) hl) hw,λD hD=>?_,htie,λh=>?_,hg⟩
 ·cases hD
 ·cases h
end
section
theorem zd1 {a b:Bool}(h1:a=true)(h2:b=true):(a && b)=true:=by rw[h1,h2];rfl
set_option maxRecDepth 100000 in
theorem z61:laidOutB Tryz.prog=true:=by kernel_rfl
set_option maxRecDepth 100000 in
theorem z71:mapsRowed Tryz.prog=true:=by kernel_rfl
set_option maxRecDepth 100000 in
theorem z3z:(Tryz.prog.stops == [])=true:=by kernel_rfl
set_option maxRecDepth 100000 in
theorem z2z:(Tryz.prog.stopKnobs == [])=true:=by kernel_rfl
set_option maxRecDepth 100000 in
theorem z51:(false == Tryz.prog.plainKeys)=true:=by kernel_rfl
set_option maxRecDepth 100000 in
theorem z1z:Tryz.prog.stopsHeard=true:=by kernel_rfl
set_option maxRecDepth 100000 in
theorem z0z:Tryz.prog.mayEnter=true:=by kernel_rfl
end
end Go.Proofs.YthbdpfccfcceiaaGreatDoor
