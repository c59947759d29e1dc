/-
  Of hurt_card.
-/
import Derived.Conc.FxGenWait
import Derived.Test.YthbdpfccfcceiaaGreatDoorZH1x
import Derived.Conc.Own2
import Derived.Conc.WgLib
import Derived.KernelRfl
import Derived.Conc.FxGenLone
set_option linter.all false
namespace Go.Proofs.YthbdpfccfcceiaaGreatDoor
set_option maxRecDepth 100000
set_option maxHeartbeats 8000000
open Go.Proofs.Tryz
variable {bs:Option Addr}{K b4 b8 b9 c r s:Nat}{ea:Addr}{en:D}{d:Int}
section
open Go.Conc Go.ConcX Go.ConcX.Gen Go.RowKit Go.Conc.Lib
open Go.ConcX (WgAt KK stA smA rd wr mk)
section
variable (P:Ad)(M:dI)(gr:Ah)
abbrev gJ (st a:Int)(w:Z):Prop:=WgAt M.tWg M.Wg w st a
def KA (w:Z):Prop:=gJ M KK 0 w\/gJ M 0 0 w
def RA (w w':Z):Prop:=(KA M w->KA M w')/\(gJ M 0 0 w->gJ M 0 0 w')
def KB (w:Z):Prop:=gJ M (KK+1) 0 w\/gJ M 1 0 w\/gJ M 0 0 w\/gJ M 0 1 w
def RB (w w':Z):Prop:=KB M w->KB M w'
def A7 (g:Ah)(w:Z):Prop:=g.status = .running/\∃a,stepG P true g w = .go a w #[mk (.acquire (stA M.Wg))]/\∃m,Goes P true AtRel DQ (λg _=>g=gr) m a w
def uP (g:Ah)(w:Z):Prop:=g.status = .running/\∃a,stepG P true g w = .go a w #[mk .enable]/\∃m,Goes P true AtRel DQ (A7 P M gr) m a w
def W4 (g:Ah)(w:Z):Prop:=g.status = .running/\(gJ M 0 0 w->∃a,stepG P true g w = .go a w #[rd (stA M.Wg)]/\∃m,Goes P true AtRel DQ (uP P M gr) m a w)
def xS (g:Ah)(_:Z):Prop:=g.status = .running/\g.offers=none/\∀w,((∃st,gJ M st 0 w)->stepG P true g w = .go { g with status:=.blocked } w #[])/\
 (gJ M 0 1 w->∃a,stepG P true g w = .go a (w.setCell (smA M.Wg) (.int .u32 0)) (semEvents (smA M.Wg))/\∃m,Goes P true AtRel DQ (W4 P M gr) m a (w.setCell (smA M.Wg) (.int .u32 0)))
def A8 (g:Ah)(w:Z):Prop:=g.status = .running/\∃a,stepG P true g w = .go a w #[⟨.mark (.write ⟨M.Wg,1,none⟩),false,true⟩]/\∃m,Goes P true (RB M) DQ (xS P M gr) m a w
def A6 (g:Ah)(w:Z):Prop:=g.status = .running/\(gJ M 0 0 w->∃a,stepG P true g w = .go a w #[rd (stA M.Wg)]/\∃m,Goes P true AtRel DQ (uP P M gr) m a w)
def W2 (g:Ah)(w:Z):Prop:=g.status = .running/\
 (gJ M KK 0 w->∃a,stepG P true g w = .go a (w.setCell (stA M.Wg) (.int .u64 (KK+1))) #[rd (stA M.Wg),wr (stA M.Wg)]/\∃m,Goes P true (RB M) DQ (A8 P M gr) m a (w.setCell (stA M.Wg) (.int .u64 (KK+1))))/\
 (gJ M 0 0 w->∃a,stepG P true g w = .go a w #[rd (stA M.Wg)]/\∃m,Goes P true (RA M) DQ (A6 P M gr) m a w)
def W1 (g:Ah)(w:Z):Prop:=g.status = .running/\
 (gJ M KK 0 w->∃a,stepG P true g w = .go a w #[rd (stA M.Wg)]/\∃m,Goes P true (RA M) DQ (W2 P M gr) m a w)/\
 (gJ M 0 0 w->∃a,stepG P true g w = .go a w #[rd (stA M.Wg)]/\∃m,Goes P true AtRel DQ (uP P M gr) m a w)
def uO (g:Ah)(w:Z):Prop:=g.status = .running/\∃a,stepG P true g w = .go a w #[mk .disable]/\∃m,Goes P true (RA M) DQ (W1 P M gr) m a w
end
def LL{M:dI}{w:Z}(h:KB M w):∃v,w.cell? ⟨M.Wg,1,none⟩=some v:=by rcases h with x|x|x|x<;>exact⟨_,x.cellSm⟩
variable {L:WgLink}
def Rf{P:Ad}(H:WgLib P L){M:dI}(hM:M.tWg=L.tWg){b₀:Ai}{a₀:Act}{ops₀:Am}{i₀:Nat}{rest₀:List Nat}{k₀:List Item}{cs:List Ai}(w:Z)(g:KA M w) :
  Goes P true (RA M) DQ (uO P M (G (b₀.at (a₀.put ((ops₀[i₀]?).bind (·.dst)) (.tuple #[])) (.inRegion ops₀ rest₀::k₀)) cs)) 30 (G ((base L.wait).at ⟨#[ab M.Wg]++Array.replicate ((waitFn L).ntmps-1) undef,[]⟩ [.code ((waitFn L).body.getD .skip)]) (b₀.at a₀ (.inRegion ops₀ (i₀::rest₀)::k₀)::cs)) w:=by
 lib_facts
 have j:∀{w o:Z},KA M w->RA M w o->KA M o:=λh r=>r.1 h
 have f:∀{w o:Z},gJ M 0 0 w->AtRel w o->gJ M 0 0 o:=λh r=>by obtain⟨d,rfl⟩:=r;exact h
 simp only[waitFn,aC]
 walk_nrm
 u_c bP j g
 u_cond true j g
 u_reg j g
 refine Goes.stop (λo D=>?_)
 replace g:=j g D
 clear D;refine⟨rfl,_,stepG_mark0 .disable (by simp) rfl rfl (by k_ne) rfl H.f_disable (x_disable_n L) (x_disable_b L) (x_disable_x L) (x_disable_f L),90,?_⟩
 walk_nrm
 u_c bJ j g
 u_c stepG_block j g
 u_c stepG_loop j g
 u_c stepG_block j g
 u_c bP j g
 u_reg j g
 iterate 3 u_op j g
 u_call H.f_uLoad (nm_uLoad L) uLoadFn j g
 u_c bP j g
 u_reg j g
 u_op j g
 u_c bJ j g
 u_c bP j g
 u_reg j g
 iterate 3 u_op j g
 refine Goes.stop (λo D=>?_)
 replace g:=j g D
 clear D;refine⟨rfl,λa=>?_,λa=>?_⟩
 .refine⟨_,stepG_load_atomic (v:=4294967296) rfl rfl (by k_ne) rfl H.f_loadU64 (x_loadU64_n L) (x_loadU64_b L) (x_loadU64_x L) .u64 (x_loadU64_f L) rfl a.cellSt,90,?_⟩;clear a
  walk_nrm
  u_op j g
  u_c bJ j g
  u_c stepG_ret' j g
  u_leave1 H.f_uLoad j g
  u_op j g
  u_c bJ j g
  u_c bP j g
  u_reg j g
  iterate 4 u_op j g
  u_c bJ j g
  u_c bP j g
  u_reg j g
  iterate 4 u_op j g
  u_c bJ j g
  iterate 2 u_c bP j g
  u_reg j g
  iterate 2 u_op j g
  u_c bJ j g
  u_cond false j g
  u_c stepG_skip j g
  u_c bP j g
  u_reg j g
  iterate 6 u_op j g
  u_call H.f_uCas (nm_uCas L) uCasFn j g
  u_c bP j g
  u_reg j g
  u_op j g
  u_c bJ j g
  u_c bP j g
  u_reg j g
  iterate 5 u_op j g
  refine Goes.stop (λY Q=>?_)
  replace g:=j g Q
  clear Q;refine⟨rfl,λa=>?_,λa=>?_⟩
  .refine⟨_,(stepG_cas_hit (v:=4294967296) (n:=4294967297) rfl rfl (by k_ne) rfl H.f_casU64 (x_casU64_n L) (x_casU64_b L) (x_casU64_x L) .u64 (x_casU64_f L) rfl rfl rfl a.cellSt (a.thaw 0)).trans (by rfl),90,?_⟩;have rb:∀{w o:Z},KB M w->RB M w o->KB M o:=λh r=>r h
   have l:KB M (Y.setCell (stA M.Wg) (.int .u64 (KK+1))):=.inl (a.setSt _);clear a g
   walk_nrm
   u_op rb l
   u_c bJ rb l
   u_c stepG_ret' rb l
   u_leave1 H.f_uCas rb l
   u_c bJ rb l
   u_cond true rb l
   iterate 2 u_c bP rb l
   u_reg rb l
   iterate 4 u_op rb l
   u_c bJ rb l
   u_cond true rb l
   u_reg rb l
   iterate 3 u_op rb l
   u_conv H.underlying_tPU32 H.room_tU32 (LL l).choose_spec rb l
   refine Goes.stop (λan R=>?_)
   replace l:=rb l R
   clear R;refine⟨rfl,_,stepG_markAt .write (by simp) rfl rfl (by k_ne) rfl H.f_raceWrite (x_raceWrite_n L) (x_raceWrite_b L) (x_raceWrite_x L) (x_raceWrite_f L) (ad:=⟨_,1,none⟩) (by simp[Act.eval]<;>rfl),90,?_⟩
   walk_nrm
   u_c bJ rb l
   u_c bP rb l
   u_reg rb l
   u_op rb l
   u_c bJ rb l
   iterate 2 u_c bP rb l
   u_reg rb l
   iterate 4 u_op rb l
   u_skip rb l
   u_op rb l
   u_c bJ rb l
   u_cond false rb l
   u_c stepG_skip rb l
   u_c bP rb l
   u_reg rb l
   iterate 4 u_op rb l
   refine Goes.stop (λa0 W=>?_);clear W l;refine⟨rfl,rfl,λw=>⟨λ⟨st,a⟩=>stepG_semacquire_wait rfl rfl rfl H.f_semacquire (x_semacquire_n L) (x_semacquire_b L) (x_semacquire_x L) (x_semacquire_f L) (by simp[Act.eval,smA]) a.cellSm,λa=>?_⟩⟩;refine⟨_,(stepG_semacquire (n:=1) rfl rfl (by k_ne) rfl H.f_semacquire (x_semacquire_n L) (x_semacquire_b L) (x_semacquire_x L) (x_semacquire_f L) (by simp[Act.eval,smA]) a.cellSm (by k_ne) (a.thaw 1)).trans (by rfl),60,?_⟩
   replace a:=a.setSm 0
   walk_nrm
   u_c bJ f a
   u_c bP f a
   u_reg f a
   iterate 3 u_op f a
   u_call H.f_uLoad (nm_uLoad L) uLoadFn f a
   u_c bP f a
   u_reg f a
   u_op f a
   u_c bJ f a
   u_c bP f a
   u_reg f a
   iterate 3 u_op f a
   refine Goes.stop (λam N=>⟨rfl,λa=>?_⟩);refine⟨_,stepG_load_atomic (v:=0) rfl rfl (by k_ne) rfl H.f_loadU64 (x_loadU64_n L) (x_loadU64_b L) (x_loadU64_x L) .u64 (x_loadU64_f L) rfl a.cellSt,90,?_⟩;clear N
   walk_nrm
   u_op f a
   u_c bJ f a
   u_c stepG_ret' f a
   u_leave1 H.f_uLoad f a
   iterate 2 u_op f a
   u_c bJ f a
   u_c bP f a
   u_cond true f a
   u_c bP f a
   u_reg f a
   refine Goes.stop (λS y=>?_)
   replace a:=f a y
   clear y;refine⟨rfl,_,stepG_mark0 .enable (by simp) rfl rfl (by k_ne) rfl H.f_enable (x_enable_n L) (x_enable_b L) (x_enable_x L) (x_enable_f L),60,?_⟩
   walk_nrm
   u_c bJ f a
   u_reg f a
   u_op f a
   u_conv H.underlying_tWgP H.room_tWg (show World.cell? _ ⟨M.Wg,0,none⟩=some _ from a.cellSt) f a
   refine Goes.stop (λU B=>?_)
   replace a:=f a B
   clear B;refine⟨rfl,_,stepG_markAt .acquire (by simp) rfl rfl (by k_ne) rfl H.f_acquire (x_acquire_n L) (x_acquire_b L) (x_acquire_x L) (x_acquire_f L) (by simp[Act.eval,stA]),60,?_⟩
   walk_nrm
   u_c bJ f a
   iterate 2 u_c bP f a
   u_reg f a
   u_op f a
   u_c bJ f a
   u_cond false f a
   u_c stepG_skip f a
   u_c stepG_ret' f a
   u_leave0 H.f_wait f a
   exact Goes.stop λ_ _=>rfl
  .refine⟨_,stepG_cas_miss (v:=0) (old:=4294967296) (n:=4294967297) rfl rfl (by k_ne) rfl H.f_casU64 (x_casU64_n L) (x_casU64_b L) (x_casU64_x L) .u64 (x_casU64_f L) rfl rfl rfl a.cellSt (a.thaw 0) (by decide),90,?_⟩;have C:∀{w o:Z},gJ M 0 0 w->RA M w o->gJ M 0 0 o:=λh r=>r.2 h
   clear g
   walk_nrm
   u_op C a
   u_c bJ C a
   u_c stepG_ret' C a
   u_leave1 H.f_uCas C a
   u_c bJ C a
   u_cond false C a
   u_c stepG_skip C a
   u_c stepG_inBlock C a
   u_c stepG_inLoop C a
   u_c stepG_block C a
   u_c bP C a
   u_reg C a
   iterate 3 u_op C a
   u_call H.f_uLoad (nm_uLoad L) uLoadFn C a
   u_c bP C a
   u_reg C a
   u_op C a
   u_c bJ C a
   u_c bP C a
   u_reg C a
   iterate 3 u_op C a
   refine Goes.stop (λam N=>⟨rfl,λa=>?_⟩);refine⟨_,stepG_load_atomic (v:=0) rfl rfl (by k_ne) rfl H.f_loadU64 (x_loadU64_n L) (x_loadU64_b L) (x_loadU64_x L) .u64 (x_loadU64_f L) rfl a.cellSt,90,?_⟩;clear N
   walk_nrm
   u_op f a
   u_c bJ f a
   u_c stepG_ret' f a
   u_leave1 H.f_uLoad f a
   u_op f a
   u_c bJ f a
   u_c bP f a
   u_reg f a
   iterate 4 u_op f a
   u_c bJ f a
   u_c bP f a
   u_reg f a
   iterate 4 u_op f a
   u_c bJ f a
   iterate 2 u_c bP f a
   u_reg f a
   iterate 2 u_op f a
   u_c bJ f a
   u_cond true f a
   u_c bP f a
   u_cond true f a
   u_c bP f a
   u_reg f a
   refine Goes.stop (λS y=>?_)
   replace a:=f a y
   clear y;refine⟨rfl,_,stepG_mark0 .enable (by simp) rfl rfl (by k_ne) rfl H.f_enable (x_enable_n L) (x_enable_b L) (x_enable_x L) (x_enable_f L),60,?_⟩
   walk_nrm
   u_c bJ f a
   u_reg f a
   u_op f a
   u_conv H.underlying_tWgP H.room_tWg (show World.cell? _ ⟨M.Wg,0,none⟩=some _ from a.cellSt) f a
   refine Goes.stop (λU B=>?_)
   replace a:=f a B
   clear B;refine⟨rfl,_,stepG_markAt .acquire (by simp) rfl rfl (by k_ne) rfl H.f_acquire (x_acquire_n L) (x_acquire_b L) (x_acquire_x L) (x_acquire_f L) (by simp[Act.eval,stA]),60,?_⟩
   walk_nrm
   u_c bJ f a
   iterate 2 u_c bP f a
   u_reg f a
   iterate 8 u_op f a
   iterate 2 u_skip f a
   u_op f a
   u_c bJ f a
   u_cond false f a
   u_c stepG_skip f a
   u_c stepG_ret' f a
   u_leave0 H.f_wait f a
   exact Goes.stop λ_ _=>rfl
 .refine⟨_,stepG_load_atomic (v:=0) rfl rfl (by k_ne) rfl H.f_loadU64 (x_loadU64_n L) (x_loadU64_b L) (x_loadU64_x L) .u64 (x_loadU64_f L) rfl a.cellSt,90,?_⟩;clear g
  walk_nrm
  u_op f a
  u_c bJ f a
  u_c stepG_ret' f a
  u_leave1 H.f_uLoad f a
  u_op f a
  u_c bJ f a
  u_c bP f a
  u_reg f a
  iterate 4 u_op f a
  u_c bJ f a
  u_c bP f a
  u_reg f a
  iterate 4 u_op f a
  u_c bJ f a
  iterate 2 u_c bP f a
  u_reg f a
  iterate 2 u_op f a
  u_c bJ f a
  u_cond true f a
  u_c bP f a
  u_cond true f a
  u_c bP f a
  u_reg f a
  refine Goes.stop (λS y=>?_)
  replace a:=f a y
  clear y;refine⟨rfl,_,stepG_mark0 .enable (by simp) rfl rfl (by k_ne) rfl H.f_enable (x_enable_n L) (x_enable_b L) (x_enable_x L) (x_enable_f L),60,?_⟩
  walk_nrm
  u_c bJ f a
  u_reg f a
  u_op f a
  u_conv H.underlying_tWgP H.room_tWg (show World.cell? _ ⟨M.Wg,0,none⟩=some _ from a.cellSt) f a
  refine Goes.stop (λU B=>?_)
  replace a:=f a B
  clear B;refine⟨rfl,_,stepG_markAt .acquire (by simp) rfl rfl (by k_ne) rfl H.f_acquire (x_acquire_n L) (x_acquire_b L) (x_acquire_x L) (x_acquire_f L) (by simp[Act.eval,stA]),60,?_⟩
  walk_nrm
  u_c bJ f a
  iterate 2 u_c bP f a
  u_reg f a
  iterate 8 u_op f a
  iterate 2 u_skip f a
  u_op f a
  u_c bJ f a
  u_cond false f a
  u_c stepG_skip f a
  u_c stepG_ret' f a
  u_leave0 H.f_wait f a
  exact Goes.stop λ_ _=>rfl
end
section
open Go.Conc
open Go.ConcX (WgAt KK stA smA rd wr mk)
structure Lay where
 lo:Nat
 b4:Nat
 b8:Nat
 b9:Nat
 cS:Nat
 cD:Nat
 Wg:Nat
 tWg:Af
 en:D
 n:Nat
 bs:Option Addr
 V:Nat->Ak
structure Lay.Ks (A:Lay)(w:Z):Prop where
 size:A.lo<=w.heap.size
 r4:w.heap[A.b4]?=some (.cells #[A.en] 159)
 r8:w.heap[A.b8]?=some (.cells #[.chan (some A.cS)] 284)
 r9:w.heap[A.b9]?=some (.cells #[.chan (some A.cD)] 285)
 ef:∀ea,A.bs=some ea->∀j,j<A.n->∀i,i<4->w.cell? ((ea.add (j*4)).add i)=some ((A.V j).getD i undef)
 wg:∃st sm,WgAt A.tWg A.Wg w st sm
structure Lay.Ok (A:Lay):Prop where
 l4:A.b4<A.lo
 l8:A.b8<A.lo
 l9:A.b9<A.lo
 lS:A.cS<A.lo
 lD:A.cD<A.lo
 lW:A.Wg<A.lo
 le:∀ea,A.bs=some ea->0<A.n->ea.block<A.lo
 apart:A.b4≠A.b8/\A.b4≠A.b9/\A.b8≠A.b9/\A.cS≠A.b4/\A.cS≠A.b8/\A.cS≠A.b9/\A.cD≠A.b4/\A.cD≠A.b8/\A.cD≠A.b9/\A.Wg≠A.b4/\A.Wg≠A.b8/\A.Wg≠A.b9/\A.cS≠A.Wg/\A.cD≠A.Wg/\A.cS≠A.cD
 old:∀ea,A.bs=some ea->0<A.n->ea.block≠A.b4/\ea.block≠A.b8/\ea.block≠A.b9/\ea.block≠A.cS/\ea.block≠A.cD/\ea.block≠A.Wg
 Cb:∀m,A.en≠.int .u8 m
 nb:∀j,j<A.n->∀i,i<4->∀m,(A.V j).getD i undef≠.int .u8 m
section
variable {A:Lay}{w w':Z}
def iq (a:Addr)(i:Nat):(a.add i).block=a.block:=by unfold Addr.add;split<;>rfl
def Lay.Ks.jG (h:A.Ks w)(B:w.heap.size<=w'.heap.size)(f:w'.heap[A.b4]?=w.heap[A.b4]?)(g:w'.heap[A.b8]?=w.heap[A.b8]?)(l:w'.heap[A.b9]?=w.heap[A.b9]?)(o:∀ea,A.bs=some ea->0<A.n->w'.heap[ea.block]?=w.heap[ea.block]?)(C:∃st D,WgAt A.tWg A.Wg w' st D):A.Ks w':=by refine⟨aX h.size B,f.trans h.r4,g.trans h.r8,l.trans h.r9,λea a j y i r=>?_,C⟩;have:=h.ef ea a j y i r;unfold World.cell? at this ⊢;rw[iq,iq]at this ⊢;rw[o ea a (by omega)];exact this
def Lay.Ks.up (h:A.Ks w)(O:A.Ok)(o:∀k,k<w.heap.size->w'.heap[k]?=w.heap[k]?)(l:w.heap.size<=w'.heap.size):A.Ks w':=by
 have a:∀k,k<A.lo->w'.heap[k]?=w.heap[k]?:=λk g=>o k (aR g h.size)
 obtain⟨st,y,r⟩:=h.wg;exact h.jG l (a _ O.l4) (a _ O.l8) (a _ O.l9) (λea f j=>a _ (O.le ea f j)) ⟨st,y,(a _ O.lW).trans r⟩
def Lay.Ks.kL(h:A.Ks w)(O:A.Ok){z:Nat}(y:A.lo<=z)(f:jV z w w'):A.Ks w':=by
 have a:∀k,k<A.lo->w'.heap[k]?=w.heap[k]?:=λk r=>f.rest k (by omega)
 obtain⟨st,o,l⟩:=h.wg;exact h.jG (Nat.le_of_eq f.size.symm) (a _ O.l4) (a _ O.l8) (a _ O.l9) (λea g j=>a _ (O.le ea g j)) ⟨st,o,(a _ O.lW).trans l⟩
def Lay.Ks.chan(h:A.Ks w)(O:A.Ok)(g:c=A.cS\/c=A.cD){cap:Nat}{buf:Ak}{cl tm:Bool}:A.Ks (w.setChan c cap buf cl s r tm):=by
 have f:∀k,k≠c->(w.setChan c cap buf cl s r tm).heap[k]?=w.heap[k]?:=λk l=>by simp only[World.setChan];exact aS (Ne.symm l)
 obtain⟨st,C,B⟩:=h.wg;have a:=O.apart;refine h.jG (by simp[World.setChan]) (f _ ?_) (f _ ?_) (f _ ?_) (λea j y=>f _ ?_) ⟨st,C,(f _ ?_).trans B⟩
 all_goals (rcases g with rfl|rfl<;>(try have o:=O.old ea j y)<;>omega)
def Lay.Ks.group(h:A.Ks w)(O:A.Ok){st:Int}(l:w'.heap.size=w.heap.size)(f:∀k,k≠A.Wg->w'.heap[k]?=w.heap[k]?)(r:WgAt A.tWg A.Wg w' st d):A.Ks w':=by
 have a:=O.apart;refine h.jG (Nat.le_of_eq l.symm) (f _ ?_) (f _ ?_) (f _ ?_) (λea g j=>f _ ?_) ⟨st,d,r⟩
 all_goals ((try have o:=O.old ea g j)<;>omega)
def Lay.Ks.Mu(h:A.Ks w)(O:A.Ok){U:Addr->Prop}(C:∀a,U a->∃m,w.cell? ⟨a.block,a.off,none⟩=some (.int .u8 m))(l:gK U w w'):A.Ks w':=by
 have row:∀(k:Nat) (c:Ak) t,w.heap[k]?=some (.cells c t)->(∀(i:Nat) m,c[i]?≠some (.int .u8 m))->w'.heap[k]?=some (.cells c t):=by
  intro k c t M g;rcases l.old k _ M with e|⟨c1,e,R,N,e0,e1,e2,e3⟩
  .exact e
  .cases e0;have:N=c:=by refine Array.ext_getElem? λi=>e3 i λB=>?_;obtain⟨m,hm⟩:=C _ B;unfold World.cell? at hm;simp only[M]at hm;exact g i m (by simpa using hm)
   rw[this]at e1;exact e1
 have one:∀(x:D),(∀m,x≠.int .u8 m)->∀(i:Nat) m,(#[x]:Ak)[i]?≠some (.int .u8 m):=by
  intro x g i m e;cases i with
  |zero=>exact g m (by simpa using e)
  |succ i=>simp at e
 obtain⟨st,Q,P⟩:=h.wg;refine⟨aX h.size l.size,row _ _ _ h.r4 (one _ O.Cb),row _ _ _ h.r8 (one _ (by simp)),row _ _ _ h.r9 (one _ (by simp)),λea f j r i o=>?_,st,Q,?_⟩
 .refine l.cell (h.ef ea f j r i o) λB=>?_;obtain⟨m,hm⟩:=C _ B;have:=h.ef ea f j r i o;have y:((ea.add (j*4)).add i).spot=none:=by
   unfold World.cell? at this;split at this
   .split at this
    .cases this
    .rename_i S
     cases g:((ea.add (j*4)).add i).spot<;>simp_all
   .cases this
  have e:(⟨((ea.add (j*4)).add i).block,((ea.add (j*4)).add i).off,none⟩:Addr)=(ea.add (j*4)).add i:=by rw[<- y]
  rw[e,this]at hm;exact O.nb j r i o m (by simpa using hm)
 .refine row _ _ _ P λi m e=>?_
  match i with
  |0=>simp at e
  |1=>simp at e
  |i+2=>simp at e
end
end
section
open Go.Conc Go.RowKit
def wm:One prog 284:=⟨λw a=>by simp[go_sem],λw a=>by simp[go_sem]⟩
def zt:One prog 285:=⟨λw a=>by simp[go_sem],λw a=>by simp[go_sem]⟩
def Nf:One prog 159:=⟨λw a=>by simp[go_sem],λw a=>by simp[go_sem]⟩
def kZ (P:Ad):Ai:={ (default:Ai)with fn:=P.funcs.size,defers:=[],mode:=.panicking [goexitEntry] }
def baseD_kind (f:Ag):(baseD f).kind≠.early:=by intro h;cases h
structure nL (M:dI)(b4 b8 b9:Nat)(bs:Option Addr)(cap:Nat):Prop where
 c8:∀w,M.Ks w->w.cell? ⟨b8,0,none⟩=some (.chan (some M.cS))
 c9:∀w,M.Ks w->w.cell? ⟨b9,0,none⟩=some (.chan (some M.cD))
 c4:∀w,M.Ks w->w.cell? ⟨b4,0,none⟩=some (.slice bs M.n cap)
 r8:M.Rd (.cell ⟨b8,0,none⟩)
 r9:M.Rd (.cell ⟨b9,0,none⟩)
 r4:M.Rd (.cell ⟨b4,0,none⟩)
 wg:∀w,M.Ks w->ls M w
def jA (M:dI)(b4 b8 b9:Nat):Deferred:=⟨.fn (.func 183) #[ab M.Wg,ab b8,ab b4,ab b9],#[]⟩
def Qh (M:dI)(b4 b8 b9:Nat)(w:Z):stepG prog false (born prog (jA M b4 b8 b9)) w =
  .go (G ((baseD 183).at ⟨#[ab M.Wg,ab b8,ab b4,ab b9,undef,undef,undef,undef],[]⟩ [.code (f183.body.getD .skip)]) [kZ prog]) w #[]:=by
 have a:=func183;have g:(invoke (jA M b4 b8 b9).target (jA M b4 b8 b9).args).runT prog w #[]=(.ok (.enter 183 #[ab M.Wg,ab b8,ab b4,ab b9]) w,#[]):=by simp[jA,invoke,callFunc,a,go_sem,f183]
 have f:=enter_atD (P:=prog) #[ab M.Wg,ab b8,ab b4,ab b9] a (c:=f183.body.getD .skip) (by simp[f183]);have h:stepG prog false (born prog (jA M b4 b8 b9)) w=callDeferred prog (kZ prog) [] none (jA M b4 b8 b9) w:=rfl;rw[h];unfold callDeferred;rw[g];simp only[GStep.after];rw[if_neg (by simp[jA]),f,seen_none]
 rfl
def Qk{P:Ad}{M:dI}{main:Bool}{b:Ai}{a:Act}{k:List Item}{cs:List Ai}{w:Z}{ops:Am}{i:Nat}{rest:List Nat}{o:Oper}{x:Tmp}(B:ops[i]?=some o)(C:o.guard=none)(D:b.kind≠.early)
  (j:o.op = .defer ⟨.builtin .close,#[.tmp x],#[344]⟩) (y:o.type=0) (N:a.eval (.tmp x) = .chan (some M.cS)) :
  stepG P main (G (b.at a (.inRegion ops (i::rest)::k)) cs) w = .go (G (b.at (Act.put ⟨a.tmps,gX M::a.defers⟩ o.dst undef) (.inRegion ops rest::k)) cs) w #[]:=by
 have g:(execOp a.eval o).runT P w #[]=(.ok (.defer (gX M)) w,#[]):=by unfold execOp;rw[j];simp[resolve,N,gX,y]
 have l:(execOp a.eval o).run P w = .ok (.defer (gX M)) w:=by rw[Sem.runT_eq]at g;exact congrArg Prod.fst g
 have r:(execOp a.eval o).events P w #[]=#[]:=by rw[Sem.runT_eq]at g;exact congrArg Prod.snd g
 have f:(b.at ⟨a.tmps,gX M::a.defers⟩ (.inRegion ops (i::rest)::k)).finish undef=b.at (Act.put ⟨a.tmps,gX M::a.defers⟩ o.dst undef) (.inRegion ops rest::k):=by rw[Frame.finish_at,B];rfl
 have h:(b.kind == CallKind.early)=false:=by simpa using D
 rw[stepG_oper B (by simp[Region.wanted,C]),<- f];simp[stepG.apply,l,r,G,Frame.at,h,GStep.after,seen_none]
def oE (fn:Func):Am:=match fn.body.getD .skip with
 |.seq _ (.region _ a _)=>a
 |_=>#[]
def oD (fn:Func)(M:dI)(b4 b8 b9:Nat)(bs:Option Addr)(cap:Nat):Ai:=(baseD 183).at ⟨#[ab M.Wg,ab b8,ab b4,ab b9,.chan (some M.cS),.slice bs M.n cap,.chan (some M.cD),undef],[dcall 184 #[ab M.Wg]]⟩ [.inRegion (oE fn) [3]]
def PD{M:dI}{cap:Nat}(j:nL M b4 b8 b9 bs cap){Stop:Ah->Z->Prop}{n:Nat}
  (g:∀(x3 x4 x5 x6 x7 x12 r y B C N P Q R S U:D) (w:Z),M.Ks w->Goes prog false (Rs M) (Ds M) Stop n (G ((base 185).at ⟨#[.chan (some M.cS),.slice bs M.n cap,.chan (some M.cD),x3,x4,x5,x6,x7,.chan (some M.cS),.slice bs M.n cap,Y M.n,Y 0,x12,r,y,B,C,N,P,Q,R,S,U],[gX M]⟩ [.code (iZ f185),.inLoop (iZ f185),.inBlock 0]) [oD f183 M b4 b8 b9 bs cap,kZ prog]) w)
  (w:Z) (hF:M.Ks w):Goes prog false (Rs M) (Ds M) Stop (n+40) (born prog (jA M b4 b8 b9)) w:=by
 have T:=kh M;have W:(oE f183)=(oE f183):=rfl
 conv at W=>rhs;simp only[oE,f183,aC]
 have hb:(iZ f185)=(iZ f185):=rfl
 conv at hb=>rhs;simp only[iZ,f185,aC]
 simp only[oD,W,hb]at g;refine gZ T rfl (λw=>Qh M b4 b8 b9 w) ?_;simp only[f183,aC];refine dX T ?_;refine eI T ?_;refine gZ T rfl (λw=>stepG_defer rfl rfl (baseD_kind _) rfl) ?_
 walk_nrm
 refine eB T ?_;refine eI T ?_;simp only[ay,ai,ax,Nat.reduceAdd,ao,List.range,List.range.loop];refine qL wm rfl rfl (baseD_kind _) rfl rfl (.chan (some M.cS)) (λf a=>j.c8 f (a hF)) (λf l _ h=>⟨rfl,λe o=>⟨_,h e o,j.r8⟩⟩) (λf a=>?_)
 replace hF:=a hF
 clear a
 walk_nrm
 refine qL Nf rfl rfl (baseD_kind _) rfl rfl (.slice bs M.n cap) (λf a=>j.c4 f (a hF)) (λf l _ h=>⟨rfl,λe o=>⟨_,h e o,j.r4⟩⟩) (λf a=>?_)
 replace hF:=a hF
 clear a
 walk_nrm
 refine qL zt rfl rfl (baseD_kind _) rfl rfl (.chan (some M.cD)) (λf a=>j.c9 f (a hF)) (λf l _ h=>⟨rfl,λe o=>⟨_,h e o,j.r9⟩⟩) (λf a=>?_)
 replace hF:=a hF
 clear a
 walk_nrm
 refine yM T rfl rfl (baseD_kind _) rfl func185 (by rfl) (c:=f185.body.getD .skip) (by simp[f185]) ?_;simp only[f185,aC]
 walk_nrm
 refine dX T ?_;refine eI T ?_;simp only[ay,ai,ax,Nat.reduceAdd,ao,List.range,List.range.loop];refine dx T (.chan (some M.cS)) rfl rfl (base_kind _) (λw=>by go_simp) (λw=>by simp[go_sem]) ?_
 walk_nrm
 refine gZ T rfl (λw=>Qk (M:=M) rfl rfl (base_kind _) rfl rfl rfl) ?_
 walk_nrm
 refine eB T ?_;refine dX T ?_;refine eI T ?_;simp only[ay,ai,ax,Nat.reduceAdd,ao,List.range,List.range.loop];refine dx T (.slice bs M.n cap) rfl rfl (base_kind _) (λw=>by go_simp) (λw=>by simp[go_sem]) ?_
 walk_nrm
 refine dx T (Y M.n) rfl rfl (base_kind _) (λw=>by go_simp) (λw=>by simp[go_sem]) ?_
 walk_nrm
 refine dx T (Y 0) rfl rfl (base_kind _) (λw=>by go_simp) (λw=>by simp[go_sem]) ?_
 walk_nrm
 refine eB T ?_;refine pF T ?_;refine CO T ?_;exact(g _ _ _ _ _ _ _ _ _ _ _ _ _ _ _ _ _ hF).mono (by omega)
end
section
open Go.Conc Go.RowKit
def iY (fn:Func):Code:=match fn.body.getD .skip with
 |.seq _ (.seq _ (.seq _ (.seq _ (.seq _ (.seq _ (.seq _ (.seq (.block _ (.loop c)) _)))))))=>c
 |_=>.skip
def j9 (fn:Func):Code:=match fn.body.getD .skip with
 |.seq _ (.seq _ (.seq _ (.seq _ (.seq _ (.seq _ (.seq _ (.seq _ c)))))))=>c
 |_=>.skip
def uJ (M:dI)(b4 b8 b9:Nat)(en:D)(cn:Int)(m:Nat)(Fin:D->Nat->Ah->Z->Prop)(cs:List Ai):Prop:=
 ∀(R:Z->Z->Prop) (a:Z->Z->Array Event->Prop),Terms R a->(∀w w',R w w'->M.Ks w->M.Ks w')->(∀w es,(∀e∈es,rW M e)->a w w es)->
  ∀(to:D) (i:Nat) (x3 x5 x6 x7 f g h j l o r y B C N P Q S U W ad am an a0 a1:D) (w:Z),M.Ks w->Goes prog true R a (Fin to i) m (G ((base 138).at ⟨#[to,en,Y cn,x3,ab b4,x5,x6,x7,ab b8,ab b9,ab M.Wg,Y i,f,g,h,j,l,o,r,y,B,C,N,P,Q,S,U,W,ad,am,an,a0,a1,undef,undef,undef,undef],[]⟩ [.code (j9 f138)]) cs) w
def Pc{M:dI}{cap:Nat}{V:Nat->Ak}(C:pd M ea V)(hB:nL M b4 b8 b9 bs cap)(hn:M.n<2 ^ 40){cn:Int}{Fin:D->Nat->Ah->Z->Prop}{cs:List Ai}(hK:60<=K)(U:uJ M b4 b8 b9 en cn (K-40) Fin cs)(r:Nat)(hr:r<M.n)
  (ih:∀(to x3 x5 x6 x7 x12 an a0 a1 a3 a4 a7 a8 a9 ba bb be bf bl bm bp bq bv bw bA bB:D) (w:Z),M.Ks w->Goes prog true (Rs M) (Ds M) (RStop prog M K 186 cn Fin r to) (K-20) (G ((base 138).at ⟨#[to,en,Y cn,x3,ab b4,x5,x6,x7,ab b8,ab b9,ab M.Wg,Y ((M.n-r:Nat):Int),x12,an,a0,a1,a3,a4,a7,a8,a9,ba,bb,be,bf,bl,bm,bp,bq,bv,bw,bA,bB,undef,undef,undef,undef],[]⟩ [.code (iY f138),.inLoop (iY f138),.inBlock 0,.code (j9 f138)]) cs) w)
  (to x3 x5 x6 x7 x12 an a0 a1 a3 a4 a7 a8 a9 ba bb be bf bl bm bp bq bv bw bA bB:D) (w:Z) (hF:M.Ks w) :
  Goes prog true (Rs M) (Ds M) (RStop prog M K 186 cn Fin (r+1) to) (K-20) (G ((base 138).at ⟨#[to,en,Y cn,x3,ab b4,x5,x6,x7,ab b8,ab b9,ab M.Wg,Y ((M.n-(r+1):Nat):Int),x12,an,a0,a1,a3,a4,a7,a8,a9,ba,bb,be,bf,bl,bm,bp,bq,bv,bw,bA,bB,undef,undef,undef,undef],[]⟩ [.code (iY f138),.inLoop (iY f138),.inBlock 0,.code (j9 f138)]) cs) w:=by
 have hb:(iY f138)=(iY f138):=rfl
 conv at hb=>rhs;simp only[iY,f138,aC]
 have T:=kh M;have hi:M.n-(r+1)<M.n:=by omega
 have b6:M.n-r=M.n-(r+1)+1:=by omega
 obtain⟨b5,ad⟩:=C.val _ hi;have bS:=C.one _ hi;rw[b6]at ih;have b7:∀v∈z171,v.oneCell'=true:=by intro v hv;simp[z171]at hv;rcases hv with rfl|rfl|rfl|rfl<;>rfl
 have b3:RStop prog M K 186 cn Fin (r+1) to=λg w=>if((M.n-(r+1):Nat):Int)<cn then uK prog M K True (nQ prog M K 186 (λval=>RStop prog M K 186 cn Fin r val) to (M.E (M.n-(r+1)))) (Fin to (M.n-(r+1))) (M.E (M.n-(r+1))) g w else Fin to (M.n-(r+1)) g w:=rfl
 rw[b3];clear b3;generalize ce:M.n-(r+1)=i at *;rw[hb];refine Goes.mono (n:=(K-40)+20) ?_ (by omega);refine dX T ?_;refine dX T ?_;refine eI T ?_;simp only[ay,ai,ax,Nat.reduceAdd,ao,List.range,List.range.loop];refine dx T (Y i) rfl rfl (base_kind _) (λw=>by go_simp) (λw=>by simp[go_sem]) ?_
 walk_nrm
 refine dx T (Y cn) rfl rfl (base_kind _) (λw=>by go_simp) (λw=>by simp[go_sem]) ?_
 walk_nrm
 refine dx T (.bool (decide ((i:Int)<cn))) rfl rfl (base_kind _) (λw=>by go_simp) (λw=>by simp[go_sem]) ?_
 walk_nrm
 refine eB T ?_
 by_cases hm:(i:Int)<cn
 .simp only[hm,decide_true,if_true];refine kT T true rfl ?_;simp only[if_true];refine te T ?_;refine pF T ?_;refine dX T ?_;refine eI T ?_;simp only[ay,ai,ax,Nat.reduceAdd,ao,List.range,List.range.loop];refine qL wm rfl rfl (base_kind _) rfl rfl (.chan (some M.cS)) (λQ N=>hB.c8 Q (N hF)) (λQ W _ h=>⟨rfl,λe S=>⟨_,h e S,hB.r8⟩⟩) (λQ N=>?_)
  replace hF:=N hF
  clear N
  walk_nrm
  refine Goes.stop λcc ca=>?_;refine⟨rfl,rfl,λw'=>AA rfl rfl (base_kind _) ?_,λ_ w' y=>?_,λw' y=>?_⟩
  .rw[Sem.runT_eq];refine Prod.ext ?_ ?_
   .dsimp only
    go_simp
    simp[take,rcase,C.zv,z171]
   .simp[go_sem]
  .rw[b5];rw[sU rfl,AH]
   walk_nrm
   clear hF;refine Goes.mono (n:=12) ?_ (by omega);refine dx T (.tuple #[.agg (V i),.bool true]) rfl rfl (base_kind _) (λw=>by go_simp) (λw=>by simp[go_sem]) ?_
   walk_nrm
   refine dx T (.agg (V i)) rfl rfl (base_kind _) (λw=>by go_simp) (λw=>by simp[go_sem]) ?_
   walk_nrm
   refine dx T (.bool true) rfl rfl (base_kind _) (λw=>by go_simp) (λw=>by simp[go_sem]) ?_
   walk_nrm
   refine Goes.stop λa f=>?_
   replace y:=f y
   clear f;refine zX lx rfl rfl (base_kind _) rfl C.zO ?_
   walk_nrm
   have o:=p9 M a.heap.size;have hz:(cy a M.zO).heap[a.heap.size]?=some (.cells z171 171 (0,0)):=by rw[C.zO];simp only[cy];rw[aq,if_pos rfl]
   have am:=C.lo _ y;have P:M.Ks (cy a M.zO):=C.up _ _ y λk hk=>by simp only[cy];rw[aq,if_neg (by omega)]
   generalize cy a M.zO=wp at *;generalize a.heap.size=z at *;refine Goes.mono (n:=(K-40)+20) ?_ (by omega);refine vD lx rfl rfl (base_kind _) rfl rfl rfl ad bS (λa f=>f.2.trans hz) rfl (λa w' W _ h h'=>⟨h,λe S=>.inr (h' e S)⟩) (λB R l e2 e3=>?_)
   replace P:M.Ks R:=C.kL _ _ z (l.1 P) am e2
   clear e2 l hz
   walk_nrm
   refine dx o (.bool true) rfl rfl (base_kind _) (λw=>by go_simp) (λw=>by simp[go_sem]) ?_
   walk_nrm
   refine eB o ?_;refine dX o ?_;refine dX o ?_;refine eI o ?_;simp only[ay,ai,ax,Nat.reduceAdd,ao,List.range,List.range.loop];refine dx o (.bool true) rfl rfl (base_kind _) (λw=>by go_simp) (λw=>by simp[go_sem]) ?_
   walk_nrm
   refine dx o (.bool false) rfl rfl (base_kind _) (λw=>by go_simp) (λw=>by simp[go_sem]) ?_
   walk_nrm
   refine eB o ?_;refine kT o false rfl ?_;simp only[bg,if_false];refine te o ?_;refine dX o ?_;refine eI o ?_;simp only[ay,ai,ax,Nat.reduceAdd,ao,List.range,List.range.loop];refine dx o to rfl rfl (base_kind _) (λw=>by go_simp) (λw=>by simp[go_sem]) ?_
   walk_nrm
   refine yO lx rfl rfl (base_kind _) rfl rfl ad (λB l=>cells_of_row (l.2.trans e3) ad) (λB W _ h=>⟨.refl z B,λe S=>.inr ?_⟩) (λB l=>?_)
   .obtain⟨j,hj,e⟩:=h e S;refine⟨_,_,e,?_⟩;unfold Addr.add;split<;>rfl
   walk_nrm
   refine Goes.stop λcd cb=>?_;refine⟨_,_,_,_,_,_,_,_,_,_,rfl,rfl,rfl,base_kind _,rfl,?_,rfl,λval w' y=>?_⟩
   .simp[Act.eval]
   walk_nrm
   refine Goes.mono (n:=(K-20)+9) ?_ (by omega);refine dx T val rfl rfl (base_kind _) (λw=>by go_simp) (λw=>by simp[go_sem]) ?_
   walk_nrm
   refine eB T ?_;refine eI T ?_;simp only[ay,ai,ax,Nat.reduceAdd,ao,List.range,List.range.loop];refine dx T (Y i) rfl rfl (base_kind _) (λw=>by go_simp) (λw=>by simp[go_sem]) ?_
   walk_nrm
   refine dx T (Y ((i+1:Nat):Int)) rfl rfl (base_kind _) (λw=>by go_simp;rw[IntKind.wrap_i64];omega) (λw=>by simp[go_sem]) ?_
   walk_nrm
   refine dx T (Y ((i+1:Nat):Int)) rfl rfl (base_kind _) (λw=>by go_simp) (λw=>by simp[go_sem]) ?_
   walk_nrm
   refine eB T ?_;refine yN T ?_;refine CN T ?_;rw[hb]at ih;exact(ih _ _ _ _ _ _ _ _ _ _ _ _ _ _ _ _ _ _ _ _ _ _ _ _ _ _ _ y).mono (by omega)
  .rw[C.zv];rw[sU rfl,AH]
   walk_nrm
   clear hF;refine Goes.mono (n:=12) ?_ (by omega);refine dx T (.tuple #[.agg z171,.bool false]) rfl rfl (base_kind _) (λw=>by go_simp) (λw=>by simp[go_sem]) ?_
   walk_nrm
   refine dx T (.agg z171) rfl rfl (base_kind _) (λw=>by go_simp) (λw=>by simp[go_sem]) ?_
   walk_nrm
   refine dx T (.bool false) rfl rfl (base_kind _) (λw=>by go_simp) (λw=>by simp[go_sem]) ?_
   walk_nrm
   refine Goes.stop λa f=>?_
   replace y:=f y
   clear f;refine zX lx rfl rfl (base_kind _) rfl C.zO ?_
   walk_nrm
   have o:=p9 M a.heap.size;have hz:(cy a M.zO).heap[a.heap.size]?=some (.cells z171 171 (0,0)):=by rw[C.zO];simp only[cy];rw[aq,if_pos rfl]
   have am:=C.lo _ y;have P:M.Ks (cy a M.zO):=C.up _ _ y λk hk=>by simp only[cy];rw[aq,if_neg (by omega)]
   generalize cy a M.zO=wp at *;generalize a.heap.size=z at *;refine Goes.mono (n:=(K-40)+20) ?_ (by omega);refine vD lx rfl rfl (base_kind _) rfl rfl rfl rfl b7 (λa f=>f.2.trans hz) rfl (λa w' W _ h h'=>⟨h,λe S=>.inr (h' e S)⟩) (λB R l e2 e3=>?_)
   replace P:M.Ks R:=C.kL _ _ z (l.1 P) am e2
   clear e2 l hz
   walk_nrm
   refine dx o (.bool false) rfl rfl (base_kind _) (λw=>by go_simp) (λw=>by simp[go_sem]) ?_
   walk_nrm
   refine eB o ?_;refine dX o ?_;refine dX o ?_;refine eI o ?_;simp only[ay,ai,ax,Nat.reduceAdd,ao,List.range,List.range.loop];refine dx o (.bool false) rfl rfl (base_kind _) (λw=>by go_simp) (λw=>by simp[go_sem]) ?_
   walk_nrm
   refine dx o (.bool true) rfl rfl (base_kind _) (λw=>by go_simp) (λw=>by simp[go_sem]) ?_
   walk_nrm
   refine eB o ?_;refine kT o true rfl ?_;simp only[if_true];refine td o _ rfl ?_;exact(U _ _ o (λw w' h k=>h.1 k) (λw es h=>⟨.refl z w,λe S=>.inl (h e S)⟩) _ _ _ _ _ _ _ _ _ _ _ _ _ _ _ _ _ _ _ _ _ _ _ _ _ _ _ _ P).mono (by omega)
 .simp only[hm,decide_false,if_false];refine kT T false rfl ?_;simp only[bg,if_false];refine td T _ rfl ?_;exact(U _ _ T (λw w' h k=>h k) (λw es h=>⟨rfl,h⟩) _ _ _ _ _ _ _ _ _ _ _ _ _ _ _ _ _ _ _ _ _ _ _ _ _ _ _ _ hF).mono (by omega)
def Pa{M:dI}{cap:Nat}{V:Nat->Ak}(C:pd M ea V)(hB:nL M b4 b8 b9 bs cap)(hn:M.n<2 ^ 40){cn:Int}{Fin:D->Nat->Ah->Z->Prop}{cs:List Ai}(hK:60<=K)(y:uJ M b4 b8 b9 en cn (K-40) Fin cs)
  (to x3 x5 x6 x7 x12 am an a0 a1 a3 a4 a7 a8 a9 ba bb be bf bl bm bp bq bv bw bA:D) (w:Z) (hF:M.Ks w) :
  Goes prog true (Rs M) (Ds M) (RStop prog M K 186 cn Fin 0 to) (K-20) (G ((base 138).at ⟨#[to,en,Y cn,x3,ab b4,x5,x6,x7,ab b8,ab b9,ab M.Wg,Y ((M.n:Nat):Int),x12,am,an,a0,a1,a3,a4,a7,a8,a9,ba,bb,be,bf,bl,bm,bp,bq,bv,bw,bA,undef,undef,undef,undef],[]⟩ [.code (iY f138),.inLoop (iY f138),.inBlock 0,.code (j9 f138)]) cs) w:=by
 have hb:(iY f138)=(iY f138):=rfl
 conv at hb=>rhs;simp only[iY,f138,aC]
 have T:=kh M;have ad:∀v∈z171,v.oneCell'=true:=by intro v hv;simp[z171]at hv;rcases hv with rfl|rfl|rfl|rfl<;>rfl
 have Q:RStop prog M K 186 cn Fin 0 to=λg w=>if((M.n:Nat):Int)<cn then uK prog M K False (λ_ _=>False) (Fin to M.n) undef g w else Fin to M.n g w:=rfl
 rw[Q];clear Q;generalize b5:M.n=i at *;rw[hb];refine Goes.mono (n:=(K-40)+20) ?_ (by omega);refine dX T ?_;refine dX T ?_;refine eI T ?_;simp only[ay,ai,ax,Nat.reduceAdd,ao,List.range,List.range.loop];refine dx T (Y i) rfl rfl (base_kind _) (λw=>by go_simp) (λw=>by simp[go_sem]) ?_
 walk_nrm
 refine dx T (Y cn) rfl rfl (base_kind _) (λw=>by go_simp) (λw=>by simp[go_sem]) ?_
 walk_nrm
 refine dx T (.bool (decide ((i:Int)<cn))) rfl rfl (base_kind _) (λw=>by go_simp) (λw=>by simp[go_sem]) ?_
 walk_nrm
 refine eB T ?_
 by_cases hm:(i:Int)<cn
 .simp only[hm,decide_true,if_true];refine kT T true rfl ?_;simp only[if_true];refine te T ?_;refine pF T ?_;refine dX T ?_;refine eI T ?_;simp only[ay,ai,ax,Nat.reduceAdd,ao,List.range,List.range.loop];refine qL wm rfl rfl (base_kind _) rfl rfl (.chan (some M.cS)) (λo f=>hB.c8 o (f hF)) (λo U _ h=>⟨rfl,λe P=>⟨_,h e P,hB.r8⟩⟩) (λo f=>?_)
  replace hF:=f hF
  clear f
  walk_nrm
  refine Goes.stop λbS bB=>?_;refine⟨rfl,rfl,λS=>AA rfl rfl (base_kind _) ?_,λh=>h.elim,λS r=>?_⟩
  .rw[Sem.runT_eq];refine Prod.ext ?_ ?_
   .dsimp only
    go_simp
    simp[take,rcase,C.zv,z171]
   .simp[go_sem]
  .rw[C.zv];rw[sU rfl,AH]
   walk_nrm
   clear hF;refine Goes.mono (n:=12) ?_ (by omega);refine dx T (.tuple #[.agg z171,.bool false]) rfl rfl (base_kind _) (λw=>by go_simp) (λw=>by simp[go_sem]) ?_
   walk_nrm
   refine dx T (.agg z171) rfl rfl (base_kind _) (λw=>by go_simp) (λw=>by simp[go_sem]) ?_
   walk_nrm
   refine dx T (.bool false) rfl rfl (base_kind _) (λw=>by go_simp) (λw=>by simp[go_sem]) ?_
   walk_nrm
   refine Goes.stop λa j=>?_
   replace r:=j r
   clear j;refine zX lx rfl rfl (base_kind _) rfl C.zO ?_
   walk_nrm
   have l:=p9 M a.heap.size;have hz:(cy a M.zO).heap[a.heap.size]?=some (.cells z171 171 (0,0)):=by rw[C.zO];simp only[cy];rw[aq,if_pos rfl]
   have W:=C.lo _ r;have N:M.Ks (cy a M.zO):=C.up _ _ r λk hk=>by simp only[cy];rw[aq,if_neg (by omega)]
   generalize cy a M.zO=wp at *;generalize a.heap.size=z at *;refine Goes.mono (n:=(K-40)+20) ?_ (by omega);refine vD lx rfl rfl (base_kind _) rfl rfl rfl rfl ad (λa j=>j.2.trans hz) rfl (λa S U _ h h'=>⟨h,λe P=>.inr (h' e P)⟩) (λb3 R B e2 e3=>?_)
   replace N:M.Ks R:=C.kL _ _ z (B.1 N) W e2
   clear e2 B hz
   walk_nrm
   refine dx l (.bool false) rfl rfl (base_kind _) (λw=>by go_simp) (λw=>by simp[go_sem]) ?_
   walk_nrm
   refine eB l ?_;refine dX l ?_;refine dX l ?_;refine eI l ?_;simp only[ay,ai,ax,Nat.reduceAdd,ao,List.range,List.range.loop];refine dx l (.bool false) rfl rfl (base_kind _) (λw=>by go_simp) (λw=>by simp[go_sem]) ?_
   walk_nrm
   refine dx l (.bool true) rfl rfl (base_kind _) (λw=>by go_simp) (λw=>by simp[go_sem]) ?_
   walk_nrm
   refine eB l ?_;refine kT l true rfl ?_;simp only[if_true];refine td l _ rfl ?_;exact(y _ _ l (λw S h k=>h.1 k) (λw es h=>⟨.refl z w,λe P=>.inl (h e P)⟩) _ _ _ _ _ _ _ _ _ _ _ _ _ _ _ _ _ _ _ _ _ _ _ _ _ _ _ _ N).mono (by omega)
 .simp only[hm,decide_false,if_false];refine kT T false rfl ?_;simp only[bg,if_false];refine td T _ rfl ?_;exact(y _ _ T (λw S h k=>h k) (λw es h=>⟨rfl,h⟩) _ _ _ _ _ _ _ _ _ _ _ _ _ _ _ _ _ _ _ _ _ _ _ _ _ _ _ _ hF).mono (by omega)
def EQ {M:dI}{b4 b8 b9:Nat}{ea:Addr}{bs:Option Addr}{cap:Nat}{V:Nat->Ak}(hE:pd M ea V)(hB:nL M b4 b8 b9 bs cap)(hn:M.n<2 ^ 40){en:D}{cn:Int}{Fin:D->Nat->Ah->Z->Prop}{K:Nat}{cs:List Ai}(hK:60<=K)(a:uJ M b4 b8 b9 en cn (K-40) Fin cs) :
  ∀(r:Nat) (_:r<=M.n) (to x3 x5 x6 x7 x12 f g j l o y B C N P Q R S U W ad am an a0 a1:D) (w:Z),M.Ks w->Goes prog true (Rs M) (Ds M) (RStop prog M K 186 cn Fin r to) (K-20) (G ((base 138).at ⟨#[to,en,Y cn,x3,ab b4,x5,x6,x7,ab b8,ab b9,ab M.Wg,Y ((M.n-r:Nat):Int),x12,f,g,j,l,o,y,B,C,N,P,Q,R,S,U,W,ad,am,an,a0,a1,undef,undef,undef,undef],[]⟩ [.code (iY f138),.inLoop (iY f138),.inBlock 0,.code (j9 f138)]) cs) w
 |0,_,to,x3,x5,x6,x7,x12,f,g,j,l,o,y,B,C,N,P,Q,R,S,U,W,ad,am,an,a0,a1,w,hF=>Pa hE hB hn hK a to x3 x5 x6 x7 x12 f g j l o y B C N P Q R S U W ad am an a0 a1 w hF
 |r+1,h,to,x3,x5,x6,x7,x12,f,g,j,l,o,y,B,C,N,P,Q,R,S,U,W,ad,am,an,a0,a1,w,hF=>Pc hE hB hn hK a r (by omega) (EQ hE hB hn hK a r (by omega)) to x3 x5 x6 x7 x12 f g j l o y B C N P Q R S U W ad am an a0 a1 w hF
end
section
open Go.Conc Go.RowKit
def rH (fn:Func):Am:=match j9 fn with
 |.seq _ (.seq (.region _ a _) _)=>a
 |_=>#[]
def tV (fn:Func):Code:=match j9 fn with
 |.seq _ (.seq _ c)=>c
 |_=>.skip
def jY (P:Ad)(M:dI)(K:Nat)(fr:Ai)(cs:List Ai)(to:D)(i:Nat)(g:Ah)(w:Z):Prop:=
 g.status = .running/\mayWake P g=true/\∀s r,w.heap[M.cD]?=some (.chan 0 #[] false s r false)->∃h f j,stepG P true g w = .go h (w.setChan M.cD 0 #[] true s r false) f/\(∀e∈f,e.loc = .obj M.cD/\e.sync=true)/\
  (∀a,KA M a->Goes P true (RA M) DQ (uO P M j) K h a)/\∀a,Goes P true AtRel DQ (λg _=>g=G (fr.finish (.tuple #[to,Y i])) cs) K j a
def uk (M:dI):Terms (RA M) DQ:=⟨λ_ _ _ h k=>⟨λx=>k.1 (h.1 x),λx=>k.2 (h.2 x)⟩,λ_=>⟨rfl,rfl⟩⟩
def Qy:Terms AtRel DQ:=⟨λa b c h k=>atRel_trans a b c h k,λ_=>⟨rfl,rfl⟩⟩
def J6{P:Ad}{ρ:Ae->D}{o:Oper}{w:Z}{x:Ae}{ats:Array Af}(f:o.op = .call ⟨.builtin .close,#[x],ats⟩)(l:ρ x = .chan (some c))(g:w.heap[c]?=some (.chan 0 #[] false s r false)) :
  (execOp ρ o).runT P w #[]=(.ok (.value (.tuple #[])) (w.setChan c 0 #[] true s r false),#[⟨.obj c,false,true⟩,⟨.obj c,true,true⟩]):=by
 have h:=run_close_open (P:=P) (w:=w) ats o.type g;have j:=events_close_open (P:=P) (w:=w) (es:=#[]) ats o.type g;have hm:(#[x]:Array Ae).map ρ=#[.chan (some c)]:=by simp[l]
 have:(execOp ρ o).runT P w #[]=(Builtin.close_ ats o.type ((#[x]:Array Ae).map ρ) >>= λy=>(pure (Next.value y):Sem Next)).runT P w #[]:=by
  unfold execOp;rw[f]
  rfl
 rw[this,hm,eN (a:=.tuple #[]) (w':=w.setChan c 0 #[] true s r false) (es':=#[⟨.obj c,false,true⟩,⟨.obj c,true,true⟩])]
 .rfl
 .rw[Sem.runT_eq,h,j];rfl
def OQ{P:Ad}{M:dI}{i j:Nat}{fr:Ai}{cs f:List Ai}{to:D}{b:Ai}{a:Act}{k:List Item}{ops:Am}{rest:List Nat}{o:Oper}{x:Ae}{ats:Array Af}{w:Z}(B:ops[j]?=some o)(R:o.guard=none)(S:b.kind≠.early)(h:o.op = .call ⟨.builtin .close,#[x],ats⟩)(U:a.eval x = .chan (some M.cD))(y:Ah)
  (h1:∀w',KA M w'->Goes P true (RA M) DQ (uO P M y) K (G (b.at (a.put o.dst (.tuple #[])) (.inRegion ops rest::k)) f) w') (C:∀w',Goes P true AtRel DQ (λg _=>g=G (fr.finish (.tuple #[to,Y i])) cs) K y w') :
  jY P M K fr cs to i (G (b.at a (.inRegion ops (j::rest)::k)) f) w:=by
 refine⟨rfl,by simp[mayWake,G,Frame.at,B,h],λs r N=>?_⟩;obtain⟨l,e1,e2⟩:=FC (P:=P) (main:=true) (b:=b) (a:=a) (rest:=rest) (cs:=f) (k:=k) (w:=w) B R S (J6 h U N);refine⟨_,l,y,e1,λe Q=>?_,h1,C⟩;have:=e2 e Q;simp only[aL,bE,List.not_mem_nil,or_false]at this;rcases this with rfl|rfl<;>exact⟨rfl,rfl⟩
def O9{M:dI}{L:Lib.WgLink}(H:Lib.WgLib prog L)(hM:M.tWg=L.tWg)(hL:L.wait=187){cap:Nat}(hB:nL M b4 b8 b9 bs cap){cn:Int}{m:Nat}(hK:60<=K)(hm:10<=m){fr:Ai}{cs:List Ai}:uJ M b4 b8 b9 en cn m (jY prog M K fr cs) (fr::cs):=by
 intro R ch T hR hD to i x3 x5 x6 x7 g j l o r y B C D N P Q S U W Z ad am an a0 a1 w hF;have hb:(j9 f138)=(j9 f138):=rfl
 conv at hb=>rhs;simp only[j9,f138,aC]
 rw[hb];refine Goes.mono (n:=10) ?_ hm;refine dX T ?_;refine eI T ?_;simp only[ay,ai,ax,Nat.reduceAdd,ao,List.range,List.range.loop];refine qL zt rfl rfl (base_kind _) rfl rfl (.chan (some M.cD)) (λf a=>hB.c9 f (hR _ _ a hF)) (λf ba _ h=>hD _ _ λe he=>⟨_,h e he,hB.r9⟩) (λf a=>?_)
 walk_nrm
 refine Goes.stop λa9 a8=>?_;clear a a8 hF T hD hR;have a3:(rH f138)=(rH f138):=rfl
 conv at a3=>rhs;simp only[rH,hb]
 have a7:(tV f138)=(tV f138):=rfl
 conv at a7=>rhs;simp only[tV,hb]
 refine OQ rfl rfl (base_kind _) rfl rfl (G ((base 138).at ⟨#[to,en,Y cn,x3,ab b4,x5,x6,x7,ab b8,ab b9,ab M.Wg,Y i,g,j,l,o,r,y,B,C,D,N,P,Q,S,U,W,Z,ad,am,an,a0,a1,.chan (some M.cD),.tuple #[],undef,undef],[]⟩ [.inRegion (rH f138) [],.code (tV f138)]) (fr::cs)) (λw' hw=>?_) (λw'=>?_)
 .walk_nrm
  have T:=uk M;refine Goes.mono (n:=30+4) ?_ (by omega);refine eB T ?_;refine dX T ?_;refine eI T ?_;simp only[ay,ai,ax,Nat.reduceAdd,ao,List.range,List.range.loop];have hf:prog.funcs[187]?=some (Lib.waitFn L):=hL ▸ H.f_wait;refine yM T rfl rfl (base_kind _) rfl hf (Go.ConcX.Gen.nm_wait L) (c:=(Lib.waitFn L).body.getD .skip) rfl ?_;have:=Rf H hM (b₀:=base 138) (a₀:=⟨#[to,en,Y cn,x3,ab b4,x5,x6,x7,ab b8,ab b9,ab M.Wg,Y i,g,j,l,o,r,y,B,C,D,N,P,Q,S,U,W,Z,ad,am,an,a0,a1,.chan (some M.cD),undef,undef,undef],[]⟩) (ops₀:=(rH f138)) (i₀:=0) (rest₀:=[]) (k₀:=[.code (tV f138)]) (cs:=fr::cs) w' hw;rw[hL]at this;have e1:(#[Operand.tmp 10].map (Act.eval ⟨#[to,en,Y cn,x3,ab b4,x5,x6,x7,ab b8,ab b9,ab M.Wg,Y i,g,j,l,o,r,y,B,C,D,N,P,Q,S,U,W,Z,ad,am,an,a0,a1,.chan (some M.cD),undef,undef,undef],[]⟩))=#[ab M.Wg]:=by simp[Act.eval]
  have e2:((rH f138)[0]?).bind (·.dst)=some 34:=by rw[a3];rfl
  have e3:Act.put ⟨#[to,en,Y cn,x3,ab b4,x5,x6,x7,ab b8,ab b9,ab M.Wg,Y i,g,j,l,o,r,y,B,C,D,N,P,Q,S,U,W,Z,ad,am,an,a0,a1,.chan (some M.cD),undef,undef,undef],[]⟩ (some 34) (.tuple #[])=⟨#[to,en,Y cn,x3,ab b4,x5,x6,x7,ab b8,ab b9,ab M.Wg,Y i,g,j,l,o,r,y,B,C,D,N,P,Q,S,U,W,Z,ad,am,an,a0,a1,.chan (some M.cD),.tuple #[],undef,undef],[]⟩:=rfl;rw[e2,e3]at this;rw[e1];rw[a3,a7]at this ⊢;exact this
 .have T:=Qy;rw[a3,a7];refine Goes.mono (n:=20) ?_ (by omega);refine eB T ?_;refine dX T ?_;refine eI T ?_;simp only[ay,ai,ax,Nat.reduceAdd,ao,List.range,List.range.loop];refine dx T to rfl rfl (base_kind _) (λw=>by go_simp) (λw=>by simp[go_sem]) ?_
  walk_nrm
  refine dx T (Y i) rfl rfl (base_kind _) (λw=>by go_simp) (λw=>by simp[go_sem]) ?_
  walk_nrm
  refine dx T to rfl rfl (base_kind _) (λw=>by go_simp) (λw=>by simp[go_sem]) ?_
  walk_nrm
  refine dx T (Y i) rfl rfl (base_kind _) (λw=>by go_simp) (λw=>by simp[go_sem]) ?_
  walk_nrm
  refine eB T ?_;refine CP T ?_;have a4:f138.results=#[.tmp 6,.tmp 7]:=by rfl
  refine gZ T rfl (λw=>stepG_leave (b:=base 138) rfl rfl func138 (results_tmp2 a4 _ _ w) (events_results_tmp2 a4 _ _)) ?_;exact Goes.stop λ_ _=>rfl
end
def tu:Go.Conc.Lib.WgLink:={ add:=182,done:=184,wait:=187,relMerge:=224,disable:=225,enable:=226,inBubble:=227,associate:=228,fatal:=229,uOr:=230,uAdd:=231,raceRead:=232,uLoad:=233,uStore:=234,disassociate:=235,semrelease:=236,acquire:=237,isAssociated:=238,uCas:=239,raceWrite:=240,semacquire:=241,orU64:=255,addU64:=256,loadU64:=257,storeU64:=258,casU64:=259,tWgP:=332,tUP:=334,tAssoc:=335,tWg:=294,tAU:=292,tU64:=290,tUint:=276,tU32:=230,tPU32:=339,tPAU:=357,tPU64:=359,tNoCopy:=287,tANoCopy:=288,tAlign64:=289 }
def xn:Go.Conc.Lib.WgLib prog tu:=
 ⟨func182,func184,func187,func224,func225,func226,func227,func228,func229,func230,func231,func232,func233,func234,func235,func236,func237,func238,func239,func240,func241,func255,func256,func257,func258,func259,underlying332,runUnderlying332,sizeOf332,isAgg332,zeroValue332,underlying334,runUnderlying334,sizeOf334,isAgg334,zeroValue334,underlying335,runUnderlying335,sizeOf335,isAgg335,zeroValue335,underlying294,runUnderlying294,sizeOf294,isAgg294,zeroValue294,underlying292,runUnderlying292,sizeOf292,isAgg292,zeroValue292,underlying290,runUnderlying290,sizeOf290,isAgg290,zeroValue290,underlying276,runUnderlying276,sizeOf276,isAgg276,zeroValue276,underlying230,runUnderlying230,sizeOf230,isAgg230,zeroValue230,underlying339,runUnderlying339,sizeOf339,isAgg339,zeroValue339,underlying357,runUnderlying357,sizeOf357,isAgg357,zeroValue357,underlying359,runUnderlying359,sizeOf359,isAgg359,zeroValue359,underlying0,runUnderlying0,sizeOf0,isAgg0,zeroValue0,underlying3,runUnderlying3,sizeOf3,isAgg3,zeroValue3,underlying4,runUnderlying4,sizeOf4,isAgg4,zeroValue4,underlying9,runUnderlying9,sizeOf9,isAgg9,zeroValue9,underlying20,runUnderlying20,sizeOf20,isAgg20,zeroValue20,underlying21,runUnderlying21,sizeOf21,isAgg21,zeroValue21,by kernel_rfl,by kernel_rfl⟩
section
open Go.Conc Go.RowKit Go.ConcX
open Go.ConcX (WgAt KK stA smA rd wr mk)
section
variable {P:Ad}{main:Bool}{ch:Z->Z->Array Event->Prop}{Stop:Ah->Z->Prop}{n i:Nat}{b:Ai}{a:Act}{k:List Item}{cs:List Ai}{ops:Am}{rest:List Nat}{o:Oper}{w:Z}{ρ:Ae->D}{t:Af}{x y:Ae}
def qM (B:ops[i]?=some o)(l:o.guard=none)(r:b.kind≠.early)(v:D)(w':Z){es:Array Event}(C:∀d,(execOp a.eval o).runT P (w.at d) #[]=(.ok (.value v) (w'.at d),es))(j:∀d es',(∀e∈es',e∈es)->ch (w.at d) (w'.at d) es')
  (y:Goes P main AtRel ch Stop n (G (b.at (a.put o.dst v) (.inRegion ops rest::k)) cs) w'):Goes P main AtRel ch Stop (n+1) (G (b.at a (.inRegion ops (i::rest)::k)) cs) w:=
 yP B l r v λg f=>by obtain⟨d,rfl⟩:=f;exact⟨_,es,C d,j d,y.rely (λa b c h k=>atRel_trans a b c h k) ⟨d,rfl⟩⟩
def CQ (B:ops[i]?=some o)(l:o.guard=none)(r:b.kind≠.early)(w':Z){es:Array Event}(C:∀d,(execOp a.eval o).runT P (w.at d) #[]=(.ok .skip (w'.at d),es))(j:∀d es',(∀e∈es',e∈es)->ch (w.at d) (w'.at d) es')
  (y:Goes P main AtRel ch Stop n (G (b.at (a.put o.dst undef) (.inRegion ops rest::k)) cs) w'):Goes P main AtRel ch Stop (n+1) (G (b.at a (.inRegion ops (i::rest)::k)) cs) w:=
 CR B l r λg f=>by obtain⟨d,rfl⟩:=f;exact⟨_,es,C d,j d,y.rely (λa b c h k=>atRel_trans a b c h k) ⟨d,rfl⟩⟩
def J5 (a:o.op = .box t x):(execOp ρ o).runT P w #[]=(.ok (.value (ab w.heap.size)) (cy w (.cells (ρ x).cells t)),#[]):=by
 unfold execOp;rw[a]
 rfl
def yx {z:D}(f:∀w es,(zeroValue t).runT P w es=(.ok z w,es))(a:o.op = .alloc t):(execOp ρ o).runT P w #[]=(.ok (.value (ab w.heap.size)) (cy w (.cells z.cells t)),#[]):=by
 unfold execOp;rw[a];dsimp only;have:(Instr.alloc t true (.tuple #[])).runT P w #[]=(.ok (ab w.heap.size) (cy w (.cells z.cells t)),#[]):=by
  unfold Instr.alloc;rw[eN (f w _)]
  rfl
 rw[eN this]
 rfl
def Cj(h:One P t)(a:o.op = .store t x y){p:Addr}{v old:D}(r:ρ x = .pointer (some p))(B:ρ y=v)(hv:v.oneCell'=true)(f:v.cells=#[v])(j:w.cell? p=some old)(l:w.frozen? p=false):(execOp ρ o).runT P w #[]=(.ok .skip (w.setCell p v),#[gT p]):=by
 unfold execOp;rw[a];dsimp only;rw[r,B];have:(Instr.storeAt t (.pointer (some p)) v).runT P w #[]=(.ok () (w.setCell p v),#[gT p]):=by
  unfold Instr.storeAt;rw[eN (show(Instr.sureAddr (.pointer (some p))).runT P w #[]=(.ok p w,#[])from rfl)];unfold storeVar;rw[eN (h.size w _),f];show(storeCells p [v]).runT P w #[]=_;unfold storeCells;have g:p.add 0=p:=by simp[Addr.add]
  rw[g,eN (E9 hv j l)]
  rfl
 rw[eN this]
 rfl
end
def dW (w:Z)(o:Obj):(cy w o).heap.size=w.heap.size+1:=by simp only[cy,Array.size_push]
def gh (w:Z)(en:D):Z:=(cy (cy (cy (cy (cy w (.cells #[en] 159)) (.chan 0 #[] false 0 0 false)) (.cells #[.chan (some (w.heap.size+1))] 284)) (.chan 0 #[] false 0 0 false)) (.cells #[.chan (some (w.heap.size+3))] 285))
def fB (w:Z)(en:D):Z:=cy (gh w en) (.cells #[.int .u64 0,.int .u32 0] 294)
def oP (w:Z)(en:D):(gh w en).heap.size=w.heap.size+5:=by simp only[gh,dW]
def Sj:∀w es,(zeroValue 294).runT prog w es=(.ok (.agg #[.int .u64 0,.int .u32 0]) w,es):=λw es=>by simp[go_sem]
def Sg:∀w es,(zeroValue 284).runT prog w es=(.ok (.chan none) w,es):=λw es=>by simp[go_sem]
def Si:∀w es,(zeroValue 285).runT prog w es=(.ok (.chan none) w,es):=λw es=>by simp[go_sem]
def Ci {t:Af}(ht:t=284\/t=285){ρ:Ae->D}{o:Oper}{w:Z}(a:o.op = .makeChan t (.const (Y 0)))(f:ρ (.const (Y 0)) = Y 0):(execOp ρ o).runT prog w #[]=(.ok (.value (.chan (some w.heap.size))) (cy w (.chan 0 #[] false 0 0 false)),#[]):=by
 unfold execOp;rw[a];dsimp only;rw[f];have:(Instr.makeChan t (Y 0)).runT prog w #[]=(.ok (.chan (some w.heap.size)) (cy w (.chan 0 #[] false 0 0 false)),#[]):=by
  rcases ht with rfl|rfl
  .rw[Sem.runT_eq];refine Prod.ext ?_ ?_
   .simp[go_sem,Instr.makeChan,asInt,asIntOf]
    rfl
   .simp[go_sem,Instr.makeChan,asInt,asIntOf]
  .rw[Sem.runT_eq];refine Prod.ext ?_ ?_
   .simp[go_sem,Instr.makeChan,asInt,asIntOf]
    rfl
   .simp[go_sem,Instr.makeChan,asInt,asIntOf]
 rw[eN this]
 rfl
def xM (P:Ad)(M:dI)(K:Nat)(b4 b8 b9:Nat)(cn:Int)(fr:Ai)(cs:List Ai)(to:D)(w0:Z)(g:Ah)(w:Z):Prop:=
 g.status = .running/\(∃d,w=w0.at d)/\∃g2,stepG P true g w = .spawn g2 (born P (jA M b4 b8 b9)) w #[]/\∀a,M.Ks a->Goes P true (Rs M) (Ds M) (RStop P M K 186 cn (jY P M K fr cs) M.n to) K g2 a
def J8 {P:Ad}{ρ:Ae->D}{o:Oper}{w:Z}{x:Ae}{f:Ag}{c:Ak}(a:o.op = .go ⟨.value x,#[],#[]⟩)(g:ρ x = .func (.func f) #[] c):(execOp ρ o).runT P w #[]=(.ok (.spawn ⟨.fn (.func f) c,#[]⟩) w,#[]):=by unfold execOp;rw[a];dsimp only;unfold resolve;dsimp only;rw[g,show(#[]:Array Ae).map ρ=#[]from by simp];simp[Deferred.ofValue]
def PH (w:Z)(old v:D)(t:Af):(cy w (.cells #[old] t)).setCell ⟨w.heap.size,0,none⟩ v=cy w (.cells #[v] t):=by
 have:(w.heap.push (.cells #[old] t)).modify w.heap.size (fun | .cells c e a=>.cells (c.setIfInBounds 0 v) e a|o=>o)=w.heap.push (.cells #[v] t):=by
  refine Array.ext_getElem? λi=>?_;rw[aV,aq,aq]
  by_cases h:w.heap.size=i
  .subst h;simp
  .have f:¬i=w.heap.size:=λe=>h e.symm
   simp[h,f]
 simp only[World.setCell,cy];exact congrArg (λh=>({ w with heap:=h }:Z)) this
def uZ {w:Z}{old:D}{t:Af}{r:Nat}(d:Nat)(h:r=w.heap.size):((cy w (.cells #[old] t)).at d).cell? ⟨r,0,none⟩=some old/\((cy w (.cells #[old] t)).at d).frozen? ⟨r,0,none⟩=false:=by
 subst h;have:(w.heap.push (.cells #[old] t))[w.heap.size]?=some (.cells #[old] t):=by rw[aq,if_pos rfl]
 constructor
 .show(cy w (.cells #[old] t)).cell? _=_;simp only[World.cell?,cy,this]
  rfl
 .show(cy w (.cells #[old] t)).frozen? _=_;simp only[World.frozen?,cy,this]
  rfl
def Fo {w:Z}{old v:D}{t:Af}{r:Nat}(d:Nat)(h:r=w.heap.size):((cy w (.cells #[old] t)).at d).setCell ⟨r,0,none⟩ v=(cy w (.cells #[v] t)).at d:=by subst h;show((cy w (.cells #[old] t)).setCell _ v).at d=_;rw[PH]
def N8{P:Ad}{M:dI}{K b4 b8 b9 i:Nat}{cn:Int}{fr:Ai}{cs f:List Ai}{to:D}{w w0:Z}{b:Ai}{a:Act}{k:List Item}{ops:Am}{rest:List Nat}{o:Oper}{x:Ae}(y:ops[i]?=some o)(l:o.guard=none)(r:b.kind≠.early)(g:o.op = .go ⟨.value x,#[],#[]⟩)(C:a.eval x = .func (.func 183) #[] #[ab M.Wg,ab b8,ab b4,ab b9])
  (B:∃d,w=w0.at d) (h:∀w',M.Ks w'->Goes P true (Rs M) (Ds M) (RStop P M K 186 cn (jY P M K fr cs) M.n to) K (G (b.at (a.put o.dst undef) (.inRegion ops rest::k)) f) w'):xM P M K b4 b8 b9 cn fr cs to w0 (G (b.at a (.inRegion ops (i::rest)::k)) f) w:=by
 have j:=J8 (P:=P) (w:=w) g C;rw[Sem.runT_eq]at j;refine⟨rfl,B,_,?_,h⟩;rw[stepG_spawn y (by simp[Region.wanted,l]) r (congrArg Prod.fst j) rfl];unfold listed;rw[show(execOp a.eval o).events P w #[]=#[]from congrArg Prod.snd j,seen_none]
 rfl
def O8{M:dI}{cap:Nat}{V:Nat->Ak}(hE:pd M ea V){w:Z}(S:nL M w.heap.size (w.heap.size+2) (w.heap.size+4) bs cap)(hn:M.n<2 ^ 40)(h1:M.cS=w.heap.size+1)(h3:M.cD=w.heap.size+3)(R:M.Wg=w.heap.size+5)(ht:M.tWg=294){C:Nat}[Shy M.Wg C](hC:C=w.heap.size)(B:Shy.ok M.Wg C (.access ⟨.cell ⟨w.heap.size+2,0,none⟩,true,false⟩))(N:Shy.ok M.Wg C (.access ⟨.cell ⟨w.heap.size+4,0,none⟩,true,false⟩))
  {en to:D} (y:en.cells=#[en]) {cn:Int} {K:Nat} (hK:100<=K) (fr:Ai) (cs:List Ai) :
  Goes prog true AtRel (DE (EvS M.Wg C)) (AtMkS prog .disable λa w1=>∃n,Goes prog true AtRel (DE (EvS M.Wg C)) (AtMkS prog .enable λa w1=>∃n,Goes prog true AtRel (DE (EvS M.Wg C)) (xM prog M K w.heap.size (w.heap.size+2) (w.heap.size+4) cn fr cs to ((fB w en).setCell (stA M.Wg) (.int .u64 KK))) n a w1) n a w1) 60
   (G ((base 138).at ⟨#[to,en,Y cn,undef,undef,undef,undef,undef,undef,undef,undef,undef,undef,undef,undef,undef,undef,undef,undef,undef,undef,undef,undef,undef,undef,undef,undef,undef,undef,undef,undef,undef,undef,undef,undef,undef,undef],[]⟩ [.code (f138.body.getD .skip)]) (fr::cs)) w:=by
 have T:Terms AtRel (DE (EvS M.Wg C)):=⟨λa b c h k=>atRel_trans a b c h k,λ_ e l=>by simp at l⟩;have j:∀(w1 w2:Z) (f:Array Event),(∀e∈f,e∈(#[]:Array Event))->DE (EvS M.Wg C) w1 w2 f:=λw1 w2 f h e l=>by simpa using h e l
 simp only[f138,aC];refine dX T ?_;refine eI T ?_;simp only[ay,ai,ax,Nat.reduceAdd,ao,List.range,List.range.loop];refine qM rfl rfl (base_kind _) (ab w.heap.size) (cy w (.cells #[en] 159)) (λd=>(J5 rfl).trans (by rw[<- y];rfl)) (λd f h=>j _ _ _ h) ?_
 walk_nrm
 refine dx T (ae) rfl rfl (base_kind _) (λw=>by go_simp) (λw=>by simp[go_sem]) ?_
 walk_nrm
 refine dx T (Y 0) rfl rfl (base_kind _) (λw=>by go_simp) (λw=>by simp[go_sem]) ?_
 walk_nrm
 refine eB T ?_;refine dX T ?_;refine eI T ?_;simp only[ay,ai,ax,Nat.reduceAdd,ao,List.range,List.range.loop];refine qM rfl rfl (base_kind _) (.chan (some (w.heap.size+1))) (cy (cy w (.cells #[en] 159)) (.chan 0 #[] false 0 0 false)) (λd=>(Ci (.inl rfl) rfl rfl).trans (by simp[cy,World.at])) (λd f h=>j _ _ _ h) ?_
 walk_nrm
 refine qM rfl rfl (base_kind _) (.pointer (some ⟨w.heap.size+2,0,none⟩)) (cy (cy (cy w (.cells #[en] 159)) (.chan 0 #[] false 0 0 false)) (.cells #[.chan none] 284)) (λd=>(yx Sg rfl).trans (by simp[cy,World.at,Value.cells])) (λd f h=>j _ _ _ h) ?_
 walk_nrm
 refine CQ (es:=#[gT ⟨w.heap.size+2,0,none⟩]) rfl rfl (base_kind _) (cy (cy (cy w (.cells #[en] 159)) (.chan 0 #[] false 0 0 false)) (.cells #[.chan (some (w.heap.size+1))] 284)) (λd=>(Cj wm rfl (p:=⟨w.heap.size+2,0,none⟩) rfl rfl rfl rfl (old:=.chan none) (uZ d (by simp only[dW])).1 (uZ d (by simp only[dW])).2).trans ?_) (λd f h=>?_) ?_
 .rw[Fo d (by simp only[dW])]
  rfl
 .intro e l;have:=h e l;simp only[aL,bE,List.not_mem_nil,or_false]at this;subst this;exact Gen.evS_cell _ _ _ (by show w.heap.size+2≠M.Wg;omega) (by show w.heap.size+2≠C;omega) B
 walk_nrm
 refine eB T ?_;refine dX T ?_;refine eI T ?_;simp only[ay,ai,ax,Nat.reduceAdd,ao,List.range,List.range.loop];refine qM rfl rfl (base_kind _) (.chan (some (w.heap.size+3))) (cy (cy (cy (cy w (.cells #[en] 159)) (.chan 0 #[] false 0 0 false)) (.cells #[.chan (some (w.heap.size+1))] 284)) (.chan 0 #[] false 0 0 false)) (λd=>(Ci (.inr rfl) rfl rfl).trans (by simp[cy,World.at])) (λd f h=>j _ _ _ h) ?_
 walk_nrm
 refine qM rfl rfl (base_kind _) (.pointer (some ⟨w.heap.size+4,0,none⟩)) (cy (cy (cy (cy (cy w (.cells #[en] 159)) (.chan 0 #[] false 0 0 false)) (.cells #[.chan (some (w.heap.size+1))] 284)) (.chan 0 #[] false 0 0 false)) (.cells #[.chan none] 285)) (λd=>(yx Si rfl).trans (by simp[cy,World.at,Value.cells])) (λd f h=>j _ _ _ h) ?_
 walk_nrm
 refine CQ (es:=#[gT ⟨w.heap.size+4,0,none⟩]) rfl rfl (base_kind _) (cy (cy (cy (cy (cy w (.cells #[en] 159)) (.chan 0 #[] false 0 0 false)) (.cells #[.chan (some (w.heap.size+1))] 284)) (.chan 0 #[] false 0 0 false)) (.cells #[.chan (some (w.heap.size+3))] 285)) (λd=>(Cj zt rfl (p:=⟨w.heap.size+4,0,none⟩) rfl rfl rfl rfl (old:=.chan none) (uZ d (by simp only[dW])).1 (uZ d (by simp only[dW])).2).trans ?_) (λd f h=>?_) ?_
 .rw[Fo d (by simp only[dW])]
  rfl
 .intro e l;have:=h e l;simp only[aL,bE,List.not_mem_nil,or_false]at this;subst this;exact Gen.evS_cell _ _ _ (by show w.heap.size+4≠M.Wg;omega) (by show w.heap.size+4≠C;omega) N
 walk_nrm
 refine eB T ?_;refine dX T ?_;refine eI T ?_;simp only[ay,ai,ax,Nat.reduceAdd,ao,List.range,List.range.loop];refine qM rfl rfl (base_kind _) (.pointer (some ⟨w.heap.size+5,0,none⟩)) (fB w en) (λd=>(yx (w:=(gh w en).at d) Sj rfl).trans (by rw[show((gh w en).at d).heap.size=w.heap.size+5 from oP w en];rfl)) (λd f h=>j _ _ _ h) ?_
 walk_nrm
 refine eB T ?_;refine dX T ?_;refine eI T ?_;simp only[ay,ai,ax,Nat.reduceAdd,ao,List.range,List.range.loop];have U:prog.funcs[182]?=some (Lib.addFn tu):=xn.f_add;refine yM T rfl rfl (base_kind _) rfl U (Gen.nm_add tu) (c:=Gen.body_add tu) rfl ?_;have W:WgAt tu.tWg M.Wg (fB w en) 0 0:=by
  show(fB w en).heap[M.Wg]?=_;rw[R,<- oP w en];show((gh w en).heap.push _)[(gh w en).heap.size]?=_;rw[aq,if_pos rfl]
  rfl
 walk_nrmf Lib.addFn
 rw[<- R];refine(Gen.addPos (Wg:=M.Wg) (C:=C) (mT:=20) xn (fB w en) W ?_).mono (by omega);generalize Q:(fB w en).setCell (stA M.Wg) (.int .u64 KK)=wk
 walk_nrm
 refine eB T ?_;refine dX T ?_;refine eI T ?_;simp only[ay,ai,ax,Nat.reduceAdd,ao,List.range,List.range.loop];refine dx T (.func (.func 183) #[] #[ab M.Wg,.pointer (some ⟨w.heap.size+2,0,none⟩),ab w.heap.size,.pointer (some ⟨w.heap.size+4,0,none⟩)]) rfl rfl (base_kind _) (λw=>by go_simp;rfl) (λw=>by simp[go_sem,Instr.makeFunc]) ?_
 walk_nrm
 refine Goes.stop λad g=>?_;refine N8 rfl rfl (base_kind _) rfl rfl g (λw' P=>?_);clear T j W U g Q;have T:=kh M;have hb:(iY f138)=(iY f138):=rfl
 conv at hb=>rhs;simp only[iY,f138,aC]
 have r:(j9 f138)=(j9 f138):=rfl
 conv at r=>rhs;simp only[j9,f138,aC]
 have o:=EQ hE S hn (en:=en) (cn:=cn) (Fin:=jY prog M K fr cs) (K:=K) (cs:=fr::cs) (by omega) (O9 xn (by rw[ht];rfl) rfl S (by omega) (by omega)) M.n (aW _);rw[hb,r]at o;simp only[Nat.sub_self]at o
 walk_nrm
 refine Goes.mono (n:=(K-20)+8) ?_ (by omega);refine eB T ?_;refine dX T ?_;refine eI T ?_;refine dx T (Y 0) rfl rfl (base_kind _) (λw=>by go_simp) (λw=>by simp[go_sem]) ?_
 walk_nrm
 refine eB T ?_;refine dX T ?_;refine pF T ?_;refine CO T ?_;exact(o _ _ _ _ _ _ _ _ _ _ _ _ _ _ _ _ _ _ _ _ _ _ _ _ _ _ _ P).mono (by omega)
end
end Go.Proofs.YthbdpfccfcceiaaGreatDoor
