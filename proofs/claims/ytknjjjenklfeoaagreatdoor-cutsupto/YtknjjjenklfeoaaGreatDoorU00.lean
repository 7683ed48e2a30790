import Derived.Test.YtknjjjenklfeoaaGreatDoorRows
import Derived.WalkKit
import Derived.WalkSpells
import Derived.WalkLawsBesides
import Derived.BigQuiet
import Derived.Deep.QuietTactic
import Derived.Deep.MidRow
import Derived.Deep.RegionHeld3
import Derived.Deep.AppendLies
import Derived.Lib.QuietBelow
import Derived.Deep.WholeRow
set_option maxHeartbeats 8000000
set_option maxRecDepth 100000
set_option linter.all false
namespace Go.Proofs.YtknjjjenklfeoaaGreatDoor
open Go.RowKit
abbrev aj:=List UInt8
def aI (c:List UInt8) (i:Nat):Nat:=(c.getD i 0).toNat
def num (c:List UInt8) (i:Nat):Nat:=256*aI c i+aI c (i+1)
def uy (c:List UInt8) (i:Nat):aI c i<256:=by unfold aI;exact (c.getD i 0).toNat_lt
def iK (c:List UInt8) (i:Nat):num c i<65536:=by
 have a:=uy c i;have b:=uy c (i+1);unfold num;omega
structure bI where
 N:Nat
 At:Nat
 name:List UInt8
structure aU where
 L:List aj
 roots:List bI
 told:List Nat
 used:List Nat
 bad:Int
def cl (L:List aj) (n:Nat):aj:=L.getD n []
def aQ (L:List aj) (n:Nat):Nat:=aI (cl L (1+n / 64)) (n%64)
def Eh (R:aU) (n kind:Nat):Bool:=decide (n<6) || (decide (R.L.length≤n) || (R.told.getD n 0 != 0 && (R.told.getD n 0 != kind || kind == 1)))
def tell (R:aU) (n kind at':Nat):Bool × aU:=
 if Eh R n kind then (false,{ R with bad:=at' })
 else (true,{ R with told:=R.told.set n kind,used:=R.used.set n (R.used.getD n 0+1) })
def o8 (t:Nat):Nat→Nat→aU→Bool × aU
 | 0,_,R=>(true,R)
 | m+1,k,R=>
  if num (cl R.L t) (2*k)=0 then o8 t m (k+1) R
  else if (tell R (num (cl R.L t) (2*k)%32768) 3 t).1 then o8 t m (k+1) (tell R (num (cl R.L t) (2*k)%32768) 3 t).2
  else (false,(tell R (num (cl R.L t) (2*k)%32768) 3 t).2)
def xW (t:Nat):Nat→Nat→aU→Bool × aU
 | 0,_,R=>(true,R)
 | m+1,i,R=>
  if num (cl R.L t) (2*i)=0 then xW t m (i+1) R
  else if 1<i then (false,{ R with bad:=t })
  else if (tell R (num (cl R.L t) (2*i)%32768) 2 t).1 then
   if (o8 (num (cl R.L t) (2*i)%32768) 32 0 (tell R (num (cl R.L t) (2*i)%32768) 2 t).2).1 then
    xW t m (i+1) (o8 (num (cl R.L t) (2*i)%32768) 32 0 (tell R (num (cl R.L t) (2*i)%32768) 2 t).2).2
   else (false,(o8 (num (cl R.L t) (2*i)%32768) 32 0 (tell R (num (cl R.L t) (2*i)%32768) 2 t).2).2)
  else (false,(tell R (num (cl R.L t) (2*i)%32768) 2 t).2)
def tree (R:aU) (r:bI):Bool × aU:=
 if (tell R r.N 1 r.At).1 then xW r.N 32 0 (tell R r.N 1 r.At).2 else (false,(tell R r.N 1 r.At).2)
def vk (b:Nat) (R:aU):Prop:= ∀ n,R.used.getD n 0≤b
def Af (R:aU) (n kind at':Nat):(tell R n kind at').2.L=R.L:=by unfold tell;split <;> rfl
def NP (R:aU) (n kind at':Nat):(tell R n kind at').2.roots=R.roots:=by unfold tell;split <;> rfl
def Z8 (R:aU) (n kind at':Nat):(tell R n kind at').2.told.length=R.told.length:=by unfold tell;split <;> simp
def aww {b:Nat} {R:aU} (h:vk b R) (n kind at':Nat):vk (b+1) (tell R n kind at').2:=by
 intro k;have hk:=h k;have hn:=h n;unfold tell;split
 ·show R.used.getD k 0≤b+1;omega
 ·show (R.used.set n (R.used.getD n 0+1)).getD k 0≤b+1;simp only [List.getD_eq_getElem?_getD,List.getElem?_set] at*;split
  ·split <;> simp <;> omega
  ·omega
def JW {R:aU} {n kind at':Nat} (h:(tell R n kind at').1=true):6≤n∧n<R.L.length:=by
 unfold tell at h
 split at h
 ·simp at h
 ·rename_i a;simp [Eh] at a;omega
def pF (R:aU) (x:Nat):Bool:=if 32768≤x then (R.used.getD (x%32768) 0 != 1 || aQ R.L (x%32768) != 1) else false
def SH (R:aU) (n:Nat):Nat:=R.used.getD n 0
def ET (R:aU) (n:Nat):Bool:=(decide (n<R.L.length) && decide (aQ R.L n<SH R n)) || (aQ R.L n == 255 || (decide (R.L.length≤n) && aQ R.L n != 0))
def qB (R:aU):Nat→Nat→Int
 | 0,_=> -1
 | m+1,n=>if ET R n then n else qB R m (n+1)
def bF (p:Nat→Bool):Nat→Nat
 | 0=>0
 | k+1=>bF p k+if p k then 1 else 0
def QI (p:Nat→Bool) (k:Nat):bF p k≤k:=by
 induction k with
 | zero=>exact Nat.le_refl _
 | succ k ih=>simp only [bF];split <;> omega
def Fb (L:List aj):Nat:=256 - L.length+bF (fun k=>decide (6≤k) && aQ L k == 0) L.length
def sW (R:aU) (x:Nat):Nat:=if 32768≤x then 0 else if R.used.getD (x%32768) 0=1 then 1 else 0
section
def om {p:Prop} (h:p:=by omega):p:=h
def dc {p:Prop} (h:p:=by decide):p:=h
def kr {p:Prop} (h:p:=by kernel_rfl):p:=h
def sm {p:Prop} (h:p:=by simp):p:=h
def gn {p:Prop} (h:p:=by go_num):p:=h
def fC {w:World} {o:Obj}:Below w.heap.size w (w.alloc o):=(Below.refl _ _).alloc (Nat.le_refl _) _
def bW {p:Prop} (h:p:=by (simp [intOf];omega)):p:=h
abbrev aC (w w':World):Prop:=Below w.heap.size w w'
abbrev gY:=@List.mem_map
abbrev aX:=@heap_alloc_new
abbrev aO:=@Nat.le_refl
abbrev jL:=@Nat.le_trans
abbrev iL:=@Nat.lt_of_lt_of_le
abbrev jX:=@Below.heap_alloc
abbrev Tv:=@Below.heap_setCell
abbrev Md:=@World.cell?_of_block
abbrev aA:=@Or.inl
abbrev ay:=@Or.inr
abbrev jH:=@Option.some.injEq
abbrev qx:=@List.flatMap_cons
abbrev oL:=@List.length_append
abbrev iO:=@List.length_cons
abbrev EG:=@List.getD_cons_zero
abbrev zS:=@Nat.zero_mul
abbrev rE:=@Nat.zero_add
abbrev nV:=@List.getElem?_append_left
abbrev J5:=@List.getD_cons_succ
abbrev nP:=@List.getElem?_append_right
abbrev aN:=@List.getD_eq_getElem?_getD
abbrev bJ:=@List.getElem?_eq_getElem
abbrev o9:=@List.getElem_mem
abbrev Ia:=@List.getElem?_eq_some_iff
abbrev jK:=@List.getElem?_map
abbrev yR:=@List.getElem?_range
abbrev Gf:=@Option.map_some
abbrev anB:=@Option.isSome_iff_exists
abbrev uY:=@List.ext_getElem?
abbrev eG:=@List.getElem?_eq_none
abbrev Ib:=@run_storeVar_mid
abbrev jm:=@List.size_toArray
abbrev vU:=@all_oneCell_toArray
abbrev uZ:=@zero_of_info
abbrev ak:=@if_neg
abbrev vV:=@List.length_nil
abbrev au:=@if_pos
abbrev Gg:=@List.getElem?_cons_succ
abbrev anC:=@Array.getElem?_setIfInBounds
abbrev Bg:=@Nat.sub_self
abbrev J6:=@List.getElem?_cons_zero
abbrev Oc:=@List.mem_or_eq_of_mem_set
abbrev rV:=@List.length_set
abbrev Jl:=@Array.ext_getElem?
abbrev bZ:=@List.getElem?_toArray
abbrev uI:=@List.getElem?_set
abbrev LZ:=@Option.getD_some
abbrev zT:=@List.mem_flatMap
abbrev Mc:=@List.eq_of_mem_replicate
abbrev Ic:=@run_storeVar_new
abbrev afF:=@run_loadVar_new
abbrev WJ:=@Nat.sub_zero
abbrev WL:=@List.foldl_cons
abbrev jW:=@Nat.add_zero
abbrev Qj:=@Array.getElem?_eq_none
abbrev jC:=@Sem.run_bind
abbrev yh:=@run_underlying
abbrev sK:=@Result.andThen_ok
abbrev WM:=@run_program
abbrev zU:=@Sem.run_pure
abbrev Oe:=@List.forIn_cons
abbrev um:=@Bool.true_and
abbrev Ce:=@Bool.false_eq_true
abbrev yS:=@if_false
abbrev WO:=@Nat.mul_one
abbrev WQ:=@Bool.eq_iff_iff
abbrev Tq:=@List.all_eq_true
abbrev DI:=@decide_eq_true_iff
abbrev afG:=@run_equalIn_int
abbrev Tt:=@beq_iff_eq
abbrev Qk:=@UInt8.toNat_inj
abbrev xk:=@if_true
abbrev sN:=@List.append_nil
abbrev Ci:=@Nat.add_comm
abbrev tY:=@List.length_map
abbrev aaQ:=@Nat.add_sub_cancel_left
abbrev Bh:=@List.setIfInBounds_toArray
abbrev J7:=@List.set_append_right
abbrev afH:=@List.set_append_left
abbrev Og:=@List.map_set
abbrev Cj:=@Int.eq_ofNat_of_zero_le
abbrev Gh:=@Bool.false_or
abbrev wI:=@Bool.and_eq_true
abbrev ou:=@bne_iff_ne
abbrev Cm:=@Bool.or_eq_false_iff
abbrev lY:=@beq_eq_false_iff_ne
abbrev tZ:=@Int.toNat_natCast
abbrev J8:=@Nat.lt_or_ge
abbrev iP:=@List.mem_singleton
abbrev cO:=@List.mem_cons
abbrev jM:=@List.not_mem_nil
abbrev jO:=@or_false
abbrev lJ:=@below_regrown
abbrev DJ:=@wp_region_quiet_below
abbrev Aj:=@Calls.regrown_of
abbrev DK:=@wpQuiet_nil
abbrev Jm:=@cell_regrown
abbrev bG:=@Below.refl
abbrev iy:=@bodyPost_ret
abbrev rG:=@List.getElem?_replicate
abbrev Ji:=@List.map_congr_left
abbrev Wq:=@List.length_range
abbrev G9:=@List.mem_range
abbrev anw:=@Array.getElem?_eq_getElem
abbrev aav:=@List.range_succ
abbrev JY:=@List.getElem?_take
abbrev aaw:=@List.eq_nil_of_length_eq_zero
abbrev qw:=@info_parts
abbrev NY:=@World.cell?_alloc_lt
abbrev JZ:=@step_append_lies
abbrev pJ:=@World.news_of_block
abbrev wH:=@World.ownsRow_nil
abbrev SN:=@Nat.le_of_lt
abbrev Ws:=@Array.length_toList
abbrev lX:=@Nat.zero_le
abbrev x9:=@List.take_succ_eq_append_getElem
abbrev LP:=@List.take_append_drop
abbrev H7:=@List.take_length
abbrev gK:=@decide_eq_false
abbrev J3:=@Bool.false_and
abbrev jU:=@List.map_cons
abbrev LQ:=@List.map_nil
abbrev afk:=@Go.WideShapes.bytes_inj
abbrev Ai:=@List.length_replicate
abbrev jV:=@World.size_alloc
abbrev oq:=@List.set_cons_zero
abbrev dZ:=@decide_eq_true
abbrev yc:=@wpList_append_lies
abbrev Jj:=@List.count_append
abbrev aax:=@List.count_pos_iff
abbrev fK:=@List.mem_append
abbrev rQ:=@List.map_append
abbrev tV:=@List.append_assoc
abbrev H8:=@List.count_eq_zero
abbrev SQ:=@Bool.and_false
abbrev qy:=@List.nil_append
abbrev aay:=@List.length_singleton
abbrev aaz:=@Bool.and_true
abbrev aaA:=@Array.getElem?_toList
abbrev Qb:=@Nat.mul_le_mul_right
abbrev yg:=@List.length_take
abbrev LU:=@List.drop_eq_getElem_cons
abbrev LV:=@List.replicate_succ'
abbrev aaB:=@List.drop_length
abbrev NZ:=@UInt8.toNat_ofNat'
abbrev SS:=@Option.map_eq_some_iff
abbrev FY:=@IntWalk.i64_in
abbrev aaC:=@List.replicate_append_replicate
abbrev xg:=@List.set_cons_succ
abbrev SV:=@Nat.min_eq_left
abbrev Qc:=@List.getElem?_drop
abbrev Wu:=@List.replicate_succ
abbrev afl:=@bne_eq_false_iff_eq
abbrev afm:=@List.take_left
abbrev DF:=@results_none
abbrev FZ:=@results_cell_tmp
abbrev LW:=@Nat.add_assoc
abbrev Qd:=@List.map_map
abbrev aaD:=@results_tmp3
abbrev aaE:=@callsIn_of_wp
abbrev BX:=@Array.replicate_succ
abbrev BZ:=@Array.replicate_zero
abbrev Cb:=@List.push_toArray
abbrev Cc:=@List.append_toArray
abbrev rU:=@List.cons_append
abbrev fE:=@callsIn_wide
abbrev H9:=@congrArg
abbrev aaF:=@List.length_eq_zero_iff
abbrev Qe:=@List.filter_append
abbrev Wv:=@wpIn_mono
abbrev J4:=@List.take_of_length_le
abbrev SX:=@RoundIn.mono
abbrev Wx:=@List.ext_getElem
abbrev afn:=@List.length_filter_le
abbrev Wy:=@List.singleton_append
abbrev LX:=@List.mem_cons_of_mem
abbrev SY:=@List.mem_filter
abbrev tX:=@Eq.trans
abbrev afo:=@IntKind.wrap_u8
abbrev WB:=@Nat.mod_lt
abbrev aaG:=@results_tmp
abbrev S9:=@List.getElem?_take_of_lt
abbrev afp:=@List.nodup_iff_pairwise_ne
abbrev afq:=@List.pairwise_map
abbrev afr:=@List.pairwise_iff_getElem
abbrev aaH:=@List.take_set_of_le
abbrev EH:=@List.count_cons
abbrev WC:=@List.drop_of_length_le
abbrev WE:=@List.drop_zero
abbrev LY:=@Prod.ext
abbrev Jk:=@List.sum_cons
abbrev afs:=@List.nodup_cons
abbrev Tc:=@Bool.and_eq_false_iff
abbrev aft:=@List.extract_eq_take_drop
abbrev afu:=@Array.forIn_toList
abbrev Qg:=@List.forIn_nil
abbrev Qh:=@not_false_eq_true
abbrev WG:=@Bool.not_true
abbrev aaI:=@Bool.not_false
abbrev aaJ:=@Go.ByteArray.toList_eq
abbrev aaK:=@List.filter_cons
abbrev aaL:=@List.filter_eq_nil_iff
abbrev afv:=@List.foldl_append
abbrev N8:=@List.sublist_nil
abbrev Qi:=@List.flatMap_nil
abbrev Td:=@List.flatMap_append
abbrev Tf:=@List.getElem_of_mem
abbrev afw:=@List.nodup_append
abbrev aaM:=@List.mem_of_mem_eraseIdx
abbrev anx:=@Int.tmod_eq_emod_of_nonneg
abbrev WH:=@heap_alloc_old
abbrev Oa:=@List.mem_cons_self
abbrev aaN:=@Nat.min_def
abbrev anz:=@List.eraseIdx_append_of_length_le
abbrev afx:=@List.eraseIdx_of_length_le
abbrev anA:=@List.eraseIdx_append_of_lt_length
abbrev afy:=@List.find?_cons
abbrev Ti:=@List.find?_append
abbrev F9:=@of_decide_eq_false
abbrev aaO:=@of_decide_eq_true
abbrev afz:=@List.mem_replicate
abbrev afA:=@Nat.le_add_right
abbrev afB:=@Bool.eq_false_iff
abbrev Ob:=@results_tmp2
abbrev Tj:=@Option.some.inj
abbrev afC:=@List.mem_of_getElem?
abbrev Tn:=@Option.bind_eq_some_iff
abbrev WI:=@mapM_carry
abbrev afD:=@DataW.trod_string
abbrev afE:=@World.cell?_spot
abbrev aaP:=@Addr.add_mid
def ah {p:Prop} (h:p):Hid p:=h
def uh {p:Prop} (h:Hid p):p:=h
def VJ {k:IntKind} {a b:Int} (h:a=b):Ending.returned (.int k a)= .returned (.int k b):=by rw [h]
def cv (c:List UInt8):List Value:=c.map fun b=> .int .u8 b.toNat
def bC (c:List UInt8):(cv c).length=c.length:=by simp [cv]
def vG (c:List UInt8) (i:Nat) (h:i<c.length):(cv c)[i]? = some (.int .u8 (aI c i)):=by
 simp [cv,aI,h,List.getD]
def Au (c:List UInt8): ∀ v ∈ cv c,v.oneCell'=true:=by
 intro v hv;simp only [cv,gY] at hv;obtain ⟨b,_,rfl⟩:=hv;rfl
def wM (w:World) (cs:Array Value) (t:TypeId) (fr:Nat × Nat) (i:Nat):(w.alloc (.cells cs t fr)).cell? ⟨w.heap.size,i,none⟩=cs[i]? := by
 rw [World.cell?];rw [aX w (.cells cs t fr)];rfl
def aF {w:World} {f:Nat} {cs:Array Value} {t:TypeId} {fr:Nat × Nat} (h:w.heap[f]? = some (.cells cs t fr)) (i:Nat):w.cell? ⟨f,i,none⟩=cs[i]? := by
 rw [World.cell?,h];rfl
def eY {w:World} {f:Nat} {cs:Array Value} {t:TypeId} (h:w.heap[f]? = some (.cells cs t (0,0))) (i:Nat):w.frozen? ⟨f,i,none⟩=false:=by
 rw [World.frozen?,h];simp
structure Kept (S:Nat→Prop) (w w':World):Prop where
 os:w'.os=w.os
 tape:w'.tape=w.tape
 output:w'.output=w.output
 size:w.heap.size≤w'.heap.size
 block: ∀ k,k<w.heap.size→ ¬ S k→w'.heap[k]? = w.heap[k]?
def Kept.refl (S:Nat→Prop) (w:World):Kept S w w:=⟨rfl,rfl,rfl,aO _,fun _ _ _=>rfl⟩
def Kept.trans {S:Nat→Prop} {a b c:World} (h:Kept S a b) (k:Kept S b c):Kept S a c:=
 ⟨k.os.trans h.os,k.tape.trans h.tape,k.output.trans h.output,jL h.size k.size,fun i hi hs=>(k.block i (iL hi h.size) hs).trans (h.block i hi hs)⟩
def Kept.mono {S T:Nat→Prop} {w a:World} (h:Kept S w a) (hs: ∀ k,S k→T k):Kept T w a:=
 ⟨h.os,h.tape,h.output,h.size,fun i hi b=>h.block i hi fun x=>b (hs i x)⟩
def Kept.drew {S:Nat→Prop} {a w:World} (h:Kept S a w):Kept S a w.drew:=⟨h.os,h.tape,h.output,h.size,h.block⟩
def Kept.drewN {S:Nat→Prop} {a w:World} (h:Kept S a w) (n:Nat):Kept S a (w.drewN n):=⟨h.os,h.tape,h.output,h.size,h.block⟩
def Kept.alloc {S:Nat→Prop} {a w:World} (h:Kept S a w) (o:Obj):Kept S a (w.alloc o):=
 h.trans ⟨rfl,rfl,rfl,sm,fun k hk _=>jX _ _ _ hk⟩
def Kept.setCell {S:Nat→Prop} {a w:World} (h:Kept S a w) {p:Addr} (b:S p.block∨a.heap.size≤p.block) (u:Value):Kept S a (w.setCell p u):=
 ⟨h.os,h.tape,h.output,by simpa [World.setCell] using h.size,fun k hk hs=>by
  rw [Tv _ _ _ _ (by rintro rfl;rcases b with b | b;exact hs b;omega)];exact h.block k hk hs⟩
def Kept.dQ {S:Nat→Prop} {w a:World} (h:aC w a):Kept S w a:=⟨h.os,h.tape,h.output,h.size,fun k hk _=>h.block k hk⟩
def Kept.below {w a:World} (h:Kept (fun _=>False) w a):aC w a:=⟨h.os,h.tape,h.output,h.size,fun k hk=>h.block k hk id⟩
def Kept.cell {S:Nat→Prop} {w a:World} (h:Kept S w a) {p:Addr} (b:p.block<w.heap.size) (hs: ¬ S p.block):a.cell? p=w.cell? p:=
 Md (w:=w) (h.block p.block b hs)
def aK {w:World} {g:Nat} {o:Obj} (h:w.heap[g]? = some o):g<w.heap.size:=(Array.getElem?_eq_some_iff.1 h).1
def Kept.aG {S:Nat→Prop} {w a:World} (h:Kept S w a) {g:Nat} {o:Obj} (hs: ¬ S g) (b:w.heap[g]? = some o):a.heap[g]? = some o:=
 (h.block g (aK b) hs).trans b
def bV {S:Nat→Prop} {w b:World} (h:Kept S w b) {base:Nat} {e:TypeId} {size:Nat} {v:Value} {n:Nat} {xs:List Value} (hr:w.ownsRow base e size v n xs)
  (hs: ∀ g,v.ownBlock=some g→ ¬ S g):b.ownsRow base e size v n xs:=by
 obtain ⟨c,a⟩:=hr;refine ⟨c,?_⟩;rcases a with a | ⟨g,cap,cur,rfl,d,i,r⟩
 ·exact aA a
 ·exact ay ⟨g,cap,cur,rfl,d,h.aG (hs g rfl) i,r⟩
def iF {w:World} {base:Nat} {e:TypeId} {size:Nat} {v:Value} {n:Nat} {xs:List Value} (hr:w.ownsRow base e size v n xs) {f:Nat} {cs:Array Value} {t:TypeId} {fr:Nat × Nat}
  (d:w.heap[f]? = some (.cells cs t fr)) (c:e≠t): ∀ g,v.ownBlock=some g→g≠f:=by
 intro g a;rcases hr.2 with ⟨rfl,_⟩ | ⟨h,cap,cur,rfl,_,b,_⟩
 ·cases a
 ·rintro rfl;simp only [Value.ownBlock,jH] at a;subst a;rw [d] at b;simp at b;exact c b.2.1.symm
def heap_setCell_same (w:World) (f i:Nat) (v:Value) (cs:Array Value) (t:TypeId) (fr:Nat × Nat) (h:w.heap[f]? = some (.cells cs t fr)):
  (w.setCell ⟨f,i,none⟩ v).heap[f]? = some (.cells (cs.setIfInBounds i v) t fr):=by
 simp [World.setCell,Array.getElem?_modify,h]
def aS (L:List aj):List Value:=L.flatMap cv
def zi (L:List aj) (b: ∀ c ∈ L,c.length=64):(aS L).length=L.length*64:=by
 induction L with
 | nil=>rfl
 | cons a r ih=>
  have d:=b a sm;have e:=ih (fun c hc=>b c (by simp [hc]));simp only [aS,qx,oL,bC,iO] at*;omega
def QM (L:List aj) (b: ∀ c ∈ L,c.length=64) (k:Nat) (hk:k<L.length) (j:Nat) (hj:j<64):(aS L)[k*64+j]? = (cv (cl L k))[j]? := by
 induction L generalizing k with
 | nil=>simp at hk
 | cons a r ih=>
  have d:=b a sm;cases k with
  | zero=>
   simp only [aS,qx,cl,EG,zS,rE];rw [nV (by rw [bC];omega)]
  | succ k=>
   have e:=ih (fun c hc=>b c (by simp [hc])) k (by simpa using hk);simp only [aS,qx,cl,J5] at*;rw [nP (by rw [bC];omega),bC,d,← e]
   congr 1
   omega
def je {L:List aj} (a: ∀ c ∈ L,c.length=64) {k:Nat} (hk:k<L.length):(cl L k).length=64:=by
 unfold cl;rw [aN,bJ hk];exact a _ (o9 hk)
def dU (w:World) (b o n:Nat):Prop:= ∀ j,j<n→(w.cell? ⟨b,o+j,none⟩).isSome=true
def dO (w:World) (b o n:Nat):List Value:=(List.range n).map fun j=>(w.cell? ⟨b,o+j,none⟩).getD undef
def abR (w:World) (b o n:Nat):(dO w b o n).length=n:=by simp [dO]
def auE {w:World} {b o n:Nat} (h:dU w b o n):w.rangeAt b o (dO w b o n):=by
 intro j v hv;have hj:j<n:=by have:=(Ia.1 hv).1;rwa [abR] at this
 simp only [dO,jK,yR hj,Gf,jH] at hv;obtain ⟨u,hu⟩:=anB.1 (h j hj);rw [hu] at hv ⊢;simpa using hv
def sU {w:World} {b o n:Nat} {cs:List Value} (h:w.rangeAt b o cs) (hn:cs.length=n):dU w b o n:=fun j hj=>h.isSome j om
def qU {w:World} {b o n:Nat} {cs:List Value} (h:w.rangeAt b o cs) (hn:cs.length=n):dO w b o n=cs:=by
 refine uY fun j=> ?_
 by_cases hj:j<n
 ·rw [dO,jK,yR hj,bJ om]
  have:=h j _ (bJ om)
  simp [this]
 ·rw [eG (by rw [abR];omega),eG om]
def BQ {P:Program} {w:World} {b o n:Nat} (h:dU w b o n) (ty:TypeId) (d:TypeDesc) (hu:P.underlying ty=some d) (a:d.isRow=true) (hi:(P.info? ty).map (·.size)=some n):
  (loadVar ty ⟨b,o,none⟩).run P w= .ok (.agg (dO w b o n).toArray) w:=
 run_loadVar_mid w b o ty (dO w b o n) d (auE h) hu a (by rw [abR];exact hi)
def ado (a:Addr):Sem Value:=loadVar 38 a
def dw (a:Addr):loadVar 38 a=ado a:=rfl
def dM {w:World} {b o:Nat} (h:dU w b o 64):(ado ⟨b,o,none⟩).run Tryz.prog w= .ok (.agg (dO w b o 64).toArray) w:=
 BQ h 38 _ Tryz.underlying38 rfl kr
def ZM (a:Addr) (v:Value):Sem Unit:=storeVar 38 a v
def fP (a:Addr) (v:Value):storeVar 38 a v=ZM a v:=rfl
def fO {w:World} {b o:Nat} {c:List UInt8} (a:w.there b o 64) (hc:c.length=64):(ZM ⟨b,o,none⟩ (.agg (cv c).toArray)).run Tryz.prog w= .ok () (w.setCells b o (cv c)):=by
 have:=Ib (P:=Tryz.prog) w b o 38 (cv c).toArray (by simpa [bC,hc] using a) (by simp only [jm,bC,hc];kernel_rfl) (vU (Au c))
 simpa [ZM] using this
def zc:List UInt8:=List.replicate 64 0
def aV:zc.length=64:=by simp [zc]
def ang:Sem Value:=zeroValue 38
def fV:zeroValue 38=ang:=rfl
def fU (w:World):ang.run Tryz.prog w= .ok (.agg (cv zc).toArray) w:=
 (uZ (P:=Tryz.prog) (t:=38) (v:= .agg (cv zc).toArray) (n:=64) kr).1 w
def mY (cs:Array Value) (o:Nat):List Value→Array Value
 | []=>cs
 | v :: r=>mY (cs.setIfInBounds o v) (o+1) r
def ZG (o:Nat) (cs:Array Value) (vs:List Value):(mY cs o vs).size=cs.size:=by
 induction vs generalizing cs o with
 | nil=>rfl
 | cons v r ih=>rw [mY,ih];simp
def Ey (vs:List Value): ∀ (o:Nat) (cs:Array Value) (i:Nat),o+vs.length≤cs.size→(mY cs o vs)[i]? = if o≤i∧i<o+vs.length then vs[i - o]? else cs[i]? := by
 induction vs with
 | nil=>intro o cs i _;rw [mY,ak (by simp only [vV];omega)]
 | cons v r ih=>
  intro o cs i h;simp only [iO] at h;rw [mY,ih (o+1) _ i (by simp;omega)]
  by_cases a:o+1≤i∧i<o+1+r.length
  ·rw [au a,au (by simp only [iO];omega),show i - o=(i - (o+1))+1 by omega,Gg]
  ·rw [ak a,anC]
   by_cases b:o=i
   ·subst b;rw [au rfl,au om,au (by simp only [iO];omega),Bg,J6]
   ·rw [ak b,ak (by simp only [iO];omega)]
def KU (vs:List Value): ∀ (o:Nat) (w:World) (b:Nat) (cs:Array Value) (t:TypeId) (fr:Nat × Nat),w.heap[b]? = some (.cells cs t fr)→
  (w.setCells b o vs).heap[b]? = some (.cells (mY cs o vs) t fr):=by
 induction vs with
 | nil=>intro o w b cs t fr h;exact h
 | cons v r ih=>intro o w b cs t fr h;rw [World.setCells];exact ih (o+1) _ b _ t fr (heap_setCell_same w b o v cs t fr h)
def UQ (vs:List Value): ∀ (o:Nat) (w:World) (b k:Nat),k≠b→(w.setCells b o vs).heap[k]? = w.heap[k]? := by
 induction vs with
 | nil=>intro o w b k _;rfl
 | cons v r ih=>intro o w b k h;rw [World.setCells,ih (o+1) _ b k h];exact Tv _ _ _ _ h
def amb (vs:List Value): ∀ (o:Nat) (w:World) (b:Nat),(w.setCells b o vs).os=w.os∧(w.setCells b o vs).tape=w.tape∧(w.setCells b o vs).output=w.output∧(w.setCells b o vs).heap.size=w.heap.size:=by
 induction vs with
 | nil=>intro o w b;exact ⟨rfl,rfl,rfl,rfl⟩
 | cons v r ih=>
  intro o w b;rw [World.setCells];obtain ⟨a,c,d,e⟩:=ih (o+1) (w.setCell ⟨b,o,none⟩ v) b;exact ⟨a,c,d,by rw [e];simp [World.setCell]⟩
def Kept.setCells {S:Nat→Prop} {a w:World} (h:Kept S a w) {b:Nat} (c:S b∨a.heap.size≤b) (o:Nat) (vs:List Value):Kept S a (w.setCells b o vs):=by
 obtain ⟨d,e,g,i⟩:=amb vs o w b;refine ⟨d.trans h.os,e.trans h.tape,g.trans h.output,by rw [i];exact h.size,fun k hk hs=> ?_⟩;rw [UQ vs o w b k (by rintro rfl;rcases c with c | c;exact hs c;omega)];exact h.block k hk hs
def below_setCells {B:Nat} {a w:World} (h:Below B a w) {b:Nat} (i:B≤b) (o:Nat) (vs:List Value):Below B a (w.setCells b o vs):=by
 obtain ⟨c,d,e,g⟩:=amb vs o w b;exact ⟨c.trans h.os,d.trans h.tape,e.trans h.output,by rw [g];exact h.size,fun k hk=>(UQ vs o w b k om).trans (h.block k hk)⟩
def aeD (D:List aj) (a: ∀ c ∈ D,c.length=64) (k:Nat) (hk:k<D.length) (c:aj) (hc:c.length=64):mY (aS D).toArray (k*64) (cv c)=(aS (D.set k c)).toArray:=by
 have m:=zi D a;have b: ∀ x ∈ D.set k c,x.length=64:=by
  intro x l;rcases Oc l with h | h
  ·exact a x h
  ·rw [h];exact hc
 have j:=zi (D.set k c) b;rw [rV] at j;apply Jl;intro i;rw [Ey (cv c) _ _ i (by rw [bC,hc];simp;omega),bC,hc,bZ,bZ]
 by_cases hi:i<D.length*64
 ·have e:i=(i / 64)*64+i%64:=om;have d:i / 64<D.length:=om;rw [e,QM (D.set k c) b (i / 64) (by simpa using d) (i%64) om,QM D a (i / 64) d (i%64) om];unfold cl;simp only [aN,uI]
  by_cases g:k=i / 64
  ·rw [au g,au om,au om];simp only [LZ]
   congr 1
   omega
  ·rw [ak g,ak om]
 ·rw [ak om,eG om,eG om]
def ajZ (a:Addr):Sem Value:=loadVar 67 a
def Np (a:Addr):loadVar 67 a=ajZ a:=rfl
def NM {w:World} {b o:Nat} (h:dU w b o 4096):(ajZ ⟨b,o,none⟩).run Tryz.prog w= .ok (.agg (dO w b o 4096).toArray) w:=
 BQ h 67 _ Tryz.underlying67 rfl kr
def XV (D:List aj): ∀ v ∈ aS D,v.oneCell'=true:=by
 intro v hv;simp only [aS,zT] at hv;obtain ⟨c,_,hv⟩:=hv;exact Au c v hv
def aeQ (a:Addr) (v:Value):Sem Unit:=storeVar 67 a v
def PS (a:Addr) (v:Value):storeVar 67 a v=aeQ a v:=rfl
def Gi (D:List aj):Prop:= ∀ c ∈ D,c.length=64
def PI {w:World} {b o:Nat} {D:List aj} (a:w.there b o 4096) (c:Gi D) (d:D.length=64):(aeQ ⟨b,o,none⟩ (.agg (aS D).toArray)).run Tryz.prog w= .ok () (w.setCells b o (aS D)):=by
 have e:=zi D c;rw [d] at e
 have:=Ib (P:=Tryz.prog) w b o 67 (aS D).toArray (by rw [jm,e];exact a) (by rw [jm,e];kernel_rfl) (vU (XV D))
 simpa [aeQ] using this
def zD:List aj:=List.replicate 64 zc
def NW:zD.length=64:=by simp [zD]
def NV: ∀ c ∈ zD,c.length=64:=by intro c hc;rw [Mc hc];exact aV
def anj:Sem Value:=zeroValue 67
def Qa:zeroValue 67=anj:=rfl
def PK (w:World):anj.run Tryz.prog w= .ok (.agg (aS zD).toArray) w:=
 (uZ (P:=Tryz.prog) (t:=67) (v:= .agg (aS zD).toArray) (n:=4096) kr).1 w
def qZ {fn:Func} {p:Tmp} {ty:TypeId} (h:fn.results= #[.cell p ty]) {tmps:Array Value} {P:Program} {w:World} (a:Addr) {v:Value} (b:tmps.getD p undef= .pointer (some a)) (c:(loadVar ty a).run P w= .ok v w):
  (results fn tmps).run P w= .ok v w:=by
 simp only [results,h];simp [-Array.getD_eq_getD_getElem?,asAddr,b,c]
def gW {w:World} {z c:List UInt8} (a:z.length=64) (hc:c.length=64):
  (ZM ⟨w.heap.size,0,none⟩ (.agg (cv c).toArray)).run Tryz.prog (w.alloc (.cells (cv z).toArray 38))= .ok () (w.alloc (.cells (cv c).toArray 38)):=
 Ic w 38 (cv z).toArray (cv c).toArray (by simp only [jm,bC,hc];kernel_rfl) (by simp [bC,a,hc]) (vU (Au c))
def gB {w:World} {c:List UInt8} (hc:c.length=64):
  (ado ⟨w.heap.size,0,none⟩).run Tryz.prog (w.alloc (.cells (cv c).toArray 38))= .ok (.agg (cv c).toArray) (w.alloc (.cells (cv c).toArray 38)):=
 afF w 38 (cv c).toArray 64 5 Tryz.underlying38 (by simp only [jm,bC,hc];kernel_rfl)
def jc (w:World) (b o n:Nat):dU w.drew b o n=dU w b o n:=rfl
def jd (w:World) (b o n:Nat):dO w.drew b o n=dO w b o n:=rfl
def nH (w:World) (m b o n:Nat):dU (w.drewN m) b o n=dU w b o n:=rfl
def nK (w:World) (m b o n:Nat):dO (w.drewN m) b o n=dO w b o n:=rfl
def iD {w:World} {b:Nat} {c:List UInt8} {t:TypeId} {fr:Nat × Nat} (h:w.heap[b]? = some (.cells (cv c).toArray t fr)) (hc:c.length=64):dU w b 0 64:=
 fun j hj=>by rw [rE,aF h,bZ,vG _ _ om];rfl
def ao7 {w:World} {b:Nat} {c:List UInt8} {t:TypeId} {fr:Nat × Nat} (h:w.heap[b]? = some (.cells (cv c).toArray t fr)):w.rangeAt b 0 (cv c):=fun j v hv=>by
 rw [rE,aF h,bZ];exact hv
def iC {w:World} {b:Nat} {c:List UInt8} {t:TypeId} {fr:Nat × Nat} (h:w.heap[b]? = some (.cells (cv c).toArray t fr)) (hc:c.length=64):dO w b 0 64=cv c:=
 qU (ao7 h) (by rw [bC,hc])
def MR {w:World} {b:Nat} {c:List UInt8} {t:TypeId} {fr:Nat × Nat} (h:w.heap[b]? = some (.cells (cv c).toArray t fr)) (i:Nat) (hi:i<c.length):w.cell? ⟨b,i,none⟩=some (.int .u8 (aI c i:Nat)):=by
 rw [aF h,bZ,vG c i hi]
def OA {w:World} {b:Nat} {z c:List UInt8} {t:TypeId} {fr:Nat × Nat} (h:w.heap[b]? = some (.cells (cv z).toArray t fr)) (a:z.length=64) (hc:c.length=64):(w.setCells b 0 (cv c)).heap[b]? = some (.cells (cv c).toArray t fr):=by
 rw [KU _ _ _ _ _ _ _ h]
 congr 2
 apply Jl;intro i;rw [Ey _ _ _ _ (by simp [bC,a,hc]),bC,hc,bZ,bZ]
 by_cases hi:i<64
 ·rw [au om,WJ]
 ·rw [ak om,eG (by rw [bC];omega),eG (by rw [bC];omega)]
def aqQ (vs:List Value): ∀ (k off:Nat) (cs:Array Value),(vs.zipIdx k).foldl (fun cs x=>cs.setIfInBounds (off+x.2) x.1) cs=mY cs (off+k) vs:=by
 induction vs with
 | nil=>intro k off cs;rfl
 | cons v r ih=>intro k off cs;rw [List.zipIdx_cons,WL,ih (k+1) off,mY];rfl
def KO (place:Nat→Option (Nat × Nat)) (cs:Array Value) (i off n:Nat) (v:Value) (rest:List (Nat × Value)) (a:place i=some (off,n)) (hv:v.cells.size=n) (b:off+n≤cs.size):
  Instr.fill place cs ((i,v) :: rest)=Instr.fill place (mY cs off v.cells.toList) rest:=by
 rw [Instr.fill,a];simp only [hv];rw [ak (by simp;omega)]
 congr 1
 rw [← Array.foldl_toList,Array.toList_zipIdx,aqQ,jW]
def qL (vs:List Value) (cs:Array Value) (h:cs.size=vs.length):mY cs 0 vs=vs.toArray:=by
 apply Jl;intro i;rw [Ey vs 0 cs i om]
 by_cases hi:i<vs.length
 ·rw [au om,WJ];simp
 ·rw [ak om,Qj om,Qj (by simp;omega)]
def VN {P:Program} (w:World) (t e:TypeId) (n:Nat) (z v:Value) (b:P.underlying t=some (.slice e)) (hi:(P.info? e).map (fun i=>(i.zero,i.size))=some (some z,n)) (h0:0<n) (hn:n≤16777216) (hv:v.cells.size=n):
  (Instr.buildSlice t 1 #[(0,v)]).run P w= .ok (.slice (some ⟨w.heap.size,0,none⟩) 1 1) (w.alloc (.cells v.cells e)):=by
 obtain ⟨c,hs⟩:=uZ hi;cases hq:P.info? e with
 | none=>simp [hq] at hs
 | some i=>
  have a:i.size=n:=by simpa [hq] using hs
  have d:Instr.fill (fun i=>some (i*n,n)) ((Array.range (1*n)).map (z.cells[· % z.cells.size]!)) [(0,v)]=some v.cells:=by
   rw [KO _ _ 0 0 n v [] sm hv sm,Instr.fill,qL _ _ (by simp [hv])]
  unfold Instr.buildSlice;rw [jC,yh b w];simp only [sK,sizeOf,typeInfo,jC,WM,hq,zU,a];rw [ak om,ak om];simp only [jC,c,sK,zU,d];simp [newRow]
def agV (parts:Array (Nat × Value)):Sem Value:=Instr.buildSlice 28 1 parts
def kQ (parts:Array (Nat × Value)):Instr.buildSlice 28 1 parts=agV parts:=rfl
def kW {w:World} {c:List UInt8} (hc:c.length=64):(agV #[(0,.agg (cv c).toArray)]).run Tryz.prog w= .ok (.slice (some ⟨w.heap.size,0,none⟩) 1 1) (w.alloc (.cells (cv c).toArray 38)):=
 VN w 28 38 64 (.agg (cv zc).toArray) (.agg (cv c).toArray) Tryz.underlying28 kr om om (by simp [Value.cells,bC,hc])
def al6 {P:Program} (d:Nat) (e:TypeId) (sz:Nat) (xs g:Array Value) (A B:Nat→Value) (E:Nat→Bool): ∀ (n s:Nat) (w:World),
  (∀ i,s≤i→i<s+n→ ∀ w,(part e xs (i*sz)).run P w= .ok (A i) w)→(∀ i,s≤i→i<s+n→ ∀ w,(part e g (i*sz)).run P w= .ok (B i) w)→(∀ i,s≤i→i<s+n→ ∀ w,(Op.equalIn d e (A i) (B i)).run P w= .ok (E i) w)→
  (forIn (List.range' s n 1) ((none:Option Bool),()) fun i _=>do
    let a ← part e xs (i*sz)
    let b ← part e g (i*sz)
    let c ← Op.equalIn d e a b
    if (!c)=true then pure (ForInStep.done (some false,())) else pure (ForInStep.yield (none,()))).run P w= .ok (if (List.range' s n 1).all E then (none,()) else (some false,())) w
 | 0,s,w,_,_,_=>sm
 | n+1,s,w,j,hB,k=>by
  rw [List.range'_succ,Oe];simp only [jC,j s (aO _) om,hB s (aO _) om,k s (aO _) om,sK,List.all_cons]
  by_cases hs:E s=true
  case neg=>
   have h:E s=false:=by simpa using hs
   rw [au (by simp [h])];simp [h]
  case pos=>
   rw [ak (by simp [hs])];simp only [zU,sK,hs,um];exact al6 d e sz xs g A B E n (s+1) w (fun i l m=>j i om om) (fun i l m=>hB i om om) (fun i l m=>k i om om)
def run_equalIn_array {P:Program} (w:World) (d:Nat) (t e:TypeId) (n sz:Nat) (xs a:Array Value) (A B:Nat→Value) (E:Nat→Bool) (hu:P.underlying t=some (.array n e)) (hs:(P.info? e).map (·.size)=some sz)
  (c: ∀ i,i<n→ ∀ w,(part e xs (i*sz)).run P w= .ok (A i) w) (hB: ∀ i,i<n→ ∀ w,(part e a (i*sz)).run P w= .ok (B i) w) (g: ∀ i,i<n→ ∀ w,(Op.equalIn d e (A i) (B i)).run P w= .ok (E i) w):
  (Op.equalIn (d+1) t (.agg xs) (.agg a)).run P w= .ok ((List.range' 0 n 1).all E) w:=by
 cases hq:P.info? e with
 | none=>simp [hq] at hs
 | some i=>
  have hi:i.size=sz:=by simpa [hq] using hs
  have b:(Go.sizeOf e).run P w= .ok sz w:=by simp [Go.sizeOf,typeInfo,hq,hi]
  simp only [Op.equalIn,jC,yh hu,sK,b];rw [Std.Legacy.Range.forIn_eq_forIn_range']
  have:=al6 (P:=P) d e sz xs a A B E n 0 w (fun i _ h=>c i om) (fun i _ h=>hB i om) (fun i _ h=>g i om)
  simp only [Std.Legacy.Range.size,WJ,Nat.add_sub_cancel,Nat.div_one] at*;rw [this];cases (List.range' 0 n 1).all E <;> simp
def ad3 (c:List UInt8) (i:Nat) (hi:i<c.length) (w:World):(part 5 (cv c).toArray (i*1)).run Tryz.prog w= .ok (.int .u8 (aI c i:Nat)) w:=by
 have a:(isAgg 5).run Tryz.prog w= .ok false w:=by unfold isAgg;rw [jC,yh Tryz.underlying5 w];rfl
 unfold part;rw [jC,a];simp only [sK,Ce,yS,WO];rw [bZ,vG c i hi];rfl
def agH (n:Nat) (E:Nat→Bool) (p:Prop) [Decidable p] (h:(∀ i,i<n→E i=true)↔p):(List.range' 0 n 1).all E=decide p:=by
 rw [WQ,Tq,DI,← h];constructor
 ·intro x i hi;exact x i (by simp [List.mem_range'];omega)
 ·intro x i hi;simp [List.mem_range'] at hi;exact x i om
def aeu (d:Nat) (a b:List UInt8) (c:a.length=64) (g:b.length=64) (w:World):(Op.equalIn (d+1+1) 38 (.agg (cv a).toArray) (.agg (cv b).toArray)).run Tryz.prog w= .ok (decide (a=b)) w:=by
 rw [run_equalIn_array w (d+1) 38 5 64 1 (cv a).toArray (cv b).toArray (fun i=> .int .u8 (aI a i:Nat)) (fun i=> .int .u8 (aI b i:Nat)) (fun i=>((aI a i:Nat):Int) == ((aI b i:Nat):Int)) Tryz.underlying38 kr
  (fun i hi w=>ad3 a i om w) (fun i hi w=>ad3 b i om w) (fun i hi w=>afG w d 5 .u8 .u8 _ _ Tryz.underlying5)]
 congr 1
 refine agH 64 _ (a=b) ⟨fun h=> ?_,fun h i _=>by rw [h];simp⟩;refine uY fun i=> ?_
 by_cases hi:i<64
 ·have:=h i hi
  rw [Tt] at this;have e:aI a i=aI b i:=om;unfold aI at e;rw [bJ om,bJ om];simp only [aN,bJ (show i<a.length by omega),bJ (show i<b.length by omega),LZ] at e;rw [Qk.1 e]
 ·rw [eG om,eG om]
def alb (D:List aj) (a:Gi D) (i:Nat) (hi:i<D.length) (rest:List Value) (w:World):(part 38 (aS D++rest).toArray (i*64)).run Tryz.prog w= .ok (.agg (cv (cl D i)).toArray) w:=by
 have c:(isAgg 38).run Tryz.prog w= .ok true w:=by unfold isAgg;rw [jC,yh Tryz.underlying38 w];rfl
 have hs:(Go.sizeOf 38).run Tryz.prog w= .ok 64 w:=by
  have:=Tryz.prog.info? 38
  cases hq:Tryz.prog.info? 38 with
  | none=>
   have h:(Tryz.prog.info? 38).isSome=true:=kr;exact absurd hq (by intro e;rw [e] at h;cases h)
  | some i=>
   have b:(Tryz.prog.info? 38).map (·.size)=some 64:=kr;rw [hq] at b;simp at b;simp [Go.sizeOf,typeInfo,hq,b]
 unfold part;rw [jC,c];simp only [sK,xk,jC,hs,zU];have g:=zi D a;have d:=je a hi;have e:(aS D++rest).toArray.extract (i*64) (i*64+64)=(cv (cl D i)).toArray:=by
  apply Jl;intro j;rw [Array.getElem?_extract,bZ,jm,oL]
  by_cases hj:j<64
  ·rw [au om,bZ,nV om,QM D a i hi j hj]
  ·rw [ak om,Qj (by rw [jm,bC];omega)]
 rw [e]
def al8 (d:Nat) (C D:List aj) (a:Gi C) (b:Gi D) (hc:C.length=64) (g:D.length=64) (w:World):(Op.equalIn (d+1+1+1) 67 (.agg (aS C).toArray) (.agg (aS D).toArray)).run Tryz.prog w= .ok (decide (C=D)) w:=by
 have c:=fun i (hi:i<64) w=>alb C a i om [] w;have e:=fun i (hi:i<64) w=>alb D b i om [] w;simp only [sN] at c e;rw [run_equalIn_array w (d+1+1) 67 38 64 64 (aS C).toArray (aS D).toArray (fun i=> .agg (cv (cl C i)).toArray) (fun i=> .agg (cv (cl D i)).toArray) (fun i=>decide (cl C i=cl D i)) Tryz.underlying67 kr
  c e (fun i hi w=>aeu d _ _ (je a om) (je b om) w)]
 congr 1
 refine agH 64 _ (C=D) ⟨fun h=> ?_,fun h i _=>by rw [h];simp⟩;refine uY fun i=> ?_
 by_cases hi:i<64
 ·have:=h i hi
  rw [DI] at this;unfold cl at this;simp only [aN,bJ (show i<C.length by omega),bJ (show i<D.length by omega),LZ] at this;rw [bJ om,bJ om,this]
 ·rw [eG om,eG om]
def PN (a b vs:List Value) (h:a.length=vs.length):mY (a++b).toArray 0 vs=(vs++b).toArray:=by
 apply Jl;intro i;rw [Ey vs 0 _ i (by simp;omega),bZ,bZ]
 by_cases hi:i<vs.length
 ·rw [au om,WJ,nV hi]
 ·rw [ak om,nP om,nP om,h]
def ZE (a b vs:List Value) (h:b.length=vs.length):mY (a++b).toArray a.length vs=(a++vs).toArray:=by
 apply Jl;intro i;rw [Ey vs a.length _ i (by simp;omega),bZ,bZ]
 by_cases hi:i<a.length
 ·rw [ak om,nV hi,nV hi]
 ·by_cases c:i<a.length+vs.length
  ·rw [au om,nP om]
  ·rw [ak om,eG (by simp;omega),eG (by simp;omega)]
def LH {P:Program} (w:World) (t:TypeId) (fs:Array Field) (z:Value) (pl:Array (Nat × Nat)) (parts:Array (Nat × Value)) (cells:Array Value) (b:P.underlying t=some (.struct fs)) (c: ∀ w,(zeroValue t).run P w= .ok z w)
  (a: ∀ w,Sem.run P (fs.mapM fun (f:Field)=>do
    let n ← Go.sizeOf f.type
    pure (f.offset,n)) w= .ok pl w) (d:Instr.fill (pl[·]?) z.cells parts.toList=some cells):(Instr.build t parts).run P w= .ok (.agg cells) w:=by
 unfold Instr.build;simp only [jC,c,sK,yh b,a,d,zU]
def yC (x y:Value):Sem Bool:=Op.equalIn 10000 38 x y
def jE (x y:Value):Op.equalIn 10000 38 x y=yC x y:=rfl
def wY {a b:List UInt8} (c:a.length=64) (d:b.length=64) (w:World):(yC (.agg (cv a).toArray) (.agg (cv b).toArray)).run Tryz.prog w= .ok (decide (a=b)) w:=aeu 9998 a b c d w
def aco (x y:Value):Sem Bool:=Op.equalIn 10000 67 x y
def Ut (x y:Value):Op.equalIn 10000 67 x y=aco x y:=rfl
def avp {C D:List aj} (a:Gi C) (b:Gi D) (hc:C.length=64) (c:D.length=64) (w:World):(aco (.agg (aS C).toArray) (.agg (aS D).toArray)).run Tryz.prog w= .ok (decide (C=D)) w:=al8 9997 C D a b hc c w
def iE (r:bI):List Value:=[.int .i64 r.N,.int .i64 r.At,.string ⟨r.name.toArray⟩]
def AV (n:Nat):Value:= .int .i64 n
def Eb (Lv Rv:Value) (R:aU):List Value:=Lv :: Rv :: (R.told.map AV++(R.used.map AV++[.int .i64 R.bad]))
structure bY (w:World) (f:Nat) (Lv Rv:Value) (R:aU):Prop where
 aG:w.heap[f]? = some (.cells (Eb Lv Rv R).toArray 93 (0,0))
 fJ:w.ownsRow 0 38 64 Lv R.L.length (aS R.L)
 pG:w.ownsRow 0 132 3 Rv R.roots.length (R.roots.flatMap iE)
 told:R.told.length=256
 used:R.used.length=256
 lens: ∀ c ∈ R.L,c.length=64
section
variable {w:World} {f:Nat} {Lv Rv:Value} {R:aU}
def bY.vF (h:bY w f Lv Rv R):w.cell? ⟨f,0,none⟩=some Lv:=by rw [aF h.aG];rfl
def bY.CV (h:bY w f Lv Rv R):w.cell? ⟨f,1,none⟩=some Rv:=by rw [aF h.aG];rfl
def bY.ahf (h:bY w f Lv Rv R) (n:Nat) (hn:n<256):w.cell? ⟨f,2+n,none⟩=some (.int .i64 ((R.told.getD n 0:Nat):Int)):=by
 rw [aF h.aG,bZ,Ci];show (R.told.map AV++(R.used.map AV++[.int .i64 R.bad]))[n]? = _;have a:=h.told;rw [nV (by simp;omega),jK,aN,bJ om];rfl
def bY.Ud (h:bY w f Lv Rv R) (n:Nat) (hn:n<256):w.cell? ⟨f,258+n,none⟩=some (.int .i64 ((R.used.getD n 0:Nat):Int)):=by
 rw [aF h.aG,bZ,show 258+n=(256+n)+2 by omega];show (R.told.map AV++(R.used.map AV++[.int .i64 R.bad]))[256+n]? = _;have a:=h.told;have hu:=h.used;rw [nP (by simp;omega),tY,a,aaQ,nV (by simp;omega),jK,aN,bJ om];rfl
def bY.DX (h:bY w f Lv Rv R):w.cell? ⟨f,514,none⟩=some (.int .i64 R.bad):=by
 rw [aF h.aG,bZ];show (R.told.map AV++(R.used.map AV++[.int .i64 R.bad]))[512]? = _;have a:=h.told;have hu:=h.used;rw [nP (by simp;omega),tY,a,nP (by simp;omega),tY,hu];rfl
def bY.fz (h:bY w f Lv Rv R) (i:Nat):w.frozen? ⟨f,i,none⟩=false:=eY h.aG i
def bY.lt (h:bY w f Lv Rv R):f<w.heap.size:=aK h.aG
def bY.GR (h:bY w f Lv Rv R): ∀ g,Lv.ownBlock=some g→g≠f:=iF h.fJ h.aG dc
def bY.Vz (h:bY w f Lv Rv R): ∀ g,Rv.ownBlock=some g→g≠f:=iF h.pG h.aG dc
def bY.akH (h:bY w f Lv Rv R): ∀ g,Rv.ownBlock=some g→Lv.ownBlock≠some g:=by
 intro g b a;rcases h.fJ.2 with ⟨rfl,_⟩ | ⟨d,cap,cur,rfl,_,c,_⟩
 ·cases a
 ·simp only [Value.ownBlock,jH] at a;subst a;exact iF h.pG c dc _ b rfl
def bY.kept {a:World} {S:Nat→Prop} (h:bY w f Lv Rv R) (hk:Kept S w a) (b: ¬ S f) (hL: ∀ g,Lv.ownBlock=some g→ ¬ S g) (hR: ∀ g,Rv.ownBlock=some g→ ¬ S g):bY a f Lv Rv R:=
 ⟨hk.aG b h.aG,bV hk h.fJ hL,bV hk h.pG hR,h.told,h.used,h.lens⟩
def bY.drew (h:bY w f Lv Rv R):bY w.drew f Lv Rv R:=
 h.kept (S:=fun _=>False) ((Kept.refl _ _).drew) id (fun _ _=>id) (fun _ _=>id)
def bY.below {a:World} (h:bY w f Lv Rv R) (b:aC w a):bY a f Lv Rv R:=
 h.kept (S:=fun _=>False) (Kept.dQ b) id (fun _ _=>id) (fun _ _=>id)
def Kept.only (w:World) (f i:Nat) (v:Value):Kept (fun k=>k=f) w (w.setCell ⟨f,i,none⟩ v):=(Kept.refl (fun k=>k=f) w).setCell (p:=⟨f,i,none⟩) (aA rfl) v
def bY.stored (h:bY w f Lv Rv R) (i:Nat) (v:Value) (R':aU) (hL:R'.L=R.L) (hR:R'.roots=R.roots) (a:R'.told.length=256) (hu:R'.used.length=256)
  (hc:(Eb Lv Rv R).set i v=Eb Lv Rv R'):bY (w.setCell ⟨f,i,none⟩ v) f Lv Rv R':=by
 have hk:=Kept.only w f i v;refine ⟨?_,by rw [hL];exact bV hk h.fJ h.GR,by rw [hR];exact bV hk h.pG h.Vz,a,hu,by rw [hL];exact h.lens⟩;rw [heap_setCell_same w f i v _ _ _ h.aG,← hc,Bh]
def bY.Sr (h:bY w f Lv Rv R) (b:Int):bY (w.setCell ⟨f,514,none⟩ (.int .i64 b)) f Lv Rv { R with bad:=b }:=by
 refine h.stored 514 _ _ rfl rfl h.told h.used ?_;have a:=h.told;have hu:=h.used;show Lv :: Rv :: (R.told.map AV++(R.used.map AV++[Value.int .i64 R.bad])).set 512 _=_;rw [J7 _ _ (by simp;omega),J7 _ _ (by simp;omega)];simp [a,hu,Eb]
def bY.avO (h:bY w f Lv Rv R) (n k:Nat) (hn:n<256):bY (w.setCell ⟨f,2+n,none⟩ (.int .i64 (k:Int))) f Lv Rv { R with told:=R.told.set n k }:=by
 refine h.stored (2+n) _ _ rfl rfl (by simp [h.told]) h.used ?_;have a:=h.told;rw [Ci];show Lv :: Rv :: (R.told.map AV++(R.used.map AV++[Value.int .i64 R.bad])).set n _=_;rw [afH _ _ (by simp;omega)];simp [Eb,AV,Og]
def bY.amd (h:bY w f Lv Rv R) (n k:Nat) (hn:n<256):bY (w.setCell ⟨f,258+n,none⟩ (.int .i64 (k:Int))) f Lv Rv { R with used:=R.used.set n k }:=by
 refine h.stored (258+n) _ _ rfl rfl h.told (by simp [h.used]) ?_;have a:=h.told;have hu:=h.used;rw [show 258+n=(256+n)+2 by omega];show Lv :: Rv :: (R.told.map AV++(R.used.map AV++[Value.int .i64 R.bad])).set (256+n) _=_;rw [J7 _ _ (by simp;omega),tY,a,aaQ,afH _ _ (by simp;omega)];simp [Eb,AV,Og]
end
def FD (c:List UInt8) (at':Int) (w:World) (hc:c.length=64) (h0:0≤at') (b:at'<63):
  Calls Tryz.prog 136 #[.agg (cv c).toArray,.int .i64 at'] w fun e a=>e= .returned (.int .i64 (num c at'.toNat:Nat))∧aC w a:=by
 obtain ⟨n,rfl⟩:=Cj h0;have b1:=uy c n;have b2:=uy c (n+1);have d:(w.alloc (.cells (cv c).toArray 38)).cell? ⟨w.heap.size,n,none⟩=some (.int .u8 (aI c n:Nat)):=by
  rw [wM,bZ,vG];omega
 have g:(w.alloc (.cells (cv c).toArray 38)).cell? ⟨w.heap.size,n+1,none⟩=some (.int .u8 (aI c (n+1):Nat)):=by
  rw [wM,bZ,vG];omega
 go_enter Tryz.func136,Tryz.ntmps136
 go_wp2
 go_quiet (fail)
 go_wp2;go_ret;refine ⟨?_,?_⟩
 ·simp [num]
 ·exact (((Kept.refl (fun _=>False) w).alloc _).drewN _).below
end
end Go.Proofs.YtknjjjenklfeoaaGreatDoor
