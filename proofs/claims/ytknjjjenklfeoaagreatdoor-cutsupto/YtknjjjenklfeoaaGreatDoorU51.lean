/- PROVED HERE: the tied card of vellumlaw.Cuts in its second form (CutsUptoCardSaid): at every script of bulk at most 1048576, Cuts returns true and the script reads behind the call as it read before. -/
import Derived.Test.YtknjjjenklfeoaaGreatDoorU50
import Derived.Deep.Slices
import Derived.Deep.DeepHandedRow
import Derived.OpenShut
import Derived.Deep.DeepWitnessRowRef
import Derived.Test.YtknjjjenklfeoaaGreatDoorCards
import Derived.Test.YtknjjjenklfeoaaGreatDoorTie
import Derived.SevenTiedAt
set_option maxHeartbeats 8000000
set_option maxRecDepth 100000
set_option linter.all false
namespace Go.Proofs.YtknjjjenklfeoaaGreatDoor
open Go.RowKit Go.ChangeShapes Go.WideShapes Go.Deep
section
variable {H:Type} {enc:TypeId × Value→H} {w:World} {sp:Nat→Bool}
theorem ak2 {t e:TypeId} {n:Nat} {c:Value} {x:DataW H × List MemPlace} (b:Tryz.prog.underlying t=some (.slice e))
  (h:DataW.trod enc Tryz.prog w 0 sp true n t [c]=some x):c.oneCell'=true:=by
 rcases open_slice b h with ⟨hc,_⟩ | ⟨a,len,cap,_,_,_,_,hc,_⟩
 ·obtain rfl:c= .slice none 0 0:=by simpa using hc
  rfl
 ·obtain rfl:c= .slice (some a) len cap:=by simpa using hc
  rfl
theorem qp {α:Type} {l:List α} (h:l.length=6): ∃ a b c d e f,l=[a,b,c,d,e,f]:=by
 match l,h with
 | [a,b,c,d,e,f],_=>exact ⟨a,b,c,d,e,f,rfl⟩
theorem ak1:Tryz.prog.cellsOf 3=1:=kr
theorem adU:Tryz.prog.cellsOf 9=1:=kr
theorem atv:Tryz.prog.cellsOf 34=1:=kr
theorem atu:Tryz.prog.cellsOf 57=1:=kr
def abp {H:Type} (enc:TypeId × Value→H) (w:World) (sp:Nat→Bool) (K:Nat) (o:lM):Prop:=
 (∃ fuel y,DataW.trod enc Tryz.prog w 0 sp true fuel 34 [o.raw]=some y)∧(∃ fuel y,DataW.trod enc Tryz.prog w 0 sp true fuel 57 [o.gone]=some y∧Rows.uptoBulk y.1≤K)∧ -9223372036854775808≤o.n∧o.n≤9223372036854775807
theorem atG {n:Nat} {cs:List Value} {x:DataW H × List MemPlace} (h:DataW.trod enc Tryz.prog w 0 sp true n 80 cs=some x):
  ∃ o:lM,cs=dI o∧o.Fits∧(o.text.size≤maxLen∧o.name.size≤maxLen)∧abp enc w sp (Rows.uptoBulk x.1) o∧ ∃ l,x.1= .agg l∧0<l.length:=by
 obtain ⟨xs,m,_,rfl,F,hlen,b⟩:=DataW.trod_struct Tryz.underlying80 h;have z:cs.length=6:=F.trans kr;have A:xs.length=6:=hlen;obtain ⟨c0,c1,c2,c3,c4,a,rfl⟩:=qp z;obtain ⟨p,r,t,v,y,e,rfl⟩:=qp A;have f:DataW.trod enc Tryz.prog w 0 sp true m 3 (([c0,c1,c2,c3,c4,a].drop 0).take (Tryz.prog.cellsOf 3))=some p:=b 0 _ rfl;have g:DataW.trod enc Tryz.prog w 0 sp true m 3 (([c0,c1,c2,c3,c4,a].drop 1).take (Tryz.prog.cellsOf 3))=some r:=b 1 _ rfl;have i:DataW.trod enc Tryz.prog w 0 sp true m 9 (([c0,c1,c2,c3,c4,a].drop 2).take (Tryz.prog.cellsOf 9))=some t:=b 2 _ rfl;have j:DataW.trod enc Tryz.prog w 0 sp true m 9 (([c0,c1,c2,c3,c4,a].drop 3).take (Tryz.prog.cellsOf 9))=some v:=b 3 _ rfl;have c:DataW.trod enc Tryz.prog w 0 sp true m 34 (([c0,c1,c2,c3,c4,a].drop 4).take (Tryz.prog.cellsOf 34))=some y:=b 4 _ rfl
 have d:DataW.trod enc Tryz.prog w 0 sp true m 57 (([c0,c1,c2,c3,c4,a].drop 5).take (Tryz.prog.cellsOf 57))=some e:=b 5 _ rfl;rw [ak1] at f;rw [ak1] at g;rw [adU] at i;rw [adU] at j;rw [atv] at c;rw [atu] at d;change DataW.trod enc Tryz.prog w 0 sp true m _ [c0]=_ at f;change DataW.trod enc Tryz.prog w 0 sp true m _ [c1]=_ at g;change DataW.trod enc Tryz.prog w 0 sp true m _ [c2]=_ at i;change DataW.trod enc Tryz.prog w 0 sp true m _ [c3]=_ at j;change DataW.trod enc Tryz.prog w 0 sp true m _ [c4]=_ at c;change DataW.trod enc Tryz.prog w 0 sp true m _ [a]=_ at d;obtain ⟨k,hk,_⟩:=DataW.trod_int (k:= .i64) kr f;obtain ⟨q,G,_,B⟩:=DataW.trod_int (k:= .i64) kr g;obtain ⟨s,hs,_,C⟩:=afD kr i;obtain ⟨u,hu,_,D⟩:=afD kr j;have I:=ak2 Tryz.underlying34 c;have g5:=ak2 Tryz.underlying57 d;obtain rfl:c0= .int .i64 k:=by simpa using hk
 obtain rfl:c1= .int .i64 q:=by simpa using G
 obtain rfl:c2= .string s:=by simpa using hs
 obtain rfl:c3= .string u:=by simpa using hu
 have hr: -9223372036854775808≤q∧q≤9223372036854775807:=by
  simp [Lit.wf] at B;have J:IntKind.i64.min= -9223372036854775808:=dc;have K:IntKind.i64.max=9223372036854775807:=dc;omega
 have E:Rows.uptoBulk e.1≤Rows.uptoBulkAll [p.1,r.1,t.1,v.1,y.1,e.1]+1:=by simp [Rows.uptoBulkAll];omega
 exact ⟨⟨k,q,s,u,c4,a⟩,rfl,⟨I,g5⟩,⟨D,C⟩,⟨⟨_,_,c⟩,⟨_,_,d,E⟩,hr⟩,_,rfl,sm⟩
theorem apd: ∀ d:DataW H,1≤Rows.uptoBulk d:=by
 intro d;cases d with
 | lit l=>cases l <;> simp [Rows.uptoBulk]
 | _=>simp [Rows.uptoBulk]
theorem abK: ∀ a:List (DataW H),a.length≤Rows.uptoBulkAll a
 | []=>aO 0
 | d :: r=>by
  have:=apd d
  have:=abK r
  show r.length+1≤Rows.uptoBulk d+Rows.uptoBulkAll r;omega
theorem ag5 {d:DataW H}: ∀ {a:List (DataW H)},d ∈ a→Rows.uptoBulk d≤Rows.uptoBulkAll a
 | e :: r,h=>by
  show _≤Rows.uptoBulk e+Rows.uptoBulkAll r;rcases cO.1 h with rfl | h
  ·omega
  ·have:=ag5 h;omega
theorem ag6 {D:Nat→DataW H}: ∀ {l:List Nat},(∀ i ∈ l,2≤Rows.uptoBulk (D i))→2*l.length≤Rows.uptoBulkAll (l.map D)
 | [],_=>aO 0
 | i :: r,h=>by
  have a:=h i Oa;have b:=ag6 (D:=D) (l:=r) (fun k hk=>h k (LX _ hk));show 2*(r.length+1)≤Rows.uptoBulk (D i)+Rows.uptoBulkAll (r.map D);omega
theorem alH {g o n:Nat} {spot:Option Nat} {cs:List Value} (hn:cs.length=n) (h0:0<n) (h:w.cells? 0 ⟨g,o,spot⟩ n=some cs):(spot=none→w.rangeAt g o cs)∧g<w.heap.size:=by
 refine ⟨fun hs=> ?_,World.cells?_block h h0⟩;subst hs;intro j v hj;unfold World.cells? at h;rw [au (lX _)] at h;have b:j<n:=by
  rcases J8 j n with a | a
  ·exact a
  ·rw [eG om] at hj;cases hj
 have:=mapM_some_get h j j (by rw [yR b])
 have e:(Addr.add ⟨g,o,none⟩ j)=⟨g,o+j,none⟩:=by
  unfold Addr.add;split
  ·simp
  ·rfl
 rw [e] at this;rw [this,hj]
theorem apq:Tryz.prog.cellsOf 80=6:=kr
theorem atH {fuel:Nat} {a:Option Addr} {len cap:Nat} {x:DataW H × List MemPlace} (h:DataW.trod enc Tryz.prog w 0 (fun _=>true) true fuel 22 [.slice a len cap]=some x):
  ∃ ops:Nat→lM,abr w a len ops∧2*len≤Rows.uptoBulk x.1∧ ∀ i,i<len→abp enc w (fun _=>true) (Rows.uptoBulk x.1) (ops i):=by
 rcases open_slice Tryz.underlying22 h with ⟨hc,rfl⟩ | ⟨b,t,u,m,n,D,G,hc,_,I,hm,p,rfl,q⟩
 ·obtain ⟨rfl,rfl,rfl⟩:a=none∧len=0∧cap=0:=by simpa using hc
  exact ⟨fun _=>zo,⟨fun h0=>om,fun i hi=>om,fun i hi=>om⟩,om,fun i hi=>om⟩
 ·obtain ⟨rfl,rfl,rfl⟩:a=some b∧len=t∧cap=u:=by simpa using hc
  simp only [xk] at p;subst p;rw [apq] at q;have each: ∀ i,i<m→ ∃ o:lM,w.cells? 0 (b.add (i*6)) 6=some (dI o)∧o.Fits∧(o.text.size≤maxLen∧o.name.size≤maxLen)∧2≤Rows.uptoBulk (D i)∧abp enc w (fun _=>true) (Rows.uptoBulk (D i)) o:=by
   intro i hi;obtain ⟨cs,d,e⟩:=q i hi;obtain ⟨o,rfl,A,B,v,j,C,J⟩:=atG e;refine ⟨o,d,A,B,?_,v⟩;have z:D i= .agg j:=C;rw [z]
   have:=abK j
   show 2≤Rows.uptoBulkAll j+1;omega
  have:Inhabited lM:=⟨zo⟩
  obtain ⟨ops,c⟩:=choose_lt each;obtain ⟨g,o,spot⟩:=b;refine ⟨ops,⟨fun h0=> ?_,fun i hi=>(c i om).2.1,fun i hi=>(c i om).2.2.1⟩,?_,fun i hi=> ?_⟩
  ·have d:=(c 0 om).1;have s:spot=none:=by
    have e:=d;unfold World.cells? at e;rw [au (lX _)] at e;have E:=mapM_some_get e 0 0 rfl;simpa [Addr.add] using afE (E.trans (rfl:(dI (ops 0))[0]? = some _))
   subst s;have k: ∀ i,Addr.add ⟨g,o,none⟩ (i*6)=⟨g,o+i*6,none⟩:=by
    intro i;unfold Addr.add;split
    ·simp
    ·rfl
   refine ⟨g,o,rfl,?_,fun i hi=> ?_⟩
   ·rw [k] at d;exact (alH (n:=6) rfl dc d).2
   ·have r:=(c i om).1;rw [k] at r;exact (alH (n:=6) rfl dc r).1 rfl
  ·have F:=ag6 (D:=D) (l:=List.range len) (fun i hi=>(c i (by have:=G9.1 hi;omega)).2.2.2.1);rw [Wq] at F;show 2*len≤Rows.uptoBulkAll ((List.range len).map D)+Rows.uptoBulkAll _+1;omega
  ·obtain ⟨s1,⟨f,y,s2,s3⟩,s4⟩:=(c i om).2.2.2.2;have K:=ag5 (List.mem_map_of_mem (f:=D) (G9.2 hi));refine ⟨s1,⟨f,y,s2,?_⟩,s4⟩;show _≤Rows.uptoBulkAll ((List.range len).map D)+Rows.uptoBulkAll _+1;omega
end
section
variable {H:Type} {enc:TypeId × Value→H} {w:World}
theorem av1 {a:Addr} {x:Value} (h:w.cell? (a.add 0)=some x):a.spot=none:=by
 have:=afE h
 unfold Addr.add at this;rw [au rfl] at this;exact this
theorem apo {g o i:Nat} {x:Value} (h:w.cell? (Addr.add ⟨g,o,none⟩ i)=some x):w.cell? ⟨g,o+i,none⟩=some x:=by
 rw [aaP] at h;exact h
theorem ahg {a:Addr} {x:Value} (h:w.cell? a=some x):a.block<w.heap.size:=by
 rcases J8 a.block w.heap.size with y | y
 ·exact y
 ·unfold World.cell? at h;rw [Qj y] at h;cases h
theorem atJ {fuel:Nat} {a:Option Addr} {len cap:Nat} {sp:Nat→Bool} {x:DataW H × List MemPlace} (h:DataW.trod enc Tryz.prog w 0 sp true fuel 34 [.slice a len cap]=some x):
  ∃ d:Nat→ByteArray,Ov w a len d∧len≤maxLen:=by
 rcases open_slice1 Tryz.underlying34 adU h with ⟨hc,rfl⟩ | ⟨b,e,f,m,n,V,D,v,hc,_,y,hm,j,rfl,k⟩
 ·obtain ⟨rfl,rfl,rfl⟩:a=none∧len=0∧cap=0:=by simpa using hc
  exact ⟨fun _=> .empty,⟨fun h0=>om,fun i hi=>om⟩,lX _⟩
 ·obtain ⟨rfl,rfl,rfl⟩:a=some b∧len=e∧cap=f:=by simpa using hc
  have u:len≤m:=by rw [j];split <;> omega
  have each: ∀ i,i<len→ ∃ s:ByteArray,w.cell? (b.add i)=some (.string s)∧s.size≤maxLen:=by
   intro i hi;obtain ⟨r,t⟩:=k i om;obtain ⟨s,hs,_,l⟩:=afD kr t;obtain p:V i= .string s:=by simpa using hs
   exact ⟨s,by rw [r,p],l⟩
  have:Inhabited ByteArray:=⟨.empty⟩
  obtain ⟨d,c⟩:=choose_lt each;obtain ⟨g,o,spot⟩:=b;refine ⟨d,⟨fun h0=> ?_,fun i hi=>(c i hi).2⟩,om⟩;have q:spot=none:=av1 (c 0 h0).1;subst q;refine ⟨g,o,rfl,?_,fun i hi=>apo (c i hi).1⟩
  have:=ahg (c 0 h0).1
  rw [aaP] at this;exact this
end
theorem att:Tryz.prog.cellsOf 4=1:=kr
theorem atE {H:Type} {enc:TypeId × Value→H} {w:World} {fuel:Nat} {a:Option Addr} {len cap:Nat} {x:DataW H × List MemPlace} (h:DataW.trod enc Tryz.prog w 0 (fun _=>true) true fuel 57 [.slice a len cap]=some x):
  ∃ gs:Nat→Bool,MF w a len gs∧len≤Rows.uptoBulk x.1:=by
 rcases open_slice1 Tryz.underlying57 att h with ⟨hc,rfl⟩ | ⟨b,e,f,m,n,V,D,y,hc,_,z,hm,j,rfl,k⟩
 ·obtain ⟨rfl,rfl,rfl⟩:a=none∧len=0∧cap=0:=by simpa using hc
  exact ⟨fun _=>false,⟨fun h0=>om⟩,lX _⟩
 ·obtain ⟨rfl,rfl,rfl⟩:a=some b∧len=e∧cap=f:=by simpa using hc
  have v:len≤m:=by rw [j];split <;> omega
  have each: ∀ i,i<len→ ∃ s:Bool,w.cell? (b.add i)=some (.bool s):=by
   intro i hi;obtain ⟨q,r⟩:=k i om;obtain ⟨s,hs,_⟩:=DataW.trod_bool kr r;obtain l:V i= .bool s:=by simpa using hs
   exact ⟨s,by rw [q,l]⟩
  have:Inhabited Bool:=⟨false⟩
  obtain ⟨t,c⟩:=choose_lt each;obtain ⟨g,o,spot⟩:=b;refine ⟨t,⟨fun h0=> ?_⟩,?_⟩
  ·have p:spot=none:=by
    have:=afE (c 0 h0)
    unfold Addr.add at this;rw [au rfl] at this;exact this
   subst p;have d:=ahg (c 0 h0);rw [aaP] at d;exact ⟨g,o,rfl,d,fun i hi=>by have:=c i hi;rw [aaP] at this;exact this⟩
  ·have u:=abK ((List.range len).map D);rw [tY,Wq] at u;show len≤Rows.uptoBulkAll ((List.range len).map D)+Rows.uptoBulkAll _+1;omega
end Go.Proofs.YtknjjjenklfeoaaGreatDoor
namespace Go.Proofs.YtknjjjenklfeoaaGreatDoor.Cuts
open Go.ChangeShapes Go.WideShapes Go.ChangeAt Go.RowKit Go.Deep
theorem awZ:((Tryz.f8.params.toList).all fun t=>decide (t<Tryz.prog.types.size))=true:=kr
theorem apW (H:Type) (enc:TypeId × Value→H) (W:World) (base:Nat) (args:Array Value) (m gs:List (DataW H)) (before:List MemPlace)
  (s: ∀ (j:Nat) t v,Tryz.f8.params[j]? = some t→args[j]? = some v→Value.okWide Tryz.prog W .any base t v)
  (z:DataW.Whole enc Tryz.prog Tryz.f8.params.toList Rows.cutsSpec.vars false W args.toList m gs before)
  (D:Rows.uptoSmall H (m++gs)=true) (I:oN W):
  Calls Tryz.prog 8 args W fun e A=> ∃ v,e= .returned v∧Rows.cutsSpec.post enc Tryz.prog Tryz.f8 false true false false W args v A:=by
 have k:=z;obtain ⟨p,q,E,J,rfl,R,S⟩:=z;have u:DataW.TrodAll enc Tryz.prog W 0 (fun _=>true) true Tryz.f8.params.toList args.toList m p:=E;have B:=u;rw [Tryz.params8] at B s;obtain ⟨v0,d,rfl,rfl,h0⟩:=trodAll_one B;obtain ⟨rfl,rfl⟩:=trodVars_none J;obtain ⟨a,len,cap,rfl⟩:=okWide_slice Tryz.underlying22 (s 0 22 v0 rfl rfl);obtain ⟨fuel,K⟩:=h0;obtain ⟨ops,hs,L,F⟩:=atH K;have T:Rows.uptoBulk d≤1048576:=by
  have X:Rows.uptoBulkAll ([d]++[])≤1048576:=by simpa [Rows.uptoSmall] using D
  have Y:Rows.uptoBulk d≤Rows.uptoBulkAll ([d]++[]):=afA _ _;omega
 have hlen:len≤1048000:=by
  have U:2*len≤Rows.uptoBulk d:=L;omega
 simp only [sN] at k;have G: ∀ i,i<len→Ou W (ops i):=fun i hi=>by
  obtain ⟨⟨_,_,n⟩,⟨_,y,o,M⟩,N⟩:=F i hi;have V:Rows.uptoBulk y.1≤Rows.uptoBulk d:=M;refine ⟨⟨hs.text i hi,I,?_⟩,N,?_⟩
  ·rcases open_slice Tryz.underlying34 n with ⟨hc,_⟩ | ⟨b,l,c,_,_,_,_,hc,_⟩
   all_goals
    have f:=List.singleton_inj.1 hc;rw [f] at n;obtain ⟨O,r,C⟩:=atJ n;exact ⟨_,_,_,O,f,r,C⟩
  ·rcases open_slice Tryz.underlying57 o with ⟨hc,_⟩ | ⟨b,l,c,_,_,_,_,hc,_⟩
   all_goals
    have f:=List.singleton_inj.1 hc;rw [f] at o;obtain ⟨gs,r,C⟩:=atE o;exact ⟨_,_,_,gs,f,r,om⟩
 refine (ap8 W a len cap ops hs G hlen).mono fun e A ⟨he,hB⟩=> ?_;subst he;have P: ∀ t ∈ Tryz.f8.params.toList,t<Tryz.prog.types.size:=fun t Q=>aaO (Tq.1 awZ t Q);have hold: ∀ x ∈ p,(fun b=>decide (b<W.heap.size)) x.block=true:=fun x g=>by simpa using k.lt x (by simpa using g)
 refine ⟨_,rfl,[d],[],p,[],p,[],k,?_,?_,rfl,World.keptBut_mono (fun x g=>⟨g,ay (aA g)⟩) (hB.frame _),fun h=>by cases h⟩
 ·exact trodAll_cons_mk (shut_bool kr _) trodAll_mk0
 ·exact Row1.amT Row1.shut hB P u hold
end Go.Proofs.YtknjjjenklfeoaaGreatDoor.Cuts
namespace Go.Proofs.YtknjjjenklfeoaaGreatDoor.Wit
open Go.RowKit
theorem own:ownKnob Tryz.prog.godebug=none:=kr
def low (P:Program):Nat:=(World.holding P default ⟨#[],#[],[]⟩).heap.size
def awz:DataW Unit→List UInt8
 | .iface _ (.ptr (.agg [.lit (.string s)]))=>s
 | _=>[]
def cellOf (d:DataW Unit):Obj:= .cells #[.string ⟨(awz d).toArray⟩] 287
def lay (h:Array Obj) (g:Nat) (v:Value):Array Obj:=h.modify g fun
 | .cells _ t frozen=> .cells #[v] t frozen
 | o=>o
def err (P:Program) (k:Nat):Value:= .iface 267 (.pointer (some ⟨low P+k,0,none⟩))
def Ve (P:Program) (os:Os):World:=
 let a:=World.holding P os ⟨#[cellOf Rows.laid_vellum_volume_errLength,cellOf Rows.laid_vellum_volume_errHead,cellOf Rows.laid_vellum_volume_errList,cellOf Rows.laid_vellum_volume_errCount,cellOf Rows.laid_vellum_volume_errMark,cellOf Rows.laid_vellum_volume_errNowhere,cellOf Rows.laid_vellum_volume_errTwice,cellOf Rows.laid_vellum_volume_errBehind],#[],[]⟩
 let h0:=lay a.heap 0 (err P 0)
 let b:=lay h0 1 (err P 1)
 let c:=lay b 2 (err P 2)
 let d:=lay c 3 (err P 3)
 let e:=lay d 4 (err P 4)
 let f:=lay e 5 (.iface 246 (.agg #[.pointer (some ⟨10,98,none⟩)]))
 let g:=lay f 6 (err P 5)
 let h:=lay g 7 (err P 6)
 let i:=lay h 8 (err P 7)
 { a with heap:=i }
theorem ar6 (os:Os) (args:Array Value):laidMetH Tryz.prog Rows.blocksUptoRow.laid ((Ve Tryz.prog os).forCall (fun _ _=>0) ⟨#[],args,[]⟩).memory:=
 laidMetH_of_parts (laidMet_of_run' 8 kr kr) kr
theorem refs (os:Os) (args:Array Value):((Ve Tryz.prog os).forCall (fun _ _=>0) ⟨#[],args,[]⟩).variablesRefB Tryz.prog=true:=kr
theorem rows (os:Os) (args:Array Value):(((Ve Tryz.prog os).forCall (fun _ _=>0) ⟨#[],args,[]⟩).heap.toList.drop Tryz.prog.globals.size).take ((begin Tryz.prog (fun _ _=>0) default).world.heap.size - Tryz.prog.globals.size)=
   (begin Tryz.prog (fun _ _=>0) default).world.heap.toList.drop Tryz.prog.globals.size:=kr
end Go.Proofs.YtknjjjenklfeoaaGreatDoor.Wit
namespace Go.Proofs.YtknjjjenklfeoaaGreatDoor.Cuts
open Go.ChangeShapes Go.WideShapes Go.ChangeAt Go.RowKit
theorem reads (os:Os) {H:Type} (enc:TypeId × Value→H):
  DataW.whole enc Tryz.prog ((Wit.Ve Tryz.prog os).forCall (fun _ _=>0) ⟨#[],#[.slice none 0 0],[]⟩).memory Tryz.f8.params.toList Rows.cutsSpec.vars false #[Value.slice none 0 0].toList 8=some ([.nil],[],[]):=kr
theorem ash (os:Os) (started:os.Started) (H:Type) (enc:TypeId × Value→H) (F:Stop.Interp):
  ReturnsInHanded {} Tryz.checked os 8 .any ((Rows.OpenSpec.upto Rows.cutsSpec).preRow enc Tryz.prog Tryz.f8 Rows.cutsUptoRow.domain false Rows.cutsUptoRow.laid) (((Rows.OpenSpec.upto Rows.cutsSpec).at F).post enc Tryz.prog Tryz.f8 false true false false):=by
 refine returnsInHanded_of_row (C:=Tryz.checked) (s:=Rows.OpenSpec.upto Rows.cutsSpec) Wit.own started kr Tryz.func8
  (witness_row_atRef (enc:=enc) (C:=Tryz.checked) false (Wit.Ve Tryz.prog os) #[.slice none 0 0] rfl (Wit.refs os _) (Wit.rows os _) kr
   (OpenSpec.preRow_of_cond 8 (reads os enc) kr (fun k hk=>by cases hk;kernel_rfl) kr (Wit.ar6 os _))) ?_
 intro W base args d gs before c e _ a _ b _ _;exact apW H enc W base args d gs before c e (a _ rfl) (aqT b)
theorem avD:Rows.CutsUptoSaid:=
 OpenClaim.holds_of_cond 8 Tryz.f8 rfl rfl rfl rfl rfl rfl rfl ⟨rfl,rfl,rfl,rfl,rfl⟩ rfl rfl rfl rfl rfl kr Tryz.func8 kr
  (aaO kr) (by unfold Func.isWrapper;first | (rw [au (by decide +kernel)];kernel_rfl) | (rw [ak (by decide +kernel)];exact ⟨rfl,rfl⟩))
  (fun os started H enc _ F=>by rw [OpenClaim.pre_eq_preRow];exact ash os started H enc F)
theorem plain (f:FuncId) (fn:Func) (c:Tryz.pinned.checked.prog.funcNamed Rows.cutsUptoRow.func=some f) (b:Tryz.pinned.checked.prog.funcs[f]? = some fn):
  true=Tryz.pinned.checked.prog.looks []∧ ∀ (j:Nat) t,fn.params[j]? = some t→Tryz.pinned.checked.prog.wantsStandIn t=false:=by
 obtain rfl:f=8:=Tj ((show Tryz.prog.funcNamed Rows.cutsUptoRow.func=some 8 by kernel_rfl).symm.trans c) |>.symm;obtain rfl:fn=Tryz.f8:=(Tj (Tryz.func8.symm.trans b)).symm;refine ⟨kr,fun j t a=> ?_⟩;rw [Tryz.params8] at a;obtain rfl:t=22:=by simpa using Array.mem_of_getElem? a
 exact (show Tryz.prog.wantsStandIn 22=false by kernel_rfl)
theorem apn:Rows.CutsUptoCardSaid:=
 Claim7.holds_tied_plain_at .later [] _ _ _ _ avD (fun _ h=>by cases h) kr (fun _ h=>by cases h) cutsUpto_row_tie rfl ⟨rfl,rfl⟩ kr rfl plain kr
end Go.Proofs.YtknjjjenklfeoaaGreatDoor.Cuts
namespace Go.Proofs.YtknjjjenklfeoaaGreatDoor
theorem cuts_upto_card:Rows.CutsUptoCardSaid:=Cuts.apn
end Go.Proofs.YtknjjjenklfeoaaGreatDoor
